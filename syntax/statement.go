package syntax

import (
	"strings"

	"majordomo/api"
	"majordomo/lexer"
)

func (p *parser) manifest() int {
	var l []int
	for p.at < len(p.words) {
		l = append(l, p.statement())
	}
	return p.node(api.TreeBlock, "", l...)
}

func (p *parser) block() int {
	p.sign("{")
	var l []int
	for !p.took(api.WordSign, "}") {
		l = append(l, p.statement())
	}
	return p.node(api.TreeBlock, "", l...)
}

func (p *parser) statement() int {
	read := p.reader(p.word())
	return read()
}

// reader is what reads the statement that begins with a word.
func (p *parser) reader(w api.Word) func() int {
	switch w.Kind {
	case api.WordVar:
		return p.set
	case api.WordType:
		return p.chain
	case api.WordName:
		return p.named(w.Text)
	}
	return p.refuse
}

// named is what reads the statement that begins with a name, or with a keyword.
func (p *parser) named(text string) func() int {
	switch text {
	case "class":
		return p.class
	case "define":
		return p.define
	case "include":
		return p.include
	case "if":
		return p.condition
	}
	return p.resource // which refuses the other keywords
}

func (p *parser) class() int { return p.declaration(api.TreeClass) }

func (p *parser) define() int { return p.declaration(api.TreeDefine) }

func (p *parser) declaration(kind int) int {
	p.at++
	name := p.name()
	var below []int
	if p.took(api.WordSign, "(") {
		below = p.listed(p.param, ")")
	}
	return p.node(kind, name, append(below, p.block())...)
}

func (p *parser) param() int {
	name := p.take(api.WordVar)
	if !p.took(api.WordSign, "=") {
		return p.node(api.TreeParam, name)
	}
	return p.node(api.TreeParam, name, p.value())
}

func (p *parser) include() int {
	p.at++
	return p.node(api.TreeInclude, p.name())
}

func (p *parser) set() int {
	name := p.take(api.WordVar)
	p.sign("=")
	return p.node(api.TreeSet, name, p.value())
}

func (p *parser) condition() int {
	p.at++
	below := []int{p.value(), p.block()}
	if p.took(api.WordName, "else") {
		below = append(below, p.block())
	}
	return p.node(api.TreeIf, "", below...)
}

func (p *parser) resource() int {
	name := p.name()
	p.sign("{")
	title := p.value()
	p.sign(":")
	below := append([]int{title}, p.listed(p.attr, "}")...)
	return p.node(api.TreeResource, name, below...)
}

func (p *parser) attr() int {
	if strings.Contains(p.word().Text, ":") {
		p.refuse()
	}
	name := p.take(api.WordName)
	p.sign("=>")
	return p.node(api.TreeAttr, name, p.value())
}

func (p *parser) chain() int {
	below := []int{p.ref(), p.arrow(), p.ref()}
	for p.atArrow() {
		below = append(below, p.arrow(), p.ref())
	}
	return p.node(api.TreeChain, "", below...)
}

func (p *parser) ref() int {
	name := p.take(api.WordType)
	p.sign("[")
	title := p.value()
	p.sign("]")
	return p.node(api.TreeRef, name, title)
}

func (p *parser) arrow() int {
	if !p.atArrow() {
		p.refuse()
	}
	return p.node(api.TreeArrow, p.take(api.WordSign))
}

func (p *parser) atArrow() bool {
	w := p.word()
	return w.Kind == api.WordSign && (w.Text == "->" || w.Text == "~>")
}

// name takes a name that is no keyword.
func (p *parser) name() string {
	if lexer.Keyword(p.word().Text) {
		p.refuse()
	}
	return p.take(api.WordName)
}
