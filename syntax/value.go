package syntax

import (
	"slices"

	"majordomo/api"
)

func (p *parser) value() int { return p.joined(p.both, api.WordName, "or") }

func (p *parser) both() int { return p.joined(p.equal, api.WordName, "and") }

func (p *parser) equal() int { return p.joined(p.plain, api.WordSign, "==", "!=") }

// joined is parts with operators between them, each of which joins all that is ahead of it to the part behind it.
func (p *parser) joined(part func() int, kind int, operators ...string) int {
	left := part()
	for w := p.word(); w.Kind == kind && slices.Contains(operators, w.Text); w = p.word() {
		p.at++
		right := part()
		left = p.node(api.TreeOp, w.Text, left, right)
	}
	return left
}

func (p *parser) plain() int {
	switch p.word().Kind {
	case api.WordText:
		return p.leaf(api.TreeText)
	case api.WordMixed:
		return p.leaf(api.TreeMixed)
	case api.WordNumber:
		return p.leaf(api.TreeNumber)
	case api.WordVar:
		return p.leaf(api.TreeVar)
	}
	return p.other()
}

// leaf is a node of its own for the next word, with its text.
func (p *parser) leaf(kind int) int {
	return p.node(kind, p.take(p.word().Kind))
}

// other is a plain that begins with a sign or a keyword.
func (p *parser) other() int {
	switch {
	case p.took(api.WordSign, "!"):
		return p.node(api.TreeNot, "", p.plain())
	case p.took(api.WordSign, "("):
		inside := p.value()
		p.sign(")")
		return inside
	case p.took(api.WordName, "true"):
		return p.node(api.TreeTrue, "")
	case p.took(api.WordName, "false"):
		return p.node(api.TreeFalse, "")
	}
	return p.refuse()
}
