package printer

import (
	"strings"

	"majordomo/api"
)

// page is what is laid of a text, and how many blocks its end is in.
type page struct {
	nodes  []api.Tree
	text   strings.Builder
	blocks int
}

// laid is the text that lay lays of nodes.
func laid(nodes []api.Tree, lay func(*page)) string {
	p := page{nodes: nodes}
	lay(&p)
	return p.text.String()
}

func (p *page) put(parts ...string) {
	for _, s := range parts {
		p.text.WriteString(s)
	}
}

// line ends a line, and begins the next one as far in as the blocks ask. Line feeds within strings don't come here, so that nothing is laid behind them.
func (p *page) line() {
	p.put("\n", strings.Repeat("  ", p.blocks))
}

// within lays what is in a block.
func (p *page) within(lay func()) {
	p.blocks++
	lay()
	p.blocks--
}

// list lays nodes with a text between them.
func (p *page) list(l []int, between string) {
	for k, i := range l {
		if k > 0 {
			p.put(between)
		}
		p.node(i)
	}
}

func (p *page) node(i int) {
	n := p.nodes[i]
	switch n.Kind {
	case api.TreeBlock:
		p.block(n)
	case api.TreeClass:
		p.declaration("class ", n)
	case api.TreeDefine:
		p.declaration("define ", n)
	case api.TreeParam, api.TreeSet:
		p.variable(n)
	case api.TreeInclude:
		p.put("include ", n.Text)
	case api.TreeIf:
		p.condition(n)
	case api.TreeResource:
		p.resource(n)
	case api.TreeAttr:
		p.put(n.Text, " => ")
		p.node(n.L[0])
	case api.TreeChain:
		p.list(n.L, " ")
	case api.TreeRef:
		p.put(n.Text, "[")
		p.node(n.L[0])
		p.put("]")
	case api.TreeOp:
		p.put("(")
		p.list(n.L, " "+n.Text+" ")
		p.put(")")
	case api.TreeNot:
		p.put("!")
		p.node(n.L[0])
	default:
		p.put(leaf(n))
	}
}

// leaf is the text of a node that has none below it, and is one word.
func leaf(n api.Tree) string {
	switch n.Kind {
	case api.TreeText:
		return covered(api.WordText, n.Text)
	case api.TreeMixed:
		return covered(api.WordMixed, n.Text)
	case api.TreeVar:
		return covered(api.WordVar, n.Text)
	case api.TreeTrue:
		return "true"
	case api.TreeFalse:
		return "false"
	}
	return n.Text
}

func (p *page) block(n api.Tree) {
	p.put("{")
	p.within(func() {
		for _, i := range n.L {
			p.line()
			p.node(i)
		}
	})
	p.line()
	p.put("}")
}

func (p *page) declaration(keyword string, n api.Tree) {
	last := len(n.L) - 1
	p.put(keyword, n.Text)
	if last > 0 {
		p.put("(")
		p.list(n.L[:last], ", ")
		p.put(")")
	}
	p.put(" ")
	p.node(n.L[last])
}

// variable lays a variable and the value that it takes, if any.
func (p *page) variable(n api.Tree) {
	p.put(covered(api.WordVar, n.Text))
	if len(n.L) > 0 {
		p.put(" = ")
		p.node(n.L[0])
	}
}

func (p *page) condition(n api.Tree) {
	p.put("if ")
	p.node(n.L[0])
	p.put(" ")
	p.list(n.L[1:], " else ")
}

func (p *page) resource(n api.Tree) {
	p.put(n.Text, " { ")
	p.node(n.L[0])
	p.put(":")
	if len(n.L) > 1 {
		p.put(" ")
		p.list(n.L[1:], ", ")
	}
	p.put(" }")
}
