package value

import (
	"strconv"

	"majordomo/api"
)

// reckoning is an evaluation under way, of nodes that printer.Check accepts.
type reckoning struct {
	nodes []api.Tree
	env   []api.Bind
	steps int
}

// value is what a node comes to.
func (r *reckoning) value(i int) (api.Value, api.Errno) {
	r.steps++
	n := r.nodes[i]
	switch n.Kind {
	case api.TreeText:
		return text(n.Text)
	case api.TreeMixed:
		return r.mixed(n.Text)
	case api.TreeNumber:
		return number(n.Text)
	case api.TreeVar:
		return r.variable(n.Text)
	case api.TreeTrue, api.TreeFalse:
		return truth(n.Kind == api.TreeTrue), api.OK
	case api.TreeNot:
		return r.not(n)
	}
	return r.operator(n)
}

func text(s string) (api.Value, api.Errno) {
	if len(s) > api.MaxText {
		return api.Value{}, api.ErrLong
	}
	return api.Value{Kind: api.ValText, Text: s}, api.OK
}

func (r *reckoning) mixed(s string) (api.Value, api.Errno) {
	s, e := Mixed(s, r.env)
	if e != api.OK {
		return api.Value{}, e
	}
	return text(s)
}

// number is that of some digits: they are nine at most, or no node of a tree.
func number(digits string) (api.Value, api.Errno) {
	n, err := strconv.Atoi(digits)
	if err != nil {
		return api.Value{}, api.ErrArg
	}
	return api.Value{Kind: api.ValNumber, N: n}, api.OK
}

func (r *reckoning) variable(name string) (api.Value, api.Errno) {
	v, is := find(r.env, name)
	if !is {
		return api.Value{}, api.ErrVar
	}
	return v, api.OK
}

func truth(yes bool) api.Value { return api.Value{Kind: api.ValBool, Yes: yes} }

// condition is what a node comes to that is to be true or false.
func (r *reckoning) condition(i int) (bool, api.Errno) {
	v, e := r.value(i)
	if e != api.OK {
		return false, e
	}
	if v.Kind != api.ValBool {
		return false, api.ErrValue
	}
	return v.Yes, api.OK
}

func (r *reckoning) not(n api.Tree) (api.Value, api.Errno) {
	yes, e := r.condition(n.L[0])
	if e != api.OK {
		return api.Value{}, e
	}
	return truth(!yes), api.OK
}

// operator is what two values come to. An operator that is another one turned round says so, and falls through to it.
func (r *reckoning) operator(n api.Tree) (api.Value, api.Errno) {
	turned := false
	switch n.Text {
	case "!=":
		turned = true
		fallthrough
	case "==":
		return r.equal(n.L[0], n.L[1], turned)
	case "or":
		turned = true
		fallthrough
	default:
		return r.both(n.L[0], n.L[1], turned)
	}
}

// equal tells whether two nodes come to the same; turned: whether they do not.
func (r *reckoning) equal(first, second int, turned bool) (api.Value, api.Errno) {
	a, e := r.value(first)
	if e != api.OK {
		return api.Value{}, e
	}
	b, e := r.value(second)
	if e != api.OK {
		return api.Value{}, e
	}
	return truth(Same(a, b) != turned), api.OK
}

// both tells whether both nodes are true; turned: the same with true and false in each other's place, which is whether one of them is. A first one that settles it spares the second.
func (r *reckoning) both(first, second int, turned bool) (api.Value, api.Errno) {
	yes, e := r.condition(first)
	if e == api.OK && yes != turned {
		yes, e = r.condition(second)
	}
	if e != api.OK {
		return api.Value{}, e
	}
	return truth(yes), api.OK
}
