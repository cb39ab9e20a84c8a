package printer

import "majordomo/api"

// kinds is the kinds of the nodes below a node, in order.
type kinds []int

func kindsOf(nodes []api.Tree, l []int) kinds {
	k := make(kinds, len(l))
	for i, below := range l {
		k[i] = nodes[below].Kind
	}
	return k
}

func (k kinds) none() bool { return len(k) == 0 }

func (k kinds) statements() bool { return k.all(isStatement) }

func (k kinds) declaration() bool {
	last := len(k) - 1
	return last >= 0 && k[:last].all(isParam) && isBlock(k[last])
}

func (k kinds) param() bool { return k.none() || k.value() }

func (k kinds) value() bool { return len(k) == 1 && isValue(k[0]) }

func (k kinds) operands() bool { return len(k) == 2 && k.all(isValue) }

func (k kinds) condition() bool {
	return (len(k) == 2 || len(k) == 3) && isValue(k[0]) && k[1:].all(isBlock)
}

func (k kinds) resource() bool {
	return len(k) > 0 && isValue(k[0]) && k[1:].all(isAttr)
}

func (k kinds) chain() bool {
	for i, kind := range k {
		want := api.TreeRef
		if i%2 == 1 {
			want = api.TreeArrow
		}
		if kind != want {
			return false
		}
	}
	return len(k) >= 3 && len(k)%2 == 1
}

func (k kinds) all(is func(kind int) bool) bool {
	for _, kind := range k {
		if !is(kind) {
			return false
		}
	}
	return true
}

func isStatement(kind int) bool {
	switch kind {
	case api.TreeClass, api.TreeDefine, api.TreeInclude, api.TreeSet, api.TreeIf, api.TreeResource, api.TreeChain:
		return true
	}
	return false
}

func isValue(kind int) bool { return kind >= api.TreeText && kind <= api.TreeNot }

func isBlock(kind int) bool { return kind == api.TreeBlock }

func isParam(kind int) bool { return kind == api.TreeParam }

func isAttr(kind int) bool { return kind == api.TreeAttr }
