package printer

import "majordomo/api"

// rule is what may be a node's Text, and the kinds of the nodes below it.
type rule struct {
	text  func(label) bool
	below func(kinds) bool
}

// ruleOf is the rule of a kind of nodes; is: there is such a kind.
func ruleOf(kind int) (r rule, is bool) {
	switch kind {
	case api.TreeBlock:
		return rule{label.none, kinds.statements}, true
	case api.TreeClass, api.TreeDefine:
		return rule{label.name, kinds.declaration}, true
	case api.TreeParam:
		return rule{label.variable, kinds.param}, true
	case api.TreeInclude:
		return rule{label.name, kinds.none}, true
	case api.TreeSet:
		return rule{label.variable, kinds.value}, true
	case api.TreeIf:
		return rule{label.none, kinds.condition}, true
	case api.TreeResource:
		return rule{label.name, kinds.resource}, true
	case api.TreeAttr:
		return rule{label.attr, kinds.value}, true
	case api.TreeChain:
		return rule{label.none, kinds.chain}, true
	case api.TreeRef:
		return rule{label.kind, kinds.value}, true
	case api.TreeArrow:
		return rule{label.arrow, kinds.none}, true
	}
	return ruleOfValue(kind)
}

// ruleOfValue is the rule of a kind of values.
func ruleOfValue(kind int) (r rule, is bool) {
	switch kind {
	case api.TreeText:
		return rule{label.text, kinds.none}, true
	case api.TreeMixed:
		return rule{label.mixed, kinds.none}, true
	case api.TreeNumber:
		return rule{label.number, kinds.none}, true
	case api.TreeVar:
		return rule{label.variable, kinds.none}, true
	case api.TreeTrue, api.TreeFalse:
		return rule{label.none, kinds.none}, true
	case api.TreeOp:
		return rule{label.operator, kinds.operands}, true
	case api.TreeNot:
		return rule{label.none, kinds.value}, true
	}
	return rule{}, false
}

// sound tells whether a node is as the rule of its kind asks.
func sound(nodes []api.Tree, n api.Tree) bool {
	r, is := ruleOf(n.Kind)
	return is && r.below(kindsOf(nodes, n.L)) && r.text(label(n.Text))
}
