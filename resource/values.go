package resource

import (
	"slices"

	"majordomo/api"
	"majordomo/layout"
	"majordomo/tables"
)

// fileTitle leaves out the paths below which a host keeps its tables and its own state.
func fileTitle(s string) bool {
	names, e := layout.Path(s)
	return e == api.OK && len(names) > 0 && names[0] != "tab" && names[0] != "run"
}

func path(s string) bool {
	_, e := layout.Path(s)
	return e == api.OK
}

// key and word ask a table of one cell, as keys and words are what its rows take.
func key(s string) bool { return fits(s, "") }

func word(s string) bool { return fits("k", s) }

func fits(asKey, asCell string) bool {
	return tables.Check(api.TabGroups, api.Row{Key: asKey, Cells: []string{asCell}}) == api.OK
}

func fullWord(s string) bool { return s != "" && word(s) }

func text(s string) bool { return len(s) <= api.MaxText }

func id(s string) bool { return len(s) >= 1 && len(s) <= 5 && digits(s, '9') }

func mode(s string) bool { return len(s) == 4 && s[0] == '0' && digits(s, '7') }

// digits tells whether a text has digits alone, none of them above the last one.
func digits(s string, last byte) bool {
	for i := range len(s) {
		if s[i] < '0' || s[i] > last {
			return false
		}
	}
	return true
}

func oneOf(values ...string) func(string) bool {
	return func(s string) bool { return slices.Contains(values, s) }
}
