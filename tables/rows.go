package tables

import "majordomo/api"

// Get looks a key up; Set sets a row; Drop takes one away.
func Get(l []api.Row, key string) (api.Row, bool) {
	for _, r := range l {
		if r.Key == key {
			return copyRow(r), true
		}
	}
	return api.Row{}, false
}

func Set(l []api.Row, r api.Row) []api.Row {
	others := Drop(l, r.Key)
	at := placeFor(others, r.Key)
	out := make([]api.Row, len(others)+1)
	copy(out, others[:at])
	out[at] = copyRow(r)
	copy(out[at+1:], others[at:])
	return out
}

func Drop(l []api.Row, key string) []api.Row {
	var out []api.Row
	for _, r := range l {
		if r.Key != key {
			out = append(out, copyRow(r))
		}
	}
	return out
}

// placeFor is the place of the first row with a greater key; l need not be sorted.
func placeFor(l []api.Row, key string) int {
	for i, r := range l {
		if r.Key > key {
			return i
		}
	}
	return len(l)
}

// copyRow is r with cells of its own, so that an answer shares none with an argument; rows without cells stay so.
func copyRow(r api.Row) api.Row {
	if r.Cells == nil {
		return r
	}
	cells := make([]string, len(r.Cells))
	copy(cells, r.Cells)
	r.Cells = cells
	return r
}
