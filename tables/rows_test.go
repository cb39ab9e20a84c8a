package tables

import (
	"slices"
	"strconv"
	"strings"
	"testing"

	"majordomo/api"
)

func wantRows(t *testing.T, what string, got []api.Row, want ...api.Row) {
	t.Helper()
	if !sameRows(got, want) {
		t.Errorf("%s: %q; want %q", what, got, want)
	}
}

// lists is all lists of up to n rows with these keys; the cell of a row is its place, to tell rows of one key apart.
func lists(n int, keys ...string) [][]api.Row {
	out := [][]api.Row{nil}
	last := out
	for at := range n {
		var next [][]api.Row
		for _, l := range last {
			for _, key := range keys {
				next = append(next, append(deep(l), row(key, strconv.Itoa(at))))
			}
		}
		out = append(out, next...)
		last = next
	}
	return out
}

// P5.3: the first row with the key, or none.
func TestGet(t *testing.T) {
	l := []api.Row{row("b", "1"), row("a", "2"), row("b", "3"), row("", "4"), row("c"), row("a b:\n", "5", "6")}
	for key, want := range map[string]api.Row{"b": l[0], "a": l[1], "": l[3], "c": l[4], "a b:\n": l[5]} {
		if r, is := Get(l, key); !is || !sameRow(r, want) {
			t.Errorf("Get(%q): %q, %v; want %q", key, r, is, want)
		}
	}
	for _, key := range []string{"d", "A", "aa", "a ", "a\x00", "1", strings.Repeat("a", 100000)} {
		if r, is := Get(l, key); is || r.Key != "" || r.Cells != nil {
			t.Errorf("Get(%q): %q, %v", key, r, is)
		}
	}
	for _, l := range [][]api.Row{nil, {}} {
		if r, is := Get(l, ""); is || r.Key != "" || r.Cells != nil {
			t.Errorf("Get of no rows: %q, %v", r, is)
		}
	}
}

// P5.3: a row is set at the front, between, at the end, and in the place of one with its key.
func TestSet(t *testing.T) {
	a, b, c, x := row("a", "1"), row("b", "2"), row("c", "3"), row("b", "9", "8")
	wantRows(t, "no rows", Set(nil, b), b)
	wantRows(t, "no rows", Set([]api.Row{}, b), b)
	wantRows(t, "front", Set([]api.Row{b, c}, a), a, b, c)
	wantRows(t, "between", Set([]api.Row{a, c}, b), a, b, c)
	wantRows(t, "end", Set([]api.Row{a, b}, c), a, b, c)
	wantRows(t, "in place", Set([]api.Row{a, b, c}, x), a, x, c)
	wantRows(t, "the only one", Set([]api.Row{b}, x), x)
	wantRows(t, "no key", Set([]api.Row{a}, api.Row{}), api.Row{}, a)
	wantRows(t, "by bytes", Set([]api.Row{row("A"), row("_"), row("é")}, a), row("A"), row("_"), a, row("é"))
	wantRows(t, "the longer one", Set([]api.Row{row("a"), row("ab")}, row("aa")), row("a"), row("aa"), row("ab"))
	wantRows(t, "the shorter one", Set([]api.Row{row("a\x00"), row("a-")}, row("a")), row("a"), row("a\x00"), row("a-"))
	wantRows(t, "ahead of no key", Set([]api.Row{{}, row("\x00")}, api.Row{}), api.Row{}, row("\x00"))
}

// P5.3: in rows of any order, all with the key go, and the row stands ahead of the first greater one.
func TestSetInAnyOrder(t *testing.T) {
	a, b, c, d, x := row("a", "1"), row("b", "2"), row("c", "3"), row("d", "4"), row("b", "9")
	wantRows(t, "falling", Set([]api.Row{d, c, b, a}, x), x, d, c, a)
	wantRows(t, "mixed", Set([]api.Row{a, d, b, c, a}, x), a, x, d, c, a)
	wantRows(t, "twice", Set([]api.Row{b, a, b, c, b}, x), a, x, c)
	wantRows(t, "all", Set([]api.Row{b, b, b}, x), x)
	wantRows(t, "none greater", Set([]api.Row{b, a, a}, x), a, a, x)
	wantRows(t, "others twice", Set([]api.Row{c, a, c, a}, x), x, c, a, c, a)
	wantRows(t, "greater ahead", Set([]api.Row{c, b}, x), x, c)
}

// P5.3: all rows with the key go, the others stay as they are.
func TestDrop(t *testing.T) {
	a, b, c, x := row("a", "1"), row("b", "2"), row("c"), row("b", "9", "8")
	wantRows(t, "one", Drop([]api.Row{a, b, c}, "b"), a, c)
	wantRows(t, "two", Drop([]api.Row{x, c, b, a, a}, "b"), c, a, a)
	wantRows(t, "all", Drop([]api.Row{b, x}, "b"))
	wantRows(t, "no such", Drop([]api.Row{c, x, a, b}, "d"), c, x, a, b)
	wantRows(t, "no such", Drop([]api.Row{a, b}, "A"), a, b)
	wantRows(t, "part of a key", Drop([]api.Row{row("ab"), row("a"), row("")}, "a"), row("ab"), row(""))
	wantRows(t, "no key", Drop([]api.Row{a, {}, b}, ""), a, b)
	wantRows(t, "no rows", Drop(nil, "a"))
	wantRows(t, "no rows", Drop([]api.Row{}, ""))
}

// P5.3, P5.4: for all short lists and all keys, by the document's words.
func TestAllShortLists(t *testing.T) {
	for _, l := range lists(5, "a", "b", "c", "d") {
		for _, key := range []string{"", "a", "b", "bb", "c", "d", "e"} {
			r := row(key, "new", "")
			isKey := func(x api.Row) bool { return x.Key == key }
			others := slices.DeleteFunc(deep(l), isKey)
			at := slices.IndexFunc(others, func(x api.Row) bool { return x.Key > key })
			if at < 0 {
				at = len(others)
			}
			set := Set(l, r)
			wantRows(t, "Set", set, slices.Insert(deep(others), at, r)...)
			wantRows(t, "Drop", Drop(l, key), others...)
			wantRows(t, "Drop of Set", Drop(set, key), others...)
			wantRows(t, "Set again", Set(set, r), set...)
			if got, is := Get(set, key); !is || !sameRow(got, r) {
				t.Errorf("Get of Set: %q, %v; want %q", got, is, r)
			}
			first := slices.IndexFunc(l, isKey)
			got, is := Get(l, key)
			if is != (first >= 0) || is && !sameRow(got, l[first]) {
				t.Errorf("Get(%q, %q): %q, %v", l, key, got, is)
			}
		}
	}
}

// P5.3, P5.4: rows that are set in any order are a table.
func TestSetMakesATable(t *testing.T) {
	var l []api.Row
	for i := range 100 {
		l = Set(l, row("k"+strconv.Itoa(10+i*7%32), strconv.Itoa(i)))
	}
	b, e := Print("facts", l)
	if e != api.OK || len(l) != 32 {
		t.Fatalf("%q, %d", l, e)
	}
	got, e := Parse("facts", b)
	if e != api.OK || !sameRows(got, l) {
		t.Errorf("%q, %d; want %q", got, e, l)
	}
}

// R5: rows without cells stay without.
func TestNoCells(t *testing.T) {
	l := []api.Row{{Key: "a"}, {Key: "b", Cells: []string{}}}
	r, _ := Get(l, "a")
	if r.Cells != nil || Drop(l, "b")[0].Cells != nil || Set(l, api.Row{Key: "c"})[2].Cells != nil {
		t.Error("a row got cells")
	}
	if r, is := Get(l, "b"); !is || len(r.Cells) != 0 || len(Drop(l, "a")[0].Cells) != 0 {
		t.Error("a row got cells")
	}
}

// R7: arguments stay as they are, with their spare room.
func TestRowsLeaveArguments(t *testing.T) {
	room := []api.Row{row("b", "1"), row("d", "2"), row("b", "3"), row("f", "4"), row("spare", "5")}
	cells := []string{"x", "spare"}
	room[1].Cells = cells[:1]
	was := deep(room)
	given := row("c", "6", "spare")
	r := api.Row{Key: "c", Cells: given.Cells[:1]}
	for _, key := range []string{"a", "b", "c", "d", "f", "g"} {
		r.Key = key
		Get(room[:4], key)
		Set(room[:4], r)
		Drop(room[:4], key)
		if !sameRows(room, was) || cells[1] != "spare" || given.Cells[1] != "spare" || given.Cells[0] != "6" {
			t.Errorf("%q: an argument was changed", key)
		}
	}
}

// spoil changes all that an answer has, and its spare room.
func spoil(l []api.Row) {
	for i := range l {
		_ = append(l[i].Cells, "spoilt")
		for j := range l[i].Cells {
			l[i].Cells[j] = "spoilt"
		}
		l[i].Key = "spoilt"
	}
	l = l[:cap(l)]
	for i := range l {
		l[i] = row("spoilt")
	}
}

// R7: what is answered shares nothing with the arguments, even if there is nothing to do.
func TestRowsShareNothing(t *testing.T) {
	for _, key := range []string{"a", "b", "c", "d", "e"} {
		l := append(make([]api.Row, 0, 9), row("b", "1"), row("d", "2", "3"))
		was := deep(l)
		r := row(key, "4")
		spoil(Drop(l, key))
		spoil(Set(l, r))
		if got, is := Get(l, key); is {
			spoil([]api.Row{got})
		}
		if !sameRows(l, was) || !sameRow(r, row(key, "4")) || l[:3][2].Key != "" {
			t.Errorf("%q: an argument hangs on the answer", key)
		}
		set, dropped := Set(l, r), Drop(l, key)
		set2, dropped2 := deep(set), deep(dropped)
		spoil(l)
		spoil([]api.Row{r})
		if !sameRows(set, set2) || !sameRows(dropped, dropped2) {
			t.Errorf("%q: the answer hangs on an argument", key)
		}
	}
}

// R7: two rows of one answer share no cells, even if those of the argument do.
func TestAnswersShareNothingWithin(t *testing.T) {
	cells := []string{"1", "2"}
	l := []api.Row{{Key: "a", Cells: cells}, {Key: "c", Cells: cells}}
	set := Set(l, api.Row{Key: "b", Cells: cells})
	for i := range set {
		clear(set[i].Cells)
		for _, r := range set[i+1:] {
			if !slices.Equal(r.Cells, []string{"1", "2"}) {
				t.Errorf("%q", set)
			}
		}
	}
	dropped := Drop(l, "b")
	clear(dropped[0].Cells)
	if !slices.Equal(dropped[1].Cells, []string{"1", "2"}) || !slices.Equal(cells, []string{"1", "2"}) {
		t.Errorf("%q", dropped)
	}
}
