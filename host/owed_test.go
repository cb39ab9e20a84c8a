package host_test

import (
	"strings"
	"testing"

	"majordomo/api"
)

var longKey = strings.Repeat("k", 32)

// forms is texts of /run/owed, and the titles that they tell.
func forms() map[string][]string {
	most := numbered("key.", 270) // 9 bytes each
	return map[string][]string{
		"":                            nil,
		"a\n":                         {"a"},
		"a\nb\n":                      {"a", "b"},
		"a\naa\nab\nb\n":              {"a", "aa", "ab", "b"},
		"-\n.\n/\n0\nA\nZ\n_\na\nz\n": {"-", ".", "/", "0", "A", "Z", "_", "a", "z"},
		longKey + "\n":                {longKey},
		lines(most...):                most,
		"a":                           nil,
		"a\nb":                        nil,
		"\n":                          nil,
		"a\n\n":                       nil,
		"\na\n":                       nil,
		"a\n\nb\n":                    nil,
		"b\na\n":                      nil,
		"a\nc\nb\n":                   nil,
		"a\na\n":                      nil,
		"a\nb\na\n":                   nil,
		"ab\na\n":                     nil,
		"a b\n":                       nil,
		" a\n":                        nil,
		"a \n":                        nil,
		"a:b\n":                       nil,
		"a\r\n":                       nil,
		"a\x00\n":                     nil,
		"\xc3\xa4\n":                  nil,
		"a\n" + longKey + "k\n":       nil,
		lines(numbered("key.", 270)...)[1:] + "a": nil,
		"s:running:1\n": nil,
	}
}

// P10.4: just the bytes of the form tell what is owed, whatever the mode is.
func TestOwed(t *testing.T) {
	x := made(t)
	for text, titles := range forms() {
		for _, m := range []int{384, 0, 420, 4095} {
			x.do(t, fileOf("/run/owed", m, text))
			x.wantStill(t, func() { x.wantOwed(t, titles...) })
			x.clone(t).wantOwed(t, titles...)
		}
	}
}

// P10.4: where no file is nothing is owed, and there is nothing to prune.
func TestOwedWhereNoFileIs(t *testing.T) {
	for _, l := range [][]api.Edit{
		nil, {dir("/run/owed")}, {link("/run/owed", "a\n")}, {gone("/run")}, {gone("/run"), file("/run", "a\n")}, {dir("/run/owed"), file("/run/owed/a", "a\n")},
	} {
		x := made(t, l...)
		x.wantOwed(t)
		x.wantStill(t, func() { want(t, "Prune", x.h.Prune(api.Catalog{}), api.OK) })
		x.wantStill(t, func() { want(t, "Refresh", x.h.Refresh("a"), api.OK) })
	}
}

func prune(t *testing.T, x node, c api.Catalog) {
	t.Helper()
	before := copied(c)
	want(t, "Prune", x.h.Prune(c), api.OK)
	if !sameCatalog(before, c) {
		t.Fatalf("Prune changed the catalog %v to %v", before, c)
	}
}

// P10.4: what the catalog has no service for is owed no more, and the file has the mode 384.
func TestPrune(t *testing.T) {
	sc := []api.Resource{full("service", "c"), full("service", "e", "ensure", "stopped")}
	for _, c := range []struct {
		was, left []string
		c         api.Catalog
	}{
		{[]string{"a", "c"}, []string{"c"}, of(sc...)},
		{[]string{"c", "d"}, []string{"c"}, of(sc...)},
		{[]string{"a", "b", "c", "d", "e", "f"}, []string{"c", "e"}, of(sc...)},
		{[]string{"C", "a", "cc"}, nil, of(sc...)},
		{[]string{"a"}, nil, of()},
		{[]string{"a"}, nil, api.Catalog{}},
		{[]string{"/c", "c", "n"}, []string{"c"}, of(full("account", "/c"), full("file", "/c"), full("group", "n"), full("package", "n"), full("service", "c"))},
		{numbered("k", 200), []string{"k1003", "k1199"}, of(full("service", "k1003"), full("service", "k1199"))},
	} {
		for _, m := range []int{384, 420} {
			x := made(t, fileOf("/run/owed", m, lines(c.was...)), services("a:running:1\n"))
			x.wantOneDo(t, func() { prune(t, x, c.c) }, owed(c.left...))
			x.wantOwed(t, c.left...)
			x.wantStill(t, func() { prune(t, x, c.c) })
		}
	}
}

// P10.4: where nothing is to be removed nothing is done, whatever the mode of the file is.
func TestPruneOfNothing(t *testing.T) {
	c := of(full("service", "a"), full("service", "b"), full("service", "c"))
	for text, titles := range map[string][]string{"": nil, "a\n": {"a"}, "a\nc\n": {"a", "c"}, "a\nb\nc\n": {"a", "b", "c"}} {
		for _, m := range []int{384, 7} {
			x := made(t, fileOf("/run/owed", m, text))
			x.wantStill(t, func() { prune(t, x, c) })
			x.wantOwed(t, titles...)
		}
	}
	for _, text := range []string{"x", "x\n\n", "b\na\n"} {
		x := made(t, file("/run/owed", text))
		x.wantStill(t, func() { prune(t, x, api.Catalog{}) })
	}
}

// P10.4: the catalog may be any, also one that catalog.Check refuses.
func TestPruneByAnyCatalog(t *testing.T) {
	odd := api.Catalog{Version: -1, R: []api.Resource{
		{Type: "disk", Title: "a"}, {Type: "service", Title: "d"}, {Type: "service", Title: "b", P: []api.Param{{Name: "x", Value: "y"}}}, {Type: "service", Title: "b"}, {Type: "service", Title: "x y"},
	}, E: []api.Edge{{From: -5, To: 99, Notify: true}}}
	x := made(t, owed("a", "b", "c", "d"))
	x.wantOneDo(t, func() { prune(t, x, odd) }, owed("b", "d"))
	x.wantStill(t, func() { prune(t, x, odd) })
}

func TestPruneWithoutPower(t *testing.T) {
	x := made(t, owed("a", "b"))
	x.off()
	want(t, "Prune", x.h.Prune(of(full("service", "a"))), api.ErrPower)
	x.d.Boot()
	opened(t, x.d).wantOwed(t, "a", "b")
}
