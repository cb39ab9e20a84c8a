package provider_test

import (
	"strconv"
	"strings"
	"testing"

	"majordomo/api"
	"majordomo/blockfs"
	"majordomo/provider"
)

// sample is a sound row of each table, and another with the same key.
var sample = map[string][2]string{
	"accounts": {"ann:1:users:/bin/sh", "ann:2:ops:/bin/sh"},
	"groups":   {"ops:10", "ops:11"},
	"packages": {"vim:9.1", "vim:latest"},
	"services": {"ssh:running:3", "ssh:stopped:3"},
	"facts":    {"os:x", "os:"},
}

// noTables is names of tables that there are not.
var noTables = []string{"", "mounts", "Groups", "group", "groups ", "groups/", "/tab/groups", "groups\x00", "../tab/groups", "\xff", strings.Repeat("groups", 100)}

// P9.1: the rows of each table, as its file has them.
func TestRows(t *testing.T) {
	for name, words := range sample {
		x := made(t, table(name, words[0]+"\n"))
		x.wantRows(t, name, words[0])
		for other := range sample {
			if other != name {
				x.wantRows(t, other)
			}
		}
		x.do(t, table(name, ""))
		x.wantRows(t, name)
		x.do(t, fileOf("/tab/"+name, 0, words[1]+"\nz"+words[1]+"\n"))
		x.wantRows(t, name, words[1], "z"+words[1])
	}
}

// P9.1: a table that is none is told ahead of all else.
func TestNoTable(t *testing.T) {
	for _, x := range []tree{made(t, file("/groups", "ops:1\n"), table("mounts", "a:1\n"), table("group", "a:1\n")), bare(t)} {
		for _, name := range noTables {
			x.wantNoRows(t, name, api.ErrTable)
			for _, gone := range []bool{false, true} {
				x.wantNotSet(t, name, row("ops:10"), gone, api.ErrTable)
				x.wantNotSet(t, name, api.Row{}, gone, api.ErrTable)
			}
		}
	}
}

// P9.1: no rows where nothing is, or where the path leads nowhere.
func TestNothingThere(t *testing.T) {
	for why, x := range map[string]tree{"no /tab": bare(t), "an empty /tab": made(t), "/tab a file": bare(t), "/tab a link": bare(t)} {
		switch why {
		case "/tab a file":
			x.do(t, file("/tab", "ops:10\n"))
		case "/tab a link":
			x.do(t, link("/tab", "/tables"), dir("/tables"), file("/tables/groups", "ops:10\n"))
		}
		for name, words := range sample {
			x.wantRows(t, name)
			x.wantAlready(t, name, row(words[0]), true)
			l, e := x.setRow(t, name, row(words[0]), false)
			if e != api.OK || !sameEdits(l, []api.Edit{table(name, words[0]+"\n")}) {
				t.Errorf("%s: SetRow(%s, %s): %v, %d", why, name, words[0], l, e)
			}
		}
	}
}

// P9.1: a directory or a link is no table, nor are bytes that are not its text.
func TestCorrupt(t *testing.T) {
	var many strings.Builder
	for i := range 33 {
		many.WriteString("k" + strconv.Itoa(100+i) + ":1\n")
	}
	for _, there := range []api.Edit{
		dir("/tab/groups"), link("/tab/groups", "/tab/packages"), link("/tab/groups", ""), link("/tab/groups", "ops:10\n"),
		table("groups", "ops:10"), table("groups", "ops\n"), table("groups", "\n"), table("groups", "ops:1:2\n"), table("groups", "b:1\na:1\n"), table("groups", "a:1\na:1\n"),
		table("groups", ":1\n"), table("groups", "a b:1\n"), table("groups", "a: \n"), table("groups", "a:1\n\n"), table("groups", "a:1\r\n"), table("groups", "\x00"), table("groups", "bad"),
		table("groups", many.String()),
	} {
		x := made(t, there, table("packages", "vim:1\n"))
		x.wantNoRows(t, "groups", api.ErrCorrupt)
		for _, gone := range []bool{false, true} {
			x.wantNotSet(t, "groups", row("ops:10"), gone, api.ErrCorrupt)
			x.wantNotSet(t, "groups", api.Row{}, gone, api.ErrCorrupt) // ahead of what is wrong with the row
		}
		x.wantNot(t, of(full("group", "ops")), 0, api.ErrCorrupt)
		x.wantNot(t, of(inState("group", "ops", "absent")), 0, api.ErrCorrupt)
		x.wantRows(t, "packages", "vim:1")
	}
	for name, words := range sample {
		for other := range sample {
			x := made(t, table(name, words[0]+"\n"))
			x.do(t, table(other, words[0]+"\n"))
			if strings.Count(words[0], ":") == strings.Count(sample[other][0], ":") {
				x.wantRows(t, other, words[0])
			} else {
				x.wantNoRows(t, other, api.ErrCorrupt)
			}
		}
	}
}

// P9.1: a row that is not there, is there otherwise, or is there already; and the same gone.
func TestSetRow(t *testing.T) {
	for name, words := range sample {
		one, other := words[0]+"\n", words[1]+"\n"
		x := made(t)
		x.wantSet(t, name, row(words[0]), false, one)
		x.wantAlready(t, name, row(words[0]), true)
		x.do(t, table(name, one))
		x.wantAlready(t, name, row(words[0]), false)
		x.wantSet(t, name, row(words[1]), false, other)
		x.wantSet(t, name, row(words[1]), true, "")
		x.wantSet(t, name, row("A"+words[0]), false, "A"+one+one)
		x.wantSet(t, name, row("zz"+words[0]), false, one+"zz"+one)
		x.wantAlready(t, name, row("A"+words[0]), true)
	}
	x := made(t, table("groups", "a:1\nc:3\ne:\n"))
	x.wantSet(t, "groups", row("b:2"), false, "a:1\nb:2\nc:3\ne:\n")
	x.wantSet(t, "groups", row("c:4"), false, "a:1\nc:4\ne:\n")
	x.wantSet(t, "groups", row("c:"), false, "a:1\nc:\ne:\n")
	x.wantAlready(t, "groups", row("c:3"), false)
	x.wantAlready(t, "groups", row("e:"), false)
	x.wantSet(t, "groups", row("f:"), false, "a:1\nc:3\ne:\nf:\n")
	x.wantSet(t, "groups", row("a:1"), true, "c:3\ne:\n")
	x.wantSet(t, "groups", row("e:1"), true, "a:1\nc:3\n")
}

// P9.1: a table that is so stays as it is, whatever the mode of its file; one that is not gets the mode 420.
func TestModeOfTables(t *testing.T) {
	for _, m := range []int{0, 384, 420, 493, 4095} {
		x := made(t, fileOf("/tab/groups", m, "a:1\n"))
		x.wantAlready(t, "groups", row("a:1"), false)
		x.wantAlready(t, "groups", row("b:1"), true)
		x.wantSet(t, "groups", row("a:2"), false, "a:2\n")
		x.wantSet(t, "groups", row("a:1"), true, "")
		x.wantOne(t, full("group", "a", "gid", "1"))
		x.do(t, fileOf("/tab/groups", m, ""))
		x.wantAlready(t, "groups", row("a:1"), true)
		x.wantSet(t, "groups", row("a:1"), false, "a:1\n")
	}
}

// P9.1: rows that tables.Check rejects are not set.
func TestRowsThatAreRefused(t *testing.T) {
	x := made(t, table("groups", "a:1\n"), table("accounts", "a:1:2:3\n"))
	long, cell := strings.Repeat("k", 33), strings.Repeat("c", 65)
	for _, r := range []api.Row{
		{}, {Key: "a"}, {Key: "a", Cells: []string{}}, {Key: "a", Cells: []string{"1", "2"}}, {Cells: []string{"1"}}, {Key: long, Cells: []string{"1"}}, {Key: "a", Cells: []string{cell}},
		{Key: "a b", Cells: []string{"1"}}, {Key: "a:b", Cells: []string{"1"}}, {Key: "a\n", Cells: []string{"1"}}, {Key: "é", Cells: []string{"1"}}, {Key: "a", Cells: []string{"1 2"}}, {Key: "a", Cells: []string{"1\n"}}, {Key: "a", Cells: []string{":"}},
	} {
		x.wantNotSet(t, "groups", r, false, api.ErrRow)
	}
	x.wantNotSet(t, "accounts", row("a:1:2"), false, api.ErrRow)
	x.wantNotSet(t, "accounts", row("a:1:2:3:4"), false, api.ErrRow)
	x.wantSet(t, "groups", api.Row{Key: long[1:], Cells: []string{cell[1:]}}, false, "a:1\n"+long[1:]+":"+cell[1:]+"\n")
}

// P9.1: of a row that is to be gone, only the key counts.
func TestKeysThatAreRefused(t *testing.T) {
	for name, words := range sample {
		r := row(words[0])
		x := made(t, table(name, words[0]+"\n"))
		for _, key := range []string{"", " ", "a b", "a:b", "a\n", "é", "a\x00", strings.Repeat("k", 33), "ops:10", "[a]"} {
			x.wantNotSet(t, name, api.Row{Key: key, Cells: r.Cells}, true, api.ErrRow)
			x.wantNotSet(t, name, api.Row{Key: key}, true, api.ErrRow)
			x.wantNotSet(t, name, api.Row{Key: key, Cells: r.Cells}, false, api.ErrRow)
		}
		for _, cells := range [][]string{nil, {}, {"1"}, {"1", "2"}, {"1", "2", "3"}, {"1", "2", "3", "4"}, {" "}, {strings.Repeat("c", 65), "\n", ":"}} {
			x.wantSet(t, name, api.Row{Key: r.Key, Cells: cells}, true, "")
			x.wantAlready(t, name, api.Row{Key: "x" + r.Key, Cells: cells}, true)
			x.wantAlready(t, name, api.Row{Key: strings.Repeat("k", 32), Cells: cells}, true)
		}
	}
}

// P9.1: as many rows as a table has, and as many bytes as its file has, and not one more.
func TestTablesThatAreFull(t *testing.T) {
	var text strings.Builder
	for i := range 32 {
		text.WriteString("k" + strconv.Itoa(100+i) + ":1\n")
	}
	x := made(t, table("groups", text.String()))
	x.wantNotSet(t, "groups", row("a:1"), false, api.ErrLong)
	x.wantNotSet(t, "groups", row("z:1"), false, api.ErrLong)
	x.wantNotSet(t, "groups", row("z:1 "), false, api.ErrRow) // ahead of the length
	x.wantNot(t, of(full("group", "z")), 0, api.ErrLong)
	x.wantAlready(t, "groups", row("k131:1"), false)
	x.wantAlready(t, "groups", row("z:1"), true)
	x.wantSet(t, "groups", row("k131:2"), false, strings.Replace(text.String(), "k131:1", "k131:2", 1))
	x.do(t, table("groups", strings.Replace(text.String(), "k131:1\n", "", 1)))
	x.wantSet(t, "groups", row("k131:1"), false, text.String())

	// 11 rows of 220 bytes, and one of 12: 2432 bytes.
	text.Reset()
	cell := strings.Repeat("c", 64)
	for i := range 11 {
		text.WriteString(strings.Repeat(string(rune('a'+i)), 24) + ":" + cell + ":" + cell + ":" + cell + "\n")
	}
	x = made(t, table("accounts", text.String()))
	x.wantSet(t, "accounts", row("z23456:7:8:"), false, text.String()+"z23456:7:8:\n")
	x.wantNotSet(t, "accounts", row("z23456:7:8:9"), false, api.ErrLong)
	x.wantNot(t, of(full("account", "z", "group", "g", "shell", "/x/y", "uid", "123")), 0, api.ErrLong)
	x.wantOne(t, full("account", "z", "group", "g", "shell", "/x", "uid", "123"), table("accounts", text.String()+"z:123:g:/x\n"))
}

// R1: a tree that no Open gave has no rows to tell, and no plan.
func TestNoTree(t *testing.T) {
	f := &blockfs.FS{}
	c := of(full("file", "/a/b"), inState("file", "/c", "absent"), full("group", "ops"), full("service", "s"))
	for i := range c.R {
		if l, e := provider.Plan(f, c, i); e == api.OK || l != nil {
			t.Errorf("Plan(%d): %v, %d", i, l, e)
		}
	}
	if l, e := provider.Rows(f, "groups"); e == api.OK || l != nil {
		t.Errorf("Rows: %v, %d", l, e)
	}
	if l, e := provider.SetRow(f, "groups", row("a:1"), false); e == api.OK || l != nil {
		t.Errorf("SetRow: %v, %d", l, e)
	}
}
