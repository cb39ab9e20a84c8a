package tables

import (
	"slices"
	"strings"
	"testing"

	"majordomo/api"
)

const wordBytes = "ABCDEFGHIJKLMNOPQRSTUVWXYZabcdefghijklmnopqrstuvwxyz0123456789._-/"

// widths is the tables and their cells as the document says them.
func widths() map[string]int {
	return map[string]int{"accounts": 3, "groups": 1, "packages": 1, "services": 2, "facts": 1}
}

// noTables is texts that name no table.
func noTables() []string {
	return []string{"", "mounts", "x", "account", "group", "file", "Accounts", "GROUPS", "accounts ", " facts", "facts\n", "facts\x00", "accountsgroups", "accounts:groups", "servic\xe9s", "/tab/groups", strings.Repeat("facts", 100000)}
}

// badWords is texts that are no words, each short enough.
func badWords() []string {
	return []string{" ", "a b", " a", "a ", "a:b", ":", "\n", "a\n", "\na", "a\r", "\x00", "a\x00", "é", "a\xff", "@", "[", "`", "{", ",", "^", "~", "*", "\\", "+", "=", "'", "\"", "\x7f", "\t"}
}

func row(key string, cells ...string) api.Row { return api.Row{Key: key, Cells: cells} }

// wide is a row of so many cells.
func wide(key string, width int, cell string) api.Row {
	r := api.Row{Key: key}
	for range width {
		r.Cells = append(r.Cells, cell)
	}
	return r
}

func sameRow(a, b api.Row) bool { return a.Key == b.Key && slices.Equal(a.Cells, b.Cells) }

func sameRows(a, b []api.Row) bool { return slices.EqualFunc(a, b, sameRow) }

// deep is l with nothing shared.
func deep(l []api.Row) []api.Row {
	var out []api.Row
	for _, r := range l {
		out = append(out, api.Row{Key: r.Key, Cells: slices.Clone(r.Cells)})
	}
	return out
}

func wantCheck(t *testing.T, table string, r api.Row, want api.Errno) {
	t.Helper()
	if e := Check(table, r); e != want {
		t.Errorf("Check(%q, %q): %d; want %d", table, r, e, want)
	}
}

// P5.1: the tables, and texts that name none.
func TestWidth(t *testing.T) {
	for table, want := range widths() {
		if n := Width(table); n != want {
			t.Errorf("Width(%q): %d; want %d", table, n, want)
		}
	}
	for _, table := range noTables() {
		if n := Width(table); n != 0 {
			t.Errorf("Width(%q): %d", table, n)
		}
	}
}

// P5.1: the examples, and rows of each table.
func TestCheck(t *testing.T) {
	wantCheck(t, "groups", row("a", "b"), api.OK)
	wantCheck(t, "packages", row("a b", "1"), api.ErrRow)
	wantCheck(t, "mounts", row("a", "b"), api.ErrTable)
	wantCheck(t, "accounts", row("ann", "1000", "users", "/bin/sh"), api.OK)
	wantCheck(t, "packages", row("lib-x_2.0/y", "1.2-3"), api.OK)
	wantCheck(t, "services", row("ssh", "running", "0"), api.OK)
	wantCheck(t, "facts", row("os", ""), api.OK)
	wantCheck(t, "accounts", row("a", "", "", ""), api.OK)
}

// P5.1: the lengths of keys and cells at their edges, in each cell.
func TestCheckLengths(t *testing.T) {
	for table, width := range widths() {
		for n := range 40 {
			want := api.OK
			if n < 1 || n > 32 {
				want = api.ErrRow
			}
			wantCheck(t, table, wide(strings.Repeat("k", n), width, "c"), want)
		}
		for n := range 70 {
			want := api.OK
			if n > 64 {
				want = api.ErrRow
			}
			for at := range width {
				r := wide("k", width, "c")
				r.Cells[at] = strings.Repeat("c", n)
				wantCheck(t, table, r, want)
			}
		}
		wantCheck(t, table, wide(strings.Repeat("k", 32), width, strings.Repeat("c", 64)), api.OK)
		wantCheck(t, table, wide(strings.Repeat("k", 100000), width, "c"), api.ErrRow)
		wantCheck(t, table, wide("k", width, strings.Repeat("c", 100000)), api.ErrRow)
	}
}

// P5.1: as many cells as the table has, no more and no fewer.
func TestCheckCells(t *testing.T) {
	for table, width := range widths() {
		for n := range 6 {
			want := api.OK
			if n != width {
				want = api.ErrRow
			}
			wantCheck(t, table, wide("k", n, "c"), want)
			wantCheck(t, table, wide("k", n, ""), want)
		}
		wantCheck(t, table, api.Row{Key: "k", Cells: []string{}}, api.ErrRow)
		wantCheck(t, table, wide("k", 100000, ""), api.ErrRow)
		wantCheck(t, table, api.Row{}, api.ErrRow)
	}
}

// P5.1: every byte, in each place of a key and of a cell.
func TestCheckBytes(t *testing.T) {
	for v := range 256 {
		c := string([]byte{byte(v)})
		want := api.ErrRow
		if strings.Contains(wordBytes, c) {
			want = api.OK
		}
		wantCheck(t, "facts", row(c, "x"), want)
		wantCheck(t, "facts", row("x", c), want)
		for at := range 32 {
			wantCheck(t, "groups", row(strings.Repeat("x", at)+c+strings.Repeat("x", 31-at), "x"), want)
		}
		for at := range 64 {
			r := wide("x", 3, "x")
			r.Cells[at%3] = strings.Repeat("x", at) + c + strings.Repeat("x", 63-at)
			wantCheck(t, "accounts", r, want)
		}
	}
}

// P5.1: what is no word, in each place of a row of each table.
func TestCheckRefusesWords(t *testing.T) {
	for table, width := range widths() {
		for _, s := range badWords() {
			wantCheck(t, table, wide(s, width, "c"), api.ErrRow)
			for at := range width {
				r := wide("k", width, "c")
				r.Cells[at] = s
				wantCheck(t, table, r, api.ErrRow)
			}
		}
	}
}

// P5.1: no such table is told ahead of what is wrong with the row.
func TestCheckOrder(t *testing.T) {
	for _, table := range noTables() {
		for _, r := range []api.Row{{}, row("k"), row("k", "c"), row("k", "c", "c"), row("a b", "c"), row("k", "a b"), row(strings.Repeat("k", 33), "c")} {
			wantCheck(t, table, r, api.ErrTable)
		}
	}
}
