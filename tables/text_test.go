package tables

import (
	"bytes"
	"maps"
	"math/rand"
	"regexp"
	"slices"
	"strconv"
	"strings"
	"testing"

	"majordomo/api"
)

// rows is n rows of so many cells, by rising keys.
func rows(n, width int) []api.Row {
	var l []api.Row
	for i := range n {
		l = append(l, wide("k"+strconv.Itoa(100+i), width, "c"+strconv.Itoa(i)))
	}
	return l
}

// fat is rows of the table groups whose text has 2432 bytes: 32 rows of 76.
func fat() []api.Row {
	var l []api.Row
	for i := range 32 {
		l = append(l, row(strings.Repeat("k", 30)+strconv.Itoa(10+i), strings.Repeat("c", 42)))
	}
	return l
}

func wantText(t *testing.T, table string, l []api.Row, want string) {
	t.Helper()
	if b, e := Print(table, l); e != api.OK || string(b) != want {
		t.Errorf("Print(%q, %q): %q, %d; want %q", table, l, b, e, want)
	}
	if got, e := Parse(table, []byte(want)); e != api.OK || !sameRows(got, l) {
		t.Errorf("Parse(%q, %q): %q, %d; want %q", table, want, got, e, l)
	}
}

func wantNoText(t *testing.T, table string, l []api.Row, want api.Errno) {
	t.Helper()
	if b, e := Print(table, l); e != want || b != nil {
		t.Errorf("Print(%q, %q): %q, %d; want %d", table, l, b, e, want)
	}
}

func wantNoRows(t *testing.T, table, text string, want api.Errno) {
	t.Helper()
	if l, e := Parse(table, []byte(text)); e != want || l != nil {
		t.Errorf("Parse(%q, %q): %q, %d; want %d", table, text, l, e, want)
	}
}

// P5.2: the examples, and rows of each table, both ways.
func TestText(t *testing.T) {
	wantText(t, "groups", []api.Row{row("ops", "10"), row("wheel", "0")}, "ops:10\nwheel:0\n")
	wantText(t, "groups", []api.Row{row("ops", "10")}, "ops:10\n")
	wantText(t, "accounts", []api.Row{row("ann", "1000", "users", "/bin/sh"), row("bob", "1", "ops", "/bin/x")}, "ann:1000:users:/bin/sh\nbob:1:ops:/bin/x\n")
	wantText(t, "packages", []api.Row{row("a/b", "1.2-3")}, "a/b:1.2-3\n")
	wantText(t, "services", []api.Row{row("ssh", "running", "0")}, "ssh:running:0\n")
	wantText(t, "facts", []api.Row{row("os", "x"), row("ram", "")}, "os:x\nram:\n")
	wantText(t, "accounts", []api.Row{row("a", "", "", ""), row("b", "", "x", ""), row("c", "", "", "y")}, "a:::\nb::x:\nc:::y\n")
	wantText(t, "services", []api.Row{row("-", "", "")}, "-::\n")
	for table := range widths() {
		wantText(t, table, nil, "")
		wantText(t, table, []api.Row{}, "")
		if l, e := Parse(table, nil); e != api.OK || len(l) != 0 {
			t.Errorf("Parse(%q, nil): %q, %d", table, l, e)
		}
	}
}

// P5.2: no such table comes ahead of all else.
func TestTextOfNoTable(t *testing.T) {
	for _, table := range noTables() {
		for _, l := range [][]api.Row{nil, {row("k", "c")}, {{}}, rows(33, 1), make([]api.Row, 33), {row("b", "c"), row("a", "c")}, append(fat()[:31], row("l", strings.Repeat("c", 64)))} {
			wantNoText(t, table, l, api.ErrTable)
		}
		for _, text := range []string{"", "k:c\n", "k:c", "\n", "k", "b:c\na:c\n", strings.Repeat("x", 100000)} {
			wantNoRows(t, table, text, api.ErrTable)
		}
	}
}

// P5.2: at most 32 rows; more are ErrLong whatever else is wrong with them, and no text has them.
func TestManyRows(t *testing.T) {
	for table, width := range widths() {
		all := rows(33, width)
		text := ""
		for i, r := range all {
			text += r.Key + ":" + strings.Join(r.Cells, ":") + "\n"
			if i < 32 {
				wantText(t, table, all[:i+1], text)
			}
		}
		wantNoText(t, table, all, api.ErrLong)
		wantNoRows(t, table, text, api.ErrRow)
		wantNoText(t, table, make([]api.Row, 33), api.ErrLong)
		wantNoText(t, table, make([]api.Row, 32), api.ErrRow)
		wantNoText(t, table, make([]api.Row, 100000), api.ErrLong)
		wantNoRows(t, table, strings.Repeat("\n", 33), api.ErrRow)
		all[4].Key = all[5].Key
		wantNoText(t, table, all, api.ErrLong)
	}
}

// P5.2: a text of 2432 bytes is one; one byte more is ErrLong for Print, and no table's text for Parse.
func TestLongText(t *testing.T) {
	text := ""
	for _, r := range fat() {
		text += r.Key + ":" + r.Cells[0] + "\n"
	}
	if len(text) != 2432 {
		t.Fatal(len(text))
	}
	wantText(t, "groups", fat(), text)
	for at := range 32 {
		l := fat()
		l[at].Cells[0] += "c"
		wantNoText(t, "groups", l, api.ErrLong)
		end := 76 * (at + 1)
		wantNoRows(t, "groups", text[:end-1]+"c"+text[end-1:], api.ErrRow)
	}
	l := fat()
	l[0].Cells[0] = l[0].Cells[0][1:]
	l[31].Cells[0] += "c"
	wantText(t, "groups", l, text[:74]+text[75:2431]+"c\n")
	wantNoRows(t, "groups", text+"l", api.ErrRow)
	wantNoRows(t, "groups", text+"\n", api.ErrRow)
	wantNoRows(t, "groups", text[:2431], api.ErrRow)
	wantNoRows(t, "groups", strings.Repeat("k:c\n", 100000), api.ErrRow)
	wantNoRows(t, "groups", strings.Repeat("\n", 100000), api.ErrRow)
	wantNoRows(t, "groups", strings.Repeat(":", 2432), api.ErrRow)
	wantNoRows(t, "groups", strings.Repeat("\n", 2432), api.ErrRow)
	few := fat()[:11]
	var wideRows []api.Row
	for _, r := range few {
		wideRows = append(wideRows, wide(r.Key, 3, strings.Repeat("c", 64)))
	}
	wantNoText(t, "accounts", wideRows, api.ErrLong)
	if b, e := Print("accounts", wideRows[:10]); e != api.OK || len(b) != 10*228 {
		t.Errorf("%d bytes, %d", len(b), e)
	}
}

// P5.2: a row that is not valid, or out of order, is told ahead of a text that is too long.
func TestBadRowsOfLongTexts(t *testing.T) {
	for at := range 32 {
		l := fat()
		for i := range l {
			l[i].Cells[0] = strings.Repeat("c", 64)
		}
		wantNoText(t, "groups", l, api.ErrLong)
		l[at].Cells[0] += "c"
		wantNoText(t, "groups", l, api.ErrRow)
		l[at].Cells[0] = strings.Repeat("c", 64)
		if at > 0 {
			l[at].Key = l[at-1].Key
			wantNoText(t, "groups", l, api.ErrRow)
		}
	}
}

// P5.2: each thing that makes a row not valid, alone, in each place.
func TestPrintRefusesRows(t *testing.T) {
	for table, width := range widths() {
		for at := range 32 {
			bad := func(change func(r *api.Row)) {
				l := rows(32, width)
				change(&l[at])
				wantNoText(t, table, l, api.ErrRow)
			}
			bad(func(r *api.Row) { *r = api.Row{} })
			bad(func(r *api.Row) { r.Key = "" })
			bad(func(r *api.Row) { r.Key += strings.Repeat("k", 29) })
			bad(func(r *api.Row) { r.Key += " " })
			bad(func(r *api.Row) { r.Key += ":" })
			bad(func(r *api.Row) { r.Key += "\n" })
			bad(func(r *api.Row) { r.Cells = nil })
			bad(func(r *api.Row) { r.Cells = r.Cells[1:] })
			bad(func(r *api.Row) { r.Cells = append(r.Cells, "") })
			for i := range width {
				bad(func(r *api.Row) { r.Cells[i] = strings.Repeat("c", 65) })
				bad(func(r *api.Row) { r.Cells[i] = ":" })
				bad(func(r *api.Row) { r.Cells[i] = "\n" })
				bad(func(r *api.Row) { r.Cells[i] = "é" })
			}
		}
	}
	wantNoText(t, "accounts", []api.Row{row("k", "a:b", "c")}, api.ErrRow)
	wantNoText(t, "groups", []api.Row{row("k:a")}, api.ErrRow)
}

// P5.2: keys rise strictly, byte by byte.
func TestKeysRise(t *testing.T) {
	for at := range 31 {
		l := rows(32, 1)
		l[at].Key = l[at+1].Key
		wantNoText(t, "facts", l, api.ErrRow)
		l = rows(32, 1)
		l[at], l[at+1] = l[at+1], l[at]
		wantNoText(t, "facts", l, api.ErrRow)
	}
	rising := []string{"-", "--", "-a", ".", "..", "/", "0", "00", "01", "1", "10", "9", "A", "AZ", "Aa", "B", "Z", "_", "a", "aa", "b"}
	var l []api.Row
	text := ""
	for _, s := range rising {
		l = append(l, row(s, ""))
		text += s + ":\n"
	}
	wantText(t, "packages", l, text)
	for i := range rising {
		for j := range i + 1 {
			wantNoText(t, "packages", []api.Row{row(rising[i], "1"), row(rising[j], "2")}, api.ErrRow)
			wantNoRows(t, "packages", rising[i]+":1\n"+rising[j]+":2\n", api.ErrRow)
		}
	}
	wantNoText(t, "packages", []api.Row{row("a", "1"), row("c", "2"), row("b", "3"), row("d", "4")}, api.ErrRow)
	wantNoText(t, "packages", []api.Row{row("a", "1"), row("b", "2"), row("a", "3")}, api.ErrRow)
}

// P5.2: each thing that makes a text no table's, alone.
func TestParseRefuses(t *testing.T) {
	for _, text := range []string{
		"ops:10", "ops\n", "ops", ":10\n", ":\n", "\n", " ", "\x00",
		"ops:10:\n", "ops:10:1\n", "ops::10\n",
		"ops:10\n\n", "\nops:10\n", "ops:10\n\nwheel:0\n", "ops:10\nwheel:0", "ops:10\nwheel\n", "ops:10\nx",
		"ops:10\r\n", "ops:10\r", "ops :10\n", " ops:10\n", "ops: 10\n", "ops:1 0\n", "ops:10 \n", "ops:10;wheel:0\n",
		"wheel:0\nops:10\n", "ops:10\nops:10\n", "ops:10\nops:11\n", "\xef\xbb\xbfops:10\n", "ops:é\n", "ops:10\n\x00", "ops\x00:10\n",
		strings.Repeat("k", 33) + ":1\n", "k:" + strings.Repeat("c", 65) + "\n",
	} {
		wantNoRows(t, "groups", text, api.ErrRow)
	}
	wantText(t, "groups", []api.Row{row(strings.Repeat("k", 32), strings.Repeat("c", 64))}, strings.Repeat("k", 32)+":"+strings.Repeat("c", 64)+"\n")
	wantNoRows(t, "accounts", "a:1\n", api.ErrRow)
	wantNoRows(t, "accounts", "a:1:2\n", api.ErrRow)
	wantNoRows(t, "accounts", "a:1:2:3:4\n", api.ErrRow)
	wantNoRows(t, "accounts", "a:1:2:3\nb:1:2\n", api.ErrRow)
	wantNoRows(t, "services", "a:1\n", api.ErrRow)
	wantNoRows(t, "services", "a:1:2:3\n", api.ErrRow)
}

var (
	keyOfLine   = regexp.MustCompile(`^[a-zA-Z0-9._/-]{1,32}$`)
	cellsOfLine = regexp.MustCompile(`^[a-zA-Z0-9._/-]{0,64}(:[a-zA-Z0-9._/-]{0,64})*$`)
)

// isText tells whether a text is a table's, by the document's words and a means of its own.
func isText(table, text string) bool {
	if text == "" {
		return true
	}
	if len(text) > 2432 || text[len(text)-1] != '\n' {
		return false
	}
	lines := strings.Split(text[:len(text)-1], "\n")
	var keys []string
	for _, line := range lines {
		key, cells, _ := strings.Cut(line, ":")
		if strings.Count(line, ":") != widths()[table] || !keyOfLine.MatchString(key) || !cellsOfLine.MatchString(cells) {
			return false
		}
		keys = append(keys, key)
	}
	sorted := slices.Clone(keys)
	slices.Sort(sorted)
	return len(lines) <= 32 && slices.Equal(keys, sorted) && len(slices.Compact(sorted)) == len(keys)
}

// wantAsTold parses any text: it is taken if it is a table's, and then it is printed as it was.
func wantAsTold(t *testing.T, table, text string) bool {
	t.Helper()
	l, e := Parse(table, []byte(text))
	if !isText(table, text) {
		if e != api.ErrRow || l != nil {
			t.Fatalf("Parse(%q, %q): %q, %d; want ErrRow", table, text, l, e)
		}
		return false
	}
	again, err := Print(table, l)
	if e != api.OK || err != api.OK || string(again) != text {
		t.Fatalf("Parse(%q, %q): %q, %d; printed %q, %d", table, text, l, e, again, err)
	}
	return true
}

// P5.2, P5.4: of all texts that are one byte away from a table's, just the tables' are taken, and they are printed as they were.
func TestTextsOneByteAway(t *testing.T) {
	for table, text := range map[string]string{
		"groups":   "a:1\nma:\nz:22\n",
		"accounts": "a:1:g:/x\nb:::\n",
		"services": "a:running:0\nb:x:1\n",
	} {
		taken := 0
		for at := range len(text) {
			wantAsTold(t, table, text[:at]+text[at+1:])
			for v := range 256 {
				c := string([]byte{byte(v)})
				wantAsTold(t, table, text[:at]+c+text[at:])
				if wantAsTold(t, table, text[:at]+c+text[at+1:]) {
					taken++
				}
			}
		}
		if taken <= len(text) {
			t.Errorf("%q: only %d were taken", text, taken)
		}
	}
}

// P5.4: rows of any words that are printed come back.
func TestAnyRowsComeBack(t *testing.T) {
	dice := rand.New(rand.NewSource(5))
	word := func(least, most int) string {
		b := make([]byte, least+dice.Intn(most-least+1))
		for i := range b {
			b[i] = wordBytes[dice.Intn(len(wordBytes))]
		}
		return string(b)
	}
	printed := 0
	for _, table := range slices.Sorted(maps.Keys(widths())) {
		for range 500 {
			var l []api.Row
			for range dice.Intn(33) {
				r := api.Row{Key: word(1, 32)}
				for range widths()[table] {
					r.Cells = append(r.Cells, word(0, 1+dice.Intn(64)))
				}
				l = append(l, r)
			}
			slices.SortFunc(l, func(a, b api.Row) int { return strings.Compare(a.Key, b.Key) })
			b, e := Print(table, l)
			if e != api.OK {
				continue
			}
			printed++
			if got, e := Parse(table, b); e != api.OK || !sameRows(got, l) {
				t.Fatalf("Parse(%q, %q): %q, %d; want %q", table, b, got, e, l)
			}
		}
	}
	if printed < 1000 {
		t.Errorf("only %d lists were printed", printed)
	}
}

// P5.2, P5.4: of all texts of up to eight of these bytes, just the tables' are taken, and they are printed as they were.
func TestAllShortTexts(t *testing.T) {
	for table := range widths() {
		taken := 0
		texts := []string{""}
		for range 9 {
			var next []string
			for _, text := range texts {
				if wantAsTold(t, table, text) {
					taken++
				}
				for _, c := range []string{"a", "b", ":", "\n"} {
					next = append(next, text+c)
				}
			}
			texts = next
		}
		if taken < 10 {
			t.Errorf("%q: only %d were taken", table, taken)
		}
	}
}

// R7: arguments stay as they are, and what is answered shares nothing with them, nor one row with another.
func TestTextsShareNothing(t *testing.T) {
	room := rows(8, 3)
	cells := []string{"x", "y", "z", "spare"}
	room[0].Cells = cells[:3]
	was := deep(room)
	b, e := Print("accounts", room[:5])
	if e != api.OK || !sameRows(room, was) || cells[3] != "spare" {
		t.Error("Print changed its argument")
	}
	text := slices.Clone(b)
	clear(room[1].Cells)
	clear(room)
	if !bytes.Equal(b, text) {
		t.Error("the text hangs on the rows")
	}
	l, e := Parse("accounts", b)
	if e != api.OK || !bytes.Equal(b, text) {
		t.Error("Parse changed its argument")
	}
	clear(b)
	if !sameRows(l, was[:5]) {
		t.Error("the rows hang on the text")
	}
	for i := range l {
		for j := range l {
			_ = append(l[j].Cells, "more")
		}
		clear(l[i].Cells)
		if !sameRows(l[i+1:], was[i+1:5]) {
			t.Error("rows hang on each other")
		}
	}
}
