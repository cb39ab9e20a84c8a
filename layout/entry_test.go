package layout

import (
	"bytes"
	"math"
	"slices"
	"strconv"
	"strings"
	"testing"

	"majordomo/api"
)

// laidEntry is an entry's 32 bytes as the document says them.
func laidEntry(node, size int, name string) []byte {
	b := append([]byte{byte(node), byte(size)}, name...)
	return append(b, make([]byte, 32-len(b))...)
}

// entries is so many of them, by rising names.
func entries(n int) []api.Entry {
	var l []api.Entry
	for i := range n {
		l = append(l, api.Entry{Node: 1 + i, Name: "e" + strconv.Itoa(10+i)})
	}
	return l
}

func wantPutEntries(t *testing.T, l []api.Entry, want []byte) {
	t.Helper()
	if b, e := PutEntries(l); e != api.OK || !bytes.Equal(b, want) {
		t.Errorf("PutEntries(%v): %v, %d; want %v", l, b, e, want)
	}
	if got, e := TakeEntries(want); e != api.OK || !slices.Equal(got, l) {
		t.Errorf("TakeEntries(%v): %v, %d; want %v", want, got, e, l)
	}
}

func wantNoEntries(t *testing.T, l []api.Entry, want api.Errno) {
	t.Helper()
	if b, e := PutEntries(l); e != want || b != nil {
		t.Errorf("PutEntries(%v): %v, %d; want %d", l, b, e, want)
	}
}

func wantCorruptEntries(t *testing.T, why string, b []byte) {
	t.Helper()
	if l, e := TakeEntries(b); e != api.ErrCorrupt || l != nil {
		t.Errorf("%s: TakeEntries(%v): %v, %d; want ErrCorrupt", why, b, l, e)
	}
}

// P3.5: entries whose bytes are written out.
func TestEntryBytes(t *testing.T) {
	wantPutEntries(t, nil, nil)
	wantPutEntries(t, []api.Entry{}, []byte{})
	wantPutEntries(t, []api.Entry{{Node: 1, Name: "a"}}, []byte{1, 1, 'a', 0, 0, 0, 0, 0, 0, 0, 0, 0, 0, 0, 0, 0, 0, 0, 0, 0, 0, 0, 0, 0, 0, 0, 0, 0, 0, 0, 0, 0})
	long := strings.Repeat("z", 28)
	wantPutEntries(t, []api.Entry{{Node: 63, Name: long}}, laidEntry(63, 28, long))
	wantPutEntries(t, []api.Entry{{Node: 9, Name: "b.c"}, {Node: 9, Name: "b_c"}}, append(laidEntry(9, 3, "b.c"), laidEntry(9, 3, "b_c")...))
	var b []byte
	for _, x := range entries(16) {
		b = append(b, laidEntry(x.Node, len(x.Name), x.Name)...)
	}
	wantPutEntries(t, entries(16), b)
}

// P3.5: more than 16 entries are ErrLong, whatever else is wrong with them.
func TestTooManyEntries(t *testing.T) {
	wantNoEntries(t, entries(17), api.ErrLong)
	wantNoEntries(t, make([]api.Entry, 17), api.ErrLong)
	wantNoEntries(t, make([]api.Entry, 100000), api.ErrLong)
	wantNoEntries(t, make([]api.Entry, 16), api.ErrArg)
}

// P3.5: each thing that makes an entry refused, alone, in each place.
func TestPutEntriesRefuses(t *testing.T) {
	for at := range 16 {
		for _, node := range []int{0, -1, 64, 256, 257, 65537, math.MinInt, math.MaxInt} {
			l := entries(16)
			l[at].Node = node
			wantNoEntries(t, l, api.ErrArg)
		}
	}
	for _, name := range badNames() {
		wantNoEntries(t, []api.Entry{{Node: 1, Name: name}}, api.ErrArg)
	}
	for at := range 16 {
		l := entries(16)
		l[at].Name += "!"
		wantNoEntries(t, l, api.ErrArg)
	}
}

// P3.5: names rise strictly, byte by byte.
func TestPutEntriesRefusesOrder(t *testing.T) {
	for at := range 15 {
		l := entries(16)
		l[at].Name = l[at+1].Name
		wantNoEntries(t, l, api.ErrArg)
		l = entries(16)
		l[at].Name, l[at+1].Name = l[at+1].Name, l[at].Name
		wantNoEntries(t, l, api.ErrArg)
	}
	rising := []string{"-", "--", "-a", "...", "0", "00", "01", "1", "10", "9", "A", "AZ", "Aa", "B", "Z", "_"}
	var l []api.Entry
	for _, s := range rising {
		l = append(l, api.Entry{Node: 5, Name: s})
	}
	if _, e := PutEntries(l); e != api.OK {
		t.Errorf("rising names: %d", e)
	}
	for i := range rising {
		for j := range i + 1 {
			wantNoEntries(t, []api.Entry{{Node: 1, Name: rising[i]}, {Node: 2, Name: rising[j]}}, api.ErrArg)
		}
	}
	wantNoEntries(t, []api.Entry{{Node: 1, Name: "a"}, {Node: 2, Name: "Z"}}, api.ErrArg)
	wantNoEntries(t, []api.Entry{{Node: 1, Name: "a"}, {Node: 2, Name: "_"}}, api.ErrArg)
}

// P3.5: each thing that makes a directory's bytes refused, alone.
func TestTakeEntriesRefuses(t *testing.T) {
	good, _ := PutEntries(entries(16))
	for n := range 512 {
		if l, e := TakeEntries(slices.Clip(good[:n])); (e == api.OK) != (n%32 == 0) || len(l) != 0 && !slices.Equal(l, entries(n/32)) {
			t.Errorf("%d bytes: %v, %d", n, l, e)
		}
	}
	long := slices.Clone(good)
	wantCorruptEntries(t, "a byte too many", append(long, 0))
	wantCorruptEntries(t, "17 entries", append(long, laidEntry(17, 2, "e9")...))
	wantCorruptEntries(t, "17 rising entries", append(long, laidEntry(17, 1, "z")...))
	for _, c := range []struct {
		why string
		b   []byte
	}{
		{"noughts", make([]byte, 32)},
		{"node 0", laidEntry(0, 1, "a")},
		{"node 64", laidEntry(64, 1, "a")},
		{"node 255", laidEntry(255, 1, "a")},
		{"no length", laidEntry(1, 0, "")},
		{"length 0", laidEntry(1, 0, "a")},
		{"a length too small", laidEntry(1, 1, "ab")},
		{"a length too great", laidEntry(1, 3, "ab")},
		{"29 bytes", laidEntry(1, 29, strings.Repeat("a", 29))},
		{"30 bytes", laidEntry(1, 30, strings.Repeat("a", 30))},
		{"31 bytes", laidEntry(1, 31, strings.Repeat("a", 30))},
		{"255 bytes", laidEntry(1, 255, strings.Repeat("a", 30))},
		{"a dot", laidEntry(1, 1, ".")},
		{"two dots", laidEntry(1, 2, "..")},
		{"a slash", laidEntry(1, 3, "a/b")},
		{"padding", laidEntry(1, 1, "a\x00b")},
		{"the same name", append(laidEntry(1, 1, "a"), laidEntry(2, 1, "a")...)},
		{"falling names", append(laidEntry(1, 1, "b"), laidEntry(2, 1, "a")...)},
		{"a second entry of noughts", append(laidEntry(1, 1, "b"), make([]byte, 32)...)},
	} {
		wantCorruptEntries(t, c.why, c.b)
	}
	for at := 5; at < 32; at++ {
		b := laidEntry(1, 3, "abc")
		b[at] = 1
		wantCorruptEntries(t, "padding", b)
	}
}

// P3.5, P3.7: of all bytes that are one byte away from a directory's, those that are taken are encoded so again, and there are as many of them as the document counts.
func TestTakenEntriesAreEncodedAgain(t *testing.T) {
	good, _ := PutEntries([]api.Entry{{Node: 1, Name: "a"}, {Node: 2, Name: "ma"}, {Node: 63, Name: "z"}})
	taken := 0
	for at := range good {
		for v := range 256 {
			b := slices.Clone(good)
			b[at] = byte(v)
			l, e := TakeEntries(b)
			if e != api.OK {
				continue
			}
			taken++
			if again, e := PutEntries(l); e != api.OK || !bytes.Equal(again, b) {
				t.Fatalf("%v was taken, and is encoded as %v, %d", b, again, e)
			}
		}
	}
	// Each node may be 63 numbers; lengths and noughts may be nothing else. Of the names' bytes, the first stays ahead of "ma" (and is no lone dot), the second between "a" and "z", the third may be any, the last stays behind "ma".
	names := "-.0123456789ABCDEFGHIJKLMNOPQRSTUVWXYZ_abcdefghijklmnopqrstuvwxyz"
	want := 3*63 + (96 - 3 - 4)
	for i := range len(names) {
		c := names[i : i+1]
		if c < "ma" && c != "." {
			want++
		}
		if c+"a" > "a" && c+"a" < "z" {
			want++
		}
		want++
		if c > "ma" {
			want++
		}
	}
	if taken != want {
		t.Errorf("%d were taken; want %d", taken, want)
	}
}

// R7: arguments stay as they are, and what is answered shares nothing with them.
func TestEntriesShareNothing(t *testing.T) {
	room := entries(16)
	b, _ := PutEntries(room[:3])
	if !slices.Equal(room, entries(16)) {
		t.Error("PutEntries changed its argument")
	}
	was := slices.Clone(b)
	clear(room)
	if !bytes.Equal(b, was) {
		t.Error("the bytes hang on the entries")
	}
	l, _ := TakeEntries(b)
	if !bytes.Equal(b, was) {
		t.Error("TakeEntries changed its argument")
	}
	clear(b)
	if !slices.Equal(l, entries(3)) {
		t.Error("the entries hang on the bytes")
	}
}
