package catalog_test

import (
	"bytes"
	"math/rand"
	"slices"
	"strings"
	"testing"

	"majordomo/api"
	"majordomo/catalog"
	"majordomo/resource"
)

// text is a short text in an encoding.
func text(s string) string { return "\x00" + string(rune(len(s))) + s }

// rich is a catalog of all types and states, with edges.
func rich() api.Catalog {
	return api.Catalog{Version: 0x1234, Node: "web/1", R: each(), E: []api.Edge{{From: 0, To: 1}, {From: 2, To: 1, Notify: true}, {From: 2, To: 11}, {From: 11, To: 0, Notify: true}}}
}

// P7.2: the bytes of a catalog, one by one.
func TestBytes(t *testing.T) {
	for _, x := range []struct {
		c    api.Catalog
		want string
	}{
		{api.Catalog{Node: "n1"}, "\x00\x00\x00\x02n1\x00\x00"},
		{api.Catalog{Version: 65535, Node: "n"}, "\xff\xff\x00\x01n\x00\x00"},
		{api.Catalog{Version: 258, Node: strings.Repeat("m", 32)}, "\x01\x02\x00\x20" + strings.Repeat("m", 32) + "\x00\x00"},
		{of(full("service", "ssh")), "\x00\x01\x00\x02n1\x01\x05\x00\x03ssh\x01\x00\x06ensure\x00\x07running\x00"},
		{of(full("file", "/a")), "\x00\x01\x00\x02n1\x01\x01\x00\x02/a\x03" + text("content") + text("") + text("ensure") + text("file") + text("mode") + text("0644") + "\x00"},
		{
			with(of(full("account", "ann"), full("file", "/b", "content", "\x00\xff\n"), full("group", "ops", "ensure", "absent"), full("package", "vim", "version", "1-2"), full("service", "ssh", "ensure", "stopped")),
				api.Edge{From: 0, To: 4}, api.Edge{From: 1, To: 4, Notify: true}, api.Edge{From: 3, To: 2}),
			"\x00\x01" + text("n1") + "\x05" +
				"\x02" + text("ann") + "\x04" + text("ensure") + text("present") + text("group") + text("users") + text("shell") + text("/bin/sh") + text("uid") + text("1000") +
				"\x01" + text("/b") + "\x03" + text("content") + "\x00\x03\x00\xff\n" + text("ensure") + text("file") + text("mode") + text("0644") +
				"\x03" + text("ops") + "\x01" + text("ensure") + text("absent") +
				"\x04" + text("vim") + "\x02" + text("ensure") + text("present") + text("version") + text("1-2") +
				"\x05" + text("ssh") + "\x01" + text("ensure") + text("stopped") +
				"\x03\x00\x04\x00\x01\x04\x01\x03\x02\x00",
		},
	} {
		b, e := catalog.Encode(x.c)
		if e != api.OK || string(b) != x.want {
			t.Errorf("Encode(%+v): %q, %d; want %q", x.c, b, e, x.want)
		}
		c, e := catalog.Decode([]byte(x.want))
		if e != api.OK || !same(c, x.c) {
			t.Errorf("Decode(%q): %+v, %d; want %+v", x.want, c, e, x.c)
		}
	}
}

// P7.2, P7.3: lengths take two bytes, counts one.
func TestLengths(t *testing.T) {
	for _, n := range []int{0, 1, 2, 127, 128, 254, 255, 256, 257, 300, 511, 512} {
		c := of(full("file", "/a", "content", strings.Repeat("\xff", n)))
		want := "\x00\x07content" + string([]byte{byte(n / 256), byte(n % 256)}) + strings.Repeat("\xff", n) + "\x00\x06ensure"
		if b, e := catalog.Encode(c); e != api.OK || !strings.Contains(string(b), want) {
			t.Errorf("%d: %q, %d", n, b, e)
		}
		wantSound(t, c)
	}
	title := strings.Repeat("/abcdefghijklmn", 8)
	wantSound(t, of(inState(title, "file")))
	wantNot(t, of(full("file", "/a"), res("file", title+"o")), api.ErrTitle)
	wantSound(t, with(of(services(32)...), ahead(32, 96)...))
	wantSound(t, with(of(services(32)...), api.Edge{From: 31, To: 30, Notify: true}))
	wantSound(t, rich())
}

// some is catalogs of many kinds.
func some() []api.Catalog {
	return []api.Catalog{
		{Node: "n"}, {Version: 65535, Node: strings.Repeat("n", 32)}, of(services(1)...), with(of(services(3)...), ahead(3, 6)...), rich(),
		of(full("file", "/a", "content", strings.Repeat("\x00", 300))), with(of(services(32)...), ahead(32, 96)...), of(each()...), sized(2432, 3), sized(2431, 0),
	}
}

// P7.3: bytes that are cut anywhere, or have something behind or ahead of them, are no catalog's.
func TestCut(t *testing.T) {
	for _, c := range some() {
		b, e := catalog.Encode(c)
		if e != api.OK {
			t.Fatal(c, e)
		}
		for n := range b {
			wantNone(t, b[:n])
			wantNone(t, b[n+1:])
			wantNone(t, b[:n:n])
		}
		for x := range 256 {
			wantNone(t, append(slices.Clone(b), byte(x)))
			wantNone(t, append(slices.Clone(b), byte(x), 0, 0))
		}
		wantNone(t, append([]byte{0}, b...))
		wantNone(t, append(slices.Clone(b), b...))
		wantNone(t, append(slices.Clone(b), make([]byte, 100000)...))
	}
	wantNone(t, nil)
	wantNone(t, []byte{})
}

// wantTaken holds Decode against the document's words, and asks that what is taken is encoded so again.
func wantTaken(t *testing.T, b []byte) bool {
	t.Helper()
	want, is := taken(b)
	if !is {
		wantNone(t, b)
		return false
	}
	c, e := catalog.Decode(b)
	if e != api.OK || !same(c, want) {
		t.Errorf("Decode(% x): %+v, %d; want %+v", b, c, e, want)
	}
	if again, e := catalog.Encode(c); e != api.OK || !bytes.Equal(again, b) {
		t.Errorf("Encode(%+v): % x, %d; want % x", c, again, e, b)
	}
	return true
}

// P7.3: each byte of some encodings changed, dropped, or doubled.
func TestChanged(t *testing.T) {
	for _, c := range some()[:8] {
		b, _ := catalog.Encode(c)
		yes, no := 0, 0
		for i := range b {
			for x := range 256 {
				if len(b) > 100 && x > 6 && x != int(b[i])-1 && x != int(b[i])+1 && x != int(b[i])^128 && x != 255 {
					continue
				}
				changed := slices.Clone(b)
				changed[i] = byte(x)
				if wantTaken(t, changed) {
					yes++
				} else {
					no++
				}
			}
			wantTaken(t, slices.Delete(slices.Clone(b), i, i+1))
			wantTaken(t, slices.Insert(slices.Clone(b), i, b[i]))
		}
		if yes < 2 || no < 2 {
			t.Errorf("%+v: %d taken, %d not", c, yes, no)
		}
	}
}

// P7.3: no other numbers stand for types, nor for whether an edge notifies.
func TestNumbers(t *testing.T) {
	for kind, number := range numbers {
		c, gone := of(full(kind, "/a")), of(res(kind, "/a", "ensure", "absent"))
		for x := range 256 {
			b, _ := laid(c)
			b[7] = byte(x)
			if x == int(number) {
				wantSound(t, c)
			} else {
				wantNone(t, b)
			}
			// What is absent has no more parameters, so that the number alone tells the type.
			b, _ = laid(gone)
			b[7] = byte(x)
			if is := wantTaken(t, b); is != (x >= 1 && x <= 4) {
				t.Errorf("% x: taken %v", b, is)
			}
		}
	}
	c := with(of(services(2)...), api.Edge{From: 0, To: 1})
	for x := range 256 {
		b, _ := laid(c)
		b[len(b)-1] = byte(x)
		if is := wantTaken(t, b); is != (x < 2) {
			t.Errorf("% x: taken %v", b, is)
		}
	}
}

// P7.3: any bytes, and pieces of encodings put together anyhow.
func TestAnyBytes(t *testing.T) {
	dice := rand.New(rand.NewSource(7))
	for x := range 256 {
		wantNone(t, []byte{byte(x)})
		for y := range 256 {
			wantNone(t, []byte{byte(x), byte(y)})
			wantTaken(t, []byte{0, 0, 0, 1, 'n', byte(x), byte(y)})
			wantTaken(t, []byte{0, 0, 0, byte(x), 'n', 'n', byte(y), 0})
		}
		for _, n := range []int{7, 8, 100, 2432, 2433, 70000} {
			wantNone(t, bytes.Repeat([]byte{byte(x)}, n))
		}
	}
	var pieces [][]byte
	for _, c := range some() {
		b, _ := catalog.Encode(c)
		pieces = append(pieces, b)
	}
	for range 20000 {
		a, b := pieces[dice.Intn(len(pieces))], pieces[dice.Intn(len(pieces))]
		wantTaken(t, append(slices.Clone(a[:dice.Intn(len(a)+1)]), b[dice.Intn(len(b)+1):]...))
		noise := make([]byte, dice.Intn(40))
		for i := range noise {
			noise[i] = byte(dice.Intn(1 + dice.Intn(256)))
		}
		wantTaken(t, noise)
	}
}

// anyCatalog is a sound one: resources and edges of many, by dice, as many as there is room for.
func anyCatalog(dice *rand.Rand) api.Catalog {
	c := api.Catalog{Version: dice.Intn(65536), Node: []string{"n1", "n2", "n", "a/b"}[dice.Intn(4)]}
	titles := []string{"/a", "/a/b", "/a/b/c", "/a-", "/b", "/b/a", "x", "y"}
	kinds := []string{"account", "file", "file", "file", "file", "file", "file", "group", "package", "service"}
	for range dice.Intn(16) {
		r := api.Resource{Type: kinds[dice.Intn(len(kinds))], Title: titles[dice.Intn(len(titles))]}
		switch dice.Intn(4) {
		case 0:
			r.P = []api.Param{{Name: "ensure", Value: "absent"}}
		case 1:
			r.P = []api.Param{{Name: "ensure", Value: map[bool]string{true: "directory", false: "stopped"}[r.Type == "file"]}}
		case 2:
			r.P = []api.Param{{Name: "content", Value: strings.Repeat("x", dice.Intn(513))}}
		}
		r, e := resource.Full(r)
		next := c
		next.R = append(slices.Clone(c.R), r)
		slices.SortFunc(next.R, func(a, b api.Resource) int {
			return strings.Compare(a.Type+"\x00"+a.Title, b.Type+"\x00"+b.Title)
		})
		if e == api.OK && verdict(next) == api.OK {
			c = next
		}
	}
	for _, x := range ahead(len(c.R), 96) {
		next := with(c, append(slices.Clone(c.E), api.Edge{From: x.From, To: x.To, Notify: dice.Intn(2) == 0})...)
		if dice.Intn(3) == 0 && verdict(next) == api.OK {
			c = next
		}
	}
	return c
}

// spoil changes something of a catalog, which may be sound after it.
func spoil(dice *rand.Rand, c *api.Catalog) {
	i, j := dice.Intn(len(c.R)+1), dice.Intn(len(c.R)+1)
	switch dice.Intn(10) {
	case 0:
		c.Version += 65536 * dice.Intn(2)
		c.Node += []string{"", " "}[dice.Intn(2)]
	case 1:
		if i < len(c.R) && j < len(c.R) {
			c.R[i], c.R[j] = c.R[j], c.R[i]
		}
	case 2:
		if i < len(c.R) {
			c.R = slices.Insert(c.R, j, c.R[i])
		}
	case 3:
		if i < len(c.R) && len(c.R[i].P) > 0 {
			c.R[i].P = c.R[i].P[1:]
		}
	case 4:
		if i < len(c.R) {
			c.R[i].Title = []string{"/a", "/b", "x", "", "/tab"}[dice.Intn(5)]
		}
	case 5:
		if i < len(c.R) {
			c.R[i].Type = []string{"file", "group", "service", "disk"}[dice.Intn(4)]
		}
	case 6, 9:
		state := []string{"file", "directory", "link", "absent"}[dice.Intn(4)]
		for i, r := range c.R {
			if r.Type == "file" && len(r.Title) == 2 {
				c.R[i].P = inState("/a", state).P
				break
			}
		}
	case 7:
		c.E = append(c.E, api.Edge{From: i, To: j, Notify: dice.Intn(2) == 0})
	case 8:
		if len(c.E) > 0 {
			c.E[dice.Intn(len(c.E))].To = j
		}
	}
}

// P7.1, P7.2, P7.3, P7.5: many catalogs, sound or spoilt, against the document's words; no two sound ones have the same bytes.
func TestAnyCatalogs(t *testing.T) {
	dice := rand.New(rand.NewSource(5))
	seen := map[string]api.Catalog{}
	count := map[api.Errno]int{}
	for range 6000 {
		c := anyCatalog(dice)
		for range 3 {
			e := verdict(c)
			want(t, c, e)
			count[e]++
			if b, _ := catalog.Encode(c); e == api.OK {
				if other, is := seen[string(b)]; is && !same(other, c) {
					t.Errorf("%+v and %+v: % x", c, other, b)
				}
				seen[string(b)] = c
			}
			c = copied(c)
			spoil(dice, &c)
		}
	}
	for _, e := range []api.Errno{api.OK, api.ErrCatalog, api.ErrTwice, api.ErrType, api.ErrTitle, api.ErrParam, api.ErrBlocked, api.ErrEdge} {
		if count[e] < 100 {
			t.Errorf("%d only %d times: %v", e, count[e], count)
		}
	}
}

// P7.5: catalogs that differ in one thing alone have different bytes, and each is read back.
func TestDifferent(t *testing.T) {
	a, b := full("file", "/a"), full("file", "/b")
	l := []api.Catalog{
		of(), of(a), of(b), of(a, b), {Version: 256, Node: "n1"}, {Node: "n1"}, {Version: 1, Node: "n"}, {Version: 1, Node: "n11"}, {Version: 1, Node: "N1"},
		of(full("file", "/a", "content", "x")), of(full("file", "/a", "content", "\x00")), of(full("file", "/a", "content", "\x00\x00")), of(full("file", "/a", "mode", "0600")), of(full("file", "/ab")),
		of(inState("/a", "directory")), of(inState("/a", "link")), of(inState("/a", "absent")), of(full("file", "/a", "ensure", "directory", "purge", "true")),
		of(full("group", "/a")), of(full("account", "/a")), of(full("package", "/a")), of(full("service", "/a")),
		of(full("group", "/a", "ensure", "absent")), of(full("account", "/a", "ensure", "absent")), of(full("package", "/a", "ensure", "absent")),
		with(of(a, b), api.Edge{From: 0, To: 1}), with(of(a, b), api.Edge{From: 1, To: 0}), with(of(a, b), api.Edge{From: 0, To: 1, Notify: true}), with(of(a, b), api.Edge{From: 1, To: 0, Notify: true}),
		with(of(a, b), api.Edge{From: 0, To: 1}, api.Edge{From: 1, To: 0}), with(of(a, b), api.Edge{From: 0, To: 1, Notify: true}, api.Edge{From: 1, To: 0}), with(of(a, b), api.Edge{From: 0, To: 1}, api.Edge{From: 1, To: 0, Notify: true}),
		of(full("file", "/a", "content", "\x00\x06ensure")), of(full("file", "/a", "content", "\x00\x01\x01")),
	}
	seen := map[string]int{}
	for i, c := range l {
		wantSound(t, c)
		b, _ := catalog.Encode(c)
		if j, is := seen[string(b)]; is {
			t.Errorf("%+v and %+v: % x", l[j], c, b)
		}
		seen[string(b)] = i
	}
}

// P7.4: the first of a type and a title, in any catalog.
func TestFind(t *testing.T) {
	c := api.Catalog{Version: -1, R: []api.Resource{
		res("service", "b"), res("file", "/a", "ensure", "no"), res("disk", ""), {}, res("file", "/a"), res("file", "/"), res("group", "b"), res("", "/a"), res("service", "b", "ensure", "running"),
	}, E: []api.Edge{{From: -1, To: 99}}}
	for _, x := range []struct {
		kind, title string
		want        int
	}{
		{"service", "b", 0}, {"file", "/a", 1}, {"disk", "", 2}, {"", "", 3}, {"file", "/", 5}, {"group", "b", 6}, {"", "/a", 7},
		{"file", "b", -1}, {"group", "/a", -1}, {"service", "", -1}, {"", "b", -1}, {"file", "/a/", -1}, {"fil", "/a", -1}, {"file", "a", -1}, {"File", "/a", -1}, {"file", "/A", -1}, {"file/a", "", -1}, {"", "file/a", -1},
	} {
		if i := catalog.Find(c, x.kind, x.title); i != x.want {
			t.Errorf("Find(%q, %q): %d; want %d", x.kind, x.title, i, x.want)
		}
		if i := catalog.Find(api.Catalog{Node: "n1"}, x.kind, x.title); i != -1 {
			t.Errorf("Find(%q, %q): %d in none", x.kind, x.title, i)
		}
	}
	whole := rich()
	for i, r := range whole.R {
		if j := catalog.Find(whole, r.Type, r.Title); j != i {
			t.Errorf("Find(%q, %q): %d; want %d", r.Type, r.Title, j, i)
		}
	}
	many := of(services(500)...)
	if i := catalog.Find(many, "service", many.R[499].Title); i != 499 {
		t.Error(i)
	}
}

// R7: a call changes no argument, nor its spare room, and no answer shares anything with one.
func TestShareNothing(t *testing.T) {
	c := rich()
	for i := range c.R {
		c.R[i].P = append(c.R[i].P, api.Param{Name: "spare"})[:len(c.R[i].P)]
	}
	c.R = append(c.R, res("disk", "spare"))[:len(c.R)]
	c.E = append(c.E, api.Edge{From: 7, To: 7})[:len(c.E)]
	was := copied(c)
	b, e := catalog.Encode(c)
	if e != api.OK || catalog.Check(c) != api.OK || catalog.Find(c, "service", "ssh") != 11 {
		t.Fatal(e)
	}
	if !same(c, was) || c.R[:len(c.R)+1][len(c.R)].Title != "spare" || c.E[:len(c.E)+1][len(c.E)].From != 7 || c.R[0].P[:len(c.R[0].P)+1][len(c.R[0].P)].Name != "spare" {
		t.Errorf("an argument was changed: %+v", c)
	}
	bytesWere := slices.Clone(b)
	room := append(slices.Clone(b), 1, 2, 3)
	d, e := catalog.Decode(room[:len(b)])
	if e != api.OK || !same(d, was) || string(room) != string(bytesWere)+"\x01\x02\x03" {
		t.Errorf("Decode: %+v, %d; % x", d, e, room)
	}
	clear(room)
	clear(c.R)
	clear(c.E)
	if !same(d, was) || !bytes.Equal(b, bytesWere) {
		t.Errorf("an answer hangs on an argument: %+v", d)
	}
	other, _ := catalog.Decode(b)
	for i := range other.R {
		_ = append(other.R[i].P, api.Param{Name: "more"})
		clear(other.R[i].P)
		if i+1 < len(was.R) && !sameResource(other.R[i+1], was.R[i+1]) {
			t.Errorf("two lists of an answer hang together: %+v", other.R[i+1])
		}
	}
	clear(b)
	if again, _ := catalog.Encode(was); !same(d, was) || !bytes.Equal(again, bytesWere) {
		t.Errorf("a call hangs on the one before: % x", again)
	}
}
