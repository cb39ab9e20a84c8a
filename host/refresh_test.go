package host_test

import (
	"strings"
	"testing"

	"majordomo/api"
)

func refresh(t *testing.T, x node, title string, e api.Errno) {
	t.Helper()
	want(t, "Refresh("+title+")", x.h.Refresh(title), e)
}

// P10.6: the second cell counts one more, and the service is owed no more, all in one Do.
func TestRefresh(t *testing.T) {
	for cell, next := range map[string]string{
		"0": "1", "1": "2", "8": "9", "9": "10", "99": "100", "41": "42", "999999998": "999999999", "99999999": "100000000",
		"007": "8", "000000000": "1", "000000099": "100", "099999999": "100000000",
		"999999999": "0",
		"":          "1", "x": "1", "-5": "1", "-": "1", "1.5": "1", "12a": "1", "a12": "1", "1_0": "1", "0x1": "1", "/": "1", "1e3": "1", "Ab": "1",
		"1000000000": "1", "9999999999": "1", "0000000001": "1", "0000000000": "1", strings.Repeat("9", 64): "1", strings.Repeat("0", 63) + "5": "1",
	} {
		for _, state := range []string{"running", "stopped", "", "odd/state"} {
			x := made(t, services("q:running:5\ns:"+state+":"+cell+"\nt:running:6\n"), owed("q", "s", "t"))
			x.wantOneDo(t, func() { refresh(t, x, "s", api.OK) }, services("q:running:5\ns:"+state+":"+next+"\nt:running:6\n"), owed("q", "t"))
			x.wantOwed(t, "q", "t")
			x.wantStill(t, func() { refresh(t, x, "s", api.OK) })
		}
	}
}

// P10.6: the last one that is owed leaves an empty file; the files have the modes 420 and 384 behind it.
func TestRefreshOfTheLastOne(t *testing.T) {
	x := made(t, fileOf("/tab/services", 7, longKey+":running:0\n"), fileOf("/run/owed", 7, longKey+"\n"))
	x.wantOneDo(t, func() { refresh(t, x, longKey, api.OK) }, services(longKey+":running:1\n"), owed())
	x.wantOwed(t)
}

// P10.6: without a row there is only what is owed to be laid; no table is made.
func TestRefreshWithoutARow(t *testing.T) {
	for _, l := range [][]api.Edit{
		nil, {services("")}, {services("r:running:1\ns.:running:2\nt:running:3\n")}, {file("/tab/groups", "s:1\n")}, {gone("/tab")}, {gone("/tab"), file("/tab", "")},
	} {
		x := made(t, append(l, owed("a", "s"))...)
		x.wantOneDo(t, func() { refresh(t, x, "s", api.OK) }, owed("a"))
		x.wantOneDo(t, func() { refresh(t, x, "a", api.OK) }, owed())
		x.wantStill(t, func() { refresh(t, x, "s", api.OK) })
	}
}

// P10.6: a service that is not owed is not refreshed.
func TestRefreshOfWhatIsNotOwed(t *testing.T) {
	for _, text := range []string{"", "a\n", "s.\n", "t\ns\n", "s", "S\n"} {
		for _, table := range []string{"s:running:1\n", "no table"} {
			x := made(t, services(table), fileOf("/run/owed", 7, text))
			x.wantStill(t, func() { refresh(t, x, "s", api.OK) })
		}
	}
	x := made(t, services("s:running:1\n"))
	x.wantStill(t, func() { refresh(t, x, "s", api.OK) })
}

// P10.6: what is no key is told first.
func TestRefreshOfNoKey(t *testing.T) {
	x := made(t, services("no table"), owed("a", "s"))
	for _, title := range []string{"", "a b", "a:b", "a\n", "\n", "a\ns", "a\x00", "\xc3\xa4", longKey + "k", "*", "s ", strings.Repeat("s", 100000)} {
		x.wantStill(t, func() { refresh(t, x, title, api.ErrRow) })
	}
	x.off()
	refresh(t, x, "a b", api.ErrRow)
}

// P10.6: where the table can't be read, or its text grows too long, the service stays owed.
func TestRefreshRefused(t *testing.T) {
	x := made(t, services("no table"), owed("a", "s"))
	x.wantStill(t, func() { refresh(t, x, "s", api.ErrCorrupt) })
	for _, l := range [][]api.Edit{{dir("/tab/services")}, {link("/tab/services", "s:running:1\n")}, {services("s:running\n")}, {services("s:running:1:2\n")}, {services("t:running:1\ns:running:1\n")}, {services("s:running:1")}} {
		x := made(t, append(l, owed("s"))...)
		x.wantStill(t, func() { refresh(t, x, "s", api.ErrCorrupt) })
		x.wantOwed(t, "s")
	}
	x = made(t, services(brimful("9")), owed("s"))
	x.wantStill(t, func() { refresh(t, x, "s", api.ErrLong) })
	x = made(t, services("s:running:1\n"), owed("s"), gone("/run"))
	x.wantStill(t, func() { refresh(t, x, "s", api.OK) })
}

// brimful is a services table of 2432 bytes, which has the row s with this second cell.
func brimful(cell string) string {
	text := "s:" + strings.Repeat("x", 64) + ":" + cell + "\n"
	head := ""
	for _, key := range numbered("k", 31) {
		left := 2432 - len(text) - len(head) - len(key) - 3
		if left <= 0 {
			break
		}
		first := min(left, 64)
		head += key + ":" + strings.Repeat("y", first) + ":" + strings.Repeat("0", min(left-first, 64)) + "\n"
	}
	return head + text
}

// P10.6: the bytes of the table and of what is owed count together.
func TestRefreshOfTooManyBytes(t *testing.T) {
	if n := len(brimful("8")); n != 2432 {
		t.Fatalf("%d bytes", n)
	}
	x := made(t, services(brimful("8")), owed("r", "s"))
	x.wantStill(t, func() { refresh(t, x, "s", api.ErrLong) })
	x = made(t, services(brimful("8")), owed("s"))
	x.wantOneDo(t, func() { refresh(t, x, "s", api.OK) }, services(brimful("9")), owed())
	x = made(t, services("s:running:8\n"), owed(append(numbered("key.", 269), "s")...)) // 2421 bytes are left, and 12
	x.wantStill(t, func() { refresh(t, x, "s", api.ErrLong) })
	x = made(t, services("s:runnin:8\n"), owed(append(numbered("key.", 269), "s")...))
	x.wantOneDo(t, func() { refresh(t, x, "s", api.OK) }, services("s:runnin:9\n"), owed(numbered("key.", 269)...))
}

func TestRefreshWithoutPower(t *testing.T) {
	x := made(t, services("s:running:8\n"), owed("s"))
	was := x.told(t)
	x.off()
	refresh(t, x, "s", api.ErrPower)
	if e := x.h.Refresh("t"); e != api.OK && e != api.ErrPower {
		t.Fatal(e)
	}
	x.d.Boot()
	if now := opened(t, x.d).told(t); now != was {
		t.Fatal(now)
	}
}
