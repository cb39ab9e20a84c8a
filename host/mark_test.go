package host_test

import (
	"bytes"
	"math"
	"testing"

	"majordomo/api"
)

// image is all the bytes of a disk but those of the block Counter.
func image(t *testing.T, x node) []byte {
	t.Helper()
	var l []byte
	for i := range x.d.Len() {
		if i == 1 {
			continue
		}
		b, e := x.d.Read(i)
		want(t, "Read", e, api.OK)
		l = append(l, b...)
	}
	return l
}

// P10.2: another mark is written to the one block; the one that is there is not written again.
func TestSetMark(t *testing.T) {
	x := made(t, owed("s"))
	rest := image(t, x)
	for _, c := range []struct {
		m api.Mark
		b []byte
	}{
		{api.Mark{Count: 1}, counter(0, 0, 0, 0, 0, 0, 0, 1)},
		{api.Mark{Count: 1, Pending: true}, counter(0, 0, 0, 0, 0, 0, 0, 1, 1)},
		{api.Mark{Count: 258, Pending: true}, counter(0, 0, 0, 0, 0, 0, 1, 2, 1)},
		{api.Mark{Count: 0x0102030405060708}, counter(1, 2, 3, 4, 5, 6, 7, 8)},
		{api.Mark{Count: math.MaxInt, Pending: true}, counter(0x7f, 0xff, 0xff, 0xff, 0xff, 0xff, 0xff, 0xff, 1)},
		{api.Mark{Count: 0, Pending: true}, counter(0, 0, 0, 0, 0, 0, 0, 0, 1)},
		{api.Mark{}, counter()},
		{api.Mark{Count: 1 << 40}, counter(0, 0, 1)},
	} {
		writes := x.d.Writes()
		want(t, "SetMark", x.h.SetMark(c.m), api.OK)
		if x.d.Writes() != writes+1 || x.h.Mark() != c.m {
			t.Fatalf("%v: %v, %d blocks written", c.m, x.h.Mark(), x.d.Writes()-writes)
		}
		if b, e := x.d.Read(1); e != api.OK || !bytes.Equal(b, c.b) {
			t.Fatalf("%v: %v; want %v", c.m, b, c.b)
		}
		if !bytes.Equal(image(t, x), rest) {
			t.Fatalf("%v: another block was written", c.m)
		}
		x.kept(t)
		x.wantStill(t, func() { want(t, "SetMark again", x.h.SetMark(c.m), api.OK) })
		y := x.clone(t)
		y.wantStill(t, func() { want(t, "SetMark of an opened one", y.h.SetMark(c.m), api.OK) })
	}
}

// P10.2: a mark below 0 is refused.
func TestSetMarkBelowNought(t *testing.T) {
	x := made(t)
	want(t, "SetMark", x.h.SetMark(api.Mark{Count: 5, Pending: true}), api.OK)
	for _, m := range []api.Mark{{Count: -1}, {Count: -1, Pending: true}, {Count: -5, Pending: true}, {Count: math.MinInt}} {
		x.wantStill(t, func() { want(t, "SetMark", x.h.SetMark(m), api.ErrArg) })
	}
	x.off()
	want(t, "SetMark without power", x.h.SetMark(api.Mark{Count: -1}), api.ErrArg)
	x.d.Boot()
	x.kept(t)
}

// P10.2, P10.7: a mark that is not written is not the mark.
func TestSetMarkWithoutPower(t *testing.T) {
	x := made(t)
	was := api.Mark{Count: 5, Pending: true}
	want(t, "SetMark", x.h.SetMark(was), api.OK)
	x.d.Fuse(0)
	for _, m := range []api.Mark{{Count: 6}, {Count: 5}, {Count: 6, Pending: true}} {
		want(t, "SetMark without power", x.h.SetMark(m), api.ErrPower)
		if x.h.Mark() != was {
			t.Fatal(x.h.Mark())
		}
	}
	x.wantStill(t, func() { want(t, "SetMark of the one that is there", x.h.SetMark(was), api.OK) })
	x.d.Boot()
	if m := opened(t, x.d).h.Mark(); m != was {
		t.Fatal(m)
	}
	want(t, "SetMark", x.h.SetMark(api.Mark{Count: 6}), api.OK)
	x.kept(t)
}
