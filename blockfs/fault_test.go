package blockfs

import (
	"testing"

	"majordomo/api"
	"majordomo/journal"
)

// R1: whatever is panicked with, a call answers an error for it.
func TestCaught(t *testing.T) {
	for x, want := range map[any]api.Errno{
		impossible{}: api.ErrCorrupt, failed{api.ErrPower}: api.ErrPower, failed{api.ErrCorrupt}: api.ErrCorrupt, "a fault": api.ErrCorrupt, 7: api.ErrCorrupt,
	} {
		if e := caught(x); e != want {
			t.Errorf("caught(%v): %d; want %d", x, e, want)
		}
	}
}

// panicked is what a call panicked with.
func panicked(call func()) (x any) {
	defer func() { x = recover() }()
	call()
	return nil
}

// R1: what can't be is panicked with, and nothing else.
func TestImpossible(t *testing.T) {
	p := &pool{l: []int{4}}
	s := shelf{false, true}
	for i, c := range []struct {
		call func()
		want any
	}{
		{func() { p.take() }, nil}, {func() { p.take() }, impossible{}},
		{func() { s.claim(0) }, nil}, {func() { s.claim(0) }, impossible{}}, {func() { s.claim(1) }, impossible{}}, {func() { s.claim(2) }, impossible{}},
		{func() { sure(api.OK) }, nil}, {func() { sure(api.ErrLong) }, impossible{}},
	} {
		if x := panicked(c.call); x != c.want {
			t.Errorf("%d: %v; want %v", i, x, c.want)
		}
	}
}

// R1, R2: a Do that its journal does not take is told, and changes nothing.
func TestNoJournal(t *testing.T) {
	d, f := made(t, 512, dir("/a"))
	f.journal = &journal.Journal{}
	writes := d.Writes()
	wantDo(t, f, api.ErrCorrupt, dir("/b"))
	wantTree(t, f, plain{"/": {kind: api.KindDir, mode: 493}, "/a": {kind: api.KindDir, mode: 493}})
	if d.Writes() != writes {
		t.Errorf("%d writes", d.Writes()-writes)
	}
}
