package host_test

import (
	"strings"
	"testing"

	"majordomo/api"
)

// P10.3: bytes are staged in one Do of one file, and once.
func TestStage(t *testing.T) {
	x := made(t, owed("s"))
	for _, text := range []string{"x", "", "\x00\xff\n", strings.Repeat("y", 2432), strings.Repeat("y", 2431), strings.Repeat("z", 2431), "x"} {
		x.wantOneDo(t, func() { want(t, "Stage", x.h.Stage([]byte(text)), api.OK) }, fileOf("/run/catalog", 384, text))
		x.wantStaged(t, text)
		x.wantStill(t, func() { want(t, "Stage again", x.h.Stage([]byte(text)), api.OK) })
		y := x.clone(t)
		y.wantStaged(t, text)
		y.wantStill(t, func() { want(t, "Stage of an opened one", y.h.Stage([]byte(text)), api.OK) })
	}
}

// P10.3: no bytes are staged only where the file is.
func TestStageOfNone(t *testing.T) {
	for _, b := range [][]byte{nil, {}} {
		x := made(t)
		x.wantOneDo(t, func() { want(t, "Stage", x.h.Stage(b), api.OK) }, fileOf("/run/catalog", 384, ""))
		x.wantStill(t, func() { want(t, "Stage again", x.h.Stage(b), api.OK) })
		x.wantStaged(t, "")
	}
}

// P10.3: the file is read whatever its mode is; what is laid has the mode 384.
func TestStagedOfOtherModes(t *testing.T) {
	for _, m := range []int{0, 420, 511, 4095} {
		x := made(t, fileOf("/run/catalog", m, "x"))
		x.wantStaged(t, "x")
		x.wantStill(t, func() { want(t, "Stage", x.h.Stage([]byte("x")), api.OK) })
		x.wantOneDo(t, func() { want(t, "Stage", x.h.Stage([]byte("xy")), api.OK) }, fileOf("/run/catalog", 384, "xy"))
	}
}

// P10.3: what is no file has nothing staged, and is not replaced.
func TestStageWhereNoFileIs(t *testing.T) {
	for _, c := range []struct {
		l    []api.Edit
		code api.Errno
	}{
		{[]api.Edit{link("/run/catalog", "x")}, api.ErrKind},
		{[]api.Edit{dir("/run/catalog")}, api.ErrKind},
		{[]api.Edit{gone("/run")}, api.ErrNoEntry},
		{[]api.Edit{gone("/run"), file("/run", "x")}, api.ErrKind},
		{[]api.Edit{gone("/run"), link("/run", "/tab"), file("/tab/catalog", "x")}, api.ErrKind},
	} {
		x := made(t, c.l...)
		x.wantStaged(t, "")
		for _, text := range []string{"x", "", "other"} {
			x.wantStill(t, func() { want(t, "Stage", x.h.Stage([]byte(text)), c.code) })
		}
	}
}

// P10.3: the errors of Do are told, and what is staged stays.
func TestStageRefused(t *testing.T) {
	x := made(t, fileOf("/run/catalog", 384, "x"))
	for _, n := range []int{2433, 5000, 100000} {
		x.wantStill(t, func() { want(t, "Stage", x.h.Stage(make([]byte, n)), api.ErrLong) })
	}
	x.fill(t, 37)
	x.wantStill(t, func() { want(t, "Stage", x.h.Stage(make([]byte, 2432)), api.ErrFull) })
	x.wantStaged(t, "x")
	x.wantOneDo(t, func() { want(t, "Stage", x.h.Stage(make([]byte, 2368)), api.OK) }, fileOf("/run/catalog", 384, string(make([]byte, 2368))))
}

// R7: bytes that are staged are not those that were handed in.
func TestStageKeepsNothing(t *testing.T) {
	x := made(t)
	room := []byte("abcdef")
	want(t, "Stage", x.h.Stage(room[:3]), api.OK)
	if string(room) != "abcdef" {
		t.Fatalf("%q", room)
	}
	copy(room, "xyz")
	x.wantStaged(t, "abc")
	x.kept(t)
}

// P10.3: what is staged already is so without power, too.
func TestStageWithoutPower(t *testing.T) {
	x := made(t, fileOf("/run/catalog", 384, "x"))
	x.off()
	want(t, "Stage", x.h.Stage([]byte("y")), api.ErrPower)
	if e := x.h.Stage([]byte("x")); e != api.OK && e != api.ErrPower {
		t.Fatal(e)
	}
	x.d.Boot()
	opened(t, x.d).wantStaged(t, "x")
}
