package catalog_test

import (
	"bytes"
	"encoding/binary"
	"io"
	"regexp"
	"slices"
	"strings"
	"testing"

	"majordomo/api"
	"majordomo/catalog"
	"majordomo/resource"
)

// res is a resource as it is told; its parameters are written name and value in turn.
func res(kind, title string, words ...string) api.Resource {
	r := api.Resource{Type: kind, Title: title}
	for i := 0; i < len(words); i += 2 {
		r.P = append(r.P, api.Param{Name: words[i], Value: words[i+1]})
	}
	return r
}

// full is a resource with all its parameters.
func full(kind, title string, words ...string) api.Resource {
	r, e := resource.Full(res(kind, title, words...))
	if e != api.OK {
		panic(title)
	}
	return r
}

// inState is a file's resource in one of its states.
func inState(title, state string) api.Resource {
	if state == "link" {
		return full("file", title, "ensure", state, "target", "/x")
	}
	return full("file", title, "ensure", state)
}

func of(l ...api.Resource) api.Catalog { return api.Catalog{Version: 1, Node: "n1", R: l} }

func with(c api.Catalog, l ...api.Edge) api.Catalog {
	c.E = l
	return c
}

// services is so many resources, in order.
func services(n int) []api.Resource {
	var l []api.Resource
	for i := range n {
		l = append(l, full("service", "s"+string(rune('A'+i/26))+string(rune('a'+i%26))))
	}
	return l
}

// ahead is the first so many edges of all that lead from one of so many resources to another.
func ahead(of, count int) []api.Edge {
	var l []api.Edge
	for i := range of {
		for j := range of {
			if i != j && len(l) < count {
				l = append(l, api.Edge{From: i, To: j, Notify: (i+j)%3 == 0})
			}
		}
	}
	return l
}

func same(a, b api.Catalog) bool {
	return a.Version == b.Version && a.Node == b.Node && slices.Equal(a.E, b.E) && slices.EqualFunc(a.R, b.R, sameResource)
}

func sameResource(a, b api.Resource) bool {
	return a.Type == b.Type && a.Title == b.Title && slices.Equal(a.P, b.P)
}

// copied is a catalog that shares nothing with c.
func copied(c api.Catalog) api.Catalog {
	c.R = slices.Clone(c.R)
	for i := range c.R {
		c.R[i].P = slices.Clone(c.R[i].P)
	}
	c.E = slices.Clone(c.E)
	return c
}

// numbers is the types' numbers in an encoding.
var numbers = map[string]byte{"file": 1, "account": 2, "group": 3, "package": 4, "service": 5}

// laid is the bytes of a catalog by the document's words, sound or not; false if they have no room for it.
func laid(c api.Catalog) ([]byte, bool) {
	w := &writer{fits: c.Version >= 0 && c.Version < 65536}
	w.b = binary.BigEndian.AppendUint16(nil, uint16(c.Version))
	w.text(c.Node)
	w.byte(len(c.R))
	for _, r := range c.R {
		w.byte(int(numbers[r.Type]))
		w.fits = w.fits && numbers[r.Type] != 0
		w.text(r.Title)
		w.byte(len(r.P))
		for _, p := range r.P {
			w.text(p.Name)
			w.text(p.Value)
		}
	}
	w.byte(len(c.E))
	for _, x := range c.E {
		w.byte(x.From)
		w.byte(x.To)
		if x.Notify {
			w.byte(1)
		} else {
			w.byte(0)
		}
	}
	return w.b, w.fits
}

type writer struct {
	b    []byte
	fits bool
}

func (w *writer) byte(n int) {
	w.b = append(w.b, byte(n))
	w.fits = w.fits && n >= 0 && n < 256
}

func (w *writer) text(s string) {
	w.b = binary.BigEndian.AppendUint16(w.b, uint16(len(s)))
	w.b = append(w.b, s...)
	w.fits = w.fits && len(s) < 65536
}

// taken is the catalog that bytes are by the document's words.
func taken(b []byte) (api.Catalog, bool) {
	r := &source{in: bytes.NewReader(b), sound: true}
	c := api.Catalog{Version: r.number(2), Node: r.text()}
	for n := r.number(1); n > 0 && r.sound; n-- {
		x := api.Resource{Type: r.kind(), Title: r.text()}
		for m := r.number(1); m > 0 && r.sound; m-- {
			x.P = append(x.P, api.Param{Name: r.text(), Value: r.text()})
		}
		c.R = append(c.R, x)
	}
	for n := r.number(1); n > 0 && r.sound; n-- {
		x := api.Edge{From: r.number(1), To: r.number(1)}
		notify := r.number(1)
		x.Notify = notify == 1
		r.sound = r.sound && notify < 2
		c.E = append(c.E, x)
	}
	if !r.sound || r.in.Len() > 0 || verdict(c) != api.OK {
		return api.Catalog{}, false
	}
	return c, true
}

type source struct {
	in    *bytes.Reader
	sound bool
}

func (r *source) bytes(n int) []byte {
	b := make([]byte, n)
	if _, err := io.ReadFull(r.in, b); err != nil {
		r.sound = false
	}
	return b
}

func (r *source) number(size int) int {
	n := 0
	for _, x := range r.bytes(size) {
		n = n*256 + int(x)
	}
	return n
}

func (r *source) text() string { return string(r.bytes(r.number(2))) }

func (r *source) kind() string {
	n := r.number(1)
	for kind, x := range numbers {
		if int(x) == n {
			return kind
		}
	}
	r.sound = false
	return ""
}

var nodeForm = regexp.MustCompile(`^[A-Za-z0-9._/-]{1,32}$`)

// verdict is what Check answers by the document's words.
func verdict(c api.Catalog) api.Errno {
	if c.Version < 0 || c.Version > 65535 || !nodeForm.MatchString(c.Node) {
		return api.ErrCatalog
	}
	if len(c.R) > 32 || len(c.E) > 96 {
		return api.ErrLong
	}
	for i, r := range c.R {
		if e := resource.Check(r); e != api.OK {
			return e
		}
		if all, _ := resource.Full(r); !sameResource(all, r) {
			return api.ErrCatalog
		}
		if i > 0 {
			switch strings.Compare(r.Type+"\x00"+r.Title, c.R[i-1].Type+"\x00"+c.R[i-1].Title) {
			case -1:
				return api.ErrCatalog
			case 0:
				return api.ErrTwice
			}
		}
	}
	if inTheWay(c.R) {
		return api.ErrBlocked
	}
	last := -1
	for _, x := range c.E {
		inside := min(x.From, x.To) >= 0 && max(x.From, x.To) < len(c.R)
		if !inside || x.From == x.To || x.From*100+x.To <= last {
			return api.ErrEdge
		}
		last = x.From*100 + x.To
	}
	if b, _ := laid(c); len(b) > 2432 {
		return api.ErrLong
	}
	return api.OK
}

// inTheWay looks up, for each path at which something is to be, all paths above it.
func inTheWay(l []api.Resource) bool {
	states := map[string]string{}
	for _, r := range l {
		if r.Type == "file" {
			states[r.Title], _ = resource.Get(r, "ensure")
		}
	}
	for path, state := range states {
		if state == "absent" {
			continue
		}
		for at := strings.LastIndex(path, "/"); at > 0; at = strings.LastIndex(path[:at], "/") {
			if above, is := states[path[:at]]; is && above != "directory" {
				return true
			}
		}
	}
	return false
}

// wantSound asks for a catalog that is taken, encoded as the document says, and read back.
func wantSound(t *testing.T, c api.Catalog) {
	t.Helper()
	if e := catalog.Check(c); e != api.OK {
		t.Errorf("Check(%+v): %d", c, e)
	}
	want, _ := laid(c)
	b, e := catalog.Encode(c)
	if e != api.OK || !bytes.Equal(b, want) {
		t.Errorf("Encode(%+v): % x, %d; want % x", c, b, e, want)
	}
	again, e := catalog.Decode(want)
	if e != api.OK || !same(again, c) {
		t.Errorf("Decode(% x): %+v, %d; want %+v", want, again, e, c)
	}
}

// wantNot asks for a catalog that is refused; so are the bytes that it would have.
func wantNot(t *testing.T, c api.Catalog, want api.Errno) {
	t.Helper()
	if e := catalog.Check(c); e != want {
		t.Errorf("Check(%+v): %d; want %d", c, e, want)
	}
	if b, e := catalog.Encode(c); e != want || len(b) > 0 {
		t.Errorf("Encode(%+v): % x, %d; want %d", c, b, e, want)
	}
	if b, fits := laid(c); fits {
		wantNone(t, b)
	}
}

// want asks for a catalog that is taken if the error is OK, and refused with it otherwise.
func want(t *testing.T, c api.Catalog, e api.Errno) {
	t.Helper()
	if e == api.OK {
		wantSound(t, c)
	} else {
		wantNot(t, c, e)
	}
}

// wantNone asks for bytes that are no catalog's.
func wantNone(t *testing.T, b []byte) {
	t.Helper()
	c, e := catalog.Decode(b)
	if e != api.ErrCatalog || c.Version != 0 || c.Node != "" || len(c.R) > 0 || len(c.E) > 0 {
		t.Errorf("Decode(% x): %+v, %d", b, c, e)
	}
}
