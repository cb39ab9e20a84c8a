package catalog

import "majordomo/api"

// ended is panicked with where bytes end too early.
type ended struct{}

// caught is the error that a panic stands for.
func caught(x any) api.Errno {
	switch x.(type) {
	case ended:
		return api.ErrCatalog
	default: // a fault that nobody foresaw comes of bytes that nobody foresaw
		return api.ErrCatalog
	}
}

// reader takes the parts of a catalog from the bytes that are left.
type reader struct{ rest []byte }

// decode reads a catalog, sound or not, and panics where the bytes end too early. Bytes behind it are left.
func decode(b []byte) api.Catalog {
	r := reader{b}
	c := api.Catalog{Version: r.number(), Node: r.text()}
	for range r.count() {
		c.R = append(c.R, r.resource())
	}
	for range r.count() {
		c.E = append(c.E, r.edge())
	}
	return c
}

func (r *reader) resource() api.Resource {
	x := api.Resource{Type: typeOf(r.count()), Title: r.text()}
	for range r.count() {
		x.P = append(x.P, api.Param{Name: r.text(), Value: r.text()})
	}
	return x
}

// edge need not look for bytes other than 0 and 1: Decode refuses them, since no edge is encoded so.
func (r *reader) edge() api.Edge {
	return api.Edge{From: r.count(), To: r.count(), Notify: r.count() == 1}
}

// typeOf is the type that a number stands for; the empty text, which is none, for any other number.
func typeOf(n int) string {
	if n < 1 || n > len(types) {
		return ""
	}
	return types[n-1]
}

func (r *reader) text() string { return string(r.take(r.number())) }

// number is a number of two bytes, count one of one byte.
func (r *reader) number() int {
	b := r.take(2)
	return int(b[0])<<8 | int(b[1])
}

func (r *reader) count() int { return int(r.take(1)[0]) }

func (r *reader) take(n int) []byte {
	if n > len(r.rest) {
		panic(ended{})
	}
	b := r.rest[:n]
	r.rest = r.rest[n:]
	return b
}
