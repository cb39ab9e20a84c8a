package catalog

import (
	"slices"
	"strings"

	"majordomo/api"
	"majordomo/resource"
)

// maxVersion is the greatest number that the two bytes of a version hold.
const maxVersion = 1<<16 - 1

// checkParts tells what is wrong with a catalog, but for the length of its encoding.
func checkParts(c api.Catalog) api.Errno {
	if c.Version < 0 || c.Version > maxVersion || !key(c.Node) {
		return api.ErrCatalog
	}
	if len(c.R) > api.MaxResources || len(c.E) > api.MaxEdges {
		return api.ErrLong
	}
	if e := checkResources(c.R); e != api.OK {
		return e
	}
	if blocked(c.R) {
		return api.ErrBlocked
	}
	if !soundEdges(c.E, len(c.R)) {
		return api.ErrEdge
	}
	return api.OK
}

// key asks for a group of this title, as a node's name is of the form that such titles have.
func key(s string) bool {
	return resource.Check(api.Resource{Type: api.TypeGroup, Title: s}) == api.OK
}

func checkResources(l []api.Resource) api.Errno {
	for i, r := range l {
		full, e := resource.Full(r)
		if e != api.OK {
			return e
		}
		if !slices.Equal(full.P, r.P) {
			return api.ErrCatalog
		}
		if i == 0 {
			continue
		}
		if resource.Less(r, l[i-1]) {
			return api.ErrCatalog
		}
		if !resource.Less(l[i-1], r) {
			return api.ErrTwice
		}
	}
	return api.OK
}

// blocked tells whether something is to be below a path at which no directory is to be. Paths of other names may stand between the two (/a, /a-b, /a/c), so each is held against each.
func blocked(l []api.Resource) bool {
	for _, above := range l {
		if above.Type != api.TypeFile || ensure(above) == "directory" {
			continue
		}
		for _, r := range l {
			if r.Type == api.TypeFile && ensure(r) != "absent" && strings.HasPrefix(r.Title, above.Title+"/") {
				return true
			}
		}
	}
	return false
}

func ensure(r api.Resource) string {
	state, _ := resource.Get(r, "ensure")
	return state
}

// soundEdges tells whether edges between n resources rise, and none leads to where it begins.
func soundEdges(l []api.Edge, n int) bool {
	for i, x := range l {
		if x.From < 0 || x.From >= n || x.To < 0 || x.To >= n || x.From == x.To {
			return false
		}
		if i > 0 && !rises(l[i-1], x) {
			return false
		}
	}
	return true
}

func rises(a, b api.Edge) bool {
	if a.From != b.From {
		return a.From < b.From
	}
	return a.To < b.To
}
