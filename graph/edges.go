package graph

import "majordomo/api"

// set tells for each number whether it is in it.
type set [api.MaxResources]bool

// edges tells for each number to which ones an edge leads from it. It is no greater for edges that occur often, and so is no walk along them longer.
type edges [api.MaxResources]set

// gather is the edges between n numbers, or ErrArg if there can't be so many numbers, or if an edge has an end that is none of them.
func gather(n int, l []api.Edge) (edges, api.Errno) {
	if n < 0 || n > api.MaxResources {
		return edges{}, api.ErrArg
	}
	var leads edges
	for _, x := range l {
		if x.From < 0 || x.From >= n || x.To < 0 || x.To >= n {
			return edges{}, api.ErrArg
		}
		leads[x.From][x.To] = true
	}
	return leads, api.OK
}
