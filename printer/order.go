package printer

import (
	"slices"

	"majordomo/api"
)

// inOrder tells whether nodes stand in the order in which they end: all but the last one below exactly one other.
func inOrder(nodes []api.Tree) bool {
	var ended []int // those that are below none yet
	for i, n := range nodes {
		from := len(ended) - len(n.L)
		// What is below a node is what has ended since it began, all of it.
		if from < 0 || !slices.Equal(ended[from:], n.L) {
			return false
		}
		ended = append(ended[:from], i)
	}
	return len(ended) == 1
}

// depth is that of the last node, which all others are below, in their order.
func depth(nodes []api.Tree) int {
	depths := make([]int, len(nodes))
	for i, n := range nodes {
		for _, below := range n.L {
			depths[i] = max(depths[i], depths[below])
		}
		depths[i]++
	}
	return depths[len(nodes)-1]
}
