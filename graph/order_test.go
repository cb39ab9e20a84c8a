package graph_test

import (
	"slices"
	"testing"

	"majordomo/api"
	"majordomo/graph"
)

// P8.1: the document's examples.
func TestOrderExamples(t *testing.T) {
	wantOrder(t, 3, links(2, 0), 1, 2, 0)
	wantCycle(t, 2, links(0, 1, 1, 0))
	wantOrder(t, 0, nil)
	wantNone(t, 33, nil)
	wantNone(t, 1, links(0, 1))
}

// P8.1: 0 to 32 numbers, and no others.
func TestCounts(t *testing.T) {
	for n := range 33 {
		wantOrder(t, n, nil, upTo(n)...)
		wantOrder(t, n, []api.Edge{}, upTo(n)...)
	}
	for _, n := range outside(33) {
		wantNone(t, n, nil)
		wantNone(t, n, []api.Edge{})
		wantNone(t, n, links(0, 1))
		wantNone(t, n, links(0, 0))
		wantNone(t, n, links(n, n))
	}
}

// P8.1: each end of an edge is one of the numbers, wherever the edge stands.
func TestEnds(t *testing.T) {
	for _, n := range []int{0, 1, 2, 5, 31, 32} {
		for _, i := range outside(n) {
			for _, bad := range []api.Edge{{From: i, To: 0}, {From: 0, To: i}, {From: i, To: i}, {From: i, To: n - 1, Notify: true}, {From: n - 1, To: i, Notify: true}} {
				wantNone(t, n, []api.Edge{bad})
				if n == 0 {
					continue
				}
				last := api.Edge{From: n - 1, To: n - 1}
				wantNone(t, n, []api.Edge{bad, last})
				wantNone(t, n, []api.Edge{last, bad})
				wantNone(t, n, []api.Edge{{}, bad, last})
			}
		}
	}
	wantNone(t, 0, links(0, 0))
	wantNone(t, 3, links(0, 1, 1, 0, 1, 3))
	wantNone(t, 3, append(links(0, 1, 1, 2), links(2, -1)...))
}

// P8.1: the least number that may be selected is, each time anew.
func TestLeast(t *testing.T) {
	wantOrder(t, 4, links(3, 0), 1, 2, 3, 0)
	wantOrder(t, 4, links(3, 0, 3, 1, 3, 2), 3, 0, 1, 2)
	wantOrder(t, 5, links(3, 0, 1, 2), 1, 2, 3, 0, 4)
	wantOrder(t, 5, links(2, 0, 4, 1), 2, 0, 3, 4, 1)
	wantOrder(t, 5, links(4, 3, 3, 2, 2, 1, 1, 0), 4, 3, 2, 1, 0)
	wantOrder(t, 5, links(0, 4, 4, 1, 1, 3), 0, 2, 4, 1, 3)
	wantOrder(t, 6, links(5, 0, 0, 1), 2, 3, 4, 5, 0, 1)
	wantOrder(t, 6, links(0, 5, 5, 1, 0, 2), 0, 2, 3, 4, 5, 1)
	// A number is selected once all that lead to it are, not one of them.
	wantOrder(t, 4, links(1, 0, 3, 0), 1, 2, 3, 0)
	wantOrder(t, 4, links(3, 0, 1, 0), 1, 2, 3, 0)
}

// P8.1: an edge counts once however often it stands, and whether it notifies is nothing to it.
func TestOftenAndNotify(t *testing.T) {
	wantOrder(t, 3, links(2, 0, 2, 0), 1, 2, 0)
	wantOrder(t, 3, links(2, 0, 1, 0, 2, 0, 2, 0, 1, 0), 1, 2, 0)
	wantCycle(t, 2, links(0, 1, 0, 1, 1, 0, 1, 0))
	wantOrder(t, 3, []api.Edge{{From: 2, To: 0, Notify: true}, {From: 2, To: 0}}, 1, 2, 0)
	wantOrder(t, 3, []api.Edge{{From: 2, To: 0}, {From: 1, To: 0, Notify: true}, {From: 2, To: 0, Notify: true}}, 1, 2, 0)
	wantCycle(t, 2, []api.Edge{{From: 0, To: 1, Notify: true}, {From: 1, To: 0}})
	wantCycle(t, 1, []api.Edge{{Notify: true}})
	l := slices.Repeat(links(31, 0, 30, 1), 100000)
	wantAll(t, 32, l[:20])
	if order, cycle, e := graph.Order(32, l); e != api.OK || len(cycle) > 0 || len(order) != 32 || order[29] != 1 || order[30] != 31 || order[31] != 0 {
		t.Errorf("edges that occur often: %v, %v, %d", order, cycle, e)
	}
}

// P8.1: a number with an edge to itself is never selected.
func TestSelf(t *testing.T) {
	for _, n := range []int{1, 2, 7, 31, 32} {
		for i := range n {
			if _, cycle, e := graph.Order(n, links(i, i)); e != api.ErrCycle || !slices.Equal(cycle, []int{i}) {
				t.Errorf("Order(%d, %d to itself): %v, %d", n, i, cycle, e)
			}
		}
	}
	wantCycle(t, 3, links(0, 1, 1, 2, 2, 2))
	wantCycle(t, 3, links(0, 0, 1, 1, 2, 2))
}

// P8.1: cycles of each length, also where numbers ahead of one were selected, and others behind it remain.
func TestCycles(t *testing.T) {
	for length := 1; length <= 32; length++ {
		var l []api.Edge
		for i := range length {
			l = append(l, api.Edge{From: i, To: (i + 1) % length})
		}
		for range 2 {
			order, cycle, e := graph.Order(32, l)
			if e != api.ErrCycle || len(order) > 0 || len(cycle) != length || !goesRound(l, cycle) {
				t.Errorf("Order(32, %v): %v, %v, %d", l, order, cycle, e)
			}
			for i := range l { // the same cycle the other way round
				l[i].From, l[i].To = l[i].To, l[i].From
			}
		}
	}
	for at := range 30 { // all lesser numbers are ahead of the cycle, all greater ones behind it
		l := links(at, at+1, at+1, at+2, at+2, at)
		for i := range 32 {
			if i < at || i > at+2 {
				l = append(l, api.Edge{From: min(i, at), To: max(i, at)})
			}
		}
		order, cycle, e := graph.Order(32, l)
		if e != api.ErrCycle || len(order) > 0 || len(cycle) != 3 || !goesRound(l, cycle) {
			t.Errorf("Order(32, %v): %v, %v, %d", l, order, cycle, e)
		}
	}
}

// P8.1: numbers that remain, but are no part of the one cycle.
func TestOutsideTheCycle(t *testing.T) {
	for _, l := range [][]api.Edge{
		links(2, 3, 3, 2, 3, 0, 0, 1),             // behind it, less than it
		links(2, 3, 3, 2, 1, 2, 0, 1),             // ahead of it
		links(2, 3, 3, 2, 3, 4, 4, 5),             // behind it, greater
		links(2, 3, 3, 2, 2, 0, 3, 1, 2, 4, 3, 5), // behind it, on both sides
		links(4, 2, 2, 3, 3, 2, 3, 0, 0, 5, 1, 5),
	} {
		order, cycle, e := graph.Order(6, l)
		if e != api.ErrCycle || len(order) > 0 || len(cycle) != 2 || !goesRound(l, cycle) {
			t.Errorf("Order(6, %v): %v, %v, %d", l, order, cycle, e)
		}
	}
	// Two cycles that touch: a walk that goes wrong stands twice in a number.
	wantCycle(t, 5, links(0, 1, 1, 2, 2, 0, 2, 3, 3, 4, 4, 2))
	wantCycle(t, 6, links(0, 1, 1, 0, 1, 2, 2, 3, 3, 4, 4, 3, 4, 5))
}

// P8.1, P8.3: of all orders that the edges permit, the one with the least numbers ahead; if they permit none, ErrCycle.
func TestOrderOfAll(t *testing.T) {
	for n := range 5 {
		orders := permutations(n)
		for l := range graphs(n) {
			at := slices.IndexFunc(orders, func(order []int) bool { return permitted(order, l) })
			if at < 0 {
				wantCycle(t, n, l)
			} else {
				wantOrder(t, n, l, orders[at]...)
			}
		}
	}
}

// permutations is all orders of n numbers, by rising numbers.
func permutations(n int) [][]int {
	out := [][]int{nil}
	for range n {
		var longer [][]int
		for _, l := range out {
			for i := range n {
				if !slices.Contains(l, i) {
					longer = append(longer, append(slices.Clone(l), i))
				}
			}
		}
		out = longer
	}
	return out
}

func permitted(order []int, l []api.Edge) bool {
	for _, x := range l {
		if slices.Index(order, x.From) >= slices.Index(order, x.To) {
			return false
		}
	}
	return true
}

// P8.1, P8.2: many numbers and edges.
func TestMany(t *testing.T) {
	d := dice(8)
	for range 2000 {
		n := 1 + d.below(32)
		if d.below(3) == 0 {
			n = 32
		}
		back := []int{0, 0, 1, 5, 50}[d.below(5)]
		most := 1 + d.below(2*n+1)
		if n == 1 {
			back = 100
		}
		wantAll(t, n, d.graph(n, d.below(most), back))
	}
}

// P8.1: as many edges as there may be between 32 numbers, and more.
func TestFull(t *testing.T) {
	var rising, falling, all []api.Edge
	for i := range 32 {
		for j := range 32 {
			if i < j {
				rising = append(rising, api.Edge{From: i, To: j})
				falling = append(falling, api.Edge{From: j, To: i})
			}
			all = append(all, api.Edge{From: i, To: j})
		}
	}
	down := upTo(32)
	slices.Reverse(down)
	wantOrder(t, 32, rising, upTo(32)...)
	wantOrder(t, 32, falling, down...)
	wantOrder(t, 32, slices.Repeat(falling, 50), down...)
	wantCycle(t, 32, all)
	wantCycle(t, 32, append(rising, falling...))
	wantCycle(t, 32, append(slices.Clone(falling), api.Edge{From: 0, To: 31}))
}

// P8.3: in an order each edge leads from an earlier number to a later one, and there is none just where a number is reachable from itself.
func TestConsequences(t *testing.T) {
	ask := func(n int, l []api.Edge) {
		order, _, e := graph.Order(n, l)
		round := slices.ContainsFunc(upTo(n), func(i int) bool { return slices.Contains(graph.Behind(n, l, i), i) })
		if round != (e == api.ErrCycle) || !round && (e != api.OK || !permitted(order, l) || len(order) != n) {
			t.Errorf("Order(%d, %v): %v, %d; a number reachable from itself: %v", n, l, order, e, round)
		}
	}
	for n := range 4 {
		for l := range graphs(n) {
			ask(n, l)
		}
	}
	d := dice(3)
	for range 3000 {
		n := 2 + d.below(31)
		ask(n, d.graph(n, d.below(3*n), d.below(4)))
	}
}
