package graph_test

import (
	"slices"
	"testing"

	"majordomo/api"
	"majordomo/graph"
)

// P8.2: the document's example, and the others that it implies.
func TestBehindExamples(t *testing.T) {
	l := links(0, 1, 1, 3)
	wantBehind(t, 4, l, 0, 1, 3)
	wantBehind(t, 4, l, 1, 3)
	wantBehind(t, 4, l, 2)
	wantBehind(t, 4, l, 3)
}

// P8.2: one begins at one of the numbers.
func TestFrom(t *testing.T) {
	for _, n := range []int{0, 1, 2, 4, 31, 32} {
		var l []api.Edge
		for i := range n {
			l = append(l, api.Edge{From: i, To: (i + 1) % n})
		}
		for i := range n {
			wantBehind(t, n, l, i, upTo(n)...)
		}
		for _, from := range outside(n) {
			wantBehind(t, n, l, from)
			wantBehind(t, n, nil, from)
		}
	}
	wantBehind(t, 32, links(0, 31), 32)
	wantBehind(t, 2, links(1, 0), -1)
}

// P8.2: a number is behind itself only if one comes back to it.
func TestBehindItself(t *testing.T) {
	wantBehind(t, 1, nil, 0)
	wantBehind(t, 1, links(0, 0), 0, 0)
	wantBehind(t, 3, links(0, 1, 1, 1), 0, 1)
	wantBehind(t, 3, links(0, 1, 1, 1), 1, 1)
	wantBehind(t, 3, links(0, 1, 1, 0), 0, 0, 1)
	wantBehind(t, 4, links(1, 2, 2, 3, 3, 1), 2, 1, 2, 3)
	wantBehind(t, 4, links(0, 2, 2, 3, 3, 2), 0, 2, 3)
}

// P8.2: rising numbers, each once, however the edges stand.
func TestBehindRises(t *testing.T) {
	wantBehind(t, 6, links(2, 5, 2, 0, 0, 4, 5, 1, 4, 1), 2, 0, 1, 4, 5)
	wantBehind(t, 6, links(4, 1, 5, 1, 0, 4, 2, 0, 2, 5, 2, 0, 0, 4), 2, 0, 1, 4, 5)
	wantBehind(t, 3, []api.Edge{{From: 0, To: 2, Notify: true}, {From: 0, To: 2}, {From: 2, To: 1}, {From: 0, To: 2}}, 0, 1, 2)
	var down []api.Edge
	for i := range 31 {
		down = append(down, api.Edge{From: i + 1, To: i})
	}
	for i := range 32 {
		wantBehind(t, 32, down, i, upTo(i)...)
	}
	wantBehind(t, 32, slices.Repeat(down, 10000), 31, upTo(31)...)
}

// P8.2: edges that go round elsewhere are in nobody's way.
func TestBehindWithCycles(t *testing.T) {
	l := links(0, 1, 1, 0, 2, 3, 3, 4)
	wantCycle(t, 5, l)
	wantBehind(t, 5, l, 2, 3, 4)
	wantBehind(t, 5, l, 4)
	wantBehind(t, 5, l, 1, 0, 1)
}

// P8.2: all graphs of few numbers.
func TestBehindOfAll(t *testing.T) {
	for n := range 5 {
		for l := range graphs(n) {
			for from := range n {
				wantBehind(t, n, l, from, reachable(l, from)...)
			}
		}
	}
}

// R6, R7: arguments stay as they are, answers are the caller's, and the same is answered again.
func TestArgumentsAndAnswers(t *testing.T) {
	for _, l := range [][]api.Edge{links(2, 0, 3, 1, 2, 0), links(2, 0, 0, 3, 3, 2, 3, 1)} {
		room := append(slices.Clone(l), links(7, 8, 9, 10)...)
		before := slices.Clone(room)
		given := room[:len(l)]
		order, cycle, e := graph.Order(4, given)
		behind := graph.Behind(4, given, 2)
		keptOrder, keptCycle, keptBehind := slices.Clone(order), slices.Clone(cycle), slices.Clone(behind)
		for _, answer := range [][]int{order, cycle, behind} {
			whole := answer[:cap(answer)]
			for i := range whole {
				whole[i] = -7
			}
		}
		if !slices.Equal(room, before) {
			t.Errorf("edges %v became %v", before, room)
		}
		again, round, e2 := graph.Order(4, given)
		if !slices.Equal(again, keptOrder) || !slices.Equal(round, keptCycle) || e != e2 || !slices.Equal(graph.Behind(4, given, 2), keptBehind) {
			t.Errorf("asked again for %v: %v, %v, %d; before %v, %v, %d", l, again, round, e2, keptOrder, keptCycle, e)
		}
	}
}
