package graph_test

import (
	"iter"
	"math"
	"slices"
	"testing"

	"majordomo/api"
	"majordomo/graph"
)

// links is edges, written From and To in turn.
func links(numbers ...int) []api.Edge {
	var l []api.Edge
	for i := 0; i < len(numbers); i += 2 {
		l = append(l, api.Edge{From: numbers[i], To: numbers[i+1]})
	}
	return l
}

// upTo is the numbers 0 to n - 1.
func upTo(n int) []int {
	var l []int
	for i := range n {
		l = append(l, i)
	}
	return l
}

// outside is numbers that are not from 0 to n - 1.
func outside(n int) []int {
	return []int{-1, -2, -32, -33, -256, math.MinInt32, math.MinInt, n, n + 1, n + 32, n + 256, n + 1<<16, n + 1<<32, math.MaxInt32, math.MaxInt}
}

// graphs is all sets of edges between n numbers, those that lead to where they begin too.
func graphs(n int) iter.Seq[[]api.Edge] {
	return func(yield func([]api.Edge) bool) {
		for bits := range 1 << (n * n) {
			var l []api.Edge
			for i := range n * n {
				if bits>>i&1 == 1 {
					l = append(l, api.Edge{From: i / n, To: i % n, Notify: i%3 == 0})
				}
			}
			if !yield(l) {
				return
			}
		}
	}
}

// dice is a fixed run of numbers, so that each test run asks the same.
type dice uint64

func (d *dice) below(n int) int {
	*d = *d*6364136223846793005 + 1442695040888963407
	return int(uint64(*d) >> 33 % uint64(n))
}

// graph is so many edges between n numbers. Of a hundred, about as many as back lead from a later number to an earlier one, or to where they begin, by a hidden order.
func (d *dice) graph(n, count, back int) []api.Edge {
	hidden := upTo(n)
	for i := range n {
		j := d.below(i + 1)
		hidden[i], hidden[j] = hidden[j], hidden[i]
	}
	var l []api.Edge
	for len(l) < count {
		i, j := d.below(n), d.below(n)
		if i < j || d.below(100) < back {
			l = append(l, api.Edge{From: hidden[i], To: hidden[j], Notify: d.below(2) == 1})
		}
	}
	return l
}

// selected is the order by the document's words: all edges are asked for each number, each time. What is left behind it can't be selected.
func selected(n int, l []api.Edge) (order, left []int) {
	left = upTo(n)
	for {
		at := slices.IndexFunc(left, func(i int) bool {
			return !slices.ContainsFunc(l, func(x api.Edge) bool { return x.To == i && slices.Contains(left, x.From) })
		})
		if at < 0 {
			return order, left
		}
		order = append(order, left[at])
		left = slices.Delete(left, at, at+1)
	}
}

// reachable is the numbers to which one comes along one or more edges: what is reached grows until no edge leads out of it.
func reachable(l []api.Edge, from int) []int {
	var reached []int
	for grows := true; grows; {
		grows = false
		for _, x := range l {
			if (x.From == from || slices.Contains(reached, x.From)) && !slices.Contains(reached, x.To) {
				reached = append(reached, x.To)
				grows = true
			}
		}
	}
	slices.Sort(reached)
	return reached
}

func wantOrder(t *testing.T, n int, l []api.Edge, want ...int) {
	t.Helper()
	order, cycle, e := graph.Order(n, l)
	if e != api.OK || len(cycle) > 0 || !slices.Equal(order, want) {
		t.Errorf("Order(%d, %v): %v, %v, %d; want %v", n, l, order, cycle, e, want)
	}
}

// wantCycle asks for ErrCycle and some cycle; any will do.
func wantCycle(t *testing.T, n int, l []api.Edge) {
	t.Helper()
	order, cycle, e := graph.Order(n, l)
	if e != api.ErrCycle || len(order) > 0 || !goesRound(l, cycle) {
		t.Errorf("Order(%d, %v): %v, %v, %d; want a cycle", n, l, order, cycle, e)
	}
}

// goesRound tells whether there is an edge from each number to the next one, and from the last one to the first one, and no number stands twice.
func goesRound(l []api.Edge, cycle []int) bool {
	for at, i := range cycle {
		next := cycle[(at+1)%len(cycle)]
		if slices.Contains(cycle[:at], i) || !slices.ContainsFunc(l, func(x api.Edge) bool { return x.From == i && x.To == next }) {
			return false
		}
	}
	return len(cycle) > 0
}

func wantBehind(t *testing.T, n int, l []api.Edge, from int, want ...int) {
	t.Helper()
	if b := graph.Behind(n, l, from); !slices.Equal(b, want) {
		t.Errorf("Behind(%d, %v, %d): %v; want %v", n, l, from, b, want)
	}
}

// wantNone asks for what no call takes, wherever one begins.
func wantNone(t *testing.T, n int, l []api.Edge) {
	t.Helper()
	if order, cycle, e := graph.Order(n, l); e != api.ErrArg || len(order) > 0 || len(cycle) > 0 {
		t.Errorf("Order(%d, %v): %v, %v, %d; want ErrArg", n, l, order, cycle, e)
	}
	for _, from := range append(upTo(api.MaxResources+2), outside(0)...) {
		wantBehind(t, n, l, from)
	}
}

// wantAll asks for what the document's words say of the edges.
func wantAll(t *testing.T, n int, l []api.Edge) {
	t.Helper()
	if order, left := selected(n, l); len(left) > 0 {
		wantCycle(t, n, l)
	} else {
		wantOrder(t, n, l, order...)
	}
	for from := range n {
		wantBehind(t, n, l, from, reachable(l, from)...)
	}
}
