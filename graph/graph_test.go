package graph_test

import (
	"math/rand/v2"
	"slices"
	"testing"

	"shuttlecock/graph"
)

// closure tells what hangs on what, also by way of others.
func closure(on [][]int) [][]bool {
	reach := make([][]bool, len(on))
	for i, all := range on {
		reach[i] = make([]bool, len(on))
		for _, j := range all {
			reach[i][j] = true
		}
	}
	for k := range on {
		for i := range on {
			for j := range on {
				reach[i][j] = reach[i][j] || reach[i][k] && reach[k][j]
			}
		}
	}
	return reach
}

// order puts, one by one, the least one behind that has not come, if all on
// which it hangs have.
func order(on [][]int) []int {
	all := []int{}
	for {
		lacks := func(j int) bool { return !slices.Contains(all, j) }
		next := 0
		for next < len(on) && (!lacks(next) || slices.ContainsFunc(on[next], lacks)) {
			next++
		}
		if next == len(on) {
			return all
		}
		all = append(all, next)
	}
}

// holds asks of some things both in which order they come, and which hangs on
// itself first.
func holds(t *testing.T, on [][]int) bool {
	t.Helper()
	reach := closure(on)
	first := -1
	for i := range on {
		if reach[i][i] {
			first = i
			break
		}
	}
	if got := graph.First(on); got != first {
		t.Errorf("First of %v: %d, not %d", on, got, first)
	}
	want := order(on)
	if first >= 0 {
		want = nil
	}
	if got, is := graph.Order(on); is != (first < 0) || !slices.Equal(got, want) {
		t.Errorf("Order of %v: %v, %t, not %v", on, got, is, want)
	}
	return !t.Failed()
}

func TestOrder(t *testing.T) {
	for _, on := range [][][]int{
		nil,
		{},
		{nil},
		{{0}},
		{{1}, nil},
		{nil, {0}},
		{{2}, nil, nil},
		{{2, 1}, {2}, {3}, nil},
		{{3}, {3}, nil, {2, 2}, nil},
		{{1, 1}, {2, 2, 2}, {}},
		{{1}, {2}, {1}},
		{{1}, {2}, {2}},
		{nil, {3}, {2, 1}, {1}},
		{{1, 2}, {3}, {3}, {4}, {1, 5}, nil},
	} {
		holds(t, on)
	}
}

func TestAllSmallOnes(t *testing.T) {
	for n := range 5 {
		for bits := range 1 << (n * n) {
			on := make([][]int, n)
			for i := range n * n {
				if bits>>i&1 == 1 {
					on[i/n] = append(on[i/n], i%n)
				}
			}
			if !holds(t, on) {
				return
			}
		}
	}
}

func TestAny(t *testing.T) {
	for seed := range uint64(5000) {
		r := rand.New(rand.NewPCG(seed, 0))
		on := make([][]int, 5+r.IntN(8))
		for range r.IntN(3 * len(on)) {
			i := r.IntN(len(on))
			on[i] = append(on[i], r.IntN(len(on)))
		}
		kept := slices.Clone(on)
		for i := range kept {
			kept[i] = slices.Clone(on[i])
		}
		if !holds(t, on) {
			return
		}
		if !slices.EqualFunc(on, kept, slices.Equal[[]int]) {
			t.Fatal("what is handed in is changed")
		}
	}
}

// TestMany asks of a thousand things, of which each hangs on all behind it,
// or on all ahead of it: that takes no longer than there are pairs.
func TestMany(t *testing.T) {
	const many = 1000
	down, up := make([][]int, many), make([][]int, many)
	want := []int{}
	for i := range many {
		want = append(want, i)
		for j := range i {
			up[i] = append(up[i], j)
			down[j] = append(down[j], i)
		}
	}
	if got, is := graph.Order(up); !is || !slices.Equal(got, want) || graph.First(up) != -1 {
		t.Error("each hangs on all ahead of it: no order, or another one")
	}
	slices.Reverse(want)
	if got, is := graph.Order(down); !is || !slices.Equal(got, want) || graph.First(down) != -1 {
		t.Error("each hangs on all behind it: no order, or another one")
	}
	down[many-1] = []int{many - 1}
	if _, is := graph.Order(down); is || graph.First(down) != many-1 {
		t.Error("the last one hangs on itself")
	}
	down[many-1] = []int{many / 2}
	if _, is := graph.Order(down); is || graph.First(down) != many/2 {
		t.Error("the last one hangs on that in the middle")
	}
	down[many-1] = []int{0}
	if _, is := graph.Order(down); is || graph.First(down) != 0 {
		t.Error("the last one hangs on the first")
	}
}

// TestGreat asks of very many things, of which one half hangs on the other,
// each on one: whatever comes next is the least of all that wait.
func TestGreat(t *testing.T) {
	const half = 1 << 19
	on := make([][]int, 2*half)
	want := make([]int, 0, 2*half)
	for i := range half {
		on[i] = []int{half + i}
		want = append(want, half+i, i)
	}
	if got, is := graph.Order(on); !is || !slices.Equal(got, want) {
		t.Error("no order, or another one")
	}
}
