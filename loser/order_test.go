package loser_test

import (
	"cmp"
	"math"
	"slices"
	"testing"

	"sheaf/loser"
)

// order is an order of numbers, or none, and what it goes by.
type order struct {
	name string
	less func(a, b int) bool
}

// strict reports whether less is a strict order of 0 to n - 1.
func strict(n int, less func(a, b int) bool) bool {
	for a := range n {
		for b := range n {
			if less(a, b) && less(b, a) {
				return false
			}
			for c := range n {
				if less(a, b) && less(b, c) && !less(a, c) {
					return false
				}
			}
		}
	}
	return true
}

// P9.2: a strict order may leave things side by side, and a third one less than one of
// them alone.
func TestOrdersThatLeaveThingsSideBySide(t *testing.T) {
	floats := []float64{3, math.NaN(), 1, 2, math.NaN(), 0, math.Inf(-1), math.NaN(), -1, math.Inf(1)}
	for _, q := range []order{
		{"a part of the bits", func(a, b int) bool { return a != b && a&b == a }},
		{"a divisor", func(a, b int) bool { return a < b && (b+1)%(a+1) == 0 }},
		{"less by both halves", func(a, b int) bool { return a%8 < b%8 && a/8 < b/8 }},
		{"less by far", func(a, b int) bool { return a+20 < b }},
		{"floats that may be no number", func(a, b int) bool { return floats[a%10] < floats[b%10] }},
		{"never", func(a, b int) bool { return false }},
	} {
		t.Run(q.name, func(t *testing.T) {
			if !strict(64, q.less) {
				t.Fatal("that is no strict order")
			}
			for seed := range 60 {
				merging(t, func(a, b thing) bool { return q.less(a.key, b.key) }, noisy(seed, seed%20, 12, 64)...).drain()
			}
		})
	}
}

// P9.2: the last one is less than the first one, and neither is held against the one
// between; at each place among some that are greater than all.
func TestALesserOneBehindOneBeside(t *testing.T) {
	less := func(a, b string) bool {
		return a == "least" && b == "greater" || a != "greatest" && b == "greatest"
	}
	for a := range 9 {
		for b := range 9 {
			for c := range 9 {
				lists := slices.Repeat([][]string{{"greatest"}}, 9)
				lists[a], lists[b], lists[c] = []string{"greater"}, []string{"beside"}, []string{"least", "greatest"}
				merging(t, less, lists...).drain()
			}
		}
	}
}

// P9.2: each strict order of four things, of which four sources have two, in some ways.
func TestEachStrictOrderOfFour(t *testing.T) {
	const n = 4
	for code := range 1 << (n * n) {
		less := func(a, b int) bool { return code>>(a*n+b)&1 == 1 }
		if !strict(n, less) {
			continue
		}
		for seed := range 40 {
			next := noise(seed, n)
			lists := make([][]int, n)
			for i := range lists {
				lists[i] = []int{next(), next()}
			}
			merging(t, less, lists...).drain()
		}
	}
}

// Orders that are none: all ends. (Of what comes out nothing is promised, but that
// nothing is doubled or lost on the way is why all ends.)
func TestOrdersThatAreNone(t *testing.T) {
	turn := 0
	for _, q := range []order{
		{"always", func(a, b int) bool { return true }},
		{"not above", func(a, b int) bool { return a <= b }},
		{"unlike", func(a, b int) bool { return a != b }},
		{"round in a ring", func(a, b int) bool { return (b-a+300)%3 == 1 }},
		{"another each time", func(a, b int) bool { turn++; return turn*turn%7 < 3 }},
		{"by the first", func(a, b int) bool { return a%2 == 0 }},
		{"by the second", func(a, b int) bool { return b%2 == 0 }},
		{"none at all", nil},
	} {
		t.Run(q.name, func(t *testing.T) {
			less := func(a, b thing) bool { return q.less(a.key, b.key) }
			if q.less == nil {
				less = nil
			}
			for k := range 20 {
				lists := noisy(k, k, 9, 5)
				allEnds(t, less, lists)
			}
		})
	}
}

// allEnds holds that each thing of lists comes out once, each source's own in order.
func allEnds(t *testing.T, less func(a, b thing) bool, lists [][]thing) {
	t.Helper()
	var asked []int
	tree := loser.New(less, sources(&asked, lists)...)
	rest := slices.Clone(lists)
	for range slices.Concat(lists...) {
		x, i, ok := tree.Next()
		if !ok || i < 0 || i >= len(rest) || len(rest[i]) == 0 || rest[i][0] != x {
			t.Fatalf("Next is %v of %d, %v; left is %v", x, i, ok, rest)
		}
		rest[i] = rest[i][1:]
	}
	if x, i, ok := tree.Next(); x != (thing{}) || i != -1 || ok || tree.Live() != 0 {
		t.Fatalf("Next of nothing is %v of %d, %v, and Live is %d", x, i, ok, tree.Live())
	}
	if want := len(lists) + len(slices.Concat(lists...)); len(asked) != want {
		t.Fatalf("asked were %d, not %d", len(asked), want)
	}
}

// R1, R4: nil less is taken as an order under which all are alike, a nil source as one
// that has nothing, and no tree as one of no sources.
func TestNil(t *testing.T) {
	one := source([]int{3, 2})
	tree := loser.New(nil, nil, one, nil, source([]int{1}))
	if tree.Live() != 2 {
		t.Fatalf("Live is %d, not 2", tree.Live())
	}
	if got := slices.Collect(loser.All(tree)); !slices.Equal(got, []int{3, 2, 1}) {
		t.Fatalf("All yields %v", got)
	}
	for _, tree := range []*loser.Tree[int]{nil, {}, loser.New[int](nil), loser.New[int](nil, nil)} {
		for x := range loser.All(tree) {
			t.Fatalf("All of nothing yields %d", x)
		}
	}
}

// R2: the list of sources is neither changed nor kept, nor is the room behind it.
func TestTheListOfSourcesIsTheCallers(t *testing.T) {
	wrong := func() (int, bool) { t.Error("that is no source"); return 0, true }
	asked := 0
	spare := func() (int, bool) { asked++; return 0, false }
	room := []func() (int, bool){source([]int{1, 4}), source([]int{2, 3}), spare, spare}
	tree := loser.New(cmp.Less[int], room[:2]...)
	room[2]()
	room[3]()
	if asked != 2 {
		t.Fatalf("the room behind the list is changed: %d", asked)
	}
	for i := range room {
		room[i] = wrong
	}
	if got := slices.Collect(loser.All(tree)); !slices.Equal(got, []int{1, 2, 3, 4}) {
		t.Fatalf("All yields %v", got)
	}
}

// R2: what a source answers goes through as it is.
func TestListsAndPointersGoThrough(t *testing.T) {
	lists := make([][]int, 6)
	for i := range lists {
		lists[i] = []int{i * 5 % 6, i, -1, -2}
	}
	pick := func(at ...int) (out [][]int) {
		for _, i := range at {
			out = append(out, lists[i][:2])
		}
		return out
	}
	tree := loser.New(func(a, b []int) bool { return a[0] < b[0] }, source(pick(0, 5, 1)), source(pick(4, 3, 2)))
	for _, want := range []int{0, 5, 4, 3, 2, 1} {
		x, _, ok := tree.Next()
		if !ok || &x[0] != &lists[want][0] || len(x) != 2 || !slices.Equal(x[:4], []int{want * 5 % 6, want, -1, -2}) {
			t.Fatalf("Next is %v, %v, not list %d", x, ok, want)
		}
		x[0] = 100
	}
}

// P9.1, P9.2: two trees, each over sources of its own, know nothing of each other.
func TestTwoTreesBesideEachOther(t *testing.T) {
	a, b := merging(t, byKey, noisy(1, 6, 20, 5)...), merging(t, byKey, noisy(2, 3, 30, 7)...)
	for i := range 60 {
		a.next()
		b.stands()
		if i%2 == 0 {
			b.next()
			a.stands()
		}
	}
	a.ranges(func(yield func(thing) bool) {
		for x := range loser.All(a.tree) {
			b.next()
			if !yield(x) {
				return
			}
		}
	}, math.MaxInt)
	a.ends()
	a.drain()
	b.drain()
}

// P9.3, of many sources. (How often less is asked is no promise; but a merge that holds
// each against each would ask some thousands of times for each thing here.)
func TestManySources(t *testing.T) {
	const k, n = 1 << 12, 16
	next := noise(1, math.MaxInt)
	for _, q := range []struct {
		name string
		f    func(i, j int) int
	}{
		{"by turns", func(i, j int) int { return j*k + i }},
		{"by turns, the last one first", func(i, j int) int { return j*k - i }},
		{"one behind the other", func(i, j int) int { return i*n + j }},
		{"the last one first", func(i, j int) int { return j - i*n }},
		{"any order", func(i, j int) int { return next() }},
	} {
		var list []func() (int, bool)
		var want []int
		for i := range k {
			var l []int
			for j := range n {
				l = append(l, q.f(i, j))
			}
			slices.Sort(l)
			list = append(list, source(l))
			want = append(want, l...)
		}
		slices.Sort(want)
		calls := 0
		tree := loser.New(func(a, b int) bool { calls++; return a < b }, list...)
		if got := slices.Collect(loser.All(tree)); !slices.Equal(got, want) {
			t.Errorf("%s: not all come out by their order", q.name)
		}
		if calls > 100*k*n {
			t.Errorf("%s: less was asked %d times for each", q.name, calls/(k*n))
		}
	}
}
