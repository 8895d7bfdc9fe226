package runs_test

import (
	"cmp"
	"math"
	"slices"
	"strings"
	"testing"

	"sheaf/runs"
)

// line is a thing of several parts.
type line struct {
	day  int
	name string
}

func byName(a, b line) bool {
	return cmp.Or(strings.Compare(a.name, b.name), cmp.Compare(a.day, b.day)) < 0
}

func byDayDown(a, b line) bool {
	return cmp.Or(cmp.Compare(b.day, a.day), strings.Compare(a.name, b.name)) < 0
}

func down(a, b int) bool { return a > b }

// noise is numbers of no pattern, from 0 on, below n.
func noise(seed, n int) func() int {
	x := uint64(seed)*2862933555777941757 + 3037000493
	return func() int {
		x = x*6364136223846793005 + 1442695040888963407
		return int(x>>33) % n
	}
}

func times(n int, f func() int) []int {
	var l []int
	for range n {
		l = append(l, f())
	}
	return l
}

// upTo is n numbers that rise.
func upTo(n int) []int {
	i := 0
	return times(n, func() int { i++; return i })
}

// cut is all that Cut yields of l, with a Meter of its own.
func cut[T any](budget int, less func(a, b T) bool, l []T) []runs.Item[T] {
	return slices.Collect(runs.Cut(slices.Values(l), budget, less, &runs.Meter{}))
}

// items is the elements of lists, the first of which is run 0.
func items[T any](lists ...[]T) []runs.Item[T] {
	var all []runs.Item[T]
	for run, l := range lists {
		for _, x := range l {
			all = append(all, runs.Item[T]{Run: run, X: x})
		}
	}
	return all
}

// say is P11.2's sentence, done with a list and no heap: what is in memory stands in the
// order in which it came.
func say[T any](l []T, budget int, less func(a, b T) bool) []runs.Item[T] {
	var memory, out []runs.Item[T]
	give := func() runs.Item[T] {
		first := 0
		for i, x := range memory {
			y := memory[first]
			if x.Run < y.Run || x.Run == y.Run && less(x.X, y.X) {
				first = i
			}
		}
		x := memory[first]
		memory = slices.Delete(memory, first, first+1)
		out = append(out, x)
		return x
	}
	for _, x := range l {
		next := runs.Item[T]{X: x}
		if len(memory) == max(budget, 1) {
			gone := give()
			next.Run = gone.Run
			if less(x, gone.X) {
				next.Run++
			}
		}
		memory = append(memory, next)
	}
	for len(memory) > 0 {
		give()
	}
	return out
}

// holds asks of out all that P11.2 and P11.3 say of what l is cut into.
func holds[T comparable](t *testing.T, l []T, budget int, less func(a, b T) bool, out []runs.Item[T]) {
	t.Helper()
	if want := say(l, budget, less); !slices.Equal(out, want) {
		t.Errorf("%v by %d is %v, not %v", l, budget, out, want)
	}
	had := map[T]int{}
	for _, x := range l {
		had[x]++
	}
	run, size := 0, 0
	for i, x := range out {
		had[x.X]--
		switch {
		case x.Run == run+1 && size >= max(budget, 1):
			run, size = x.Run, 0
		case x.Run != run:
			t.Errorf("%v by %d: run %d behind %d things of run %d", l, budget, x.Run, size, run)
		case i > 0 && less(x.X, out[i-1].X):
			t.Errorf("%v by %d: run %d falls at %v", l, budget, run, x.X)
		}
		size++
	}
	for x, n := range had {
		if n != 0 {
			t.Errorf("%v by %d: %v is missing %d times", l, budget, x, n)
		}
	}
}

func TestChapter(t *testing.T) {
	// P11.2: the chapter's run.
	got := cut(2, cmp.Less[int], []int{3, 1, 4, 1, 5})
	if want := items([]int{1, 3, 4, 5}, []int{1}); !slices.Equal(got, want) {
		t.Errorf("%v, not %v", got, want)
	}
}

func TestEdges(t *testing.T) {
	for _, q := range []struct {
		name   string
		budget int
		l      []int
		want   [][]int
	}{
		{"nil", 3, nil, nil},
		{"empty", 3, []int{}, nil},
		{"one", 3, []int{7}, [][]int{{7}}},
		{"one by 1", 1, []int{7}, [][]int{{7}}},
		{"fewer than the budget", 3, []int{2, 1}, [][]int{{1, 2}}},
		{"as many", 3, []int{3, 1, 2}, [][]int{{1, 2, 3}}},
		{"one more, that goes in", 3, []int{3, 1, 2, 2}, [][]int{{1, 2, 2, 3}}},
		{"one more, that doesn't", 3, []int{3, 1, 2, 0}, [][]int{{1, 2, 3}, {0}}},
		{"just as great as what went out", 2, []int{1, 5, 1, 1}, [][]int{{1, 1, 1, 5}}},
		{"less by one than what went out", 2, []int{2, 5, 1, 1}, [][]int{{2, 5}, {1, 1}}},
		{"greater than the run before, less than what went out", 2, []int{4, 6, 5, 4, 4}, [][]int{{4, 5, 6}, {4, 4}}},
		{"budget 1 rises", 1, []int{1, 2, 3}, [][]int{{1, 2, 3}}},
		{"budget 1 falls", 1, []int{3, 2, 1}, [][]int{{3}, {2}, {1}}},
		{"budget 1, alike", 1, []int{2, 2, 2}, [][]int{{2, 2, 2}}},
		{"budget 1 up and down", 1, []int{1, 3, 2, 2, 4, 0}, [][]int{{1, 3}, {2, 2, 4}, {0}}},
		{"budget 0", 0, []int{1, 3, 2, 4}, [][]int{{1, 3}, {2, 4}}},
		{"budget -1", -1, []int{1, 3, 2, 4}, [][]int{{1, 3}, {2, 4}}},
		{"the least budget", math.MinInt, []int{1, 3, 2, 4}, [][]int{{1, 3}, {2, 4}}},
		{"the greatest budget", math.MaxInt, []int{4, 2, 3, 1}, [][]int{{1, 2, 3, 4}}},
		{"falls", 2, []int{6, 5, 4, 3, 2, 1}, [][]int{{5, 6}, {3, 4}, {1, 2}}},
		{"falls, and one is left", 3, []int{7, 6, 5, 4, 3, 2, 1}, [][]int{{5, 6, 7}, {2, 3, 4}, {1}}},
		{"rises", 2, []int{1, 2, 3, 4, 5}, [][]int{{1, 2, 3, 4, 5}}},
		{"rises by near order", 3, []int{3, 2, 1, 6, 5, 4}, [][]int{{1, 2, 3, 4, 5, 6}}},
		{"alike", 2, []int{9, 9, 9, 9, 9}, [][]int{{9, 9, 9, 9, 9}}},
		{"the next run fills up while this one goes out", 3, []int{7, 8, 9, 1, 2, 3, 4, 0}, [][]int{{7, 8, 9}, {1, 2, 3, 4}, {0}}},
		{"the ends of ints", 2, []int{math.MaxInt, math.MinInt, 0, math.MinInt}, [][]int{{math.MinInt, 0, math.MaxInt}, {math.MinInt}}},
	} {
		// P11.2: what goes out at which step, in which run.
		got := cut(q.budget, cmp.Less[int], q.l)
		if want := items(q.want...); !slices.Equal(got, want) {
			t.Errorf("%s: %v, not %v", q.name, got, want)
		}
		holds(t, q.l, q.budget, cmp.Less[int], got)
	}
}

func TestRunZeroIsFirst(t *testing.T) {
	// P11.2: of what falls by budget things, run k is the k-th budget of them.
	const budget, n = 4, 40
	l := upTo(n)
	slices.Reverse(l)
	for i, x := range cut(budget, cmp.Less[int], l) {
		if x.Run != i/budget || x.X != n-(i/budget+1)*budget+i%budget+1 {
			t.Errorf("number %d is %v", i, x)
		}
	}
}

func TestLastRuns(t *testing.T) {
	// P11.2: what is left may be of two runs, and goes out by run ahead of order.
	got := cut(4, cmp.Less[int], []int{5, 6, 7, 8, 1, 2})
	if want := items([]int{5, 6, 7, 8}, []int{1, 2}); !slices.Equal(got, want) {
		t.Errorf("%v, not %v", got, want)
	}
}

func TestAllShort(t *testing.T) {
	// P11.2, P11.3: each list of up to six of three numbers, each budget around its size.
	var lists func(l []int)
	lists = func(l []int) {
		for budget := -1; budget <= 7; budget++ {
			holds(t, l, budget, cmp.Less[int], cut(budget, cmp.Less[int], l))
		}
		if len(l) == 6 {
			return
		}
		for x := range 3 {
			lists(append(slices.Clone(l), x))
		}
	}
	lists(nil)
}

func TestMany(t *testing.T) {
	// P11.2, P11.3: fewer than the budget, as many, and many more, of few and of many kinds.
	for seed, q := range []struct{ n, kinds, budget int }{
		{500, 1000, 1}, {500, 1000, 2}, {500, 1000, 64}, {500, 3, 7}, {500, 2, 64},
		{500, 1000, 499}, {500, 1000, 500}, {500, 1000, 501}, {500, 1 << 30, 33},
	} {
		l := times(q.n, noise(seed, q.kinds))
		holds(t, l, q.budget, cmp.Less[int], cut(q.budget, cmp.Less[int], l))
		holds(t, l, q.budget, down, cut(q.budget, down, l))
	}
}

func TestOneRun(t *testing.T) {
	// P11.3: of what rises there is one run, whatever the budget is.
	same := slices.Repeat([]int{4}, 300)
	steps := times(300, noise(1, 100))
	slices.Sort(steps)
	for _, l := range [][]int{upTo(300), same, steps} {
		for _, budget := range []int{-5, 0, 1, 2, 63, 64, 299, 300, 301, 1 << 40} {
			got := cut(budget, cmp.Less[int], l)
			if want := items(l); !slices.Equal(got, want) {
				t.Errorf("by %d: %v", budget, got)
			}
		}
	}
}

func TestManyAlike(t *testing.T) {
	// P11.2: what is alike isn't held against all that it is alike with.
	const n = 100000
	for _, budget := range []int{1, 64, n / 2, n} {
		asked := 0
		less := func(a, b int) bool {
			if asked++; asked > 50*n {
				t.Fatalf("by %d: less was asked %d times about %d things", budget, asked, n)
			}
			return a < b
		}
		if got := cut(budget, less, make([]int, n)); !slices.Equal(got, items(make([]int, n))) {
			t.Errorf("by %d: %d things came out, or not in one run", budget, len(got))
		}
	}
}

func TestTypes(t *testing.T) {
	// P11.2: things of any type by an order that is handed in.
	names := []string{"pear", "fig", "", "plum", "fig", "apple", "\xff", "\x00", "kiwi", "date"}
	byEnd := func(a, b string) bool { return cmp.Or(cmp.Compare(len(b), len(a)), strings.Compare(a, b)) < 0 }
	var lines []line
	for i, day := range times(60, noise(3, 7)) {
		lines = append(lines, line{day, names[i%len(names)]})
	}
	floats := []float64{1, math.Inf(1), -2.5, math.NaN(), 7, math.Inf(-1), 1}
	for budget := range 12 {
		holds(t, names, budget, cmp.Less[string], cut(budget, cmp.Less[string], names))
		holds(t, names, budget, byEnd, cut(budget, byEnd, names))
		holds(t, lines, budget, byName, cut(budget, byName, lines))
		holds(t, lines, budget, byDayDown, cut(budget, byDayDown, lines))
	}
	got := cut(2, byDayDown, []line{{3, "b"}, {3, "a"}, {4, "a"}, {2, "z"}})
	if want := items([]line{{3, "a"}, {3, "b"}, {2, "z"}}, []line{{4, "a"}}); !slices.Equal(got, want) {
		t.Errorf("%v, not %v", got, want)
	}
	var runs []int
	for _, x := range cut(2, cmp.Less[float64], floats) {
		runs = append(runs, x.Run)
	}
	// In this order the one that is no number is less than all others.
	if want := []int{0, 0, 1, 1, 1, 2, 2}; !slices.Equal(runs, want) {
		t.Errorf("the floats' runs are %v, not %v", runs, want)
	}
}

func TestPointers(t *testing.T) {
	// P11.2: the things themselves go out, no copies.
	l := []*line{{3, "c"}, {1, "a"}, {2, "b"}}
	less := func(a, b *line) bool { return a.day < b.day }
	got := cut(2, less, l)
	if want := items([]*line{l[1], l[2], l[0]}); !slices.Equal(got, want) {
		t.Errorf("%v, not %v", got, want)
	}
}

func TestListsStay(t *testing.T) {
	// R2: rows that went through are what they were, their spare room too.
	whole := [][]int{{3, 9, 9}, {1, 9, 9}, {2, 9, 9}, {1, 9, 9}}
	var l [][]int
	for _, x := range whole {
		l = append(l, x[:1])
	}
	got := cut(2, func(a, b []int) bool { return a[0] < b[0] }, l)
	for i, want := range []int{1, 2, 3, 1} {
		if !slices.Equal(got[i].X, []int{want}) || !slices.Equal(got[i].X[:3], []int{want, 9, 9}) {
			t.Errorf("number %d is %v", i, got[i])
		}
	}
	for i, want := range []int{3, 1, 2, 1} {
		if !slices.Equal(whole[i], []int{want, 9, 9}) {
			t.Errorf("row %d is %v", i, whole[i])
		}
	}
}

func TestFirstOfTheLeast(t *testing.T) {
	// P11.2: the first of the least goes out, also where an order tells less than all.
	l := []line{{2, "a"}, {1, "b"}, {1, "c"}, {2, "d"}, {1, "e"}, {2, "f"}, {1, "g"}, {2, "h"}}
	byDay := func(a, b line) bool { return a.day < b.day }
	for budget := 1; budget <= len(l)+1; budget++ {
		holds(t, l, budget, byDay, cut(budget, byDay, l))
	}
	got := cut(len(l), byDay, l)
	want := items([]line{{1, "b"}, {1, "c"}, {1, "e"}, {1, "g"}, {2, "a"}, {2, "d"}, {2, "f"}, {2, "h"}})
	if !slices.Equal(got, want) {
		t.Errorf("%v, not %v", got, want)
	}
}

func TestNoOrder(t *testing.T) {
	// Of a less that is no order nothing is promised but that all ends; what is there
	// goes out once all the same, and the Meter goes back.
	coin := noise(5, 2)
	for name, less := range map[string]func(a, b int) bool{
		"always":      func(a, b int) bool { return true },
		"never":       func(a, b int) bool { return false },
		"not greater": func(a, b int) bool { return a <= b },
		"unlike":      func(a, b int) bool { return a != b },
		"in a ring":   func(a, b int) bool { return (b-a+9)%3 == 1 },
		"by chance":   func(a, b int) bool { return coin() == 0 },
		"nil":         nil,
	} {
		for budget := -1; budget < 20; budget++ {
			l := times(60, noise(budget+2, 9))
			m := &runs.Meter{}
			var out []int
			for x := range runs.Cut(slices.Values(l), budget, less, m) {
				out = append(out, x.X)
			}
			slices.Sort(out)
			slices.Sort(l)
			if !slices.Equal(out, l) || m.Now != 0 || m.Most != max(budget, 1) {
				t.Errorf("%s by %d: %v of %v, %v", name, budget, out, l, *m)
			}
		}
	}
}

func TestNil(t *testing.T) {
	// R1: no call panics.
	m := &runs.Meter{Now: 2, Most: 3}
	if got := slices.Collect(runs.Cut(nil, 2, cmp.Less[int], m)); got != nil || *m != (runs.Meter{Now: 2, Most: 3}) {
		t.Errorf("%v, %v", got, *m)
	}
	got := slices.Collect(runs.Cut(slices.Values([]int{3, 1, 2}), 2, nil, nil))
	if want := items([]int{3, 1, 2}); !slices.Equal(got, want) {
		t.Errorf("%v, not %v", got, want)
	}
}
