package runs_test

import (
	"cmp"
	"iter"
	"slices"
	"testing"

	"sheaf/runs"
)

// source is an iterator that counts what is asked of it.
type source struct {
	m *runs.Meter
	// begun is how often it was ranged over, taken how many the last range took, and
	// ended whether that one came to its end.
	begun, taken int
	ended        bool
	// now is what m told as the last range began, and behind each that it took.
	now []int
}

func (s *source) over(l []int) iter.Seq[int] {
	return func(yield func(int) bool) {
		s.begun++
		s.taken, s.ended, s.now = 0, false, []int{s.m.Now}
		for _, x := range l {
			s.taken++
			if !yield(x) {
				return
			}
			s.now = append(s.now, s.m.Now)
		}
		s.ended = true
	}
}

func TestMeterAdd(t *testing.T) {
	// P11.1: each step, and Now and Most behind it.
	m := &runs.Meter{}
	for _, q := range []struct{ n, now, most int }{
		{0, 0, 0}, {3, 3, 3}, {-1, 2, 3}, {1, 3, 3}, {1, 4, 4}, {0, 4, 4}, {-4, 0, 4},
		{4, 4, 4}, {-9, -5, 4}, {9, 4, 4}, {-9, -5, 4}, {10, 5, 5}, {1 << 20, 1<<20 + 5, 1<<20 + 5},
		{-1 << 20, 5, 1<<20 + 5},
	} {
		m.Add(q.n)
		if m.Now != q.now || m.Most != q.most {
			t.Fatalf("behind Add(%d): %v, not %d and %d", q.n, *m, q.now, q.most)
		}
	}
}

func TestMeterBelowNought(t *testing.T) {
	// P11.1: Most is nought, as Now was at first, while Now is below it.
	m := &runs.Meter{}
	m.Add(-3)
	m.Add(2)
	if *m != (runs.Meter{Now: -1, Most: 0}) {
		t.Errorf("%v", *m)
	}
	m.Add(2)
	if *m != (runs.Meter{Now: 1, Most: 1}) {
		t.Errorf("%v", *m)
	}
}

func TestMeterByHand(t *testing.T) {
	// P11.1: Now was 5, however it came to be that.
	m := &runs.Meter{Now: 5}
	m.Add(-2)
	if *m != (runs.Meter{Now: 3, Most: 5}) {
		t.Errorf("%v", *m)
	}
	m = &runs.Meter{Now: -5, Most: -4}
	m.Add(3)
	if *m != (runs.Meter{Now: -2, Most: -2}) {
		t.Errorf("%v", *m)
	}
}

func TestMeterModel(t *testing.T) {
	// P11.1: the sum of what was added, and the greatest of those sums.
	next := noise(11, 21)
	m, now, most := &runs.Meter{}, 0, 0
	for range 5000 {
		n := next() - 10
		m.Add(n)
		now += n
		most = max(most, now)
		if *m != (runs.Meter{Now: now, Most: most}) {
			t.Fatalf("%v, not %d and %d", *m, now, most)
		}
	}
}

// cases are lists and budgets, of which some have all in memory, and some don't.
func cases(each func(l []int, budget int)) {
	for _, n := range []int{0, 1, 2, 3, 4, 5, 9, 30} {
		for _, budget := range []int{-3, 0, 1, 2, 3, 4, 8, 29, 30, 31, 100} {
			each(times(n, noise(n, 10)), budget)
			each(upTo(n), budget)
		}
	}
}

func TestMeterAtEachYield(t *testing.T) {
	// P11.2: what goes out is taken from the Meter ahead of the yield, and what takes its
	// place is Added behind it; P11.1: Most is as many as were in memory.
	for _, start := range []runs.Meter{{}, {Now: 5, Most: 6}, {Now: 5, Most: 1000}, {Now: -7, Most: 0}} {
		cases(func(l []int, budget int) {
			m := start
			room := max(budget, 1)
			i := 0
			for range runs.Cut(slices.Values(l), budget, cmp.Less[int], &m) {
				if want := start.Now + min(room-1, len(l)-1-i); m.Now != want {
					t.Errorf("%v by %d: at yield %d Now is %d, not %d", l, budget, i, m.Now, want)
				}
				i++
			}
			want := start
			if len(l) > 0 {
				want.Most = max(start.Most, start.Now+min(room, len(l)))
			}
			if m != want {
				t.Errorf("%v by %d: %v, not %v", l, budget, m, want)
			}
		})
	}
}

func TestMeterAsTaken(t *testing.T) {
	// P11.2: behind each that is taken there are as many in memory as may be.
	cases(func(l []int, budget int) {
		m := &runs.Meter{Now: 3, Most: 3}
		s := &source{m: m}
		for range runs.Cut(s.over(l), budget, cmp.Less[int], m) {
		}
		for i, now := range s.now {
			if want := 3 + min(i, max(budget, 1)); now != want {
				t.Errorf("%v by %d: behind %d that were taken Now is %d, not %d", l, budget, i, now, want)
			}
		}
		if s.begun != 1 || s.taken != len(l) || !s.ended {
			t.Errorf("%v by %d: %d were taken by %d ranges", l, budget, s.taken, s.begun)
		}
	})
}

func TestTakenByThen(t *testing.T) {
	// P11.2: as long as s has more, one is taken for each that goes out, and one stands in
	// the door: none more.
	cases(func(l []int, budget int) {
		m := &runs.Meter{}
		s := &source{m: m}
		i := 0
		for range runs.Cut(s.over(l), budget, cmp.Less[int], m) {
			if want := min(len(l), max(budget, 1)+1+i); s.taken != want {
				t.Errorf("%v by %d: at yield %d %d were taken, not %d", l, budget, i, s.taken, want)
			}
			if ended := i >= len(l)-max(budget, 1); s.ended != ended {
				t.Errorf("%v by %d: at yield %d the end of s was seen: %v", l, budget, i, s.ended)
			}
			i++
		}
	})
}

func TestLeft(t *testing.T) {
	// P11.2: a range that is left, at once, in the midst or in the last run, takes all
	// from the Meter; s isn't asked any more; a range behind it begins anew.
	cases(func(l []int, budget int) {
		start := runs.Meter{Now: 4, Most: 4}
		m := start
		s := &source{m: &m}
		all := runs.Cut(s.over(l), budget, cmp.Less[int], &m)
		want := say(l, budget, cmp.Less[int])
		for stop := 1; stop <= len(l); stop++ {
			m = start
			var got []runs.Item[int]
			for x := range all {
				got = append(got, x)
				if len(got) == stop {
					break
				}
			}
			taken := min(len(l), max(budget, 1)+stop)
			ended := stop > len(l)-max(budget, 1)
			if !slices.Equal(got, want[:stop]) || s.taken != taken || s.ended != ended || s.begun != stop {
				t.Errorf("%v by %d: left at %d: %v, %d were taken by %d ranges", l, budget, stop, got, s.taken, s.begun)
			}
			if most := 4 + min(max(budget, 1), len(l)); m != (runs.Meter{Now: 4, Most: most}) {
				t.Errorf("%v by %d: left at %d: %v", l, budget, stop, m)
			}
		}
		if got := slices.Collect(all); !slices.Equal(got, want) || m.Now != 4 {
			t.Errorf("%v by %d: the range behind them: %v, %v", l, budget, got, m)
		}
	})
}

func TestLeftByReturn(t *testing.T) {
	// P11.2: a return leaves a range as a break does, and so does one who pulls and stops.
	m := &runs.Meter{}
	all := runs.Cut(slices.Values([]int{4, 3, 2, 1}), 3, cmp.Less[int], m)
	first := func() int {
		for x := range all {
			return x.X
		}
		return 0
	}
	if x := first(); x != 2 || *m != (runs.Meter{Now: 0, Most: 3}) {
		t.Errorf("%d, %v", x, *m)
	}
	next, stop := iter.Pull(all)
	if x, ok := next(); x.X != 2 || !ok || m.Now != 2 {
		t.Errorf("%v, %v", x, *m)
	}
	stop()
	if _, ok := next(); ok || *m != (runs.Meter{Now: 0, Most: 3}) {
		t.Errorf("behind stop: %v, %v", ok, *m)
	}
}

func TestLeftByPanic(t *testing.T) {
	// P11.2: however a range is left.
	m := &runs.Meter{Now: 1, Most: 1}
	func() {
		defer func() { recover() }()
		for range runs.Cut(slices.Values([]int{4, 3, 2, 1}), 3, cmp.Less[int], m) {
			panic("left")
		}
	}()
	if *m != (runs.Meter{Now: 1, Most: 4}) {
		t.Errorf("%v", *m)
	}
}

func TestNothingAhead(t *testing.T) {
	// P11.2: Cut is an iterator: it asks nothing ahead of its range, and tells nothing.
	m := &runs.Meter{}
	s := &source{m: m}
	asked := 0
	all := runs.Cut(s.over([]int{2, 1}), 1, func(a, b int) bool { asked++; return a < b }, m)
	if s.begun != 0 || asked != 0 || *m != (runs.Meter{}) {
		t.Errorf("%d ranges, %d asked, %v", s.begun, asked, *m)
	}
	for range all {
		break
	}
	if s.begun != 1 || s.taken != 2 {
		t.Errorf("%d ranges, %d taken", s.begun, s.taken)
	}
}

func TestNothingToCut(t *testing.T) {
	// P11.2: where nothing is taken the Meter isn't told of anything.
	for _, start := range []runs.Meter{{}, {Now: 3, Most: 4}, {Now: 3}, {Now: -3}} {
		m := start
		for x := range runs.Cut(slices.Values([]int{}), 2, cmp.Less[int], &m) {
			t.Errorf("%v came of nothing", x)
		}
		if m != start {
			t.Errorf("%v, not %v", m, start)
		}
	}
}

func TestRangesSideBySide(t *testing.T) {
	// P11.2: each range has a memory of its own, and one Meter is told of both.
	m := &runs.Meter{}
	l := []int{5, 1, 4, 2, 3}
	all := runs.Cut(slices.Values(l), 2, cmp.Less[int], m)
	want := say(l, 2, cmp.Less[int])
	var outer []runs.Item[int]
	for x := range all {
		outer = append(outer, x)
		now := m.Now
		if inner := slices.Collect(all); !slices.Equal(inner, want) || m.Now != now {
			t.Errorf("within: %v, %v", inner, *m)
		}
	}
	if !slices.Equal(outer, want) || *m != (runs.Meter{Now: 0, Most: 3}) {
		t.Errorf("%v, %v", outer, *m)
	}
}

func TestTwoCutsOfOneMeter(t *testing.T) {
	// P11.2: a Cut of what another one yields.
	m := &runs.Meter{}
	l := []int{5, 1, 4, 2, 3, 0}
	first := runs.Cut(slices.Values(l), 3, cmp.Less[int], m)
	plain := func(yield func(int) bool) {
		for x := range first {
			if !yield(x.X) {
				return
			}
		}
	}
	n := 0
	for range runs.Cut(plain, 2, cmp.Less[int], m) {
		if n++; n == 2 {
			break
		}
	}
	// Three below and two above; while one goes up it is in neither.
	if *m != (runs.Meter{Now: 0, Most: 5}) {
		t.Errorf("%v", *m)
	}
}
