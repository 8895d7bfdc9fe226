package loser_test

import (
	"cmp"
	"iter"
	"math"
	"slices"
	"strings"
	"testing"

	"sheaf/loser"
)

// thing has a key to go by, and a tag that tells it from those of its key.
type thing struct{ key, tag int }

func byKey(a, b thing) bool { return a.key < b.key }

// source answers list; behind its end it answers the last thing again, beside false,
// and then beside true, which nobody may ask for.
func source[T any](list []T) func() (T, bool) {
	at := 0
	var last T
	return func() (T, bool) {
		at++
		if at <= len(list) {
			last = list[at-1]
			return last, true
		}
		return last, at > len(list)+1
	}
}

// sources are sources of lists; each writes down its number when it is asked.
func sources[T any](asked *[]int, lists [][]T) []func() (T, bool) {
	var out []func() (T, bool)
	for i, list := range lists {
		answer := source(list)
		out = append(out, func() (T, bool) {
			*asked = append(*asked, i)
			return answer()
		})
	}
	return out
}

// merge is a tree over lists, and what must be in it.
type merge[T comparable] struct {
	t     *testing.T
	less  func(a, b T) bool
	tree  *loser.Tree[T]
	rest  [][]T
	asked []int
	want  []int
}

// merging makes a tree over lists, and holds what New did against the chapter.
func merging[T comparable](t *testing.T, less func(a, b T) bool, lists ...[]T) *merge[T] {
	t.Helper()
	m := &merge[T]{t: t, less: less, rest: slices.Clone(lists)}
	m.tree = loser.New(less, sources(&m.asked, lists)...)
	for i := range lists {
		m.want = append(m.want, i)
	}
	m.stands()
	return m
}

// stands holds who was asked, and how many have something at hand, against the chapter.
func (m *merge[T]) stands() {
	m.t.Helper()
	if !slices.Equal(m.asked, m.want) {
		m.t.Fatalf("asked were %v, not %v", m.asked, m.want)
	}
	live := 0
	for _, l := range m.rest {
		live += min(len(l), 1)
	}
	for range 2 {
		if got := m.tree.Live(); got != live {
			m.t.Fatalf("Live is %d, not %d: left is %v", got, live, m.rest)
		}
	}
	if !slices.Equal(m.asked, m.want) {
		m.t.Fatalf("Live asks: %v, not %v", m.asked, m.want)
	}
}

// least is the first source that has something at hand that no other's is less than;
// -1, if there is none.
func (m *merge[T]) least() int {
	return slices.IndexFunc(m.rest, func(l []T) bool {
		return len(l) > 0 && !slices.ContainsFunc(m.rest, func(other []T) bool {
			return len(other) > 0 && m.less(other[0], l[0])
		})
	})
}

// out takes the first thing of source i out of what must be in the tree.
func (m *merge[T]) out(i int) T {
	x := m.rest[i][0]
	m.rest[i] = m.rest[i][1:]
	m.want = append(m.want, i)
	return x
}

// next holds a Next against the chapter; it is false if there was none.
func (m *merge[T]) next() (T, bool) {
	m.t.Helper()
	var want T
	from := m.least()
	if from >= 0 {
		want = m.out(from)
	}
	x, i, ok := m.tree.Next()
	if x != want || i != from || ok != (from >= 0) {
		m.t.Fatalf("Next is %v of %d, %v, not %v of %d; left is %v", x, i, ok, want, from, m.rest)
	}
	m.stands()
	return want, ok
}

// drain takes all out by Next, and asks some times more.
func (m *merge[T]) drain() []T {
	m.t.Helper()
	var out []T
	for {
		x, ok := m.next()
		if !ok {
			break
		}
		out = append(out, x)
	}
	for range 3 {
		m.next()
	}
	return out
}

// ranges holds a range over s, which is left with its thing number stop, against the
// chapter.
func (m *merge[T]) ranges(s iter.Seq[T], stop int) {
	m.t.Helper()
	count := 0
	s(func(x T) bool {
		i := m.least()
		if count == stop || i < 0 || m.out(i) != x {
			m.t.Fatalf("as number %d All yields %v, not of %d; left is %v", count, x, i, m.rest)
		}
		m.stands()
		count++
		return count < stop
	})
	m.stands()
}

// ends holds that all has come out.
func (m *merge[T]) ends() {
	m.t.Helper()
	if left := slices.Concat(m.rest...); len(left) > 0 {
		m.t.Fatalf("%v is left", left)
	}
}

// comesOut holds what comes out of a tree over lists against want.
func comesOut[T comparable](t *testing.T, less func(a, b T) bool, lists [][]T, want ...T) {
	t.Helper()
	if got := merging(t, less, lists...).drain(); !slices.Equal(got, want) {
		t.Fatalf("out of %v come %v, not %v", lists, got, want)
	}
}

// noise is numbers of no pattern, from 0 on, below n.
func noise(seed, n int) func() int {
	x := uint64(seed)*2862933555777941757 + 3037000493
	return func() int {
		x = x*6364136223846793005 + 1442695040888963407
		return int(x>>33) % n
	}
}

// noisy is k lists of up to longest things of a few keys, each with a tag of its own.
func noisy(seed, k, longest, keys int) [][]thing {
	next := noise(seed, math.MaxInt)
	tag := 0
	lists := make([][]thing, k)
	for i := range lists {
		for range next() % (longest + 1) {
			tag++
			lists[i] = append(lists[i], thing{next() % keys, tag})
		}
	}
	return lists
}

// rising is lists, each sorted by key.
func rising(lists [][]thing) [][]thing {
	for _, l := range lists {
		slices.SortStableFunc(l, func(a, b thing) int { return cmp.Compare(a.key, b.key) })
	}
	return lists
}

// P9.1, P9.2: the chapter's run.
func TestChaptersRun(t *testing.T) {
	tree := loser.New(cmp.Less[int], source([]int{1, 4}), source([]int{1, 3}), source[int](nil))
	if tree.Live() != 2 {
		t.Fatalf("Live is %d, not 2", tree.Live())
	}
	for _, want := range [][2]int{{1, 0}, {1, 1}, {3, 1}, {4, 0}} {
		if x, i, ok := tree.Next(); x != want[0] || i != want[1] || !ok {
			t.Fatalf("Next is %d of %d, %v, not %d of %d", x, i, ok, want[0], want[1])
		}
	}
	if x, i, ok := tree.Next(); x != 0 || i != -1 || ok {
		t.Fatalf("Next of nothing is %d of %d, %v", x, i, ok)
	}
}

// P9.1, P9.2.
func TestNoSource(t *testing.T) {
	comesOut[int](t, cmp.Less[int], nil)
	comesOut[string](t, cmp.Less[string], nil)
	comesOut[thing](t, byKey, nil)
	comesOut[*thing](t, func(a, b *thing) bool { return a.key < b.key }, nil)
	for x := range loser.All(loser.New(cmp.Less[int], []func() (int, bool){}...)) {
		t.Errorf("out of nothing comes %d", x)
	}
	if l, i, ok := loser.New(func(a, b []int) bool { return len(a) < len(b) }).Next(); l != nil || i != -1 || ok {
		t.Errorf("Next of nothing is %v of %d, %v", l, i, ok)
	}
}

// P9.1, P9.2.
func TestOneSource(t *testing.T) {
	comesOut(t, cmp.Less[int], [][]int{nil})
	comesOut(t, cmp.Less[int], [][]int{{7}}, 7)
	comesOut(t, cmp.Less[int], [][]int{{0, 0, 0}}, 0, 0, 0)
	comesOut(t, cmp.Less[int], [][]int{{3, 1, 2, 3, -5}}, 3, 1, 2, 3, -5)
}

// P9.1, P9.2: any number of sources, of things that come in any order, with few keys
// and with many.
func TestNumbersOfSources(t *testing.T) {
	for _, k := range []int{2, 3, 4, 5, 6, 7, 8, 9, 15, 16, 17, 31, 33, 64, 100} {
		for seed, keys := range []int{1, 2, 3, 10, 1 << 30} {
			merging(t, byKey, noisy(seed, k, 20, keys)...).drain()
			merging(t, byKey, rising(noisy(seed, k, 20, keys))...).drain()
		}
	}
}

// P9.1, P9.2: each way in which up to five sources can have one of three keys or
// nothing at hand, twice over.
func TestEachHandOfAFew(t *testing.T) {
	for k := range 6 {
		for code := range 1 << (2 * k) {
			lists := make([][]thing, k)
			for i := range lists {
				if key := code >> (2 * i) & 3; key > 0 {
					lists[i] = []thing{{key, 2 * i}, {4 - key, 2*i + 1}}
				}
			}
			merging(t, byKey, lists...).drain()
		}
	}
}

// P9.1: once each, in order, whatever they have.
func TestNewAsksEachSourceOnceInOrder(t *testing.T) {
	for k := range 20 {
		var asked, want []int
		var list []func() (int, bool)
		for i := range k {
			want = append(want, i)
			list = append(list, func() (int, bool) {
				asked = append(asked, i)
				return k - i, i%3 > 0
			})
		}
		tree := loser.New(cmp.Less[int], list...)
		if !slices.Equal(asked, want) || tree.Live() != k-(k+2)/3 {
			t.Fatalf("of %d asked were %v, and Live is %d", k, asked, tree.Live())
		}
	}
}

// P9.1: sources that share what they have get it in the order in which they are asked.
func TestSourcesOfOneList(t *testing.T) {
	one := source([]int{5, 3, 4, 9, 1, 6})
	tree := loser.New(cmp.Less[int], one, one, one)
	for _, want := range [][2]int{{3, 1}, {4, 2}, {1, 2}, {5, 0}} {
		if x, i, ok := tree.Next(); x != want[0] || i != want[1] || !ok {
			t.Fatalf("Next is %d of %d, %v, not %d of %d", x, i, ok, want[0], want[1])
		}
	}
}

// P9.1, P9.2: nothing from the start, at each place, and one that has something among
// those that don't.
func TestSourcesThatHaveNothing(t *testing.T) {
	for k := range 10 {
		comesOut(t, cmp.Less[int], make([][]int, k))
		for i := range k {
			lists := make([][]int, k)
			lists[i] = []int{2, 1}
			comesOut(t, cmp.Less[int], lists, 2, 1)
			for j := range lists {
				lists[j] = []int{j}
			}
			lists[i] = nil
			merging(t, cmp.Less[int], lists...).drain()
		}
	}
}

// P9.1, P9.2: some end at once, some go on alone when all the others have ended.
func TestSourcesThatEndEarlyOrLate(t *testing.T) {
	for k := 1; k < 10; k++ {
		for late := range k {
			lists := make([][]thing, k)
			for i := range lists {
				for n := range i % 3 {
					lists[i] = append(lists[i], thing{n, i})
				}
			}
			for n := range 12 {
				lists[late] = append(lists[late], thing{n / 2, n})
			}
			merging(t, byKey, lists...).drain()
		}
	}
}

// P9.1: not by Next, nor by All, nor behind the end; what it would answer isn't seen.
func TestASourceThatWouldAnswerAgainBehindItsFalse(t *testing.T) {
	asks := 0
	odd := func() (int, bool) {
		asks++
		return asks, asks%2 == 1
	}
	tree := loser.New(cmp.Less[int], odd, source([]int{2, 3}))
	got := slices.AppendSeq([]int{}, loser.All(tree))
	for range 3 {
		if x, i, ok := tree.Next(); x != 0 || i != -1 || ok {
			t.Fatalf("Next of nothing is %d of %d, %v", x, i, ok)
		}
	}
	if !slices.Equal(got, []int{1, 2, 3}) || asks != 2 || tree.Live() != 0 {
		t.Fatalf("%v come out, asked %d times, Live is %d", got, asks, tree.Live())
	}
}

// P9.2: of several that no other is less than, the first source's.
func TestFirstSourceOfSeveral(t *testing.T) {
	for k := 1; k < 20; k++ {
		lists := make([][]thing, k)
		var want []thing
		for i := range lists {
			lists[i] = []thing{{1, i}}
			want = append(want, thing{1, i})
		}
		comesOut(t, byKey, lists, want...)
	}
	comesOut(t, byKey, [][]thing{{{2, 0}}, {{1, 1}, {1, 2}}, {{1, 3}}, {{2, 4}}, {{1, 5}}},
		thing{1, 1}, thing{1, 2}, thing{1, 3}, thing{1, 5}, thing{2, 0}, thing{2, 4})
	comesOut(t, byKey, [][]thing{{{1, 0}, {1, 1}, {1, 2}}, {{1, 3}}, {{0, 4}, {1, 5}}},
		thing{0, 4}, thing{1, 0}, thing{1, 1}, thing{1, 2}, thing{1, 3}, thing{1, 5})
}

// P9.2: always the least of what is at hand, whatever comes behind it.
func TestSourcesThatDontRise(t *testing.T) {
	comesOut(t, cmp.Less[int], [][]int{{3, 1, 2}, {2, 5, 0}}, 2, 3, 1, 2, 5, 0)
	comesOut(t, cmp.Less[int], [][]int{{9, 8, 7}, {6, 5, 4}, {3, 2, 1}}, 3, 2, 1, 6, 5, 4, 9, 8, 7)
	comesOut(t, cmp.Less[int], [][]int{{math.MaxInt, math.MinInt}, {0, math.MaxInt}}, 0, math.MaxInt, math.MinInt, math.MaxInt)
}

// P9.3: what comes out is what went in, risen, by source, and each source's own order.
func TestSourcesThatRise(t *testing.T) {
	for k := range 20 {
		for seed, keys := range []int{1, 2, 5, 1000} {
			lists := rising(noisy(seed+k, k, 15, keys))
			want := slices.Concat(lists...)
			slices.SortStableFunc(want, func(a, b thing) int { return cmp.Compare(a.key, b.key) })
			comesOut(t, byKey, lists, want...)
			if got := slices.Collect(loser.All(merging(t, byKey, lists...).tree)); !slices.Equal(got, want) {
				t.Fatalf("out of %v come %v, not %v", lists, got, want)
			}
		}
	}
}

// P9.3: things that are alike by the order, and yet bear something else.
func TestAlikeThings(t *testing.T) {
	comesOut(t, byKey, [][]thing{{{1, 9}, {1, 8}, {2, 7}}, {{0, 6}, {1, 5}}, {{1, 4}, {1, 3}, {2, 2}, {2, 1}}},
		thing{0, 6}, thing{1, 9}, thing{1, 8}, thing{1, 5}, thing{1, 4}, thing{1, 3}, thing{2, 7}, thing{2, 2}, thing{2, 1})
	comesOut(t, func(a, b string) bool { return strings.ToLower(a) < strings.ToLower(b) },
		[][]string{{"B", "b", "D"}, {"a", "B", "c"}, {"A", "C", "d"}},
		"a", "A", "B", "b", "B", "c", "C", "D", "d")
	merging(t, func(a, b thing) bool { return false }, noisy(1, 20, 9, 9)...).drain()
}

// P9.1: ahead of, between and behind the Nexts.
func TestLive(t *testing.T) {
	tree := loser.New(cmp.Less[int], source([]int{2}), source[int](nil), source([]int{1, 3, 4}), source([]int{5}))
	for _, want := range []int{3, 3, 2, 2, 1, 0, 0, 0} {
		for range 3 {
			if got := tree.Live(); got != want {
				t.Fatalf("Live is %d, not %d", got, want)
			}
		}
		tree.Next()
	}
}

// P9.1, P9.2: a zero thing is a thing, and what is beside a false is none.
func TestZeroThings(t *testing.T) {
	comesOut(t, cmp.Less[int], [][]int{{0}, {0, 0}, nil, {-1, 1}}, -1, 0, 0, 0, 1)
	comesOut(t, cmp.Less[string], [][]string{{"", "a"}, {""}}, "", "", "a")
	comesOut(t, func(a, b *thing) bool { return a != nil && b == nil }, [][]*thing{{nil, nil}, {nil}}, nil, nil, nil)
	never := func() (thing, bool) { return thing{-1, -1}, false }
	tree := loser.New(byKey, never, source([]thing{{1, 1}}), never)
	if tree.Live() != 1 {
		t.Fatalf("Live is %d, not 1", tree.Live())
	}
	if x, i, ok := tree.Next(); x != (thing{1, 1}) || i != 1 || !ok {
		t.Fatalf("Next is %v of %d, %v", x, i, ok)
	}
	if x, i, ok := tree.Next(); x != (thing{}) || i != -1 || ok {
		t.Fatalf("Next of nothing is %v of %d, %v", x, i, ok)
	}
}

// P9.2: less is asked of what is at hand alone: these would panic on nil.
func TestNothingIsHeldAgainstWhatHasEnded(t *testing.T) {
	for k := range 12 {
		lists := make([][]*thing, k)
		for i, l := range noisy(k, k, 4, 3) {
			for _, x := range l {
				lists[i] = append(lists[i], &x)
			}
		}
		merging(t, func(a, b *thing) bool { return a.key < b.key }, lists...).drain()
	}
}

// P9.2: All is a Next for each that it yields, and one more at the end.
func TestAllToItsEnd(t *testing.T) {
	for k := range 10 {
		m := merging(t, byKey, noisy(k, k, 9, 4)...)
		for range 3 {
			m.ranges(loser.All(m.tree), math.MaxInt)
			m.ends()
		}
		m.drain()
	}
}

// P9.2.
func TestAllAsksNothingAheadOfItsRange(t *testing.T) {
	m := merging(t, cmp.Less[int], []int{2, 3}, []int{1, 4})
	loser.All(m.tree)
	late := loser.All(m.tree)
	m.stands()
	m.next()
	if got := slices.Collect(late); !slices.Equal(got, []int{2, 3, 4}) {
		t.Fatalf("All yields %v", got)
	}
}

// P9.2, R1: left behind each number of things; nothing is asked or yielded behind that,
// and Next, All, or the same iterator again go on from there.
func TestAllLeftInTheMidst(t *testing.T) {
	lists := noisy(3, 5, 6, 4)
	for stop := range len(slices.Concat(lists...)) {
		for way := range 3 {
			m := merging(t, byKey, lists...)
			all := loser.All(m.tree)
			m.ranges(all, stop+1)
			switch way {
			case 0:
				m.ranges(loser.All(m.tree), math.MaxInt)
				m.ends()
			case 1:
				m.ranges(all, math.MaxInt)
				m.ends()
			}
			m.drain()
		}
	}
}

// P9.2: All goes on behind the Nexts that its range does itself.
func TestNextWithinAll(t *testing.T) {
	m := merging(t, cmp.Less[int], []int{1, 3, 5, 7}, []int{2, 4, 6})
	var got []int
	for x := range loser.All(m.tree) {
		m.out(m.least())
		m.stands()
		m.next()
		got = append(got, x)
	}
	if !slices.Equal(got, []int{1, 3, 5, 7}) {
		t.Fatalf("All yields %v", got)
	}
	m.drain()
}

// P9.3: numbers, texts, structs, lists.
func TestTypes(t *testing.T) {
	comesOut(t, cmp.Less[int], [][]int{{math.MinInt, 0}, {-1, math.MaxInt}}, math.MinInt, -1, 0, math.MaxInt)
	comesOut(t, cmp.Less[uint8], [][]uint8{{0, 128}, {127, 255}}, 0, 127, 128, 255)
	comesOut(t, cmp.Less[float64], [][]float64{{math.Inf(-1), 0.5}, {0, math.Inf(1)}}, math.Inf(-1), 0, 0.5, math.Inf(1))
	comesOut(t, cmp.Less[string], [][]string{{"", "ab", "b"}, {"\x00", "a", "\xff"}, {"ä"}}, "", "\x00", "a", "ab", "b", "ä", "\xff")
	comesOut(t, func(a, b bool) bool { return !a && b }, [][]bool{{false, true}, {false}}, false, false, true)
	comesOut(t, func(a, b [2]int) bool { return a[1] < b[1] }, [][][2]int{{{2, 2}}, {{3, 1}, {1, 3}}}, [2]int{3, 1}, [2]int{2, 2}, [2]int{1, 3})
	tree := loser.New(func(a, b []int) bool { return slices.Compare(a, b) < 0 }, source([][]int{nil, {2}}), source([][]int{{1}, {1, 5}}))
	got := slices.Collect(loser.All(tree))
	if !slices.EqualFunc(got, [][]int{nil, {1}, {1, 5}, {2}}, slices.Equal) {
		t.Errorf("the lists come out as %v", got)
	}
}

// P9.3: an order by a part, by several parts, and the opposite one.
func TestOrders(t *testing.T) {
	comesOut(t, func(a, b int) bool { return a > b }, [][]int{{5, 2, 2}, {4, 2, 1}}, 5, 4, 2, 2, 2, 1)
	comesOut(t, func(a, b thing) bool { return a.key < b.key || a.key == b.key && a.tag > b.tag },
		[][]thing{{{1, 1}, {2, 9}}, {{1, 2}, {1, 0}}}, thing{1, 2}, thing{1, 1}, thing{1, 0}, thing{2, 9})
	merging(t, func(a, b thing) bool { return byKey(b, a) }, noisy(2, 9, 20, 5)...).drain()
}
