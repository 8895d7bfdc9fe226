package flow_test

import (
	"cmp"
	"iter"
	"slices"
	"strings"
	"testing"

	"sheaf/flow"
)

func compare(a, b int) int { return cmp.Compare(a, b) }

// firsts are what a Join yields of its first side.
func firsts[A, B any](s iter.Seq2[A, *B]) iter.Seq[A] {
	return func(yield func(A) bool) {
		for a := range s {
			if !yield(a) {
				return
			}
		}
	}
}

func holdsCursor[T comparable](t *testing.T, l ...T) {
	t.Helper()
	next := flow.Cursor(l)
	for i := range len(l) + 4 {
		var want T
		if i < len(l) {
			want = l[i]
		}
		if x, ok := next(); x != want || ok != (i < len(l)) {
			t.Errorf("call %d of a Cursor of %v answers %v, %v", i, l, x, ok)
		}
	}
}

// P10.3: Cursor answers l's elements, one for each call, and true; then zero and false,
// again and again.
func TestCursor(t *testing.T) {
	holdsCursor[int](t)
	holdsCursor(t, 4)
	holdsCursor(t, 0)
	holdsCursor(t, 3, 1, 2, 1)
	holdsCursor(t, "b", "", "a")
	holdsCursor(t, point{1, "a"}, point{}, point{1, "a"})
	holdsCursor(t, upTo(2000)...)
	if x, ok := flow.Cursor([]int(nil))(); x != 0 || ok {
		t.Error(x, ok)
	}
	if x, ok := flow.Cursor([]int{})(); x != 0 || ok {
		t.Error(x, ok)
	}
}

// P10.3: two cursors of one list stand each at a place of its own.
func TestTwoCursors(t *testing.T) {
	l := upTo(2)
	one, two := flow.Cursor(l), flow.Cursor(l)
	for i, next := range []func() (int, bool){one, one, two, one, two, two} {
		x, ok := next()
		if want := [...]int{1, 2, 1, 0, 2, 0}[i]; x != want || ok != (want > 0) {
			t.Error(i, x, ok)
		}
	}
}

// R2: a Cursor keeps no list that it is handed, changes nothing of it, and reads nothing
// of its spare room.
func TestCursorKeepsNothing(t *testing.T) {
	room := []int{1, 2, 3, 4}
	next := flow.Cursor(room[:2])
	room[0], room[1] = 9, 9
	for _, want := range []int{1, 2, 0} {
		if x, ok := next(); x != want || ok != (want > 0) {
			t.Error(x, ok, want)
		}
	}
	if !slices.Equal(room, []int{9, 9, 3, 4}) {
		t.Error(room)
	}
}

// none stands for nil where a Join's answers are told as numbers.
const none = -1

// pairs ranges over s, leaves it with the pair number stop, and tells a, what was found,
// and how often next was asked by then, for each pair.
func pairs(s iter.Seq2[int, *int], asked *int, stop int) [][3]int {
	var out [][3]int
	for a, b := range s {
		found := none
		if b != nil {
			found = *b
			*b = 99 // it is a copy: nobody is disturbed
		}
		out = append(out, [3]int{a, found, *asked})
		if len(out) == stop {
			break
		}
	}
	return out
}

// counted is a Cursor of l that counts how often it is asked; beside false it answers
// the last one again, which nobody may take for found.
func counted(asked *int, l []int) func() (int, bool) {
	next := flow.Cursor(l)
	last := 0
	return func() (int, bool) {
		*asked++
		x, ok := next()
		if ok {
			last = x
		}
		return last, ok
	}
}

// joined is what pairs must tell of a range over a Join of l with what is left of list
// from place at on, and where it is left.
func joined(l, list []int, at, asks, stop int) (out [][3]int, end, asked int) {
	has := false
	last := 0
	ask := func() {
		asks++
		has = at < len(list)
		if has {
			last = list[at]
			at++
		}
	}
	for i, a := range l {
		if i == 0 {
			ask()
		}
		for has && a > last {
			ask()
		}
		found := none
		if has && a == last {
			found = last
		}
		out = append(out, [3]int{a, found, asks})
		if len(out) == stop {
			break
		}
	}
	return out, at, asks
}

// holdsJoin leaves a range over a Join of l with list at stop, goes over it again, and
// holds both against the chapter.
func holdsJoin(t *testing.T, l, list []int, stop int) {
	t.Helper()
	asked := 0
	s := flow.Join(flow.From(l), counted(&asked, list), compare)
	if asked != 0 {
		t.Fatalf("next is asked ahead of a range")
	}
	at, asks := 0, 0
	for i, stop := range []int{stop, all, all} {
		var want [][3]int
		want, at, asks = joined(l, list, at, asks, stop)
		if got := pairs(s, &asked, stop); !slices.Equal(got, want) || asked != asks {
			t.Fatalf("range %d over Join of %v with %v, left at %d: %v, %d, not %v, %d", i, l, list, stop, got, asked, want, asks)
		}
	}
}

// P10.3: the chapter's runs.
func TestJoinRuns(t *testing.T) {
	for i, q := range []struct {
		l, list []int
		want    [][3]int
	}{
		{[]int{1, 3, 3}, []int{1, 2, 3}, [][3]int{{1, 1, 1}, {3, 3, 3}, {3, 3, 3}}},
		{[]int{2}, []int{1, 3}, [][3]int{{2, none, 2}}},
	} {
		asked := 0
		if got := pairs(flow.Join(flow.From(q.l), counted(&asked, q.list), compare), &asked, all); !slices.Equal(got, q.want) {
			t.Error(i, got)
		}
	}
}

// rising calls f with each rising list of at most n numbers from low to high.
func rising(n, low, high int, f func(l []int)) {
	var grow func(l []int, low int)
	grow = func(l []int, low int) {
		f(l)
		if len(l) == n {
			return
		}
		for x := low; x <= high; x++ {
			grow(append(slices.Clone(l), x), x)
		}
	}
	grow(nil, low)
}

// P10.3: any two rising lists: next has nothing, less, more, alike several times; how
// often it is asked ahead of each pair; ranges that are left anywhere, and a second and
// a third one that go on where next stands.
func TestJoinOfAll(t *testing.T) {
	rising(3, 1, 4, func(l []int) {
		rising(4, 0, 5, func(list []int) {
			for stop := range len(l) + 1 {
				holdsJoin(t, l, list, stop)
			}
		})
	})
}

// P10.3: longer lists.
func TestJoinOfMany(t *testing.T) {
	var source noise = 40
	for range 500 {
		l := source.list(source.below(40), 60)
		list := source.list(source.below(40), 60)
		slices.Sort(l)
		slices.Sort(list)
		holdsJoin(t, l, list, source.below(len(l)+1))
	}
	holdsJoin(t, upTo(3000), upTo(2000), 1000)
}

// P10.3: next is asked once at the beginning, behind the first a; then as long as cmp is
// above 0; and nothing is done ahead of a range, or behind one that is left.
func TestJoinAsks(t *testing.T) {
	var d diary
	from := flow.Cursor([]int{10, 20, 30, 40})
	next := func() (int, bool) {
		x, ok := from()
		d.tell("next", x)
		return x, ok
	}
	order := func(a, b int) int {
		d.tell("cmp", a, b)
		return compare(a, b)
	}
	s := flow.Join(d.below(10, 15, 15, 30), next, order)
	d.holds(t, "")
	for a, b := range s {
		d.tell("pair", a)
		if b != nil {
			d.tell("found", *b)
		}
		if a == 30 {
			break
		}
	}
	d.holds(t, "begun, asked 10, next 10, cmp 10 10, pair 10, found 10, "+
		"asked 15, cmp 15 10, next 20, cmp 15 20, pair 15, asked 15, cmp 15 20, pair 15, "+
		"asked 30, cmp 30 20, next 30, cmp 30 30, pair 30, found 30, left")
	// 30 is gone; behind its end next isn't asked any more.
	for a, b := range flow.Join(d.below(40, 41, 42), next, order) {
		d.tell("pair", a)
		if b != nil {
			d.tell("found", *b)
		}
	}
	d.holds(t, "begun, asked 40, next 40, cmp 40 40, pair 40, found 40, "+
		"asked 41, cmp 41 40, next 0, pair 41, asked 42, pair 42, ended")
}

// P10.3: where there is no a, next isn't asked.
func TestJoinOfNothing(t *testing.T) {
	asked := 0
	s := flow.Join(flow.From([]int{}), counted(&asked, upTo(3)), compare)
	for range 2 {
		if got := pairs(s, &asked, all); len(got) != 0 || asked != 0 {
			t.Error(got, asked)
		}
	}
}

// P10.3: of several that are alike the first is found, for each a; an a that is greater
// passes all of them by.
func TestJoinOfAlike(t *testing.T) {
	list := []point{{1, "a"}, {1, "b"}, {2, "c"}, {2, "d"}}
	var got []string
	s := flow.Join(flow.From([]string{"x", "x", "xx", "xx", "xxx"}), flow.Cursor(list), func(a string, b point) int {
		return compare(len(a), b.x)
	})
	for a, b := range s {
		name := "none"
		if b != nil {
			name = b.name
		}
		got = append(got, a+name)
	}
	if !slices.Equal(got, []string{"xa", "xa", "xxc", "xxc", "xxxnone"}) {
		t.Error(got)
	}
}

// P10.3: the sign of cmp counts alone, not how great it is; texts are compared, too.
func TestJoinSigns(t *testing.T) {
	for _, by := range []int{1, 2, 1 << 62} {
		s := flow.Join(flow.From([]string{"b", "d", "e"}), flow.Cursor([]string{"a", "b", "c", "e"}), func(a, b string) int {
			return by * strings.Compare(a, b)
		})
		var got []string
		for a, b := range s {
			if b != nil {
				a += *b
			}
			got = append(got, a)
		}
		if !slices.Equal(got, []string{"bb", "d", "ee"}) {
			t.Error(by, got)
		}
	}
}

// P10.3: each pointer is to a copy of its own, which stays as it is.
func TestJoinCopies(t *testing.T) {
	list := []int{1, 2}
	s := flow.Join(flow.From([]int{1, 1, 2, 2}), flow.Cursor(list), compare)
	var found []*int
	for _, b := range s {
		found = append(found, b)
	}
	for i, want := range []int{1, 1, 2, 2} {
		if *found[i] != want {
			t.Error(i, *found[i])
		}
		*found[i] = 50
	}
	if !slices.Equal(list, upTo(2)) {
		t.Error(list)
	}
}

// P10.3: a next that answers again behind its end isn't asked by the same range; another
// range asks it once anew.
func TestJoinBehindTheEnd(t *testing.T) {
	answers := []int{1, none, 3, none, 3}
	asked := 0
	next := func() (int, bool) {
		asked++
		x := answers[min(asked, len(answers))-1]
		return max(x, 0), x != none
	}
	s := flow.Join(flow.From([]int{2, 3}), next, compare)
	for i, want := range [][][3]int{
		{{2, none, 2}, {3, none, 2}},
		{{2, none, 3}, {3, 3, 3}},
		{{2, none, 4}, {3, none, 4}},
		{{2, none, 5}, {3, 3, 5}},
	} {
		if got := pairs(s, &asked, all); !slices.Equal(got, want) {
			t.Error(i, got)
		}
	}
}

// P10.3: rows that don't rise, and a cmp that is none: all ends.
func TestJoinOfNoOrder(t *testing.T) {
	var source noise = 50
	for range 500 {
		l := source.list(source.below(8), 5)
		list := source.list(source.below(8), 5)
		var says [5][5]int
		for a := range says {
			for b := range says[a] {
				says[a][b] = source.below(3) - 1
			}
		}
		for _, order := range []func(a, b int) int{
			compare,
			func(a, b int) int { return says[a][b] },
			func(a, b int) int { return source.below(3) - 1 },
			func(a, b int) int { return 1 },
			func(a, b int) int { return 0 },
			func(a, b int) int { return -1 },
		} {
			asked := 0
			s := flow.Join(flow.From(l), counted(&asked, list), order)
			for range 2 {
				pairs(s, &asked, source.below(8))
			}
			if asked > len(list)+2 {
				t.Fatalf("of %v with %v: next is asked %d times", l, list, asked)
			}
		}
	}
}

// R1: of nothing but nils Join yields what there is: a next that is nil has nothing, and
// a cmp that is nil answers zero.
func TestJoinOfNil(t *testing.T) {
	asked := 0
	if got := pairs(flow.Join(nil, counted(&asked, upTo(3)), compare), &asked, all); len(got) != 0 || asked != 0 {
		t.Error(got, asked)
	}
	if got := pairs(flow.Join(flow.From(upTo(2)), nil, compare), &asked, all); !slices.Equal(got, [][3]int{{1, none, 0}, {2, none, 0}}) {
		t.Error(got)
	}
	if got := pairs(flow.Join(flow.From(upTo(2)), counted(&asked, []int{7, 8}), nil), &asked, all); !slices.Equal(got, [][3]int{{1, 7, 1}, {2, 7, 1}}) {
		t.Error(got)
	}
}
