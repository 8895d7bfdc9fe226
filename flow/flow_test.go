package flow_test

import (
	"iter"
	"slices"
	"strconv"
	"strings"
	"testing"

	"sheaf/flow"
)

// point is a thing of two parts.
type point struct {
	x    int
	name string
}

// diary is what was done, in its order.
type diary struct{ lines []string }

func (d *diary) tell(what string, numbers ...int) {
	for _, n := range numbers {
		what += " " + strconv.Itoa(n)
	}
	d.lines = append(d.lines, what)
}

// holds compares what was done with lines that commas part, and begins a new page.
func (d *diary) holds(t *testing.T, want string) {
	t.Helper()
	if got := strings.Join(d.lines, ", "); got != want {
		t.Errorf("done was\n%s\nnot\n%s", got, want)
	}
	d.lines = nil
}

// below is an iterator over l that tells the diary of all that is asked of it.
func (d *diary) below(l ...int) iter.Seq[int] {
	return func(yield func(int) bool) {
		d.tell("begun")
		for _, x := range l {
			d.tell("asked", x)
			if !yield(x) {
				d.tell("left")
				return
			}
		}
		d.tell("ended")
	}
}

// some ranges over s, and leaves it with the element number stop, counted from 1.
func some[T any](s iter.Seq[T], stop int) []T {
	var out []T
	for x := range s {
		out = append(out, x)
		if len(out) == stop {
			break
		}
	}
	return out
}

// all is stop of a range that isn't left.
const all = 0

func equal(a, b int) bool { return a == b }

func even(x int) bool { return x%2 == 0 }

func upTo(n int) []int {
	var l []int
	for x := range n {
		l = append(l, x+1)
	}
	return l
}

// noise is numbers without a rule that is easy to see, the same ones each time.
type noise uint64

func (s *noise) below(n int) int {
	*s = *s*6364136223846793005 + 1442695040888963407
	return int(uint64(*s>>33) % uint64(n))
}

func (s *noise) list(length, values int) []int {
	var l []int
	for range length {
		l = append(l, s.below(values))
	}
	return l
}

func holdsFrom[T comparable](t *testing.T, l []T) {
	t.Helper()
	before := slices.Clone(l)
	s := flow.From(l)
	for range 2 {
		if got := flow.List(s); !slices.Equal(got, before) {
			t.Errorf("List of From of %v is %v", before, got)
		}
		for stop := 1; stop <= len(l); stop++ {
			if got := some(s, stop); !slices.Equal(got, before[:stop]) {
				t.Errorf("From of %v, left at %d, is %v", before, stop, got)
			}
		}
	}
	if !slices.Equal(l, before) {
		t.Errorf("%v has become %v", before, l)
	}
}

// P10.1: From yields l's elements, in order, and List is all of them, in order.
func TestFrom(t *testing.T) {
	holdsFrom(t, []int(nil))
	holdsFrom(t, []int{})
	holdsFrom(t, []int{7})
	holdsFrom(t, []int{3, 1, 2, 1, 3})
	holdsFrom(t, []string{""})
	holdsFrom(t, []string{"b", "", "a", "b"})
	holdsFrom(t, []point{{1, "one"}, {}, {1, "uno"}})
	holdsFrom(t, []float64{2.5, -1})
	holdsFrom(t, [][2]bool{{true, false}, {}})
	holdsFrom(t, []*int{nil, new(int)})
	holdsFrom(t, upTo(3000))
}

// P10.1, R4: of nothing List is a list without elements, whichever nothing it is.
func TestListOfNothing(t *testing.T) {
	for i, s := range []iter.Seq[int]{nil, flow.From[int](nil), flow.From([]int{}), flow.From(make([]int, 0, 4))} {
		if l := flow.List(s); l != nil {
			t.Error(i, l)
		}
	}
}

// R2: From keeps no list that it is handed, and reads nothing of its spare room.
func TestFromKeepsNothing(t *testing.T) {
	room := []int{1, 2, 3, 4, 5}
	s := flow.From(room[1:3])
	room[1] = 9
	for x := range s {
		if x == 2 {
			room[2] = 9
		}
	}
	if l := flow.List(s); !slices.Equal(l, []int{2, 3}) {
		t.Error(l)
	}
	if !slices.Equal(room, []int{1, 9, 9, 4, 5}) {
		t.Error("the list, or its spare room, was written", room)
	}
}

// R2: each List is new memory, its spare room too.
func TestListIsNew(t *testing.T) {
	own := []int{1, 2, 3, 4, 5}
	s := flow.From(own)
	first, second := flow.List(s), flow.List(s)
	for i := range first {
		first[i] = 9
	}
	_ = append(first, 8, 8, 8)
	if !slices.Equal(second, own) || !slices.Equal(flow.List(s), own) || !slices.Equal(own, upTo(5)) {
		t.Error(second, flow.List(s), own)
	}
}

// Each range over an iterator begins anew, while another one goes on, too.
func TestFromWithinFrom(t *testing.T) {
	s := flow.From(upTo(3))
	var got []int
	for a := range s {
		for b := range s {
			got = append(got, 10*a+b)
			if b == 2 {
				break
			}
		}
	}
	if !slices.Equal(got, []int{11, 12, 21, 22, 31, 32}) {
		t.Error(got)
	}
}

// P10.1: List asks for each, in order, to the end.
func TestListAsks(t *testing.T) {
	var d diary
	if l := flow.List(d.below(4, 2)); !slices.Equal(l, []int{4, 2}) {
		t.Error(l)
	}
	d.holds(t, "begun, asked 4, asked 2, ended")
}

func holdsMap[A any, B comparable](t *testing.T, l []A, f func(A) B, want ...B) {
	t.Helper()
	if got := flow.List(flow.Map(flow.From(l), f)); !slices.Equal(got, want) {
		t.Errorf("Map of %v is %v, not %v", l, got, want)
	}
}

// P10.1: Map yields f of each, of any type.
func TestMap(t *testing.T) {
	holdsMap(t, nil, strconv.Itoa)
	holdsMap(t, []int{5}, strconv.Itoa, "5")
	holdsMap(t, []int{3, 1, 3}, strconv.Itoa, "3", "1", "3")
	holdsMap(t, []string{"", "ab"}, func(s string) int { return len(s) }, 0, 2)
	holdsMap(t, []point{{1, "a"}, {2, "b"}}, func(p point) string { return p.name }, "a", "b")
	holdsMap(t, []int{6, 7}, func(x int) point { return point{x, "p"} }, point{6, "p"}, point{7, "p"})
}

func holdsKeep[T comparable](t *testing.T, l []T, f func(T) bool, want ...T) {
	t.Helper()
	if got := flow.List(flow.Keep(flow.From(l), f)); !slices.Equal(got, want) {
		t.Errorf("Keep of %v is %v, not %v", l, got, want)
	}
}

// P10.1: Keep yields those of which f is true: none, some, all.
func TestKeep(t *testing.T) {
	holdsKeep(t, nil, even)
	holdsKeep(t, []int{1}, even)
	holdsKeep(t, []int{2}, even, 2)
	holdsKeep(t, []int{1, 3, 5}, even)
	holdsKeep(t, []int{4, 1, 2, 2, 3, 6}, even, 4, 2, 2, 6)
	holdsKeep(t, []int{6, 4}, even, 6, 4)
	holdsKeep(t, []string{"a", "", "b"}, func(s string) bool { return s != "" }, "a", "b")
	holdsKeep(t, []point{{1, "a"}, {2, "b"}}, func(p point) bool { return p.x == 2 }, point{2, "b"})
}

// P10.1: Fold is f of what came of those ahead and each, in their order; of nothing it is
// what was handed in, and f isn't asked.
func TestFold(t *testing.T) {
	join := func(s string, x int) string { return s + "," + strconv.Itoa(x) }
	for _, q := range []struct {
		l    []int
		want string
	}{{nil, "b"}, {[]int{}, "b"}, {[]int{4}, "b,4"}, {[]int{1, 2, 3}, "b,1,2,3"}, {[]int{3, 1, 3}, "b,3,1,3"}} {
		if got := flow.Fold(flow.From(q.l), "b", join); got != q.want {
			t.Errorf("Fold of %v is %q, not %q", q.l, got, q.want)
		}
	}
	if got := flow.Fold(flow.From([]string{"ab", "c"}), 10, func(n int, s string) int { return 2*n + len(s) }); got != 45 {
		t.Error(got)
	}
	farther := func(p, q point) point { return point{p.x + q.x, p.name + q.name} }
	if got := flow.Fold(flow.From([]point{{1, "a"}, {2, "b"}}), point{5, "x"}, farther); got != (point{8, "xab"}) {
		t.Error(got)
	}
	if got := flow.Fold(flow.From([]int{}), 3, func(int, int) int { panic("asked of nothing") }); got != 3 {
		t.Error(got)
	}
}

// P10.1: Fold asks for each, in order, to the end.
func TestFoldAsks(t *testing.T) {
	var d diary
	sum := func(a, b int) int {
		d.tell("f", a, b)
		return a + b
	}
	if x := flow.Fold(d.below(4, 2), 1, sum); x != 7 {
		t.Error(x)
	}
	d.holds(t, "begun, asked 4, f 1 4, asked 2, f 5 2, ended")
}

// Map and Keep do nothing ahead of their range, and ask for one only when it is needed;
// a range that is left asks no more.
func TestMapAndKeepAsks(t *testing.T) {
	var d diary
	low := d.below(1, 2, 3, 4)
	kept := flow.Keep(low, func(x int) bool {
		d.tell("keep", x)
		return even(x)
	})
	s := flow.Map(kept, func(x int) int {
		d.tell("map", x)
		return 10 * x
	})
	d.holds(t, "")
	for range 2 {
		if got := some(s, all); !slices.Equal(got, []int{20, 40}) {
			t.Error(got)
		}
		d.holds(t, "begun, asked 1, keep 1, asked 2, keep 2, map 2, asked 3, keep 3, asked 4, keep 4, map 4, ended")
		if got := some(s, 1); !slices.Equal(got, []int{20}) {
			t.Error(got)
		}
		d.holds(t, "begun, asked 1, keep 1, asked 2, keep 2, map 2, left")
		if got := some(s, 2); !slices.Equal(got, []int{20, 40}) {
			t.Error(got)
		}
		d.holds(t, "begun, asked 1, keep 1, asked 2, keep 2, map 2, asked 3, keep 3, asked 4, keep 4, map 4, left")
	}
}

// Each iterator hands on that it is left, with whichever element, and asks no more then.
func TestLeft(t *testing.T) {
	var d diary
	for name, s := range map[string]iter.Seq[int]{
		"Map":    flow.Map(d.below(1, 2, 3), func(x int) int { return x }),
		"Keep":   flow.Keep(d.below(1, 2, 3), func(int) bool { return true }),
		"Groups": flow.Map(flow.Groups(d.below(1, 2, 3, 3), equal), func(g []int) int { return g[0] }),
		"Join":   firsts(flow.Join(d.below(1, 2, 3), flow.Cursor(upTo(9)), compare)),
	} {
		for stop, want := range []string{
			"begun, asked 1, asked 2, asked 3, ended",
			"begun, asked 1, left",
			"begun, asked 1, asked 2, left",
			"begun, asked 1, asked 2, asked 3, left",
		} {
			if name == "Groups" {
				// A group is known to be whole one later; the last one at the end.
				want = [...]string{
					"begun, asked 1, asked 2, asked 3, asked 3, ended",
					"begun, asked 1, asked 2, left",
					"begun, asked 1, asked 2, asked 3, left",
					"begun, asked 1, asked 2, asked 3, asked 3, ended",
				}[stop]
			}
			d.holds(t, "")
			if got := some(s, stop); len(got) != (stop+2)%3+1 {
				t.Errorf("%s, left at %d, is %v", name, stop, got)
			}
			d.holds(t, want)
		}
	}
}

// A return leaves a range as a break does.
func TestReturn(t *testing.T) {
	var d diary
	first := func(s iter.Seq[string]) string {
		for x := range s {
			return x
		}
		return "none"
	}
	if x := first(flow.Map(d.below(5, 6), strconv.Itoa)); x != "5" {
		t.Error(x)
	}
	d.holds(t, "begun, asked 5, left")
	if x := first(flow.Map(d.below(), strconv.Itoa)); x != "none" {
		t.Error(x)
	}
	d.holds(t, "begun, ended")
}

// An iterator that is ranged over by a call of its own yields nothing more once it was
// told false.
func TestToldFalse(t *testing.T) {
	for name, s := range map[string]iter.Seq[int]{
		"From":   flow.From(upTo(4)),
		"Map":    flow.Map(flow.From(upTo(4)), func(x int) int { return x }),
		"Keep":   flow.Keep(flow.From(upTo(4)), func(int) bool { return true }),
		"Groups": flow.Map(flow.Groups(flow.From(upTo(4)), equal), func(g []int) int { return g[0] }),
		"Join":   firsts(flow.Join(flow.From(upTo(4)), flow.Cursor(upTo(4)), compare)),
	} {
		for stop := range 4 {
			calls := 0
			s(func(x int) bool {
				calls++
				return calls <= stop
			})
			if calls != stop+1 {
				t.Errorf("%s was told false by call %d, and made %d", name, stop+1, calls)
			}
		}
	}
}

// P10.1, P10.2: Map, Keep, Groups and Fold over one another.
func TestOverOneAnother(t *testing.T) {
	var source noise = 10
	for range 300 {
		l := source.list(source.below(12), 6)
		var want []string
		for i := 0; i < len(l); {
			first, sum := l[i], 0
			for i < len(l) && (l[i] == first || l[i] == 5) {
				// 5 isn't kept, and parts no group.
				if l[i] != 5 {
					sum += 10 * l[i]
				}
				i++
			}
			if first != 5 {
				want = append(want, strconv.Itoa(sum))
			}
		}
		kept := flow.Map(flow.Keep(flow.From(l), func(x int) bool { return x != 5 }), func(x int) int { return 10 * x })
		add := func(a, b int) int { return a + b }
		sums := flow.Map(flow.Groups(kept, equal), func(g []int) string { return strconv.Itoa(flow.Fold(flow.From(g), 0, add)) })
		for range 2 {
			if got := flow.List(sums); !slices.Equal(got, want) {
				t.Fatalf("of %v: %v, not %v", l, got, want)
			}
		}
		count := flow.Fold(flow.Keep(sums, func(s string) bool { return s == "0" }), 0, func(n int, _ string) int { return n + 1 })
		zeros := 0
		for _, s := range want {
			if s == "0" {
				zeros++
			}
		}
		if count != zeros {
			t.Fatalf("of %v: %d, not %d", l, count, zeros)
		}
	}
}

// R1: an iterator that is nil yields nothing, and a function that is nil answers zero.
func TestNil(t *testing.T) {
	three := flow.From(upTo(3))
	if l := flow.List[int](nil); len(l) != 0 {
		t.Error(l)
	}
	if l := flow.List(flow.Map(nil, strconv.Itoa)); len(l) != 0 {
		t.Error(l)
	}
	if l := flow.List(flow.Keep(nil, even)); len(l) != 0 {
		t.Error(l)
	}
	if l := flow.List(flow.Groups(nil, equal)); len(l) != 0 {
		t.Error(l)
	}
	if x := flow.Fold(nil, 4, func(a, b int) int { return a + b }); x != 4 {
		t.Error(x)
	}
	if l := flow.List(flow.Map[int, string](three, nil)); !slices.Equal(l, []string{"", "", ""}) {
		t.Error(l)
	}
	if l := flow.List(flow.Keep(three, nil)); len(l) != 0 {
		t.Error(l)
	}
	if l := flow.List(flow.Groups(flow.From([]int{1, 1}), nil)); !slices.EqualFunc(l, [][]int{{1}, {1}}, slices.Equal[[]int]) {
		t.Error(l)
	}
	if x := flow.Fold(three, 4, nil); x != 0 {
		t.Error(x)
	}
}
