package heap_test

import (
	"cmp"
	"math"
	"slices"
	"strings"
	"testing"

	"sheaf/heap"
)

// thing has a key to go by, and a tag that tells it from those of its key.
type thing struct{ key, tag int }

func byKey(a, b thing) bool { return a.key < b.key }

// order is an order of numbers, or none, and what it goes by.
type order struct {
	name string
	less func(a, b int) bool
}

// noise is numbers of no pattern, from 0 on, below n.
func noise(seed, n int) func() int {
	x := uint64(seed)*2862933555777941757 + 3037000493
	return func() int {
		x = x*6364136223846793005 + 1442695040888963407
		return int(x>>33) % n
	}
}

// pair is a heap, and a list of what must be in it.
type pair[T comparable] struct {
	t    *testing.T
	less func(a, b T) bool
	h    *heap.Heap[T]
	in   []T
}

func paired[T comparable](t *testing.T, less func(a, b T) bool) *pair[T] {
	p := &pair[T]{t: t, less: less, h: heap.New(less)}
	p.counts()
	return p
}

func (p *pair[T]) counts() {
	p.t.Helper()
	if p.h.Len() != len(p.in) {
		p.t.Fatalf("Len is %d, in it are %v", p.h.Len(), p.in)
	}
}

func (p *pair[T]) push(l ...T) {
	p.t.Helper()
	for _, x := range l {
		p.h.Push(x)
		p.in = append(p.in, x)
		p.counts()
	}
}

// stands holds what Top or Pop answers against what is in the heap, and is where in
// the list that is.
func (p *pair[T]) stands(call string, x T, ok bool) int {
	p.t.Helper()
	var none T
	if len(p.in) == 0 {
		if x != none || ok {
			p.t.Fatalf("%s of nothing is %v, %v", call, x, ok)
		}
		return -1
	}
	at := slices.Index(p.in, x)
	if !ok || at < 0 {
		p.t.Fatalf("%s is %v, %v; in it are %v", call, x, ok, p.in)
	}
	for _, y := range p.in {
		if p.less(y, x) {
			p.t.Fatalf("%s is %v, but %v is less", call, x, y)
		}
	}
	return at
}

func (p *pair[T]) top() {
	p.t.Helper()
	x, ok := p.h.Top()
	p.stands("Top", x, ok)
	p.counts()
}

func (p *pair[T]) pop() T {
	p.t.Helper()
	x, ok := p.h.Pop()
	if at := p.stands("Pop", x, ok); at >= 0 {
		p.in = slices.Delete(p.in, at, at+1)
	}
	p.counts()
	return x
}

// drain Pops all that is in it, and once more.
func (p *pair[T]) drain() []T {
	p.t.Helper()
	var out []T
	for range len(p.in) {
		p.top()
		out = append(out, p.pop())
	}
	for i, x := range out {
		if i > 0 && p.less(x, out[i-1]) {
			p.t.Fatalf("%v comes out behind %v", x, out[i-1])
		}
	}
	p.top()
	p.pop()
	return out
}

// pops is what comes out of h; want says how many there are.
func pops[T any](t *testing.T, h *heap.Heap[T], want int) []T {
	t.Helper()
	var out []T
	for h.Len() > 0 && len(out) < want {
		x, ok := h.Pop()
		if !ok {
			t.Fatalf("no Pop of %d", h.Len())
		}
		out = append(out, x)
	}
	if _, ok := h.Pop(); ok || len(out) != want || h.Len() != 0 {
		t.Fatalf("%d come out, and %v; %d are left; not %d", len(out), ok, h.Len(), want)
	}
	return out
}

// comesOut holds what comes out of a heap of in against want.
func comesOut[T comparable](t *testing.T, less func(a, b T) bool, in []T, want ...T) {
	t.Helper()
	h := heap.New(less)
	for _, x := range in {
		h.Push(x)
	}
	if got := pops(t, h, len(want)); !slices.Equal(got, want) {
		t.Fatalf("out of %v come %v, not %v", in, got, want)
	}
}

// nothing holds an empty heap's answers against zero and false.
func nothing[T comparable](t *testing.T, less func(a, b T) bool) {
	t.Helper()
	p := paired(t, less)
	for range 3 {
		p.top()
		p.pop()
	}
}

// orders yields each order of 0 to n - 1, in one list.
func orders(n int, yield func(l []int)) {
	l := make([]int, 0, n)
	var rest func()
	rest = func() {
		if len(l) == n {
			yield(l)
			return
		}
		for x := range n {
			if !slices.Contains(l, x) {
				l = append(l, x)
				rest()
				l = l[:len(l)-1]
			}
		}
	}
	rest()
}

// P8.1, P8.2, P8.3: the chapter's run.
func TestChaptersRun(t *testing.T) {
	h := heap.New(cmp.Less[int])
	for _, x := range []int{5, 1, 4, 1} {
		h.Push(x)
	}
	for _, want := range []int{1, 1, 4, 5} {
		if x, ok := h.Pop(); x != want || !ok {
			t.Fatalf("Pop is %d, %v, not %d", x, ok, want)
		}
	}
	if x, ok := h.Pop(); x != 0 || ok {
		t.Fatalf("Pop of nothing is %d, %v", x, ok)
	}
}

// P8.1, P8.2.
func TestNewHasNothing(t *testing.T) {
	nothing(t, cmp.Less[int])
	nothing(t, cmp.Less[string])
	nothing(t, cmp.Less[float64])
	nothing(t, byKey)
	nothing(t, func(a, b [2]int) bool { return a[0] < b[0] })
	nothing(t, func(a, b *int) bool { return *a < *b })
	nothing(t, func(a, b bool) bool { return !a && b })
	if l, ok := heap.New(func(a, b []int) bool { return len(a) < len(b) }).Pop(); l != nil || ok {
		t.Errorf("Pop of nothing is %v, %v", l, ok)
	}
}

// P8.1, P8.2: zero things are things.
func TestOneThing(t *testing.T) {
	for _, x := range []int{0, 7, -7, math.MinInt, math.MaxInt} {
		p := paired(t, cmp.Less[int])
		p.push(x)
		p.drain()
		p.push(x)
		p.drain()
	}
	p := paired(t, byKey)
	p.push(thing{})
	p.drain()
}

// P8.1: nothing is in it that wasn't pushed, and a Top or a Pop of nothing counts nothing.
func TestLenCounts(t *testing.T) {
	h := heap.New(cmp.Less[int])
	for n := range 100 {
		if h.Len() != n {
			t.Fatalf("behind %d Pushes Len is %d", n, h.Len())
		}
		h.Push(n % 3)
	}
	for n := 100; n > 0; n-- {
		if h.Len() != n {
			t.Fatalf("Len is %d, not %d", h.Len(), n)
		}
		h.Pop()
	}
	for range 3 {
		h.Pop()
		h.Top()
		if h.Len() != 0 {
			t.Fatalf("Len of nothing is %d", h.Len())
		}
	}
	h.Push(1)
	if h.Len() != 1 {
		t.Fatalf("Len of one is %d", h.Len())
	}
}

// P8.2.
func TestTopTakesNothingOut(t *testing.T) {
	h := heap.New(cmp.Less[int])
	for i, x := range []int{8, 9, 3, 3, 5, 1, 2} {
		h.Push(x)
		least := slices.Min([]int{8, 9, 3, 3, 5, 1, 2}[:i+1])
		for range 4 {
			if got, ok := h.Top(); got != least || !ok || h.Len() != i+1 {
				t.Fatalf("Top is %d, %v of %d, not %d", got, ok, h.Len(), least)
			}
		}
	}
	if got := pops(t, h, 7); !slices.Equal(got, []int{1, 2, 3, 3, 5, 8, 9}) {
		t.Fatal(got)
	}
}

// P8.2.
func TestPopOfTheLastOneAndBehindIt(t *testing.T) {
	p := paired(t, cmp.Less[int])
	p.push(4, 2)
	for range 5 {
		p.pop()
		p.top()
	}
	p.push(3)
	if x := p.pop(); x != 3 {
		t.Fatalf("Pop is %d, not 3", x)
	}
	p.pop()
	p.push(6, 5)
	if got := p.drain(); !slices.Equal(got, []int{5, 6}) {
		t.Fatal(got)
	}
}

// P8.3: each order in which a few things may come in, some of them alike.
func TestEachOrderOfAFew(t *testing.T) {
	for n := range 7 {
		for _, keys := range []int{1, 2, 3, n + 1} {
			orders(n, func(l []int) {
				p := paired(t, byKey)
				for _, x := range l {
					p.push(thing{x % keys, x})
				}
				p.drain()
			})
		}
	}
}

// P8.3. (How often less is asked is no promise; but a heap that holds each against
// each would ask some thousands of times for each thing here.)
func TestManyThings(t *testing.T) {
	const n = 1 << 16
	next := noise(1, math.MaxInt)
	for _, q := range []struct {
		name string
		f    func(i int) int
	}{
		{"rising", func(i int) int { return i }},
		{"falling", func(i int) int { return -i }},
		{"rising and falling by turns", func(i int) int { return i * (1 - i%2*2) }},
		{"any order", func(int) int { return next() }},
		{"any order, of few keys", func(int) int { return next() % 1000 }},
	} {
		calls := 0
		h := heap.New(func(a, b int) bool { calls++; return a < b })
		var in []int
		for i := range n {
			in = append(in, q.f(i))
			h.Push(in[i])
		}
		out := pops(t, h, n)
		slices.Sort(in)
		if !slices.Equal(out, in) {
			t.Errorf("%s: not all come out by their order", q.name)
		}
		if calls > 200*n {
			t.Errorf("%s: less was asked %d times for each", q.name, calls/n)
		}
	}
}

// P8.3: alike things are told by their tags: each comes out once.
func TestAlikeThings(t *testing.T) {
	for _, keys := range []int{1, 2, 10} {
		p := paired(t, byKey)
		for i := range 300 {
			p.push(thing{i * i % keys, i})
		}
		tags := map[int]int{}
		for _, x := range p.drain() {
			tags[x.tag]++
			if x.key != x.tag*x.tag%keys {
				t.Fatalf("%v came out, and never went in", x)
			}
		}
		if len(tags) != 300 {
			t.Fatalf("%d of 300 came out", len(tags))
		}
	}
}

// P8.3: what is the same is there as often as it was put in.
func TestTheSameThingAgain(t *testing.T) {
	comesOut(t, byKey, []thing{{1, 1}, {1, 1}, {0, 2}, {1, 1}, {0, 2}}, thing{0, 2}, thing{0, 2}, thing{1, 1}, thing{1, 1}, thing{1, 1})
}

// P8.1, P8.2, P8.3.
func TestPushAndPopByTurns(t *testing.T) {
	for seed := range 40 {
		next := noise(seed, 1<<30)
		p := paired(t, byKey)
		keys := 1 + next()%(1+seed*seed)
		for i := range 400 {
			// Now more come in, now more go out, so that it is empty at times.
			if next()%10 < 3+i/50%2*4 {
				p.pop()
			} else {
				p.push(thing{next() % keys, i})
			}
			p.top()
		}
		p.drain()
	}
}

// P8.2: one that is less than all ahead of it is Top at once, and behind it they are again.
func TestALesserOneComesLater(t *testing.T) {
	p := paired(t, cmp.Less[int])
	for i := range 50 {
		p.push(100+i%7, 50-i)
		if x := p.pop(); x != 50-i {
			t.Fatalf("Pop is %d, not %d", x, 50-i)
		}
	}
	p.drain()
}

// P8.3: numbers, texts, structs, lists.
func TestTypes(t *testing.T) {
	comesOut(t, cmp.Less[int], []int{0, math.MaxInt, -1, math.MinInt, 1}, math.MinInt, -1, 0, 1, math.MaxInt)
	comesOut(t, cmp.Less[uint8], []uint8{255, 0, 128, 127}, 0, 127, 128, 255)
	comesOut(t, cmp.Less[float64], []float64{0.5, math.Inf(1), -0.5, math.Inf(-1), 0}, math.Inf(-1), -0.5, 0, 0.5, math.Inf(1))
	comesOut(t, cmp.Less[string], []string{"b", "", "ab", "a", "\xff", "\x00", "ä"}, "", "\x00", "a", "ab", "b", "ä", "\xff")
	comesOut(t, func(a, b bool) bool { return !a && b }, []bool{true, false, true}, false, true, true)
	comesOut(t, func(a, b [2]int) bool { return a[1] < b[1] }, [][2]int{{1, 3}, {2, 2}, {3, 1}}, [2]int{3, 1}, [2]int{2, 2}, [2]int{1, 3})
	comesOut(t, func(a, b error) bool { return a == nil && b != nil }, []error{nil}, nil)
	h := heap.New(func(a, b []int) bool { return slices.Compare(a, b) < 0 })
	for _, l := range [][]int{{2}, nil, {1, 5}, {1}} {
		h.Push(l)
	}
	if got := pops(t, h, 4); !slices.EqualFunc(got, [][]int{nil, {1}, {1, 5}, {2}}, slices.Equal) {
		t.Errorf("the lists come out as %v", got)
	}
}

// P8.3: an order by a part, by several parts, and the opposite one.
func TestOrders(t *testing.T) {
	in := []thing{{2, 1}, {1, 2}, {3, 3}, {1, 1}}
	comesOut(t, func(a, b thing) bool { return a.key < b.key || a.key == b.key && a.tag > b.tag }, in, thing{1, 2}, thing{1, 1}, thing{2, 1}, thing{3, 3})
	comesOut(t, cmp.Less[int], []int{3, 1, 2, 1}, 1, 1, 2, 3)
	comesOut(t, func(a, b int) bool { return a > b }, []int{3, 1, 2, 1}, 3, 2, 1, 1)
	comesOut(t, func(a, b string) bool { return strings.ToLower(a) < strings.ToLower(b) }, []string{"B", "a", "C"}, "a", "B", "C")
	p := paired(t, func(a, b thing) bool { return byKey(b, a) })
	for i := range 100 {
		p.push(thing{i * i % 17, i})
	}
	p.drain()
}

// P8.2, P8.3: a strict order may leave two things side by side, and a third one less
// than one of them alone.
func TestOrdersThatLeaveThingsSideBySide(t *testing.T) {
	floats := []float64{3, math.NaN(), 1, 2, math.NaN(), 0, math.Inf(-1), math.NaN(), -1, math.Inf(1)}
	for _, q := range []order{
		{"a part of the bits", func(a, b int) bool { return a != b && a&b == a }},
		{"a divisor", func(a, b int) bool { return a < b && (b+1)%(a+1) == 0 }},
		{"less by both halves", func(a, b int) bool { return a%8 < b%8 && a/8 < b/8 }},
		{"less by far", func(a, b int) bool { return a+20 < b }},
		{"floats that may be no number", func(a, b int) bool { return floats[a%10] < floats[b%10] }},
		{"never", func(a, b int) bool { return false }},
	} {
		t.Run(q.name, func(t *testing.T) {
			if !strict(64, q.less) {
				t.Fatal("that is no strict order")
			}
			for seed := range 30 {
				next := noise(seed, 64)
				p := paired(t, q.less)
				for range 80 {
					p.push(next())
					if next()%4 == 0 {
						p.pop()
					}
				}
				p.drain()
			}
		})
	}
}

// P8.2: in 2, 3, 1 the last one is less than the first one, and neither is held
// against the one between.
func TestALesserOneBeneathOneBeside(t *testing.T) {
	less := func(a, b string) bool { return a == "least" && b == "greatest" }
	orders(3, func(l []int) {
		p := paired(t, less)
		for _, i := range l {
			p.push([]string{"greatest", "beside", "least"}[i])
		}
		p.drain()
	})
}

// P8.2, P8.3: each strict order of four things, each order in which they come in, and
// a Pop behind each of them, or none.
func TestEachStrictOrderOfFour(t *testing.T) {
	const n = 4
	for code := range 1 << (n * n) {
		less := func(a, b int) bool { return code>>(a*n+b)&1 == 1 }
		if !strict(n, less) {
			continue
		}
		orders(n, func(l []int) {
			for turns := range 1 << (n - 1) {
				p := paired(t, less)
				for i, x := range l {
					p.push(x)
					if turns>>i&1 == 1 {
						p.pop()
					}
				}
				p.drain()
			}
		})
	}
}

// strict reports whether less is a strict order of 0 to n - 1.
func strict(n int, less func(a, b int) bool) bool {
	for a := range n {
		for b := range n {
			if less(a, b) && less(b, a) {
				return false
			}
			for c := range n {
				if less(a, b) && less(b, c) && !less(a, c) {
					return false
				}
			}
		}
	}
	return true
}

// Orders that are none: all ends. (Of what comes out nothing is promised, but that
// nothing is doubled or lost on the way is why all ends.)
func TestOrdersThatAreNone(t *testing.T) {
	turn := 0
	for _, q := range []order{
		{"always", func(a, b int) bool { return true }},
		{"not above", func(a, b int) bool { return a <= b }},
		{"unlike", func(a, b int) bool { return a != b }},
		{"round in a ring", func(a, b int) bool { return (b-a+300)%3 == 1 }},
		{"another each time", func(a, b int) bool { turn++; return turn*turn%7 < 3 }},
		{"by the first", func(a, b int) bool { return a%2 == 0 }},
		{"by the second", func(a, b int) bool { return b%2 == 0 }},
		{"none at all", nil},
	} {
		t.Run(q.name, func(t *testing.T) {
			h := heap.New(q.less)
			var in, out []int
			for i := range 500 {
				in = append(in, i*i%100)
				h.Push(in[i])
				h.Top()
				if x, ok := h.Pop(); ok && i%5 == 4 {
					out = append(out, x)
				} else {
					h.Push(x)
				}
			}
			out = append(out, pops(t, h, 400)...)
			slices.Sort(in)
			slices.Sort(out)
			if !slices.Equal(in, out) {
				t.Fatalf("what went in, and what came out: %v, %v", in, out)
			}
			nothing(t, q.less)
		})
	}
}

// P8.3: what is handed in as a value is what it was, whatever becomes of the variable.
func TestValuesThatAreChangedBehindAPush(t *testing.T) {
	h := heap.New(func(a, b [2]int) bool { return a[0] < b[0] })
	var x [2]int
	for i := range 10 {
		x = [2]int{i * 7 % 10, i}
		h.Push(x)
		x[0] = -1
	}
	x, _ = h.Top()
	x[0], x[1] = 5, 5
	for i, got := range pops(t, h, 10) {
		if got != [2]int{i, i * 3 % 10} {
			t.Fatalf("%v comes out as number %d", got, i)
		}
	}
}

// P8.3: a pointer that went in comes out, and what it points to is the caller's.
func TestPointersThatAreChangedBehindAPush(t *testing.T) {
	h := heap.New(func(a, b *thing) bool { return a.key < b.key })
	var in []*thing
	for i := range 100 {
		in = append(in, &thing{i * 37 % 100, i})
		h.Push(in[i])
	}
	for _, x := range in {
		x.tag = -x.key
	}
	for i := range 50 {
		if x, ok := h.Pop(); !ok || *x != (thing{i, -i}) || !slices.Contains(in, x) {
			t.Fatalf("Pop is %v, %v, not the one of key %d", x, ok, i)
		}
	}
	// Now the order itself is upset: all ends, and the heap is as good as new behind it.
	for i, x := range in {
		x.key = i * i % 11
	}
	for range 200 {
		h.Top()
		h.Pop()
	}
	one := &thing{1, 1}
	h.Push(one)
	if x, ok := h.Pop(); x != one || !ok || h.Len() != 0 {
		t.Fatalf("Pop is %v, %v", x, ok)
	}
}

// R2: a list that is handed in isn't changed, nor what is behind its end; and a change
// by the caller ends nowhere but in the order.
func TestListsThatAreChangedBehindAPush(t *testing.T) {
	h := heap.New(func(a, b []int) bool { return a[0] < b[0] })
	var in [][]int
	for i := range 50 {
		l := []int{i * 7 % 50, i, -1, -2}
		in = append(in, l)
		h.Push(l[:2])
	}
	for i := range 25 {
		x, ok := h.Pop()
		if !ok || len(x) != 2 || x[0] != i {
			t.Fatalf("Pop is %v, %v, not the one of %d", x, ok, i)
		}
	}
	for i, l := range in {
		if !slices.Equal(l, []int{i * 7 % 50, i, -1, -2}) {
			t.Fatalf("list %d is %v now", i, l)
		}
		l[0] = i % 4
	}
	for range 100 {
		h.Top()
		h.Pop()
	}
}

// P8.1, P8.2: two heaps of one order know nothing of each other.
func TestTwoHeapsBesideEachOther(t *testing.T) {
	a, b := paired(t, byKey), paired(t, byKey)
	for i := range 200 {
		a.push(thing{i * i % 23, i})
		a.top()
		b.top()
		if i%2 == 0 {
			b.push(thing{i * i % 29, i})
			a.pop()
		}
		if i%3 == 0 {
			b.pop()
			a.counts()
		}
	}
	a.drain()
	b.drain()
	b.push(thing{1, 1})
	a.top()
	a.pop()
	b.drain()
}
