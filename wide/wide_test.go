package wide_test

import (
	"math"
	"math/big"
	"testing"

	"sheaf/api"
	"sheaf/wide"
)

const (
	least    = math.MinInt64
	greatest = math.MaxInt64
)

func pair(hi int64, lo uint64) api.Wide { return api.Wide{Hi: hi, Lo: lo} }

// value is w by P1.1's words, worked out by other means than the package's.
func value(w api.Wide) *big.Int {
	v := new(big.Int).Lsh(big.NewInt(w.Hi), 64)
	return v.Add(v, new(big.Int).SetUint64(w.Lo))
}

// round brings v to -2^127 to 2^127 - 1 by going round at 2^128.
func round(v *big.Int) *big.Int {
	half, all := power(127), power(128)
	r := new(big.Int).Add(v, half)
	r.Mod(r, all)
	return r.Sub(r, half)
}

func power(n uint) *big.Int { return new(big.Int).Lsh(big.NewInt(1), n) }

// nearest is v by d by P1.4's words: of the whole numbers below and above, the
// nearer one, or the even one of two as near.
func nearest(v *big.Int, d int) *big.Int {
	by := big.NewInt(int64(d))
	below, rest := new(big.Int).DivMod(v, by, new(big.Int))
	side := new(big.Int).Lsh(rest, 1).Cmp(by)
	if side > 0 || side == 0 && below.Bit(0) == 1 {
		below.Add(below, big.NewInt(1))
	}
	return below
}

// ints are the edges of int, of its halves and of its powers of two, and some
// numbers of no pattern.
func ints() []int {
	l := []int{least, least + 1, least + 2, greatest, greatest - 1, greatest - 2, 10000, -10000, 123456789012345, -987654321098765}
	for _, e := range []int{0, 1, 2, 7, 31, 32, 33, 61, 62} {
		for _, n := range []int{1<<e - 1, 1 << e, 1<<e + 1} {
			l = append(l, n, -n)
		}
	}
	for i, x := 0, uint64(1); i < 40; i++ {
		x = x*6364136223846793005 + 1442695040888963407
		l = append(l, int(x)>>(i%64))
	}
	return l
}

// wides are all pairs of words at their edges, and some products.
func wides() []api.Wide {
	var l []api.Wide
	for _, hi := range []int64{least, least + 1, -1 << 62, -2, -1, 0, 1, 2, 1<<62 - 1, 1 << 62, greatest - 1, greatest} {
		for _, lo := range []uint64{0, 1, 2, 1<<63 - 1, 1 << 63, 1<<63 + 1, math.MaxUint64 - 1, math.MaxUint64} {
			l = append(l, pair(hi, lo))
		}
	}
	few := ints()
	for i, a := range few {
		l = append(l, wide.Mul(a, few[(i*7+3)%len(few)]))
	}
	return l
}

// P1.1.
func TestOfIsTheNumber(t *testing.T) {
	for _, n := range ints() {
		if got := wide.Of(n); value(got).Cmp(big.NewInt(int64(n))) != 0 {
			t.Errorf("Of(%d) = %v", n, got)
		}
	}
}

// P1.1.
func TestWordsOfAWide(t *testing.T) {
	for _, q := range []struct {
		n    int
		want api.Wide
	}{
		{0, pair(0, 0)},
		{1, pair(0, 1)},
		{-1, pair(-1, math.MaxUint64)},
		{greatest, pair(0, 1<<63-1)},
		{least, pair(-1, 1<<63)},
	} {
		if got := wide.Of(q.n); got != q.want {
			t.Errorf("Of(%d) = %v, not %v", q.n, got, q.want)
		}
	}
}

// P1.1.
func TestMulIsExact(t *testing.T) {
	for _, a := range ints() {
		for _, b := range ints() {
			want := new(big.Int).Mul(big.NewInt(int64(a)), big.NewInt(int64(b)))
			if got := wide.Mul(a, b); value(got).Cmp(want) != 0 {
				t.Errorf("Mul(%d, %d) = %v, not %v", a, b, got, want)
			}
		}
	}
}

// P1.2.
func TestAddGoesRound(t *testing.T) {
	l := wides()
	for _, a := range l {
		for _, b := range l {
			want := round(new(big.Int).Add(value(a), value(b)))
			if got := wide.Add(a, b); value(got).Cmp(want) != 0 {
				t.Errorf("Add(%v, %v) = %v, not %v", a, b, got, want)
			}
		}
	}
	if got := wide.Add(pair(greatest, math.MaxUint64), pair(0, 1)); got != pair(least, 0) {
		t.Errorf("one past the greatest is %v", got)
	}
	if got := wide.Add(pair(least, 0), pair(least, 0)); got != pair(0, 0) {
		t.Errorf("twice the least is %v", got)
	}
}

// P1.2.
func TestCmpIsTheOrder(t *testing.T) {
	l := wides()
	for _, a := range l {
		for _, b := range l {
			if got, want := wide.Cmp(a, b), value(a).Cmp(value(b)); got != want {
				t.Errorf("Cmp(%v, %v) = %d, not %d", a, b, got, want)
			}
		}
	}
}

// P1.3.
func TestIntIsAnIntOrNone(t *testing.T) {
	for _, n := range ints() {
		if got, ok := wide.Int(wide.Of(n)); got != n || !ok {
			t.Errorf("Int(Of(%d)) = %d, %v", n, got, ok)
		}
	}
	for _, w := range wides() {
		want, wantOK := 0, value(w).IsInt64()
		if wantOK {
			want = int(value(w).Int64())
		}
		if got, ok := wide.Int(w); got != want || ok != wantOK {
			t.Errorf("Int(%v) = %d, %v, not %d, %v", w, got, ok, want, wantOK)
		}
	}
}

func checkQuo(t *testing.T, w api.Wide, d int) {
	t.Helper()
	want, wantOK := 0, false
	if v := nearest(value(w), d); v.IsInt64() {
		want, wantOK = int(v.Int64()), true
	}
	if got, ok := wide.Quo(w, d); got != want || ok != wantOK {
		t.Errorf("Quo(%v, %d) = %d, %v, not %d, %v", w, d, got, ok, want, wantOK)
	}
}

// P1.4.
func TestQuoIsTheNearest(t *testing.T) {
	for _, w := range wides() {
		if w == pair(least, 0) {
			continue
		}
		for _, d := range ints() {
			if d > 0 {
				checkQuo(t, w, d)
			}
		}
	}
}

// P1.4. Around each multiple and each half of d, where the rounding turns; at the
// edges of int the same turns decide whether there is an answer.
func TestQuoAroundHalves(t *testing.T) {
	for _, d := range ints() {
		if d <= 0 {
			continue
		}
		for _, q := range []int{least, least + 1, -3, -2, -1, 0, 1, 2, 3, greatest - 1, greatest} {
			for _, part := range []int{-d, -d/2 - 1, -d / 2, -1, 0, 1, d / 2, d/2 + 1, d} {
				checkQuo(t, wide.Add(wide.Mul(q, d), wide.Of(part)), d)
			}
		}
	}
}

// P1.4.
func TestQuoHalvesGoToTheEven(t *testing.T) {
	for _, q := range []struct{ n, d, want int }{
		{1, 2, 0}, {3, 2, 2}, {5, 2, 2}, {7, 2, 4},
		{-1, 2, 0}, {-3, 2, -2}, {-5, 2, -2}, {-7, 2, -4},
		{15, 10, 2}, {25, 10, 2}, {-15, 10, -2}, {-25, 10, -2},
		{24, 10, 2}, {26, 10, 3}, {-24, 10, -2}, {-26, 10, -3},
	} {
		if got, ok := wide.Quo(wide.Of(q.n), q.d); got != q.want || !ok {
			t.Errorf("Quo(%d, %d) = %d, %v, not %d", q.n, q.d, got, ok, q.want)
		}
	}
}

// P1.4.
func TestQuoThatIsNoInt(t *testing.T) {
	for _, q := range []struct {
		w  api.Wide
		d  int
		n  int
		ok bool
	}{
		{pair(0, 1<<63), 1, 0, false},
		{pair(-1, 1<<63), 1, least, true},
		{pair(-1, 1<<63-1), 1, 0, false},
		{pair(0, math.MaxUint64-1), 2, greatest, true},
		{pair(0, math.MaxUint64), 2, 0, false},     // a half above the greatest, which is odd
		{pair(-2, math.MaxUint64), 2, least, true}, // a half below the least, which is even
		{pair(-2, math.MaxUint64-1), 2, 0, false},
		{pair(1, math.MaxUint64), 2, 0, false}, // rounds up to 2^64, which must not go round to 0
		{pair(-2, 1), 2, 0, false},
		{pair(4, math.MaxUint64), 5, 0, false},
		{pair(5, 0), 5, 0, false},
		{pair(greatest, math.MaxUint64), 1, 0, false},
		{pair(greatest, math.MaxUint64), greatest, 0, false},
		{pair(least, 1), greatest, 0, false},
	} {
		if got, ok := wide.Quo(q.w, q.d); got != q.n || ok != q.ok {
			t.Errorf("Quo(%v, %d) = %d, %v, not %d, %v", q.w, q.d, got, ok, q.n, q.ok)
		}
	}
}

// P1.4.
func TestQuoRefusesDivisors(t *testing.T) {
	for _, w := range wides() {
		for _, d := range []int{0, -1, -2, least, least + 1, -greatest} {
			if got, ok := wide.Quo(w, d); got != 0 || ok {
				t.Errorf("Quo(%v, %d) = %d, %v", w, d, got, ok)
			}
		}
	}
}

// R1. Nothing is promised of the least wide's quotients, but that they end.
func TestQuoOfTheLeastEnds(t *testing.T) {
	for _, d := range ints() {
		wide.Quo(pair(least, 0), d)
	}
}

func sum(l []api.Wide) api.Wide {
	s := wide.Of(0)
	for _, w := range l {
		s = wide.Add(s, w)
	}
	return s
}

// P1.5.
func TestSumsDontHangOnTheirOrder(t *testing.T) {
	l := wides()
	want := sum(l)
	for step := 1; step < len(l); step++ {
		turned := append(append([]api.Wide{}, l[step:]...), l[:step]...)
		if got := sum(turned); got != want {
			t.Errorf("turned by %d: %v, not %v", step, got, want)
		}
	}
	for cut := range l {
		if got := wide.Add(sum(l[:cut]), sum(l[cut:])); got != want {
			t.Errorf("cut at %d: %v, not %v", cut, got, want)
		}
	}
	for a, b := 0, len(l)-1; a < b; a, b = a+1, b-1 {
		l[a], l[b] = l[b], l[a]
	}
	if got := sum(l); got != want {
		t.Errorf("backward: %v, not %v", got, want)
	}
}

// P1.5. Sums that go beyond the greatest on the way come back.
func TestSumsBeyondOnTheWay(t *testing.T) {
	top := pair(greatest, math.MaxUint64)
	one, minus := wide.Of(1), wide.Of(-1)
	for _, l := range [][]api.Wide{{top, one, minus}, {one, top, minus}, {minus, top, one}, {one, minus, top}} {
		if got := sum(l); got != top {
			t.Errorf("%v add up to %v", l, got)
		}
	}
}

// The chapter's table 'Runs'.
func TestRunsOfTheChapter(t *testing.T) {
	product := wide.Mul(1<<62, 4)
	if product != pair(1, 0) {
		t.Errorf("Mul(1 << 62, 4) = %v", product)
	}
	if n, ok := wide.Int(product); n != 0 || ok {
		t.Errorf("Int of it: %d, %v", n, ok)
	}
	for _, q := range []struct{ n, want int }{{5, 2}, {7, 4}, {-5, -2}, {-7, -4}} {
		if got, ok := wide.Quo(wide.Of(q.n), 2); got != q.want || !ok {
			t.Errorf("Quo(%d, 2) = %d, %v", q.n, got, ok)
		}
	}
	if got, ok := wide.Quo(wide.Mul(1<<62, 6), 8); got != 3<<60 || !ok {
		t.Errorf("Quo(Mul(1 << 62, 6), 8) = %d, %v", got, ok)
	}
}
