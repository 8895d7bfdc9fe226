package money_test

import (
	"math"
	"math/big"
	"testing"

	"sheaf/api"
	"sheaf/money"
)

const (
	least    = math.MinInt64
	greatest = math.MaxInt64
)

func whole(n int) *big.Int { return big.NewInt(int64(n)) }

// value is w as one number, worked out by other means than the package's.
func value(w api.Wide) *big.Int {
	v := new(big.Int).Lsh(big.NewInt(w.Hi), 64)
	return v.Add(v, new(big.Int).SetUint64(w.Lo))
}

// scaled is n times num by den by P2.1's words: of the whole numbers below and
// above, the nearer one, or the even one of two as near; 0 and false, if den
// isn't above 0 or that is no int.
func scaled(n, num, den int) (int, bool) {
	if den <= 0 {
		return 0, false
	}
	product := new(big.Int).Mul(whole(n), whole(num))
	below, rest := new(big.Int).DivMod(product, whole(den), new(big.Int))
	side := new(big.Int).Lsh(rest, 1).Cmp(whole(den))
	if side > 0 || side == 0 && below.Bit(0) == 1 {
		below.Add(below, big.NewInt(1))
	}
	if !below.IsInt64() {
		return 0, false
	}
	return int(below.Int64()), true
}

// ints are the edges of int, of its powers of two and of Whole, and some numbers
// of no pattern.
func ints() []int {
	l := []int{least, least + 1, least + 2, greatest, greatest - 1, greatest - 2}
	for _, n := range []int{0, 1, 2, 3, 5, 7, 9999, 10000, 10001, 1 << 40, 1 << 62, 3 << 61, 123456789012345} {
		l = append(l, n, -n)
	}
	for i, x := 0, uint64(1); i < 30; i++ {
		x = x*6364136223846793005 + 1442695040888963407
		l = append(l, int(x)>>(i*2))
	}
	return l
}

// parts are those of 0 to Whole near the ends and the half, and those beyond.
func parts() []int {
	return []int{least, -10000, -1, 0, 1, 2, 2500, 3333, 4999, 5000, 5001, 6667, 7500, 9998, 9999, 10000, 10001, 20000, 1 << 62, greatest}
}

// P2.1.
func TestScaleIsTheNearest(t *testing.T) {
	l := ints()
	for _, n := range l {
		for _, num := range l {
			for _, den := range l {
				want, wantOK := scaled(n, num, den)
				if got, ok := money.Scale(n, num, den); got != want || ok != wantOK {
					t.Fatalf("Scale(%d, %d, %d) = %d, %v, not %d, %v", n, num, den, got, ok, want, wantOK)
				}
			}
		}
	}
}

// P2.1.
func TestScaleHalvesGoToTheEven(t *testing.T) {
	for _, q := range []struct{ n, num, den, want int }{
		{1, 1, 2, 0}, {3, 1, 2, 2}, {5, 1, 2, 2}, {7, 1, 2, 4},
		{-1, 1, 2, 0}, {-3, 1, 2, -2}, {5, -1, 2, -2}, {7, -1, 2, -4},
		{-3, -1, 2, 2}, {-5, -1, 2, 2}, {5, 3, 6, 2}, {5, 5, 10, 2},
		{9, 1, 4, 2}, {11, 1, 4, 3}, {-9, 1, 4, -2}, {-11, 1, 4, -3},
		{greatest, 1, 2, 1 << 62}, {-greatest, 1, 2, -1 << 62},
	} {
		if got, ok := money.Scale(q.n, q.num, q.den); got != q.want || !ok {
			t.Errorf("Scale(%d, %d, %d) = %d, %v, not %d", q.n, q.num, q.den, got, ok, q.want)
		}
	}
}

// P2.1. A product beyond all ints doesn't matter, if the quotient is one.
func TestScaleBeyondOnTheWay(t *testing.T) {
	for _, q := range []struct{ n, num, den, want int }{
		{greatest, greatest, greatest, greatest},
		{least, greatest, greatest, least},
		{greatest, least, greatest, least},
		{1 << 62, 6, 8, 3 << 60},
		{least, 1, 1, least},
		{-greatest, -greatest, greatest, greatest},
	} {
		if got, ok := money.Scale(q.n, q.num, q.den); got != q.want || !ok {
			t.Errorf("Scale(%d, %d, %d) = %d, %v, not %d", q.n, q.num, q.den, got, ok, q.want)
		}
	}
}

// P2.1.
func TestScaleRefuses(t *testing.T) {
	for _, q := range []struct{ n, num, den int }{
		{5, 3, 0}, {5, 3, -1}, {5, 3, -7}, {5, 3, least}, {0, 0, 0}, {0, 0, -1}, {10, 10, -10},
		{greatest, 2, 1}, {least, 2, 1}, {least, -1, 1}, {least, least, 1}, {least, least, greatest},
		{greatest, greatest, 1}, {least, 3, 2}, {1 << 62, 4, 2},
	} {
		if got, ok := money.Scale(q.n, q.num, q.den); got != 0 || ok {
			t.Errorf("Scale(%d, %d, %d) = %d, %v", q.n, q.num, q.den, got, ok)
		}
	}
}

// P2.2.
func TestSplitIsAPartAndTheRest(t *testing.T) {
	for _, n := range ints() {
		for _, part := range parts() {
			inside := part
			if part < 0 {
				inside = 0
			}
			if part > 10000 {
				inside = 10000
			}
			want, ok := scaled(n, inside, 10000)
			if !ok {
				t.Fatalf("no share of %d", n)
			}
			if share, rest := money.Split(n, part); share != want || rest != n-want {
				t.Errorf("Split(%d, %d) = %d, %d, not %d, %d", n, part, share, rest, want, n-want)
			}
		}
	}
}

// P2.2.
func TestSplitAtTheEnds(t *testing.T) {
	for _, n := range ints() {
		for _, part := range []int{least, -9, -1, 0} {
			if share, rest := money.Split(n, part); share != 0 || rest != n {
				t.Errorf("Split(%d, %d) = %d, %d", n, part, share, rest)
			}
		}
		for _, part := range []int{10000, 10001, 1 << 62, greatest} {
			if share, rest := money.Split(n, part); share != n || rest != 0 {
				t.Errorf("Split(%d, %d) = %d, %d", n, part, share, rest)
			}
		}
	}
}

// P2.2.
func TestSplitHalvesGoToTheEven(t *testing.T) {
	for _, q := range []struct{ n, part, share, rest int }{
		{1, 5000, 0, 1}, {3, 5000, 2, 1}, {5, 5000, 2, 3}, {7, 5000, 4, 3},
		{-1, 5000, 0, -1}, {-3, 5000, -2, -1}, {-5, 5000, -2, -3}, {-7, 5000, -4, -3},
		{2, 2500, 0, 2}, {6, 2500, 2, 4}, {6, 7500, 4, 2}, {2, 7500, 2, 0},
		{1, 4999, 0, 1}, {1, 5001, 1, 0}, {-1, 4999, 0, -1}, {-1, 5001, -1, 0},
		{greatest, 5000, 1 << 62, 1<<62 - 1}, {least, 5000, -1 << 62, -1 << 62},
		{-greatest, 5000, -1 << 62, 1 - 1<<62},
	} {
		if share, rest := money.Split(q.n, q.part); share != q.share || rest != q.rest {
			t.Errorf("Split(%d, %d) = %d, %d, not %d, %d", q.n, q.part, share, rest, q.share, q.rest)
		}
	}
}

// P2.2.
func TestWholeIsTenThousand(t *testing.T) {
	if money.Whole != 10000 {
		t.Errorf("Whole is %d", money.Whole)
	}
}

// P2.3.
func TestZeroSumIsNought(t *testing.T) {
	var s money.Sum
	checkSum(t, "the zero Sum", &s, big.NewInt(0))
	s.Join(money.Sum{})
	checkSum(t, "two zero Sums", &s, big.NewInt(0))
}

// checkSum holds both of a Sum's answers against what it should be.
func checkSum(t *testing.T, name string, s *money.Sum, want *big.Int) {
	t.Helper()
	if got := s.Wide(); value(got).Cmp(want) != 0 {
		t.Errorf("%s: Wide is %v, not %v", name, got, want)
	}
	n, wantOK := 0, want.IsInt64()
	if wantOK {
		n = int(want.Int64())
	}
	if got, ok := s.Value(); got != n || ok != wantOK {
		t.Errorf("%s: Value is %d, %v, not %d, %v", name, got, ok, n, wantOK)
	}
}

// P2.3. Asked behind each number, so that asking is seen to change nothing.
func TestAddIsOneMore(t *testing.T) {
	var s money.Sum
	want := new(big.Int)
	for _, n := range ints() {
		s.Add(n)
		want.Add(want, whole(n))
		checkSum(t, "the sum so far", &s, want)
	}
}

// P2.3.
func TestJoinIsAllOfTheOther(t *testing.T) {
	l := ints()
	for cut := range l {
		var s, u money.Sum
		head, tail := new(big.Int), new(big.Int)
		for _, n := range l[:cut] {
			s.Add(n)
			head.Add(head, whole(n))
		}
		for _, n := range l[cut:] {
			u.Add(n)
			tail.Add(tail, whole(n))
		}
		s.Join(u)
		checkSum(t, "joined", &s, new(big.Int).Add(head, tail))
		checkSum(t, "the one that was joined", &u, tail)
	}
}

// P2.3. A Sum can be joined to itself.
func TestJoinOfItself(t *testing.T) {
	var s money.Sum
	s.Add(greatest)
	want := whole(greatest)
	for range 40 {
		s.Join(s)
		want = new(big.Int).Lsh(want, 1)
		checkSum(t, "twice itself", &s, want)
	}
}

// P2.3. 2^62 times the least and the greatest int, by doubling, are the farthest
// that a Sum may get.
func TestSumOfVeryMany(t *testing.T) {
	for _, n := range []int{least, greatest} {
		var s money.Sum
		s.Add(n)
		for range 62 {
			s.Join(s)
		}
		checkSum(t, "2^62 of them", &s, new(big.Int).Lsh(whole(n), 62))
	}
}

// P2.3.
func TestValueAtTheEdges(t *testing.T) {
	for _, q := range []struct {
		l  []int
		n  int
		ok bool
	}{
		{[]int{greatest}, greatest, true},
		{[]int{greatest, 1}, 0, false},
		{[]int{least}, least, true},
		{[]int{least, -1}, 0, false},
		{[]int{least, least}, 0, false},
		{[]int{greatest, greatest, 2}, 0, false}, // 2^64, whose lower word is 0
	} {
		var s money.Sum
		for _, n := range q.l {
			s.Add(n)
		}
		if got, ok := s.Value(); got != q.n || ok != q.ok {
			t.Errorf("%v: %d, %v, not %d, %v", q.l, got, ok, q.n, q.ok)
		}
	}
}

// P2.3. A copy is a Sum of its own.
func TestCopiesOfASum(t *testing.T) {
	var s money.Sum
	s.Add(5)
	copied := s
	s.Add(1)
	copied.Add(10)
	checkSum(t, "the Sum", &s, big.NewInt(6))
	checkSum(t, "its copy", &copied, big.NewInt(15))
}

// P2.4.
func TestSplitLosesNothing(t *testing.T) {
	for _, n := range ints() {
		for _, part := range parts() {
			share, rest := money.Split(n, part)
			if both := new(big.Int).Add(whole(share), whole(rest)); both.Cmp(whole(n)) != 0 {
				t.Errorf("Split(%d, %d) = %d, %d", n, part, share, rest)
			}
		}
	}
}

// P2.4.
func TestSumsDontHangOnTheirOrder(t *testing.T) {
	l := ints()
	want := new(big.Int)
	for _, n := range l {
		want.Add(want, whole(n))
	}
	for step := range l {
		var forward, backward, joined, tail money.Sum
		for i := range l {
			n := l[(i+step)%len(l)]
			forward.Add(n)
			backward.Add(l[(2*len(l)-1-i-step)%len(l)])
			if i < step {
				joined.Add(n)
			} else {
				tail.Add(n)
			}
		}
		tail.Join(joined)
		checkSum(t, "forward", &forward, want)
		checkSum(t, "backward", &backward, want)
		checkSum(t, "joined", &tail, want)
	}
}

// P2.4.
func TestSumsBeyondOnTheWay(t *testing.T) {
	for _, q := range []struct {
		l    []int
		want int
	}{
		{[]int{greatest, 1, -1}, greatest},
		{[]int{greatest, greatest, -greatest, -greatest}, 0},
		{[]int{least, -1, 1}, least},
		{[]int{least, least, greatest, greatest}, -2},
		{[]int{greatest, greatest, greatest, least, least, least}, -3},
	} {
		var s money.Sum
		for _, n := range q.l {
			s.Add(n)
		}
		if got, ok := s.Value(); got != q.want || !ok {
			t.Errorf("%v: %d, %v, not %d", q.l, got, ok, q.want)
		}
	}
}

// The chapter's table 'Runs'.
func TestRunsOfTheChapter(t *testing.T) {
	if got, ok := money.Scale(10, 1, 4); got != 2 || !ok {
		t.Errorf("Scale(10, 1, 4) = %d, %v", got, ok)
	}
	if share, rest := money.Split(7, 5000); share != 4 || rest != 3 {
		t.Errorf("Split(7, 5000) = %d, %d", share, rest)
	}
	if share, rest := money.Split(-7, 5000); share != -4 || rest != -3 {
		t.Errorf("Split(-7, 5000) = %d, %d", share, rest)
	}
	var s money.Sum
	for _, n := range []int{greatest, 1, -1} {
		s.Add(n)
	}
	if got, ok := s.Value(); got != greatest || !ok {
		t.Errorf("the Sum of 2^63 - 1, 1, -1 is %d, %v", got, ok)
	}
}
