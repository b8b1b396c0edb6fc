package word_test

import (
	"math/big"
	"testing"

	"tallystick/api"
	"tallystick/word"
)

const top = 1<<64 - 1

// words are the edges of a word's range, and words without any pattern.
func words() []uint64 {
	l := []uint64{0, 1, 2, 3, 5, 7, 10, 1<<31 - 1, 1 << 31, 1<<32 - 1, 1 << 32, 1<<32 + 1, 1<<40 + 9, 1<<63 - 1, 1 << 63, 1<<63 + 1, api.Prime - 1, api.Prime, top - 1, top}
	for s, i := uint64(88172645463325252), 0; i < 12; i++ {
		s ^= s << 13
		s ^= s >> 7
		s ^= s << 17
		l = append(l, s>>(uint(i)%4*13))
	}
	return l
}

// carries: any that is not 0 counts as 1.
var carries = []struct{ given, counts uint64 }{{0, 0}, {1, 1}, {2, 1}, {7, 1}, {1 << 32, 1}, {1 << 63, 1}, {top, 1}}

func whole(a uint64) *big.Int { return new(big.Int).SetUint64(a) }

// double is hi times 2^64 plus lo.
func double(hi, lo uint64) *big.Int {
	n := new(big.Int).Lsh(whole(hi), 64)
	return n.Or(n, whole(lo))
}

// TestAddExamples: P1.1, sums at the edges.
func TestAddExamples(t *testing.T) {
	for _, x := range []struct{ a, b, c, sum, carry uint64 }{
		{0, 0, 0, 0, 0},
		{2, 3, 0, 5, 0},
		{2, 3, 1, 6, 0},
		{0, 0, top, 1, 0},
		{top, 0, 0, top, 0},
		{top, 0, 1, 0, 1},
		{top, 0, 7, 0, 1},
		{0, top, 1 << 63, 0, 1},
		{top, 1, 0, 0, 1},
		{top, top, 0, top - 1, 1},
		{top, top, 1, top, 1},
		{top, top, top, top, 1},
		{1 << 63, 1 << 63, 0, 0, 1},
		{1 << 63, 1<<63 - 1, 0, top, 0},
		{1 << 63, 1<<63 - 1, 2, 0, 1},
	} {
		if s, c := word.Add(x.a, x.b, x.c); s != x.sum || c != x.carry {
			t.Errorf("Add(%d, %d, %d) = %d, %d, not %d, %d", x.a, x.b, x.c, s, c, x.sum, x.carry)
		}
	}
}

// TestSubExamples: P1.1, differences at the edges.
func TestSubExamples(t *testing.T) {
	for _, x := range []struct{ a, b, c, diff, borrow uint64 }{
		{0, 0, 0, 0, 0},
		{5, 3, 0, 2, 0},
		{5, 3, 1, 1, 0},
		{3, 3, 0, 0, 0},
		{3, 3, 9, top, 1},
		{0, 0, 1, top, 1},
		{0, 0, 1 << 63, top, 1},
		{0, 1, 0, top, 1},
		{0, top, 0, 1, 1},
		{0, top, 1, 0, 1},
		{0, top, top, 0, 1},
		{top, top, 0, 0, 0},
		{top, top, 1, top, 1},
		{top, 0, top, top - 1, 0},
		{top, top - 1, 2, 0, 0},
		{1 << 63, 1<<63 + 1, 0, top, 1},
	} {
		if d, c := word.Sub(x.a, x.b, x.c); d != x.diff || c != x.borrow {
			t.Errorf("Sub(%d, %d, %d) = %d, %d, not %d, %d", x.a, x.b, x.c, d, c, x.diff, x.borrow)
		}
	}
}

// TestMulExamples: P1.1, products at the edges.
func TestMulExamples(t *testing.T) {
	for _, x := range []struct{ a, b, hi, lo uint64 }{
		{0, 0, 0, 0},
		{0, top, 0, 0},
		{top, 0, 0, 0},
		{1, top, 0, top},
		{6, 7, 0, 42},
		{1 << 63, 2, 1, 0},
		{1 << 63, 6, 3, 0},
		{6, 1 << 63, 3, 0},
		{1 << 32, 1 << 32, 1, 0},
		{1<<32 - 1, 1<<32 + 1, 0, top},
		{top, 2, 1, top - 1},
		{top, top, top - 1, 1},
	} {
		if hi, lo := word.Mul(x.a, x.b); hi != x.hi || lo != x.lo {
			t.Errorf("Mul(%d, %d) = %d, %d, not %d, %d", x.a, x.b, hi, lo, x.hi, x.lo)
		}
	}
}

// TestSums: P1.1, sums, differences and products against numbers of any length.
func TestSums(t *testing.T) {
	for _, a := range words() {
		for _, b := range words() {
			for _, c := range carries {
				s, carry := word.Add(a, b, c.given)
				want := new(big.Int).Add(whole(a), whole(b))
				if want.Add(want, whole(c.counts)); carry > 1 || double(carry, s).Cmp(want) != 0 {
					t.Errorf("Add(%d, %d, %d) = %d, %d", a, b, c.given, s, carry)
				}
				d, borrow := word.Sub(a, b, c.given)
				got := new(big.Int).Sub(whole(d), double(borrow, 0))
				want.Sub(whole(a), whole(b))
				if want.Sub(want, whole(c.counts)); borrow > 1 || got.Cmp(want) != 0 {
					t.Errorf("Sub(%d, %d, %d) = %d, %d", a, b, c.given, d, borrow)
				}
			}
			hi, lo := word.Mul(a, b)
			if double(hi, lo).Cmp(new(big.Int).Mul(whole(a), whole(b))) != 0 {
				t.Errorf("Mul(%d, %d) = %d, %d", a, b, hi, lo)
			}
		}
	}
}

// TestDivExamples: P1.2, quotients at the edges, and what may not be divided.
func TestDivExamples(t *testing.T) {
	for _, x := range []struct {
		hi, lo, d, q, r uint64
		e               api.Errno
	}{
		{0, 0, 1, 0, 0, api.OK},
		{0, 17, 5, 3, 2, api.OK},
		{0, 4, 5, 0, 4, api.OK},
		{0, top, 1, top, 0, api.OK},
		{0, top, top, 1, 0, api.OK},
		{1, 0, 2, 1 << 63, 0, api.OK},
		{1, 0, 3, 6148914691236517205, 1, api.OK},
		{4, top, 5, top, 4, api.OK},
		{top - 1, 0, top, top - 1, top - 1, api.OK},
		{top - 1, top, top, top, top - 1, api.OK},
		{1<<63 - 1, top, 1 << 63, top, 1<<63 - 1, api.OK},
		{5, 0, 5, 0, 0, api.ErrArg},
		{5, 3, 5, 0, 0, api.ErrArg},
		{6, 0, 5, 0, 0, api.ErrArg},
		{1, 0, 1, 0, 0, api.ErrArg},
		{top, 0, 1, 0, 0, api.ErrArg},
		{top, top, top, 0, 0, api.ErrArg},
		{0, 0, 0, 0, 0, api.ErrZero},
		{0, 1, 0, 0, 0, api.ErrZero},
		{9, 1, 0, 0, 0, api.ErrZero},
		{top, top, 0, 0, 0, api.ErrZero},
	} {
		if q, r, e := word.Div(x.hi, x.lo, x.d); q != x.q || r != x.r || e != x.e {
			t.Errorf("Div(%d, %d, %d) = %d, %d, %d, not %d, %d, %d", x.hi, x.lo, x.d, q, r, e, x.q, x.r, x.e)
		}
	}
}

// errorOf is the error that P1.2 asks of Div: that of the divisor 0 comes first.
func errorOf(hi, d uint64) api.Errno {
	if d == 0 {
		return api.ErrZero
	}
	if hi >= d {
		return api.ErrArg
	}
	return api.OK
}

// TestDiv: P1.2, quotients and errors against numbers of any length.
func TestDiv(t *testing.T) {
	for _, hi := range words() {
		for _, lo := range words() {
			for _, d := range words() {
				q, r, e := word.Div(hi, lo, d)
				wantQ, wantR := new(big.Int), new(big.Int)
				if errorOf(hi, d) == api.OK {
					wantQ.QuoRem(double(hi, lo), whole(d), wantR)
				}
				if e != errorOf(hi, d) || whole(q).Cmp(wantQ) != 0 || whole(r).Cmp(wantR) != 0 {
					t.Errorf("Div(%d, %d, %d) = %d, %d, %d", hi, lo, d, q, r, e)
				}
			}
		}
	}
}

// TestDivBack: P1.3, the quotient times the divisor, plus the remainder, is the dividend; the remainder is below the divisor.
func TestDivBack(t *testing.T) {
	n := 0
	for _, hi := range words() {
		for _, lo := range words() {
			for _, d := range words() {
				q, r, e := word.Div(hi, lo, d)
				if e != api.OK {
					continue
				}
				n++
				if r >= d {
					t.Errorf("Div(%d, %d, %d) leaves %d", hi, lo, d, r)
				}
				up, down := word.Mul(q, d)
				down, c := word.Add(down, r, 0)
				up, c = word.Add(up, 0, c)
				if up != hi || down != lo || c != 0 {
					t.Errorf("Div(%d, %d, %d) = %d, %d, which is %d, %d, %d again", hi, lo, d, q, r, c, up, down)
				}
			}
		}
	}
	if n == 0 {
		t.Error("nothing was divided")
	}
}

// TestProductsDivided: P1.3 from the other side: what Mul and Add make, Div takes apart.
func TestProductsDivided(t *testing.T) {
	for _, d := range words() {
		if d == 0 {
			continue
		}
		for _, q := range words() {
			for _, r := range []uint64{0, d / 2, d - 1} {
				hi, lo := word.Mul(q, d)
				lo, c := word.Add(lo, r, 0)
				if gotQ, gotR, e := word.Div(hi+c, lo, d); gotQ != q || gotR != r || e != api.OK {
					t.Errorf("%d times %d plus %d: %d, %d, %d", q, d, r, gotQ, gotR, e)
				}
			}
		}
	}
}

// TestLen: P1.2, every length, its least number and its greatest.
func TestLen(t *testing.T) {
	if n := word.Len(0); n != 0 {
		t.Errorf("Len(0) = %d", n)
	}
	if n := word.Len(1 << 40); n != 41 {
		t.Errorf("Len(2^40) = %d", n)
	}
	for k := range 64 {
		least := uint64(1) << k
		if n := word.Len(least); n != k+1 {
			t.Errorf("Len(%d) = %d", least, n)
		}
		if n := word.Len(least | (least - 1)); n != k+1 {
			t.Errorf("Len(%d) = %d", least|(least-1), n)
		}
	}
	for _, a := range words() {
		if n := word.Len(a); n != whole(a).BitLen() {
			t.Errorf("Len(%d) = %d", a, n)
		}
	}
}

// TestGcdExamples: P1.2, numbers that are 0, and the greatest words.
func TestGcdExamples(t *testing.T) {
	for _, x := range []struct{ a, b, g uint64 }{
		{84, 36, 12},
		{36, 84, 12},
		{0, 0, 0},
		{0, 5, 5},
		{5, 0, 5},
		{0, top, top},
		{top, 0, top},
		{top, top, top},
		{1, top, 1},
		{top, top - 1, 1},
		{top, 3, 3},
		{1 << 63, 1 << 40, 1 << 40},
		{1 << 63, 6, 2},
		{17, 5, 1},
		{api.Prime, api.Prime - 1, 1},
	} {
		if g := word.Gcd(x.a, x.b); g != x.g {
			t.Errorf("Gcd(%d, %d) = %d, not %d", x.a, x.b, g, x.g)
		}
	}
}

// TestGcd: P1.2, against numbers of any length.
func TestGcd(t *testing.T) {
	for _, a := range words() {
		for _, b := range words() {
			want := new(big.Int).GCD(nil, nil, whole(a), whole(b))
			if g := word.Gcd(a, b); whole(g).Cmp(want) != 0 {
				t.Errorf("Gcd(%d, %d) = %d, not %d", a, b, g, want)
			}
		}
	}
}

// TestGcdSteps: P1.2, Fibonacci's numbers need the most steps, and multiples of them as many.
func TestGcdSteps(t *testing.T) {
	for a, b := uint64(1), uint64(1); a+b > b; a, b = b, a+b {
		for _, m := range []uint64{1, 2, 1000003} {
			if hi, _ := word.Mul(b, m); hi != 0 {
				continue
			}
			if g := word.Gcd(b*m, a*m); g != m {
				t.Errorf("Gcd(%d, %d) = %d", b*m, a*m, g)
			}
			if g := word.Gcd(a*m, b*m); g != m {
				t.Errorf("Gcd(%d, %d) = %d", a*m, b*m, g)
			}
		}
	}
}
