package gold_test

import (
	"math"
	"math/big"
	"testing"

	"tallystick/api"
	"tallystick/gold"
)

const (
	p    = api.Prime
	top  = 1<<64 - 1
	fold = 1<<32 - 1 // what 2^64 is modulo p
)

var prime = whole(p)

func whole(a uint64) *big.Int { return new(big.Int).SetUint64(a) }

// modulo is what n counts modulo p.
func modulo(n *big.Int) uint64 { return new(big.Int).Mod(n, prime).Uint64() }

// words are the edges: of a word's range, of p, of half a word, what is 0 or close to it modulo p; and words without any pattern.
func words() []uint64 {
	l := []uint64{
		0, 1, 2, 3, 7, 10, 1<<31 - 1, 1 << 31,
		fold - 2, fold - 1, fold, fold + 1, fold + 2, 2*fold - 1, 2 * fold, 2*fold + 1, 1 << 33,
		1<<48 - 1, 1 << 48, p/2 - 1, p / 2, p/2 + 1, 1<<63 - 1, 1 << 63, 1<<63 + fold,
		p - 1<<33, p - fold - 2, p - fold - 1, p - fold, p - 1<<31, p - 3, p - 2, p - 1,
		p, p + 1, p + 2, p + 7, p + 1<<31, top - 1<<31, top - 2, top - 1, top,
	}
	for s, i := uint64(2463534242), 0; i < 16; i++ {
		s = next(s)
		l = append(l, s>>(uint(i)%4*13))
	}
	return l
}

// next are words without any pattern, the same ones in every run.
func next(s uint64) uint64 {
	s ^= s << 13
	s ^= s >> 7
	return s ^ s<<17
}

// TestNorm: P2.1, the words at p and about it, and every other edge.
func TestNorm(t *testing.T) {
	for _, x := range []struct{ a, want uint64 }{
		{0, 0}, {1, 1}, {fold, fold}, {fold + 1, fold + 1}, {1 << 63, 1 << 63}, {p - 1, p - 1},
		{p, 0}, {p + 1, 1}, {p + 2, 2}, {top - 1, fold - 2}, {top, fold - 1},
	} {
		if got := gold.Norm(x.a); got != x.want {
			t.Errorf("Norm(%d) = %d, not %d", x.a, got, x.want)
		}
	}
	for _, a := range words() {
		if got := gold.Norm(a); got != modulo(whole(a)) {
			t.Errorf("Norm(%d) = %d", a, got)
		}
	}
}

// TestExamples: P2.1, sums, differences and products that the chapter tells, and such at the edges.
func TestExamples(t *testing.T) {
	for _, x := range []struct {
		name       string
		f          func(a, b uint64) uint64
		a, b, want uint64
	}{
		{"Add", gold.Add, 0, 0, 0},
		{"Add", gold.Add, 2, 3, 5},
		{"Add", gold.Add, p - 1, 1, 0},
		{"Add", gold.Add, p - 1, p - 1, p - 2},
		{"Add", gold.Add, p, 0, 0},
		{"Add", gold.Add, p, p, 0},
		{"Add", gold.Add, p, 5, 5},
		{"Add", gold.Add, top, 1, fold},
		{"Add", gold.Add, top, top, 2*fold - 2},
		{"Add", gold.Add, 1 << 63, 1 << 63, fold},
		{"Sub", gold.Sub, 5, 3, 2},
		{"Sub", gold.Sub, 3, 5, p - 2},
		{"Sub", gold.Sub, 0, 1, p - 1},
		{"Sub", gold.Sub, 0, 0, 0},
		{"Sub", gold.Sub, 0, p, 0},
		{"Sub", gold.Sub, p, 0, 0},
		{"Sub", gold.Sub, p, p, 0},
		{"Sub", gold.Sub, p, 1, p - 1},
		{"Sub", gold.Sub, 0, top, p - fold + 1},
		{"Sub", gold.Sub, 1, top, p - fold + 2},
		{"Sub", gold.Sub, top, 0, fold - 1},
		{"Sub", gold.Sub, top, top, 0},
		{"Mul", gold.Mul, 6, 7, 42},
		{"Mul", gold.Mul, 0, top, 0},
		{"Mul", gold.Mul, p, top, 0},
		{"Mul", gold.Mul, p - 1, p - 1, 1},
		{"Mul", gold.Mul, p - 1, 2, p - 2},
		{"Mul", gold.Mul, p + 1, p - 1, p - 1},
		{"Mul", gold.Mul, 1 << 32, 1 << 32, fold},
		{"Mul", gold.Mul, 1 << 48, 1 << 48, p - 1},
		{"Mul", gold.Mul, 1 << 63, 2, fold},
		{"Reduce", gold.Reduce, 0, 0, 0},
		{"Reduce", gold.Reduce, 0, p, 0},
		{"Reduce", gold.Reduce, 0, top, fold - 1},
		{"Reduce", gold.Reduce, 1, 0, fold},
		{"Reduce", gold.Reduce, 1 << 32, 0, p - 1},
		{"Reduce", gold.Reduce, 1 << 32, 1, 0},
		{"Reduce", gold.Reduce, p, 0, 0},
		{"Reduce", gold.Reduce, p, p, 0},
		{"Reduce", gold.Reduce, p, 9, 9},
		{"Reduce", gold.Reduce, top, 0, p - 1<<33 + 1},
		{"Reduce", gold.Reduce, top, top, p - 1<<32 - 1},
	} {
		if got := x.f(x.a, x.b); got != x.want {
			t.Errorf("%s(%d, %d) = %d, not %d", x.name, x.a, x.b, got, x.want)
		}
	}
}

// pair holds sums, differences, products and numbers of two words against numbers of any length.
func pair(t *testing.T, a, b uint64) {
	t.Helper()
	n := new(big.Int)
	if got := gold.Add(a, b); got != modulo(n.Add(whole(a), whole(b))) {
		t.Errorf("Add(%d, %d) = %d", a, b, got)
	}
	if got := gold.Sub(a, b); got != modulo(n.Sub(whole(a), whole(b))) {
		t.Errorf("Sub(%d, %d) = %d", a, b, got)
	}
	if got := gold.Mul(a, b); got != modulo(n.Mul(whole(a), whole(b))) {
		t.Errorf("Mul(%d, %d) = %d", a, b, got)
	}
	n.Lsh(whole(a), 64)
	if got := gold.Reduce(a, b); got != modulo(n.Or(n, whole(b))) {
		t.Errorf("Reduce(%d, %d) = %d", a, b, got)
	}
}

// TestPairs: P2.1, any two of the edges, and many words without any pattern.
func TestPairs(t *testing.T) {
	for _, a := range words() {
		for _, b := range words() {
			pair(t, a, b)
		}
	}
	a := uint64(88172645463325252)
	for range 20000 {
		b := next(a)
		pair(t, a, b)
		a = next(b)
	}
}

// rests are results that only a last step takes below p, and their neighbours.
func rests() []uint64 {
	return []uint64{0, 1, 2, 3, 1 << 31, fold - 2, fold - 1, fold, fold + 1, 2 * fold, p - fold - 1, p - fold, p - 2, p - 1}
}

// TestReduceRests: P2.1, numbers of two words that are a multiple of p and a rest at the edges.
func TestReduceRests(t *testing.T) {
	for _, q := range words() {
		for _, r := range rests() {
			n := new(big.Int).Mul(whole(q), prime)
			n.Add(n, whole(r))
			if n.BitLen() > 128 {
				continue
			}
			hi := new(big.Int).Rsh(n, 64).Uint64()
			lo := new(big.Int).And(n, whole(top)).Uint64()
			if got := gold.Reduce(hi, lo); got != r {
				t.Errorf("Reduce(%d, %d) = %d, not %d", hi, lo, got, r)
			}
		}
	}
}

// TestMulRests: P2.1, products whose rest is at the edges.
func TestMulRests(t *testing.T) {
	for _, a := range words() {
		if a%p == 0 {
			continue
		}
		inverse := new(big.Int).ModInverse(whole(a), prime)
		for _, r := range rests() {
			b := modulo(new(big.Int).Mul(inverse, whole(r)))
			if got := gold.Mul(a, b); got != r {
				t.Errorf("Mul(%d, %d) = %d, not %d", a, b, got, r)
			}
		}
	}
}

// TestPowExamples: P2.1, powers that the chapter tells, and exponents that count as they are.
func TestPowExamples(t *testing.T) {
	for _, x := range []struct{ a, n, want uint64 }{
		{3, 4, 81}, {2, 10, 1024}, {2, 32, 1 << 32}, {2, 64, fold}, {2, 96, p - 1}, {2, 192, 1},
		{0, 0, 1}, {p, 0, 1}, {1, 0, 1}, {top, 0, 1}, {p - 1, 0, 1},
		{0, 1, 0}, {p, 1, 0}, {p, 2, 0}, {0, top, 0}, {0, p, 0}, {0, p - 1, 0},
		{5, 1, 5}, {p + 5, 1, 5}, {p + 5, 2, 25}, {top, 1, fold - 1},
		{1, top, 1}, {p - 1, top, p - 1}, {p - 1, top - 1, 1},
		{3, p - 1, 1}, {3, p, 3}, {3, p + 1, 9}, {top, p - 1, 1},
	} {
		if got := gold.Pow(x.a, x.n); got != x.want {
			t.Errorf("Pow(%d, %d) = %d, not %d", x.a, x.n, got, x.want)
		}
	}
}

// TestPow: P2.1, powers against numbers of any length.
func TestPow(t *testing.T) {
	for _, a := range words() {
		for _, n := range words() {
			want := new(big.Int).Exp(whole(a), whole(n), prime).Uint64()
			if got := gold.Pow(a, n); got != want {
				t.Errorf("Pow(%d, %d) = %d, not %d", a, n, got, want)
			}
		}
	}
	for k := range 64 {
		n := uint64(1) << k
		if got, want := gold.Pow(7, n), new(big.Int).Exp(whole(7), whole(n), prime).Uint64(); got != want {
			t.Errorf("Pow(7, %d) = %d, not %d", n, got, want)
		}
	}
}

// TestInv: P2.2, numbers whose product with a is 1; and none for what is 0 modulo p.
func TestInv(t *testing.T) {
	for _, x := range []struct {
		a, want uint64
		e       api.Errno
	}{
		{1, 1, api.OK},
		{2, (p + 1) / 2, api.OK},
		{p - 1, p - 1, api.OK},
		{p + 1, 1, api.OK},
		{p + 2, (p + 1) / 2, api.OK},
		{1 << 48, p - 1<<48, api.OK},
		{0, 0, api.ErrZero},
		{p, 0, api.ErrZero},
	} {
		if got, e := gold.Inv(x.a); got != x.want || e != x.e {
			t.Errorf("Inv(%d) = %d, %d, not %d, %d", x.a, got, e, x.want, x.e)
		}
	}
	for _, a := range words() {
		if a%p == 0 {
			continue
		}
		got, e := gold.Inv(a)
		if e != api.OK || got >= p || modulo(new(big.Int).Mul(whole(a), whole(got))) != 1 {
			t.Errorf("Inv(%d) = %d, %d", a, got, e)
		}
	}
}

// TestRoot: P2.2, every root there is, as a power of 7.
func TestRoot(t *testing.T) {
	for k := range 33 {
		n := new(big.Int).Rsh(whole(p-1), uint(k))
		want := new(big.Int).Exp(whole(7), n, prime).Uint64()
		if got, e := gold.Root(k); got != want || e != api.OK {
			t.Errorf("Root(%d) = %d, %d, not %d", k, got, e, want)
		}
	}
	if got, e := gold.Root(0); got != 1 || e != api.OK {
		t.Errorf("Root(0) = %d, %d", got, e)
	}
	if got, e := gold.Root(1); got != p-1 || e != api.OK {
		t.Errorf("Root(1) = %d, %d", got, e)
	}
}

// TestRootErrors: P2.2, what is no root's number.
func TestRootErrors(t *testing.T) {
	for _, k := range []int{-1, -2, -32, -64, 33, 34, 63, 64, 65, 1 << 32, 1<<32 + 1, math.MaxInt, math.MinInt} {
		if got, e := gold.Root(k); got != 0 || e != api.ErrArg {
			t.Errorf("Root(%d) = %d, %d", k, got, e)
		}
	}
}

// TestRootOrder: P2.3, a root to the power of 2^k is 1, and to no lower power of 2.
func TestRootOrder(t *testing.T) {
	for k := range 33 {
		r, _ := gold.Root(k)
		for j := range k {
			if got := gold.Pow(r, 1<<j); got == 1 || (got == p-1) != (j == k-1) {
				t.Errorf("Root(%d) to the power of 2^%d is %d", k, j, got)
			}
			r2, _ := gold.Root(k - j)
			if got := gold.Pow(r, 1<<j); got != r2 {
				t.Errorf("Root(%d) to the power of 2^%d is %d, not Root(%d)", k, j, got, k-j)
			}
		}
		if got := gold.Pow(r, 1<<k); got != 1 {
			t.Errorf("Root(%d) to the power of 2^%d is %d", k, k, got)
		}
	}
}

// TestLaws: P2.3, the laws of integer arithmetic.
func TestLaws(t *testing.T) {
	for _, a := range words() {
		for _, b := range words() {
			if gold.Add(a, b) != gold.Add(b, a) || gold.Mul(a, b) != gold.Mul(b, a) {
				t.Errorf("%d and %d are not of one sum or product in both orders", a, b)
			}
			if gold.Add(gold.Sub(a, b), b) != gold.Norm(a) || gold.Sub(gold.Add(a, b), b) != gold.Norm(a) {
				t.Errorf("%d is not itself again with %d taken off and added", a, b)
			}
			if gold.Sub(a, b) != gold.Add(a, gold.Sub(0, b)) || gold.Sub(0, b) != gold.Mul(p-1, b) {
				t.Errorf("%d less %d is not the sum with the negative", a, b)
			}
			if gold.Mul(gold.Norm(a), b) != gold.Mul(a, b) || gold.Sub(a, gold.Norm(b)) != gold.Sub(a, b) {
				t.Errorf("%d and %d do not count modulo p", a, b)
			}
			for _, c := range []uint64{0, 1, fold, p - 1, p, top, 0x123456789abcdef} {
				three(t, a, b, c)
			}
		}
	}
}

// three holds what the laws say of three numbers.
func three(t *testing.T, a, b, c uint64) {
	t.Helper()
	if gold.Add(gold.Add(a, b), c) != gold.Add(a, gold.Add(b, c)) || gold.Mul(gold.Mul(a, b), c) != gold.Mul(a, gold.Mul(b, c)) {
		t.Errorf("%d, %d and %d are not of one sum or product however bracketed", a, b, c)
	}
	if gold.Mul(gold.Add(a, b), c) != gold.Add(gold.Mul(a, c), gold.Mul(b, c)) {
		t.Errorf("%d and %d times %d is not the sum of the products", a, b, c)
	}
}

// TestPowLaws: P2.3, exponents are added and multiplied.
func TestPowLaws(t *testing.T) {
	for _, a := range words() {
		for _, n := range []uint64{0, 1, 2, 5, 31, 32, 1<<31 + 5} {
			for _, m := range []uint64{0, 1, 3, 64, 1<<32 - 1} {
				if gold.Mul(gold.Pow(a, n), gold.Pow(a, m)) != gold.Pow(a, n+m) {
					t.Errorf("%d to the powers of %d and %d is not that of the sum", a, n, m)
				}
				if gold.Pow(gold.Pow(a, n), m) != gold.Pow(a, n*m) {
					t.Errorf("%d to the powers of %d, then of %d is not that of the product", a, n, m)
				}
			}
		}
	}
}
