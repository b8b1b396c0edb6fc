package quot_test

import (
	"math"
	"math/big"
	"slices"
	"testing"

	"tallystick/api"
	"tallystick/quot"
)

const top = 1<<64 - 1

// plain are n words without any pattern, the same ones in every run.
func plain(n int, seed uint64) []uint64 {
	a := make([]uint64, n)
	for i := range a {
		seed = seed*6364136223846793005 + 1442695040888963407
		a[i] = seed ^ seed>>29
	}
	return a
}

// full are n words that carry as much as may be carried.
func full(n int) []uint64 { return slices.Repeat([]uint64{top}, n) }

// power is 2^(64 n).
func power(n int) []uint64 { return append(make([]uint64, n), 1) }

// divisors are words at the edges of a word's range, and words without any pattern.
func divisors() []uint64 {
	return append(plain(6, 5), 1, 2, 3, 7, 10, 1<<32-1, 1<<32, 1<<63-1, 1<<63, 1<<63+1, api.Prime, top-1, top)
}

// short are numbers of few words, about the edges of words; some are not normalized.
func short() [][]uint64 {
	l := [][]uint64{
		nil, {0}, {0, 0, 0}, {1}, {3}, {7, 0}, {1 << 32}, {1 << 63}, {top - 1}, {top}, {top, 0, 0}, {0, 3}, {5, 1, 0}, {0, 1 << 63}, {top, 1 << 63}, {top, 1<<63 - 1},
		{top - 1, top}, {top, top}, {0, top}, {top, 1}, {0, 0, 1}, {1, 0, 3}, {top, 0, top}, {0, 1 << 63, 1<<63 - 1}, {top, top, 1 << 63}, {0, 0, 1 << 63},
		{top, top, top, 0}, {0, 0, 0, top}, {1, 0, 0, 0, 1}, {top, 0, 0, 0, 0, 1 << 63, 0},
	}
	for n := 1; n < 5; n++ {
		l = append(l, plain(n, uint64(n)), append(plain(n, 9), 1), append(plain(n, 8), 1<<40+3))
	}
	return l
}

// numbers are short numbers and longer ones: full, empty but for one word, with 0 in a half, and without any pattern.
func numbers() [][]uint64 {
	l := short()
	for n := 5; n < 12; n++ {
		l = append(l, full(n), power(n), plain(n, uint64(n)))
		l = append(l, slices.Concat(make([]uint64, n/2), plain(n-n/2, uint64(n)), make([]uint64, n%3)))
		l = append(l, slices.Concat(full(n/2), make([]uint64, n-n/2), full(1)))
	}
	return append(l, plain(33, 1), full(40), append(full(29), 0, 0))
}

// whole is the number of a slice.
func whole(a []uint64) *big.Int {
	n := new(big.Int)
	for _, w := range slices.Backward(a) {
		n.Lsh(n, 64).Or(n, new(big.Int).SetUint64(w))
	}
	return n
}

// words is the slice of a number.
func words(n *big.Int) []uint64 {
	var a []uint64
	for n = new(big.Int).Set(n); n.Sign() > 0; n.Rsh(n, 64) {
		a = append(a, new(big.Int).And(n, whole([]uint64{top})).Uint64())
	}
	return a
}

// is tells whether a slice is a number, and normalized.
func is(a []uint64, n *big.Int) bool {
	return whole(a).Cmp(n) == 0 && len(a) == (n.BitLen()+63)/64
}

// parts are the quotient and the remainder of the numbers of two slices.
func parts(a, d []uint64) (*big.Int, *big.Int) {
	return new(big.Int).QuoRem(whole(a), whole(d), new(big.Int))
}

// isZero tells whether a slice is the number 0.
func isZero(a []uint64) bool { return whole(a).Sign() == 0 }

// dividends are products and what is next to them, where a digit of the quotient is 0, or the greatest word, or just misses being one more.
func dividends(d []uint64) [][]uint64 {
	var l [][]uint64
	one, n := big.NewInt(1), whole(d)
	for _, q := range [][]uint64{{1}, {top}, {1 << 63}, {0, 1}, {top, top}, {0, top}, {top, 0, 1}, {0, 0, top}, {1, 0, 0, 1}, full(6), plain(5, 3)} {
		p := new(big.Int).Mul(whole(q), n)
		above := new(big.Int).Add(p, n)
		l = append(l, words(p), words(new(big.Int).Sub(p, one)), words(new(big.Int).Add(p, one)), words(above.Sub(above, one)))
	}
	return l
}

// TestByWordExamples: P6.1, the chapter's example, what is below a word, and divisors of 0 and 1.
func TestByWordExamples(t *testing.T) {
	for _, x := range []struct {
		a    []uint64
		d    uint64
		q    []uint64
		left uint64
		e    api.Errno
	}{
		{[]uint64{7, 5, 0}, 10, []uint64{1 << 63}, 7, api.OK},
		{[]uint64{0, 1}, 3, []uint64{6148914691236517205}, 1, api.OK},
		{nil, 1, nil, 0, api.OK},
		{nil, top, nil, 0, api.OK},
		{[]uint64{0, 0}, 5, nil, 0, api.OK},
		{[]uint64{4, 0}, 5, nil, 4, api.OK},
		{[]uint64{5, 0}, 5, []uint64{1}, 0, api.OK},
		{[]uint64{7, 5, 0}, 1, []uint64{7, 5}, 0, api.OK},
		{full(3), top, []uint64{1, 1, 1}, 0, api.OK},
		{[]uint64{top, top - 1}, top, []uint64{top}, top - 1, api.OK},
		{[]uint64{0, 0, 1}, 1 << 63, []uint64{0, 2}, 0, api.OK},
		{nil, 0, nil, 0, api.ErrZero},
		{[]uint64{0, 0}, 0, nil, 0, api.ErrZero},
		{[]uint64{7, 5, 0}, 0, nil, 0, api.ErrZero},
	} {
		if q, left, e := quot.ByWord(x.a, x.d); !slices.Equal(q, x.q) || left != x.left || e != x.e {
			t.Errorf("ByWord(%v, %d) = %v, %d, %d, not %v, %d, %d", x.a, x.d, q, left, e, x.q, x.left, x.e)
		}
	}
}

// TestByWord: P6.1, against numbers of any length.
func TestByWord(t *testing.T) {
	for _, d := range divisors() {
		for _, a := range append(dividends([]uint64{d}), append(numbers(), plain(4096, 6))...) {
			wantQ, want := parts(a, []uint64{d})
			if q, left, e := quot.ByWord(a, d); e != api.OK || !is(q, wantQ) || left != want.Uint64() {
				t.Errorf("ByWord(%v, %d) = %v, %d, %d", a, d, q, left, e)
			}
		}
	}
}

// TestDivExamples: P6.1, the chapter's examples, dividends that are less than divisors or the same, and divisors of 0 and 1.
func TestDivExamples(t *testing.T) {
	for _, x := range []struct {
		a, d, q, left []uint64
		e             api.Errno
	}{
		{[]uint64{5}, []uint64{7, 0}, nil, []uint64{5}, api.OK},
		{[]uint64{0, 1}, []uint64{3}, []uint64{6148914691236517205}, []uint64{1}, api.OK},
		{nil, []uint64{7}, nil, nil, api.OK},
		{[]uint64{0, 0, 0}, []uint64{7, 1}, nil, nil, api.OK},
		{[]uint64{5, 3, 0}, []uint64{0, 0, 1}, nil, []uint64{5, 3}, api.OK},
		{[]uint64{5, 3, 0, 0}, []uint64{6, 3}, nil, []uint64{5, 3}, api.OK},
		{[]uint64{6, 3}, []uint64{6, 3, 0}, []uint64{1}, nil, api.OK},
		{[]uint64{7, 3}, []uint64{6, 3}, []uint64{1}, []uint64{1}, api.OK},
		{[]uint64{7, 3, 0}, []uint64{1, 0, 0}, []uint64{7, 3}, nil, api.OK},
		{power(5), power(3), []uint64{0, 0, 1}, nil, api.OK},
		{full(6), full(3), []uint64{1, 0, 0, 1}, nil, api.OK},
		{power(4), full(2), []uint64{1, 0, 1}, []uint64{1}, api.OK},
		{[]uint64{0, 0, 1}, []uint64{1, 1}, []uint64{top}, []uint64{1}, api.OK},
		{[]uint64{5}, nil, nil, nil, api.ErrZero},
		{[]uint64{5, 3}, []uint64{0, 0}, nil, nil, api.ErrZero},
		{nil, nil, nil, nil, api.ErrZero},
		{[]uint64{0}, []uint64{0, 0, 0}, nil, nil, api.ErrZero},
	} {
		if q, left, e := quot.Div(x.a, x.d); !slices.Equal(q, x.q) || !slices.Equal(left, x.left) || e != x.e {
			t.Errorf("Div(%v, %v) = %v, %v, %d, not %v, %v, %d", x.a, x.d, q, left, e, x.q, x.left, x.e)
		}
	}
}

// TestDiv: P6.1, against numbers of any length.
func TestDiv(t *testing.T) {
	for _, d := range numbers() {
		if isZero(d) {
			continue
		}
		for _, a := range append(dividends(d), numbers()...) {
			wantQ, want := parts(a, d)
			if q, left, e := quot.Div(a, d); e != api.OK || !is(q, wantQ) || !is(left, want) {
				t.Errorf("Div(%v, %v) = %v, %v, %d", a, d, q, left, e)
			}
		}
	}
}

// TestLong: P6.1, numbers as long as any that is multiplied, and longer dividends.
func TestLong(t *testing.T) {
	for _, x := range [][2][]uint64{
		{plain(8192, 1), plain(4096, 2)}, {full(8192), full(4096)}, {plain(4096, 3), plain(4095, 4)}, {plain(4096, 5), full(2)}, {plain(20000, 6), {top, 1}}, {full(5000), append(plain(70, 6), 1)},
	} {
		wantQ, want := parts(x[0], x[1])
		if q, left, e := quot.Div(x[0], x[1]); e != api.OK || !is(q, wantQ) || !is(left, want) {
			t.Errorf("Div errs for %d and %d words", len(x[0]), len(x[1]))
		}
	}
}

// TestBack: P6.3, the quotient times the divisor, plus the remainder, is the dividend; the remainder is below the divisor.
func TestBack(t *testing.T) {
	for _, a := range numbers() {
		for _, d := range numbers() {
			if isZero(d) {
				continue
			}
			q, left, _ := quot.Div(a, d)
			back := new(big.Int).Mul(whole(q), whole(d))
			if back.Add(back, whole(left)).Cmp(whole(a)) != 0 || whole(left).Cmp(whole(d)) >= 0 {
				t.Errorf("Div(%v, %v) = %v, %v, which is %v again", a, d, q, left, back)
			}
		}
		for _, d := range divisors() {
			q, left, _ := quot.ByWord(a, d)
			back := new(big.Int).Mul(whole(q), whole([]uint64{d}))
			if back.Add(back, whole([]uint64{left})).Cmp(whole(a)) != 0 || left >= d {
				t.Errorf("ByWord(%v, %d) = %v, %d, which is %v again", a, d, q, left, back)
			}
		}
	}
}

// TestGuessExamples: P6.2, the chapter's example, quotients at the edges of a word, and those that the highest words make 1 or 2 too great.
func TestGuessExamples(t *testing.T) {
	for _, x := range []struct {
		r, d []uint64
		want uint64
	}{
		{[]uint64{0, 0, 5}, []uint64{1}, top},
		{nil, nil, 0}, {[]uint64{5}, nil, 0}, {[]uint64{5, 5}, []uint64{0, 0}, 0}, {full(9), []uint64{0}, 0},
		{nil, []uint64{1}, 0}, {[]uint64{0, 0}, []uint64{5, 1}, 0},
		{[]uint64{17, 0}, []uint64{5, 0, 0}, 3}, {[]uint64{4}, []uint64{5}, 0}, {[]uint64{5}, []uint64{5}, 1},
		{[]uint64{top}, []uint64{1}, top}, {[]uint64{0, 1}, []uint64{1}, top}, {[]uint64{top, 1, 0}, []uint64{2}, top}, {[]uint64{0, 2}, []uint64{2}, top}, {[]uint64{top - 1, 1}, []uint64{2}, top}, {[]uint64{top - 2, 1}, []uint64{2}, top - 1},
		{[]uint64{5, 3}, []uint64{5, 3, 0}, 1}, {[]uint64{4, 3}, []uint64{5, 3}, 0}, {[]uint64{5, 3}, full(9), 0}, {full(9), []uint64{5, 3}, top},
		{[]uint64{0, 0, 1 << 63}, []uint64{top, 1 << 63}, top - 1},
		{[]uint64{0, 1 << 63, 1<<63 - 1}, []uint64{top, 1 << 63}, top - 2},
		{[]uint64{top, 1<<63 - 1, 1<<63 - 1}, []uint64{0, 1 << 63}, top - 1},
	} {
		if got := quot.Guess(x.r, x.d); got != x.want {
			t.Errorf("Guess(%v, %v) = %d, not %d", x.r, x.d, got, x.want)
		}
	}
}

// TestGuess: P6.2, against numbers of any length.
func TestGuess(t *testing.T) {
	most := whole([]uint64{top})
	for _, d := range numbers() {
		if isZero(d) {
			continue
		}
		for _, r := range append(dividends(d), numbers()...) {
			want, _ := parts(r, d)
			if want.Cmp(most) > 0 {
				want = most
			}
			if got := quot.Guess(r, d); got != want.Uint64() {
				t.Errorf("Guess(%v, %v) = %d, not %v", r, d, got, want)
			}
		}
	}
}

// TestGcdExamples: P6.2, the chapter's example, numbers that are 0, and such without a common divisor.
func TestGcdExamples(t *testing.T) {
	for _, x := range []struct{ a, b, want []uint64 }{
		{[]uint64{0, 6}, []uint64{0, 4}, []uint64{0, 2}},
		{[]uint64{84}, []uint64{36, 0}, []uint64{12}}, {[]uint64{36, 0}, []uint64{84}, []uint64{12}},
		{nil, nil, nil}, {[]uint64{0, 0}, []uint64{0}, nil},
		{nil, []uint64{5, 3, 0}, []uint64{5, 3}}, {[]uint64{5, 3, 0}, []uint64{0, 0}, []uint64{5, 3}},
		{[]uint64{5, 3, 0}, []uint64{5, 3}, []uint64{5, 3}}, {[]uint64{1, 0}, full(7), []uint64{1}},
		{power(6), []uint64{1 << 63}, []uint64{1 << 63}}, {power(6), full(5), []uint64{1}}, {full(6), full(4), full(2)},
	} {
		if got := quot.Gcd(x.a, x.b); !slices.Equal(got, x.want) {
			t.Errorf("Gcd(%v, %v) = %v, not %v", x.a, x.b, got, x.want)
		}
	}
}

// TestGcd: P6.2, against numbers of any length, and of numbers that have a divisor in common.
func TestGcd(t *testing.T) {
	for _, a := range append(numbers(), plain(120, 1)) {
		for _, b := range append(numbers(), plain(121, 2)) {
			if got := quot.Gcd(a, b); !is(got, new(big.Int).GCD(nil, nil, whole(a), whole(b))) {
				t.Errorf("Gcd(%v, %v) = %v", a, b, got)
			}
		}
	}
	for _, g := range short() {
		a, b := new(big.Int).Mul(whole(g), whole(plain(5, 1))), new(big.Int).Mul(whole(g), whole(plain(4, 2)))
		if got := quot.Gcd(words(a), words(b)); !is(got, new(big.Int).GCD(nil, nil, a, b)) {
			t.Errorf("Gcd(%v, %v) = %v", a, b, got)
		}
	}
}

// TestGcdSteps: P6.2, Fibonacci's numbers need the most steps.
func TestGcdSteps(t *testing.T) {
	a, b := big.NewInt(1), big.NewInt(1)
	for range 3000 {
		a, b = b, new(big.Int).Add(a, b)
	}
	if got := quot.Gcd(words(a), words(b)); !slices.Equal(got, []uint64{1}) {
		t.Errorf("Gcd of two Fibonacci numbers = %v", got)
	}
	g := whole(plain(3, 4))
	if got := quot.Gcd(words(b.Mul(b, g)), words(a.Mul(a, g))); !is(got, g) {
		t.Errorf("Gcd of multiples of %v = %v", g, got)
	}
}

// TestPowExamples: P6.2, the chapter's example, powers of 0 and 1, and the edges of what is too long.
func TestPowExamples(t *testing.T) {
	most := 64 * api.MaxLimb
	for _, x := range []struct {
		a    []uint64
		n    int
		want []uint64
		e    api.Errno
	}{
		{[]uint64{3}, 4, []uint64{81}, api.OK}, {[]uint64{0, 2, 0}, 3, []uint64{0, 0, 0, 8}, api.OK}, {[]uint64{top}, 2, []uint64{1, top - 1}, api.OK},
		{nil, 0, []uint64{1}, api.OK}, {[]uint64{0, 0}, 0, []uint64{1}, api.OK}, {[]uint64{5, 3}, 0, []uint64{1}, api.OK}, {full(5000), 0, []uint64{1}, api.OK},
		{nil, 1, nil, api.OK}, {[]uint64{0, 0}, 7, nil, api.OK}, {nil, most + 1, nil, api.OK}, {[]uint64{0}, math.MaxInt, nil, api.OK},
		{[]uint64{5, 3, 0}, 1, []uint64{5, 3}, api.OK}, {full(api.MaxLimb), 1, full(api.MaxLimb), api.OK}, {append(full(api.MaxLimb), 0, 0), 1, full(api.MaxLimb), api.OK},
		{[]uint64{1, 0}, most, []uint64{1}, api.OK}, {[]uint64{2}, most / 2, power(api.MaxLimb / 2), api.OK}, {[]uint64{1 << 63}, api.MaxLimb, slices.Concat(make([]uint64, api.MaxLimb/64*63), []uint64{1}), api.OK},
		{[]uint64{1, 0}, most + 1, nil, api.ErrLong}, {[]uint64{2}, most/2 + 1, nil, api.ErrLong}, {[]uint64{1 << 63}, api.MaxLimb + 1, nil, api.ErrLong}, {[]uint64{0, 1}, api.MaxLimb, nil, api.ErrLong},
		{power(api.MaxLimb), 1, nil, api.ErrLong}, {[]uint64{2}, 1 << 40, nil, api.ErrLong}, {[]uint64{1}, math.MaxInt, nil, api.ErrLong}, {full(3), math.MaxInt, nil, api.ErrLong},
		{[]uint64{8}, 1 << 62, nil, api.ErrLong}, {[]uint64{1 << 31}, 1 << 59, nil, api.ErrLong}, {[]uint64{4}, math.MaxInt/3*2 + 2, nil, api.ErrLong},
		{[]uint64{3}, -1, nil, api.ErrArg}, {nil, -1, nil, api.ErrArg}, {[]uint64{2}, math.MinInt, nil, api.ErrArg}, {full(5000), -1, nil, api.ErrArg}, {[]uint64{0, 0}, math.MinInt, nil, api.ErrArg},
	} {
		if got, e := quot.Pow(x.a, x.n); !slices.Equal(got, x.want) || e != x.e {
			t.Errorf("Pow of %d words and %d = %d words, %d, not %d words, %d", len(x.a), x.n, len(got), e, len(x.want), x.e)
		}
	}
}

// TestPow: P6.2, against numbers of any length, up to what is too long.
func TestPow(t *testing.T) {
	for _, a := range numbers() {
		for _, n := range []int{0, 1, 2, 3, 4, 5, 6, 7, 8, 11, 16, 31, 100} {
			want, e := new(big.Int).Exp(whole(a), big.NewInt(int64(n)), nil), api.OK
			if whole(a).BitLen()*n > 64*api.MaxLimb {
				want, e = new(big.Int), api.ErrLong
			}
			if got, err := quot.Pow(a, n); err != e || !is(got, want) {
				t.Errorf("Pow(%v, %d) = %v, %d", a, n, got, err)
			}
		}
	}
	for _, n := range []int{1000, 4095, 65535, 131072} {
		if got, e := quot.Pow([]uint64{3}, n); e != api.OK || !is(got, new(big.Int).Exp(big.NewInt(3), big.NewInt(int64(n)), nil)) {
			t.Errorf("Pow(3, %d): %d", n, e)
		}
	}
}

// calls are what every function makes of two numbers.
func calls(a, b []uint64) map[string][]uint64 {
	l := map[string][]uint64{"Gcd": quot.Gcd(a, b), "Gcd of 0": quot.Gcd(nil, a), "Gcd with 0": quot.Gcd(a, []uint64{0}), "Gcd with itself": quot.Gcd(a, a)}
	var n, m uint64
	l["quotient"], l["remainder"], _ = quot.Div(a, b)
	l["quotient by 1"], _, _ = quot.Div(a, []uint64{1})
	l["quotient by a word"], n, _ = quot.ByWord(a, 3)
	l["itself by a word"], m, _ = quot.ByWord(a, 1)
	l["words"] = []uint64{n, m, quot.Guess(a, b)}
	l["power"], _ = quot.Pow(a, 3)
	l["power 1"], _ = quot.Pow(a, 1)
	return l
}

// TestNew: R3, arguments are left as they are, with the room behind them, and results are new memory, each for itself.
func TestNew(t *testing.T) {
	const kept = 0x5555
	for _, a := range numbers() {
		for _, b := range [][]uint64{nil, {0}, {1}, {top, 0}, full(6), plain(3, 7), power(50), a} {
			keptA, keptB := append(slices.Clone(a), kept, kept), append(slices.Clone(b), kept, kept)
			roomA, roomB := slices.Clone(keptA), slices.Clone(keptB)
			got, want := calls(roomA[:len(a)], roomB[:len(b)]), calls(a, b)
			for name, r := range got {
				if !slices.Equal(r, want[name]) {
					t.Fatalf("%s of %v and %v is %v where it was %v, or shares memory with another", name, a, b, r, want[name])
				}
				r = r[:cap(r)]
				for i := range r {
					r[i] = ^r[i]
				}
				if !slices.Equal(roomA, keptA) || !slices.Equal(roomB, keptB) {
					t.Fatalf("%s of %v and %v shares memory with them: %v, %v", name, a, b, roomA, roomB)
				}
			}
		}
	}
}
