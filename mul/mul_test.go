package mul_test

import (
	"math"
	"math/big"
	"slices"
	"testing"

	"tallystick/api"
	"tallystick/mul"
)

const (
	top  = 1<<64 - 1
	most = api.MaxLimb // how many words a number that is multiplied has at most
)

// ways are all methods.
func ways() []int { return []int{api.WSchool, api.WKara, api.WGold, api.WTrio} }

// bases are the bits of digits that there are.
func bases() []int { return []int{16, 32} }

// wrongBases are bits of digits that there are none of.
func wrongBases() []int {
	return []int{math.MinInt, -64, -32, -16, -1, 0, 1, 2, 4, 8, 15, 17, 24, 31, 33, 48, 63, 64, 65, 128, 1<<32 + 16, 1<<32 + 32, math.MaxInt}
}

// random are n words without any pattern, the same ones in every run.
func random(n int, seed uint64) []uint64 {
	a := make([]uint64, n)
	for i := range a {
		seed = seed*6364136223846793005 + 1442695040888963407
		a[i] = seed ^ seed>>31
	}
	return a
}

// full are n words that carry as much as may be carried.
func full(n int) []uint64 { return slices.Repeat([]uint64{top}, n) }

// power is 2^(64 n).
func power(n int) []uint64 { return append(make([]uint64, n), 1) }

// zeros are n words more above a number, which they leave as it is.
func zeros(a []uint64, n int) []uint64 { return slices.Concat(a, make([]uint64, n)) }

// kinds are numbers of n words, n at least 1: full, empty but for one word, and without any pattern.
func kinds(n int) [][]uint64 { return [][]uint64{full(n), power(n - 1), random(n, uint64(n))} }

// numbers are 0, short numbers about the edges of words and of digits, and longer ones; some are not normalized.
func numbers() [][]uint64 {
	l := [][]uint64{
		nil, {0}, {0, 0, 0}, {1}, {3}, {5, 0}, {1<<16 - 1}, {1 << 16}, {1<<16 + 1}, {1<<32 - 1}, {1 << 32}, {1<<48 - 1}, {1 << 48}, {1 << 63}, {top - 1}, {top}, {top, 0, 0},
		{0, 1}, {0, 3}, {5, 1, 0}, {1, 1 << 16}, {1, 1 << 32}, {0, 1 << 48}, {top, top}, {0, top}, {top, 1}, {top - 1, 1 << 63}, {0, 0, 1}, {top, 0, top}, {0, 0, 0, top}, {1, 0, 0, 0, 1},
	}
	for _, n := range []int{2, 3, 6, 7, 8, 9, 15, 23, 24, 25, 40} {
		for i, a := range kinds(n) {
			l = append(l, zeros(a, i*(n%3)))
		}
	}
	return l
}

// number is that of a slice.
func number(a []uint64) *big.Int {
	n := new(big.Int)
	for _, w := range slices.Backward(a) {
		n.Lsh(n, 64).Or(n, new(big.Int).SetUint64(w))
	}
	return n
}

// is tells whether a slice is a number, and normalized.
func is(a []uint64, n *big.Int) bool {
	return len(a) == (n.BitLen()+63)/64 && number(a).Cmp(n) == 0
}

// product is what the numbers of two slices make.
func product(a, b []uint64) *big.Int { return new(big.Int).Mul(number(a), number(b)) }

// TestWay: P10.1, both sides of every border, whichever number is the shorter one.
func TestWay(t *testing.T) {
	for _, x := range []struct{ n, m, want int }{
		{8, 600, api.WKara},
		{0, 0, api.WSchool}, {0, 4096, api.WSchool}, {1, 1, api.WSchool}, {7, 7, api.WSchool}, {7, 8, api.WSchool}, {7, 24, api.WSchool}, {7, 512, api.WSchool}, {7, math.MaxInt, api.WSchool},
		{8, 8, api.WKara}, {8, 24, api.WKara}, {8, 511, api.WKara}, {8, 512, api.WKara}, {23, 23, api.WKara}, {23, 24, api.WKara}, {23, 512, api.WKara}, {23, math.MaxInt, api.WKara},
		{24, 24, api.WGold}, {24, 25, api.WGold}, {24, 511, api.WGold}, {100, 200, api.WGold}, {511, 511, api.WGold},
		{24, 512, api.WTrio}, {24, 4096, api.WTrio}, {24, math.MaxInt, api.WTrio}, {511, 512, api.WTrio}, {512, 512, api.WTrio}, {4096, 4096, api.WTrio}, {4097, 4097, api.WTrio}, {math.MaxInt, math.MaxInt, api.WTrio},
		{-1, 600, api.WSchool}, {-1, -1, api.WSchool}, {math.MinInt, math.MaxInt, api.WSchool}, {math.MinInt, math.MinInt, api.WSchool},
	} {
		if got := mul.Way(x.n, x.m); got != x.want {
			t.Errorf("Way(%d, %d) = %d, not %d", x.n, x.m, got, x.want)
		}
		if got := mul.Way(x.m, x.n); got != x.want {
			t.Errorf("Way(%d, %d) = %d, not %d", x.m, x.n, got, x.want)
		}
	}
}

// TestByExamples: P10.1, what the chapter tells, products with 0, and numbers that are not normalized.
func TestByExamples(t *testing.T) {
	for _, x := range []struct{ a, b, want []uint64 }{
		{[]uint64{3}, []uint64{5}, []uint64{15}}, {[]uint64{3, 0}, []uint64{5, 0, 0}, []uint64{15}},
		{nil, nil, nil}, {nil, []uint64{top}, nil}, {[]uint64{0, 0}, full(30), nil}, {make([]uint64, most+1), full(most), nil},
		{[]uint64{top}, []uint64{top}, []uint64{1, top - 1}}, {[]uint64{0, 3}, []uint64{5, 1, 0}, []uint64{0, 15, 3}},
		{power(30), power(40), power(70)}, {full(2), full(2), []uint64{1, 0, top - 1, top}},
	} {
		for _, way := range ways() {
			for _, l := range [][2][]uint64{{x.a, x.b}, {x.b, x.a}} {
				if got, e := mul.By(l[0], l[1], way); !slices.Equal(got, x.want) || e != api.OK {
					t.Errorf("By(%v, %v, %d) = %v, %d, not %v", l[0], l[1], way, got, e, x.want)
				}
			}
		}
	}
}

// TestProducts: P10.1, P10.3 and T6, every method, and the best one, against numbers of any length.
func TestProducts(t *testing.T) {
	for _, a := range numbers() {
		for _, b := range numbers() {
			want := product(a, b)
			for _, way := range ways() {
				if got, e := mul.By(a, b, way); !is(got, want) || e != api.OK {
					t.Errorf("By(%v, %v, %d) = %v, %d", a, b, way, got, e)
				}
			}
			if got, e := mul.Mul(a, b); !is(got, want) || e != api.OK {
				t.Errorf("Mul(%v, %v) = %v, %d", a, b, got, e)
			}
		}
	}
}

// TestLong: P10.1, P10.3 and T6, numbers about the borders of the methods and as long as any that is multiplied, and such of lengths far apart.
func TestLong(t *testing.T) {
	for _, x := range []struct{ n, m int }{
		{1, most}, {7, 600}, {8, 600}, {23, 512}, {24, 511}, {24, 512}, {64, 64}, {129, 128}, {511, 511}, {511, 512}, {512, 512}, {513, 700}, {24, most}, {most - 1, most}, {most, most},
	} {
		for i, a := range kinds(x.n) {
			b := zeros(kinds(x.m)[i], i)
			want := product(a, b)
			for _, way := range ways() {
				if got, e := mul.By(a, b, way); !is(got, want) || e != api.OK {
					t.Errorf("By errs for %d and %d words of the kind %d and the way %d: %d", x.n, x.m, i, way, e)
				}
			}
			if got, e := mul.Mul(b, a); !is(got, want) || e != api.OK {
				t.Errorf("Mul errs for %d and %d words of the kind %d: %d", x.m, x.n, i, e)
			}
		}
	}
}

// TestNoWay: P10.1, ways that there are none of, however long the numbers are: that is told first.
func TestNoWay(t *testing.T) {
	for _, way := range []int{5, 0, -1, 6, 1 << 32, 1<<32 + 1, 1<<32 + 4, math.MinInt, math.MinInt + 1, math.MaxInt} {
		for _, x := range [][2][]uint64{{nil, nil}, {{3}, {5}}, {{0, 0}, full(9)}, {full(most), full(most)}, {full(most + 1), {1}}, {nil, full(most + 1)}, {full(most + 1), power(most)}} {
			if got, e := mul.By(x[0], x[1], way); len(got) != 0 || e != api.ErrArg {
				t.Errorf("By of %d and %d words and the way %d: %d words, %d", len(x[0]), len(x[1]), way, len(got), e)
			}
		}
	}
}

// TestTooLong: P10.1, numbers of more than 4096 words, in either place, whatever the other one is; words that are 0 above a number do not count.
func TestTooLong(t *testing.T) {
	for _, x := range []struct {
		a []uint64
		e api.Errno
	}{
		{full(most), api.OK}, {zeros(full(most), 1), api.OK}, {zeros(full(3), most), api.OK}, {make([]uint64, most+1), api.OK}, {make([]uint64, 3*most), api.OK},
		{full(most + 1), api.ErrLong}, {power(most), api.ErrLong}, {zeros(power(most), 5), api.ErrLong}, {random(3*most, 1), api.ErrLong}, {power(1 << 20), api.ErrLong},
	} {
		for _, b := range [][]uint64{nil, {0, 0}, {1}, full(8), full(24), full(most), power(most - 1), x.a} {
			for _, l := range [][2][]uint64{{x.a, b}, {b, x.a}} {
				want := new(big.Int)
				if x.e == api.OK {
					want = product(l[0], l[1])
				}
				for _, way := range ways() {
					if got, e := mul.By(l[0], l[1], way); !is(got, want) || e != x.e {
						t.Errorf("By of %d and %d words and the way %d: %d words, %d, not %d", len(l[0]), len(l[1]), way, len(got), e, x.e)
					}
				}
				if got, e := mul.Mul(l[0], l[1]); !is(got, want) || e != x.e {
					t.Errorf("Mul of %d and %d words: %d words, %d, not %d", len(l[0]), len(l[1]), len(got), e, x.e)
				}
			}
		}
	}
}

// TestCutExamples: P10.2, what the chapter tells, and numbers whose highest digits are 0.
func TestCutExamples(t *testing.T) {
	for _, x := range []struct {
		a    []uint64
		bits int
		want []uint64
	}{
		{[]uint64{7 << 32}, 32, []uint64{0, 7}}, {[]uint64{7 << 32}, 16, []uint64{0, 0, 7}},
		{nil, 16, nil}, {nil, 32, nil}, {[]uint64{0, 0}, 16, nil}, {[]uint64{0, 0}, 32, nil},
		{[]uint64{5, 0}, 16, []uint64{5}}, {[]uint64{5, 0}, 32, []uint64{5}},
		{[]uint64{1<<16 - 1}, 16, []uint64{1<<16 - 1}}, {[]uint64{1 << 16}, 16, []uint64{0, 1}}, {[]uint64{1 << 16}, 32, []uint64{1 << 16}},
		{[]uint64{1<<32 - 1}, 32, []uint64{1<<32 - 1}}, {[]uint64{0x0123456789abcdef}, 32, []uint64{0x89abcdef, 0x01234567}},
		{[]uint64{0x0123456789abcdef}, 16, []uint64{0xcdef, 0x89ab, 0x4567, 0x0123}}, {[]uint64{top, 1, 0}, 16, []uint64{0xffff, 0xffff, 0xffff, 0xffff, 1}},
		{[]uint64{0, 1 << 63}, 32, []uint64{0, 0, 0, 1 << 31}}, {[]uint64{3, 1 << 32}, 32, []uint64{3, 0, 0, 1}},
	} {
		if got := mul.Cut(x.a, x.bits); !slices.Equal(got, x.want) {
			t.Errorf("Cut(%v, %d) = %v, not %v", x.a, x.bits, got, x.want)
		}
	}
}

// remainders are the digits of a number found by divisions by 2^bits.
func remainders(a []uint64, bits int) []uint64 {
	var l []uint64
	base := new(big.Int).Lsh(big.NewInt(1), uint(bits))
	for n, r := number(a), new(big.Int); n.Sign() > 0; {
		n.QuoRem(n, base, r)
		l = append(l, r.Uint64())
	}
	return l
}

// TestCut: P10.2, digits against remainders, for numbers longer than any that is multiplied too.
func TestCut(t *testing.T) {
	for _, a := range append(numbers(), full(300), random(most+1, 2), power(5000)) {
		for _, bits := range bases() {
			if got := mul.Cut(a, bits); !slices.Equal(got, remainders(a, bits)) {
				t.Errorf("Cut(%v, %d) = %v", a, bits, got)
			}
		}
	}
}

// sum is that of all pairs, each times 2^bits more than the one before it.
func sum(l []api.Pair, bits int) *big.Int {
	n := new(big.Int)
	for _, p := range slices.Backward(l) {
		n.Lsh(n, uint(bits)).Add(n, number([]uint64{p.Lo, p.Hi}))
	}
	return n
}

// TestCarryExamples: P10.2, sums that are easily told, and what is nothing.
func TestCarryExamples(t *testing.T) {
	for _, x := range []struct {
		l    []api.Pair
		bits int
		want []uint64
	}{
		{nil, 16, nil}, {nil, 32, nil}, {make([]api.Pair, 9), 16, nil}, {make([]api.Pair, 9), 32, nil},
		{[]api.Pair{{Lo: 5}, {}, {}, {}, {}}, 16, []uint64{5}}, {[]api.Pair{{Lo: 5}, {Lo: 6}}, 16, []uint64{6<<16 + 5}}, {[]api.Pair{{Lo: 5}, {Lo: 6}}, 32, []uint64{6<<32 + 5}},
		{[]api.Pair{{Hi: 3}}, 16, []uint64{0, 3}}, {[]api.Pair{{Hi: 3, Lo: 4}, {}}, 32, []uint64{4, 3}},
		{[]api.Pair{{}, {Hi: 3, Lo: 4}}, 32, []uint64{4 << 32, 3 << 32}}, {[]api.Pair{{}, {}, {Hi: 3}}, 32, []uint64{0, 0, 3}}, {[]api.Pair{{}, {}, {Hi: 1 << 63}}, 16, []uint64{0, 0, 1 << 31}},
		{[]api.Pair{{Hi: top, Lo: top}, {Lo: 1}}, 32, []uint64{1<<32 - 1, 0, 1}}, {[]api.Pair{{Lo: 1<<16 - 1}, {Lo: 1<<16 - 1}, {Lo: 1<<16 - 1}, {Lo: 1 << 16}}, 16, []uint64{1<<48 - 1, 1}},
		{[]api.Pair{{Hi: top, Lo: top}, {}, {}, {}, {Hi: top, Lo: top}}, 16, []uint64{top, top - 1, 0, 1}},
	} {
		if got := mul.Carry(x.l, x.bits); !slices.Equal(got, x.want) {
			t.Errorf("Carry(%v, %d) = %v, not %v", x.l, x.bits, got, x.want)
		}
	}
}

// pairs are those of two slices of the same length.
func pairs(hi, lo []uint64) []api.Pair {
	l := make([]api.Pair, len(hi))
	for i := range l {
		l[i] = api.Pair{Hi: hi[i], Lo: lo[i]}
	}
	return l
}

// TestCarry: P10.2, sums of pairs of any size, the greatest among them, and of any number.
func TestCarry(t *testing.T) {
	for _, n := range []int{1, 2, 3, 4, 5, 6, 7, 8, 9, 15, 16, 17, 100, 1001, 4097} {
		for _, hi := range append(kinds(n), make([]uint64, n)) {
			for _, lo := range append(kinds(n), make([]uint64, n)) {
				l := pairs(hi, lo)
				for _, bits := range bases() {
					if got := mul.Carry(l, bits); !is(got, sum(l, bits)) {
						t.Errorf("Carry errs for %d pairs and %d bits, from %v to %v", n, bits, l[0], l[n-1])
					}
				}
			}
		}
	}
}

// TestNoDigits: P10.2, bits of digits that there are none of: nothing, whatever is cut or carried.
func TestNoDigits(t *testing.T) {
	for _, bits := range wrongBases() {
		for _, n := range []int{0, 1, 2, 9, 300} {
			if got := mul.Cut(full(n), bits); len(got) != 0 {
				t.Errorf("Cut of %d words, %d = %v", n, bits, got)
			}
			if got := mul.Carry(pairs(full(n), full(n)), bits); len(got) != 0 {
				t.Errorf("Carry of %d pairs, %d = %v", n, bits, got)
			}
		}
	}
}

// TestCarryCut: P10.3, Carry of the digits that Cut returns is the original number.
func TestCarryCut(t *testing.T) {
	for _, a := range append(numbers(), full(most), random(most+3, 3), power(9000)) {
		for _, bits := range bases() {
			cut := mul.Cut(a, bits)
			if got := mul.Carry(pairs(make([]uint64, len(cut)), cut), bits); !is(got, number(a)) {
				t.Errorf("Carry of Cut of %v with %d bits = %v", a, bits, got)
			}
		}
	}
}

// calls are what every function makes of two numbers, of which a is carried too.
func calls(a, b []uint64) [][]uint64 {
	var r [][]uint64
	for _, way := range ways() {
		got, _ := mul.By(a, b, way)
		r = append(r, got)
	}
	best, _ := mul.Mul(a, b)
	r = append(r, best)
	for _, bits := range bases() {
		r = append(r, mul.Cut(a, bits), mul.Carry(pairs(a, a), bits))
	}
	return r
}

// TestKept: R3 and R4, arguments are left as they are, with the room behind them; results are new memory, each for itself, and the same in every call.
func TestKept(t *testing.T) {
	const kept = 0x5555
	for _, a := range numbers() {
		for _, b := range [][]uint64{nil, {0}, {1}, {top, 0}, full(9), a} {
			keptA, keptB := append(slices.Clone(a), kept, kept), append(slices.Clone(b), kept, kept)
			roomA, roomB := slices.Clone(keptA), slices.Clone(keptB)
			got, want := calls(roomA[:len(a)], roomB[:len(b)]), calls(a, b)
			for i, r := range got {
				if !slices.Equal(r, want[i]) {
					t.Fatalf("the result %d of %v and %v is %v where it was %v, or shares memory with another", i, a, b, r, want[i])
				}
				r = r[:cap(r)]
				for k := range r {
					r[k] = ^r[k]
				}
				if !slices.Equal(roomA, keptA) || !slices.Equal(roomB, keptB) {
					t.Fatalf("the result %d of %v and %v shares memory with them, or changes them: %v, %v", i, a, b, roomA, roomB)
				}
			}
		}
	}
}

// TestCarryKept: R3, the pairs that are carried are left as they are.
func TestCarryKept(t *testing.T) {
	l := pairs(full(10), random(10, 4))
	kept := slices.Clone(l)
	for _, bits := range bases() {
		mul.Carry(l[:8], bits)
		if !slices.Equal(l, kept) {
			t.Errorf("Carry with %d bits changes its pairs", bits)
		}
	}
}
