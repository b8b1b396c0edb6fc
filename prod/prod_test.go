package prod_test

import (
	"math"
	"math/big"
	"slices"
	"testing"

	"tallystick/prod"
)

const top = 1<<64 - 1

// leasts are what Kara is asked to leave unsplit: from less than may be, to more than there is.
var leasts = []int{math.MinInt, -1, 0, 1, 2, 3, 4, 5, 7, 12, 31, math.MaxInt}

// plain are n words without any pattern, the same ones in every run.
func plain(n int, seed uint64) []uint64 {
	a := make([]uint64, n)
	for i := range a {
		seed = seed*6364136223846793005 + 1442695040888963407
		a[i] = seed ^ seed>>29
	}
	return a
}

// full are n words that carry as much as may be carried.
func full(n int) []uint64 { return slices.Repeat([]uint64{top}, n) }

// power is 2^(64 n).
func power(n int) []uint64 { return append(make([]uint64, n), 1) }

// short are numbers of few words, about the edges of words; some are not normalized.
func short() [][]uint64 {
	return [][]uint64{
		nil, {0}, {0, 0, 0}, {1}, {3}, {7, 0}, {1 << 32}, {1 << 63}, {top}, {top, 0, 0}, {0, 3}, {5, 1, 0}, {top - 1, top}, {top, top},
		{0, top}, {top, 1}, {0, 0, 1}, {1, 0, 3}, {top, 0, top}, {top, top, top, 0}, {0, 0, 0, top}, {1, 0, 0, 0, 1}, {top, 0, 0, 0, 0, 1 << 63, 0},
	}
}

// numbers are short numbers and longer ones: full, empty but for one word, with 0 in a half, and without any pattern.
func numbers() [][]uint64 {
	l := short()
	for n := 4; n < 14; n++ {
		l = append(l, full(n), power(n), plain(n, uint64(n)))
		l = append(l, slices.Concat(make([]uint64, n/2), plain(n-n/2, uint64(n)), make([]uint64, n%3)))
		l = append(l, slices.Concat(full(n/2), make([]uint64, n-n/2), full(1)))
	}
	return append(l, plain(33, 1), full(40), append(full(29), 0, 0))
}

// whole is the number of a slice.
func whole(a []uint64) *big.Int {
	n := new(big.Int)
	for _, w := range slices.Backward(a) {
		n.Lsh(n, 64).Or(n, new(big.Int).SetUint64(w))
	}
	return n
}

// is tells whether a slice is a number, and normalized.
func is(a []uint64, n *big.Int) bool {
	return whole(a).Cmp(n) == 0 && len(a) == (n.BitLen()+63)/64
}

// product is what the numbers of two slices make.
func product(a, b []uint64) *big.Int { return new(big.Int).Mul(whole(a), whole(b)) }

// TestProductExamples: P5.1, the document's products, and products with 0.
func TestProductExamples(t *testing.T) {
	for _, x := range []struct{ a, b, want []uint64 }{
		{nil, nil, nil}, {nil, []uint64{top}, nil}, {[]uint64{0, 0, 0, 0, 0}, full(6), nil}, {[]uint64{3, 0}, []uint64{5}, []uint64{15}},
		{[]uint64{0, 3}, []uint64{5, 1, 0}, []uint64{0, 15, 3}}, {[]uint64{top}, []uint64{top}, []uint64{1, top - 1}},
		{power(4), power(5), power(9)}, {full(4), full(4), []uint64{1, 0, 0, 0, top - 1, top, top, top}},
	} {
		if got := prod.School(x.a, x.b); !slices.Equal(got, x.want) {
			t.Errorf("School(%v, %v) = %v, not %v", x.a, x.b, got, x.want)
		}
		for _, least := range leasts {
			if got := prod.Kara(x.a, x.b, least); !slices.Equal(got, x.want) {
				t.Errorf("Kara(%v, %v, %d) = %v, not %v", x.a, x.b, least, got, x.want)
			}
		}
	}
}

// TestProducts: P5.1, both methods against numbers of any length, whatever is left unsplit.
func TestProducts(t *testing.T) {
	for _, a := range numbers() {
		for _, b := range numbers() {
			want := product(a, b)
			if got := prod.School(a, b); !is(got, want) {
				t.Errorf("School(%v, %v) = %v", a, b, got)
			}
			for _, least := range leasts {
				if got := prod.Kara(a, b, least); !is(got, want) {
					t.Errorf("Kara(%v, %v, %d) = %v", a, b, least, got)
				}
			}
		}
	}
}

// TestLengths: P5.1, every pair of small lengths, as halves of odd lengths and of unlike ones are where a split may err.
func TestLengths(t *testing.T) {
	for n := range 24 {
		for m := range 24 {
			for _, x := range [][2][]uint64{{full(n), full(m)}, {plain(n, 7), plain(m, 8)}, {full(n), plain(m, 9)}} {
				want := product(x[0], x[1])
				for _, least := range []int{0, 4, 9} {
					if got := prod.Kara(x[0], x[1], least); !is(got, want) {
						t.Errorf("Kara(%v, %v, %d) = %v", x[0], x[1], least, got)
					}
				}
				if got := prod.School(x[0], x[1]); !is(got, want) {
					t.Errorf("School(%v, %v) = %v", x[0], x[1], got)
				}
			}
		}
	}
}

// TestLong: P5.1 and T6, numbers as long as any that is multiplied, and such of lengths far apart.
func TestLong(t *testing.T) {
	for _, x := range [][2][]uint64{
		{plain(4096, 1), plain(4096, 2)}, {full(4096), full(4096)}, {plain(4096, 3), full(4)}, {full(5), plain(4095, 4)}, {plain(3000, 5), plain(70, 6)},
	} {
		want := product(x[0], x[1])
		if !is(prod.School(x[0], x[1]), want) {
			t.Errorf("School errs for %d and %d words", len(x[0]), len(x[1]))
		}
		for _, least := range []int{0, 24, 4095} {
			if !is(prod.Kara(x[0], x[1], least), want) {
				t.Errorf("Kara errs for %d and %d words and %d", len(x[0]), len(x[1]), least)
			}
		}
	}
}

// TestSquare: P5.1, the chapter's example, and the square of every number.
func TestSquare(t *testing.T) {
	for _, x := range []struct{ a, want []uint64 }{
		{nil, nil}, {[]uint64{0, 0}, nil}, {[]uint64{3, 0}, []uint64{9}}, {[]uint64{1 << 32}, []uint64{0, 1}}, {[]uint64{top}, []uint64{1, top - 1}},
		{[]uint64{1, 1}, []uint64{1, 2, 1}}, {[]uint64{0, 1 << 63}, []uint64{0, 0, 0, 1 << 62}}, {full(2), []uint64{1, 0, top - 1, top}},
	} {
		if got := prod.Square(x.a); !slices.Equal(got, x.want) {
			t.Errorf("Square(%v) = %v, not %v", x.a, got, x.want)
		}
	}
	for _, a := range append(numbers(), plain(4096, 3), full(1000)) {
		if got := prod.Square(a); !is(got, product(a, a)) {
			t.Errorf("Square(%v) = %v", a, got)
		}
	}
}

// TestMacExamples: P5.1, the chapter's example, negative places, and places that do not matter as nothing is added there.
func TestMacExamples(t *testing.T) {
	for _, x := range []struct {
		acc, a []uint64
		w      uint64
		at     int
		want   []uint64
	}{
		{[]uint64{7}, []uint64{top, 0}, 2, 1, []uint64{7, top - 1, 1}},
		{[]uint64{7}, []uint64{5}, 2, 0, []uint64{17}},
		{[]uint64{7, 0}, []uint64{5}, 2, -1, []uint64{17}},
		{[]uint64{7}, []uint64{5}, 2, math.MinInt, []uint64{17}},
		{[]uint64{7}, []uint64{5}, 2, 1 - 1<<58, []uint64{17}},
		{nil, []uint64{5}, 3, 2, []uint64{0, 0, 15}},
		{[]uint64{0, 0}, []uint64{5}, 3, 0, []uint64{15}},
		{full(3), []uint64{1}, 1, 0, power(3)},
		{full(3), []uint64{1}, 1, 2, []uint64{top, top, 0, 1}},
		{full(3), full(1), top, 1, []uint64{top, 0, top - 1, 1}},
		{[]uint64{7, 0}, full(2), 0, 5, []uint64{7}},
		{[]uint64{7, 0}, nil, top, 5, []uint64{7}},
		{[]uint64{7, 0}, []uint64{0, 0}, top, math.MaxInt, []uint64{7}},
		{[]uint64{7, 0}, full(2), 0, math.MaxInt, []uint64{7}},
		{nil, nil, 0, 1 << 58, nil},
	} {
		if got := prod.Mac(x.acc, x.a, x.w, x.at); !slices.Equal(got, x.want) {
			t.Errorf("Mac(%v, %v, %d, %d) = %v, not %v", x.acc, x.a, x.w, x.at, got, x.want)
		}
	}
	for _, at := range []int{1 << 40, 1 << 57, 1 << 58, math.MaxInt} { // the document leaves open what these are, but they end without a panic
		prod.Mac([]uint64{7}, []uint64{1}, 1, at)
	}
}

// TestMac: P5.1, sums below, within and above what they are added to.
func TestMac(t *testing.T) {
	for _, acc := range numbers() {
		for _, a := range short() {
			for _, w := range []uint64{0, 1, 2, 1 << 63, 0x123456789abcdef, top} {
				for _, at := range []int{-3, 0, 1, 2, 5, 50} {
					want := product(a, []uint64{w})
					want.Lsh(want, 64*uint(max(at, 0)))
					if got := prod.Mac(acc, a, w, at); !is(got, want.Add(want, whole(acc))) {
						t.Errorf("Mac(%v, %v, %d, %d) = %v", acc, a, w, at, got)
					}
				}
			}
		}
	}
}

// TestHalfExamples: P5.2, the chapter's example, cuts at both ends and beyond them.
func TestHalfExamples(t *testing.T) {
	for _, x := range []struct {
		a      []uint64
		n      int
		hi, lo []uint64
	}{
		{[]uint64{1, 0, 3}, 2, []uint64{3}, []uint64{1}},
		{[]uint64{1, 0, 3}, 1, []uint64{0, 3}, []uint64{1}},
		{[]uint64{1, 0, 3, 0}, 0, []uint64{1, 0, 3}, nil},
		{[]uint64{1, 0, 3, 0}, -1, []uint64{1, 0, 3}, nil},
		{[]uint64{1, 0, 3}, math.MinInt, []uint64{1, 0, 3}, nil},
		{[]uint64{1, 0, 3, 0}, 3, nil, []uint64{1, 0, 3}},
		{[]uint64{1, 0, 3, 0}, 4, nil, []uint64{1, 0, 3}},
		{[]uint64{1, 0, 3, 0}, 5, nil, []uint64{1, 0, 3}},
		{[]uint64{1, 0, 3}, math.MaxInt, nil, []uint64{1, 0, 3}},
		{[]uint64{0, 0, 3}, 2, []uint64{3}, nil},
		{nil, 0, nil, nil}, {nil, 1, nil, nil}, {[]uint64{0, 0}, 1, nil, nil},
	} {
		if hi, lo := prod.Half(x.a, x.n); !slices.Equal(hi, x.hi) || !slices.Equal(lo, x.lo) {
			t.Errorf("Half(%v, %d) = %v, %v, not %v, %v", x.a, x.n, hi, lo, x.hi, x.lo)
		}
	}
}

// TestHalf: P5.2, every cut, against numbers of any length.
func TestHalf(t *testing.T) {
	for _, a := range numbers() {
		for n := -2; n < len(a)+3; n++ {
			wantHi, wantLo := new(big.Int).QuoRem(whole(a), whole(power(max(n, 0))), new(big.Int))
			if hi, lo := prod.Half(a, n); !is(hi, wantHi) || !is(lo, wantLo) {
				t.Errorf("Half(%v, %d) = %v, %v", a, n, hi, lo)
			}
		}
	}
}

// methods are all that make a product.
func methods() map[string]func(a, b []uint64) []uint64 {
	return map[string]func(a, b []uint64) []uint64{
		"School": prod.School,
		"Kara":   func(a, b []uint64) []uint64 { return prod.Kara(a, b, 0) },
		"by Mac": func(a, b []uint64) []uint64 {
			var sum []uint64
			for i, w := range b {
				sum = prod.Mac(sum, a, w, i)
			}
			return sum
		},
	}
}

// TestLaws: P5.3, products in another order, in other brackets, and of a sum.
func TestLaws(t *testing.T) {
	l := [][]uint64{nil, {0, 0}, {top}, {3, 0, 0}, power(4), full(5), plain(6, 1), plain(9, 2), append(full(12), 0)}
	for name, times := range methods() {
		for _, a := range l {
			for _, b := range l {
				ab := times(a, b)
				if !slices.Equal(ab, times(b, a)) {
					t.Errorf("%s: %v and %v do not commute", name, a, b)
				}
				for _, c := range l {
					if !slices.Equal(times(ab, c), times(a, times(b, c))) {
						t.Errorf("%s: %v, %v and %v do not associate", name, a, b, c)
					}
					sum := prod.Mac(b, c, 1, 0)
					if !slices.Equal(times(a, sum), prod.Mac(ab, times(a, c), 1, 0)) {
						t.Errorf("%s: %v is not distributed over %v and %v", name, a, b, c)
					}
				}
			}
		}
	}
}

// TestBits: P5.3, a product of numbers other than 0 has as many bits as both together, or one less.
func TestBits(t *testing.T) {
	for name, times := range methods() {
		for _, a := range numbers() {
			for _, b := range numbers() {
				both := whole(a).BitLen() + whole(b).BitLen()
				if whole(a).Sign() == 0 || whole(b).Sign() == 0 {
					continue
				}
				if n := whole(times(a, b)).BitLen(); n != both && n != both-1 {
					t.Errorf("%s: the product of %v and %v has %d bits", name, a, b, n)
				}
			}
		}
	}
}

// calls are what every function makes of two numbers.
func calls(a, b []uint64) map[string][]uint64 {
	l := map[string][]uint64{
		"School": prod.School(a, b), "Kara": prod.Kara(a, b, 0), "Kara, unsplit": prod.Kara(a, b, math.MaxInt), "Square": prod.Square(a),
		"Mac": prod.Mac(a, b, 3, 1), "Mac of 0": prod.Mac(a, b, 0, 1), "Mac onto 0": prod.Mac(nil, a, 1, 0),
	}
	l["upper half"], l["lower half"] = prod.Half(a, 1)
	l["all above"], l["nothing below"] = prod.Half(a, 0)
	l["nothing above"], l["all below"] = prod.Half(a, len(a))
	return l
}

// TestNew: R3, arguments are left as they are, with the room behind them, and results are new memory, each for itself.
func TestNew(t *testing.T) {
	const kept = 0x5555
	for _, a := range numbers() {
		for _, b := range [][]uint64{nil, {0}, {1}, {top, 0}, full(6), a} {
			keptA, keptB := append(slices.Clone(a), kept, kept), append(slices.Clone(b), kept, kept)
			roomA, roomB := slices.Clone(keptA), slices.Clone(keptB)
			got, want := calls(roomA[:len(a)], roomB[:len(b)]), calls(a, b)
			for name, r := range got {
				if !slices.Equal(r, want[name]) {
					t.Fatalf("%s of %v and %v is %v where it was %v, or shares memory with another", name, a, b, r, want[name])
				}
				r = r[:cap(r)]
				for i := range r {
					r[i] = ^r[i]
				}
				if !slices.Equal(roomA, keptA) || !slices.Equal(roomB, keptB) {
					t.Fatalf("%s of %v and %v shares memory with them: %v, %v", name, a, b, roomA, roomB)
				}
			}
		}
	}
}
