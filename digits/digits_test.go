package digits_test

import (
	"math"
	"math/big"
	"slices"
	"strings"
	"testing"

	"tallystick/api"
	"tallystick/digits"
	"tallystick/series"
)

const (
	top  = 1<<64 - 1
	most = api.MaxLimb // how many words a number that is multiplied has at most

	mostPlaces = 3000
	mostAsked  = 1500
	mostWanted = 1000
	maxBits    = 128000 // how many bits a number has at most that is converted to a decimal
)

// The first hundred digits of the two constants.
const (
	ofE  = "2.7182818284590452353602874713526624977572470936999595749669676277240766303535475945713821785251664274"
	ofPi = "3.1415926535897932384626433832795028841971693993751058209749445923078164062862089986280348253421170679"
)

// constants are those that there are.
func constants() []int { return []int{api.CE, api.CPi} }

// wrongConstants are numbers that are none of a constant.
func wrongConstants() []int {
	return []int{0, 3, -1, -2, 4, 257, 1<<32 + 1, 1<<32 + 2, math.MinInt, math.MinInt + 1, math.MaxInt}
}

// wrongNumbers are ints that are not from first to last.
func wrongNumbers(first, last int) []int {
	return []int{first - 1, first - 2, -last, math.MinInt, math.MinInt + 1, -1 << 32, last + 1, last + 2, 2 * last, 1 << 31, 1<<32 + 1, 1<<32 + last, 1 << 62, math.MaxInt - 1, math.MaxInt}
}

// next are words without any pattern, the same ones in every run.
func next(s *uint64) uint64 {
	*s = *s*6364136223846793005 + 1442695040888963407
	return *s ^ *s>>29
}

// random is a number of n words without any pattern, the last of which is not 0.
func random(s *uint64, n int) []uint64 {
	a := make([]uint64, n)
	for i := range a {
		a[i] = next(s)
	}
	if n > 0 {
		a[n-1] |= 1
	}
	return a
}

// full are n words with all their bits.
func full(n int) []uint64 { return slices.Repeat([]uint64{top}, n) }

// power is 2^(64 n).
func power(n int) []uint64 { return append(make([]uint64, n), 1) }

// one is the number of one word.
func one(w uint64) []uint64 {
	if w == 0 {
		return nil
	}
	return []uint64{w}
}

// number is that of a slice.
func number(a []uint64) *big.Int {
	n := new(big.Int)
	for _, w := range slices.Backward(a) {
		n.Lsh(n, 64).Or(n, new(big.Int).SetUint64(w))
	}
	return n
}

// slice is that of a number.
func slice(n *big.Int) []uint64 {
	var a []uint64
	for n = new(big.Int).Set(n); n.Sign() > 0; n.Rsh(n, 64) {
		a = append(a, new(big.Int).And(n, number(one(top))).Uint64())
	}
	return a
}

// is tells whether a slice is a number, and normalized.
func is(a []uint64, n *big.Int) bool {
	return len(a) == (n.BitLen()+63)/64 && number(a).Cmp(n) == 0
}

// ten is 10^n.
func ten(n int) *big.Int {
	return new(big.Int).Exp(big.NewInt(10), big.NewInt(int64(n)), nil)
}

// part is one with such numbers, of any range.
func part(q, t []uint64) api.Part {
	return api.Part{R: api.Range{From: 3, To: 9}, P: []uint64{7}, Q: q, T: t}
}

// scaled is what the chapter tells of a number, so many digits up.
func scaled(c int, p api.Part, m int) *big.Int {
	q, t := number(p.Q), number(p.T)
	if c == api.CE {
		return t.Mul(t, ten(m)).Quo(t, q)
	}
	s := new(big.Int).Mul(big.NewInt(10005), ten(2*m))
	s.Sqrt(s).Mul(s, big.NewInt(426880)).Mul(s, q)
	return s.Quo(s, t)
}

// checkScaled holds Scaled against that.
func checkScaled(t *testing.T, c int, p api.Part, m int) {
	t.Helper()
	got, e := digits.Scaled(c, p, m)
	if want := scaled(c, p, m); e != api.OK || !is(got, want) {
		t.Fatalf("Scaled(%d, %v, %d) = %v, %d, not %v", c, p, m, got, e, want)
	}
}

// refused looks whether there is nothing but an error.
func refused(t *testing.T, name string, got []uint64, e, want api.Errno) {
	t.Helper()
	if len(got) != 0 || e != want {
		t.Fatalf("%s is %v, %d, not the error %d alone", name, got, e, want)
	}
}

// untold looks whether there is no text, but an error.
func untold(t *testing.T, name, got string, e, want api.Errno) {
	t.Helper()
	if got != "" || e != want {
		t.Fatalf("%s is %q, %d, not the error %d alone", name, got, e, want)
	}
}

// TestScaledExamples: P18.1, what is easily told: quotients that are rounded down, whole ones, and 0.
func TestScaledExamples(t *testing.T) {
	for _, x := range []struct {
		c       int
		q, t    uint64
		m       int
		want, e int
	}{
		{api.CE, 6, 16, 0, 2, 0}, {api.CE, 6, 16, 3, 2666, 0}, {api.CE, 720, 1957, 4, 27180, 0}, {api.CE, 5, 15, 1, 30, 0}, {api.CE, 7, 6, 0, 0, 0}, {api.CE, 7, 0, 9, 0, 0}, {api.CE, 1, 1, 18, 1e18, 0},
		{api.CPi, 1, 13591409, 0, 3, 0}, {api.CPi, 1, 1, 0, 42688000, 0}, {api.CPi, 1, 42688000, 0, 1, 0}, {api.CPi, 1, 42688001, 0, 0, 0}, {api.CPi, 1, 426880, 1, 1000, 0}, {api.CPi, 1, 426880, 2, 10002, 0}, {api.CPi, 3, 426880, 2, 30006, 0}, {api.CPi, 3, 426880, 3, 300072, 0}, {api.CPi, 0, 5, 9, 0, 0},
		{api.CPi, 5, 0, 3, 0, 2}, {api.CE, 0, 5, 3, 0, 2}, {api.CE, 0, 0, 3, 0, 2}, {api.CPi, 0, 0, 3, 0, 2},
	} {
		got, e := digits.Scaled(x.c, part(one(x.q), one(x.t)), x.m)
		if !is(got, big.NewInt(int64(x.want))) || int(e) != x.e {
			t.Errorf("Scaled of %v is %v, %d", x, got, e)
		}
	}
}

// TestScaled: P18.1, numbers of any kind, by any number of digits.
func TestScaled(t *testing.T) {
	s := uint64(7)
	numbers := [][]uint64{nil, {1}, {2}, {10}, {top}, {0, 1}, full(2), random(&s, 3), random(&s, 20), full(33), random(&s, 200)}
	for _, c := range constants() {
		for _, q := range numbers {
			for _, a := range numbers {
				for _, m := range []int{0, 1, 2, 3, 18, 19, 20, 38, 39, 150, 1234} {
					if under := map[int][]uint64{api.CE: q, api.CPi: a}[c]; len(under) == 0 {
						got, e := digits.Scaled(c, part(q, a), m)
						refused(t, "Scaled with a divisor of 0", got, e, api.ErrZero)
					} else {
						checkScaled(t, c, part(q, a), m)
					}
				}
			}
		}
		for m := range mostPlaces + 1 {
			checkScaled(t, c, part(random(&s, m%7+1), random(&s, m%5+1)), m)
		}
	}
}

// TestScaledWhole: P18.1, quotients that are just whole, and 1 less, or 1 more, in the dividend or the divisor.
func TestScaledWhole(t *testing.T) {
	s := uint64(19)
	for m := range 80 {
		q := number(random(&s, m%9+1))
		k := number(random(&s, m%4+1))
		for _, off := range []int64{-1, 0, 1} {
			a := new(big.Int).Mul(q, k)
			checkScaled(t, api.CE, part(slice(q), slice(a.Add(a, big.NewInt(off)))), m)
			checkScaled(t, api.CPi, part(slice(a), slice(new(big.Int).Add(q, big.NewInt(off+1)))), m)
		}
	}
}

// TestScaledLongest: P18.1, numbers as long as they may be, whose products with a word, a power of 10 or a root are longer: these are OK.
func TestScaledLongest(t *testing.T) {
	s := uint64(3)
	longest := [][]uint64{full(most), power(most - 1), random(&s, most)}
	for _, c := range constants() {
		for _, a := range longest {
			for _, b := range append(longest, []uint64{1}, []uint64{top}, random(&s, most/2), random(&s, most-1)) {
				for _, m := range []int{0, 1, 20, mostPlaces} {
					checkScaled(t, c, part(a, b), m)
					checkScaled(t, c, part(b, a), m)
				}
			}
		}
	}
}

// TestScaledLong: P18.1, numbers that are too long to be multiplied; the other errors come first.
func TestScaledLong(t *testing.T) {
	for _, long := range [][]uint64{full(most + 1), power(most), full(2 * most)} {
		for _, m := range []int{0, 1, mostPlaces} {
			for _, other := range [][]uint64{{1}, {top}, full(most)} {
				got, e := digits.Scaled(api.CE, part(other, long), m)
				refused(t, "Scaled with T too long", got, e, api.ErrLong)
				got, e = digits.Scaled(api.CPi, part(long, other), m)
				refused(t, "Scaled with Q too long", got, e, api.ErrLong)
			}
			got, e := digits.Scaled(api.CE, part(nil, long), m)
			refused(t, "Scaled with T too long, and Q 0", got, e, api.ErrZero)
			got, e = digits.Scaled(api.CPi, part(long, nil), m)
			refused(t, "Scaled with Q too long, and T 0", got, e, api.ErrZero)
		}
		for _, c := range constants() {
			got, e := digits.Scaled(c, part(long, long), -1)
			refused(t, "Scaled by -1, with numbers too long", got, e, api.ErrArg)
		}
		got, e := digits.Scaled(3, part(long, long), -1)
		refused(t, "Scaled of 3, with numbers too long", got, e, api.ErrWanted)
	}
}

// TestScaledErrors: P18.1, constants that there are none of, whatever else there is; then digits beyond the bounds and parts with a sign; then divisors of 0.
func TestScaledErrors(t *testing.T) {
	anyPart := []api.Part{{}, part(one(5), one(6)), part(nil, one(6)), part(one(5), nil), {Q: one(5), T: one(6), Minus: true}, {Q: one(5), Minus: true}, {T: one(5), Minus: true}, {Minus: true}}
	wrong := wrongNumbers(0, mostPlaces)
	for _, c := range wrongConstants() {
		for _, p := range anyPart {
			for _, m := range append(wrong, 0, 1, mostPlaces) {
				got, e := digits.Scaled(c, p, m)
				refused(t, "Scaled", got, e, api.ErrWanted)
			}
		}
	}
	for _, c := range constants() {
		for _, p := range anyPart {
			for _, m := range wrong {
				got, e := digits.Scaled(c, p, m)
				refused(t, "Scaled", got, e, api.ErrArg)
			}
			for _, m := range []int{0, 1, 2, 20, mostPlaces} {
				p.Minus = true
				got, e := digits.Scaled(c, p, m)
				refused(t, "Scaled with a sign", got, e, api.ErrArg)
			}
		}
		for _, m := range []int{0, 1, 20, mostPlaces} {
			got, e := digits.Scaled(c, api.Part{}, m)
			refused(t, "Scaled of a zero part", got, e, api.ErrZero)
		}
	}
}

// checkSure holds Sure against what the chapter tells of it.
func checkSure(t *testing.T, v []uint64, g int) {
	t.Helper()
	got, e := digits.Sure(v, g)
	q, r := new(big.Int).QuoRem(number(v), ten(g), new(big.Int))
	above := new(big.Int).Sub(ten(g), r)
	if r.Cmp(big.NewInt(3)) < 0 || above.Cmp(big.NewInt(4)) < 0 {
		refused(t, "Sure", got, e, api.ErrNear)
	} else if e != api.OK || !is(got, q) {
		t.Fatalf("Sure(%v, %d) = %v, %d, not %v", v, g, got, e, q)
	}
}

// TestSureExamples: P18.2, what the chapter tells, and both sides of both bounds.
func TestSureExamples(t *testing.T) {
	for _, x := range []struct {
		v    uint64
		g    int
		want uint64
		e    api.Errno
	}{
		{120002, 4, 0, api.ErrNear}, {129997, 4, 0, api.ErrNear}, {120003, 4, 12, 0}, {129996, 4, 12, 0}, {120000, 4, 0, api.ErrNear}, {120001, 4, 0, api.ErrNear}, {129998, 4, 0, api.ErrNear}, {129999, 4, 0, api.ErrNear}, {125000, 4, 12, 0},
		{0, 4, 0, api.ErrNear}, {2, 4, 0, api.ErrNear}, {3, 4, 0, 0}, {9996, 4, 0, 0}, {9997, 4, 0, api.ErrNear}, {10000, 4, 0, api.ErrNear}, {10003, 4, 1, 0},
		{0, 1, 0, api.ErrNear}, {1, 1, 0, api.ErrNear}, {2, 1, 0, api.ErrNear}, {3, 1, 0, 0}, {4, 1, 0, 0}, {5, 1, 0, 0}, {6, 1, 0, 0}, {7, 1, 0, api.ErrNear}, {8, 1, 0, api.ErrNear}, {9, 1, 0, api.ErrNear}, {10, 1, 0, api.ErrNear}, {13, 1, 1, 0},
		{top, 1, top / 10, 0}, {top, 19, 1, 0}, {top, 20, 0, 0}, {3, 3000, 0, 0}, {2, 3000, 0, api.ErrNear}, {0, 3000, 0, api.ErrNear},
	} {
		got, e := digits.Sure(one(x.v), x.g)
		if !slices.Equal(got, one(x.want)) || e != x.e {
			t.Errorf("Sure(%d, %d) = %v, %d, not %d, %d", x.v, x.g, got, e, x.want, x.e)
		}
	}
}

// TestSure: P18.2, every number of digits, and what is omitted about both boundaries, and far from them.
func TestSure(t *testing.T) {
	s := uint64(11)
	for g := 1; g <= mostPlaces; g++ {
		whole := new(big.Int).Mul(number(random(&s, g%6)), ten(g))
		for off := int64(-6); off < 7; off++ {
			v := new(big.Int).Add(whole, big.NewInt(off))
			if v.Sign() >= 0 && (g < 100 || g%97 == int(off+6) || g == mostPlaces) {
				checkSure(t, slice(v), g)
			}
		}
		checkSure(t, random(&s, g/10+g%6), g)
	}
	for v := range uint64(3000) {
		for g := 1; g < 6; g++ {
			checkSure(t, one(v), g)
		}
	}
}

// TestSureLong: P18.2, numbers of any length, and such that are not normalized.
func TestSureLong(t *testing.T) {
	s := uint64(13)
	for _, v := range [][]uint64{full(most), power(most), full(2*most + 1), random(&s, 3*most), {0}, {2, 0}, {3, 0, 0}, {120003, 0, 0, 0}, {120002, 0}, make([]uint64, 9)} {
		for _, g := range []int{1, 4, 19, 20, 1000, mostPlaces} {
			checkSure(t, v, g)
		}
	}
}

// TestSureErrors: P18.2, digits beyond the bounds, whatever the number.
func TestSureErrors(t *testing.T) {
	for _, g := range wrongNumbers(1, mostPlaces) {
		for _, v := range [][]uint64{nil, {2}, {3}, {120003}, full(200)} {
			got, e := digits.Sure(v, g)
			refused(t, "Sure", got, e, api.ErrArg)
		}
	}
}

// pointed is what the chapter tells of a number with a point.
func pointed(v *big.Int, d int) string {
	s := v.String()
	s = strings.Repeat("0", max(d+1-len(s), 0)) + s
	return s[:len(s)-d] + "." + s[len(s)-d:]
}

// checkText holds Text against that.
func checkText(t *testing.T, v []uint64, d int) {
	t.Helper()
	got, e := digits.Text(v, d)
	if want := pointed(number(v), d); got != want || e != api.OK {
		t.Fatalf("Text(%v, %d) = %q, %d, not %q", v, d, got, e, want)
	}
}

// TestTextExamples: P18.2, what the chapter tells, leading zeros on both sides of the point, and none.
func TestTextExamples(t *testing.T) {
	for _, x := range []struct {
		v    uint64
		d    int
		want string
	}{
		{31002, 3, "31.002"}, {31002, 1, "3100.2"}, {31002, 4, "3.1002"}, {31002, 5, "0.31002"}, {31002, 6, "0.031002"}, {31002, 9, "0.000031002"}, {31000, 3, "31.000"}, {0, 1, "0.0"}, {0, 5, "0.00000"}, {9, 1, "0.9"}, {10, 1, "1.0"}, {99, 2, "0.99"}, {100, 2, "1.00"}, {271828, 5, "2.71828"}, {top, 19, "1.8446744073709551615"}, {top, 20, "0.18446744073709551615"},
	} {
		if got, e := digits.Text(one(x.v), x.d); got != x.want || e != api.OK {
			t.Errorf("Text(%d, %d) = %q, %d, not %q", x.v, x.d, got, e, x.want)
		}
	}
}

// TestText: P18.2, every number of digits; numbers about powers of 10, and such that are not normalized.
func TestText(t *testing.T) {
	s := uint64(29)
	for d := 1; d <= mostPlaces; d++ {
		checkText(t, random(&s, d/40+d%9), d)
	}
	for d := 1; d < 60; d++ {
		for n := range 60 {
			for off := int64(-1); off < 2; off++ {
				checkText(t, slice(new(big.Int).Add(ten(n), big.NewInt(off))), d)
			}
		}
	}
	for _, v := range [][]uint64{{0}, {5, 0}, {31002, 0, 0}, make([]uint64, 200), append(full(200), 0)} {
		for _, d := range []int{1, 3, 1000, mostPlaces} {
			checkText(t, v, d)
		}
	}
}

// TestTextLong: P18.2, before the point there may be a number as long as layer 13 converts, and none that is longer, however long the whole is.
func TestTextLong(t *testing.T) {
	for _, d := range []int{1, 2, 1000, mostPlaces} {
		bound := new(big.Int).Mul(new(big.Int).Lsh(big.NewInt(1), maxBits), ten(d))
		checkText(t, slice(new(big.Int).Sub(bound, big.NewInt(1))), d)
		for _, v := range []*big.Int{bound, new(big.Int).Add(bound, big.NewInt(1)), new(big.Int).Lsh(bound, 1), new(big.Int).Lsh(bound, maxBits)} {
			got, e := digits.Text(slice(v), d)
			untold(t, "Text of a long number", got, e, api.ErrLong)
			for _, wrong := range []int{0, -1, mostPlaces + 1} {
				got, e = digits.Text(slice(v), wrong)
				untold(t, "Text of a long number", got, e, api.ErrArg)
			}
		}
	}
}

// TestTextErrors: P18.2, digits beyond the bounds, whatever the number.
func TestTextErrors(t *testing.T) {
	for _, d := range wrongNumbers(1, mostPlaces) {
		for _, v := range [][]uint64{nil, {1}, {31002}, full(200), full(most)} {
			got, e := digits.Text(v, d)
			untold(t, "Text", got, e, api.ErrArg)
		}
	}
}

// TestOfExamples: P18.3, digits of parts that are easily told.
func TestOfExamples(t *testing.T) {
	third, exact := part(one(3), one(1)), part(one(4), one(1))
	pi, _ := series.Sum(api.CPi, api.Range{To: 3})
	e7, _ := series.Sum(api.CE, api.Range{To: 7})
	for _, x := range []struct {
		c    int
		p    api.Part
		d, g int
		want string
		e    api.Errno
	}{
		{api.CE, third, 1, 1, "0.3", 0}, {api.CE, third, 4, 3, "0.3333", 0}, {api.CE, part(one(6), one(16)), 3, 2, "2.666", 0}, {api.CE, e7, 3, 2, "2.718", 0}, {api.CE, e7, 2, 3, "2.71", 0}, {api.CE, e7, 5, 1, "2.71805", 0},
		{api.CE, exact, 2, 3, "", api.ErrNear}, {api.CE, exact, 1, 2, "0.2", 0}, {api.CE, exact, 1, 1, "0.2", 0}, {api.CE, part(one(3), one(2)), 4, 1, "0.6666", 0},
		{api.CPi, pi, 1, 1, "3.1", 0}, {api.CPi, pi, 5, 8, "3.14159", 0}, {api.CPi, pi, 10, 8, "3.1415926535", 0}, {api.CPi, pi, 12, 1, "", api.ErrNear}, {api.CPi, pi, 12, 3, "3.141592653589", 0},
	} {
		if got, e := digits.Of(x.c, x.p, x.d, x.g); got != x.want || e != x.e {
			t.Errorf("Of(%d, %v, %d, %d) = %q, %d, not %q, %d", x.c, x.p, x.d, x.g, got, e, x.want, x.e)
		}
	}
}

// TestOf: P18.3, parts of any kind, by any digits and guard digits: it is Text of what is sure of what is scaled.
func TestOf(t *testing.T) {
	s := uint64(31)
	near := 0
	for i := range 3000 {
		c := constants()[i%2]
		p := part(random(&s, 1+i%5), random(&s, 1+i%7))
		d, g := 1+int(next(&s)>>40%40), 1+int(next(&s)>>40%3)
		if i%50 == 0 {
			d, g = 1+int(next(&s)>>40%mostAsked), 1+int(next(&s)>>40%mostAsked)
		}
		got, e := digits.Of(c, p, d, g)
		q, r := new(big.Int).QuoRem(scaled(c, p, d+g), ten(g), new(big.Int))
		if r.Cmp(big.NewInt(3)) < 0 || new(big.Int).Sub(ten(g), r).Cmp(big.NewInt(4)) < 0 {
			untold(t, "Of", got, e, api.ErrNear)
			near++
		} else if want := pointed(q, d); got != want || e != api.OK {
			t.Fatalf("Of(%d, %v, %d, %d) = %q, %d, not %q", c, p, d, g, got, e, want)
		}
	}
	if near < 100 {
		t.Errorf("only %d were near", near)
	}
	for _, c := range constants() {
		p := part(one(7), one(5))
		for _, d := range []int{1, 2, mostAsked - 1, mostAsked} {
			for _, g := range []int{1, 2, mostAsked - 1, mostAsked} {
				got, e := digits.Of(c, p, d, g)
				want := pointed(new(big.Int).Quo(scaled(c, p, d+g), ten(g)), d)
				if e != api.ErrNear && (got != want || e != api.OK) {
					t.Errorf("Of(%d, %d, %d) = %q, %d, not %q", c, d, g, got, e, want)
				}
			}
		}
	}
}

// TestOfErrors: P18.3, digits beyond the bounds first, then the errors of Scaled, of Sure and of Text, each where what comes after it would be wrong too.
func TestOfErrors(t *testing.T) {
	fine := part(one(6), one(16))
	for _, wrong := range wrongNumbers(1, mostAsked) {
		for _, c := range append(wrongConstants(), api.CE, api.CPi) {
			for _, p := range []api.Part{{}, fine, {Minus: true}, part(one(1), full(most))} {
				for _, right := range []int{1, 20, mostAsked} {
					got, e := digits.Of(c, p, wrong, right)
					untold(t, "Of", got, e, api.ErrArg)
					got, e = digits.Of(c, p, right, wrong)
					untold(t, "Of", got, e, api.ErrArg)
				}
				got, e := digits.Of(c, p, wrong, -wrong)
				untold(t, "Of", got, e, api.ErrArg)
			}
		}
	}
	for _, c := range wrongConstants() {
		for _, p := range []api.Part{{}, fine, {Minus: true}, part(one(1), full(most))} {
			got, e := digits.Of(c, p, 5, 8)
			untold(t, "Of", got, e, api.ErrWanted)
		}
	}
	for _, c := range constants() {
		got, e := digits.Of(c, api.Part{Minus: true}, mostAsked, mostAsked)
		untold(t, "Of with a sign", got, e, api.ErrArg)
		got, e = digits.Of(c, api.Part{}, mostAsked, mostAsked)
		untold(t, "Of a zero part", got, e, api.ErrZero)
	}
	got, e := digits.Of(api.CE, part(one(1), full(most+1)), 5, 8)
	untold(t, "Of a part too long to be multiplied", got, e, api.ErrLong)
	got, e = digits.Of(api.CE, part(one(1), full(most)), 5, 8) // the whole number, so that nothing is left
	untold(t, "Of a part near to a boundary and too long", got, e, api.ErrNear)
	got, e = digits.Of(api.CE, part(one(3), append(one(1), full(most-1)...)), 5, 8)
	untold(t, "Of a part too long to be converted", got, e, api.ErrLong)
}

// TestGuard: P18.3, every round, and those before the first and behind the last.
func TestGuard(t *testing.T) {
	for _, x := range []struct{ round, want int }{
		{0, 8}, {1, 16}, {2, 32}, {3, 64}, {4, 128}, {5, 128}, {9, 128}, {64, 128}, {1 << 32, 128}, {math.MaxInt, 128}, {-1, 8}, {-2, 8}, {-64, 8}, {-1 << 32, 8}, {math.MinInt, 8},
	} {
		if got := digits.Guard(x.round); got != x.want {
			t.Errorf("Guard(%d) = %d, not %d", x.round, got, x.want)
		}
	}
}

// places is how many digits of the constants the tests reckon in their own way.
const places = mostWanted + 100

// fractionsOfE is e, places digits up, by the fractions whose denominators are factorials; it is off in the last few digits.
func fractionsOfE() *big.Int {
	sum, fraction := new(big.Int), ten(places)
	for n := int64(1); fraction.Sign() > 0; n++ {
		sum.Add(sum, fraction)
		fraction.Quo(fraction, big.NewInt(n))
	}
	return sum
}

// arctangent is that of 1/n, places digits up; it is off in the last few digits.
func arctangent(n int64) *big.Int {
	sum, step := new(big.Int), new(big.Int).Quo(ten(places), big.NewInt(n))
	for k := int64(1); step.Sign() != 0; k += 2 {
		sum.Add(sum, new(big.Int).Quo(step, big.NewInt(k)))
		step.Quo(step, big.NewInt(-n*n))
	}
	return sum
}

// machinsPi is pi, places digits up, by Machin's sum of arctangents; it is off in the last few digits.
func machinsPi() *big.Int {
	sum := new(big.Int).Mul(big.NewInt(16), arctangent(5))
	return sum.Sub(sum, new(big.Int).Mul(big.NewInt(4), arctangent(239)))
}

// truth are the digits of a constant, more than are ever wanted.
func truth(t *testing.T, c int) string {
	t.Helper()
	n, known := fractionsOfE(), ofE
	if c == api.CPi {
		n, known = machinsPi(), ofPi
	}
	s := pointed(n, places)
	if !strings.HasPrefix(s, known) {
		t.Fatalf("the constant %d is not %s", c, s)
	}
	return s[:len(s)-20]
}

// TestReckonExamples: P18.3, what the chapter and the document tell.
func TestReckonExamples(t *testing.T) {
	for _, x := range []struct {
		c, d int
		want string
	}{
		{api.CE, 5, "2.71828"}, {api.CPi, 10, "3.1415926535"}, {api.CPi, 1, "3.1"}, {api.CE, 1, "2.7"}, {api.CE, 2, "2.71"}, {api.CPi, 2, "3.14"}, {api.CPi, 4, "3.1415"}, {api.CE, 100, ofE}, {api.CPi, 100, ofPi},
	} {
		if got, round, e := digits.Reckon(x.c, x.d); got != x.want || round != 0 || e != api.OK {
			t.Errorf("Reckon(%d, %d) = %q, %d, %d, not %q", x.c, x.d, got, round, e, x.want)
		}
	}
}

// roundOf is the first round whose guard digits are those of a constant at a safe distance from the boundaries.
func roundOf(c, d int) int {
	for round := range api.MaxRounds {
		g := digits.Guard(round)
		n, _ := series.Terms(c, d+g)
		sum, _ := series.Sum(c, api.Range{To: n})
		r := new(big.Int).Rem(scaled(c, sum, d+g), ten(g))
		if r.Cmp(big.NewInt(3)) >= 0 && new(big.Int).Sub(ten(g), r).Cmp(big.NewInt(4)) >= 0 {
			return round
		}
	}
	return api.MaxRounds
}

// TestReckon: P18.3 and P18.4, every number of digits there may be: they are those of the constant, truncated, so that more begin with fewer.
func TestReckon(t *testing.T) {
	for _, c := range constants() {
		want, before := truth(t, c), ""
		for d := 1; d <= mostWanted; d++ {
			got, round, e := digits.Reckon(c, d)
			if got != want[:d+2] || e != api.OK || round != roundOf(c, d) {
				t.Fatalf("Reckon(%d, %d) = %q, %d, %d, not %q", c, d, got, round, e, want[:d+2])
			}
			if !strings.HasPrefix(got, before) {
				t.Fatalf("Reckon(%d, %d) = %q does not begin with %q", c, d, got, before)
			}
			before = got
		}
	}
}

// TestReckonErrors: P18.3, constants that there are none of, and digits beyond the bounds, each with all the others.
func TestReckonErrors(t *testing.T) {
	wrong := wrongNumbers(1, mostWanted)
	for _, c := range wrongConstants() {
		for _, d := range append(wrong, 1, 5, mostWanted) {
			got, round, e := digits.Reckon(c, d)
			if untold(t, "Reckon", got, e, api.ErrWanted); round != 0 {
				t.Errorf("Reckon(%d, %d) tells the round %d", c, d, round)
			}
		}
	}
	for _, c := range constants() {
		for _, d := range wrong {
			got, round, e := digits.Reckon(c, d)
			if untold(t, "Reckon", got, e, api.ErrWanted); round != 0 {
				t.Errorf("Reckon(%d, %d) tells the round %d", c, d, round)
			}
		}
	}
}

// spare is a number with room behind it that must not be written to.
func spare(a []uint64) []uint64 { return append(slices.Clone(a), top)[:len(a)] }

// kept looks whether a number and the room behind it are as they were.
func kept(t *testing.T, name string, a, was []uint64) {
	t.Helper()
	if !slices.Equal(a, was) || a[:len(a)+1][len(a)] != top {
		t.Fatalf("%s has changed %v, which was %v", name, a[:len(a)+1], was)
	}
}

// spoil changes all words of a number, and the room behind it.
func spoil(a []uint64) {
	a = a[:cap(a)]
	for i := range a {
		a[i] = ^a[i]
	}
}

// TestKept: R3 and R4, arguments are left as they are, with the room behind them, results are new memory, and the same call has the same result.
func TestKept(t *testing.T) {
	s := uint64(37)
	for i := range 200 {
		a, b := random(&s, 1+i%9), random(&s, 1+i%4)
		if i%5 == 0 {
			b = one(1) // so that a quotient is the dividend
		}
		q, v := spare(a), spare(b)
		for _, c := range constants() {
			for _, p := range []api.Part{part(q, v), part(v, q)} {
				got, _ := digits.Scaled(c, p, i%3)
				want := slices.Clone(got)
				text, e := digits.Of(c, p, 1+i%7, 2)
				spoil(got)
				kept(t, "Scaled", q, a)
				kept(t, "Scaled", v, b)
				if got, _ = digits.Scaled(c, p, i%3); !slices.Equal(got, want) {
					t.Fatalf("Scaled(%d, %v) = %v, and then %v", c, p, want, got)
				}
				if again, wrong := digits.Of(c, p, 1+i%7, 2); again != text || wrong != e {
					t.Fatalf("Of(%d, %v) = %q, and then %q", c, p, text, again)
				}
			}
		}
		sure, _ := digits.Sure(q, 3)
		want := slices.Clone(sure)
		spoil(sure)
		kept(t, "Sure", q, a)
		if sure, _ = digits.Sure(q, 3); !slices.Equal(sure, want) {
			t.Fatalf("Sure(%v) = %v, and then %v", q, want, sure)
		}
		digits.Text(q, 5)
		kept(t, "Text", q, a)
	}
}

// TestNeverPanics: R1, parts whose numbers are not normalized.
func TestNeverPanics(t *testing.T) {
	for _, q := range [][]uint64{nil, {0}, {0, 0, 0}, {5, 0}, make([]uint64, most+1), append(full(most), 0, 0)} {
		for _, a := range [][]uint64{nil, {0}, {0, 0, 0}, {5, 0}, make([]uint64, most+1), append(full(most), 0, 0)} {
			for _, c := range constants() {
				digits.Scaled(c, part(q, a), 5)
				digits.Of(c, part(q, a), 5, 8)
			}
		}
	}
}
