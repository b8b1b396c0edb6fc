package newt_test

import (
	"math"
	"math/big"
	"slices"
	"testing"

	"tallystick/api"
	"tallystick/newt"
	"tallystick/quot"
)

const (
	top = 1<<64 - 1

	// longest is how many bits a number has that is not too long, and most how many words.
	longest = 128000
	most    = longest / 64
)

// random are n words without any pattern, the same ones in every run.
func random(n int, seed uint64) []uint64 {
	a := make([]uint64, n)
	for i := range a {
		seed = seed*6364136223846793005 + 1442695040888963407
		a[i] = seed ^ seed>>30
	}
	return a
}

// full are n words that carry as much as may be carried.
func full(n int) []uint64 { return slices.Repeat([]uint64{top}, n) }

// zeros are n words more above a number, which they leave as it is.
func zeros(a []uint64, n int) []uint64 { return slices.Concat(a, make([]uint64, n)) }

// number is that of a slice.
func number(a []uint64) *big.Int {
	n := new(big.Int)
	for _, w := range slices.Backward(a) {
		n.Lsh(n, 64).Or(n, new(big.Int).SetUint64(w))
	}
	return n
}

// slice is that of a number.
func slice(n *big.Int) []uint64 {
	var a []uint64
	for n = new(big.Int).Set(n); n.Sign() > 0; n.Rsh(n, 64) {
		a = append(a, new(big.Int).And(n, number([]uint64{top})).Uint64())
	}
	return a
}

// power is 2^n.
func power(n int) *big.Int { return new(big.Int).Lsh(big.NewInt(1), uint(n)) }

// near is n and so much more.
func near(n *big.Int, more int64) []uint64 { return slice(new(big.Int).Add(n, big.NewInt(more))) }

// is tells whether a slice is a number, and normalized.
func is(a []uint64, n *big.Int) bool {
	return len(a) == (n.BitLen()+63)/64 && number(a).Cmp(n) == 0
}

// divisors are numbers other than 0: small ones, those about powers of 2, full ones and such without any pattern; some are not normalized.
func divisors() [][]uint64 {
	var l [][]uint64
	for d := range uint64(40) {
		l = append(l, []uint64{d + 1})
	}
	for _, n := range []int{8, 27, 28, 29, 30, 31, 32, 33, 34, 56, 59, 60, 61, 63, 64, 65, 92, 96, 116, 127, 128, 129, 192, 228, 300} {
		l = append(l, near(power(n), -1), near(power(n), 0), near(power(n), 1), slice(new(big.Int).Rsh(number(random(n/64+1, uint64(n))), 3)))
	}
	for n := 1; n < 9; n++ {
		l = append(l, zeros(full(n), n%3), random(n, uint64(n)), slices.Concat(make([]uint64, n), random(1, 5)), slices.Concat(random(n, 6), []uint64{1, 0}))
	}
	return l
}

// longDivisors are numbers with as many bits as there may be, or fewer, and as great and as small as such are.
func longDivisors() [][]uint64 {
	var l [][]uint64
	for _, n := range []int{longest, longest - 1, longest - 63, longest - 64, longest / 2, longest/2 - 31, 1000} {
		l = append(l, near(power(n), -1), near(power(n-1), 0), near(power(n-1), 1), slice(new(big.Int).Rsh(number(random(n/64, uint64(n))), 1)))
	}
	return append(l, []uint64{1}, []uint64{3}, []uint64{10}, []uint64{1<<32 - 1}, []uint64{1 << 63}, []uint64{top, 0}, []uint64{1, 1}, full(3), zeros(random(9, 7), 9000))
}

// reciprocal is the quotient of 2^n and a number.
func reciprocal(d []uint64, n int) *big.Int { return new(big.Int).Quo(power(n), number(d)) }

// TestRecipExamples: P11.1, what the chapter tells, and what is easily told.
func TestRecipExamples(t *testing.T) {
	for _, x := range []struct {
		d    []uint64
		n    int
		want []uint64
		e    api.Errno
	}{
		{[]uint64{9}, 3, nil, api.OK}, {[]uint64{3}, 4, []uint64{5}, api.OK}, {[]uint64{9}, 128001, nil, api.ErrLong},
		{[]uint64{1}, 0, []uint64{1}, api.OK}, {[]uint64{2}, 0, nil, api.OK}, {full(most), 0, nil, api.OK}, {[]uint64{2, 0, 0}, 1, []uint64{1}, api.OK}, {[]uint64{3}, 1, nil, api.OK},
		{[]uint64{8}, 3, []uint64{1}, api.OK}, {[]uint64{7}, 3, []uint64{1}, api.OK}, {[]uint64{5}, 3, []uint64{1}, api.OK}, {[]uint64{4}, 3, []uint64{2}, api.OK},
		{[]uint64{1}, 130, []uint64{0, 0, 4}, api.OK}, {[]uint64{0, 1}, 130, []uint64{0, 4}, api.OK}, {[]uint64{0, 1}, 63, nil, api.OK}, {[]uint64{0, 1}, 64, []uint64{1}, api.OK},
		{[]uint64{top}, 64, []uint64{1}, api.OK}, {[]uint64{top}, 128, []uint64{1, 1}, api.OK}, {[]uint64{3}, 64, []uint64{6148914691236517205}, api.OK},
	} {
		if got, e := newt.Recip(x.d, x.n); !slices.Equal(got, x.want) || e != x.e {
			t.Errorf("Recip(%v, %d) = %v, %d, not %v, %d", x.d, x.n, got, e, x.want, x.e)
		}
	}
}

// TestRecip: P11.1, against numbers of any length: all n up to some words beyond the divisor's.
func TestRecip(t *testing.T) {
	for _, d := range divisors() {
		for n := range 600 {
			if got, e := newt.Recip(d, n); !is(got, reciprocal(d, n)) || e != api.OK {
				t.Errorf("Recip(%v, %d) = %v, %d", d, n, got, e)
			}
		}
	}
}

// TestRecipLong: P11.1, the greatest n and the longest divisors, and n about the divisor's bits and about what steps double.
func TestRecipLong(t *testing.T) {
	for _, d := range longDivisors() {
		bits := number(d).BitLen()
		l := []int{longest, longest - 1, 100, 5000, 77777}
		for _, more := range []int{-2, -1, 0, 1, 2, 26, 27, 28, 29, 30, 53, 57, 58, 113, 225, 449, 1000} {
			l = append(l, bits+more)
		}
		for _, n := range l {
			if n < 0 || n > longest {
				continue
			}
			if got, e := newt.Recip(d, n); !is(got, reciprocal(d, n)) || e != api.OK {
				t.Errorf("Recip errs for a divisor of %d bits, %v, and n = %d: %d", bits, d[0], n, e)
			}
		}
	}
}

// tooLong are numbers of more bits than there may be.
func tooLong() [][]uint64 {
	return [][]uint64{slice(power(longest)), near(power(longest), 1), zeros(slice(power(longest)), 7), full(most + 1), random(4096, 1), full(4097), random(9000, 2)}
}

// longEnough are numbers that have as many bits as there may be, some of them in many words.
func longEnough() [][]uint64 {
	return [][]uint64{full(most), slice(power(longest - 1)), zeros(full(most), 1), zeros(random(most, 3), 9000)}
}

// TestRecipRefused: P11.1, every error, and which one comes first.
func TestRecipRefused(t *testing.T) {
	negative := []int{-1, -2, -longest, -longest - 1, math.MinInt, math.MinInt + 1}
	great := []int{longest + 1, longest + 2, 1 << 32, 1<<32 + 5, math.MaxInt - 1, math.MaxInt}
	check := func(d []uint64, n int, want api.Errno) {
		t.Helper()
		if got, e := newt.Recip(d, n); len(got) != 0 || e != want {
			t.Errorf("Recip of %d words and %d: %d words, %d, not %d", len(d), n, len(got), e, want)
		}
	}
	for _, d := range [][]uint64{nil, {0}, {0, 0}, make([]uint64, most+1), make([]uint64, 9000)} {
		for _, n := range slices.Concat(negative, great, []int{0, 1, 5, longest}) {
			check(d, n, api.ErrZero)
		}
	}
	for _, d := range slices.Concat([][]uint64{{1}, {9, 0}}, longEnough(), tooLong()) {
		for _, n := range negative {
			check(d, n, api.ErrArg)
		}
		for _, n := range great {
			check(d, n, api.ErrLong)
		}
	}
	for _, d := range tooLong() {
		for _, n := range []int{0, 1, 64, longest - 1, longest} {
			check(d, n, api.ErrLong)
		}
	}
}

// step is x times what d times x lacks to 2^(n + 1), divided by 2^n; false, if d times x is above that.
func step(x, d []uint64, n int) (*big.Int, bool) {
	r := new(big.Int).Mul(number(x), number(d))
	r.Sub(power(n+1), r)
	if r.Sign() < 0 {
		return new(big.Int), false
	}
	return r.Mul(r, number(x)).Rsh(r, uint(n)), true
}

// checkStep compares a step with one of numbers of any length, whether there is one or not.
func checkStep(t *testing.T, x, d []uint64, n int) {
	t.Helper()
	want, there := step(x, d, n)
	wantE := api.OK
	if !there {
		wantE = api.ErrArg
	}
	if got, e := newt.Step(x, d, n); !is(got, want) || e != wantE {
		t.Errorf("a step errs from %d words by %d words with n = %d: %d words, %d, not %d", len(x), len(d), n, len(got), e, wantE)
	}
}

// TestStepExamples: P11.1, what the chapter tells, and steps with 0.
func TestStepExamples(t *testing.T) {
	for _, x := range []struct {
		x, d []uint64
		n    int
		want []uint64
		e    api.Errno
	}{
		{[]uint64{4}, []uint64{3}, 4, []uint64{5}, api.OK}, {[]uint64{11}, []uint64{3}, 4, nil, api.ErrArg}, {[]uint64{10}, []uint64{3}, 4, []uint64{1}, api.OK},
		{nil, nil, 0, nil, api.OK}, {[]uint64{0, 0}, []uint64{7}, 9, nil, api.OK}, {[]uint64{5, 6, 0}, []uint64{0}, 9, []uint64{10, 12}, api.OK}, {[]uint64{1 << 63}, nil, 0, []uint64{0, 1}, api.OK},
		{[]uint64{1}, []uint64{2}, 0, nil, api.OK}, {[]uint64{1}, []uint64{1}, 0, []uint64{1}, api.OK}, {[]uint64{2}, []uint64{1}, 0, nil, api.OK}, {[]uint64{3}, []uint64{1}, 0, nil, api.ErrArg},
		{[]uint64{16}, []uint64{2}, 4, nil, api.OK}, {[]uint64{17}, []uint64{2}, 4, nil, api.ErrArg}, {[]uint64{0, 2}, []uint64{0, 1}, 128, nil, api.OK}, {[]uint64{1, 2}, []uint64{0, 1}, 128, nil, api.ErrArg},
		{[]uint64{4, 0}, []uint64{3, 0, 0}, 4, []uint64{5}, api.OK}, {[]uint64{0, 1}, []uint64{1, 1}, 128, []uint64{top}, api.OK},
	} {
		if got, e := newt.Step(x.x, x.d, x.n); !slices.Equal(got, x.want) || e != x.e {
			t.Errorf("Step(%v, %v, %d) = %v, %d, not %v, %d", x.x, x.d, x.n, got, e, x.want, x.e)
		}
	}
}

// TestStep: P11.1, all small numbers, and about the greatest x for which there is a step.
func TestStep(t *testing.T) {
	for n := range 8 {
		for d := range uint64(20) {
			for x := range uint64(1)<<(n+1) + 3 {
				checkStep(t, []uint64{x}, []uint64{d}, n)
			}
		}
	}
	for _, d := range divisors() {
		for _, n := range []int{0, 1, 31, 63, 64, 65, 127, 128, 300, 400} {
			most := new(big.Int).Quo(power(n+1), number(d))
			for more := int64(-2); more <= 2; more++ {
				if most.Cmp(big.NewInt(-more)) >= 0 {
					checkStep(t, near(most, more), d, n)
				}
			}
			for _, x := range [][]uint64{{1}, {top, 0}, random(3, 8), slice(new(big.Int).Rsh(most, 1)), slice(new(big.Int).Rsh(most, 9))} {
				checkStep(t, x, d, n)
			}
		}
	}
}

// TestStepLong: P11.1, numbers as long as they may be, which lead to products of twice as many bits, and steps to their reciprocals.
func TestStepLong(t *testing.T) {
	for _, x := range longEnough() {
		for _, d := range append(longEnough(), nil, []uint64{1}, []uint64{2}, []uint64{3}) {
			checkStep(t, x, d, longest)
			checkStep(t, d, x, longest)
		}
	}
	for _, d := range longDivisors() {
		for _, n := range []int{longest - 1, longest, number(d).BitLen() + 500} {
			q := reciprocal(d, min(n, longest))
			for _, less := range []uint{1, 2, 40, 700} {
				checkStep(t, slice(new(big.Int).Rsh(q, less)), d, min(n, longest))
			}
		}
	}
}

// TestStepRefused: P11.1, every error, and which one comes first: that d times x is too great is told last.
func TestStepRefused(t *testing.T) {
	check := func(x, d []uint64, n int, want api.Errno) {
		t.Helper()
		if got, e := newt.Step(x, d, n); len(got) != 0 || e != want {
			t.Errorf("Step of %d and %d words and %d: %d words, %d, not %d", len(x), len(d), n, len(got), e, want)
		}
	}
	all := slices.Concat([][]uint64{nil, {0}, {1}, {4, 0}}, longEnough(), tooLong())
	for _, x := range all {
		for _, d := range all {
			for _, n := range []int{-1, -2, -longest - 1, math.MinInt, math.MinInt + 1} {
				check(x, d, n, api.ErrArg)
			}
			for _, n := range []int{longest + 1, 1 << 32, 1<<32 + 4, math.MaxInt - 1, math.MaxInt} {
				check(x, d, n, api.ErrLong)
			}
		}
		for _, long := range tooLong() {
			for _, n := range []int{0, 4, longest} {
				check(x, long, n, api.ErrLong)
				check(long, x, n, api.ErrLong)
			}
		}
	}
	for _, x := range longEnough() {
		for _, n := range []int{0, 4, longest - 2} {
			check(x, []uint64{1, 1}, n, api.ErrArg)
			check(x, x, longest, api.ErrArg)
		}
	}
}

// TestFromBelow: P11.3, steps from below, one after the other, stay below.
func TestFromBelow(t *testing.T) {
	for _, d := range divisors() {
		for _, n := range []int{0, 1, 9, 64, 65, 200, 301, 500} {
			q := reciprocal(d, n)
			for _, x := range [][]uint64{nil, {1}, near(q, 0), slice(new(big.Int).Rsh(q, 1)), slice(new(big.Int).Rsh(q, 33)), slice(new(big.Int).Quo(q, big.NewInt(3)))} {
				for range 600 {
					if number(x).Cmp(q) > 0 {
						break // not from below
					}
					next, e := newt.Step(x, d, n)
					if e != api.OK || number(next).Cmp(q) > 0 {
						t.Fatalf("Step(%v, %v, %d) = %v, %d: the quotient is %v", x, d, n, next, e, q)
					}
					if slices.Equal(next, x) {
						break
					}
					x = next
				}
			}
		}
	}
}

// dividends are products of a divisor and what is next to them, and other numbers.
func dividends(d []uint64) [][]uint64 {
	l := [][]uint64{nil, {0, 0}, {1}, {top, 0}, {0, 0, 1}, full(5), random(7, 9), slice(power(500)), near(power(500), -1), d}
	for _, q := range [][]uint64{{1}, {2}, {1<<32 - 1}, {top}, {1 << 63}, {0, 1}, full(2), {0, top}, {1, 0, 0, 1}, random(4, 1)} {
		p := new(big.Int).Mul(number(q), number(d))
		l = append(l, zeros(slice(p), 2), near(p, -1), near(p, 1), near(new(big.Int).Add(p, number(d)), -1))
	}
	return l
}

// checkDiv compares a quotient and a remainder with those of numbers of any length, and with those of long division, where that is asked for; so are Exact and Mod.
func checkDiv(t *testing.T, a, d []uint64, long bool) {
	t.Helper()
	wantQ, want := new(big.Int).QuoRem(number(a), number(d), new(big.Int))
	q, left, e := newt.Div(a, d)
	if !is(q, wantQ) || !is(left, want) || e != api.OK {
		t.Errorf("Div errs for %d and %d words: %d and %d words, %d", len(a), len(d), len(q), len(left), e)
	}
	if longQ, longLeft, _ := quot.Div(a, d); long && (!slices.Equal(q, longQ) || !slices.Equal(left, longLeft)) {
		t.Errorf("Div of %v and %v is not that of long division", a, d)
	}
	if left, e := newt.Mod(a, d); !is(left, want) || e != api.OK {
		t.Errorf("Mod errs for %d and %d words: %d words, %d", len(a), len(d), len(left), e)
	}
	exact, wantE := wantQ, api.OK
	if want.Sign() != 0 {
		exact, wantE = new(big.Int), api.ErrArg
	}
	if q, e := newt.Exact(a, d); !is(q, exact) || e != wantE {
		t.Errorf("Exact errs for %d and %d words: %d words, %d, not %d", len(a), len(d), len(q), e, wantE)
	}
}

// TestDivExamples: P11.2, what the chapter tells, and what is easily told.
func TestDivExamples(t *testing.T) {
	for _, x := range []struct{ a, d, q, left []uint64 }{
		{[]uint64{0, 0, 1}, []uint64{1, 1}, []uint64{top}, []uint64{1}}, {[]uint64{100}, []uint64{7}, []uint64{14}, []uint64{2}}, {[]uint64{5}, []uint64{2}, []uint64{2}, []uint64{1}},
		{[]uint64{0, 1}, []uint64{3}, []uint64{6148914691236517205}, []uint64{1}}, {nil, []uint64{1}, nil, nil}, {[]uint64{0, 0}, full(3), nil, nil}, {[]uint64{7, 0}, []uint64{7, 0, 0}, []uint64{1}, nil},
		{[]uint64{6, 0}, []uint64{7}, nil, []uint64{6}}, {[]uint64{6, 5, 0}, []uint64{1, 0}, []uint64{6, 5}, nil}, {full(4), full(2), []uint64{1, 0, 1}, nil}, {full(2), full(4), nil, full(2)},
	} {
		if q, left, e := newt.Div(x.a, x.d); !slices.Equal(q, x.q) || !slices.Equal(left, x.left) || e != api.OK {
			t.Errorf("Div(%v, %v) = %v, %v, %d, not %v, %v", x.a, x.d, q, left, e, x.q, x.left)
		}
	}
	if q, e := newt.Exact([]uint64{5}, []uint64{2}); len(q) != 0 || e != api.ErrArg {
		t.Errorf("Exact(5, 2) = %v, %d", q, e)
	}
	if left, e := newt.Mod([]uint64{5}, []uint64{2}); !slices.Equal(left, []uint64{1}) || e != api.OK {
		t.Errorf("Mod(5, 2) = %v, %d", left, e)
	}
}

// TestDiv: P11.2 and P11.3, against numbers of any length and against long division.
func TestDiv(t *testing.T) {
	for _, d := range divisors() {
		for _, a := range dividends(d) {
			checkDiv(t, a, d, true)
		}
	}
	for a := range uint64(130) {
		for d := range uint64(130) {
			checkDiv(t, []uint64{a}, []uint64{d + 1}, true)
		}
	}
}

// TestDivLong: P11.2 and P11.3, numbers as long as they may be, divided by long ones and by short ones, among them products and what is next to them.
func TestDivLong(t *testing.T) {
	for i, d := range longDivisors() {
		room := longest - number(d).BitLen()
		q := new(big.Int).Rsh(number(random(most, 4)), uint(longest-room))
		p := new(big.Int).Mul(q, number(d))
		others := [][]uint64{near(p, 1), full(most), zeros(random(most, 5), 3000)}
		l := [][]uint64{slice(p), others[i%3]}
		if p.Sign() > 0 {
			l = append(l, near(p, -1))
		}
		for _, a := range l {
			checkDiv(t, a, d, i%9 == 0)
		}
	}
}

// TestDivRefused: P11.2, every error of Div, Exact and Mod, and which one comes first.
func TestDivRefused(t *testing.T) {
	check := func(a, d []uint64, want api.Errno) {
		t.Helper()
		if q, left, e := newt.Div(a, d); len(q) != 0 || len(left) != 0 || e != want {
			t.Errorf("Div of %d and %d words: %d and %d words, %d, not %d", len(a), len(d), len(q), len(left), e, want)
		}
		if q, e := newt.Exact(a, d); len(q) != 0 || e != want {
			t.Errorf("Exact of %d and %d words: %d words, %d, not %d", len(a), len(d), len(q), e, want)
		}
		if left, e := newt.Mod(a, d); len(left) != 0 || e != want {
			t.Errorf("Mod of %d and %d words: %d words, %d, not %d", len(a), len(d), len(left), e, want)
		}
	}
	all := slices.Concat([][]uint64{nil, {0, 0}, {1}, {5}, {7, 1}}, longEnough(), tooLong())
	for _, a := range all {
		for _, d := range [][]uint64{nil, {0}, {0, 0}, make([]uint64, most+1), make([]uint64, 9000)} {
			check(a, d, api.ErrZero)
		}
		for _, d := range tooLong() {
			check(a, d, api.ErrLong)
		}
	}
	for _, a := range tooLong() {
		for _, d := range slices.Concat([][]uint64{{1}, {2, 0}, full(4)[:3], a}, longEnough()) {
			check(a, d, api.ErrLong)
		}
	}
}

// TestInverse: P11.3, a quotient times the divisor, and the remainder, are the dividend again, and the remainder is below the divisor.
func TestInverse(t *testing.T) {
	for n := 1; n < most; n += 331 {
		for m := 1; m < most; m += 457 {
			a, d := random(n, uint64(m)), random(m, uint64(n))
			q, left, e := newt.Div(a, d)
			again := new(big.Int).Mul(number(q), number(d))
			if again.Add(again, number(left)).Cmp(number(a)) != 0 || number(left).Cmp(number(d)) >= 0 || e != api.OK {
				t.Errorf("Div errs for %d and %d words: %d", n, m, e)
			}
		}
	}
}

// calls are what every function makes of two numbers.
func calls(a, d []uint64, n int) [][]uint64 {
	recip, _ := newt.Recip(d, n)
	step, _ := newt.Step(a, d, n)
	q, left, _ := newt.Div(a, d)
	exact, _ := newt.Exact(a, d)
	mod, _ := newt.Mod(a, d)
	return [][]uint64{recip, step, q, left, exact, mod}
}

// TestKept: R3 and R4, arguments are left as they are, with the room behind them; results are new memory, each for itself, and the same in every call.
func TestKept(t *testing.T) {
	const kept = 0x5555
	for _, a := range [][]uint64{nil, {0}, {1}, {6, 0}, {0, 1}, full(3), random(9, 1)} {
		for _, d := range [][]uint64{{0}, {1}, {7, 0}, {0, 1, 0}, full(2), random(5, 2), full(4), a} {
			keptA, keptD := append(slices.Clone(a), kept, kept), append(slices.Clone(d), kept, kept)
			roomA, roomD := slices.Clone(keptA), slices.Clone(keptD)
			got, want := calls(roomA[:len(a)], roomD[:len(d)], 200), calls(a, d, 200)
			for i, r := range got {
				if !slices.Equal(r, want[i]) {
					t.Fatalf("the result %d of %v and %v is %v where it was %v, or shares memory with another", i, a, d, r, want[i])
				}
				r = r[:cap(r)]
				for k := range r {
					r[k] = ^r[k]
				}
				if !slices.Equal(roomA, keptA) || !slices.Equal(roomD, keptD) {
					t.Fatalf("the result %d of %v and %v shares memory with them, or changes them: %v, %v", i, a, d, roomA, roomD)
				}
			}
		}
	}
}
