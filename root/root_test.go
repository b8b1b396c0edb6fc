package root_test

import (
	"math/big"
	"slices"
	"testing"

	"tallystick/api"
	"tallystick/nat"
	"tallystick/root"
)

const top = 1<<64 - 1

// random are n words without any pattern, the same ones in every run.
func random(n int, seed uint64) []uint64 {
	a := make([]uint64, n)
	for i := range a {
		seed = seed*6364136223846793005 + 1442695040888963407
		a[i] = seed ^ seed>>30
	}
	return a
}

// full are n words that carry as much as may be carried.
func full(n int) []uint64 { return slices.Repeat([]uint64{top}, n) }

// zeros are n words more above a number, which they leave as it is.
func zeros(a []uint64, n int) []uint64 { return slices.Concat(a, make([]uint64, n)) }

// number is that of a slice.
func number(a []uint64) *big.Int {
	n := new(big.Int)
	for _, w := range slices.Backward(a) {
		n.Lsh(n, 64).Or(n, new(big.Int).SetUint64(w))
	}
	return n
}

// slice is that of a number.
func slice(n *big.Int) []uint64 {
	var a []uint64
	for n = new(big.Int).Set(n); n.Sign() > 0; n.Rsh(n, 64) {
		a = append(a, new(big.Int).And(n, number([]uint64{top})).Uint64())
	}
	return a
}

// power is 2^n.
func power(n int) *big.Int { return new(big.Int).Lsh(big.NewInt(1), uint(n)) }

// ten is 10^n.
func ten(n int64) *big.Int { return new(big.Int).Exp(big.NewInt(10), big.NewInt(n), nil) }

// square is n times itself.
func square(n *big.Int) *big.Int { return new(big.Int).Mul(n, n) }

// near is n and so much more; 0, if that would be negative.
func near(n *big.Int, more int64) []uint64 {
	return slice(new(big.Int).Add(n, big.NewInt(more)))
}

// is tells whether a slice is a number, and normalized.
func is(a []uint64, n *big.Int) bool {
	return len(a) == (n.BitLen()+63)/64 && number(a).Cmp(n) == 0
}

// roots are numbers whose squares have the greatest and the smallest words there are, those about powers of 2, and such without any pattern.
func roots() []*big.Int {
	var l []*big.Int
	for n := range 300 {
		one := big.NewInt(1)
		l = append(l, power(n), new(big.Int).Sub(power(n), one), new(big.Int).Add(power(n), one))
	}
	for n := 1; n < 40; n++ {
		l = append(l, number(full(n)), number(random(n, uint64(n))), number(slices.Concat(make([]uint64, n), random(1, 5))), number(slices.Concat(random(n, 6), []uint64{1})), number(slices.Concat([]uint64{1}, make([]uint64, n), []uint64{1 << 63})))
	}
	for n := range int64(60) {
		l = append(l, ten(n*7))
	}
	return l
}

// numbers are short ones and longer ones, about powers of 2, full ones and such without any pattern; some are not normalized.
func numbers() [][]uint64 {
	l := [][]uint64{nil, {}, {0}, {0, 0, 0}, {1}, {2, 0}, {3}, {top, 0, 0}, {0, 1 << 63}, {0, 0, 3, 0}}
	for n := range 700 {
		l = append(l, near(power(n), -1), near(power(n), 0), near(power(n), 1))
	}
	for n := 1; n < 60; n++ {
		for cut := range uint(4) {
			l = append(l, slice(new(big.Int).Rsh(number(random(n, uint64(n))), 17*cut)))
		}
		l = append(l, zeros(full(n), n%3), slices.Concat(full(n), []uint64{1}), zeros(slices.Concat(make([]uint64, n), random(1, 7)), n%4), slices.Concat(random(n, 8), []uint64{1, 0}))
	}
	return l
}

// longest are numbers as long as any that is multiplied, squares of such, and longer ones.
func longest() [][]uint64 {
	const n = api.MaxLimb
	x := number(random(n/2, 1))
	return [][]uint64{
		full(n), random(n, 2), slice(power(64*n - 1)), near(power(64*n-2), -1), slice(square(x)), near(square(x), -1), near(square(x), 1), zeros(random(n-1, 3), n),
		slices.Concat([]uint64{1}, make([]uint64, n-2), []uint64{1}), slice(square(number(full(n)))), random(2*n+1, 4), slice(new(big.Int).Mul(big.NewInt(10005), ten(6000))),
	}
}

// check compares a root and what is left with those of numbers of any length, and asks whether they are what a root is.
func check(t *testing.T, a []uint64) {
	t.Helper()
	n := number(a)
	want := new(big.Int).Sqrt(n)
	rest := new(big.Int).Sub(n, square(want))
	x, left := root.Sqrt(a)
	if !is(x, want) || !is(left, rest) {
		t.Errorf("Sqrt errs for %d words: %d and %d words", len(a), len(x), len(left))
	}
	if square(number(near(number(x), 1))).Cmp(n) <= 0 || square(number(x)).Cmp(n) > 0 {
		t.Errorf("Sqrt of %d words is not the greatest number whose square is not above them", len(a))
	}
	if got := root.Whole(a); got != (rest.Sign() == 0) {
		t.Errorf("Whole of %d words is %t", len(a), got)
	}
}

// TestSqrtExamples: P12.1, what the chapter tells, and what is easily told.
func TestSqrtExamples(t *testing.T) {
	for _, x := range []struct{ a, x, left []uint64 }{
		{[]uint64{0, 0, 1}, []uint64{0, 1}, nil}, {[]uint64{10}, []uint64{3}, []uint64{1}},
		{nil, nil, nil}, {[]uint64{0, 0}, nil, nil}, {[]uint64{1, 0}, []uint64{1}, nil}, {[]uint64{2}, []uint64{1}, []uint64{1}}, {[]uint64{3, 0, 0}, []uint64{1}, []uint64{2}}, {[]uint64{4}, []uint64{2}, nil},
		{[]uint64{8}, []uint64{2}, []uint64{4}}, {[]uint64{9}, []uint64{3}, nil}, {[]uint64{15}, []uint64{3}, []uint64{6}}, {[]uint64{49}, []uint64{7}, nil}, {[]uint64{50}, []uint64{7}, []uint64{1}},
		{[]uint64{top}, []uint64{1<<32 - 1}, []uint64{1<<33 - 2}}, {[]uint64{0, 1}, []uint64{1 << 32}, nil}, {[]uint64{1, 1}, []uint64{1 << 32}, []uint64{1}}, {[]uint64{1, top - 1}, []uint64{top}, nil},
		{full(2), []uint64{top}, []uint64{top - 1, 1}}, {[]uint64{0, top - 1}, []uint64{top - 1}, []uint64{top - 3, 1}}, {[]uint64{5, 0, 1, 0}, []uint64{0, 1}, []uint64{5}}, {[]uint64{1, 0, top - 1, top}, full(2), []uint64{}},
	} {
		if got, left := root.Sqrt(x.a); !slices.Equal(got, x.x) || !slices.Equal(left, x.left) {
			t.Errorf("Sqrt(%v) = %v, %v, not %v, %v", x.a, got, left, x.x, x.left)
		}
	}
}

// TestSqrt: P12.1, all small numbers, and others against numbers of any length.
func TestSqrt(t *testing.T) {
	for a := range uint64(20000) {
		check(t, []uint64{a})
	}
	for _, a := range numbers() {
		check(t, a)
	}
}

// TestSquares: P12.1, squares and what is next to them, and to the squares after them: where a root is as great or as small as it may be.
func TestSquares(t *testing.T) {
	for _, x := range roots() {
		a := square(x)
		next := square(new(big.Int).Add(x, big.NewInt(1)))
		for more := int64(-2); more <= 2; more++ {
			if a.Cmp(big.NewInt(-more)) >= 0 {
				check(t, near(a, more))
			}
			check(t, zeros(near(next, more-3), int(more+2)))
		}
		check(t, slice(new(big.Int).Add(a, x)))
	}
}

// TestLong: P12.1, numbers as long as any that is multiplied, and longer ones.
func TestLong(t *testing.T) {
	for _, a := range longest() {
		check(t, a)
	}
}

// TestWhole: P12.1, the chapter's examples, 0 and 1, and squares of one word and of more, with words above them that are 0.
func TestWhole(t *testing.T) {
	for _, x := range []struct {
		a    []uint64
		want bool
	}{
		{[]uint64{49}, true}, {[]uint64{50}, false}, {[]uint64{48}, false}, {nil, true}, {[]uint64{0, 0}, true}, {[]uint64{1}, true}, {[]uint64{2}, false}, {[]uint64{3}, false}, {[]uint64{4, 0}, true},
		{[]uint64{top}, false}, {[]uint64{0, 1}, true}, {[]uint64{0, 2}, false}, {[]uint64{0, 4, 0}, true}, {[]uint64{1, 1}, false}, {[]uint64{1, top - 1}, true}, {[]uint64{1, top}, false}, {full(2), false}, {[]uint64{0, 0, 9}, true}, {[]uint64{0, 9, 9}, false},
	} {
		if got := root.Whole(x.a); got != x.want {
			t.Errorf("Whole(%v) = %t", x.a, got)
		}
	}
	squares := 0
	for a := range uint64(10000) {
		if root.Whole([]uint64{a}) {
			squares++
		}
	}
	if squares != 100 {
		t.Errorf("%d of the numbers below 10000 are squares", squares)
	}
}

// TestWord: P12.1, all small words, those about squares, and those about powers of 2, each with the root that Sqrt has.
func TestWord(t *testing.T) {
	for _, x := range [][2]uint64{{0, 0}, {1, 1}, {2, 1}, {3, 1}, {4, 2}, {10, 3}, {49, 7}, {50, 7}, {1<<32 - 1, 1<<16 - 1}, {1 << 32, 1 << 16}, {1<<63 - 1, 3037000499}, {1 << 63, 3037000499}, {top, 1<<32 - 1}, {top - 1<<33 + 2, 1<<32 - 1}, {top - 1<<33 + 1, 1<<32 - 2}} {
		if got := root.Word(x[0]); got != x[1] {
			t.Errorf("Word(%d) = %d, not %d", x[0], got, x[1])
		}
	}
	checkWord := func(a uint64) {
		x, _ := root.Sqrt([]uint64{a})
		want := new(big.Int).Sqrt(new(big.Int).SetUint64(a))
		if got := root.Word(a); got != want.Uint64() || !is(x, want) {
			t.Errorf("Word(%d) = %d, not %d", a, got, want)
		}
	}
	for n := range uint64(3000) {
		checkWord(n)
		checkWord(top - n)
		for _, x := range []uint64{n, 1<<16 - n - 1, 1<<16 + n, 1<<31 - n, 1<<31 + n, 1<<32 - n - 1, random(1, n)[0] >> 32} {
			checkWord(x * x)
			checkWord(x*x - 1)
			checkWord(x*x + 2*x)
		}
	}
	for n := range 64 {
		for more := range uint64(5) {
			checkWord(1<<n - more)
			checkWord(1<<n + more)
		}
	}
}

// TestFirst: P12.2, the chapter's example, 0, which has no bits, and every number of bits.
func TestFirst(t *testing.T) {
	for _, x := range []struct{ a, want []uint64 }{
		{[]uint64{5}, []uint64{4}}, {nil, []uint64{1}}, {[]uint64{0, 0}, []uint64{1}}, {[]uint64{1}, []uint64{2}}, {[]uint64{2}, []uint64{2}}, {[]uint64{3, 0}, []uint64{2}}, {[]uint64{4}, []uint64{4}}, {[]uint64{8}, []uint64{4}}, {[]uint64{15, 0, 0}, []uint64{4}}, {[]uint64{16}, []uint64{8}},
		{[]uint64{top}, []uint64{1 << 32}}, {[]uint64{0, 1}, []uint64{1 << 33}}, {full(2), []uint64{0, 1}}, {[]uint64{0, 0, 1}, []uint64{0, 2}},
	} {
		if got := root.First(x.a); !slices.Equal(got, x.want) {
			t.Errorf("First(%v) = %v, not %v", x.a, got, x.want)
		}
	}
	for _, a := range append(numbers(), longest()...) {
		n := number(a)
		if got := root.First(a); !is(got, power((n.BitLen()+1)/2)) || number(got).Cmp(new(big.Int).Sqrt(n)) < 0 {
			t.Errorf("First errs for a number of %d bits", n.BitLen())
		}
	}
}

// stepped is the step of numbers of any length.
func stepped(x, a *big.Int) *big.Int {
	q := new(big.Int).Quo(a, x)
	return q.Rsh(q.Add(q, x), 1)
}

// checkStep compares a step with that of numbers of any length.
func checkStep(t *testing.T, x, a []uint64) {
	t.Helper()
	want, wantE := new(big.Int), api.ErrZero
	if number(x).Sign() > 0 {
		want, wantE = stepped(number(x), number(a)), api.OK
	}
	if got, e := root.Step(x, a); !is(got, want) || e != wantE {
		t.Errorf("Step of %d and %d words: %d words, %d, not %d", len(x), len(a), len(got), e, wantE)
	}
}

// TestStepExamples: P12.2, what the chapter tells, sums that are odd, and steps from 0, which there are not.
func TestStepExamples(t *testing.T) {
	for _, x := range []struct {
		x, a, want []uint64
		e          api.Errno
	}{
		{[]uint64{4}, []uint64{10}, []uint64{3}, api.OK}, {[]uint64{3}, []uint64{10}, []uint64{3}, api.OK}, {[]uint64{1}, []uint64{3}, []uint64{2}, api.OK}, {[]uint64{1}, []uint64{2}, []uint64{1}, api.OK}, {[]uint64{1, 0}, []uint64{1}, []uint64{1}, api.OK}, {[]uint64{9}, []uint64{0}, []uint64{4}, api.OK}, {[]uint64{1}, nil, nil, api.OK},
		{[]uint64{2, 0}, []uint64{7, 0, 0}, []uint64{2}, api.OK}, {[]uint64{0, 1}, []uint64{0, 0, 1}, []uint64{0, 1}, api.OK}, {[]uint64{1}, []uint64{top}, []uint64{1 << 63}, api.OK}, {[]uint64{1}, full(2), []uint64{0, 1 << 63}, api.OK}, {[]uint64{top}, []uint64{top}, []uint64{1 << 63}, api.OK}, {[]uint64{0, 6}, []uint64{5}, []uint64{0, 3}, api.OK}, {[]uint64{0, 7}, []uint64{5}, []uint64{1 << 63, 3}, api.OK},
		{nil, []uint64{10}, nil, api.ErrZero}, {[]uint64{0, 0}, []uint64{10}, nil, api.ErrZero}, {nil, nil, nil, api.ErrZero}, {[]uint64{0}, []uint64{0, 0}, nil, api.ErrZero}, {[]uint64{0}, full(9), nil, api.ErrZero},
	} {
		if got, e := root.Step(x.x, x.a); !slices.Equal(got, x.want) || e != x.e {
			t.Errorf("Step(%v, %v) = %v, %d, not %v, %d", x.x, x.a, got, e, x.want, x.e)
		}
	}
}

// TestStep: P12.2, all small numbers, and others against numbers of any length.
func TestStep(t *testing.T) {
	for x := range uint64(150) {
		for a := range uint64(300) {
			checkStep(t, []uint64{x}, []uint64{a})
		}
	}
	all := numbers()
	for i, x := range all {
		for k := i % 97; k < len(all); k += 97 {
			checkStep(t, x, all[k])
		}
	}
	for _, a := range longest() {
		for _, x := range [][]uint64{nil, {0, 0}, {1}, {top, 0}, full(3), random(2000, 9), random(4096, 9), a} {
			checkStep(t, x, a)
		}
	}
}

// TestDown: P12.3, steps from the root and from what is above it, near to it and far off, one after the other: none goes below the root, and each but those from the root leads down.
func TestDown(t *testing.T) {
	for i, a := range numbers() {
		n := new(big.Int).Sqrt(number(a))
		from := [][]uint64{near(n, 0), near(n, 1), near(n, 2), near(n, 1000), slice(new(big.Int).Mul(n, big.NewInt(3))), root.First(a)}
		if i%23 == 0 { // these take a step a bit
			from = append(from, a, zeros(near(number(a), 5), 2))
		}
		for _, x := range from {
			down(t, x, a, n)
		}
	}
	for a := range uint64(400) {
		for x := root.Word(a); x < 400; x++ {
			down(t, []uint64{x}, []uint64{a}, new(big.Int).SetUint64(root.Word(a)))
		}
	}
}

// down takes steps from x, which is not below n, the root of a, until there is none that is nearer.
func down(t *testing.T, x, a []uint64, n *big.Int) {
	t.Helper()
	for number(x).Cmp(n) > 0 {
		next, e := root.Step(x, a)
		if e != api.OK || number(next).Cmp(n) < 0 || nat.Cmp(next, x) >= 0 {
			t.Fatalf("Step(%v, %v) = %v, %d: the root is %d", x, a, next, e, n)
		}
		x = next
	}
	if next, e := root.Step(x, a); n.Sign() > 0 && (e != api.OK || number(next).Cmp(n) < 0) {
		t.Fatalf("Step(%v, %v) = %v, %d: the root is %d", x, a, next, e, n)
	}
}

// calls are what every function makes of two numbers.
func calls(x, a []uint64) [][]uint64 {
	r, left := root.Sqrt(a)
	step, _ := root.Step(x, a)
	root.Whole(a)
	return [][]uint64{r, left, step, root.First(a)}
}

// TestKept: R3 and R4, arguments are left as they are, with the room behind them; results are new memory, each for itself, and the same in every call.
func TestKept(t *testing.T) {
	const kept = 0x5555
	for _, a := range [][]uint64{nil, {0}, {1}, {10, 0}, {0, 0, 1}, full(3), random(9, 1), zeros(random(40, 2), 1)} {
		for _, x := range [][]uint64{{0}, {1}, {7, 0}, {0, 1, 0}, full(2), random(5, 2), a} {
			keptX, keptA := append(slices.Clone(x), kept, kept), append(slices.Clone(a), kept, kept)
			roomX, roomA := slices.Clone(keptX), slices.Clone(keptA)
			got, want := calls(roomX[:len(x)], roomA[:len(a)]), calls(x, a)
			for i, r := range got {
				if !slices.Equal(r, want[i]) {
					t.Fatalf("the result %d of %v and %v is %v where it was %v, or shares memory with another", i, x, a, r, want[i])
				}
				r = r[:cap(r)]
				for k := range r {
					r[k] = ^r[k]
				}
				if !slices.Equal(roomX, keptX) || !slices.Equal(roomA, keptA) {
					t.Fatalf("the result %d of %v and %v shares memory with them, or changes them: %v, %v", i, x, a, roomX, roomA)
				}
			}
		}
	}
}
