package series_test

import (
	"math"
	"math/big"
	"slices"
	"testing"

	"tallystick/api"
	"tallystick/series"
)

const (
	top  = 1<<64 - 1
	most = api.MaxLimb // how many words a number that is multiplied has at most

	mostTerm   = 100000
	mostTerms  = 2000
	mostDigits = 3000
	mostRanges = 10000
)

// constants are those that there are.
func constants() []int { return []int{api.CE, api.CPi} }

// wrongConstants are numbers that are none of a constant.
func wrongConstants() []int {
	return []int{0, 3, -1, -2, 4, 7, 257, 258, 1<<32 + 1, 1<<32 + 2, math.MinInt, math.MinInt + 1, math.MaxInt}
}

// wrongNumbers are ints that are not from 0 to last.
func wrongNumbers(last int) []int {
	return []int{-1, -2, -last, math.MinInt, math.MinInt + 1, -1 << 32, last + 1, last + 2, 2 * last, 1 << 31, 1 << 32, 1<<32 + 1, 1<<32 + last, 1 << 62, math.MaxInt - 1, math.MaxInt}
}

// next are words without any pattern, the same ones in every run.
func next(s *uint64) uint64 {
	*s = *s*6364136223846793005 + 1442695040888963407
	return *s ^ *s>>29
}

// below is a number from 0 to n - 1 without any pattern.
func below(s *uint64, n int) int { return int(next(s) >> 33 % uint64(n)) }

// random is a number of n words without any pattern, the last of which is not 0.
func random(s *uint64, n int) []uint64 {
	a := make([]uint64, n)
	for i := range a {
		a[i] = next(s)
	}
	if n > 0 {
		a[n-1] |= 1
	}
	return a
}

// full are n words that carry as much as may be carried.
func full(n int) []uint64 { return slices.Repeat([]uint64{top}, n) }

// power is 2^(64 n).
func power(n int) []uint64 { return append(make([]uint64, n), 1) }

// number is that of a slice.
func number(a []uint64) *big.Int {
	n := new(big.Int)
	for _, w := range slices.Backward(a) {
		n.Lsh(n, 64).Or(n, new(big.Int).SetUint64(w))
	}
	return n
}

// is tells whether a slice is a number, and normalized.
func is(a []uint64, n *big.Int) bool {
	return len(a) == (n.BitLen()+63)/64 && number(a).Cmp(n) == 0
}

// span is a range.
func span(from, to int) api.Range { return api.Range{From: from, To: to} }

// whole is a part in numbers of any length, the last of which has its sign.
type whole struct {
	r       api.Range
	p, q, t *big.Int
}

// wholeOf is a part as such.
func wholeOf(x api.Part) whole {
	w := whole{x.R, number(x.P), number(x.Q), number(x.T)}
	if x.Minus {
		w.t.Neg(w.t)
	}
	return w
}

// term is what the chapter tells of a term, as such.
func term(c, a int) whole {
	w := whole{span(a, a+1), big.NewInt(1), big.NewInt(int64(max(a, 1))), big.NewInt(1)}
	if c == api.CE {
		return w
	}
	n := int64(a)
	if a > 0 {
		w.p.Mul(w.p, big.NewInt(6*n-5)).Mul(w.p, big.NewInt(2*n-1)).Mul(w.p, big.NewInt(6*n-1))
		w.q.Exp(w.q, big.NewInt(3), nil).Mul(w.q, big.NewInt(10939058860032000))
	}
	w.t.Mul(w.p, big.NewInt(13591409+545140134*n))
	if a%2 == 1 {
		w.t.Neg(w.t)
	}
	return w
}

// followed are two parts together, as such.
func (x whole) followed(y whole) whole {
	times := func(a, b *big.Int) *big.Int { return new(big.Int).Mul(a, b) }
	return whole{span(x.r.From, y.r.To), times(x.p, y.p), times(x.q, y.q), new(big.Int).Add(times(y.q, x.t), times(x.p, y.t))}
}

// total are the terms of a range, joined from left to right one by one.
func total(c int, r api.Range) whole {
	w := term(c, r.From)
	for a := r.From + 1; a < r.To; a++ {
		w = w.followed(term(c, a))
	}
	return w
}

// check holds a part against what is wanted: all numbers normalized, and no sign where T is 0.
func check(t *testing.T, name string, got api.Part, e api.Errno, want whole) {
	t.Helper()
	if e != api.OK || got.R != want.r || !is(got.P, want.p) || !is(got.Q, want.q) || !is(got.T, new(big.Int).Abs(want.t)) || got.Minus != (want.t.Sign() < 0) {
		t.Fatalf("%s of %v is %v, %d, not %v", name, want.r, got, e, want)
	}
}

// refused looks whether there is nothing but an error.
func refused(t *testing.T, name string, got api.Part, e, want api.Errno) {
	t.Helper()
	if e != want || got.R != (api.Range{}) || len(got.P) != 0 || len(got.Q) != 0 || len(got.T) != 0 || got.Minus {
		t.Fatalf("%s is %v, %d, not the error %d alone", name, got, e, want)
	}
}

// equal are parts whose fields are equal.
func equal(x, y api.Part) bool {
	return x.R == y.R && x.Minus == y.Minus && slices.Equal(x.P, y.P) && slices.Equal(x.Q, y.Q) && slices.Equal(x.T, y.T)
}

// copied is a part that shares nothing with another.
func copied(x api.Part) api.Part {
	x.P, x.Q, x.T = slices.Clone(x.P), slices.Clone(x.Q), slices.Clone(x.T)
	return x
}

// spoil changes all words of a part's numbers, one number after the other, and looks whether any word is reached twice.
func spoil(t *testing.T, x api.Part) {
	t.Helper()
	want := copied(x)
	for i, a := range [][]uint64{x.P, x.Q, x.T} {
		for k := range a {
			a[k] = ^a[k]
			[][]uint64{want.P, want.Q, want.T}[i][k] = a[k]
		}
		_ = append(a, top)
		if !equal(x, want) {
			t.Fatalf("the numbers of %v share memory", want)
		}
	}
}

// TestLeafExamples: P17.1, what the chapter tells, and the first and the last terms there are.
func TestLeafExamples(t *testing.T) {
	one := []uint64{1}
	for _, x := range []struct {
		c, a    int
		p, q, t []uint64
		minus   bool
	}{
		{1, 0, one, one, one, false}, {1, 1, one, one, one, false}, {1, 2, one, []uint64{2}, one, false}, {1, 3, one, []uint64{3}, one, false}, {1, 99999, one, []uint64{99999}, one, false}, {1, 100000, one, []uint64{100000}, one, false},
		{2, 0, one, one, []uint64{13591409}, false}, {2, 1, []uint64{5}, []uint64{10939058860032000}, []uint64{2793657715}, true}, {2, 2, []uint64{231}, []uint64{87512470880256000}, []uint64{254994357387}, false},
		{2, 99999, []uint64{71996760047799769}, []uint64{9319035989807104000, 592989779000}, []uint64{13999958728422276563, 212763512982}, true},
		{2, 100000, []uint64{71998920004599995}, []uint64{12451524504050466816, 593007569049}, []uint64{7966413575881185483, 212772023767}, false},
	} {
		got, e := series.Leaf(x.c, x.a)
		if want := (api.Part{R: span(x.a, x.a+1), P: x.p, Q: x.q, T: x.t, Minus: x.minus}); !equal(got, want) || e != api.OK {
			t.Errorf("Leaf(%d, %d) = %v, %d, not %v", x.c, x.a, got, e, want)
		}
	}
}

// TestLeaf: P17.1, every term there is.
func TestLeaf(t *testing.T) {
	for _, c := range constants() {
		for a := range mostTerm + 1 {
			got, e := series.Leaf(c, a)
			check(t, "Leaf", got, e, term(c, a))
		}
	}
}

// TestLeafErrors: P17.1, constants that there are none of, whatever the term, and terms that there are none of.
func TestLeafErrors(t *testing.T) {
	for _, c := range wrongConstants() {
		for _, a := range append(wrongNumbers(mostTerm), 0, 1, 2, mostTerm) {
			got, e := series.Leaf(c, a)
			refused(t, "Leaf", got, e, api.ErrWanted)
		}
	}
	for _, c := range constants() {
		for _, a := range wrongNumbers(mostTerm) {
			got, e := series.Leaf(c, a)
			refused(t, "Leaf", got, e, api.ErrArg)
		}
	}
}

// signs are parts of a range whose T are a, each with every sign that it may have.
func signs(r api.Range, p, q, a []uint64) []api.Part {
	l := []api.Part{{R: r, P: p, Q: q, T: a}}
	if len(a) > 0 {
		l = append(l, api.Part{R: r, P: p, Q: q, T: a, Minus: true})
	}
	return l
}

// parts are those of a range whose numbers are 0, short, about the edges of words, and longer.
func parts(r api.Range) []api.Part {
	s := uint64(5)
	numbers := [][]uint64{nil, {1}, {2}, {3}, {top}, {0, 1}, {top, top}, random(&s, 5), full(9)}
	var l []api.Part
	for i, p := range numbers {
		for k, q := range numbers {
			l = append(l, signs(r, p, q, numbers[(i+k)%len(numbers)])...)
		}
	}
	return l
}

// TestJoinExamples: P17.2, what is easily told: sums and differences, either one greater, and those that are 0, which have no sign.
func TestJoinExamples(t *testing.T) {
	part := func(r api.Range, p, q, t uint64, minus bool) api.Part {
		x := api.Part{R: r, Minus: minus}
		for i, w := range []uint64{p, q, t} {
			if w > 0 {
				*[]*[]uint64{&x.P, &x.Q, &x.T}[i] = []uint64{w}
			}
		}
		return x
	}
	left, right, both := span(2, 5), span(5, 9), span(2, 9)
	for _, x := range []struct{ x, y, want api.Part }{
		{part(left, 2, 3, 5, false), part(right, 7, 11, 13, false), part(both, 14, 33, 81, false)},
		{part(left, 2, 3, 5, true), part(right, 7, 11, 13, true), part(both, 14, 33, 81, true)},
		{part(left, 2, 3, 5, false), part(right, 7, 11, 13, true), part(both, 14, 33, 29, false)},
		{part(left, 2, 3, 5, true), part(right, 7, 11, 13, false), part(both, 14, 33, 29, true)},
		{part(left, 2, 3, 1, false), part(right, 7, 11, 13, true), part(both, 14, 33, 15, true)},
		{part(left, 2, 3, 1, true), part(right, 7, 11, 13, false), part(both, 14, 33, 15, false)},
		{part(left, 3, 3, 6, true), part(right, 7, 4, 8, false), part(both, 21, 12, 0, false)},
		{part(left, 3, 3, 6, false), part(right, 7, 4, 8, true), part(both, 21, 12, 0, false)},
		{part(left, 3, 3, 0, false), part(right, 7, 4, 8, true), part(both, 21, 12, 24, true)},
		{part(left, 3, 3, 6, true), part(right, 7, 4, 0, false), part(both, 21, 12, 24, true)},
		{part(left, 0, 3, 6, true), part(right, 7, 4, 8, false), part(both, 0, 12, 24, true)},
		{part(left, 3, 3, 6, true), part(right, 7, 0, 8, false), part(both, 21, 0, 24, false)},
		{part(left, 0, 3, 6, true), part(right, 7, 0, 8, true), part(both, 0, 0, 0, false)},
		{part(left, 0, 0, 0, false), part(right, 0, 0, 0, false), part(both, 0, 0, 0, false)},
		{part(left, 3, 3, 0, false), part(right, 7, 4, 0, false), part(both, 21, 12, 0, false)},
	} {
		if got, e := series.Join(x.x, x.y); !equal(got, x.want) || e != api.OK {
			t.Errorf("Join of %v and %v is %v, %d, not %v", x.x, x.y, got, e, x.want)
		}
	}
}

// TestJoin: P17.2, any two parts, against numbers of any length.
func TestJoin(t *testing.T) {
	for _, x := range parts(span(3, 8)) {
		for _, y := range parts(span(8, 20)) {
			got, e := series.Join(x, y)
			check(t, "Join", got, e, wholeOf(x).followed(wholeOf(y)))
		}
	}
}

// TestJoinCancels: P17.2, sums that are 0, and next to 0, for long numbers too: only these have a sign.
func TestJoinCancels(t *testing.T) {
	s := uint64(9)
	for n := range 40 {
		p, q := random(&s, n+1), random(&s, n/2+1)
		for _, minus := range []bool{false, true} {
			x := api.Part{R: span(0, 1), P: p, Q: q, T: p, Minus: minus}
			y := api.Part{R: span(1, 2), P: q, Q: q, T: q, Minus: !minus}
			got, e := series.Join(x, y)
			check(t, "Join", got, e, wholeOf(x).followed(wholeOf(y)))
			if len(got.T) != 0 || got.Minus {
				t.Fatalf("T of 0: %v", got)
			}
			for _, z := range []uint64{q[0] ^ 1, q[0] ^ 1<<63} {
				y.T = append([]uint64{z}, q[1:]...)
				got, e = series.Join(x, y)
				check(t, "Join", got, e, wholeOf(x).followed(wholeOf(y)))
			}
		}
	}
}

// TestJoinRanges: P17.2, ranges that follow each other, of any kind, and such that don't.
func TestJoinRanges(t *testing.T) {
	edges := []int{math.MinInt, -9, -1, 0, 1, 4, 8, mostTerm, mostTerm + 7, math.MaxInt}
	for _, a := range edges {
		for _, b := range edges {
			for _, c := range edges {
				for _, d := range edges {
					x, y := api.Part{R: span(a, b), P: []uint64{2}, Q: []uint64{3}, T: []uint64{5}, Minus: true}, api.Part{R: span(c, d), P: []uint64{7}, Q: []uint64{11}, T: []uint64{13}}
					got, e := series.Join(x, y)
					if b != c {
						refused(t, "Join", got, e, api.ErrArg)
					} else if got.R != span(a, d) || e != api.OK || !is(got.T, big.NewInt(29)) || !got.Minus {
						t.Fatalf("Join of %v and %v is %v, %d", x, y, got, e)
					}
				}
			}
		}
	}
	for _, c := range constants() {
		for _, a := range []int{0, 1, 2, mostTerm} {
			x, _ := series.Leaf(c, a)
			got, e := series.Join(x, x)
			refused(t, "Join of a part with itself", got, e, api.ErrArg)
		}
	}
}

// TestJoinLong: P17.2, numbers as long as any that is multiplied, and each one too long, in either part, whatever the others are; ranges that don't follow each other are told first.
func TestJoinLong(t *testing.T) {
	for i, a := range [][]uint64{full(most), power(most - 1)} {
		x := api.Part{R: span(0, 1), P: a, Q: a, T: a, Minus: i == 0}
		y := api.Part{R: span(1, 2), P: a, Q: full(3), T: full(most)}
		got, e := series.Join(x, y)
		check(t, "Join", got, e, wholeOf(x).followed(wholeOf(y)))
	}
	for _, long := range [][]uint64{full(most + 1), power(most)} {
		for _, other := range [][]uint64{nil, {1}, full(most)} {
			for i := range 6 {
				x, y := api.Part{R: span(0, 1), P: other, Q: other, T: other}, api.Part{R: span(1, 2), P: other, Q: other, T: other}
				*[]*[]uint64{&x.P, &x.Q, &x.T, &y.P, &y.Q, &y.T}[i] = long
				got, e := series.Join(x, y)
				refused(t, "Join of a long number", got, e, api.ErrLong)
				y.R.From = 0
				got, e = series.Join(x, y)
				refused(t, "Join of a long number", got, e, api.ErrArg)
			}
		}
	}
}

// TestSumExamples: P17.3, what the chapter tells.
func TestSumExamples(t *testing.T) {
	for _, x := range []struct {
		c    int
		r    api.Range
		want api.Part
	}{
		{api.CE, span(0, 7), api.Part{R: span(0, 7), P: []uint64{1}, Q: []uint64{720}, T: []uint64{1957}}},
		{api.CE, span(0, 4), api.Part{R: span(0, 4), P: []uint64{1}, Q: []uint64{6}, T: []uint64{16}}},
		{api.CE, span(0, 1), api.Part{R: span(0, 1), P: []uint64{1}, Q: []uint64{1}, T: []uint64{1}}},
		{api.CE, span(3, 6), api.Part{R: span(3, 6), P: []uint64{1}, Q: []uint64{60}, T: []uint64{26}}},
		{api.CPi, span(0, 1), api.Part{R: span(0, 1), P: []uint64{1}, Q: []uint64{1}, T: []uint64{13591409}}},
		{api.CPi, span(1, 2), api.Part{R: span(1, 2), P: []uint64{5}, Q: []uint64{10939058860032000}, T: []uint64{2793657715}, Minus: true}},
	} {
		if got, e := series.Sum(x.c, x.r); !equal(got, x.want) || e != api.OK {
			t.Errorf("Sum(%d, %v) = %v, %d, not %v", x.c, x.r, got, e, x.want)
		}
	}
}

// TestSum: P17.3, ranges of every length up to 70, of the last terms too, and the longest.
func TestSum(t *testing.T) {
	for _, c := range constants() {
		for _, from := range []int{0, 1, 2, 7, 8, 1001, mostTerm - 69, mostTerm - 1, mostTerm} {
			for to := from + 1; to <= min(from+70, mostTerm+1); to++ {
				got, e := series.Sum(c, span(from, to))
				check(t, "Sum", got, e, total(c, span(from, to)))
			}
		}
		for _, r := range []api.Range{span(0, mostTerms), span(1, 1024), span(5, mostTerms+4), span(mostTerm-1022, mostTerm+1), span(mostTerm+1-mostTerms, mostTerm+1)} {
			got, e := series.Sum(c, r)
			check(t, "Sum", got, e, total(c, r))
		}
	}
}

// TestSumErrors: P17.3, the errors of Leaf, then ranges that end where there is nothing, then those that are too long.
func TestSumErrors(t *testing.T) {
	ends := []int{math.MinInt, -1, 0, 1, 2, 5, mostTerms, mostTerms + 1, mostTerm, mostTerm + 1, mostTerm + 2, math.MaxInt}
	for _, c := range wrongConstants() {
		for _, from := range ends {
			for _, to := range ends {
				got, e := series.Sum(c, span(from, to))
				refused(t, "Sum", got, e, api.ErrWanted)
			}
		}
	}
	for _, c := range constants() {
		for _, from := range wrongNumbers(mostTerm) {
			for _, to := range append(ends, from+1, from+mostTerms, from+mostTerms+1) {
				got, e := series.Sum(c, span(from, to))
				refused(t, "Sum", got, e, api.ErrArg)
			}
		}
		for _, r := range []api.Range{
			span(0, 0), span(0, -1), span(5, 5), span(5, 4), span(5, 0), span(mostTerm, mostTerm), span(mostTerm, 0), span(7, math.MinInt), span(0, math.MinInt), span(mostTerm, math.MinInt),
			span(0, mostTerm+2), span(mostTerm, mostTerm+2), span(mostTerm+2-mostTerms, mostTerm+2), span(0, 1<<31), span(0, 1<<32+1), span(1, math.MaxInt), span(mostTerm, math.MaxInt),
		} {
			got, e := series.Sum(c, r)
			refused(t, "Sum", got, e, api.ErrArg)
		}
		for _, r := range []api.Range{span(0, mostTerms+1), span(1, mostTerms+2), span(0, mostTerm+1), span(0, mostTerm), span(mostTerm-mostTerms, mostTerm+1), span(9, 50000)} {
			got, e := series.Sum(c, r)
			refused(t, "Sum", got, e, api.ErrLong)
		}
	}
}

// TestTermsOfE: P17.3, for every number of digits the least factorial that is not below the power of 10, of 1 at least.
func TestTermsOfE(t *testing.T) {
	want, factorial, bound := 1, big.NewInt(1), big.NewInt(100)
	for m := range mostDigits + 1 {
		for factorial.Cmp(bound) < 0 {
			want++
			factorial.Mul(factorial, big.NewInt(int64(want)))
		}
		if got, e := series.Terms(api.CE, m); got != want || e != api.OK {
			t.Fatalf("Terms of e for %d digits: %d, %d, not %d", m, got, e, want)
		}
		bound.Mul(bound, big.NewInt(10))
	}
}

// TestTermsExamples: P17.3, what the chapter tells, and the fewest and the most.
func TestTermsExamples(t *testing.T) {
	for _, x := range []struct{ c, m, want int }{
		{api.CE, 3, 9}, {api.CE, 0, 5}, {api.CE, 1, 7}, {api.CE, 13, 18}, {api.CE, mostDigits, 1144},
		{api.CPi, 28, 4}, {api.CPi, 0, 2}, {api.CPi, 13, 2}, {api.CPi, 14, 3}, {api.CPi, 27, 3}, {api.CPi, mostDigits, 216},
	} {
		if got, e := series.Terms(x.c, x.m); got != x.want || e != api.OK {
			t.Errorf("Terms(%d, %d) = %d, %d, not %d", x.c, x.m, got, e, x.want)
		}
	}
	for m := range mostDigits + 1 {
		if got, e := series.Terms(api.CPi, m); got != (m-m%14)/14+2 || e != api.OK {
			t.Errorf("Terms of pi for %d digits: %d, %d", m, got, e)
		}
	}
}

// TestTermsErrors: P17.3, constants that there are none of, whatever the digits, and numbers of digits beyond the bounds.
func TestTermsErrors(t *testing.T) {
	for _, c := range wrongConstants() {
		for _, m := range append(wrongNumbers(mostDigits), 0, 1, mostDigits) {
			if got, e := series.Terms(c, m); got != 0 || e != api.ErrWanted {
				t.Errorf("Terms(%d, %d) = %d, %d", c, m, got, e)
			}
		}
	}
	for _, c := range constants() {
		for _, m := range wrongNumbers(mostDigits) {
			if got, e := series.Terms(c, m); got != 0 || e != api.ErrArg {
				t.Errorf("Terms(%d, %d) = %d, %d", c, m, got, e)
			}
		}
	}
}

// TestSplitExamples: P17.3, what the chapter tells, sizes below 1, and the greatest ints there are.
func TestSplitExamples(t *testing.T) {
	for _, x := range []struct {
		r    api.Range
		size int
		want []api.Range
	}{
		{span(1, 8), 3, []api.Range{span(1, 4), span(4, 7), span(7, 8)}}, {span(0, 18), 8, []api.Range{span(0, 8), span(8, 16), span(16, 18)}},
		{span(0, 16), 8, []api.Range{span(0, 8), span(8, 16)}}, {span(0, 7), 8, []api.Range{span(0, 7)}}, {span(0, 8), 8, []api.Range{span(0, 8)}}, {span(0, 9), 8, []api.Range{span(0, 8), span(8, 9)}},
		{span(5, 7), 1, []api.Range{span(5, 6), span(6, 7)}}, {span(5, 7), 0, []api.Range{span(5, 6), span(6, 7)}}, {span(5, 7), -3, []api.Range{span(5, 6), span(6, 7)}}, {span(5, 7), math.MinInt, []api.Range{span(5, 6), span(6, 7)}},
		{span(5, 7), math.MaxInt, []api.Range{span(5, 7)}}, {span(0, math.MaxInt), math.MaxInt, []api.Range{span(0, math.MaxInt)}}, {span(0, math.MaxInt), math.MaxInt - 1, []api.Range{span(0, math.MaxInt-1), span(math.MaxInt-1, math.MaxInt)}},
		{span(math.MaxInt-3, math.MaxInt), 2, []api.Range{span(math.MaxInt-3, math.MaxInt-1), span(math.MaxInt-1, math.MaxInt)}}, {span(math.MaxInt-3, math.MaxInt), math.MaxInt, []api.Range{span(math.MaxInt-3, math.MaxInt)}},
		{span(math.MaxInt-1, math.MaxInt), 0, []api.Range{span(math.MaxInt-1, math.MaxInt)}}, {span(1<<40, 1<<42), 1 << 41, []api.Range{span(1<<40, 3<<40), span(3<<40, 1<<42)}},
	} {
		if got := series.Split(x.r, x.size); !slices.Equal(got, x.want) {
			t.Errorf("Split(%v, %d) = %v, not %v", x.r, x.size, got, x.want)
		}
	}
}

// checkSplit holds ranges against what they have to be, one by one.
func checkSplit(t *testing.T, r api.Range, size int) {
	t.Helper()
	l := series.Split(r, size)
	from := r.From
	for i, x := range l {
		to := r.To
		if i+1 < len(l) {
			to = from + max(size, 1)
		}
		if x != span(from, to) || to <= from || to-from > max(size, 1) {
			t.Fatalf("Split(%v, %d): the range %d is %v", r, size, i, x)
		}
		from = to
	}
	if from != r.To {
		t.Fatalf("Split(%v, %d) ends with %d", r, size, from)
	}
}

// TestSplit: P17.3, ranges and sizes of any kind.
func TestSplit(t *testing.T) {
	for from := range 12 {
		for to := from + 1; to < 60; to++ {
			for size := -2; size < 62; size++ {
				checkSplit(t, span(from, to), size)
			}
		}
	}
	s := uint64(3)
	for range 200 {
		from := below(&s, 1<<20)
		to := from + 1 + below(&s, 100000)
		checkSplit(t, span(from, to), (to-from)/mostRanges+1+below(&s, 50))
	}
}

// TestSplitMany: P17.3, as many ranges as there may be, and one more: then there are none.
func TestSplitMany(t *testing.T) {
	for _, from := range []int{0, 1, 12345, math.MaxInt - 40*mostRanges} {
		for _, size := range []int{math.MinInt, -1, 0, 1, 2, 3, 7, 8, 40} {
			width := max(size, 1)
			for _, n := range []int{width*mostRanges - 1, width * mostRanges} {
				checkSplit(t, span(from, from+n), size)
				if got := len(series.Split(span(from, from+n), size)); got < mostRanges-1 || got > mostRanges {
					t.Errorf("Split of %d in %d: %d ranges", n, size, got)
				}
			}
			if width == 40 && from > 12345 {
				continue // there are no greater numbers
			}
			for _, n := range []int{width*mostRanges + 1, width*mostRanges + 2} {
				if got := series.Split(span(from, from+n), size); len(got) != 0 {
					t.Errorf("Split of %d in %d: %d ranges", n, size, len(got))
				}
			}
		}
	}
	for _, x := range []struct{ from, to, size int }{
		{0, math.MaxInt, 1}, {0, math.MaxInt, 0}, {0, math.MaxInt, 8}, {0, math.MaxInt, math.MaxInt/mostRanges - 1}, {1, math.MaxInt, 1 << 32}, {0, 1 << 32, 1}, {0, 1<<32 + 5, 1},
	} {
		if got := series.Split(span(x.from, x.to), x.size); len(got) != 0 {
			t.Errorf("Split of %v: %d ranges", x, len(got))
		}
	}
	checkSplit(t, span(0, math.MaxInt), math.MaxInt/mostRanges+1)
}

// TestSplitNothing: P17.3, ranges that begin below 0, and such that have nothing in them.
func TestSplitNothing(t *testing.T) {
	for _, r := range []api.Range{
		span(-1, 8), span(-1, 0), span(-8, -1), span(math.MinInt, math.MaxInt), span(math.MinInt, 5), span(math.MinInt, math.MinInt+1), span(-1, math.MaxInt),
		span(0, 0), span(5, 5), span(5, 4), span(5, -5), span(0, -1), span(0, math.MinInt), span(math.MaxInt, math.MinInt), span(math.MaxInt, math.MaxInt), span(math.MaxInt, 0), span(1<<32, 1),
	} {
		for _, size := range []int{math.MinInt, -1, 0, 1, 3, 8, 1 << 32, math.MaxInt - 1, math.MaxInt} {
			if got := series.Split(r, size); len(got) != 0 {
				t.Errorf("Split(%v, %d) = %v", r, size, got)
			}
		}
	}
}

// joined are parts that follow each other, joined in any order.
func joined(t *testing.T, s *uint64, l []api.Part) api.Part {
	t.Helper()
	l = slices.Clone(l)
	for len(l) > 1 {
		i := below(s, len(l)-1)
		both, e := series.Join(l[i], l[i+1])
		if e != api.OK {
			t.Fatalf("Join of %v and %v: %d", l[i].R, l[i+1].R, e)
		}
		l = slices.Replace(l, i, i+2, both)
	}
	return l[0]
}

// TestAnyOrder: P17.4, terms of all kinds, joined in any order one by one, and by sums of pieces of any size: the result is always that of Sum.
func TestAnyOrder(t *testing.T) {
	s := uint64(17)
	for i := range 300 {
		c := constants()[i%2]
		from := []int{0, 1, below(&s, mostTerm-100)}[i%3]
		r := span(from, from+1+below(&s, 90))
		want, e := series.Sum(c, r)
		check(t, "Sum", want, e, total(c, r))
		for _, size := range []int{1, 2, 3, 8, 1 + below(&s, 40), 90} {
			var l []api.Part
			for _, piece := range series.Split(r, size) {
				p, e := series.Sum(c, piece)
				if e != api.OK {
					t.Fatalf("Sum(%d, %v): %d", c, piece, e)
				}
				l = append(l, p)
			}
			if got := joined(t, &s, l); !equal(got, want) {
				t.Fatalf("the terms %v of %d in pieces of %d make %v, not %v", r, c, size, got, want)
			}
		}
	}
}

// TestAnyParts: P17.4, parts that are none of a series, whose sums may be 0, joined in every order.
func TestAnyParts(t *testing.T) {
	s := uint64(23)
	few := [][]uint64{nil, {1}, {1}, {2}, {3}, {top}, {0, 1}}
	anyPart := func(from int) api.Part {
		x := api.Part{R: span(from, from+1+below(&s, 3))}
		x.P, x.Q, x.T = few[below(&s, len(few))], few[below(&s, len(few))], few[below(&s, len(few))]
		x.Minus = len(x.T) > 0 && below(&s, 2) == 1
		return x
	}
	for range 3000 {
		l := []api.Part{anyPart(below(&s, 9))}
		want := wholeOf(l[0])
		for range below(&s, 7) {
			next := anyPart(l[len(l)-1].R.To)
			l, want = append(l, next), want.followed(wholeOf(next))
		}
		for range 5 {
			check(t, "what is joined", joined(t, &s, l), api.OK, want)
		}
	}
}

// TestLongSums: P17.4, pieces of the longest range there is, which are joined beyond what Sum takes, as long as no factor is too long.
func TestLongSums(t *testing.T) {
	for _, c := range constants() {
		x, _ := series.Sum(c, span(0, mostTerms))
		y, _ := series.Sum(c, span(mostTerms, mostTerms+900))
		z, e := series.Join(x, y)
		check(t, "Join", z, e, wholeOf(x).followed(wholeOf(y)))
		left, _ := series.Sum(c, span(0, 1000))
		right, _ := series.Sum(c, span(1000, mostTerms))
		both, e := series.Join(left, right)
		if !equal(both, x) || e != api.OK {
			t.Errorf("the halves of the longest range of %d make other numbers: %d", c, e)
		}
	}
}

// TestConstants: P17.3, the terms that Terms tells are enough for the digits: what they make of e and of pi is not off by a digit behind the last one.
func TestConstants(t *testing.T) {
	for _, x := range []struct {
		c, m int
		want string
	}{
		{api.CE, 60, "2718281828459045235360287471352662497757247093699959574966967"}, {api.CE, 20, "271828182845904523536"}, {api.CE, 0, "2"}, {api.CE, 7, "27182818"},
		{api.CPi, 60, "3141592653589793238462643383279502884197169399375105820974944"}, {api.CPi, 20, "314159265358979323846"}, {api.CPi, 0, "3"}, {api.CPi, 13, "31415926535897"}, {api.CPi, 14, "314159265358979"},
	} {
		n, e := series.Terms(x.c, x.m)
		if e != api.OK {
			t.Fatal(e)
		}
		sum, _ := series.Sum(x.c, span(0, n))
		w := wholeOf(sum)
		scale := new(big.Int).Exp(big.NewInt(10), big.NewInt(int64(x.m)), nil)
		got := new(big.Int).Quo(new(big.Int).Mul(w.t, scale), w.q)
		if x.c == api.CPi {
			root := new(big.Int).Sqrt(scale.Mul(scale, scale).Mul(scale, big.NewInt(10005)))
			got.Quo(root.Mul(root, big.NewInt(426880)).Mul(root, w.q), w.t)
		}
		want, _ := new(big.Int).SetString(x.want, 10)
		if off := got.Sub(got, want); off.CmpAbs(big.NewInt(1)) > 0 {
			t.Errorf("%d terms of %d are off by %v for %d digits", n, x.c, off, x.m)
		}
	}
}

// TestKept: R3, arguments are left as they are, with the room behind their numbers, and results are new memory, each for itself.
func TestKept(t *testing.T) {
	for _, x := range parts(span(3, 8))[40:80] {
		for _, y := range parts(span(8, 20)) {
			roomX, roomY := copied(x), copied(y)
			for _, a := range []*[]uint64{&roomX.P, &roomX.Q, &roomX.T, &roomY.P, &roomY.Q, &roomY.T} {
				*a = append(*a, top)[:len(*a)]
			}
			got, _ := series.Join(roomX, roomY)
			want := copied(got)
			spoil(t, got)
			if !equal(roomX, x) || !equal(roomY, y) {
				t.Fatalf("Join of %v and %v shares memory with them", x, y)
			}
			for _, a := range [][]uint64{roomX.P, roomX.Q, roomX.T, roomY.P, roomY.Q, roomY.T} {
				if a[:len(a)+1][len(a)] != top {
					t.Fatalf("Join of %v and %v writes behind its arguments", x, y)
				}
			}
			if again, _ := series.Join(roomX, roomY); !equal(again, want) {
				t.Fatalf("Join of %v and %v: %v, and then %v", x, y, want, again)
			}
		}
	}
}

// TestAlways: R3 and R4, the same answers for the same arguments, whatever was made of the answers before.
func TestAlways(t *testing.T) {
	for _, c := range constants() {
		for _, r := range []api.Range{span(0, 1), span(1, 2), span(0, 5), span(100, 164)} {
			leaf, _ := series.Leaf(c, r.From)
			sum, _ := series.Sum(c, r)
			wantLeaf, wantSum, wantSplit := copied(leaf), copied(sum), series.Split(r, 3)
			spoil(t, leaf)
			spoil(t, sum)
			clear(series.Split(r, 3))
			again, _ := series.Leaf(c, r.From)
			sums, _ := series.Sum(c, r)
			if !equal(again, wantLeaf) || !equal(sums, wantSum) || !slices.Equal(series.Split(r, 3), wantSplit) {
				t.Errorf("Leaf, Sum or Split of %d and %v have changed: %v, %v", c, r, again, sums)
			}
		}
	}
}

// TestNeverPanics: R1, parts whose numbers are not normalized, or have a sign though they are 0.
func TestNeverPanics(t *testing.T) {
	for _, a := range [][]uint64{{0}, {0, 0, 0}, {5, 0}, make([]uint64, most+1), append(full(most), 0, 0)} {
		for _, minus := range []bool{false, true} {
			x := api.Part{R: span(0, 1), P: a, Q: a, T: a, Minus: minus}
			y := api.Part{R: span(1, 2), P: []uint64{1}, Q: a, T: nil, Minus: !minus}
			series.Join(x, y)
			series.Join(y, x)
			y.R, x.R = x.R, y.R
			series.Join(y, x)
		}
	}
}
