package plan_test

import (
	"math"
	"math/big"
	"slices"
	"strings"
	"testing"

	"tallystick/api"
	"tallystick/digits"
	"tallystick/plan"
	"tallystick/series"
)

const (
	top  = 1<<64 - 1
	most = api.MaxLimb // how many words a number that is multiplied has at most

	mostPlaces = 3000
	mostAsked  = 1500
	mostWanted = 1000
)

// The first hundred digits of the two constants.
const (
	ofE  = "2.7182818284590452353602874713526624977572470936999595749669676277240766303535475945713821785251664274"
	ofPi = "3.1415926535897932384626433832795028841971693993751058209749445923078164062862089986280348253421170679"
)

// constants are those that there are.
func constants() []int { return []int{api.CE, api.CPi} }

// wrongConstants are numbers that are none of a constant.
func wrongConstants() []int {
	return []int{0, 3, -1, -2, 4, 257, 258, 1<<32 + 1, 1<<32 + 2, math.MinInt, math.MinInt + 1, math.MaxInt}
}

// wrongNumbers are ints that are not from first to last.
func wrongNumbers(first, last int) []int {
	return []int{first - 1, first - 2, -last, math.MinInt, math.MinInt + 1, -1 << 32, last + 1, last + 2, 2 * last, 1 << 31, 1<<32 + 1, 1<<32 + last, 1 << 62, math.MaxInt - 1, math.MaxInt}
}

// next are words without any pattern, the same ones in every run.
func next(s *uint64) uint64 {
	*s = *s*6364136223846793005 + 1442695040888963407
	return *s ^ *s>>29
}

// below is a number from 0 to n - 1 without any pattern.
func below(s *uint64, n int) int { return int(next(s) >> 33 % uint64(n)) }

// shuffled are the same parts in another order.
func shuffled(s *uint64, l []api.Part) []api.Part {
	l = slices.Clone(l)
	for i := range l {
		k := i + below(s, len(l)-i)
		l[i], l[k] = l[k], l[i]
	}
	return l
}

// random is a number of n words without any pattern, the last of which is not 0.
func random(s *uint64, n int) []uint64 {
	a := make([]uint64, n)
	for i := range a {
		a[i] = next(s)
	}
	if n > 0 {
		a[n-1] |= 1
	}
	return a
}

// full are n words with all their bits.
func full(n int) []uint64 { return slices.Repeat([]uint64{top}, n) }

// power is 2^(64 n).
func power(n int) []uint64 { return append(make([]uint64, n), 1) }

// number is that of a slice.
func number(a []uint64) *big.Int {
	n := new(big.Int)
	for _, w := range slices.Backward(a) {
		n.Lsh(n, 64).Or(n, new(big.Int).SetUint64(w))
	}
	return n
}

// is tells whether a slice is a number, and normalized.
func is(a []uint64, n *big.Int) bool {
	return len(a) == (n.BitLen()+63)/64 && number(a).Cmp(n) == 0
}

// span is a range.
func span(from, to int) api.Range { return api.Range{From: from, To: to} }

// job is one of a constant.
func job(c, d, g int) api.Job { return api.Job{Const: c, Digits: d, Guard: g} }

// terms is how many are required for m digits, as layer 17 tells it.
func terms(c, m int) int {
	if c == api.CPi {
		return m/14 + 2
	}
	bound := new(big.Int).Exp(big.NewInt(10), big.NewInt(int64(m+2)), nil)
	n := 1
	for f := big.NewInt(1); f.Cmp(bound) < 0; {
		n++
		f.Mul(f, big.NewInt(int64(n)))
	}
	return n
}

// pieces are those of 8 terms, of n in all; the last one may be shorter.
func pieces(n int) []api.Range {
	var l []api.Range
	for from := 0; from < n; from += 8 {
		l = append(l, span(from, min(from+8, n)))
	}
	return l
}

// partsOf are the parts of a job's pieces.
func partsOf(t *testing.T, j api.Job) []api.Part {
	t.Helper()
	var l []api.Part
	for _, r := range pieces(terms(j.Const, j.Digits+j.Guard)) {
		p, e := series.Sum(j.Const, r)
		if e != api.OK {
			t.Fatalf("Sum of %v: %d", r, e)
		}
		l = append(l, p)
	}
	return l
}

// others are parts that are none of a job's pieces: of parts of these, of several of them, and next to them, with numbers that would spoil all.
func others(n int) []api.Part {
	l := []api.Part{{}, {R: span(-8, 0)}, {R: span(n, n+8)}, {R: span(math.MinInt, math.MaxInt)}, {R: span(0, math.MaxInt)}, {R: span(8, 0)}, {R: span(16, 8)}, {R: span(0, 0)}, {R: span(8, 8)}, {R: span(0, n+1)}}
	for _, r := range pieces(n) {
		l = append(l, api.Part{R: span(r.From, r.To+1)}, api.Part{R: span(r.From, r.To-1)}, api.Part{R: span(r.From+1, r.To)}, api.Part{R: span(r.From-1, r.To)}, api.Part{R: span(r.From, r.From+16)}, api.Part{R: span(r.To, r.From)}, api.Part{R: span(r.From, r.From+1)})
	}
	own := pieces(n)
	l = slices.DeleteFunc(l, func(p api.Part) bool { return slices.Contains(own, p.R) })
	for i := range l {
		l[i].P, l[i].Q, l[i].T, l[i].Minus = []uint64{3}, full(i%3), full(most+1), i%2 == 1
	}
	return l
}

// equal are parts whose fields are equal.
func equal(x, y api.Part) bool {
	return x.R == y.R && x.Minus == y.Minus && slices.Equal(x.P, y.P) && slices.Equal(x.Q, y.Q) && slices.Equal(x.T, y.T)
}

// refused looks whether there is nothing but an error.
func refused(t *testing.T, name string, got api.Part, e, want api.Errno) {
	t.Helper()
	if e != want || !equal(got, api.Part{}) {
		t.Fatalf("%s is %v, %d, not the error %d alone", name, got, e, want)
	}
}

// untold looks whether there is no text, but an error.
func untold(t *testing.T, name, got string, e, want api.Errno) {
	t.Helper()
	if got != "" || e != want {
		t.Fatalf("%s is %q, %d, not the error %d alone", name, got, e, want)
	}
}

// TestWanted: P19.1, every request there may be, and such that may not: constants that there are none of, and digits beyond the bounds, each with all the others.
func TestWanted(t *testing.T) {
	for _, c := range constants() {
		for d := 1; d <= mostWanted; d++ {
			if e := plan.Wanted(c, d); e != api.OK {
				t.Errorf("Wanted(%d, %d) = %d", c, d, e)
			}
		}
	}
	wrong := append(wrongNumbers(1, mostWanted), 1500, 3000)
	for _, c := range append(wrongConstants(), api.CE, api.CPi) {
		for _, d := range wrong {
			if e := plan.Wanted(c, d); e != api.ErrWanted {
				t.Errorf("Wanted(%d, %d) = %d", c, d, e)
			}
		}
	}
	for _, c := range wrongConstants() {
		for _, d := range []int{1, 2, 5, 500, mostWanted} {
			if e := plan.Wanted(c, d); e != api.ErrWanted {
				t.Errorf("Wanted(%d, %d) = %d", c, d, e)
			}
		}
	}
}

// TestJob: P19.1, any constants, digits and rounds: the first two are taken as they are.
func TestJob(t *testing.T) {
	for _, x := range []struct{ round, guard int }{
		{0, 8}, {1, 16}, {2, 32}, {3, 64}, {4, 128}, {5, 128}, {64, 128}, {1 << 32, 128}, {math.MaxInt, 128}, {-1, 8}, {-64, 8}, {math.MinInt, 8},
	} {
		for _, c := range append(wrongConstants(), api.CE, api.CPi) {
			for _, d := range append(wrongNumbers(1, mostWanted), 1, 5, 20, mostWanted) {
				if got := plan.Job(c, d, x.round); got != job(c, d, x.guard) {
					t.Errorf("Job(%d, %d, %d) = %v", c, d, x.round, got)
				}
			}
		}
	}
	if got := plan.Job(api.CPi, 20, 0); got != (api.Job{Const: 2, Digits: 20, Guard: 8}) {
		t.Errorf("Job of 20 digits of pi: %v", got)
	}
}

// TestPiecesExamples: P19.1, what the chapter tells, a single piece, and pieces that are just whole.
func TestPiecesExamples(t *testing.T) {
	for _, x := range []struct {
		j    api.Job
		want []api.Range
	}{
		{job(api.CE, 5, 8), []api.Range{span(0, 8), span(8, 16), span(16, 18)}},
		{job(api.CE, 0, 0), []api.Range{span(0, 5)}}, {job(api.CE, 1, 0), []api.Range{span(0, 7)}}, {job(api.CE, 2, 0), []api.Range{span(0, 8)}}, {job(api.CE, 3, 0), []api.Range{span(0, 8), span(8, 9)}},
		{job(api.CPi, 0, 0), []api.Range{span(0, 2)}}, {job(api.CPi, 20, 8), []api.Range{span(0, 4)}}, {job(api.CPi, 84, 0), []api.Range{span(0, 8)}}, {job(api.CPi, 80, 8), []api.Range{span(0, 8)}}, {job(api.CPi, 90, 8), []api.Range{span(0, 8), span(8, 9)}}, {job(api.CPi, 90, 7), []api.Range{span(0, 8)}},
	} {
		if got := plan.Pieces(x.j); !slices.Equal(got, x.want) {
			t.Errorf("Pieces(%v) = %v, not %v", x.j, got, x.want)
		}
	}
}

// TestPieces: P19.1, every number of digits that terms are told for, be it of digits or of guard digits, and however either is beyond its bounds.
func TestPieces(t *testing.T) {
	for _, c := range constants() {
		for m := range mostPlaces + 1 {
			if c == api.CE && m > 300 && m%37 > 0 && m < mostPlaces-5 {
				continue
			}
			want := pieces(terms(c, m))
			for _, d := range []int{m, 0, 1, m / 2, m + 5, -7, math.MaxInt, math.MinInt + mostPlaces} {
				if got := plan.Pieces(job(c, d, m-d)); !slices.Equal(got, want) {
					t.Fatalf("Pieces of %d for %d and %d digits: %v, not %v", c, d, m-d, got, want)
				}
			}
		}
	}
}

// wrongJobs are such that have no pieces.
func wrongJobs() []api.Job {
	l := []api.Job{{}, job(0, 5, 8), job(3, 5, 8)}
	for _, c := range wrongConstants() {
		l = append(l, job(c, 5, 8), job(c, 0, 0), job(c, mostPlaces, 1), job(c, -1, 0))
	}
	for _, c := range constants() {
		for _, m := range wrongNumbers(0, mostPlaces) {
			l = append(l, job(c, m, 0), job(c, 0, m))
		}
		l = append(l, job(c, 1, mostPlaces), job(c, mostPlaces, 1), job(c, mostAsked, mostAsked+1), job(c, -9, 8), job(c, 8, -9), job(c, math.MaxInt, 1), job(c, math.MaxInt, math.MaxInt), job(c, math.MinInt, -1), job(c, math.MinInt, math.MaxInt), job(c, math.MaxInt, math.MinInt))
	}
	return l
}

// TestPiecesOfNone: P19.1, jobs for which no terms are told have no pieces.
func TestPiecesOfNone(t *testing.T) {
	for _, j := range wrongJobs() {
		if got := plan.Pieces(j); len(got) != 0 {
			t.Errorf("Pieces(%v) = %v", j, got)
		}
	}
}

// checkMissing looks which piece is missing.
func checkMissing(t *testing.T, j api.Job, have []api.Part, want api.Range, lacks bool) {
	t.Helper()
	if got, is := plan.Missing(j, have); got != want || is != lacks {
		t.Fatalf("Missing of %v is %v, %t, not %v, %t", j, got, is, want, lacks)
	}
}

// TestMissing: P19.2 and P19.3, whichever pieces exist, in any order, among any other parts: the first one that does not is told, whatever the numbers of the parts are.
func TestMissing(t *testing.T) {
	s := uint64(3)
	for _, j := range []api.Job{job(api.CE, 5, 8), job(api.CE, 0, 0), job(api.CE, 20, 16), job(api.CPi, 400, 8), job(api.CPi, 20, 8), job(api.CPi, mostPlaces, 0), job(api.CE, mostAsked, mostAsked), job(api.CE, -5, 18)} {
		n := terms(j.Const, j.Digits+j.Guard)
		l, rest := pieces(n), others(n)
		for i := range 1 << min(len(l), 7) {
			var have []api.Part
			var first api.Range
			lacks := false
			for k, r := range l {
				if i>>(k%7)&1 == 1 {
					have = append(have, api.Part{R: r})
				} else if !lacks {
					first, lacks = r, true
				}
			}
			for range 3 {
				checkMissing(t, j, shuffled(&s, have), first, lacks)
				checkMissing(t, j, shuffled(&s, append(rest[:len(rest):len(rest)], have...)), first, lacks)
				checkMissing(t, j, shuffled(&s, append(have, have...)), first, lacks)
			}
		}
		for i, r := range l {
			have := []api.Part{}
			for _, x := range slices.Delete(slices.Clone(l), i, i+1) {
				have = append(have, api.Part{R: x, T: full(3), Minus: true})
			}
			checkMissing(t, j, have, r, true)
		}
	}
}

// TestMissingOfNone: P19.2, where there are no pieces, none is missing.
func TestMissingOfNone(t *testing.T) {
	for _, j := range wrongJobs() {
		for _, have := range [][]api.Part{nil, {}, {{}}, others(18), partsOf(t, job(api.CE, 5, 8))} {
			checkMissing(t, j, have, api.Range{}, false)
		}
	}
}

// TestUntilNoneIsMissing: P19.2, when all that is missing is made, one by one, the pieces are made in their order, each once.
func TestUntilNoneIsMissing(t *testing.T) {
	for _, j := range []api.Job{job(api.CE, 5, 8), job(api.CPi, 1000, 128), job(api.CE, 1000, 128)} {
		var have []api.Part
		for i, want := range plan.Pieces(j) {
			r, lacks := plan.Missing(j, have)
			if r != want || !lacks {
				t.Fatalf("the piece %d of %v is %v, %t, not %v", i, j, r, lacks, want)
			}
			have = append(have, api.Part{R: r})
		}
		checkMissing(t, j, have, api.Range{}, false)
	}
}

// joined are parts from left to right, in numbers of any length.
func joined(l []api.Part) (r api.Range, p, q, a *big.Int) {
	p, q, a = big.NewInt(1), big.NewInt(1), new(big.Int)
	for _, x := range l {
		y := number(x.T)
		if x.Minus {
			y.Neg(y)
		}
		a.Mul(a, number(x.Q)).Add(a, y.Mul(y, p))
		p.Mul(p, number(x.P))
		q.Mul(q, number(x.Q))
	}
	return span(l[0].R.From, l[len(l)-1].R.To), p, q, a
}

// checkGather holds what is gathered of parts against those, of the pieces in their order.
func checkGather(t *testing.T, j api.Job, have, inOrder []api.Part) {
	t.Helper()
	got, e := plan.Gather(j, have)
	r, p, q, a := joined(inOrder)
	if e != api.OK || got.R != r || !is(got.P, p) || !is(got.Q, q) || !is(got.T, new(big.Int).Abs(a)) || got.Minus != (a.Sign() < 0) {
		t.Fatalf("Gather of %v is %v, %d", j, got, e)
	}
}

// TestGather: P19.2 and P19.3, the pieces of jobs of all lengths, in any order, among any other parts.
func TestGather(t *testing.T) {
	s := uint64(5)
	for _, c := range constants() {
		for _, m := range []int{0, 1, 2, 3, 13, 28, 84, 97, 98, 99, 200, 308, 1008, 1128, mostPlaces} {
			j := job(c, m/2, m-m/2)
			all := partsOf(t, j)
			checkGather(t, j, all, all)
			for range 3 {
				checkGather(t, j, shuffled(&s, append(others(terms(c, m)), all...)), all)
			}
			sum, e := plan.Gather(j, all)
			if want, wrong := series.Sum(c, span(0, terms(c, m))); !equal(sum, want) || e != wrong {
				t.Fatalf("Gather of %v is %v, %d, not %v", j, sum, e, want)
			}
		}
	}
}

// anyParts are parts of a job's pieces that are none of a series.
func anyParts(s *uint64, j api.Job) []api.Part {
	var l []api.Part
	for _, r := range pieces(terms(j.Const, j.Digits+j.Guard)) {
		p := api.Part{R: r, P: random(s, below(s, 4)), Q: random(s, below(s, 4)), T: random(s, below(s, 4))}
		p.Minus = len(p.T) > 0 && below(s, 2) == 1
		l = append(l, p)
	}
	return l
}

// TestGatherAnyParts: P19.2, parts with any numbers, of any sign; the first part of a range counts, wherever the others of that range are.
func TestGatherAnyParts(t *testing.T) {
	s := uint64(7)
	for i := range 400 {
		j := job(constants()[i%2], 3+i%40, 8+i%90)
		first, second := anyParts(&s, j), anyParts(&s, j)
		checkGather(t, j, shuffled(&s, first), first)
		checkGather(t, j, append(shuffled(&s, first), shuffled(&s, second)...), first)
		checkGather(t, j, append(append(shuffled(&s, first), second...), partsOf(t, j)...), first)
		k := below(&s, len(first))
		mixed := append(slices.Clone(first[:k]), second[k:]...)
		checkGather(t, j, append(shuffled(&s, mixed), append(first, second...)...), mixed)
		between := slices.Clone(first[:1])
		for n := range first {
			between = append(between, first[n], second[n])
		}
		checkGather(t, j, between, first)
	}
}

// TestGatherSingle: P19.2, what is gathered of a single piece is its part, just as it is: nothing is joined, whatever it has.
func TestGatherSingle(t *testing.T) {
	j := job(api.CPi, 20, 8)
	for _, p := range []api.Part{{}, {P: full(most + 1), Q: full(2 * most), T: full(most + 1)}, {Minus: true}, {P: []uint64{0}, Q: []uint64{5, 0}, T: []uint64{0, 0}, Minus: true}, {P: []uint64{1}, Q: []uint64{2}, T: []uint64{3}, Minus: true}} {
		p.R = span(0, 4)
		if got, e := plan.Gather(j, []api.Part{{R: span(0, 5)}, p, {R: span(0, 4), Q: full(9)}}); !equal(got, p) || e != api.OK {
			t.Errorf("Gather of %v is %v, %d", p, got, e)
		}
	}
}

// TestGatherErrors: P19.2, no pieces, or one that does not exist, whichever and whatever the others are; and what cannot be joined.
func TestGatherErrors(t *testing.T) {
	for _, j := range wrongJobs() {
		for _, have := range [][]api.Part{nil, {{}}, others(18), partsOf(t, job(api.CE, 5, 8))} {
			got, e := plan.Gather(j, have)
			refused(t, "Gather without pieces", got, e, api.ErrNone)
		}
	}
	for _, j := range []api.Job{job(api.CE, 5, 8), job(api.CPi, 20, 8), job(api.CPi, 300, 64), job(api.CE, mostWanted, 128)} {
		all := partsOf(t, j)
		for i := range all {
			have := slices.Delete(slices.Clone(all), i, i+1)
			got, e := plan.Gather(j, have)
			refused(t, "Gather", got, e, api.ErrNone)
			got, e = plan.Gather(j, append(others(all[len(all)-1].R.To), have...))
			refused(t, "Gather of other parts", got, e, api.ErrNone)
			got, e = plan.Gather(j, all[:i])
			refused(t, "Gather of the first parts", got, e, api.ErrNone)
		}
	}
}

// TestGatherLong: P19.2, parts with numbers too long to be joined, also what becomes so from left to right; that a piece does not exist is told before.
func TestGatherLong(t *testing.T) {
	j := job(api.CE, 5, 8)
	three := func(a, b, c []uint64) []api.Part {
		l := []api.Part{{P: a}, {P: b}, {P: c}}
		for i, r := range pieces(18) {
			l[i].R, l[i].Q, l[i].T = r, []uint64{3}, []uint64{2}
		}
		return l
	}
	one, long := []uint64{1}, full(most+1)
	for _, l := range [][]api.Part{three(long, one, one), three(one, long, one), three(one, one, long), three(full(most), full(2), one), three(full(2), full(most), one), three(full(most/2), full(most/2+1), one), three(long, long, long)} {
		for range 3 {
			got, e := plan.Gather(j, l)
			refused(t, "Gather of a long number", got, e, api.ErrLong)
			for i := range l {
				got, e = plan.Gather(j, slices.Delete(slices.Clone(l), i, i+1))
				refused(t, "Gather of a long number without a piece", got, e, api.ErrNone)
			}
			l = append(l[1:], l[0])
		}
	}
	for _, l := range [][]api.Part{three(one, full(2), full(most)), three(full(2), one, full(most)), three(one, one, full(most)), three(one, full(most), one), three(power(most-1), one, one), three(full(most/2), full(most/2), full(most))} {
		checkGather(t, j, l, l)
	}
	many := job(api.CE, 1, 29) // four pieces, the last two of which would be too long together
	l := anyParts(new(uint64), many)
	if len(l) != 4 {
		t.Fatalf("%d pieces", len(l))
	}
	l[0].P, l[1].P, l[2].P, l[3].P = one, one, []uint64{0, 1}, full(most)
	checkGather(t, many, l, l)
	l[0].P, l[1].P, l[2].P, l[3].P = full(most), []uint64{0, 1}, one, one
	got, e := plan.Gather(many, l)
	refused(t, "Gather of what becomes too long", got, e, api.ErrLong)
}

// TestFigures: P19.2 and P19.3, the digits of both constants, of every round, with parts in any order, among others.
func TestFigures(t *testing.T) {
	s := uint64(11)
	for _, c := range constants() {
		known := map[int]string{api.CE: ofE, api.CPi: ofPi}[c]
		for _, d := range []int{1, 2, 3, 5, 10, 20, 50, 99, 100, 101, 333, 999, mostWanted} {
			for round := range api.MaxRounds {
				j := plan.Job(c, d, round)
				all := partsOf(t, j)
				have := shuffled(&s, append(others(all[len(all)-1].R.To), all...))
				got, e := plan.Figures(j, have)
				n := min(d, 100) + 2
				if e != api.OK || len(got) != d+2 || got[:n] != known[:n] {
					t.Fatalf("Figures of %v is %q, %d", j, got, e)
				}
				if want, _, wrong := digits.Reckon(c, d); got != want || wrong != api.OK {
					t.Fatalf("Figures of %v is %q, and not %q", j, got, want)
				}
			}
		}
	}
}

// TestFiguresOfAnyParts: P19.2, figures are those of the parts that there are, also where these are none of a series; the first one counts.
func TestFiguresOfAnyParts(t *testing.T) {
	s := uint64(13)
	told := 0
	for i := range 600 {
		j := job(constants()[i%2], 1+i%30, 1+i%4)
		first, second := anyParts(&s, j), anyParts(&s, j)
		sum, e := plan.Gather(j, first)
		if e != api.OK {
			t.Fatal(e)
		}
		want, e := digits.Of(j.Const, sum, j.Digits, j.Guard)
		if e == api.OK {
			told++
		}
		if got, wrong := plan.Figures(j, append(shuffled(&s, first), second...)); got != want || wrong != e {
			t.Fatalf("Figures of %v is %q, %d, not %q, %d", j, got, wrong, want, e)
		}
	}
	if told < 100 {
		t.Errorf("only %d were told", told)
	}
}

// TestFiguresErrors: P19.2, the errors of Gather first, then those of layer 18: digits beyond its bounds, parts with a sign, divisors of 0, digits that are not certain, and numbers too long.
func TestFiguresErrors(t *testing.T) {
	for _, j := range wrongJobs() {
		got, e := plan.Figures(j, partsOf(t, job(api.CE, 5, 8)))
		untold(t, "Figures without pieces", got, e, api.ErrNone)
	}
	for _, c := range constants() {
		for _, j := range []api.Job{job(c, 0, 13), job(c, 13, 0), job(c, 0, 0), job(c, -1, 14), job(c, 14, -1), job(c, mostAsked+1, 8), job(c, 8, mostAsked+1), job(c, mostPlaces, 0), job(c, 0, mostPlaces), job(c, math.MinInt, math.MinInt+13), job(c, math.MaxInt, 13-math.MaxInt)} {
			got, e := plan.Figures(j, nil)
			untold(t, "Figures without parts", got, e, api.ErrNone)
			got, e = plan.Figures(j, partsOf(t, j))
			untold(t, "Figures beyond the bounds", got, e, api.ErrArg)
		}
		j := job(c, 5, 8)
		all := partsOf(t, j)
		for i := range all {
			got, e := plan.Figures(j, slices.Delete(slices.Clone(all), i, i+1))
			untold(t, "Figures without a piece", got, e, api.ErrNone)
		}
	}
	j := job(api.CPi, 20, 8)
	for _, x := range []struct {
		p api.Part
		e api.Errno
	}{
		{api.Part{Q: []uint64{1}, T: []uint64{1}, Minus: true}, api.ErrArg}, {api.Part{Q: []uint64{1}}, api.ErrZero}, {api.Part{}, api.ErrZero}, {api.Part{T: []uint64{1}}, api.ErrNear}, {api.Part{Q: full(most + 1), T: []uint64{1}}, api.ErrLong}, {api.Part{Q: full(most + 1)}, api.ErrZero}, {api.Part{Q: full(most + 1), T: []uint64{1}, Minus: true}, api.ErrArg},
	} {
		x.p.R = span(0, 4)
		got, e := plan.Figures(j, []api.Part{x.p})
		untold(t, "Figures", got, e, x.e)
		got, e = plan.Figures(j, []api.Part{{R: span(0, 3)}, {R: span(1, 4)}})
		untold(t, "Figures without a piece", got, e, api.ErrNone)
	}
	e := job(api.CE, 5, 8)
	long := partsOf(t, e)
	long[1].T = full(most + 1)
	got, wrong := plan.Figures(e, long)
	untold(t, "Figures of a long number", got, wrong, api.ErrLong)
	got, wrong = plan.Figures(e, long[:2])
	untold(t, "Figures of a long number without a piece", got, wrong, api.ErrNone)
}

// TestWithoutParts: P19.2, where nothing exists the first piece is missing, and nothing is gathered.
func TestWithoutParts(t *testing.T) {
	for _, c := range constants() {
		for _, d := range []int{1, 5, mostWanted} {
			for _, have := range [][]api.Part{nil, {}, {{}}} {
				j := plan.Job(c, d, 0)
				checkMissing(t, j, have, plan.Pieces(j)[0], true)
				p, e := plan.Gather(j, have)
				refused(t, "Gather of nothing", p, e, api.ErrNone)
				got, e := plan.Figures(j, have)
				untold(t, "Figures of nothing", got, e, api.ErrNone)
			}
		}
	}
}

// spare are parts with room behind them, and behind each of their numbers, that must not be written to.
func spare(l []api.Part) []api.Part {
	room := func(a []uint64) []uint64 { return append(slices.Clone(a), top)[:len(a)] }
	var out []api.Part
	for _, p := range l {
		p.P, p.Q, p.T = room(p.P), room(p.Q), room(p.T)
		out = append(out, p)
	}
	return append(out, api.Part{R: span(5, 6)})[:len(l)]
}

// checkKept looks whether parts, and the room behind them, are as they were.
func checkKept(t *testing.T, name string, l, was []api.Part) {
	t.Helper()
	if !slices.EqualFunc(l, was, equal) || !equal(l[:len(l)+1][len(l)], api.Part{R: span(5, 6)}) {
		t.Fatalf("%s has changed its parts", name)
	}
	for _, p := range l {
		for _, a := range [][]uint64{p.P, p.Q, p.T} {
			if a[:len(a)+1][len(a)] != top {
				t.Fatalf("%s has written behind a number of %v", name, p.R)
			}
		}
	}
}

// spoil changes all words of a part's numbers, and the room behind them.
func spoil(p api.Part) {
	for _, a := range [][]uint64{p.P, p.Q, p.T} {
		a = a[:cap(a)]
		for i := range a {
			a[i] = ^a[i]
		}
	}
}

// TestKept: R3 and R4, arguments are left as they are, with the room behind them, results are new memory, also of a single piece, and the same call has the same result.
func TestKept(t *testing.T) {
	s := uint64(17)
	for i := range 200 {
		j := job(constants()[i%2], 1+i%40, 8)
		was := append(anyParts(&s, j), others(3)...)
		l := spare(was)
		got, e := plan.Gather(j, l)
		want := api.Part{R: got.R, P: slices.Clone(got.P), Q: slices.Clone(got.Q), T: slices.Clone(got.T), Minus: got.Minus}
		spoil(got)
		checkKept(t, "Gather", l, was)
		if again, wrong := plan.Gather(j, l); !equal(again, want) || wrong != e {
			t.Fatalf("Gather of %v is %v, and then %v", j, want, again)
		}
		text, e := plan.Figures(j, l)
		checkKept(t, "Figures", l, was)
		if again, wrong := plan.Figures(j, l); again != text || wrong != e {
			t.Fatalf("Figures of %v is %q, and then %q", j, text, again)
		}
		r, lacks := plan.Missing(j, l[1:])
		checkKept(t, "Missing", l, was)
		checkMissing(t, j, l[1:], r, lacks)
		ranges := plan.Pieces(j)
		clear(ranges[:cap(ranges)])
		if again := plan.Pieces(j); !slices.Equal(again, pieces(terms(j.Const, j.Digits+j.Guard))) {
			t.Fatalf("Pieces of %v is %v after the first answer was changed", j, again)
		}
	}
}

// TestNeverPanics: R1, parts whose numbers are not normalized, or have a sign though they are 0.
func TestNeverPanics(t *testing.T) {
	for _, a := range [][]uint64{nil, {0}, {0, 0, 0}, {5, 0}, make([]uint64, most+1), append(full(most), 0, 0)} {
		for _, c := range constants() {
			for _, d := range []int{5, 100, 200} {
				j := job(c, d, 8)
				var have []api.Part
				for i, r := range plan.Pieces(j) {
					have = append(have, api.Part{R: r, P: a, Q: a, T: a, Minus: i%2 == 0})
				}
				plan.Missing(j, have)
				plan.Gather(j, have)
				plan.Figures(j, have)
			}
		}
	}
}

// TestExamples: P19.2, what the chapter tells of a whole job, step by step.
func TestExamples(t *testing.T) {
	j := plan.Job(api.CE, 5, 0)
	all := partsOf(t, j)
	checkMissing(t, j, nil, span(0, 8), true)
	checkMissing(t, j, all[:1], span(8, 16), true)
	checkMissing(t, j, all[:2], span(16, 18), true)
	checkMissing(t, j, all, api.Range{}, false)
	if got, e := plan.Figures(j, all); got != "2.71828" || e != api.OK {
		t.Errorf("5 digits of e: %q, %d", got, e)
	}
	if got, e := plan.Figures(plan.Job(api.CPi, 10, 0), partsOf(t, plan.Job(api.CPi, 10, 0))); got != "3.1415926535" || e != api.OK {
		t.Errorf("10 digits of pi: %q, %d", got, e)
	}
	p, e := plan.Gather(api.Job{}, nil)
	refused(t, "Gather of a zero job", p, e, api.ErrNone)
	if got, _ := plan.Figures(j, all); !strings.HasPrefix(ofE, got) {
		t.Errorf("5 digits of e: %q", got)
	}
}
