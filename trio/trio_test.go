package trio_test

import (
	"math/big"
	"math/bits"
	"slices"
	"testing"

	"tallystick/api"
	"tallystick/trio"
)

const (
	top   = 1<<64 - 1
	small = 1<<32 - 1       // the greatest element of an exact product's factors
	most  = 1 << api.MaxLog // how many elements a product has at most
)

// primes are the three primes, in the order of the fields of an api.Three.
func primes() []uint32 { return []uint32{998244353, 167772161, 469762049} }

// bound is the product of the three primes, reckoned outside of this program.
func bound() api.Pair { return api.Pair{Hi: 4264960, Lo: 715227917457555457} }

// whole is the number of a pair.
func whole(p api.Pair) *big.Int {
	r := new(big.Int).SetUint64(p.Hi)
	return r.Lsh(r, 64).Or(r, new(big.Int).SetUint64(p.Lo))
}

// pair is a number below 2^128 as a pair.
func pair(a *big.Int) api.Pair {
	lo := new(big.Int).And(a, new(big.Int).SetUint64(top))
	return api.Pair{Hi: new(big.Int).Rsh(a, 64).Uint64(), Lo: lo.Uint64()}
}

// rest is a number modulo m.
func rest(p api.Pair, m uint32) uint32 { return uint32(bits.Rem64(p.Hi, p.Lo, uint64(m))) }

// less tells whether a is below b.
func less(a, b api.Pair) bool { return a.Hi < b.Hi || a.Hi == b.Hi && a.Lo < b.Lo }

// plus is a sum of pairs.
func plus(a, b api.Pair) api.Pair {
	lo, carry := bits.Add64(a.Lo, b.Lo, 0)
	return api.Pair{Hi: a.Hi + b.Hi + carry, Lo: lo}
}

// times is a product of two words.
func times(a, b uint64) api.Pair {
	hi, lo := bits.Mul64(a, b)
	return api.Pair{Hi: hi, Lo: lo}
}

// element is the sum of all a[i] times b[k] with i + k = n, where the elements are below 2^32.
func element(a, b []uint64, n int) api.Pair {
	var sum api.Pair
	for i := max(0, n-len(b)+1); i < min(len(a), n+1); i++ {
		sum = plus(sum, times(a[i], b[n-i]))
	}
	return sum
}

// elementMod is the same modulo m, for any words.
func elementMod(a, b []uint64, n int, m uint32) uint32 {
	var sum uint64
	for i := max(0, n-len(b)+1); i < min(len(a), n+1); i++ {
		sum = (sum + a[i]%uint64(m)*(b[n-i]%uint64(m))) % uint64(m)
	}
	return uint32(sum)
}

// count is how many elements a product of n and m elements has.
func count(n, m int) int {
	if n == 0 || m == 0 {
		return 0
	}
	return n + m - 1
}

// exact is a product, term by term.
func exact(a, b []uint64) []api.Pair {
	r := make([]api.Pair, count(len(a), len(b)))
	for n := range r {
		r[n] = element(a, b, n)
	}
	return r
}

// modulo is a product modulo m, term by term.
func modulo(a, b []uint64, m uint32) []uint32 {
	r := make([]uint32, count(len(a), len(b)))
	for n := range r {
		r[n] = elementMod(a, b, n, m)
	}
	return r
}

// at is the sum of all l[i] times x to the power of i, modulo the prime of api.
func at(l []api.Pair, x uint64) uint64 {
	var sum uint64
	for _, a := range slices.Backward(l) {
		p := plus(times(sum, x), api.Pair{Lo: bits.Rem64(a.Hi, a.Lo, api.Prime)})
		sum = bits.Rem64(p.Hi, p.Lo, api.Prime)
	}
	return sum
}

// pairs are words as pairs.
func pairs(l []uint64) []api.Pair {
	r := make([]api.Pair, len(l))
	for i, w := range l {
		r[i].Lo = w
	}
	return r
}

// random are n words without any pattern, the same ones in every run.
func random(n int, seed uint64) []uint64 {
	l := make([]uint64, n)
	for i := range l {
		seed = seed*6364136223846793005 + 1442695040888963407
		l[i] = seed ^ seed>>29
	}
	return l
}

// halves are n numbers below 2^32 without any pattern.
func halves(n int, seed uint64) []uint64 {
	l := random(n, seed)
	for i := range l {
		l[i] >>= 32
	}
	return l
}

// edges are the words about the edges of a word, of half a word, and of the three primes.
func edges() []uint64 {
	l := []uint64{top, 0, 1, 1 << 63, small, 1 << 32, 2, 1<<32 + 1, 1 << 31, top - 1, 1<<63 - 1}
	for _, m := range primes() {
		n := uint64(m)
		l = append(l, n, n-1, n+1, 2*n, n*n, n<<32, n<<32-1, top/n*n)
	}
	return l
}

// edgesBelow are the numbers below 2^32 among the edges.
func edgesBelow() []uint64 {
	return slices.DeleteFunc(edges(), func(w uint64) bool { return w > small })
}

// only are n elements that are 0, but for one.
func only(n, i int, w uint64) []uint64 {
	l := make([]uint64, n)
	l[i] = w
	return l
}

// rows are slices of n numbers below 2^32: of one number throughout, of one that is not 0, of the edges, and without any pattern.
func rows(n int) [][]uint64 {
	if n == 0 {
		return [][]uint64{nil, {}}
	}
	l := [][]uint64{only(n, 0, 1), only(n, n-1, 1), only(n, n/2, small)}
	for _, w := range []uint64{0, 1, small, api.PrimeA} {
		l = append(l, slices.Repeat([]uint64{w}, n))
	}
	return append(l, slices.Repeat(edgesBelow(), n)[:n], slices.Repeat(edgesBelow(), n)[3:n+3], halves(n, 1), halves(n, 2))
}

// wide are rows with words of any size beside those.
func wide(n int) [][]uint64 {
	l := rows(n)
	if n == 0 {
		return l
	}
	return append(l, only(n, n-1, top), slices.Repeat([]uint64{top}, n), slices.Repeat(edges(), n)[:n], slices.Repeat(edges(), n)[5:n+5], random(n, 3))
}

// factors calls holds with all pairs of short slices that short makes, and with longer ones of many lengths.
func factors(short func(n int) [][]uint64, long func(n int, seed uint64) []uint64, holds func(a, b []uint64)) {
	for n := range 9 {
		for k := range n + 1 {
			for _, a := range short(n) {
				for _, b := range short(k) {
					holds(a, b)
				}
			}
		}
	}
	for _, n := range []int{1, 2, 15, 16, 17, 31, 33, 64, 100} {
		for k := range 70 {
			holds(long(n, 1), long(k, 2))
		}
	}
}

// numbers are pairs about the edges of words, of halves of them, of Bound, and of products of the primes, and such without any pattern.
func numbers() []api.Pair {
	a, b, c := primes()[0], primes()[1], primes()[2]
	l := []api.Pair{bound()}
	for _, x := range [][2]uint32{{a, b}, {a, c}, {b, c}, {a, a}, {b, b}, {c, c}, {a, 1}, {b, 1}, {c, 1}, {2, 2}} {
		p := uint64(x[0]) * uint64(x[1])
		l = append(l, api.Pair{Lo: p}, api.Pair{Hi: p}, times(p, p), times(p, 12345678901), times(p, uint64(a)), times(p, uint64(c)-1))
	}
	for _, w := range edges() {
		l = append(l, api.Pair{Lo: w}, api.Pair{Hi: w}, api.Pair{Hi: w, Lo: w}, api.Pair{Hi: w % bound().Hi, Lo: w}, times(w, w))
	}
	for i, w := range random(400, 4) {
		l = append(l, api.Pair{Hi: w >> (i % 64), Lo: w * w}, api.Pair{Hi: w % (bound().Hi + 1), Lo: w * 7}, api.Pair{Lo: w})
	}
	near := len(l)
	for _, p := range l[:near] {
		l = append(l, plus(p, api.Pair{Lo: 1}), plus(p, api.Pair{Hi: top, Lo: top})) // one more, and one less
	}
	return l
}

// TestBound: P9.1, the product of the three primes.
func TestBound(t *testing.T) {
	want := big.NewInt(1)
	for _, m := range primes() {
		want.Mul(want, big.NewInt(int64(m)))
	}
	if got := trio.Bound(); got != pair(want) || got != bound() {
		t.Errorf("Bound() = %v, not %v", got, pair(want))
	}
}

// TestSplitExamples: P9.1, numbers reckoned by hand: a remainder for each prime, in its field.
func TestSplitExamples(t *testing.T) {
	for _, x := range []struct {
		p    api.Pair
		want api.Three
	}{
		{api.Pair{}, api.Three{}}, {api.Pair{Lo: 5}, api.Three{A: 5, B: 5, C: 5}}, {bound(), api.Three{}},
		{api.Pair{Lo: 998244353}, api.Three{A: 0, B: 998244353 - 5*167772161, C: 998244353 - 2*469762049}},
		{api.Pair{Lo: 167772161}, api.Three{A: 167772161, B: 0, C: 167772161}},
		{api.Pair{Lo: 469762049}, api.Three{A: 469762049, B: 469762049 - 2*167772161, C: 0}},
		{api.Pair{Lo: 167772160}, api.Three{A: 167772160, B: 167772160, C: 167772160}},
		{api.Pair{Lo: top}, api.Three{A: 932051909, B: 40265973, C: 460175151}},
		{api.Pair{Hi: 1}, api.Three{A: 932051910, B: 40265974, C: 460175152}},
		{api.Pair{Hi: top, Lo: top}, api.Three{A: 299560063, B: 8214124, C: 118963807}},
	} {
		if got := trio.Split(x.p); got != x.want {
			t.Errorf("Split(%v) = %v, not %v", x.p, got, x.want)
		}
	}
}

// TestSplit: P9.1, any pairs.
func TestSplit(t *testing.T) {
	for _, p := range numbers() {
		var want [3]uint32
		for i, m := range primes() {
			want[i] = uint32(new(big.Int).Mod(whole(p), big.NewInt(int64(m))).Uint64())
		}
		if got := trio.Split(p); got != (api.Three{A: want[0], B: want[1], C: want[2]}) {
			t.Errorf("Split(%v) = %v, not %v", p, got, want)
		}
	}
}

// joined holds Join against the words of the chapter: one number alone is below Bound and congruent to the three.
func joined(t *testing.T, x api.Three) {
	t.Helper()
	got := trio.Join(x)
	a, b, c := primes()[0], primes()[1], primes()[2]
	if !less(got, bound()) || rest(got, a) != x.A%a || rest(got, b) != x.B%b || rest(got, c) != x.C%c {
		t.Errorf("Join(%v) = %v", x, got)
	}
}

// TestJoin: P9.1, any three numbers, those that are not below their primes among them.
func TestJoin(t *testing.T) {
	var l [3][]uint32
	for i := range l {
		for _, m := range primes() {
			l[i] = append(l[i], m-1, m, m+1)
		}
		m := primes()[i]
		l[i] = append(l[i], 0, 1, 2, m/2, m/2+1, m-2, 2*m-1, 2*m, 2*m+1, small/m*m-1, small/m*m, 1<<31, small-1, small)
	}
	for _, a := range l[0] {
		for _, b := range l[1] {
			for _, c := range l[2] {
				joined(t, api.Three{A: a, B: b, C: c})
			}
		}
	}
	r := random(6000, 5)
	for i := 0; i < len(r); i += 3 {
		joined(t, api.Three{A: uint32(r[i]), B: uint32(r[i+1]), C: uint32(r[i+2])})
	}
}

// TestJoinExamples: P9.1, the chapter's example, and numbers reckoned by hand.
func TestJoinExamples(t *testing.T) {
	least := plus(bound(), api.Pair{Hi: top, Lo: top}) // Bound less 1
	for _, x := range []struct {
		t    api.Three
		want api.Pair
	}{
		{trio.Split(trio.Bound()), api.Pair{}}, {api.Three{}, api.Pair{}}, {api.Three{A: 7, B: 7, C: 7}, api.Pair{Lo: 7}},
		{api.Three{A: 998244353, B: 167772161, C: 469762049}, api.Pair{}}, {api.Three{A: 998244354, B: 167772162, C: 469762050}, api.Pair{Lo: 1}},
		{api.Three{A: 998244352, B: 167772160, C: 469762048}, least}, {api.Three{A: 2*998244353 - 1, B: 2*167772161 - 1, C: 2*469762049 - 1}, least},
		{api.Three{A: 932051910, B: 40265974, C: 460175152}, api.Pair{Hi: 1}}, {api.Three{A: 932051909, B: 40265973, C: 460175151}, api.Pair{Lo: top}},
		{api.Three{A: 167772161, B: 0, C: 167772161}, api.Pair{Lo: 167772161}},
	} {
		if got := trio.Join(x.t); got != x.want {
			t.Errorf("Join(%v) = %v, not %v", x.t, got, x.want)
		}
	}
}

// TestJoinSplit: P9.4, Join inverts Split for numbers below Bound; others come back modulo Bound.
func TestJoinSplit(t *testing.T) {
	under := 0
	for _, p := range numbers() {
		want := pair(new(big.Int).Mod(whole(p), whole(bound())))
		if less(p, bound()) {
			under++
			want = p
		}
		if got := trio.Join(trio.Split(p)); got != want {
			t.Errorf("Join of Split of %v = %v, not %v", p, got, want)
		}
	}
	if under < 1000 {
		t.Errorf("only %d numbers below Bound", under)
	}
}

// TestMod: P9.2, products term by term, of any words and any lengths, modulo each prime.
func TestMod(t *testing.T) {
	holds := func(a, b []uint64) {
		t.Helper()
		for _, m := range primes() {
			want := modulo(a, b, m)
			for _, x := range [][2][]uint64{{a, b}, {b, a}} {
				if got, e := trio.Mod(x[0], x[1], m); !slices.Equal(got, want) || e != api.OK {
					t.Errorf("Mod(%v, %v, %d) = %v, %d, not %v", x[0], x[1], m, got, e, want)
				}
			}
		}
	}
	factors(wide, random, holds)
	holds(random(513, 3), slices.Repeat([]uint64{top}, 512)) // one product has 2^10 elements, and one a few more
	holds(random(513, 3), slices.Repeat(edges(), 15))
	holds(random(2000, 4), random(7, 5))
}

// TestModLong: P9.2, some elements of the longest products.
func TestModLong(t *testing.T) {
	room := random(2*most, 6)
	for _, x := range []struct{ n, k int }{{most, 1}, {1, most}, {most / 2, most/2 + 1}, {most/2 + 1, most / 2}, {3, most - 2}, {most / 4, most/4 + 1}, {most / 4, most/4 + 2}} {
		a, b := room[:x.n], room[2*most-x.k:]
		for _, m := range primes() {
			got, e := trio.Mod(a, b, m)
			if len(got) != count(x.n, x.k) || e != api.OK {
				t.Fatalf("Mod of %d and %d elements by %d: %d elements, %d", x.n, x.k, m, len(got), e)
			}
			for _, i := range []int{0, 1, x.n - 1, x.k - 1, len(got) / 3, len(got) - 2, len(got) - 1} {
				if want := elementMod(a, b, i, m); got[i] != want {
					t.Errorf("the element %d of Mod of %d and %d elements by %d is %d, not %d", i, x.n, x.k, m, got[i], want)
				}
			}
		}
	}
}

// TestModNone: P9.2, moduli that are none of the three, whatever the slices are: that is told first.
func TestModNone(t *testing.T) {
	l := []uint32{0, 1, 2, 3, 5, 7, 17, 257, 65537, 1 << 30, 1<<31 - 1, 1 << 31, small - 1, small, 754974721, 2013265921, 2281701377, 104857601, 998244353 ^ 1<<31, 167772161 ^ 1<<31, 469762049 ^ 1<<31}
	for _, m := range primes() {
		l = append(l, m-2, m-1, m+1, m+2, 2*m, 2*m+1, m/2, m/2+1)
	}
	room := random(2*most, 7)
	for _, m := range l {
		for _, x := range []struct{ n, k int }{{0, 0}, {0, 3}, {3, 0}, {1, 1}, {3, 2}, {64, 1}, {most, 1}, {most, 2}, {most + 1, 1}, {2 * most, 2 * most}, {0, 2 * most}} {
			if got, e := trio.Mod(room[:x.n], room[:x.k], m); len(got) != 0 || e != api.ErrArg {
				t.Errorf("Mod of %d and %d elements by %d: %d elements, %d", x.n, x.k, m, len(got), e)
			}
		}
	}
}

// lengths are those of products about the longest there are, with what each is answered.
func lengths() []struct {
	n, k int
	e    api.Errno
} {
	return []struct {
		n, k int
		e    api.Errno
	}{
		{most, 1, api.OK}, {1, most, api.OK}, {most / 2, most/2 + 1, api.OK}, {most - 4, 5, api.OK},
		{0, 0, api.OK}, {0, most, api.OK}, {most + 1, 0, api.OK}, {0, most + 1, api.OK}, {3 * most, 0, api.OK}, {0, 3 * most, api.OK},
		{most, 2, api.ErrLong}, {2, most, api.ErrLong}, {most + 1, 1, api.ErrLong}, {1, most + 1, api.ErrLong}, {most/2 + 1, most/2 + 1, api.ErrLong},
		{most, most, api.ErrLong}, {2 * most, 1, api.ErrLong}, {1, 3 * most, api.ErrLong}, {3 * most, 3 * most, api.ErrLong},
	}
}

// TestTooLong: P9.2 and P9.3, products that have more than 2^20 elements; one with an empty slice has none, however long the other is.
func TestTooLong(t *testing.T) {
	room := halves(3*most, 8)
	for _, x := range lengths() {
		a, b, want := room[:x.n], room[3*most-x.k:], 0
		if x.e == api.OK {
			want = count(x.n, x.k)
		}
		for _, m := range primes() {
			if got, e := trio.Mod(a, b, m); len(got) != want || e != x.e {
				t.Errorf("Mod of %d and %d elements by %d: %d elements, %d, not %d, %d", x.n, x.k, m, len(got), e, want, x.e)
			}
		}
		if got, e := trio.Times(a, b); len(got) != want || e != x.e {
			t.Errorf("Times of %d and %d elements: %d elements, %d, not %d, %d", x.n, x.k, len(got), e, want, x.e)
		}
	}
}

// TestTimesExamples: P9.3, what the chapter tells, and the edges.
func TestTimesExamples(t *testing.T) {
	for _, x := range []struct {
		a, b []uint64
		want []api.Pair
	}{
		{[]uint64{1, 2, 3}, []uint64{4, 5}, []api.Pair{{Lo: 4}, {Lo: 13}, {Lo: 22}, {Lo: 15}}},
		{[]uint64{small}, []uint64{small}, []api.Pair{{Hi: 0, Lo: 18446744065119617025}}},
		{nil, nil, nil}, {nil, []uint64{1}, nil}, {[]uint64{}, []uint64{1, small}, nil}, {[]uint64{5}, nil, nil},
		{[]uint64{0}, []uint64{small}, []api.Pair{{}}}, {[]uint64{0, 0}, []uint64{0, 0, 0}, []api.Pair{{}, {}, {}, {}}},
		{[]uint64{small, small}, []uint64{small, small}, []api.Pair{{Lo: 18446744065119617025}, {Hi: 1, Lo: 18446744056529682434}, {Lo: 18446744065119617025}}},
		{[]uint64{api.PrimeA, api.PrimeB}, []uint64{api.PrimeC}, []api.Pair{{Lo: api.PrimeA * api.PrimeC}, {Lo: api.PrimeB * api.PrimeC}}},
		{[]uint64{0, 0, 7}, []uint64{0, 6}, []api.Pair{{}, {}, {}, {Lo: 42}}},
	} {
		if got, e := trio.Times(x.a, x.b); !slices.Equal(got, x.want) || e != api.OK {
			t.Errorf("Times(%v, %v) = %v, %d, not %v", x.a, x.b, got, e, x.want)
		}
	}
}

// TestTimes: P9.3, products term by term, of any lengths.
func TestTimes(t *testing.T) {
	holds := func(a, b []uint64) {
		t.Helper()
		want := exact(a, b)
		for _, x := range [][2][]uint64{{a, b}, {b, a}} {
			if got, e := trio.Times(x[0], x[1]); !slices.Equal(got, want) || e != api.OK {
				t.Errorf("Times(%v, %v) = %v, %d, not %v", x[0], x[1], got, e, want)
			}
		}
	}
	factors(rows, halves, holds)
	holds(halves(513, 3), slices.Repeat([]uint64{small}, 512)) // one product has 2^10 elements, and one a few more
	holds(halves(513, 3), slices.Repeat([]uint64{small}, 513))
	holds(halves(3000, 4), halves(7, 5))
}

// TestTimesGreatest: P9.3 and P9.4, the greatest elements there are, all of them below Bound.
func TestTimesGreatest(t *testing.T) {
	a, b := slices.Repeat([]uint64{small}, most/2), slices.Repeat([]uint64{small}, most/2+1)
	got, e := trio.Times(a, b)
	if len(got) != most || e != api.OK {
		t.Fatalf("Times of 2^19 and one more: %d elements, %d", len(got), e)
	}
	for i := range got {
		terms := uint64(min(i+1, most/2, most-i))
		if want := pair(new(big.Int).Mul(whole(times(small, small)), new(big.Int).SetUint64(terms))); got[i] != want || !less(got[i], bound()) {
			t.Fatalf("the element %d of %d is %v, not %v", i, len(got), got[i], want)
		}
	}
}

// TestTimesLong: P9.3 and P9.4, some elements of the longest products, all of them below Bound, and the products as polynomials.
func TestTimesLong(t *testing.T) {
	room := halves(2*most, 9)
	for _, x := range []struct{ n, k int }{{most, 1}, {1, most}, {most / 2, most/2 + 1}, {3, most - 2}, {most / 4, most/4 + 2}, {1000, 1025}, {10000, 20000}} {
		a, b := room[:x.n], room[2*most-x.k:]
		got, e := trio.Times(a, b)
		if len(got) != count(x.n, x.k) || e != api.OK || slices.ContainsFunc(got, func(p api.Pair) bool { return !less(p, bound()) }) {
			t.Fatalf("Times of %d and %d elements: %d elements, %d", x.n, x.k, len(got), e)
		}
		for _, i := range []int{0, 1, x.n - 1, x.k - 1, len(got) / 3, len(got) - 2, len(got) - 1} {
			if want := element(a, b, i); got[i] != want {
				t.Errorf("the element %d of Times of %d and %d elements is %v, not %v", i, x.n, x.k, got[i], want)
			}
		}
		for _, w := range random(3, 10) { // two polynomials that differ agree in few places
			p := times(at(pairs(a), w), at(pairs(b), w))
			if at(got, w) != bits.Rem64(p.Hi, p.Lo, api.Prime) {
				t.Errorf("Times of %d and %d elements is another polynomial", x.n, x.k)
			}
		}
	}
}

// TestTimesLarge: P9.3, elements of 2^32 and above, wherever they stand: that is told first.
func TestTimesLarge(t *testing.T) {
	room := halves(2*most, 11)
	for _, x := range []struct{ n, k int }{{1, 1}, {1, 0}, {3, 0}, {4, 3}, {64, 2}, {100, 100}, {most, 1}, {most, 2}, {most + 1, 1}, {most + 1, 0}, {most, most}} {
		for _, at := range []int{0, x.n / 2, x.n - 1} {
			for _, w := range []uint64{1 << 32, 1<<32 + 1, 1<<32 + small, 1 << 33, 1 << 63, top - small, top} {
				a, b := room[:x.n], room[2*most-x.k:]
				kept := a[at]
				a[at] = w
				got, e := trio.Times(a, b)
				if len(got) != 0 || e != api.ErrArg {
					t.Errorf("Times of %d elements, one of them %d, and %d: %d elements, %d", x.n, w, x.k, len(got), e)
				}
				if got, e := trio.Times(b, a); len(got) != 0 || e != api.ErrArg {
					t.Errorf("Times of %d elements, and %d, one of them %d: %d elements, %d", x.k, x.n, w, len(got), e)
				}
				a[at] = kept
			}
		}
	}
	if got, e := trio.Times([]uint64{1 << 32}, []uint64{1 << 32}); len(got) != 0 || e != api.ErrArg {
		t.Errorf("Times of 2^32 and itself = %v, %d", got, e)
	}
}

// TestAgree: P9.2 and P9.3, Mod is what Times is modulo each prime, and Join of the three is Times.
func TestAgree(t *testing.T) {
	for _, n := range []int{0, 1, 2, 5, 16, 33, 300, 4096} {
		for i, a := range rows(n) {
			b := halves(n/2+i, 12)
			got, e := trio.Times(a, b)
			var l [3][]uint32
			for k, m := range primes() {
				l[k], _ = trio.Mod(a, b, m)
			}
			if e != api.OK || len(got) != count(len(a), len(b)) || len(l[0]) != len(got) || len(l[1]) != len(got) || len(l[2]) != len(got) {
				t.Fatalf("Times of %d and %d elements: %d elements, %d", len(a), len(b), len(got), e)
			}
			for k := range got {
				x := api.Three{A: l[0][k], B: l[1][k], C: l[2][k]}
				if trio.Split(got[k]) != x || trio.Join(x) != got[k] {
					t.Fatalf("the element %d of Times of %d and %d elements is %v, where Mod has %v", k, len(a), len(b), got[k], x)
				}
			}
		}
	}
}

// calls are what every function makes of two slices.
func calls(a, b []uint64) map[string][]uint64 {
	r := map[string][]uint64{}
	for i, name := range []string{"A", "B", "C"} {
		got, _ := trio.Mod(a, b, primes()[i])
		for _, w := range got {
			r[name] = append(r[name], uint64(w))
		}
	}
	for name, b := range map[string][]uint64{"Times": b, "Times of one slice": a} {
		got, _ := trio.Times(a, b)
		for _, p := range got {
			r[name] = append(r[name], p.Hi, p.Lo)
		}
	}
	return r
}

// TestKept: R3 and R4, arguments are left as they are, with the room behind them; results are the same in every call.
func TestKept(t *testing.T) {
	const kept = 0x5555
	for _, n := range []int{0, 1, 2, 3, 4, 8, 64} {
		for _, a := range wide(n) {
			for _, b := range rows(n) {
				keptRoom := slices.Concat(a, []uint64{kept, kept}, b, []uint64{kept})
				room := slices.Clone(keptRoom)
				got, want := calls(room[:n], room[n+2:2*n+2]), calls(a, b)
				for name := range want {
					if !slices.Equal(got[name], want[name]) {
						t.Fatalf("%s of %v and %v is %v where it was %v", name, a, b, got[name], want[name])
					}
				}
				if len(got) != len(want) || !slices.Equal(room, keptRoom) {
					t.Fatalf("the arguments %v and %v are changed: %v", a, b, room)
				}
			}
		}
	}
}

// TestNew: R3, results are new memory: one that is written over changes no other.
func TestNew(t *testing.T) {
	a, b := halves(20, 13), halves(13, 14)
	for _, m := range primes() {
		got, _ := trio.Mod(a, b, m)
		got = got[:cap(got)]
		clear(got)
		if again, _ := trio.Mod(a, b, m); !slices.Equal(again, modulo(a, b, m)) {
			t.Errorf("Mod by %d is %v after its result was written over", m, again)
		}
	}
	first, _ := trio.Times(a, b)
	second, _ := trio.Times(a, b)
	clear(first[:cap(first)])
	if want := exact(a, b); !slices.Equal(second, want) {
		t.Errorf("Times is %v after another result was written over, not %v", second, want)
	}
}
