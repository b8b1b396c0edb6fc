package ntt_test

import (
	"math"
	"math/bits"
	"slices"
	"testing"

	"tallystick/api"
	"tallystick/ntt"
)

const (
	p    = api.Prime
	top  = 1<<64 - 1
	most = 1 << api.MaxLog // how many elements a transform has at most
)

// plus is a sum modulo p, by a division.
func plus(a, b uint64) uint64 {
	sum, carry := bits.Add64(a, b, 0)
	return bits.Rem64(carry, sum, p)
}

// times is a product modulo p, by a division.
func times(a, b uint64) uint64 {
	hi, lo := bits.Mul64(a, b)
	return bits.Rem64(hi, lo, p)
}

// power is a power modulo p.
func power(a, n uint64) uint64 {
	r := uint64(1)
	for k := bits.Len64(n) - 1; k >= 0; k-- {
		r = times(r, r)
		if n>>k&1 != 0 {
			r = times(r, a)
		}
	}
	return r
}

// root is w for n elements.
func root(n int) uint64 { return power(7, (p-1)/uint64(n)) }

// at is the sum of all l[i] times x to the power of i.
func at(l []uint64, x uint64) uint64 {
	var sum uint64
	for _, a := range slices.Backward(l) {
		sum = plus(times(sum, x), a)
	}
	return sum
}

// forward is a transform, element by element as the document tells it.
func forward(l []uint64) []uint64 {
	w := root(len(l))
	r := make([]uint64, len(l))
	for j := range r {
		r[j] = at(l, power(w, uint64(j)))
	}
	return r
}

// below are the elements modulo p.
func below(l []uint64) []uint64 {
	r := slices.Clone(l)
	for i := range r {
		r[i] %= p
	}
	return r
}

// plain are n words without any pattern, the same ones in every run.
func plain(n int, seed uint64) []uint64 {
	l := make([]uint64, n)
	for i := range l {
		seed = seed*6364136223846793005 + 1442695040888963407
		l[i] = seed ^ seed>>29
	}
	return l
}

// edges are the words about the edges of a word, of half a word and of p.
func edges() []uint64 {
	return []uint64{0, 1, 2, 3, 7, 1<<32 - 2, 1<<32 - 1, 1 << 32, 1<<32 + 1, 1<<63 - 1, 1 << 63, p - 1<<32, p - 2, p - 1, p, p + 1, p + 2, p + 1<<31, top - 1, top}
}

// only are n elements that are 0, but for one.
func only(n, i int, w uint64) []uint64 {
	l := make([]uint64, n)
	l[i] = w
	return l
}

// rows are slices of n elements: of the same words throughout, of one word that is not 0, of the edges, of 0 and the greatest word by turns, and without any pattern.
func rows(n int) [][]uint64 {
	var l [][]uint64
	for _, w := range edges() {
		l = append(l, slices.Repeat([]uint64{w}, n), only(n, 0, w), only(n, n-1, w), only(n, n/2, w), only(n, n/3, w))
	}
	l = append(l, slices.Repeat([]uint64{top, 0}, n)[:n], slices.Repeat([]uint64{0, p + 1}, n)[:n], slices.Repeat(edges(), n)[:n], slices.Repeat(edges(), n)[n:2*n])
	return append(l, plain(n, 1), plain(n, 2), plain(n, 3))
}

// transforms are the two of them.
var transforms = []struct {
	name string
	f    func(l []uint64) ([]uint64, api.Errno)
}{{"Forward", ntt.Forward}, {"Back", ntt.Back}}

// TestLog: P7.1, powers of 2 up to the longest transform, and above it.
func TestLog(t *testing.T) {
	for k := range 63 {
		want, e := k, api.OK
		if k > 20 {
			want, e = 0, api.ErrLong
		}
		if got, err := ntt.Log(1 << k); got != want || err != e {
			t.Errorf("Log(2^%d) = %d, %d, not %d, %d", k, got, err, want, e)
		}
	}
}

// TestLogErrors: P7.1, what is no power of 2, whether it is too great or not.
func TestLogErrors(t *testing.T) {
	l := []int{0, -1, -2, -3, -4, -1 << 20, -1 << 21, math.MinInt, math.MinInt + 1, -1 << 62, 6, math.MaxInt, math.MaxInt - 1, 3 << 19, 3 << 20, 3 << 61, 5 << 40}
	for k := 2; k < 63; k++ {
		l = append(l, 1<<k-1, 1<<k+1, 1<<k+1<<(k-1), -1<<k)
	}
	for n := range 5000 {
		if bits.OnesCount(uint(n)) != 1 {
			l = append(l, n)
		}
		l = append(l, -n)
	}
	for _, n := range l {
		if got, e := ntt.Log(n); got != 0 || e != api.ErrArg {
			t.Errorf("Log(%d) = %d, %d", n, got, e)
		}
	}
}

// TestTurnExamples: P7.1, the chapter's example, higher bits that do not count, and numbers of bits below 0 and above 30.
func TestTurnExamples(t *testing.T) {
	for _, x := range []struct{ i, k, want int }{
		{1, 5, 16}, {16, 5, 1}, {0, 5, 0}, {31, 5, 31}, {4, 5, 4}, {6, 5, 12}, {6, 4, 6}, {6, 3, 3},
		{32, 5, 0}, {33, 5, 16}, {math.MaxInt, 5, 31}, {math.MinInt, 5, 0}, {math.MinInt + 2, 5, 8},
		{-1, 5, 31}, {-2, 5, 15}, {-16, 5, 1}, {-1, 1, 1}, {-1, 0, 0},
		{1, 1, 1}, {2, 1, 0}, {0, 0, 0}, {1, 0, 0}, {top >> 1, 0, 0},
		{1, -1, 0}, {7, -5, 0}, {-1, math.MinInt, 0}, {-1, -64, 0}, {5, -34, 0},
		{1, 29, 1 << 28}, {1, 30, 1 << 29}, {1, 31, 1 << 29}, {1, 32, 1 << 29}, {1, 64, 1 << 29}, {1, 65, 1 << 29}, {1, math.MaxInt, 1 << 29},
		{1 << 29, 30, 1}, {1 << 30, 31, 0}, {1 << 30, 64, 0}, {-1, 30, 1<<30 - 1}, {-1, 63, 1<<30 - 1}, {-1, math.MaxInt, 1<<30 - 1},
	} {
		if got := ntt.Turn(x.i, x.k); got != x.want {
			t.Errorf("Turn(%d, %d) = %d, not %d", x.i, x.k, got, x.want)
		}
	}
}

// TestTurn: P7.1, bit by bit, and what is turned twice.
func TestTurn(t *testing.T) {
	for k := -3; k < 40; k++ {
		n := min(max(k, 0), 30)
		for _, w := range append(plain(300, uint64(n)), 0, 1, 2, 3, 5, 1<<29, 1<<30, 1<<31, 1<<63, top) {
			i, want := int(w), 0
			for b := range n {
				want = 2*want + i>>b&1
			}
			got := ntt.Turn(i, k)
			if got != want {
				t.Errorf("Turn(%d, %d) = %d, not %d", i, k, got, want)
			}
			if back := ntt.Turn(got, k); back != i&(1<<n-1) {
				t.Errorf("Turn(Turn(%d, %d), %d) = %d", i, k, k, back)
			}
		}
	}
}

// TestPowersExamples: P7.1, powers of 0, 1, -1 and of words above p, and none.
func TestPowersExamples(t *testing.T) {
	for _, x := range []struct {
		w    uint64
		n    int
		want []uint64
	}{
		{2, 5, []uint64{1, 2, 4, 8, 16}}, {1 << 32, 4, []uint64{1, 1 << 32, 1<<32 - 1, p - 1}},
		{0, 1, []uint64{1}}, {0, 4, []uint64{1, 0, 0, 0}}, {p, 3, []uint64{1, 0, 0}}, {1, 3, []uint64{1, 1, 1}},
		{p - 1, 4, []uint64{1, p - 1, 1, p - 1}}, {p + 1, 3, []uint64{1, 1, 1}}, {p + 2, 4, []uint64{1, 2, 4, 8}}, {top, 2, []uint64{1, 1<<32 - 2}}, {top, 1, []uint64{1}},
		{2, 0, nil}, {0, 0, nil}, {2, -1, nil}, {top, math.MinInt, nil}, {3, math.MinInt + 1, nil},
	} {
		if got := ntt.Powers(x.w, x.n); !slices.Equal(got, x.want) {
			t.Errorf("Powers(%d, %d) = %v, not %v", x.w, x.n, got, x.want)
		}
	}
	for _, n := range []int{1 << 28, 1 << 31, 1 << 61, math.MaxInt} { // the document leaves open what these are, but they end without a panic
		ntt.Powers(2, n)
	}
}

// TestPowers: P7.1, each against a power that is made alone.
func TestPowers(t *testing.T) {
	for _, w := range append(edges(), plain(9, 4)...) {
		for _, n := range []int{1, 2, 3, 7, 64, 100, 257} {
			got := ntt.Powers(w, n)
			if len(got) != n {
				t.Fatalf("Powers(%d, %d) are %d", w, n, len(got))
			}
			for i, a := range got {
				if want := power(w, uint64(i)); a != want {
					t.Errorf("the element %d of Powers(%d, %d) is %d, not %d", i, w, n, a, want)
				}
			}
		}
	}
	if got := ntt.Powers(3, 3*most); len(got) != 3*most || got[3*most-1] != power(3, 3*most-1) { // longer than any transform
		t.Errorf("Powers(3, %d) are %d", 3*most, len(got))
	}
}

// TestWeighExamples: P7.1, the chapter's example, weights of 0 and 1, words above p, and no elements.
func TestWeighExamples(t *testing.T) {
	for _, x := range []struct {
		l    []uint64
		w    uint64
		want []uint64
	}{
		{[]uint64{3, 3, 3}, 2, []uint64{3, 6, 12}},
		{nil, 2, nil}, {[]uint64{}, 0, nil}, {nil, top, nil},
		{[]uint64{5}, 0, []uint64{5}}, {[]uint64{5, 6, 7}, 0, []uint64{5, 0, 0}}, {[]uint64{5, 6, 7}, p, []uint64{5, 0, 0}},
		{[]uint64{5, 6, 7}, 1, []uint64{5, 6, 7}}, {[]uint64{p, p + 1, top}, 1, []uint64{0, 1, 1<<32 - 2}}, {[]uint64{p, p + 1, p + 2}, p + 1, []uint64{0, 1, 2}},
		{[]uint64{p - 1, p - 1, 0, 5}, p - 1, []uint64{p - 1, 1, 0, p - 5}}, {[]uint64{top}, top, []uint64{1<<32 - 2}},
	} {
		if got := ntt.Weigh(x.l, x.w); !slices.Equal(got, x.want) {
			t.Errorf("Weigh(%v, %d) = %v, not %v", x.l, x.w, got, x.want)
		}
	}
}

// TestWeigh: P7.1, each element times a power that is made alone, for any length.
func TestWeigh(t *testing.T) {
	for _, n := range []int{1, 2, 3, 6, 8, 31, 100} {
		for _, l := range rows(n) {
			for _, w := range append(edges(), plain(2, 5)...) {
				want := make([]uint64, n)
				for i := range want {
					want[i] = times(l[i], power(w, uint64(i)))
				}
				if got := ntt.Weigh(l, w); !slices.Equal(got, want) {
					t.Errorf("Weigh(%v, %d) = %v, not %v", l, w, got, want)
				}
			}
		}
	}
	if got := ntt.Weigh(plain(most+1, 1), 3); len(got) != most+1 || got[most] != times(plain(most+1, 1)[most], power(3, most)) { // longer than any transform
		t.Errorf("Weigh of %d elements has %d", most+1, len(got))
	}
}

// TestExamples: P7.2, transforms that the chapter tells, such of one element, and such of words above p.
func TestExamples(t *testing.T) {
	const i4 = 1 << 48 // w for 4 elements: its square is -1
	for _, x := range []struct{ l, want []uint64 }{
		{[]uint64{1, 2}, []uint64{3, p - 1}}, {[]uint64{p + 1, p + 2}, []uint64{3, p - 1}}, {[]uint64{2, 1}, []uint64{3, 1}}, {[]uint64{0, 0}, []uint64{0, 0}}, {[]uint64{p, p}, []uint64{0, 0}}, {[]uint64{top, top}, []uint64{1<<33 - 4, 0}},
		{[]uint64{0}, []uint64{0}}, {[]uint64{5}, []uint64{5}}, {[]uint64{p - 1}, []uint64{p - 1}}, {[]uint64{p}, []uint64{0}}, {[]uint64{p + 5}, []uint64{5}}, {[]uint64{top}, []uint64{1<<32 - 2}},
		{[]uint64{1, 2, 3, 4}, []uint64{10, p - 2*i4 - 2, p - 2, 2*i4 - 2}},
		{[]uint64{1, 0, 0, 0}, []uint64{1, 1, 1, 1}}, {[]uint64{0, 1, 0, 0}, []uint64{1, i4, p - 1, p - i4}}, {[]uint64{0, 0, 1, 0}, []uint64{1, p - 1, 1, p - 1}}, {[]uint64{0, 0, 0, 1}, []uint64{1, p - i4, p - 1, i4}},
	} {
		if got, e := ntt.Forward(x.l); !slices.Equal(got, x.want) || e != api.OK {
			t.Errorf("Forward(%v) = %v, %d, not %v", x.l, got, e, x.want)
		}
		if got, e := ntt.Back(x.want); !slices.Equal(got, below(x.l)) || e != api.OK {
			t.Errorf("Back(%v) = %v, %d, not %v", x.want, got, e, below(x.l))
		}
	}
	if got, e := ntt.Back([]uint64{top}); !slices.Equal(got, []uint64{1<<32 - 2}) || e != api.OK {
		t.Errorf("Back of the greatest word = %v, %d", got, e)
	}
	if got, e := ntt.Back([]uint64{p + 3, top}); !slices.Equal(got, []uint64{1<<31 + p/2 + 1, p/2 + 3 - 1<<31}) || e != api.OK { // half of 2^32 + 1, and of 5 - 2^32
		t.Errorf("Back of words above p = %v, %d", got, e)
	}
}

// TestForward: P7.2, element by element, for lengths up to 256; and of what Back returns.
func TestForward(t *testing.T) {
	for k := range 9 {
		for _, l := range rows(1 << k) {
			if k > 5 && l[0] == l[len(l)-1] {
				continue // the longer ones take their time
			}
			if got, e := ntt.Forward(l); !slices.Equal(got, forward(l)) || e != api.OK {
				t.Errorf("Forward(%v) = %v, %d", l, got, e)
			}
			if got, e := ntt.Back(l); !slices.Equal(forward(got), below(l)) || e != api.OK {
				t.Errorf("Back(%v) = %v, %d", l, got, e)
			}
		}
	}
}

// TestLengths: P7.2, lengths that are no power of 2, or too great, or both.
func TestLengths(t *testing.T) {
	room := plain(2*most+1, 1)
	for _, x := range []struct {
		n int
		e api.Errno
	}{
		{0, api.ErrArg}, {3, api.ErrArg}, {5, api.ErrArg}, {6, api.ErrArg}, {7, api.ErrArg}, {9, api.ErrArg}, {12, api.ErrArg}, {1000, api.ErrArg}, {1023, api.ErrArg}, {1025, api.ErrArg},
		{most - 1, api.ErrArg}, {most + 1, api.ErrArg}, {most + most/2, api.ErrArg}, {2*most - 1, api.ErrArg}, {2*most + 1, api.ErrArg}, {2 * most, api.ErrLong},
	} {
		for _, f := range transforms {
			if got, e := f.f(room[:x.n]); len(got) != 0 || e != x.e {
				t.Errorf("%s of %d elements: %d elements, %d, not %d", f.name, x.n, len(got), e, x.e)
			}
		}
	}
	for _, f := range transforms {
		if got, e := f.f(nil); len(got) != 0 || e != api.ErrArg {
			t.Errorf("%s of nil = %v, %d", f.name, got, e)
		}
	}
}

// TestBoth: P7.3, Back of Forward and Forward of Back are the original slice, for every length there is.
func TestBoth(t *testing.T) {
	for k := range 21 {
		n := 1 << k
		l := [][]uint64{plain(n, uint64(k)), slices.Repeat(edges(), n/8+1)[:n], slices.Repeat([]uint64{top}, n)}
		if k < 8 {
			l = rows(n)
		}
		for _, a := range l {
			for i, f := range transforms {
				there, e := f.f(a)
				back, e2 := transforms[1-i].f(there)
				if !slices.Equal(back, below(a)) || e != api.OK || e2 != api.OK {
					t.Errorf("%s, then %s of 2^%d elements: %d, %d, not what there was", f.name, transforms[1-i].name, k, e, e2)
				}
			}
		}
	}
}

// TestLong: P7.2, some elements of the longest transforms.
func TestLong(t *testing.T) {
	for _, k := range []int{10, 15, 19, 20} {
		n := 1 << k
		l := plain(n, uint64(k))
		there, _ := ntt.Forward(l)
		back, _ := ntt.Back(l)
		if len(there) != n || len(back) != n {
			t.Fatalf("transforms of %d elements have %d and %d", n, len(there), len(back))
		}
		for _, j := range []int{0, 1, 2, 3, n/2 - 1, n / 2, n/2 + 1, n/3 + 5, n - 2, n - 1} {
			x := power(root(n), uint64(j))
			if want := at(l, x); there[j] != want {
				t.Errorf("the element %d of Forward of 2^%d is %d, not %d", j, k, there[j], want)
			}
			if want := at(back, x); l[j]%p != want {
				t.Errorf("the element %d of what Back is of is %d, not %d", j, l[j]%p, want)
			}
		}
	}
}

// TestSums: P7.3, the transform of a sum is the sum of the transforms, that of a multiple the multiple; the first element is the sum of all.
func TestSums(t *testing.T) {
	for _, k := range []int{0, 1, 2, 3, 5, 8, 13} {
		n := 1 << k
		l := [][]uint64{plain(n, 1), plain(n, 2), slices.Repeat(edges(), n)[:n], slices.Repeat([]uint64{top, p, 1}, n)[:n], only(n, n-1, p-1)}
		for _, a := range l {
			for _, b := range l {
				sum, multiple := make([]uint64, n), make([]uint64, n)
				for i := range n {
					sum[i], multiple[i] = plus(a[i], b[i]), times(a[i], top)
				}
				for _, f := range transforms {
					gotA, _ := f.f(a)
					gotB, _ := f.f(b)
					got, _ := f.f(sum)
					gotMultiple, _ := f.f(multiple)
					for i := range n {
						if got[i] != plus(gotA[i], gotB[i]) || gotMultiple[i] != times(gotA[i], top) {
							t.Fatalf("%s of 2^%d elements: the element %d is not that of the sum or of the multiple", f.name, k, i)
						}
					}
				}
			}
			var all uint64
			for _, w := range a {
				all = plus(all, w)
			}
			if got, _ := ntt.Forward(a); got[0] != all {
				t.Errorf("Forward of 2^%d elements begins with %d, not with their sum %d", k, got[0], all)
			}
		}
	}
}

// calls are what every function makes of a slice.
func calls(l []uint64) map[string][]uint64 {
	r := map[string][]uint64{"Weigh by 1": ntt.Weigh(l, 1), "Weigh": ntt.Weigh(l, 7), "Powers": ntt.Powers(7, len(l))}
	for _, f := range transforms {
		r[f.name], _ = f.f(l)
	}
	return r
}

// TestNew: R3 and R4, arguments are left as they are, with the room behind them; results are new memory, each for itself, and the same in every call.
func TestNew(t *testing.T) {
	const kept = 0x5555
	for _, n := range []int{0, 1, 2, 3, 4, 8, 64} {
		for _, l := range append(rows(max(n, 1)), nil) {
			l = l[:min(n, len(l))]
			keptRoom := append(slices.Clone(l), kept, kept)
			room := slices.Clone(keptRoom)
			got, want := calls(room[:len(l)]), calls(l)
			for name, r := range got {
				if !slices.Equal(r, want[name]) {
					t.Fatalf("%s of %v is %v where it was %v, or shares memory with another", name, l, r, want[name])
				}
				r = r[:cap(r)]
				for i := range r {
					r[i] = ^r[i]
				}
				if !slices.Equal(room, keptRoom) {
					t.Fatalf("%s of %v shares memory with it: %v", name, l, room)
				}
			}
		}
	}
}
