package ring_test

import (
	"math"
	"math/bits"
	"slices"
	"testing"

	"tallystick/api"
	"tallystick/ring"
)

const (
	p    = api.Prime
	top  = 1<<64 - 1
	most = 1 << api.MaxLog // how many elements a transform has at most
)

// plus is a sum modulo p, by a division.
func plus(a, b uint64) uint64 {
	sum, carry := bits.Add64(a, b, 0)
	return bits.Rem64(carry, sum, p)
}

// times is a product modulo p, by a division.
func times(a, b uint64) uint64 {
	hi, lo := bits.Mul64(a, b)
	return bits.Rem64(hi, lo, p)
}

// less is a difference modulo p.
func less(a, b uint64) uint64 { return plus(a, p-b%p) }

// product is a convolution: every product of two elements is put into the place that to tells for the sum of their indices; where it tells so, it is subtracted.
func product(a, b []uint64, n int, to func(i int) (int, bool)) []uint64 {
	r := make([]uint64, n)
	for i, x := range a {
		for j, y := range b {
			at, minus := to(i + j)
			if minus {
				r[at] = less(r[at], times(x, y))
			} else {
				r[at] = plus(r[at], times(x, y))
			}
		}
	}
	return r
}

// cyclic is a cyclic product, term by term.
func cyclic(a, b []uint64) []uint64 {
	n := len(a)
	return product(a, b, n, func(i int) (int, bool) { return i % n, false })
}

// nega is a negacyclic product, term by term.
func nega(a, b []uint64) []uint64 {
	n := len(a)
	return product(a, b, n, func(i int) (int, bool) { return i % n, i >= n })
}

// plain is a plain product, term by term.
func plain(a, b []uint64) []uint64 {
	if len(a) == 0 || len(b) == 0 {
		return nil
	}
	return product(a, b, len(a)+len(b)-1, func(i int) (int, bool) { return i, false })
}

// element is what the products of the elements i of a and j of b with i + j = n come to.
func element(a, b []uint64, n int) uint64 {
	var sum uint64
	for i := max(0, n-len(b)+1); i < min(len(a), n+1); i++ {
		sum = plus(sum, times(a[i], b[n-i]))
	}
	return sum
}

// at is the sum of all l[i] times x to the power of i.
func at(l []uint64, x uint64) uint64 {
	var sum uint64
	for _, a := range slices.Backward(l) {
		sum = plus(times(sum, x), a)
	}
	return sum
}

// below tells whether all elements are below p.
func below(l []uint64) bool {
	return !slices.ContainsFunc(l, func(a uint64) bool { return a >= p })
}

// random are n words without any pattern, the same ones in every run.
func random(n int, seed uint64) []uint64 {
	l := make([]uint64, n)
	for i := range l {
		seed = seed*6364136223846793005 + 1442695040888963407
		l[i] = seed ^ seed>>29
	}
	return l
}

// edges are the words about the edges of a word, of half a word and of p.
func edges() []uint64 {
	return []uint64{top, p - 1, 1, p, 0, 1<<32 - 1, 1 << 32, p + 1, 2, p - 2, 1 << 63, p - 1<<32, p + 1<<31, top - 1, 1<<63 - 1, 3}
}

// only are n elements that are 0, but for one.
func only(n, i int, w uint64) []uint64 {
	l := make([]uint64, n)
	l[i] = w
	return l
}

// rows are slices of n elements: of one word throughout, of one word that is not 0, of the edges, and without any pattern.
func rows(n int) [][]uint64 {
	if n == 0 {
		return [][]uint64{nil, {}}
	}
	l := [][]uint64{only(n, 0, 1), only(n, n-1, 1), only(n, n/2, p-1), only(n, n/3, top)}
	for _, w := range []uint64{0, 1, p - 1, p, top} {
		l = append(l, slices.Repeat([]uint64{w}, n))
	}
	return append(l, slices.Repeat(edges(), n)[:n], slices.Repeat(edges(), n)[5:n+5], random(n, 1), random(n, 2))
}

// method is a convolution, with what it is term by term.
type method struct {
	name string
	f    func(a, b []uint64) ([]uint64, api.Errno)
	want func(a, b []uint64) []uint64
}

// same are the methods for slices of the same length.
var same = []method{{"Cyclic", ring.Cyclic, cyclic}, {"Nega", ring.Nega, nega}}

// all are all methods.
var all = append([]method{{"Plain", ring.Plain, plain}}, same...)

// holds tells of a method that does not return what the products come to, for a and b in either order.
func (m method) holds(t *testing.T, a, b []uint64) {
	t.Helper()
	want := m.want(a, b)
	for _, x := range [][2][]uint64{{a, b}, {b, a}} {
		if got, e := m.f(x[0], x[1]); !slices.Equal(got, want) || e != api.OK {
			t.Errorf("%s(%v, %v) = %v, %d, not %v", m.name, x[0], x[1], got, e, want)
		}
	}
}

// TestPointsExamples: P8.1, the chapter's example, words above p, and slices of different lengths.
func TestPointsExamples(t *testing.T) {
	for _, x := range []struct{ a, b, want []uint64 }{
		{[]uint64{1, 2, 0, p - 1}, []uint64{7, 7}, []uint64{7, 14}}, {[]uint64{1, 2, 0, p - 1}, []uint64{7, 7, 7, 7}, []uint64{7, 14, 0, p - 7}},
		{nil, nil, nil}, {nil, []uint64{1}, nil}, {[]uint64{}, []uint64{1, 2}, nil}, {[]uint64{5}, nil, nil},
		{[]uint64{3}, []uint64{5, 6, 7}, []uint64{15}}, {[]uint64{p - 1, p - 1}, []uint64{p - 1, 2}, []uint64{1, p - 2}},
		{[]uint64{p, p + 1, top, top}, []uint64{9, 9, 1, top}, []uint64{0, 9, 1<<32 - 2, p - 3<<32 + 3}}, // (2^32 - 2)^2 is 2^64 - 4 2^32 + 4
		{[]uint64{1 << 32}, []uint64{1 << 32}, []uint64{1<<32 - 1}},
	} {
		if got := ring.Points(x.a, x.b); !slices.Equal(got, x.want) {
			t.Errorf("Points(%v, %v) = %v, not %v", x.a, x.b, got, x.want)
		}
		if got := ring.Points(x.b, x.a); !slices.Equal(got, x.want) {
			t.Errorf("Points(%v, %v) = %v, not %v", x.b, x.a, got, x.want)
		}
	}
}

// TestPoints: P8.1, every element, for any lengths.
func TestPoints(t *testing.T) {
	for n := range 12 {
		for m := range 12 {
			for _, a := range rows(n) {
				for _, b := range rows(m) {
					var want []uint64
					for i := range min(n, m) {
						want = append(want, times(a[i], b[i]))
					}
					if got := ring.Points(a, b); !slices.Equal(got, want) {
						t.Errorf("Points(%v, %v) = %v, not %v", a, b, got, want)
					}
				}
			}
		}
	}
	a, b := random(3*most+1, 3), random(3*most, 4) // longer than any transform
	got := ring.Points(a, b)
	if len(got) != 3*most {
		t.Fatalf("Points of %d and %d elements are %d", len(a), len(b), len(got))
	}
	for i := range got {
		if got[i] != times(a[i], b[i]) {
			t.Fatalf("the point %d of %d and %d is %d", i, a[i], b[i], got[i])
		}
	}
}

// TestUp: P8.1, numbers about every power of 2, such below 1, and such above 2^30.
func TestUp(t *testing.T) {
	for _, x := range []struct{ n, want int }{
		{5, 8}, {1 << 40, 1 << 30}, {0, 1}, {-1, 1}, {-8, 1}, {math.MinInt, 1}, {math.MinInt + 1, 1}, {-1 << 40, 1},
		{1, 1}, {2, 2}, {3, 4}, {4, 4}, {6, 8}, {7, 8}, {8, 8}, {9, 16}, {1 << 20, 1 << 20}, {1<<20 + 1, 1 << 21},
		{1<<29 + 1, 1 << 30}, {1<<30 - 1, 1 << 30}, {1 << 30, 1 << 30}, {1<<30 + 1, 1 << 30}, {1 << 31, 1 << 30}, {1<<31 + 1, 1 << 30},
		{1 << 32, 1 << 30}, {1<<32 + 1, 1 << 30}, {1 << 62, 1 << 30}, {1<<62 + 1, 1 << 30}, {math.MaxInt, 1 << 30}, {math.MaxInt - 1, 1 << 30},
	} {
		if got := ring.Up(x.n); got != x.want {
			t.Errorf("Up(%d) = %d, not %d", x.n, got, x.want)
		}
	}
	want := 1
	for n := 1; n < 5000; n++ {
		if n > want {
			want *= 2
		}
		if got := ring.Up(n); got != want {
			t.Errorf("Up(%d) = %d, not %d", n, got, want)
		}
	}
	for k := 1; k < 30; k++ {
		for _, n := range []int{1<<k - 1, 1 << k, 1<<k + 1, 1<<k + 1<<(k-1)} {
			if got := ring.Up(n); got < n || got/2 >= n || bits.OnesCount(uint(got)) != 1 {
				t.Errorf("Up(%d) = %d", n, got)
			}
		}
	}
}

// TestExamples: P8.2 and P8.3, what the chapter tells, slices of one element, and words above p.
func TestExamples(t *testing.T) {
	for _, x := range []struct{ a, b, cyclic, nega, plain []uint64 }{
		{[]uint64{1, 2}, []uint64{3, 4}, []uint64{11, 10}, []uint64{p - 5, 10}, []uint64{3, 10, 8}},
		{[]uint64{p + 1, p + 2}, []uint64{p + 3, 4}, []uint64{11, 10}, []uint64{p - 5, 10}, []uint64{3, 10, 8}},
		{[]uint64{3}, []uint64{5}, []uint64{15}, []uint64{15}, []uint64{15}},
		{[]uint64{p - 1}, []uint64{p - 1}, []uint64{1}, []uint64{1}, []uint64{1}},
		{[]uint64{p}, []uint64{top}, []uint64{0}, []uint64{0}, []uint64{0}},
		{[]uint64{top}, []uint64{1}, []uint64{1<<32 - 2}, []uint64{1<<32 - 2}, []uint64{1<<32 - 2}},
		{[]uint64{0, 1}, []uint64{0, 1}, []uint64{1, 0}, []uint64{p - 1, 0}, []uint64{0, 0, 1}},
		{[]uint64{0, 0}, []uint64{p, top}, []uint64{0, 0}, []uint64{0, 0}, []uint64{0, 0, 0}},
		{[]uint64{1, 1, 1, 1}, []uint64{1, 1, 1, 1}, []uint64{4, 4, 4, 4}, []uint64{p - 2, 0, 2, 4}, []uint64{1, 2, 3, 4, 3, 2, 1}},
		{[]uint64{0, 0, 0, 1}, []uint64{1, 2, 3, 4}, []uint64{2, 3, 4, 1}, []uint64{p - 2, p - 3, p - 4, 1}, []uint64{0, 0, 0, 1, 2, 3, 4}},
	} {
		for _, m := range []struct {
			name string
			f    func(a, b []uint64) ([]uint64, api.Errno)
			want []uint64
		}{{"Cyclic", ring.Cyclic, x.cyclic}, {"Nega", ring.Nega, x.nega}, {"Plain", ring.Plain, x.plain}} {
			if got, e := m.f(x.a, x.b); !slices.Equal(got, m.want) || e != api.OK {
				t.Errorf("%s(%v, %v) = %v, %d, not %v", m.name, x.a, x.b, got, e, m.want)
			}
		}
	}
}

// TestRound: P8.2, cyclic and negacyclic products, term by term.
func TestRound(t *testing.T) {
	for _, m := range same {
		for k := range 6 {
			for _, a := range rows(1 << k) {
				for _, b := range rows(1 << k) {
					m.holds(t, a, b)
				}
			}
		}
		for k := 6; k < 10; k++ {
			m.holds(t, random(1<<k, 5), random(1<<k, 6))
			m.holds(t, slices.Repeat(edges(), 1<<k/16), slices.Repeat([]uint64{top, p - 1}, 1<<k/2))
		}
	}
}

// TestRoundLong: P8.2, some elements of the longest products.
func TestRoundLong(t *testing.T) {
	for _, k := range []int{16, 19, 20} {
		n := 1 << k
		a, b := random(n, 7), random(n, 8)
		gotC, e := ring.Cyclic(a, b)
		if len(gotC) != n || e != api.OK || !below(gotC) {
			t.Fatalf("Cyclic of 2^%d elements has %d, %d", k, len(gotC), e)
		}
		gotN, e := ring.Nega(a, b)
		if k == api.MaxLog {
			if len(gotN) != 0 || e != api.ErrLong {
				t.Errorf("Nega of 2^%d elements has %d, %d", k, len(gotN), e)
			}
			gotN = nil
		} else if len(gotN) != n || e != api.OK || !below(gotN) {
			t.Fatalf("Nega of 2^%d elements has %d, %d", k, len(gotN), e)
		}
		for _, i := range []int{0, 1, n/2 - 1, n/3 + 5, n - 2, n - 1} {
			low, high := element(a, b, i), element(a, b, i+n)
			if gotC[i] != plus(low, high) {
				t.Errorf("the element %d of Cyclic of 2^%d is %d, not %d", i, k, gotC[i], plus(low, high))
			}
			if gotN != nil && gotN[i] != less(low, high) {
				t.Errorf("the element %d of Nega of 2^%d is %d, not %d", i, k, gotN[i], less(low, high))
			}
		}
	}
}

// TestRoundErrors: P8.2, different lengths come first, then what is no power of 2, then what is too long.
func TestRoundErrors(t *testing.T) {
	room := random(4*most, 9)
	for _, x := range []struct {
		n, m         int
		cyclic, nega api.Errno
	}{
		{4, 3, api.ErrArg, api.ErrArg}, {3, 4, api.ErrArg, api.ErrArg}, {3, 3, api.ErrArg, api.ErrArg}, {0, 0, api.ErrArg, api.ErrArg},
		{0, 1, api.ErrArg, api.ErrArg}, {1, 0, api.ErrArg, api.ErrArg}, {1, 2, api.ErrArg, api.ErrArg}, {2, 4, api.ErrArg, api.ErrArg}, {4, 2, api.ErrArg, api.ErrArg},
		{5, 5, api.ErrArg, api.ErrArg}, {6, 6, api.ErrArg, api.ErrArg}, {12, 12, api.ErrArg, api.ErrArg}, {1023, 1023, api.ErrArg, api.ErrArg}, {1025, 1025, api.ErrArg, api.ErrArg},
		{most - 1, most - 1, api.ErrArg, api.ErrArg}, {most + 1, most + 1, api.ErrArg, api.ErrArg}, {3 * most, 3 * most, api.ErrArg, api.ErrArg},
		{most, most - 1, api.ErrArg, api.ErrArg}, {most, most / 2, api.ErrArg, api.ErrArg}, {most / 2, most, api.ErrArg, api.ErrArg}, {1, most, api.ErrArg, api.ErrArg}, {most, 0, api.ErrArg, api.ErrArg},
		{2 * most, most, api.ErrArg, api.ErrArg}, {most, 2 * most, api.ErrArg, api.ErrArg}, {4 * most, 2 * most, api.ErrArg, api.ErrArg}, {2 * most, 3, api.ErrArg, api.ErrArg},
		{2 * most, 2 * most, api.ErrLong, api.ErrLong}, {4 * most, 4 * most, api.ErrLong, api.ErrLong}, {most, most, api.OK, api.ErrLong},
	} {
		got, e := ring.Cyclic(room[:x.n], room[:x.m])
		if e != x.cyclic || e != api.OK && len(got) != 0 {
			t.Errorf("Cyclic of %d and %d elements: %d elements, %d, not %d", x.n, x.m, len(got), e, x.cyclic)
		}
		if got, e := ring.Nega(room[:x.n], room[:x.m]); e != x.nega || len(got) != 0 {
			t.Errorf("Nega of %d and %d elements: %d elements, %d, not %d", x.n, x.m, len(got), e, x.nega)
		}
	}
	for _, m := range same {
		for n := range 70 {
			if bits.OnesCount(uint(n)) == 1 {
				continue
			}
			if got, e := m.f(room[:n], room[n:2*n]); e != api.ErrArg || len(got) != 0 {
				t.Errorf("%s of %d elements = %v, %d", m.name, n, got, e)
			}
		}
	}
}

// TestPlain: P8.3, plain products, term by term, for any lengths.
func TestPlain(t *testing.T) {
	m := all[0]
	for n := range 10 {
		for k := range n + 1 {
			for _, a := range rows(n) {
				for _, b := range rows(k) {
					m.holds(t, a, b)
				}
			}
		}
	}
	for _, n := range []int{1, 2, 15, 16, 17, 31, 32, 33, 64, 100} {
		for k := range 70 {
			m.holds(t, random(n, 1), random(k, 2))
		}
	}
	m.holds(t, random(513, 3), slices.Repeat([]uint64{top}, 512)) // one product has 2^10 elements
	m.holds(t, random(513, 3), slices.Repeat([]uint64{top}, 513))
	m.holds(t, random(3000, 4), random(7, 5))
}

// TestPlainEmpty: P8.3, a product with an empty slice is empty, however long the other one is.
func TestPlainEmpty(t *testing.T) {
	for _, n := range []int{0, 1, 2, 3, 1000, most - 1, most, most + 1, most + 2, 3 * most} {
		for _, empty := range [][]uint64{nil, {}} {
			for _, x := range [][2][]uint64{{empty, random(n, 1)}, {random(n, 1), empty}} {
				if got, e := ring.Plain(x[0], x[1]); len(got) != 0 || e != api.OK {
					t.Errorf("Plain of %d and %d elements: %d elements, %d", len(x[0]), len(x[1]), len(got), e)
				}
			}
		}
	}
	if got, e := ring.Square(nil); len(got) != 0 || e != api.OK {
		t.Errorf("Square of nil = %v, %d", got, e)
	}
}

// TestPlainLong: P8.3, the longest products, and such as are too long.
func TestPlainLong(t *testing.T) {
	room := random(4*most, 10)
	for _, x := range []struct {
		n, m int
		e    api.Errno
	}{
		{most, 1, api.OK}, {1, most, api.OK}, {most / 2, most/2 + 1, api.OK}, {3, most - 7, api.OK}, {most / 4, most/4 + 2, api.OK},
		{most, 2, api.ErrLong}, {2, most, api.ErrLong}, {most + 1, 1, api.ErrLong}, {1, most + 1, api.ErrLong}, {most/2 + 1, most/2 + 1, api.ErrLong}, {most, most, api.ErrLong}, {2 * most, 1, api.ErrLong}, {1, 4 * most, api.ErrLong}, {4 * most, 4 * most, api.ErrLong},
	} {
		a, b := room[:x.n], room[4*most-x.m:]
		got, e := ring.Plain(a, b)
		want := 0
		if x.e == api.OK {
			want = x.n + x.m - 1
		}
		if len(got) != want || e != x.e || !below(got) {
			t.Errorf("Plain of %d and %d elements: %d elements, %d, not %d", x.n, x.m, len(got), e, x.e)
			continue
		}
		for _, w := range random(3, 11) { // two polynomials that differ agree in few places
			if e == api.OK && at(got, w) != times(at(a, w), at(b, w)) {
				t.Errorf("Plain of %d and %d elements is another polynomial", x.n, x.m)
			}
		}
	}
}

// TestSquare: P8.3, the chapter's example, Plain of a and a, and the longest there are.
func TestSquare(t *testing.T) {
	if got, e := ring.Square([]uint64{1, 1, 1}); !slices.Equal(got, []uint64{1, 2, 3, 2, 1}) || e != api.OK {
		t.Errorf("Square of 1, 1, 1 = %v, %d", got, e)
	}
	for _, n := range []int{0, 1, 2, 3, 4, 5, 8, 9, 16, 17, 100} {
		for _, a := range rows(n) {
			if got, e := ring.Square(a); !slices.Equal(got, plain(a, a)) || e != api.OK {
				t.Errorf("Square(%v) = %v, %d", a, got, e)
			}
		}
	}
	room := random(2*most, 12)
	for _, x := range []struct {
		n, want int
		e       api.Errno
	}{{most / 2, most - 1, api.OK}, {most/2 - 1, most - 3, api.OK}, {most/2 + 1, 0, api.ErrLong}, {most, 0, api.ErrLong}, {2 * most, 0, api.ErrLong}} {
		a := room[:x.n]
		got, e := ring.Square(a)
		if len(got) != x.want || e != x.e || !below(got) {
			t.Errorf("Square of %d elements: %d elements, %d, not %d, %d", x.n, len(got), e, x.want, x.e)
			continue
		}
		if e == api.OK && at(got, 5) != times(at(a, 5), at(a, 5)) {
			t.Errorf("Square of %d elements is another polynomial", x.n)
		}
	}
}

// TestLaws: P8.4, products are the same in either order, and however they are bracketed.
func TestLaws(t *testing.T) {
	for _, m := range all {
		for _, n := range []int{1, 2, 4, 16, 128, 4096} {
			l := [][]uint64{random(n, 1), random(n, 2), random(n, 3), slices.Repeat(edges(), n)[:n]}
			for i, a := range l {
				for _, b := range l[:i] {
					ab, e := m.f(a, b)
					ba, e2 := m.f(b, a)
					if !slices.Equal(ab, ba) || e != api.OK || e2 != api.OK {
						t.Errorf("%s of two slices of %d elements: %d, %d, not the same in either order", m.name, n, e, e2)
					}
					c := l[(i+1)%4]
					if m.name == "Plain" {
						c = c[:n/2+1] // others may have any lengths as well
					}
					left, e := m.f(ab, c)
					bc, _ := m.f(b, c)
					right, e2 := m.f(a, bc)
					if !slices.Equal(left, right) || e != api.OK || e2 != api.OK {
						t.Errorf("%s of three slices of %d elements: %d, %d, not the same however bracketed", m.name, n, e, e2)
					}
				}
			}
		}
	}
}

// TestFolded: P8.4, the elements of Plain whose indices differ by n, added or subtracted.
func TestFolded(t *testing.T) {
	for _, k := range []int{0, 1, 2, 3, 4, 5, 6, 7, 8, 10, 13, 16, 19} {
		n := 1 << k
		l := [][]uint64{random(n, 1), slices.Repeat(edges(), n/16+1)[:n]}
		if k < 8 {
			l = rows(n)
		}
		for _, a := range l {
			b := l[len(l)-1]
			got, _ := ring.Plain(a, b)
			gotC, e := ring.Cyclic(a, b)
			gotN, e2 := ring.Nega(a, b)
			if len(got) != 2*n-1 || len(gotC) != n || len(gotN) != n || e != api.OK || e2 != api.OK {
				t.Fatalf("products of %d elements have %d, %d and %d, %d, %d", n, len(got), len(gotC), len(gotN), e, e2)
			}
			got = append(got, 0)
			for i := range n {
				if gotC[i] != plus(got[i], got[i+n]) || gotN[i] != less(got[i], got[i+n]) {
					t.Fatalf("the elements %d of products of %d: %d, cyclically %d, negacyclically %d", i, n, got[i], gotC[i], gotN[i])
				}
			}
		}
	}
}

// calls are what every function makes of two slices.
func calls(a, b []uint64) map[string][]uint64 {
	r := map[string][]uint64{"Points": ring.Points(a, b)}
	for _, m := range all {
		r[m.name], _ = m.f(a, b)
		r[m.name+" of one slice"], _ = m.f(a, a)
	}
	r["Square"], _ = ring.Square(b)
	return r
}

// TestNew: R3 and R4, arguments are left as they are, with the room behind them; results are new memory, each for itself, and the same in every call.
func TestNew(t *testing.T) {
	const kept = 0x5555
	for _, n := range []int{0, 1, 2, 3, 4, 8, 64} {
		for _, a := range rows(n) {
			for _, b := range rows(n) {
				keptRoom := slices.Concat(a, []uint64{kept, kept}, b, []uint64{kept})
				room := slices.Clone(keptRoom)
				got, want := calls(room[:n], room[n+2:2*n+2]), calls(a, b)
				for name, r := range got {
					if !slices.Equal(r, want[name]) {
						t.Fatalf("%s of %v and %v is %v where it was %v, or shares memory with another", name, a, b, r, want[name])
					}
					r = r[:cap(r)]
					for i := range r {
						r[i] = ^r[i]
					}
					if !slices.Equal(room, keptRoom) {
						t.Fatalf("%s of %v and %v shares memory with them: %v", name, a, b, room)
					}
				}
			}
		}
	}
}
