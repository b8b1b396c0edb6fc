package nat_test

import (
	"math"
	"math/big"
	"slices"
	"testing"

	"tallystick/api"
	"tallystick/nat"
)

const top = 1<<64 - 1

// next are words without any pattern, the same ones in every run.
func next(s uint64) uint64 {
	s ^= s << 13
	s ^= s >> 7
	return s ^ s<<17
}

// numbers are 0, short numbers and long ones, about the edges of their words, such with 0 within, and such without any pattern; some are not normalized.
func numbers() [][]uint64 {
	l := [][]uint64{
		nil, {}, {0}, {0, 0, 0}, {1}, {2}, {5}, {7, 0}, {0, 7, 0, 0}, {1 << 63}, {top - 1}, {top}, {top, 0, 0},
		{0, 1}, {1, 1}, {0, 2}, {9, 1}, {0, 4}, {top, 1}, {0, top}, {1, top}, {1 << 63, 1}, {1<<63 - 1, 1 << 63}, {top, top}, {top - 1, top}, {top, top - 1},
		{0, 0, 1}, {1, 0, 1}, {0, 0, 3}, {top, 0, 1}, {0, top, 1}, {0, 1, 1 << 63, 0}, {top, top, top}, {top, 0, top}, {1, 0, 0, 1}, {0, 0, 0, top}, {top, top, top, top, 0},
	}
	s := uint64(88172645463325252)
	for n := range 9 {
		for k := range 3 {
			a := make([]uint64, n+k)
			for i := range n {
				s = next(s)
				a[i] = s >> (s % 5 * 13)
			}
			l = append(l, a)
		}
	}
	return append(l, slices.Repeat([]uint64{top}, 40), append(make([]uint64, 40), 1))
}

// moves are how far numbers are moved: about the edges of words, beyond all numbers, and negative ones.
func moves() []int {
	l := []int{math.MinInt, math.MinInt + 1, -64, -1}
	for _, n := range []int{0, 64, 128, 192, 256, 320, 512, 64 * 40} {
		l = append(l, n, n+1, n+2, n+13, n+31, n+32, n+33, n+62, n+63)
	}
	return l
}

// far are moves that only 0 may be moved up by, and that nothing is left of below.
var far = []int{1 << 31, 1 << 32, 1<<40 + 5, math.MaxInt - 64, math.MaxInt - 1, math.MaxInt}

// whole is the number of a slice.
func whole(a []uint64) *big.Int {
	n := new(big.Int)
	for _, w := range slices.Backward(a) {
		n.Lsh(n, 64).Or(n, new(big.Int).SetUint64(w))
	}
	return n
}

// slice is the normalized slice of a number.
func slice(n *big.Int) []uint64 {
	var a []uint64
	for n = new(big.Int).Set(n); n.Sign() != 0; n.Rsh(n, 64) {
		a = append(a, new(big.Int).And(n, new(big.Int).SetUint64(top)).Uint64())
	}
	return a
}

// is holds an answer against the one that is wanted, word by word.
func is(t *testing.T, what string, got []uint64, want *big.Int, from ...any) {
	t.Helper()
	if !slices.Equal(got, slice(want)) {
		t.Errorf("%s of %v is %v, not %v", what, from, got, slice(want))
	}
}

// up is a move as it counts.
func up(n int) uint { return uint(max(n, 0)) }

// TestNorm: P4.1, zeros at the end only are cut off.
func TestNorm(t *testing.T) {
	for _, x := range []struct{ a, want []uint64 }{
		{nil, nil}, {[]uint64{0}, nil}, {[]uint64{0, 0, 0}, nil}, {[]uint64{0, 7, 0, 0}, []uint64{0, 7}},
		{[]uint64{7}, []uint64{7}}, {[]uint64{0, 0, 1}, []uint64{0, 0, 1}}, {[]uint64{top, 0}, []uint64{top}},
	} {
		if got := nat.Norm(x.a); !slices.Equal(got, x.want) {
			t.Errorf("Norm(%v) = %v, not %v", x.a, got, x.want)
		}
	}
	for _, a := range numbers() {
		is(t, "Norm", nat.Norm(a), whole(a), a)
	}
}

// TestCmp: P4.1, the chapter's example, and all numbers against each other.
func TestCmp(t *testing.T) {
	for _, x := range []struct {
		a, b []uint64
		want int
	}{
		{nil, nil, 0}, {nil, []uint64{0, 0}, 0}, {[]uint64{9, 1}, []uint64{0, 2}, -1}, {[]uint64{0, 2}, []uint64{9, 1}, 1},
		{[]uint64{5}, []uint64{6, 0}, -1}, {[]uint64{6, 0}, []uint64{5}, 1}, {[]uint64{6, 0}, []uint64{6}, 0},
		{[]uint64{top}, []uint64{0, 1}, -1}, {[]uint64{1, 7}, []uint64{2, 7}, -1}, {[]uint64{top, 7}, []uint64{1, 7}, 1},
		{[]uint64{1 << 63}, []uint64{1}, 1}, {[]uint64{2, 5, 0}, []uint64{1, 6, 0, 0}, -1},
	} {
		if got := nat.Cmp(x.a, x.b); got != x.want {
			t.Errorf("Cmp(%v, %v) = %d", x.a, x.b, got)
		}
	}
	for _, a := range numbers() {
		for _, b := range numbers() {
			if got := nat.Cmp(a, b); got != whole(a).Cmp(whole(b)) {
				t.Errorf("Cmp(%v, %v) = %d", a, b, got)
			}
		}
	}
}

// TestAdd: P4.1, carries through all words, and all sums against numbers of any length.
func TestAdd(t *testing.T) {
	for _, x := range []struct{ a, b, want []uint64 }{
		{nil, nil, nil}, {[]uint64{0}, []uint64{0, 0}, nil}, {[]uint64{2}, []uint64{3, 0}, []uint64{5}},
		{[]uint64{top}, []uint64{1}, []uint64{0, 1}}, {[]uint64{top, top}, []uint64{1, 0, 0}, []uint64{0, 0, 1}},
		{[]uint64{1, 0, 0}, []uint64{top, top}, []uint64{0, 0, 1}}, {[]uint64{top, top}, []uint64{top, top}, []uint64{top - 1, top, 1}},
		{[]uint64{1, 0, 9}, []uint64{top, top}, []uint64{0, 0, 10}}, {nil, []uint64{1, 2, 0}, []uint64{1, 2}},
	} {
		if got := nat.Add(x.a, x.b); !slices.Equal(got, x.want) {
			t.Errorf("Add(%v, %v) = %v, not %v", x.a, x.b, got, x.want)
		}
	}
	for _, a := range numbers() {
		for _, b := range numbers() {
			is(t, "Add", nat.Add(a, b), new(big.Int).Add(whole(a), whole(b)), a, b)
		}
	}
}

// TestSub: P4.1, borrows through all words, and the error of a number that is less, beside which there is no result.
func TestSub(t *testing.T) {
	for _, x := range []struct {
		a, b, want []uint64
		e          api.Errno
	}{
		{nil, nil, nil, api.OK}, {[]uint64{5}, []uint64{6, 0}, nil, api.ErrLess}, {[]uint64{6, 0}, []uint64{5}, []uint64{1}, api.OK},
		{[]uint64{6, 0}, []uint64{6, 0, 0}, nil, api.OK}, {[]uint64{0, 0, 1}, []uint64{1}, []uint64{top, top}, api.OK},
		{nil, []uint64{1}, nil, api.ErrLess}, {[]uint64{0, 0}, []uint64{0}, nil, api.OK}, {[]uint64{9, 1}, []uint64{0, 2}, nil, api.ErrLess},
		{[]uint64{0, 2}, []uint64{9, 1}, []uint64{top - 8}, api.OK}, {[]uint64{top, top}, []uint64{0, 0, 1}, nil, api.ErrLess},
	} {
		if got, e := nat.Sub(x.a, x.b); !slices.Equal(got, x.want) || e != x.e {
			t.Errorf("Sub(%v, %v) = %v, %d, not %v, %d", x.a, x.b, got, e, x.want, x.e)
		}
	}
	for _, a := range numbers() {
		for _, b := range numbers() {
			got, e := nat.Sub(a, b)
			want, wantE := new(big.Int).Sub(whole(a), whole(b)), api.OK
			if want.Sign() < 0 {
				want, wantE = new(big.Int), api.ErrLess
			}
			if is(t, "Sub", got, want, a, b); e != wantE {
				t.Errorf("Sub(%v, %v): error %d", a, b, e)
			}
		}
	}
}

// TestScale: P4.1, products that carry as much as may be carried, and products with 0.
func TestScale(t *testing.T) {
	for _, x := range []struct {
		a    []uint64
		w    uint64
		want []uint64
	}{
		{nil, top, nil}, {[]uint64{0, 0}, top, nil}, {[]uint64{5, 7}, 0, nil}, {[]uint64{5, 7, 0}, 1, []uint64{5, 7}},
		{[]uint64{top}, top, []uint64{1, top - 1}}, {[]uint64{top, top}, top, []uint64{1, top, top - 1}}, {[]uint64{1 << 63, 1}, 2, []uint64{0, 3}},
	} {
		if got := nat.Scale(x.a, x.w); !slices.Equal(got, x.want) {
			t.Errorf("Scale(%v, %d) = %v, not %v", x.a, x.w, got, x.want)
		}
	}
	for _, a := range numbers() {
		for _, w := range []uint64{0, 1, 2, 3, 10, 1<<32 - 1, 1 << 32, 1<<63 - 1, 1 << 63, 0x123456789abcdef, top - 1, top} {
			is(t, "Scale", nat.Scale(a, w), new(big.Int).Mul(whole(a), new(big.Int).SetUint64(w)), a, w)
		}
	}
}

// TestLen: P4.1, every length about the edges of words, and zeros at the end, which do not count.
func TestLen(t *testing.T) {
	for _, x := range []struct {
		a    []uint64
		want int
	}{{nil, 0}, {[]uint64{0, 0}, 0}, {[]uint64{1}, 1}, {[]uint64{0, 4}, 67}, {[]uint64{0, 4, 0, 0}, 67}, {[]uint64{top}, 64}, {[]uint64{0, 1}, 65}} {
		if got := nat.Len(x.a); got != x.want {
			t.Errorf("Len(%v) = %d, not %d", x.a, got, x.want)
		}
	}
	for _, a := range numbers() {
		if got := nat.Len(a); got != whole(a).BitLen() {
			t.Errorf("Len(%v) = %d", a, got)
		}
	}
	for n := range 300 {
		if got := nat.Len(nat.Shl([]uint64{1}, n)); got != n+1 {
			t.Errorf("Len of 2^%d is %d", n, got)
		}
	}
}

// TestMoveExamples: P4.2, moves that the chapter tells, and such at the edges.
func TestMoveExamples(t *testing.T) {
	for _, x := range []struct {
		name string
		f    func([]uint64, int) []uint64
		a    []uint64
		n    int
		want []uint64
	}{
		{"Shl", nat.Shl, []uint64{1 << 63, 1}, 65, []uint64{0, 0, 3}},
		{"Shl", nat.Shl, []uint64{5}, 0, []uint64{5}},
		{"Shl", nat.Shl, []uint64{5, 0}, -1, []uint64{5}},
		{"Shl", nat.Shl, []uint64{5}, 64, []uint64{0, 5}},
		{"Shl", nat.Shl, []uint64{top, 0}, 63, []uint64{1 << 63, 1<<63 - 1}},
		{"Shr", nat.Shr, []uint64{5}, 64, nil},
		{"Shr", nat.Shr, []uint64{5}, 3, nil},
		{"Shr", nat.Shr, []uint64{5}, 2, []uint64{1}},
		{"Shr", nat.Shr, []uint64{5, 0}, -7, []uint64{5}},
		{"Shr", nat.Shr, []uint64{0, 1}, 63, []uint64{2}},
		{"Shr", nat.Shr, []uint64{7, 5, 0}, 64, []uint64{5}},
		{"Shr", nat.Shr, []uint64{7, 5, 0}, 128, nil},
		{"Low", nat.Low, []uint64{top, top}, 66, []uint64{top, 3}},
		{"Low", nat.Low, []uint64{top, top}, 64, []uint64{top}},
		{"Low", nat.Low, []uint64{top, top}, 0, nil},
		{"Low", nat.Low, []uint64{top, top}, -5, nil},
		{"Low", nat.Low, []uint64{8, 1}, 3, nil},
		{"Low", nat.Low, []uint64{5, 0, 0}, 128, []uint64{5}},
		{"Low", nat.Low, []uint64{5, 0, 1}, 128, []uint64{5}},
	} {
		if got := x.f(x.a, x.n); !slices.Equal(got, x.want) {
			t.Errorf("%s(%v, %d) = %v, not %v", x.name, x.a, x.n, got, x.want)
		}
	}
}

// TestMoves: P4.2, moves by all that is about the edges of words, and by negative numbers, which count as 0.
func TestMoves(t *testing.T) {
	for _, a := range numbers() {
		for _, n := range moves() {
			is(t, "Shl", nat.Shl(a, n), new(big.Int).Lsh(whole(a), up(n)), a, n)
			is(t, "Shr", nat.Shr(a, n), new(big.Int).Rsh(whole(a), up(n)), a, n)
			is(t, "Low", nat.Low(a, n), low(a, n), a, n)
		}
	}
}

// low is the remainder of a and 2^n.
func low(a []uint64, n int) *big.Int {
	one := big.NewInt(1)
	mask := new(big.Int).Lsh(one, up(n))
	return mask.And(mask.Sub(mask, one), whole(a))
}

// TestFar: P4.2 and R1, moves beyond every number: down nothing is left, the lowest bits are all, and 0 remains 0.
func TestFar(t *testing.T) {
	for _, n := range far {
		for _, a := range numbers() {
			is(t, "Shr", nat.Shr(a, n), new(big.Int), a, n)
			is(t, "Low", nat.Low(a, n), whole(a), a, n)
		}
		for _, zero := range [][]uint64{nil, {}, {0}, {0, 0, 0}} {
			is(t, "Shl", nat.Shl(zero, n), new(big.Int), zero, n)
		}
	}
	for _, n := range []int{1 << 40, math.MaxInt - 63, math.MaxInt} { // the document leaves open what these are, but they end without a panic
		nat.Shl([]uint64{top, top}, n)
	}
}

// TestBack: P4.3, what was added is taken off again, from either side.
func TestBack(t *testing.T) {
	for _, a := range numbers() {
		for _, b := range numbers() {
			sum := nat.Add(a, b)
			if got, e := nat.Sub(sum, b); !slices.Equal(got, nat.Norm(a)) || e != api.OK {
				t.Errorf("%v and %v, less the latter: %v, %d", a, b, got, e)
			}
			if got, e := nat.Sub(sum, a); !slices.Equal(got, nat.Norm(b)) || e != api.OK {
				t.Errorf("%v and %v, less the former: %v, %d", a, b, got, e)
			}
		}
	}
}

// TestParts: P4.3, a number is the sum of Shl of its Shr, and its Low.
func TestParts(t *testing.T) {
	for _, a := range numbers() {
		for _, n := range moves() {
			parts := nat.Add(nat.Shl(nat.Shr(a, n), n), nat.Low(a, n))
			if !slices.Equal(parts, nat.Norm(a)) {
				t.Errorf("%v, cut at %d, is %v", a, n, parts)
			}
			if got := nat.Shr(nat.Shl(a, n), n); !slices.Equal(got, nat.Norm(a)) {
				t.Errorf("%v, moved up by %d and down again, is %v", a, n, got)
			}
		}
	}
}

// calls are what every function makes of two numbers.
func calls(a, b []uint64) map[string][]uint64 {
	l := map[string][]uint64{"Norm": nat.Norm(a), "Add": nat.Add(a, b)}
	l["Sub"], _ = nat.Sub(a, b)
	for _, n := range []int{-1, 0, 1, 64, 70, 128, 1 << 20} {
		name := big.NewInt(int64(n)).String()
		l["Shl by "+name], l["Shr by "+name], l["Low of "+name] = nat.Shl(a, n), nat.Shr(a, n), nat.Low(a, n)
	}
	for _, w := range []uint64{0, 1, top} {
		l["Scale by "+new(big.Int).SetUint64(w).String()] = nat.Scale(a, w)
	}
	return l
}

// TestNew: R3, arguments are left as they are, with the room behind them, and results are new memory.
func TestNew(t *testing.T) {
	const kept = 0x5555
	for _, a := range numbers() {
		for _, b := range [][]uint64{{}, {1}, {top, 0}, {0, 0, 1}, a} {
			roomA, roomB := append(slices.Clone(a), kept, kept), append(slices.Clone(b), kept, kept)
			argA, argB := roomA[:len(a)], roomB[:len(b)]
			nat.Cmp(argA, argB)
			nat.Len(argA)
			for name, got := range calls(argA, argB) {
				for i := range got {
					got[i] = ^got[i]
				}
				if got = append(got, 1); cap(got) > 0 {
					clear(got[:cap(got)])
				}
				if !slices.Equal(roomA, append(slices.Clone(a), kept, kept)) || !slices.Equal(roomB, append(slices.Clone(b), kept, kept)) {
					t.Fatalf("%s of %v and %v shares memory with them: %v, %v", name, a, b, roomA, roomB)
				}
			}
		}
	}
}
