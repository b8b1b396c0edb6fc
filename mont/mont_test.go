package mont_test

import (
	"math/big"
	"testing"

	"tallystick/api"
	"tallystick/mont"
)

const (
	top  = 1<<64 - 1
	most = 1<<31 - 1 // the greatest number that has parameters, a prime
)

func whole(a uint64) *big.Int { return new(big.Int).SetUint64(a) }

// shifted is a times 2^n modulo m; a negative n divides.
func shifted(m uint32, a *big.Int, n int) uint32 {
	mod := whole(uint64(m))
	by := new(big.Int).Exp(big.NewInt(2), big.NewInt(int64(n)), mod)
	return uint32(by.Mul(by, a).Mod(by, mod).Uint64())
}

// next are words without any pattern, the same ones in every run.
func next(s uint64) uint64 {
	s ^= s << 13
	s ^= s >> 7
	return s ^ s<<17
}

// moduli are odd numbers from 3 to the greatest: small ones, about the powers of 2, the primes of the document, and such without any pattern.
func moduli() []uint32 {
	l := []uint32{
		3, 5, 7, 9, 11, 13, 15, 17, 21, 255, 257, 65535, 65537, 1<<24 - 1, 1<<24 + 1, 0x55555555, 0x2aaaaaab,
		1<<30 - 1, 1<<30 + 1, most - 4, most - 2, most, api.PrimeA, api.PrimeB, api.PrimeC,
	}
	for s, i := uint64(2463534242), 0; i < 16; i++ {
		s = next(s)
		l = append(l, uint32(s>>33>>(uint(i)%4*7))|1)
	}
	return l
}

// words are the edges of a number that is taken in: of a word's range, of half a word, and about m and its multiples.
func words(m uint32) []uint64 {
	n := uint64(m)
	l := []uint64{
		0, 1, 2, 3, n / 2, n/2 + 1, n - 2, n - 1, n, n + 1, 2*n - 1, 2 * n, 1<<31 - 1, 1 << 31,
		1<<32 - 2, 1<<32 - 1, 1 << 32, 1<<32 + 1, n<<32 - 1, n << 32, n<<32 + 1, n * n, 1<<63 - 1, 1 << 63,
		top / n * n, top/n*n - 1, top - 1<<32, top - 1<<32 + 1, top - 1, top,
	}
	for s, i := uint64(88172645463325252), 0; i < 16; i++ {
		s = next(s)
		l = append(l, s>>(uint(i)%4*13))
	}
	return l
}

// forms are numbers below m, those at the edges among them.
func forms(m uint32) []uint32 {
	l := []uint32{0, 1, 2, m / 3, m / 2, m/2 + 1, m - 2, m - 1, uint32(1 << 32 % uint64(m))}
	for s, i := uint64(362436069), 0; i < 8; i++ {
		s = next(s)
		l = append(l, uint32(s%uint64(m)))
	}
	return l
}

func made(t *testing.T, m uint32) api.Mont {
	t.Helper()
	x, e := mont.Make(m)
	if e != api.OK {
		t.Fatalf("Make(%d): error %d", m, e)
	}
	return x
}

// TestMakeExamples: P3.1, parameters that the chapter tells, and some that are reckoned by hand.
func TestMakeExamples(t *testing.T) {
	for _, want := range []api.Mont{
		{M: 3, Neg: 1431655765, One: 1, Square: 1},
		{M: 5, Neg: 858993459, One: 1, Square: 1},
		{M: 7, Neg: 1227133513, One: 4, Square: 2},
		{M: 65537, Neg: 65535, One: 1, Square: 1},
		{M: most, Neg: 1<<31 + 1, One: 2, Square: 4},
		{M: api.PrimeA, Neg: 998244351, One: 301989884, Square: 932051910},
	} {
		if got, e := mont.Make(want.M); got != want || e != api.OK {
			t.Errorf("Make(%d) = %v, %d, not %v", want.M, got, e, want)
		}
	}
}

// TestMakeRefused: P3.1 and R2, numbers that are even, too small or too great have no parameters.
func TestMakeRefused(t *testing.T) {
	for _, m := range []uint32{
		0, 1, 2, 4, 6, 8, 10, 998244352, 1<<30 - 2, 1 << 30, most - 1, 1 << 31, most + 2, most + 3,
		1<<31 + 3, 0xaaaaaaab, 1<<32 - 3, 1<<32 - 2, 1<<32 - 1,
	} {
		if x, e := mont.Make(m); x != (api.Mont{}) || e != api.ErrArg {
			t.Errorf("Make(%d) = %v, %d", m, x, e)
		}
	}
}

// parameters holds what Make answers against the words of the chapter.
func parameters(t *testing.T, m uint32) {
	t.Helper()
	x, e := mont.Make(m)
	if e != api.OK || x.M != m || x.Neg*m != 1<<32-1 {
		t.Errorf("Make(%d) = %v, %d", m, x, e)
	}
	one := uint64(1<<32) % uint64(m)
	if x.One != uint32(one) || x.Square != uint32(one*one%uint64(m)) {
		t.Errorf("Make(%d) = %v", m, x)
	}
}

// TestMake: P3.1, the parameters of all small numbers, of the greatest ones, and of many between.
func TestMake(t *testing.T) {
	for _, m := range moduli() {
		parameters(t, m)
	}
	for i := range uint32(1000) {
		parameters(t, 3+2*i)
		parameters(t, most-2*i)
	}
	s := uint64(521288629)
	for range 1000 {
		s = next(s)
		parameters(t, max(3, uint32(s>>33)|1))
	}
}

// redc holds Redc against a division by 2^32 of a number of any length.
func redc(t *testing.T, x api.Mont, n uint64) {
	t.Helper()
	got := mont.Redc(x, n)
	if want := shifted(x.M, whole(n), -32); got != want {
		t.Errorf("Redc(%d, %d) = %d, not %d", x.M, n, got, want)
	}
}

// TestRedc: P3.1, the numbers at the edges below m times 2^32, and such without any pattern.
func TestRedc(t *testing.T) {
	for _, m := range moduli() {
		x, n := made(t, m), uint64(m)
		end := n << 32
		for _, k := range []uint64{0, 1, 2, n - 1, n, n + 1, 1<<32 - 1, 1 << 32, 1<<32 + 1, 2 << 32, n * (1<<32 - 1), end/2 - 1, end / 2, end - 1<<32 - 1, end - 1<<32, end - n, end - 2, end - 1} {
			redc(t, x, k%end)
		}
		for _, k := range words(m) {
			redc(t, x, k%end)
		}
	}
}

// TestRedcRests: P3.1, numbers whose rest is at the edges, so that the last step is needed or just not.
func TestRedcRests(t *testing.T) {
	for _, m := range moduli() {
		x, n := made(t, m), uint64(m)
		for _, r := range []uint64{0, 1, 2, n / 2, n - 2, n - 1} {
			for _, k := range []uint64{0, 1, 2, 1 << 31, 1<<32 - 2, 1<<32 - 1} {
				number := (r<<32%n + k*n) % (n << 32)
				if got := mont.Redc(x, number); got != uint32(r) {
					t.Errorf("Redc(%d, %d) = %d, not %d", m, number, got, r)
				}
			}
		}
	}
}

// TestInOut: P3.1 and P3.3, forms against numbers of any length, and every number taken in and out again, modulo m.
func TestInOut(t *testing.T) {
	for _, m := range moduli() {
		x := made(t, m)
		for _, a := range words(m) {
			form := mont.In(x, a)
			if want := shifted(m, whole(a), 32); form != want {
				t.Errorf("In(%d, %d) = %d, not %d", m, a, form, want)
			}
			if got := mont.Out(x, form); got != uint32(a%uint64(m)) {
				t.Errorf("Out(%d, In(%d)) = %d", m, a, got)
			}
		}
		for _, a := range forms(m) {
			got := mont.Out(x, a)
			if want := shifted(m, whole(uint64(a)), -32); got != want || got != mont.Redc(x, uint64(a)) {
				t.Errorf("Out(%d, %d) = %d, not %d", m, a, got, want)
			}
			if back := mont.In(x, uint64(got)); back != a {
				t.Errorf("In(%d, Out(%d)) = %d", m, a, back)
			}
		}
		if mont.In(x, 1) != x.One || mont.In(x, uint64(x.One)) != x.Square || mont.Out(x, x.One) != 1 || mont.Out(x, x.Square) != x.One {
			t.Errorf("modulo %d the parameters %v are not the forms of 1 and of 2^32", m, x)
		}
	}
}

// TestSmall: P3.1 to P3.3, all numbers modulo the smallest m.
func TestSmall(t *testing.T) {
	for m := uint32(3); m < 40; m += 2 {
		x := made(t, m)
		for a := range m {
			form := mont.In(x, uint64(a))
			if form != uint32(uint64(a)<<32%uint64(m)) || mont.Out(x, form) != a {
				t.Errorf("In(%d, %d) = %d, and out again %d", m, a, form, mont.Out(x, form))
			}
			for b := range m {
				product := mont.Mul(x, form, mont.In(x, uint64(b)))
				if product != mont.In(x, uint64(a*b)) || mont.Out(x, product) != a*b%m {
					t.Errorf("modulo %d %d times %d is %d", m, a, b, mont.Out(x, product))
				}
			}
		}
	}
}

// TestMul: P3.2, products of forms at the edges against numbers of any length.
func TestMul(t *testing.T) {
	for _, m := range moduli() {
		x := made(t, m)
		for _, a := range forms(m) {
			for _, b := range forms(m) {
				product := uint64(a) * uint64(b)
				got, want := mont.Mul(x, a, b), shifted(m, whole(product), -32)
				if got != want || got != mont.Redc(x, product) {
					t.Errorf("Mul(%d, %d, %d) = %d, not %d", m, a, b, got, want)
				}
			}
			if got := mont.Mul(x, a, x.One); got != a {
				t.Errorf("Mul(%d, %d, One) = %d", m, a, got)
			}
		}
	}
}

// TestProducts: P3.3, products of forms are the forms of the products.
func TestProducts(t *testing.T) {
	for _, m := range moduli() {
		x := made(t, m)
		for _, a := range words(m) {
			for _, b := range words(m) {
				product := new(big.Int).Mul(whole(a), whole(b))
				got := mont.Mul(x, mont.In(x, a), mont.In(x, b))
				if want := shifted(m, product, 32); got != want {
					t.Errorf("modulo %d the product of the forms of %d and %d is %d, not %d", m, a, b, got, want)
				}
				if want := shifted(m, product, 0); mont.Out(x, got) != want {
					t.Errorf("modulo %d %d times %d is %d, not %d", m, a, b, mont.Out(x, got), want)
				}
			}
		}
	}
}

// TestPowExamples: P3.2, powers that the chapter tells, and such of 0, of 1 and of -1.
func TestPowExamples(t *testing.T) {
	x := made(t, api.PrimeA)
	if got := mont.Pow(x, 5, 0); got != x.One {
		t.Errorf("Pow(5, 0) = %d, not One, %d", got, x.One)
	}
	if got := mont.Out(x, mont.Pow(x, mont.In(x, 3), 998244352)); got != 1 {
		t.Errorf("3 to the power of 998244352 is %d", got)
	}
	for _, m := range moduli() {
		x := made(t, m)
		minus := m - x.One
		for _, p := range []struct {
			a    uint32
			n    uint64
			want uint32
		}{
			{0, 0, x.One}, {x.One, 0, x.One}, {m - 1, 0, x.One}, {m - 1, 1, m - 1}, {0, 1, 0}, {0, 2, 0}, {0, top, 0},
			{x.One, 1, x.One}, {x.One, top, x.One}, {minus, 1, minus}, {minus, 2, x.One}, {minus, top - 1, x.One}, {minus, top, minus},
		} {
			if got := mont.Pow(x, p.a, p.n); got != p.want {
				t.Errorf("Pow(%d, %d, %d) = %d, not %d", m, p.a, p.n, got, p.want)
			}
		}
	}
}

// TestPow: P3.2, powers against numbers of any length; no bit of the exponent is lost.
func TestPow(t *testing.T) {
	for _, m := range moduli() {
		x, mod := made(t, m), whole(uint64(m))
		exponents := words(m)
		for k := range 64 {
			exponents = append(exponents, 1<<k)
		}
		for _, n := range exponents {
			for _, a := range forms(m) {
				number := whole(uint64(mont.Out(x, a)))
				want := shifted(m, number.Exp(number, whole(n), mod), 32)
				if got := mont.Pow(x, a, n); got != want {
					t.Errorf("Pow(%d, %d, %d) = %d, not %d", m, a, n, got, want)
				}
			}
		}
	}
}
