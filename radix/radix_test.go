package radix_test

import (
	"math"
	"math/big"
	"slices"
	"strings"
	"testing"

	"tallystick/api"
	"tallystick/nat"
	"tallystick/quot"
	"tallystick/radix"
)

const (
	top       = 1<<64 - 1
	maxBits   = 128000
	maxDigits = 38000
)

// random are n words without any pattern, the same ones in every run.
func random(n int, seed uint64) []uint64 {
	a := make([]uint64, n)
	for i := range a {
		seed = seed*6364136223846793005 + 1442695040888963407
		a[i] = seed ^ seed>>30
	}
	return a
}

// full are n words with all their bits.
func full(n int) []uint64 { return slices.Repeat([]uint64{top}, n) }

// zeros are n words more above a number, which they leave as it is.
func zeros(a []uint64, n int) []uint64 { return slices.Concat(a, make([]uint64, n)) }

// number is that of a slice.
func number(a []uint64) *big.Int {
	n := new(big.Int)
	for _, w := range slices.Backward(a) {
		n.Lsh(n, 64).Or(n, new(big.Int).SetUint64(w))
	}
	return n
}

// slice is that of a number.
func slice(n *big.Int) []uint64 {
	var a []uint64
	for n = new(big.Int).Set(n); n.Sign() > 0; n.Rsh(n, 64) {
		a = append(a, new(big.Int).And(n, number([]uint64{top})).Uint64())
	}
	return a
}

// ten is 10^n.
func ten(n int) *big.Int {
	return new(big.Int).Exp(big.NewInt(10), big.NewInt(int64(n)), nil)
}

// near is n and so much more; 0, if that would be negative.
func near(n *big.Int, more int64) []uint64 {
	return slice(new(big.Int).Add(n, big.NewInt(more)))
}

// power is 2^n and so much more.
func power(n int, more int64) []uint64 {
	return near(new(big.Int).Lsh(big.NewInt(1), uint(n)), more)
}

// is tells whether a slice is a number, and normalized.
func is(a []uint64, n *big.Int) bool {
	return len(a) == (n.BitLen()+63)/64 && number(a).Cmp(n) == 0
}

// exponents are small ones, those about the powers of a tower and their sums, and the greatest.
func exponents() []int {
	var l []int
	for n := range 120 {
		l = append(l, n)
	}
	for n := 19; n < maxDigits; n *= 2 {
		l = append(l, n-1, n, n+1, n+19, n+38, n*3/2, n*3/2+1)
	}
	return append(l, 12345, 28804, 37999, maxDigits)
}

// numbers are short ones and longer ones, about powers of 2 and of 10, full ones and such without any pattern; some are not normalized.
func numbers() [][]uint64 {
	l := [][]uint64{nil, {}, {0}, {0, 0, 0}, {1}, {7, 0}, {9}, {10}, {42}, {top}, {top, 0, 0}, {0, 1 << 63}, {0, 0, 3, 0}}
	for n := range 600 {
		l = append(l, power(n, -1), power(n, 0), power(n, 1))
	}
	for n := range 40 {
		for cut := range uint(4) {
			l = append(l, slice(new(big.Int).Rsh(number(random(n, uint64(n))), 17*cut)))
		}
		l = append(l, zeros(full(n), n%3), slices.Concat(make([]uint64, n), random(1, 7)), slices.Concat(random(n, 8), []uint64{1, 0}))
	}
	for _, n := range exponents() {
		l = append(l, near(ten(n), -1), near(ten(n), 0), near(ten(n), 1))
	}
	for n := 63; n <= maxBits; n *= 2 { // where numbers are halved once more
		l = append(l, power(n, -1), power(n, 0), random(n/64+1, uint64(n)))
	}
	return append(l, power(maxBits, -1), power(maxBits-1, 0), random(2000, 3), zeros(random(1999, 4), 50), slices.Concat(random(2, 5), make([]uint64, 1900), random(2, 6)))
}

// tooLong are numbers of too many bits.
func tooLong() [][]uint64 {
	return [][]uint64{power(maxBits, 0), power(maxBits, 1), zeros(power(maxBits, 0), 3), full(2001), random(2001, 1), power(maxBits+63, 0), random(4096, 2), random(9000, 3)}
}

// TestTen: P13.1, all small powers, others to the greatest, and such as there are not.
func TestTen(t *testing.T) {
	for _, n := range exponents() {
		if got, e := radix.Ten(n); e != api.OK || !is(got, ten(n)) {
			t.Errorf("Ten(%d) errs: %d words, %d", n, len(got), e)
		}
	}
	for _, x := range []struct {
		n int
		e api.Errno
	}{{-1, api.ErrArg}, {-2, api.ErrArg}, {-38001, api.ErrArg}, {math.MinInt, api.ErrArg}, {38001, api.ErrLong}, {38002, api.ErrLong}, {1 << 40, api.ErrLong}, {1 << 62, api.ErrLong}, {math.MaxInt, api.ErrLong}} {
		if got, e := radix.Ten(x.n); len(got) != 0 || e != x.e {
			t.Errorf("Ten(%d) = %d words, %d, not %d", x.n, len(got), e, x.e)
		}
	}
}

// TestTower: P13.1, all towers, and such as there are not.
func TestTower(t *testing.T) {
	for k := range 11 {
		l, e := radix.Tower(k)
		if e != api.OK || len(l) != k {
			t.Fatalf("Tower(%d) = %d numbers, %d", k, len(l), e)
		}
		for i, got := range l {
			if !is(got, ten(19<<i)) {
				t.Errorf("Tower(%d) errs at %d", k, i)
			}
		}
	}
	for _, x := range []struct {
		k int
		e api.Errno
	}{{-1, api.ErrArg}, {-11, api.ErrArg}, {math.MinInt, api.ErrArg}, {11, api.ErrLong}, {12, api.ErrLong}, {1 << 40, api.ErrLong}, {math.MaxInt, api.ErrLong}} {
		if l, e := radix.Tower(x.k); len(l) != 0 || e != x.e {
			t.Errorf("Tower(%d) = %d numbers, %d, not %d", x.k, len(l), e, x.e)
		}
	}
}

// TestTextExamples: P13.2, what the chapter tells, and what is easily told.
func TestTextExamples(t *testing.T) {
	for _, x := range []struct {
		a    []uint64
		want string
	}{
		{[]uint64{0, 0}, "0"}, {nil, "0"}, {[]uint64{}, "0"}, {[]uint64{1}, "1"}, {[]uint64{9, 0}, "9"}, {[]uint64{10}, "10"}, {[]uint64{42}, "42"}, {[]uint64{100, 0, 0}, "100"}, {[]uint64{1234567890}, "1234567890"},
		{[]uint64{9999999999999999999}, "9999999999999999999"}, {[]uint64{10000000000000000000}, "10000000000000000000"}, {[]uint64{10000000000000000001}, "10000000000000000001"}, {[]uint64{top}, "18446744073709551615"}, {[]uint64{0, 1}, "18446744073709551616"}, {full(2), "340282366920938463463374607431768211455"},
	} {
		got, e := radix.Text(x.a)
		if got != x.want || e != api.OK {
			t.Errorf("Text(%v) = %q, %d, not %q", x.a, got, e, x.want)
		}
		if n, e := radix.Count(x.a); n != len(x.want) || e != api.OK {
			t.Errorf("Count(%v) = %d, %d, not %d", x.a, n, e, len(x.want))
		}
	}
}

// TestText: P13.2 and P13.4, numbers of every length against those of any length, with their count, and read again.
func TestText(t *testing.T) {
	for _, a := range numbers() {
		want := number(a).Text(10)
		got, e := radix.Text(a)
		if got != want || e != api.OK {
			t.Errorf("Text errs for %d words: %d digits, %d, not %d", len(a), len(got), e, len(want))
		}
		if n, e := radix.Count(a); n != len(want) || e != api.OK {
			t.Errorf("Count of %d words is %d, %d, not %d", len(a), n, e, len(want))
		}
		back, e := radix.Parse(got)
		if len(got) <= maxDigits && (e != api.OK || !slices.Equal(back, nat.Norm(a))) {
			t.Errorf("Parse of Text of %d words: %d words, %d", len(a), len(back), e)
		}
	}
	for w := range uint64(3000) {
		if got, e := radix.Text([]uint64{w}); got != new(big.Int).SetUint64(w).Text(10) || e != api.OK {
			t.Errorf("Text(%d) = %q, %d", w, got, e)
		}
	}
}

// TestCountOfTens: P13.2, 10 to the power of n has n + 1 digits, and 1 less than that n.
func TestCountOfTens(t *testing.T) {
	for _, n := range append(exponents(), 38001, 38500, 38530) {
		if got, e := radix.Count(near(ten(n), 0)); got != n+1 || e != api.OK {
			t.Errorf("Count of 10^%d is %d, %d", n, got, e)
		}
		if got, e := radix.Count(near(ten(n), -1)); got != max(n, 1) || e != api.OK {
			t.Errorf("Count of 10^%d - 1 is %d, %d", n, got, e)
		}
	}
}

// TestTooLong: P13.2, numbers of too many bits, whatever number of digits is asked for.
func TestTooLong(t *testing.T) {
	for _, a := range tooLong() {
		if got, e := radix.Text(a); got != "" || e != api.ErrLong {
			t.Errorf("Text of %d bits is %d digits, %d", nat.Len(a), len(got), e)
		}
		if got, e := radix.Count(a); got != 0 || e != api.ErrLong {
			t.Errorf("Count of %d bits is %d, %d", nat.Len(a), got, e)
		}
		for _, n := range []int{math.MinInt, -1, 0, 5, maxDigits, maxDigits + 1, math.MaxInt} {
			if got, e := radix.Padded(a, n); got != "" || e != api.ErrLong {
				t.Errorf("Padded of %d bits and %d is %d digits, %d", nat.Len(a), n, len(got), e)
			}
		}
	}
}

// TestPaddedExamples: P13.2, what the chapter tells, 0, which has no digits here, and numbers of digits that are negative or too great.
func TestPaddedExamples(t *testing.T) {
	for _, x := range []struct {
		a    []uint64
		n    int
		want string
		e    api.Errno
	}{
		{[]uint64{42}, 5, "00042", api.OK}, {[]uint64{0}, 3, "000", api.OK}, {[]uint64{123}, 2, "", api.ErrArg},
		{nil, 1, "0", api.OK}, {nil, 0, "", api.OK}, {[]uint64{0, 0}, 0, "", api.OK}, {nil, -1, "", api.OK}, {[]uint64{0, 0, 0}, math.MinInt, "", api.OK},
		{[]uint64{1}, 1, "1", api.OK}, {[]uint64{1}, 0, "", api.ErrArg}, {[]uint64{1}, -1, "", api.ErrArg}, {[]uint64{5, 0}, math.MinInt, "", api.ErrArg}, {[]uint64{10, 0}, 2, "10", api.OK}, {[]uint64{10}, 1, "", api.ErrArg}, {[]uint64{99}, 2, "99", api.OK}, {[]uint64{100}, 2, "", api.ErrArg},
		{[]uint64{0, 1}, 20, "18446744073709551616", api.OK}, {[]uint64{0, 1, 0}, 22, "0018446744073709551616", api.OK}, {[]uint64{0, 1}, 19, "", api.ErrArg},
		{nil, maxDigits + 1, "", api.ErrLong}, {[]uint64{1}, maxDigits + 1, "", api.ErrLong}, {[]uint64{1}, math.MaxInt, "", api.ErrLong}, {slice(ten(maxDigits)), maxDigits, "", api.ErrArg}, {slice(ten(maxDigits)), maxDigits + 1, "", api.ErrLong}, {power(maxBits, -1), maxDigits, "", api.ErrArg},
	} {
		if got, e := radix.Padded(x.a, x.n); got != x.want || e != x.e {
			t.Errorf("Padded of %d words and %d = %q, %d, not %q, %d", len(x.a), x.n, got, e, x.want, x.e)
		}
	}
}

// TestPadded: P13.2, every length below, at and above that of the decimal.
func TestPadded(t *testing.T) {
	for i, a := range numbers() {
		s := number(a).Text(10)
		if s == "0" {
			s = ""
		}
		for _, n := range []int{0, 1, len(s) - 1, len(s), len(s) + 1, len(s) + i%50, 2 * len(s), maxDigits - 1, maxDigits} {
			want, wantE := "", api.ErrArg
			switch {
			case n > maxDigits:
				wantE = api.ErrLong
			case max(n, 0) >= len(s):
				want, wantE = strings.Repeat("0", max(n, 0)-len(s))+s, api.OK
			}
			if got, e := radix.Padded(a, n); got != want || e != wantE {
				t.Errorf("Padded of %d words and %d: %d digits, %d, not %d, %d", len(a), n, len(got), e, len(want), wantE)
			}
		}
	}
}

// TestParseExamples: P13.3, what the chapter tells, leading zeros, and strings that are no decimals.
func TestParseExamples(t *testing.T) {
	for _, x := range []struct {
		s    string
		want []uint64
		e    api.Errno
	}{
		{"007", []uint64{7}, api.OK}, {"0", nil, api.OK}, {"000", nil, api.OK}, {"9", []uint64{9}, api.OK}, {"10", []uint64{10}, api.OK}, {"9999999999999999999", []uint64{9999999999999999999}, api.OK}, {"10000000000000000000", []uint64{10000000000000000000}, api.OK},
		{"18446744073709551615", []uint64{top}, api.OK}, {"18446744073709551616", []uint64{0, 1}, api.OK}, {"00000000000000000000018446744073709551616", []uint64{0, 1}, api.OK}, {"340282366920938463463374607431768211455", full(2), api.OK},
		{"", nil, api.ErrForm}, {"12a", nil, api.ErrForm}, {"a12", nil, api.ErrForm}, {"1 2", nil, api.ErrForm}, {"-1", nil, api.ErrForm}, {"+1", nil, api.ErrForm}, {"1.0", nil, api.ErrForm}, {" 1", nil, api.ErrForm}, {"1\n", nil, api.ErrForm}, {"1_0", nil, api.ErrForm}, {"0x1", nil, api.ErrForm}, {"1e3", nil, api.ErrForm}, {"/", nil, api.ErrForm}, {":", nil, api.ErrForm}, {"\x00", nil, api.ErrForm}, {"\xff", nil, api.ErrForm}, {"٣", nil, api.ErrForm}, {"1\xb2", nil, api.ErrForm},
	} {
		if got, e := radix.Parse(x.s); !slices.Equal(got, x.want) || e != x.e {
			t.Errorf("Parse(%q) = %v, %d, not %v, %d", x.s, got, e, x.want, x.e)
		}
	}
}

// TestParseBytes: P13.3, every byte at the first, at the last and at a place between, of a short and of a long string.
func TestParseBytes(t *testing.T) {
	for b := range 256 {
		for _, length := range []int{1, 19, 20, 77} {
			for _, at := range []int{0, length / 2, length - 1} {
				s := []byte(strings.Repeat("3", length))
				s[at] = byte(b)
				_, e := radix.Parse(string(s))
				want := api.ErrForm
				if b >= '0' && b <= '9' {
					want = api.OK
				}
				if e != want {
					t.Errorf("Parse of %q is %d, not %d", s, e, want)
				}
			}
		}
	}
}

// TestParseLong: P13.3, strings as long as there may be, and too long ones, whatever they consist of.
func TestParseLong(t *testing.T) {
	if got, e := radix.Parse(strings.Repeat("9", maxDigits)); e != api.OK || !is(got, new(big.Int).Sub(ten(maxDigits), big.NewInt(1))) {
		t.Errorf("Parse of %d times 9 is %d words, %d", maxDigits, len(got), e)
	}
	if got, e := radix.Parse(strings.Repeat("0", maxDigits-1) + "5"); e != api.OK || !slices.Equal(got, []uint64{5}) {
		t.Errorf("Parse of 5 after zeros is %v, %d", got, e)
	}
	if got, e := radix.Parse(strings.Repeat("7", maxDigits-1) + "x"); len(got) != 0 || e != api.ErrForm {
		t.Errorf("Parse of what ends with x is %d words, %d", len(got), e)
	}
	for _, s := range []string{strings.Repeat("0", maxDigits+1), strings.Repeat("9", maxDigits+1), strings.Repeat("x", maxDigits+1), strings.Repeat("5", maxDigits) + "x", strings.Repeat("0", 1<<20)} {
		if got, e := radix.Parse(s); len(got) != 0 || e != api.ErrLong {
			t.Errorf("Parse of %d bytes is %d words, %d", len(s), len(got), e)
		}
	}
}

// TestParse: P13.3 and P13.4, strings of every length, with and without leading zeros, against numbers of any length; Text has their digits but those zeros.
func TestParse(t *testing.T) {
	lengths := exponents()
	for n := range 400 {
		lengths = append(lengths, n)
	}
	for _, n := range lengths {
		for lead := 0; lead < 60 && lead <= n; lead += 1 + lead + n/1000 {
			s := strings.Repeat("0", lead) + decimals(n-lead, uint64(n+lead))
			checkParse(t, s)
		}
	}
}

// decimals are n digits without any pattern, with some zeros in a row.
func decimals(n int, seed uint64) string {
	s := make([]byte, n)
	for i, w := range random(n, seed) {
		s[i] = '0'
		if i/23%3 > 0 || i%23 == 5 {
			s[i] += byte(w % 10)
		}
	}
	return string(s)
}

// checkParse compares the number of a string with one of any length, and its decimal with the string.
func checkParse(t *testing.T, s string) {
	t.Helper()
	if s == "" {
		return
	}
	want, _ := new(big.Int).SetString(s, 10)
	got, e := radix.Parse(s)
	if e != api.OK || !is(got, want) {
		t.Errorf("Parse errs for %d digits: %d words, %d", len(s), len(got), e)
	}
	digits := strings.TrimLeft(s, "0")
	if digits == "" {
		digits = "0"
	}
	if back, e := radix.Text(got); back != digits || e != api.OK {
		t.Errorf("Text of Parse of %d digits: %d digits, %d", len(s), len(back), e)
	}
	if back, e := radix.Padded(got, len(s)); back != s || e != api.OK {
		t.Errorf("Padded of Parse of %d digits: %d digits, %d", len(s), len(back), e)
	}
}

// TestTens: P13.1, powers multiply as their exponents add.
func TestTens(t *testing.T) {
	for n := 1; n < 800; n += 7 {
		a, _ := radix.Ten(n)
		b, _ := radix.Ten(n + 1)
		if q, left, e := quot.ByWord(b, 10); e != api.OK || left != 0 || !slices.Equal(q, a) {
			t.Errorf("Ten(%d) is not 10 times Ten(%d)", n+1, n)
		}
	}
}

// TestKept: R3 and R4, arguments are left as they are, with the room behind them; results are new memory, each for itself, and the same in every call.
func TestKept(t *testing.T) {
	const kept = 0x5555
	for _, a := range [][]uint64{nil, {0}, {1}, {10, 0}, {0, 0, 1}, full(3), random(90, 1), zeros(random(40, 2), 1)} {
		room := append(slices.Clone(a), kept, kept)
		whole := slices.Clone(room)
		want, _ := radix.Text(a)
		s, _ := radix.Text(room[:len(a)])
		p, _ := radix.Padded(room[:len(a)], 5000)
		n, _ := radix.Count(room[:len(a)])
		if s != want || len(p) != 5000 || strings.TrimLeft(p, "0") != strings.TrimLeft(want, "0") || n != len(s) || !slices.Equal(room, whole) {
			t.Errorf("the decimal of %d words changes, or changes them", len(a))
		}
	}
	checkNew(t, "Ten", func() [][]uint64 { a, _ := radix.Ten(77); return [][]uint64{a} })
	checkNew(t, "Parse", func() [][]uint64 { a, _ := radix.Parse(strings.Repeat("123", 50)); return [][]uint64{a} })
	checkNew(t, "Parse of a word", func() [][]uint64 { a, _ := radix.Parse("123"); return [][]uint64{a} })
	checkNew(t, "Tower", func() [][]uint64 { l, _ := radix.Tower(6); return l })
}

// checkNew changes all that a call returns, one slice after the other: the others, and what another call returns, stay as they were.
func checkNew(t *testing.T, name string, call func() [][]uint64) {
	t.Helper()
	got, want := call(), call()
	for i, r := range got {
		if !slices.Equal(r, want[i]) {
			t.Errorf("%s: the result %d is %v where it was %v, or shares memory with another", name, i, r, want[i])
		}
		r = r[:cap(r)]
		for k := range r {
			r[k] = ^r[k]
		}
	}
	for i, r := range call() {
		if !slices.Equal(r, want[i]) {
			t.Errorf("%s: the result %d of a later call is %v where it was %v", name, i, r, want[i])
		}
	}
}
