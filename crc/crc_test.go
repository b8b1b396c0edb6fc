package crc_test

import (
	"encoding/binary"
	"hash/crc32"
	"math"
	"slices"
	"strings"
	"testing"

	"tallystick/api"
	"tallystick/crc"
)

const (
	top     = 1<<64 - 1
	mostInt = 1<<31 - 1

	// places of fields in an encoding: behind the mark and Const, behind Digits, Guard, From and To, behind Minus.
	digitsAt, minusAt, numbersAt = 5, 21, 22
)

// next are words without any pattern, the same ones in every run.
func next(s *uint64) uint64 {
	*s = *s*6364136223846793005 + 1442695040888963407
	return *s ^ *s>>29
}

// random are n bytes without any pattern.
func random(n int, seed uint64) string {
	b := make([]byte, n)
	for i := range b {
		b[i] = byte(next(&seed) >> 40)
	}
	return string(b)
}

// number is one of n words without any pattern, the last of which is not 0.
func number(n int, seed uint64) []uint64 {
	a := make([]uint64, n)
	for i := range a {
		a[i] = next(&seed) | 1
	}
	return a
}

// sealed are bytes with their checksum behind them.
func sealed(s string) string {
	return string(binary.BigEndian.AppendUint32([]byte(s), crc32.ChecksumIEEE([]byte(s))))
}

// body is an encoding without its checksum.
func body(s string) string { return s[:len(s)-4] }

// with is an encoding with other bytes from a place on, sealed anew.
func with(s string, at int, bytes string) string {
	s = body(s)
	return sealed(s[:at] + bytes + s[at+len(bytes):])
}

// encoding is that of a record, field by field as the chapter lists them, valid or not.
func encoding(r api.Record) string {
	b := append([]byte("TALY"), byte(r.J.Const))
	for _, n := range []int{r.J.Digits, r.J.Guard, r.P.R.From, r.P.R.To} {
		b = binary.BigEndian.AppendUint32(b, uint32(n))
	}
	if r.P.Minus {
		b = append(b, 1)
	} else {
		b = append(b, 0)
	}
	for _, a := range [][]uint64{r.P.P, r.P.Q, r.P.T} {
		b = binary.BigEndian.AppendUint32(b, uint32(len(a)))
		for _, w := range a {
			b = binary.BigEndian.AppendUint64(b, w)
		}
	}
	return sealed(string(b))
}

// record has these ints, and numbers of so many words.
func record(c, digits, guard, from, to int, minus bool, p, q, t int) api.Record {
	return api.Record{
		J: api.Job{Const: c, Digits: digits, Guard: guard},
		P: api.Part{R: api.Range{From: from, To: to}, P: number(p, 1), Q: number(q, 2), T: number(t, 3), Minus: minus},
	}
}

// usual is a record with something in every field.
func usual() api.Record { return record(api.CPi, 30, 8, 16, 24, true, 2, 3, 1) }

// valid are records with nothing in them, with the greatest ints there are, and with numbers of all kinds.
func valid() []api.Record {
	l := []api.Record{
		{}, usual(), record(api.CE, 5, 8, 0, 4, false, 1, 1, 1), record(255, mostInt, mostInt, mostInt, mostInt, true, 1, 0, 0),
		record(0, 0, 0, mostInt, 0, true, 0, 1, 0), record(128, 1<<30, 255, 256, 65536, false, 0, 0, 5), record(254, 1, 1<<24, 0x01020304, 0x10203040, false, 0, 0, 0),
		{P: api.Part{P: []uint64{}, Q: []uint64{0, 0, 1}, T: []uint64{1}}},
		{P: api.Part{P: []uint64{top}, Q: []uint64{top, top}, T: []uint64{0, top}, Minus: true}},
		{P: api.Part{P: []uint64{0x0102030405060708}, Q: []uint64{1 << 63}, T: []uint64{1 << 56, 255}}},
	}
	for n := range 12 {
		l = append(l, record(n, n*n, 3, n, n+8, n%2 == 0, n, 2*n, 12-n))
	}
	for _, n := range []int{255, 256, 257, 1000, api.MaxLimb - 1, api.MaxLimb} {
		l = append(l, record(1, 2, 3, 4, 5, false, n, 0, 0), record(1, 2, 3, 4, 5, true, 0, n, 1), record(1, 2, 3, 4, 5, false, 1, 1, n))
	}
	return append(l, record(2, 3, 4, 5, 6, true, api.MaxLimb, api.MaxLimb, api.MaxLimb))
}

// changes make another record of one, each in a field of its own, of a record with something in every field.
func changes() map[string]func(r *api.Record) {
	return map[string]func(r *api.Record){
		"Const":      func(r *api.Record) { r.J.Const++ },
		"Digits":     func(r *api.Record) { r.J.Digits++ },
		"Guard":      func(r *api.Record) { r.J.Guard++ },
		"From":       func(r *api.Record) { r.P.R.From++ },
		"To":         func(r *api.Record) { r.P.R.To++ },
		"Minus":      func(r *api.Record) { r.P.Minus = !r.P.Minus },
		"P":          func(r *api.Record) { r.P.P[0]++ },
		"Q":          func(r *api.Record) { r.P.Q[2]++ },
		"T":          func(r *api.Record) { r.P.T[0] ^= 1 << 63 },
		"P, shorter": func(r *api.Record) { r.P.P = r.P.P[:1] },
		"Q, shorter": func(r *api.Record) { r.P.Q = r.P.Q[:2] },
		"T, shorter": func(r *api.Record) { r.P.T = nil },
		"P, longer":  func(r *api.Record) { r.P.P = append(r.P.P, 1) },
		"Q, longer":  func(r *api.Record) { r.P.Q = append(r.P.Q, 1) },
		"T, longer":  func(r *api.Record) { r.P.T = append(r.P.T, 1) },
	}
}

// empty tells whether nothing at all is in a record.
func empty(r api.Record) bool {
	p := r.P
	return r.J == api.Job{} && p.R == api.Range{} && !p.Minus && len(p.P)+len(p.Q)+len(p.T) == 0
}

// TestSumExamples: P14.1, what the chapter tells, and sums that are well known.
func TestSumExamples(t *testing.T) {
	for _, x := range []struct {
		s    string
		want uint32
	}{
		{"", 0}, {"123456789", 0xcbf43926}, {"a", 0xe8b7be43}, {"abc", 0x352441c2}, {"\x00", 0xd202ef8d}, {"\x00\x00\x00\x00", 0x2144df1c}, {"\xff", 0xff000000}, {"\xff\xff\xff\xff", 0xffffffff},
		{"The quick brown fox jumps over the lazy dog", 0x414fa339}, {strings.Repeat("\x00", 32), 0x190a55ad},
	} {
		if got := crc.Sum(x.s); got != x.want {
			t.Errorf("Sum(%q) = %08x, not %08x", x.s, got, x.want)
		}
	}
}

// TestSum: P14.1, every byte, every short length, and long ones.
func TestSum(t *testing.T) {
	for b := range 256 {
		for _, s := range []string{string([]byte{byte(b)}), "x" + string([]byte{byte(b)}) + "y"} {
			if got, want := crc.Sum(s), crc32.ChecksumIEEE([]byte(s)); got != want {
				t.Errorf("Sum(%q) = %08x, not %08x", s, got, want)
			}
		}
	}
	for n := range 300 {
		for _, s := range []string{random(n, uint64(n)), strings.Repeat("\x00", n), strings.Repeat("\xff", n)} {
			if got, want := crc.Sum(s), crc32.ChecksumIEEE([]byte(s)); got != want {
				t.Errorf("Sum of %d bytes = %08x, not %08x", n, got, want)
			}
		}
	}
	for _, n := range []int{4095, 4096, 65537, 1 << 20, 3000001} {
		s := random(n, 7)
		if got, want := crc.Sum(s), crc32.ChecksumIEEE([]byte(s)); got != want {
			t.Errorf("Sum of %d bytes = %08x, not %08x", n, got, want)
		}
	}
}

// TestSame: P14.1, every field counts, and numbers word by word.
func TestSame(t *testing.T) {
	l := valid()
	for i, a := range l {
		for k, b := range l {
			if got := crc.Same(a, b); got != (encoding(a) == encoding(b)) {
				t.Errorf("Same of the records %d and %d: %v", i, k, got)
			}
		}
	}
	for name, change := range changes() {
		r := usual()
		change(&r)
		if crc.Same(r, usual()) || crc.Same(usual(), r) {
			t.Errorf("another %s counts as the same", name)
		}
	}
	if a, b := (api.Record{P: api.Part{P: []uint64{5, 0}}}), (api.Record{P: api.Part{P: []uint64{5}}}); crc.Same(a, b) || crc.Same(b, a) || !crc.Same(a, a) {
		t.Error("5, 0 and 5 are not compared word by word")
	}
	if a, b := (api.Record{P: api.Part{P: []uint64{}, Q: []uint64{}, T: []uint64{}}}), (api.Record{}); !crc.Same(a, b) || !crc.Same(b, a) {
		t.Error("numbers without words are not the same")
	}
	if a, b := (api.Record{P: api.Part{P: []uint64{5}}}), (api.Record{P: api.Part{Q: []uint64{5}}}); crc.Same(a, b) {
		t.Error("P counts as Q")
	}
	if r := (api.Record{J: api.Job{Const: -1, Digits: math.MinInt, Guard: math.MaxInt}}); !crc.Same(r, r) {
		t.Error("a record that is not valid is not the same as itself")
	}
}

// TestBytesExamples: P14.1, encodings byte by byte.
func TestBytesExamples(t *testing.T) {
	none := "TALY" + strings.Repeat("\x00", 30)
	some := "TALY" + "\x02" + "\x00\x00\x00\x1e" + "\x00\x00\x00\x08" + "\x00\x01\x00\x02" + "\x7f\xff\xff\xff" + "\x01" +
		"\x00\x00\x00\x01" + "\x00\x00\x00\x00\x00\x00\x00\x05" +
		"\x00\x00\x00\x00" +
		"\x00\x00\x00\x02" + "\x01\x02\x03\x04\x05\x06\x07\x08" + "\x00\x00\x00\x00\x00\x00\x00\xff"
	r := api.Record{J: api.Job{Const: api.CPi, Digits: 30, Guard: 8}, P: api.Part{R: api.Range{From: 65538, To: mostInt}, P: []uint64{5}, T: []uint64{0x0102030405060708, 255}, Minus: true}}
	for _, x := range []struct {
		r    api.Record
		want string
	}{{api.Record{}, sealed(none)}, {r, sealed(some)}} {
		if got, e := crc.Bytes(x.r); got != x.want || e != api.OK {
			t.Errorf("Bytes = %q, %d, not %q", got, e, x.want)
		}
		if got, e := crc.Take(x.want); !crc.Same(got, x.r) || e != api.OK {
			t.Errorf("Take(%q) = %v, %d", x.want, got, e)
		}
	}
}

// TestBytes: P14.1 and P14.3, valid records, and what they are again.
func TestBytes(t *testing.T) {
	for i, r := range valid() {
		s, e := crc.Bytes(r)
		if s != encoding(r) || e != api.OK {
			t.Errorf("Bytes of the record %d: %d bytes, %d", i, len(s), e)
		}
		back, e := crc.Take(s)
		if !crc.Same(back, r) || encoding(back) != s || e != api.OK {
			t.Errorf("Take of the record %d: %d", i, e)
		}
	}
}

// TestBytesErrArg: P14.1, each field where it may not be so any more.
func TestBytesErrArg(t *testing.T) {
	for name, change := range map[string]func(r *api.Record){
		"Const -1": func(r *api.Record) { r.J.Const = -1 }, "Const 256": func(r *api.Record) { r.J.Const = 256 }, "Const 257": func(r *api.Record) { r.J.Const = 257 }, "the least Const": func(r *api.Record) { r.J.Const = math.MinInt },
		"Digits -1": func(r *api.Record) { r.J.Digits = -1 }, "Digits 2^31": func(r *api.Record) { r.J.Digits = 1 << 31 }, "Digits 2^32": func(r *api.Record) { r.J.Digits = 1 << 32 }, "the greatest Digits": func(r *api.Record) { r.J.Digits = math.MaxInt },
		"Guard -1": func(r *api.Record) { r.J.Guard = -1 }, "Guard 2^31": func(r *api.Record) { r.J.Guard = 1 << 31 }, "Guard 2^32 + 8": func(r *api.Record) { r.J.Guard = 1<<32 + 8 }, "the least Guard": func(r *api.Record) { r.J.Guard = math.MinInt },
		"From -1": func(r *api.Record) { r.P.R.From = -1 }, "From 2^31": func(r *api.Record) { r.P.R.From = 1 << 31 }, "the greatest From": func(r *api.Record) { r.P.R.From = math.MaxInt },
		"To -1": func(r *api.Record) { r.P.R.To = -1 }, "To 2^31": func(r *api.Record) { r.P.R.To = 1 << 31 }, "the least To": func(r *api.Record) { r.P.R.To = math.MinInt },
		"P 5, 0": func(r *api.Record) { r.P.P = []uint64{5, 0} }, "P 0": func(r *api.Record) { r.P.P = []uint64{0} }, "P of 4097 words": func(r *api.Record) { r.P.P = number(api.MaxLimb+1, 1) },
		"Q 5, 0": func(r *api.Record) { r.P.Q = []uint64{5, 0} }, "Q 0, 0": func(r *api.Record) { r.P.Q = []uint64{0, 0} }, "Q of 5000 words": func(r *api.Record) { r.P.Q = number(5000, 1) },
		"T 5, 0": func(r *api.Record) { r.P.T = []uint64{5, 0} }, "T 0": func(r *api.Record) { r.P.T = []uint64{0} }, "T of 4097 words": func(r *api.Record) { r.P.T = number(api.MaxLimb+1, 1) },
		"T of 4096 words and a 0": func(r *api.Record) { r.P.T = append(number(api.MaxLimb, 1), 0) }, "T of 4096 words, the last one 0": func(r *api.Record) { r.P.T = append(number(api.MaxLimb-1, 1), 0) },
	} {
		for i, r := range []api.Record{{}, usual()} {
			change(&r)
			if s, e := crc.Bytes(r); s != "" || e != api.ErrArg {
				t.Errorf("Bytes of the record %d with %s: %d bytes, %d", i, name, len(s), e)
			}
		}
	}
}

// TestTakeShort: P14.2, fewer than 8 bytes are ErrMore whatever they are; 8 are enough for a checksum.
func TestTakeShort(t *testing.T) {
	s, _ := crc.Bytes(usual())
	for n := range 8 {
		for _, x := range []string{s[:n], random(n, 3), strings.Repeat("\x00", n), sealed("TALY")[8-n:]} {
			if r, e := crc.Take(x); !empty(r) || e != api.ErrMore {
				t.Errorf("Take(%q) = %v, %d", x, r, e)
			}
		}
	}
	for n := range 4 { // with a checksum that is right
		if r, e := crc.Take(sealed("TALY"[:n])); !empty(r) || e != api.ErrMore {
			t.Errorf("Take of %d bytes and their checksum: %v, %d", n, r, e)
		}
	}
	for _, x := range []struct {
		s string
		e api.Errno
	}{{sealed("TALY"), api.ErrMore}, {sealed("TALX"), api.ErrForm}, {sealed("\x00\x00\x00\x00"), api.ErrForm}, {"TALYTALY", api.ErrSum}, {"TALX0000", api.ErrSum}, {"\x00\x00\x00\x00\x00\x00\x00\x00", api.ErrSum}, {"\xff\xff\xff\xff\xff\xff\xff\xff", api.ErrForm}} {
		if r, e := crc.Take(x.s); !empty(r) || e != x.e {
			t.Errorf("Take(%q) = %v, %d, not %d", x.s, r, e, x.e)
		}
	}
}

// TestTakeSum: P14.2, any bit, any few bits next to each other, and any bytes that change places are found by the checksum, before anything else is.
func TestTakeSum(t *testing.T) {
	for _, r := range []api.Record{{}, usual()} {
		s, _ := crc.Bytes(r)
		for at := range len(s) * 8 {
			for _, bits := range []uint64{1, 3, 0x81, 0xfff, 0x80000001, 1<<32 - 1} {
				b := []byte(s)
				for k := range 32 {
					if to := at + k; bits>>k&1 != 0 && to < len(b)*8 {
						b[to/8] ^= 1 << (to % 8)
					}
				}
				if got, e := crc.Take(string(b)); !empty(got) || e != api.ErrSum {
					t.Errorf("Take with the bits %x changed from %d on: %d", bits, at, e)
				}
			}
		}
		for i := range len(s) - 1 {
			b := []byte(s)
			b[i], b[i+1] = b[i+1], b[i]
			if got, e := crc.Take(string(b)); b[i] != b[i+1] && (!empty(got) || e != api.ErrSum) {
				t.Errorf("Take with the bytes %d and %d changed: %d", i, i+1, e)
			}
		}
		reversed := []byte(s)
		slices.Reverse(reversed[len(s)-4:]) // a checksum with its lowest byte first
		if got, e := crc.Take(string(reversed)); !empty(got) || e != api.ErrSum {
			t.Errorf("Take with a checksum the other way round: %d", e)
		}
	}
}

// TestTakeMissing: P14.2, wherever the fields end too early.
func TestTakeMissing(t *testing.T) {
	for i, r := range []api.Record{{}, usual(), record(255, mostInt, 0, 0, 0, false, 0, 40, 3)} {
		s := body(encoding(r))
		for n := range len(s) {
			if got, e := crc.Take(sealed(s[:n])); !empty(got) || e != api.ErrMore {
				t.Errorf("Take of %d bytes of the record %d: %d", n, i, e)
			}
		}
		for _, more := range []string{"\x00", "\x01", "TALY", s, random(100, 5), sealed(s)[len(s):]} {
			if got, e := crc.Take(sealed(s + more)); !empty(got) || e != api.ErrForm {
				t.Errorf("Take of the record %d with %d bytes more: %d", i, len(more), e)
			}
		}
	}
}

// TestTakeForm: P14.2, other marks, bytes for Minus, numbers of words, and numbers that are not normalized.
func TestTakeForm(t *testing.T) {
	s := encoding(usual())
	for _, mark := range []string{"TALZ", "taly", "YLAT", "\x00ALY", "TALy", "    ", "ALYT"} {
		for _, x := range []string{with(s, 0, mark), sealed(mark), sealed(mark + random(50, 3))} {
			if r, e := crc.Take(x); !empty(r) || e != api.ErrForm {
				t.Errorf("Take with the mark %q: %d", mark, e)
			}
		}
	}
	for minus := 2; minus < 256; minus++ {
		if r, e := crc.Take(with(s, minusAt, string([]byte{byte(minus)}))); !empty(r) || e != api.ErrForm {
			t.Errorf("Take with the byte %d for Minus: %d", minus, e)
		}
	}
	for i, a := range [][]uint64{{0}, {5, 0}, {0, 0, 0}, append(number(100, 1), 0), append(number(api.MaxLimb-1, 1), 0)} {
		for name, change := range map[string]func(r *api.Record){"P": func(r *api.Record) { r.P.P = a }, "Q": func(r *api.Record) { r.P.Q = a }, "T": func(r *api.Record) { r.P.T = a }} {
			r := usual()
			change(&r)
			if got, e := crc.Take(encoding(r)); !empty(got) || e != api.ErrForm {
				t.Errorf("Take with the number %d, which is not normalized, as %s: %d", i, name, e)
			}
		}
	}
}

// TestTakeLong: P14.2, numbers of words that are too great, with all their words and without any.
func TestTakeLong(t *testing.T) {
	for _, n := range []int{api.MaxLimb + 1, 5000} {
		for name, r := range map[string]api.Record{"P": record(1, 2, 3, 4, 5, false, n, 1, 1), "Q": record(1, 2, 3, 4, 5, false, 1, n, 1), "T": record(1, 2, 3, 4, 5, false, 0, 0, n)} {
			if got, e := crc.Take(encoding(r)); !empty(got) || e != api.ErrLong {
				t.Errorf("Take with %d words as %s: %d", n, name, e)
			}
		}
	}
	for _, x := range []struct {
		count string
		e     api.Errno
	}{{"\x00\x00\x10\x01", api.ErrLong}, {"\x00\x01\x00\x00", api.ErrLong}, {"\x7f\xff\xff\xff", api.ErrLong}, {"\x80\x00\x00\x00", api.ErrLong}, {"\xff\xff\xff\xff", api.ErrLong}, {"\x00\x00\x10\x00", api.ErrMore}, {"\x00\x00\x00\x01", api.ErrMore}} {
		head := body(encoding(api.Record{}))[:numbersAt]
		for k, before := range []string{"", "\x00\x00\x00\x00", "\x00\x00\x00\x01\x00\x00\x00\x00\x00\x00\x00\x07\x00\x00\x00\x00"} {
			if r, e := crc.Take(sealed(head + before + x.count)); !empty(r) || e != x.e {
				t.Errorf("Take with the count %q behind %d numbers: %d, not %d", x.count, k, e, x.e)
			}
		}
	}
}

// TestTakeErrArg: P14.2, ints above the greatest one, which there is room for.
func TestTakeErrArg(t *testing.T) {
	for i, r := range []api.Record{{}, usual()} {
		for field := range 4 {
			for _, n := range []string{"\x80\x00\x00\x00", "\x80\x00\x00\x01", "\xff\xff\xff\xff", "\xff\x00\x00\x00"} {
				if got, e := crc.Take(with(encoding(r), digitsAt+4*field, n)); !empty(got) || e != api.ErrArg {
					t.Errorf("Take of the record %d with %q in the field %d: %d", i, n, field, e)
				}
			}
			if got, e := crc.Take(with(encoding(r), digitsAt+4*field, "\x7f\xff\xff\xff")); empty(got) || e != api.OK {
				t.Errorf("Take of the record %d with the greatest int in the field %d: %d", i, field, e)
			}
		}
	}
}

// TestTakeOrder: P14.2, the first one of several errors: the order is that of the bytes.
func TestTakeOrder(t *testing.T) {
	s := body(encoding(usual()))
	wrongInt := s[:digitsAt] + "\xff\xff\xff\xff" + s[digitsAt+4:]
	wrongMinus := wrongInt[:minusAt] + "\x02"
	zero := "\x00\x00\x00\x01\x00\x00\x00\x00\x00\x00\x00\x00"
	long := "\x00\x00\x10\x01"
	none := "\x00\x00\x00\x00"
	for _, x := range []struct {
		what, s string
		e       api.Errno
	}{
		{"a wrong mark and a wrong checksum", "X" + sealed(s)[1:], api.ErrSum},
		{"a wrong mark and no fields", sealed("TALX"), api.ErrForm},
		{"a wrong mark and an int too great", sealed("X" + wrongInt[1:]), api.ErrForm},
		{"an int too great, and the next one cut", sealed(wrongInt[:digitsAt+6]), api.ErrMore},
		{"an int too great, and Minus missing", sealed(wrongInt[:minusAt]), api.ErrMore},
		{"an int too great, and a wrong Minus", sealed(wrongMinus + s[numbersAt:]), api.ErrForm},
		{"a wrong Minus, and nothing behind it", sealed(wrongMinus), api.ErrForm},
		{"a wrong Minus, and a count cut", sealed(wrongMinus + "\x00\x00"), api.ErrForm},
		{"a wrong Minus, and a count too great", sealed(wrongMinus + long), api.ErrForm},
		{"an int too great, and a count too great", sealed(wrongInt[:numbersAt] + long), api.ErrLong},
		{"a count too great, and a number that is not normalized", sealed(s[:numbersAt] + long + zero), api.ErrLong},
		{"a number that is not normalized, and a count too great", sealed(s[:numbersAt] + zero + long), api.ErrForm},
		{"a number that is not normalized, and nothing behind it", sealed(s[:numbersAt] + zero), api.ErrForm},
		{"a number that is not normalized, and a count cut", sealed(s[:numbersAt] + none + zero + "\x00"), api.ErrForm},
		{"a number that would not be normalized, but is cut", sealed(s[:numbersAt] + zero[:11]), api.ErrMore},
		{"a number cut in its second word, with 0 in the first", sealed(s[:numbersAt] + "\x00\x00\x00\x02" + zero[4:] + "\x00\x00\x00"), api.ErrMore},
		{"an int too great, and a number that is not normalized", sealed(wrongInt[:numbersAt] + none + none + zero), api.ErrForm},
		{"an int too great, and bytes left", sealed(wrongInt + "\x00"), api.ErrForm},
		{"an int too great, and nothing else", sealed(wrongInt), api.ErrArg},
		{"a number that is not normalized, and bytes left", sealed(s[:numbersAt] + none + none + zero + "\x00"), api.ErrForm},
		{"a count too great at the end", sealed(s[:numbersAt] + none + none + long), api.ErrLong},
	} {
		if r, e := crc.Take(x.s); !empty(r) || e != x.e {
			t.Errorf("%s: %d, not %d", x.what, e, x.e)
		}
	}
}

// taken is what Take promises, read from fixed places with all that is left in view.
func taken(s string) (api.Record, api.Errno) {
	b := []byte(s)
	switch {
	case len(b) < 8:
		return api.Record{}, api.ErrMore
	case binary.BigEndian.Uint32(b[len(b)-4:]) != crc32.ChecksumIEEE(b[:len(b)-4]):
		return api.Record{}, api.ErrSum
	case s[:4] != "TALY":
		return api.Record{}, api.ErrForm
	}
	b = b[:len(b)-4]
	switch {
	case len(b) < numbersAt:
		return api.Record{}, api.ErrMore
	case b[minusAt] > 1:
		return api.Record{}, api.ErrForm
	}
	numbers, left := [3][]uint64{}, b[numbersAt:]
	for i := range numbers {
		if len(left) < 4 {
			return api.Record{}, api.ErrMore
		}
		n := binary.BigEndian.Uint32(left)
		left = left[4:]
		switch {
		case n > api.MaxLimb:
			return api.Record{}, api.ErrLong
		case len(left) < 8*int(n):
			return api.Record{}, api.ErrMore
		case n > 0 && string(left[8*n-8:8*n]) == strings.Repeat("\x00", 8):
			return api.Record{}, api.ErrForm
		}
		for k := range n {
			numbers[i] = append(numbers[i], binary.BigEndian.Uint64(left[8*k:]))
		}
		left = left[8*n:]
	}
	if len(left) > 0 {
		return api.Record{}, api.ErrForm
	}
	ints := [4]int{}
	for i := range ints {
		if ints[i] = int(binary.BigEndian.Uint32(b[digitsAt+4*i:])); ints[i] > mostInt {
			return api.Record{}, api.ErrArg
		}
	}
	return api.Record{
		J: api.Job{Const: int(b[4]), Digits: ints[0], Guard: ints[1]},
		P: api.Part{R: api.Range{From: ints[2], To: ints[3]}, P: numbers[0], Q: numbers[1], T: numbers[2], Minus: b[minusAt] == 1},
	}, api.OK
}

// TestTakeChanged: P14.2, encodings whose bytes are changed, cut and moved anyhow, with a checksum that is right again: every answer is the one that is promised, and each of them comes.
func TestTakeChanged(t *testing.T) {
	seen := map[api.Errno]int{}
	seed := uint64(14)
	for i := range 60000 {
		r := record(i%256, i, i%9, i%5, i%7, i%2 == 0, i%4, i/4%3, i/12%3)
		b := []byte(body(encoding(r)))
		for range next(&seed) >> 20 % 4 {
			at := int(next(&seed) >> 20 % uint64(len(b)))
			switch next(&seed) >> 33 % 6 {
			case 0:
				b[at] = byte(next(&seed) >> 40)
			case 1:
				b[at] = 0
			case 2:
				b[at]++
			case 3:
				b = b[:max(at, 4)]
			case 4:
				b = slices.Insert(b, at, 0)
			case 5:
				b = slices.Delete(b, at, min(at+8, max(len(b)-1, at)))
			}
		}
		s := sealed(string(b))
		want, wantE := taken(s)
		got, e := crc.Take(s)
		if e != wantE || !crc.Same(got, want) || e != api.OK && !empty(got) {
			t.Fatalf("Take(%q) = %v, %d, not %v, %d", s, got, e, want, wantE)
		}
		if again, e := crc.Bytes(got); wantE == api.OK && (again != s || e != api.OK) {
			t.Fatalf("Bytes of Take(%q) = %q, %d", s, again, e)
		}
		seen[e]++
	}
	for _, e := range []api.Errno{api.OK, api.ErrArg, api.ErrForm, api.ErrMore, api.ErrLong} {
		if seen[e] < 100 {
			t.Errorf("error %d came only %d times", e, seen[e])
		}
	}
}

// TestWholeOnly: P14.3, neither a part of an encoding nor one with bytes behind it is the same record, whether the checksum is right again or not.
func TestWholeOnly(t *testing.T) {
	for i, r := range valid()[:22] {
		s, _ := crc.Bytes(r)
		for n := range len(s) {
			for _, x := range []string{s[:n], sealed(s[:n])} {
				if got, e := crc.Take(x); x != s && e == api.OK && crc.Same(got, r) {
					t.Errorf("the first %d bytes of the record %d are the same record", n, i)
				}
			}
		}
		for _, more := range []string{"\x00", "\x00\x00\x00\x00", "\xff", "x", s[len(s)-4:], s, random(20, 1), strings.Repeat("\x00", 100)} {
			for _, x := range []string{s + more, sealed(s + more), sealed(body(s) + more)} {
				if got, e := crc.Take(x); e == api.OK && crc.Same(got, r) {
					t.Errorf("the record %d with %d bytes behind it is the same record", i, len(more))
				}
			}
		}
	}
}

// TestOf: P14.2, the parts of a job's records.
func TestOf(t *testing.T) {
	for i, r := range valid() {
		got, e := crc.Of(encoding(r), r.J)
		if !crc.Same(api.Record{J: r.J, P: got}, r) || e != api.OK {
			t.Errorf("Of the record %d: %d", i, e)
		}
		for _, j := range []api.Job{
			{Const: r.J.Const + 1, Digits: r.J.Digits, Guard: r.J.Guard}, {Const: r.J.Const, Digits: r.J.Digits + 1, Guard: r.J.Guard}, {Const: r.J.Const, Digits: r.J.Digits, Guard: r.J.Guard + 1},
			{Const: r.J.Const + 256, Digits: r.J.Digits, Guard: r.J.Guard}, {Const: r.J.Const, Digits: r.J.Digits + 1<<32, Guard: r.J.Guard}, {Const: r.J.Const, Digits: r.J.Digits, Guard: r.J.Guard - 1<<32},
			{Const: -1, Digits: -1, Guard: -1}, {Const: r.J.Const, Digits: math.MinInt, Guard: math.MaxInt},
		} {
			got, e := crc.Of(encoding(r), j)
			if !empty(api.Record{P: got}) || e != api.ErrAlien {
				t.Errorf("Of the record %d for %v: %d", i, j, e)
			}
		}
	}
}

// TestOfErrors: P14.2, the errors of Take, which come before that of another job.
func TestOfErrors(t *testing.T) {
	r := usual()
	s := encoding(r)
	for _, x := range []struct {
		s string
		e api.Errno
	}{
		{"", api.ErrMore}, {s[:7], api.ErrMore}, {sealed("TALY"), api.ErrMore}, {s[:len(s)-1], api.ErrSum}, {s + "\x00", api.ErrSum}, {with(s, 0, "t"), api.ErrForm}, {with(s, minusAt, "\x02"), api.ErrForm},
		{sealed(body(s)[:numbersAt] + "\x00\x00\x10\x01"), api.ErrLong}, {with(s, digitsAt, "\x80"), api.ErrArg}, {sealed(body(s) + "\x00"), api.ErrForm},
	} {
		for _, j := range []api.Job{r.J, {}, {Const: 1, Digits: 2, Guard: 3}, {Const: r.J.Const, Digits: r.J.Digits + 1<<31, Guard: r.J.Guard}} {
			if p, e := crc.Of(x.s, j); !empty(api.Record{P: p}) || e != x.e {
				t.Errorf("Of(%q) for %v: %d, not %d", x.s, j, e, x.e)
			}
		}
	}
}

// TestKept: R3 and R4, arguments are left as they are, with the room behind them, and results are new memory.
func TestKept(t *testing.T) {
	const kept = 0x5555
	r := usual()
	rooms := [3][]uint64{append(slices.Clone(r.P.P), kept, kept), append(slices.Clone(r.P.Q), kept, kept), append(slices.Clone(r.P.T), kept, kept)}
	before := [3][]uint64{slices.Clone(rooms[0]), slices.Clone(rooms[1]), slices.Clone(rooms[2])}
	r.P.P, r.P.Q, r.P.T = rooms[0][:2], rooms[1][:3], rooms[2][:1]
	s, _ := crc.Bytes(r)
	crc.Same(r, r)
	for i := range rooms {
		if !slices.Equal(rooms[i], before[i]) {
			t.Errorf("the number %d is %v where it was %v", i, rooms[i], before[i])
		}
	}
	for range 2 {
		first, _ := crc.Take(s)
		part, _ := crc.Of(s, r.J)
		for i, a := range [][]uint64{first.P.P, first.P.Q, first.P.T, part.P, part.Q, part.T} {
			if !slices.Equal(a, before[i%3][:len(before[i%3])-2]) {
				t.Errorf("the number %d is %v, or shares memory with another", i, a)
			}
			a = a[:cap(a)]
			for k := range a {
				a[k] = ^a[k]
			}
		}
	}
	if again, e := crc.Bytes(usual()); again != s || e != api.OK {
		t.Errorf("Bytes of the same record differ: %d", e)
	}
}
