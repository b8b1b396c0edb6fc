package keep_test

import (
	"encoding/binary"
	"hash/crc32"
	"math"
	"slices"
	"strconv"
	"strings"
	"testing"

	"tallystick/api"
	"tallystick/disk"
	"tallystick/keep"
)

const (
	top     = 1<<64 - 1
	mostInt = 1<<31 - 1

	// longest is as long as a name may be, and longer by a byte is not one any more.
	longest = "0123456789abcdef"
	longer  = longest + "g"

	// places of fields in an encoding: behind the mark and Const, behind Digits, Guard, From and To, behind Minus.
	digitsAt, minusAt, numbersAt = 5, 21, 22
)

// next are words without any pattern, the same ones in every run.
func next(s *uint64) uint64 {
	*s = *s*6364136223846793005 + 1442695040888963407
	return *s ^ *s>>29
}

// below is a number from 0 to n - 1 without any pattern.
func below(s *uint64, n int) int { return int(next(s) >> 33 % uint64(n)) }

// number is one of n words without any pattern, the last of which is not 0.
func number(s *uint64, n int) []uint64 {
	a := make([]uint64, n)
	for i := range a {
		a[i] = next(s) | 1
	}
	return a
}

// job is one of these fields.
func job(c, digits, guard int) api.Job { return api.Job{Const: c, Digits: digits, Guard: guard} }

// pi is the job of most parts here.
func pi() api.Job { return job(api.CPi, 30, 8) }

// part is one of a range, with numbers of up to four words.
func part(from, to int, seed uint64) api.Part {
	s := seed*7919 + uint64(from)
	return api.Part{R: api.Range{From: from, To: to}, P: number(&s, below(&s, 5)), Q: number(&s, below(&s, 5)), T: number(&s, below(&s, 5)), Minus: seed%2 == 1}
}

// sealed are bytes with their checksum behind them.
func sealed(s string) string {
	return string(binary.BigEndian.AppendUint32([]byte(s), crc32.ChecksumIEEE([]byte(s))))
}

// encoding is that of a record of a part, field by field as chapter 14 lists them, valid or not.
func encoding(j api.Job, p api.Part) string {
	b := append([]byte("TALY"), byte(j.Const))
	for _, n := range []int{j.Digits, j.Guard, p.R.From, p.R.To} {
		b = binary.BigEndian.AppendUint32(b, uint32(n))
	}
	if p.Minus {
		b = append(b, 1)
	} else {
		b = append(b, 0)
	}
	for _, a := range [][]uint64{p.P, p.Q, p.T} {
		b = binary.BigEndian.AppendUint32(b, uint32(len(a)))
		for _, w := range a {
			b = binary.BigEndian.AppendUint64(b, w)
		}
	}
	return sealed(string(b))
}

// with is an encoding with other bytes from a place on, sealed anew.
func with(s string, at int, bytes string) string {
	s = s[:len(s)-4]
	return sealed(s[:at] + bytes + s[at+len(bytes):])
}

// equalParts are parts whose fields are equal, in the same order.
func equalParts(a, b []api.Part) bool {
	return slices.EqualFunc(a, b, func(p, q api.Part) bool {
		return p.R == q.R && p.Minus == q.Minus && slices.Equal(p.P, q.P) && slices.Equal(p.Q, q.Q) && slices.Equal(p.T, q.T)
	})
}

// copiedPart is a part that shares nothing with another.
func copiedPart(p api.Part) api.Part {
	p.P, p.Q, p.T = slices.Clone(p.P), slices.Clone(p.Q), slices.Clone(p.T)
	return p
}

// of is a disk of these files, each where it belongs.
func of(room int, files ...api.File) api.Disk {
	l := append([]api.File{}, files...)
	slices.SortFunc(l, func(a, b api.File) int { return strings.Compare(a.Name, b.Name) })
	return api.Disk{Room: room, Files: l}
}

// safe is a file that survives.
func safe(name, data string) api.File { return api.File{Name: name, Data: data, Safe: data} }

// kept is the file of a part.
func kept(j api.Job, p api.Part) api.File {
	return safe("c"+strconv.Itoa(p.R.From)+"-"+strconv.Itoa(p.R.To), encoding(j, p))
}

// many is a disk of n small files.
func many(room, n int) api.Disk {
	d := of(room)
	for i := range n {
		d.Files = append(d.Files, api.File{Name: "n" + strconv.Itoa(100+i), Data: "x"})
	}
	return d
}

// usual is a disk with parts of two jobs, what is left of one that was being saved, and files of other kinds.
func usual() api.Disk {
	return of(5000, kept(pi(), part(0, 8, 1)), kept(pi(), part(8, 16, 2)), kept(job(api.CPi, 30, 16), part(16, 24, 3)),
		api.File{Name: "t", Data: "unfinished", Safe: "un"}, safe("out", "2.71828"), api.File{Name: "a", Data: "new"}, api.File{Name: "c", Data: "", Safe: "c"}, safe("\xff", "\x00"))
}

// equal are two disks whose fields are equal.
func equal(a, b api.Disk) bool { return a.Room == b.Room && slices.Equal(a.Files, b.Files) }

// copied is a disk that shares nothing with another.
func copied(d api.Disk) api.Disk {
	return api.Disk{Room: d.Room, Files: slices.Clone(d.Files)}
}

// without is a disk without the file of a name.
func without(d api.Disk, name string) api.Disk {
	return api.Disk{Room: d.Room, Files: slices.DeleteFunc(slices.Clone(d.Files), func(f api.File) bool { return f.Name == name })}
}

// plus is a disk with a file, which takes the place of one of the same name.
func plus(d api.Disk, f api.File) api.Disk {
	return of(d.Room, append(without(d, f.Name).Files, f)...)
}

// used is how many bytes a disk holds.
func used(d api.Disk) int {
	n := 0
	for _, f := range d.Files {
		n += len(f.Data)
	}
	return n
}

// apart looks whether a disk and the one that was made of it have files of their own, and puts back what it changed.
func apart(t *testing.T, d, made api.Disk) {
	t.Helper()
	before, after := copied(d), copied(made)
	_ = append(made.Files, api.File{Name: "behind"})
	clear(made.Files)
	if !equal(d, before) {
		t.Fatalf("%#v shares its files with what was made of it", before)
	}
	copy(made.Files, after.Files)
	_ = append(d.Files, api.File{Name: "behind"})
	clear(d.Files)
	if !equal(made, after) {
		t.Fatalf("%#v shares its files with what it was made of", after)
	}
	copy(d.Files, before.Files)
}

// checkDo holds an act against what is wanted, and looks whether it left its disk as it was.
func checkDo(t *testing.T, d api.Disk, a api.Act, want api.Disk, wantErr api.Errno) {
	t.Helper()
	before := copied(d)
	got, e := keep.Do(d, a)
	if !equal(got, want) || e != wantErr {
		t.Fatalf("Do of %#v on %#v: %#v, %d, not %#v, %d", a, before, got, e, want, wantErr)
	}
	if !equal(d, before) {
		t.Fatalf("Do of %#v changed what it was given: %#v, not %#v", a, d, before)
	}
	if e == api.OK {
		apart(t, d, got)
	}
}

// checkSave is the same for a part that is saved; the part stays as it was too.
func checkSave(t *testing.T, d api.Disk, j api.Job, p api.Part, want api.Disk, wantErr api.Errno) api.Disk {
	t.Helper()
	before, part := copied(d), copiedPart(p)
	got, e := keep.Save(d, j, p)
	if !equal(got, want) || e != wantErr {
		t.Fatalf("Save of %v, %v on %#v: %#v, %d, not %#v, %d", j, part, before, got, e, want, wantErr)
	}
	if !equal(d, before) || !equalParts([]api.Part{p}, []api.Part{part}) {
		t.Fatalf("Save of %v, %v changed what it was given: %#v, %v", j, part, d, p)
	}
	if e == api.OK {
		apart(t, d, got)
	}
	return got
}

// checkFind holds what is found against what is wanted.
func checkFind(t *testing.T, d api.Disk, j api.Job, want ...api.Part) {
	t.Helper()
	before := copied(d)
	if got := keep.Find(d, j); !equalParts(got, want) {
		t.Fatalf("Find of %v on %#v: %v, not %v", j, before, got, want)
	}
	if !equal(d, before) {
		t.Fatalf("Find of %v changed what it was given: %#v, not %#v", j, d, before)
	}
}

// TestName: P16.1, decimals of any size, and 0 for numbers below it.
func TestName(t *testing.T) {
	for _, x := range []struct {
		from, to int
		want     string
	}{
		{8, 16, "c8-16"}, {0, 8, "c0-8"}, {0, 0, "c0-0"}, {1, 2, "c1-2"}, {9, 10, "c9-10"}, {10, 9, "c10-9"}, {99, 100, "c99-100"}, {16, 8, "c16-8"}, {101, 1001, "c101-1001"}, {1234567890, 987654321, "c1234567890-987654321"},
		{-1, 8, "c0-8"}, {8, -1, "c8-0"}, {-1, -1, "c0-0"}, {-8, -16, "c0-0"}, {math.MinInt, math.MinInt, "c0-0"}, {math.MinInt, 5, "c0-5"}, {5, math.MinInt, "c5-0"}, {-10, 10, "c0-10"},
		{mostInt, mostInt, "c2147483647-2147483647"}, {1 << 31, 1 << 32, "c2147483648-4294967296"}, {math.MaxInt, math.MaxInt, "c9223372036854775807-9223372036854775807"}, {math.MaxInt, math.MinInt, "c9223372036854775807-0"},
		{9999999, 9999999, "c9999999-9999999"}, {10000000, 9999999, "c10000000-9999999"},
	} {
		if got := keep.Name(api.Range{From: x.from, To: x.to}); got != x.want {
			t.Errorf("Name of %d to %d = %q, not %q", x.from, x.to, got, x.want)
		}
	}
	for from := range 130 {
		for to := range 130 {
			if got, want := keep.Name(api.Range{From: from, To: to}), "c"+strconv.Itoa(from)+"-"+strconv.Itoa(to); got != want {
				t.Errorf("Name of %d to %d = %q, not %q", from, to, got, want)
			}
		}
	}
}

// TestNumbers: P16.1, the kinds of acts are those that the document lists.
func TestNumbers(t *testing.T) {
	d := of(9, safe("a", "x"))
	for kind, want := range map[int]api.Disk{1: of(9, api.File{Name: "a", Data: "y", Safe: "x"}), 2: d, 3: of(9, safe("b", "x")), 4: of(9)} {
		checkDo(t, d, api.Act{Kind: kind, Name: "a", To: "b", Data: "y"}, want, api.OK)
	}
}

// TestDo: P16.1, every kind, by the fields that it uses and by no others.
func TestDo(t *testing.T) {
	d := of(20, api.File{Name: "a", Data: "abc", Safe: "ab"}, api.File{Name: "b", Data: "de"})
	for _, x := range []struct {
		a    api.Act
		want api.Disk
	}{
		{api.Act{Kind: api.AWrite, Name: "a", Data: "new"}, plus(d, api.File{Name: "a", Data: "new", Safe: "ab"})},
		{api.Act{Kind: api.AWrite, Name: "c", To: "b", Data: "new"}, plus(d, api.File{Name: "c", Data: "new"})},
		{api.Act{Kind: api.AWrite, Name: "b"}, plus(d, api.File{Name: "b"})},
		{api.Act{Kind: api.AWrite, Name: "b", To: longer, Data: strings.Repeat("x", 17)}, plus(d, api.File{Name: "b", Data: strings.Repeat("x", 17)})},
		{api.Act{Kind: api.ASync, Name: "a"}, plus(d, safe("a", "abc"))},
		{api.Act{Kind: api.ASync, Name: "b", To: "a", Data: "other"}, plus(d, safe("b", "de"))},
		{api.Act{Kind: api.ARename, Name: "a", To: "b"}, of(20, api.File{Name: "b", Data: "abc", Safe: "ab"})},
		{api.Act{Kind: api.ARename, Name: "b", To: "a", Data: "other"}, of(20, api.File{Name: "a", Data: "de"})},
		{api.Act{Kind: api.ARename, Name: "b", To: longest, Data: "other"}, of(20, d.Files[0], api.File{Name: longest, Data: "de"})},
		{api.Act{Kind: api.ARename, Name: "a", To: "a"}, d},
		{api.Act{Kind: api.ADelete, Name: "a"}, of(20, d.Files[1])},
		{api.Act{Kind: api.ADelete, Name: "b", To: "a", Data: "other"}, of(20, d.Files[0])},
	} {
		checkDo(t, d, x.a, x.want, api.OK)
	}
}

// TestDoErrors: P16.1, the errors of the disk, with the disk as it was.
func TestDoErrors(t *testing.T) {
	d := of(20, api.File{Name: "a", Data: "abc", Safe: "ab"}, api.File{Name: "b", Data: "de"})
	for _, x := range []struct {
		d    api.Disk
		a    api.Act
		want api.Errno
	}{
		{d, api.Act{Kind: api.AWrite, Data: "x"}, api.ErrArg}, {d, api.Act{Kind: api.AWrite, To: "a"}, api.ErrArg}, {d, api.Act{Kind: api.AWrite, Name: longer, Data: "x"}, api.ErrArg},
		{d, api.Act{Kind: api.AWrite, Name: "a", Data: strings.Repeat("x", 19)}, api.ErrFull}, {d, api.Act{Kind: api.AWrite, Name: "c", Data: strings.Repeat("x", 16)}, api.ErrFull}, {d, api.Act{Kind: api.AWrite, Name: longer, Data: strings.Repeat("x", 21)}, api.ErrArg},
		{many(1000, 64), api.Act{Kind: api.AWrite, Name: "t"}, api.ErrFull}, {api.Disk{}, api.Act{Kind: api.AWrite, Name: "t", Data: "x"}, api.ErrFull},
		{d, api.Act{Kind: api.ASync, Name: "c"}, api.ErrNone}, {d, api.Act{Kind: api.ASync, To: "a"}, api.ErrNone}, {api.Disk{}, api.Act{Kind: api.ASync, Name: "a"}, api.ErrNone},
		{d, api.Act{Kind: api.ARename, Name: "c", To: "a"}, api.ErrNone}, {d, api.Act{Kind: api.ARename, Name: "c"}, api.ErrNone}, {d, api.Act{Kind: api.ARename, Name: "a"}, api.ErrArg}, {d, api.Act{Kind: api.ARename, Name: "a", To: longer}, api.ErrArg}, {d, api.Act{Kind: api.ARename, Name: longer, To: longer}, api.ErrNone},
		{d, api.Act{Kind: api.ADelete, Name: "c"}, api.ErrNone}, {d, api.Act{Kind: api.ADelete, To: "a"}, api.ErrNone}, {api.Disk{}, api.Act{Kind: api.ADelete}, api.ErrNone},
	} {
		checkDo(t, x.d, x.a, x.d, x.want)
	}
}

// TestDoKinds: P16.1, kinds that are none, whatever else the act tells.
func TestDoKinds(t *testing.T) {
	for _, d := range []api.Disk{{}, of(0), of(20, safe("a", "abc")), usual(), many(64, 64)} {
		checkDo(t, d, api.Act{}, d, api.ErrArg)
		for _, kind := range []int{api.ANone, -1, -2, -3, -4, 5, 6, 8, 16, 255, 256, 257, 1 << 16, 1<<16 + 1, 1 << 32, 1<<32 + 1, 1<<32 + 4, math.MinInt, math.MinInt + 1, math.MaxInt} {
			for _, a := range []api.Act{{Kind: kind}, {Kind: kind, Name: "a", To: "b", Data: "x"}, {Kind: kind, Name: "none", To: longer}, {Kind: kind, Name: longer, Data: strings.Repeat("x", 9000)}} {
				checkDo(t, d, a, d, api.ErrArg)
			}
		}
	}
}

// records are jobs and parts that may be stored, with the least, the greatest and ordinary fields.
func records() []api.Record {
	s := uint64(16)
	l := []api.Record{
		{}, {J: pi(), P: part(0, 8, 1)}, {J: job(api.CE, 5, 8), P: part(8, 16, 2)}, {J: job(255, mostInt, mostInt), P: part(9999999, 9999999, 3)}, {J: job(0, 0, 0), P: part(5, 0, 4)}, {J: job(api.CPi, 1000, 64), P: part(16, 16, 5)},
		{J: pi(), P: api.Part{Minus: true}}, {J: pi(), P: api.Part{R: api.Range{To: 1}, P: []uint64{}, Q: []uint64{0, 1}, T: []uint64{top}}},
		{J: pi(), P: api.Part{R: api.Range{From: 24, To: 32}, P: number(&s, api.MaxLimb), Q: number(&s, api.MaxLimb), T: number(&s, api.MaxLimb), Minus: true}},
	}
	for n := range 20 {
		l = append(l, api.Record{J: job(n, n*n, 3*n), P: part(8*n, 8*n+8, uint64(n))})
	}
	return l
}

// changes make of a record one that may not be stored.
func changes() map[string]func(r *api.Record) {
	return map[string]func(r *api.Record){
		"Const -1": func(r *api.Record) { r.J.Const = -1 }, "Const 256": func(r *api.Record) { r.J.Const = 256 },
		"Digits -1": func(r *api.Record) { r.J.Digits = -1 }, "Digits 2^31": func(r *api.Record) { r.J.Digits = 1 << 31 },
		"Guard -1": func(r *api.Record) { r.J.Guard = -1 }, "Guard 2^32": func(r *api.Record) { r.J.Guard = 1 << 32 },
		"From -1": func(r *api.Record) { r.P.R.From = -1 }, "the least From": func(r *api.Record) { r.P.R.From = math.MinInt }, "From 2^31": func(r *api.Record) { r.P.R.From = 1 << 31 },
		"To -1": func(r *api.Record) { r.P.R.To = -1 }, "the greatest To": func(r *api.Record) { r.P.R.To = math.MaxInt },
		"P 0": func(r *api.Record) { r.P.P = []uint64{0} }, "Q 5, 0": func(r *api.Record) { r.P.Q = []uint64{5, 0} }, "T 0, 0": func(r *api.Record) { r.P.T = []uint64{0, 0} },
		"P of 4097 words": func(r *api.Record) { s := uint64(1); r.P.P = number(&s, api.MaxLimb+1) }, "T of 4097 words": func(r *api.Record) { s := uint64(1); r.P.T = number(&s, api.MaxLimb+1) },
	}
}

// TestSteps: P16.1, the three acts, field by field.
func TestSteps(t *testing.T) {
	for i, r := range records() {
		before := copiedPart(r.P)
		want := []api.Act{{Kind: 1, Name: "t", Data: encoding(r.J, r.P)}, {Kind: 2, Name: "t"}, {Kind: 3, Name: "t", To: "c" + strconv.Itoa(r.P.R.From) + "-" + strconv.Itoa(r.P.R.To)}}
		for range 2 {
			got, e := keep.Steps(r.J, r.P)
			if !slices.Equal(got, want) || e != api.OK {
				t.Errorf("Steps of the record %d: %d acts, %d", i, len(got), e)
			}
			clear(got) // which leaves the next answer as it is
		}
		if !equalParts([]api.Part{r.P}, []api.Part{before}) {
			t.Errorf("Steps changed the part %d", i)
		}
	}
}

// TestStepsLongNames: P16.1, a name that no file may have is told all the same.
func TestStepsLongNames(t *testing.T) {
	got, e := keep.Steps(pi(), part(mostInt, mostInt, 1))
	if e != api.OK || len(got) != 3 || got[2] != (api.Act{Kind: 3, Name: "t", To: "c2147483647-2147483647"}) {
		t.Errorf("Steps of the greatest range: %v, %d", got, e)
	}
}

// TestStepsErrors: P16.1, the error of Bytes, and no acts.
func TestStepsErrors(t *testing.T) {
	for name, change := range changes() {
		for i, r := range records()[:3] {
			change(&r)
			if got, e := keep.Steps(r.J, r.P); len(got) != 0 || e != api.ErrArg {
				t.Errorf("Steps of the record %d with %s: %d acts, %d", i, name, len(got), e)
			}
		}
	}
}

// TestSave: P16.1, a part's file is there and safe, `t` is gone, and all else is as it was.
func TestSave(t *testing.T) {
	for _, r := range records() {
		for _, d := range []api.Disk{of(200000), plus(usual(), safe("c0-0", "something")), many(200000, 63), plus(many(200000, 63), safe("t", "the 64th"))} {
			d.Room = 200000
			want := plus(without(d, "t"), kept(r.J, r.P))
			again := checkSave(t, d, r.J, r.P, want, api.OK)
			if len(again.Files) < 64 {
				checkSave(t, again, r.J, r.P, want, api.OK)
			}
		}
	}
}

// TestSaveErrFull: P16.1, room for the bytes and for the files on both sides of the bounds: what is replaced at the end takes its room till then, what is left in `t` does not.
func TestSaveErrFull(t *testing.T) {
	j, p, other := pi(), part(8, 16, 2), part(8, 16, 4)
	f := kept(j, p)
	n := len(f.Data)
	checkSave(t, of(20), j, p, of(20), api.ErrFull)
	checkSave(t, api.Disk{}, api.Job{}, api.Part{}, api.Disk{}, api.ErrFull)
	for _, d := range []api.Disk{of(0), of(0, kept(j, part(0, 8, 1)), safe("out", "3.14")), of(0, kept(j, other)), of(0, kept(j, p)), of(0, safe("t", strings.Repeat("x", 500))), of(0, api.File{Name: "t", Data: "abc"}, safe("c", "d")), of(0, api.File{Name: "a", Safe: strings.Repeat("x", 500)}), many(0, 63), plus(many(0, 63), safe("t", ""))} {
		fits := used(without(d, "t")) + n
		for room := max(fits-3, 0); room < fits+3; room++ {
			d.Room = room
			if room < fits {
				checkSave(t, d, j, p, d, api.ErrFull)
			} else {
				checkSave(t, d, j, p, plus(without(d, "t"), f), api.OK)
			}
		}
	}
	for _, d := range []api.Disk{many(5000, 64), plus(many(5000, 63), kept(j, other)), plus(many(5000, 63), kept(j, p))} {
		checkSave(t, d, j, p, d, api.ErrFull)
	}
	checkSave(t, plus(many(5000, 62), kept(j, other)), j, p, plus(many(5000, 62), f), api.OK)
}

// TestSaveErrArg: P16.1, a range whose name is too long for a file is found out at the last act: `t` is there then, whole and safe.
func TestSaveErrArg(t *testing.T) {
	for _, r := range []api.Range{{From: 10000000, To: 9999999}, {From: 9999999, To: 10000000}, {From: mostInt, To: mostInt}, {From: 1000000000, To: 12345}, {From: 0, To: 1000000000}} {
		for _, d := range []api.Disk{of(1000), usual(), many(1000, 63), plus(many(1000, 63), api.File{Name: "t", Safe: "old"})} {
			p := part(r.From, r.To, 7)
			data := encoding(pi(), p)
			if len(keep.Name(r)) > api.MaxName {
				checkSave(t, d, pi(), p, plus(d, safe("t", data)), api.ErrArg)
			} else {
				checkSave(t, d, pi(), p, plus(without(d, "t"), safe(keep.Name(r), data)), api.OK)
			}
		}
	}
	for _, r := range []api.Range{{From: 9999999, To: 9999999}, {From: 99999999, To: 999999}, {From: 9, To: mostInt}, {From: 1234, To: mostInt}} {
		p := part(r.From, r.To, 7)
		checkSave(t, of(1000), pi(), p, of(1000, kept(pi(), p)), api.OK)
	}
}

// TestSaveErrors: P16.1, the error of Steps comes with the disk as it was, and before those of the disk; of these the first act's comes first.
func TestSaveErrors(t *testing.T) {
	for name, change := range changes() {
		for _, d := range []api.Disk{{}, of(20), usual(), many(64, 64)} {
			r := api.Record{J: pi(), P: part(mostInt, mostInt, 2)}
			change(&r)
			before := copied(d)
			if got, e := keep.Save(d, r.J, r.P); !equal(got, before) || !equal(d, before) || e != api.ErrArg {
				t.Errorf("Save of a record with %s: %#v, %d", name, got, e)
			}
		}
	}
	for _, d := range []api.Disk{{}, of(20), many(5000, 64), of(60, api.File{Name: "t", Data: "left", Safe: "l"})} {
		checkSave(t, d, pi(), part(mostInt, mostInt, 1), d, api.ErrFull)
	}
}

// TestFindOrder: P16.2, the parts come in order of the names, which is not that of the ranges.
func TestFindOrder(t *testing.T) {
	a, b, c, e, f := part(0, 8, 1), part(16, 24, 2), part(8, 16, 3), part(100, 104, 4), part(8, 8, 5)
	d := of(9000, kept(pi(), a), kept(pi(), b), kept(pi(), c), kept(pi(), e), kept(pi(), f))
	checkFind(t, d, pi(), a, e, b, c, f)
	checkFind(t, usual(), pi(), part(0, 8, 1), part(8, 16, 2))
	checkFind(t, usual(), job(api.CPi, 30, 16), part(16, 24, 3))
	checkFind(t, usual(), job(api.CE, 30, 8))
	checkFind(t, of(9), pi())
	checkFind(t, api.Disk{}, api.Job{})
	all := of(9)
	var want []api.Part
	for i := range 64 {
		all = plus(all, kept(pi(), part(i, i, 1)))
	}
	for _, g := range all.Files {
		i, _ := strconv.Atoi(g.Name[strings.Index(g.Name, "-")+1:])
		want = append(want, part(i, i, 1))
	}
	checkFind(t, all, pi(), want...)
}

// TestFindRecords: P16.2, all kinds of parts, for their own jobs and for no others.
func TestFindRecords(t *testing.T) {
	for _, r := range records() {
		d := of(0, kept(r.J, r.P))
		checkFind(t, d, r.J, r.P)
		for _, j := range []api.Job{
			job(r.J.Const+1, r.J.Digits, r.J.Guard), job(r.J.Const, r.J.Digits+1, r.J.Guard), job(r.J.Const, r.J.Digits, r.J.Guard+1), job(r.J.Const-256, r.J.Digits, r.J.Guard), job(r.J.Const, r.J.Digits+1<<32, r.J.Guard),
			job(-1, -1, -1), job(math.MinInt, math.MaxInt, math.MinInt),
		} {
			checkFind(t, d, j)
		}
	}
}

// TestFindNames: P16.2, the name has to be that of the part's own range, to the byte.
func TestFindNames(t *testing.T) {
	for _, p := range []api.Part{part(0, 4, 1), part(8, 16, 2), part(5, 0, 3), part(1234, 1240, 4), {}} {
		data := encoding(pi(), p)
		own := keep.Name(p.R)
		for _, name := range []string{
			"t", "u", "out", "c", "c-", "C" + own[1:], own[1:], "c" + own, own + "0", own + " ", " " + own, own + "\x00", "c0" + own[1:], strings.Replace(own, "-", "-0", 1), strings.Replace(own, "-", "+", 1), strings.Replace(own, "-", "", 1), "d" + own[1:],
			"c0-5", "c4-0", "c16-8", "c-8-16", "c8-15", "c9-16", "c0-0", "c0-4", "c8-16", "c5-0", own[:len(own)-1], "\xffc", longest,
		} {
			d := of(0, safe(name, data))
			if name == own {
				checkFind(t, d, pi(), p)
			} else {
				checkFind(t, d, pi())
			}
		}
	}
	d, e := keep.Save(of(5000), pi(), part(0, 4, 1))
	if e != api.OK {
		t.Fatal(e)
	}
	checkFind(t, d, pi(), part(0, 4, 1))
	d, _ = disk.Rename(d, "c0-4", "c0-5")
	checkFind(t, d, pi())
	d, _ = disk.Rename(d, "c0-5", "c0-4")
	checkFind(t, d, pi(), part(0, 4, 1))
	swapped := of(5000, safe("c0-8", encoding(pi(), part(8, 16, 1))), safe("c8-16", encoding(pi(), part(0, 8, 1))), kept(pi(), part(16, 24, 1)))
	checkFind(t, swapped, pi(), part(16, 24, 1))
}

// TestFindData: P16.2, Data counts, not what is safe.
func TestFindData(t *testing.T) {
	p, other := part(8, 16, 1), part(8, 16, 2)
	data := encoding(pi(), p)
	for _, x := range []struct {
		data, safe string
		want       []api.Part
	}{{data, "", []api.Part{p}}, {data, "something", []api.Part{p}}, {"", data, nil}, {data[:20], data, nil}, {data, encoding(pi(), other), []api.Part{p}}, {encoding(pi(), other), data, []api.Part{other}}, {encoding(job(1, 2, 3), p), data, nil}} {
		checkFind(t, of(0, api.File{Name: "c8-16", Data: x.data, Safe: x.safe}), pi(), x.want...)
	}
}

// TestFindDamaged: P16.2, what Of does not accept, whatever its error, is left out, and what is behind it is not.
func TestFindDamaged(t *testing.T) {
	j, p := pi(), part(8, 16, 1)
	s := encoding(j, p)
	damaged := []string{
		"", "x", "TALY", sealed("TALY"), s[:len(s)-1], s[1:], s + "\x00", "\x00" + s, s + s, sealed(s), sealed(s[:len(s)-4] + "\x00"), with(s, 0, "t"), with(s, minusAt, "\x02"), with(s, digitsAt, "\x80"),
		sealed(s[:numbersAt]), sealed(s[:numbersAt] + "\x00\x00\x10\x01"), sealed(s[:numbersAt] + "\x00\x00\x00\x01" + strings.Repeat("\x00", 16)), strings.Repeat("\x00", len(s)), strings.Repeat("TALY", 100),
		with(s, 4, "\x01"), with(s, digitsAt+3, "\x1f"), with(s, digitsAt+7, "\x09"), with(s, digitsAt+11, "\x09"), with(s, digitsAt+15, "\x11"),
	}
	for n := range len(s) {
		damaged = append(damaged, s[:n], s[:n]+strings.Repeat("\x00", len(s)-n)+"\x00", s[:n]+string([]byte{s[n] ^ 1})+s[n+1:], s[:n]+string([]byte{s[n] ^ 0x80})+s[n+1:])
	}
	before, behind := part(0, 8, 1), part(9, 10, 1)
	for _, x := range damaged {
		checkFind(t, of(0, kept(j, before), safe("c8-16", x), kept(j, behind)), j, before, behind)
	}
	checkFind(t, of(0, kept(j, before), kept(j, p), kept(j, behind)), j, before, p, behind)
}

// TestFindApart: R3, parts that were found before stay as they are when others are changed.
func TestFindApart(t *testing.T) {
	d := of(5000, kept(pi(), part(0, 8, 1)), kept(pi(), part(8, 16, 2)))
	want := []api.Part{part(0, 8, 1), part(8, 16, 2)}
	first := keep.Find(d, pi())
	second := keep.Find(d, pi())
	for _, p := range first {
		for _, a := range [][]uint64{p.P, p.Q, p.T} {
			clear(a)
			_ = append(a, top)
		}
	}
	clear(first)
	if !equalParts(second, want) || !equalParts(keep.Find(d, pi()), want) {
		t.Errorf("parts share memory: %v", second)
	}
}

// TestClean: P16.2, only `t` is taken away, whatever is in it.
func TestClean(t *testing.T) {
	for _, d := range []api.Disk{
		{}, of(0), of(20), usual(), many(64, 64), without(usual(), "t"), of(9, safe("t", "x")), of(9, api.File{Name: "t", Safe: "x"}), of(9, api.File{Name: "t"}), of(0, kept(pi(), part(0, 8, 1)), safe("t", encoding(pi(), part(8, 16, 1)))),
		of(9, safe("T", "x"), safe("ta", "x"), safe("\x00t", "x"), safe("s", "x"), safe("u", "x"), safe("t\x00", "x"), safe(" t", "x"), safe("tt", "x")), plus(many(3, 63), api.File{Name: "t", Data: "above the room"}),
	} {
		before := copied(d)
		got := keep.Clean(d)
		if !equal(got, without(d, "t")) || !equal(d, before) {
			t.Errorf("Clean of %#v: %#v", before, got)
		}
		apart(t, d, got)
		if again := keep.Clean(got); !equal(again, got) {
			t.Errorf("Clean of %#v once more: %#v", got, again)
		}
	}
}

// jobs are those of the records that are known, and one that has none.
func jobs() []api.Job {
	return []api.Job{pi(), job(api.CE, 30, 8), job(api.CPi, 30, 16), job(api.CE, 30, 16)}
}

// known are records of few jobs and ranges, so that they meet, with several parts for every range, and their files.
func known() ([]api.Record, map[api.File]api.Record) {
	var l []api.Record
	files := map[api.File]api.Record{}
	for _, j := range jobs()[:3] {
		for from := 0; from < 40; from += 8 {
			for seed := range uint64(2) {
				r := api.Record{J: j, P: part(from, from+8, seed)}
				l, files[kept(j, r.P)] = append(l, r), r
			}
		}
	}
	return l, files
}

// wanted are the parts that a disk holds for a job, told by the files that are known: each of them holds one of these or none.
func wanted(d api.Disk, j api.Job, files map[api.File]api.Record) []api.Part {
	var l []api.Part
	for _, f := range d.Files {
		if r, ok := files[safe(f.Name, f.Data)]; ok && r.J == j {
			l = append(l, r.P)
		}
	}
	return l
}

// masks are as many as a power failure may be given, without any pattern.
func masks(s *uint64) []uint64 {
	var l []uint64
	for range below(s, 4) {
		l = append(l, next(s)^next(s)<<32)
	}
	return l
}

// TestPlays: P16.1 to P16.3, long plays of parts that are saved, files that are written over, lost and renamed, and power failures: what is found is always what is there, and what is saved is found.
func TestPlays(t *testing.T) {
	l, files := known()
	for seed := range uint64(100) {
		s := seed*991 + 3
		d := of([...]int{300, 800, 5000, 100000}[seed%4])
		for range 100 {
			r := l[below(&s, len(l))]
			switch below(&s, 8) {
			default:
				d = saved(t, d, r, files)
			case 0:
				d, _ = disk.Delete(d, keep.Name(r.P.R))
			case 1:
				d, _ = disk.Rename(d, keep.Name(r.P.R), keep.Name(l[below(&s, len(l))].P.R))
			case 2:
				d, _ = disk.Write(d, [...]string{"t", "out", keep.Name(r.P.R)}[below(&s, 3)], encoding(r.J, r.P)[below(&s, 3):])
			case 3:
				d = disk.Crash(d, masks(&s))
			case 4:
				d = keep.Clean(d)
			}
			for _, j := range jobs() {
				checkFind(t, d, j, wanted(d, j, files)...)
			}
		}
	}
}

// saved is a disk with one more part: it is found, and so is all that was there and is not of its range; or there is no room, and the disk is as it was.
func saved(t *testing.T, d api.Disk, r api.Record, files map[api.File]api.Record) api.Disk {
	t.Helper()
	before := copied(d)
	after, e := keep.Save(d, r.J, r.P)
	if e != api.OK {
		n := used(without(before, "t")) + len(encoding(r.J, r.P))
		if e != api.ErrFull || n <= d.Room || !equal(after, before) {
			t.Fatalf("Save of %v on %#v: %#v, %d", r, before, after, e)
		}
		return after
	}
	for _, j := range jobs() {
		want := slices.DeleteFunc(wanted(before, j, files), func(p api.Part) bool { return p.R == r.P.R })
		if j == r.J {
			want = append(want, r.P)
		}
		found := keep.Find(after, j)
		if len(found) != len(want) || slices.ContainsFunc(want, func(p api.Part) bool { return !holds(found, p) }) {
			t.Fatalf("after Save of %v on %#v the parts of %v are %v, not %v", r, before, j, found, want)
		}
	}
	return after
}

// holds tells whether a part is among others.
func holds(l []api.Part, p api.Part) bool {
	return slices.ContainsFunc(l, func(q api.Part) bool { return equalParts([]api.Part{p}, []api.Part{q}) })
}

// TestPowerFails: P16.3, the power fails before, between and after the acts: what was found is found, and the new part wholly or not at all; then it can be saved.
func TestPowerFails(t *testing.T) {
	j := pi()
	for _, d := range []api.Disk{of(9000), without(usual(), "c"), usual(), of(9000, kept(j, part(8, 16, 9)), kept(j, part(16, 24, 9))), of(9000, kept(j, part(0, 8, 9)), safe("t", encoding(j, part(8, 16, 5)))), plus(many(9000, 61), kept(j, part(8, 16, 9)))} {
		for seed := range uint64(40) {
			s := seed + 1
			p := part([...]int{0, 8, 32}[seed%3], [...]int{8, 16, 40}[seed%3], seed+10)
			acts, e := keep.Steps(j, p)
			if e != api.OK {
				t.Fatal(e)
			}
			old := keep.Find(d, j)
			with := keep.Find(plus(d, kept(j, p)), j)
			at := copied(d)
			for n := range len(acts) + 1 {
				for _, m := range [][]uint64{nil, {0}, {1}, {top}, {top - 1}, {3}, {5}, masks(&s), masks(&s), masks(&s)} {
					failed := disk.Crash(at, m)
					found := keep.Find(failed, j)
					if n < len(acts) && !equalParts(found, old) || n == len(acts) && !equalParts(found, with) {
						t.Fatalf("after %d acts and a power failure by %x of %#v: %v", n, m, at, found)
					}
					checkFind(t, keep.Clean(failed), j, found...)
					again, e := keep.Save(failed, j, p)
					if e != api.OK {
						t.Fatalf("after %d acts and a power failure by %x of %#v: %d", n, m, at, e)
					}
					checkFind(t, disk.Crash(again, m), j, with...)
				}
				if n < len(acts) {
					at, _ = keep.Do(at, acts[n])
				}
			}
			if whole, e := keep.Save(d, j, p); !equal(at, whole) || e != api.OK {
				t.Fatalf("the acts one by one: %#v, not %#v, %d", at, whole, e)
			}
		}
	}
}

// TestAlways: R4, the same answers for the same arguments, whatever was called meanwhile.
func TestAlways(t *testing.T) {
	p := part(24, 32, 3)
	first, _ := keep.Save(usual(), pi(), p)
	for range 10 {
		keep.Save(of(5000), job(api.CE, 1, 8), part(0, 8, 9))
		keep.Do(usual(), api.Act{Kind: api.ADelete, Name: "out"})
		keep.Clean(usual())
		if again, e := keep.Save(usual(), pi(), p); !equal(first, again) || e != api.OK {
			t.Fatalf("Save: %#v, and then %#v", first, again)
		}
		checkFind(t, usual(), pi(), part(0, 8, 1), part(8, 16, 2))
	}
}

// TestNeverPanics: R1, disks that are not valid, and all calls.
func TestNeverPanics(t *testing.T) {
	p := part(8, 16, 1)
	for _, d := range []api.Disk{
		{Room: -1}, {Room: math.MinInt, Files: []api.File{kept(pi(), p), kept(pi(), p)}}, {Room: 9000, Files: []api.File{safe("t", "x"), kept(pi(), p), safe("t", "y"), {}, {Name: longer}, kept(pi(), part(0, 8, 1))}}, many(9000, 100),
	} {
		keep.Save(d, pi(), p)
		keep.Find(d, pi())
		keep.Clean(d)
		for kind := range 6 {
			for _, name := range []string{"", "t", "c8-16", longer} {
				keep.Do(d, api.Act{Kind: kind, Name: name, To: name, Data: name})
			}
		}
	}
}
