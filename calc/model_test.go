package calc_test

import (
	"encoding/binary"
	"hash/crc32"
	"math/big"
	"slices"
	"strconv"
	"strings"
	"sync"

	"tallystick/api"
	"tallystick/disk"
)

// What a calculator does, written apart from the layers (but for the power failure of a disk, which is chapter 15's), for disks on which all parts that are found are correct.

const (
	top     = 1<<64 - 1
	longest = 1000 // how many digits are told at most

	// room is enough for any request.
	room = 100000
)

// next are words without any pattern, the same ones in every run.
func next(s *uint64) uint64 {
	*s = *s*6364136223846793005 + 1442695040888963407
	return *s ^ *s>>29
}

// below is a number from 0 to n - 1 without any pattern.
func below(s *uint64, n int) int { return int(next(s) >> 33 % uint64(n)) }

// masksOf are as many as a power failure may be given, without any pattern.
func masksOf(s *uint64) []uint64 {
	var l []uint64
	for range below(s, 4) {
		l = append(l, next(s)^next(s)<<32)
	}
	return l
}

// big1 is a number of one word.
func big1(n int) *big.Int { return big.NewInt(int64(n)) }

// ten is 10^n.
func ten(n int) *big.Int { return new(big.Int).Exp(big1(10), big1(n), nil) }

// words is the slice of a number.
func words(n *big.Int) []uint64 {
	var a []uint64
	for n = new(big.Int).Set(n); n.Sign() > 0; n.Rsh(n, 64) {
		a = append(a, new(big.Int).And(n, new(big.Int).SetUint64(top)).Uint64())
	}
	return a
}

// allOf are the digits of a constant, more than may be requested, as one number.
var allOf = map[int]func() string{api.CE: sync.OnceValue(digitsOfE), api.CPi: sync.OnceValue(digitsOfPi)}

// spare is how many digits are computed beyond those that are told.
const spare = 40

// digitsOfE sums the inverse factorials.
func digitsOfE() string {
	sum, term := new(big.Int), ten(longest+spare)
	for k := 1; term.Sign() > 0; k++ {
		sum.Add(sum, term)
		term.Quo(term, big1(k))
	}
	return sum.String()
}

// digitsOfPi are 16 arctan(1/5) - 4 arctan(1/239), as Machin found.
func digitsOfPi() string {
	a, b := arctan(5), arctan(239)
	return a.Sub(a.Mul(a, big1(16)), b.Mul(b, big1(4))).String()
}

// arctan is that of 1 / n.
func arctan(n int) *big.Int {
	sum, power := new(big.Int), new(big.Int).Quo(ten(longest+spare), big1(n))
	for k := 1; power.Sign() > 0; k += 2 {
		term := new(big.Int).Quo(power, big1(k))
		if k%4 == 3 {
			term.Neg(term)
		}
		sum.Add(sum, term)
		power.Quo(power, big1(n*n))
	}
	return sum
}

// figures are so many digits of a constant, truncated.
func figures(c, d int) string {
	s := allOf[c]()
	return s[:1] + "." + s[1:1+d]
}

// job is that of a request in a round.
func job(c, d, round int) api.Job {
	return api.Job{Const: c, Digits: d, Guard: 8 << min(max(round, 0), 4)}
}

// termsOf is how many terms a job requires.
func termsOf(j api.Job) int {
	m := j.Digits + j.Guard
	if j.Const == api.CPi {
		return m/14 + 2
	}
	n, factorial := 1, big1(1)
	for factorial.Cmp(ten(m+2)) < 0 {
		n++
		factorial.Mul(factorial, big1(n))
	}
	return n
}

// piecesOf are a job's pieces.
func piecesOf(j api.Job) []api.Range {
	var l []api.Range
	n := termsOf(j)
	for from := 0; from < n; from += 8 {
		l = append(l, api.Range{From: from, To: min(from+8, n)})
	}
	return l
}

// leaf is the term a: P, Q and T, with its sign.
func leaf(c, a int) (p, q, t *big.Int) {
	if c == api.CE {
		return big1(1), big1(max(a, 1)), big1(1)
	}
	p, q = big1(1), big1(1)
	if a > 0 {
		p = big1((6*a - 5) * (2*a - 1) * (6*a - 1))
		q.Mul(big1(a*a*a), big1(10939058860032000))
	}
	t = new(big.Int).Mul(p, big1(13591409+545140134*a))
	if a%2 == 1 {
		t.Neg(t)
	}
	return p, q, t
}

// sumOf are the terms of a range, one after the other.
func sumOf(c int, r api.Range) api.Part {
	p, q, t := big1(1), big1(1), big1(0)
	for a := r.From; a < r.To; a++ {
		lp, lq, lt := leaf(c, a)
		t.Add(t.Mul(t, lq), lt.Mul(lt, p))
		p.Mul(p, lp)
		q.Mul(q, lq)
	}
	return api.Part{R: r, P: words(p), Q: words(q), T: words(new(big.Int).Abs(t)), Minus: t.Sign() < 0}
}

// sealed are bytes with their checksum behind them.
func sealed(s string) string {
	return string(binary.BigEndian.AppendUint32([]byte(s), crc32.ChecksumIEEE([]byte(s))))
}

// encoding is that of a record of a part.
func encoding(j api.Job, p api.Part) string {
	b := append([]byte("TALY"), byte(j.Const))
	for _, n := range []int{j.Digits, j.Guard, p.R.From, p.R.To} {
		b = binary.BigEndian.AppendUint32(b, uint32(n))
	}
	if p.Minus {
		b = append(b, 1)
	} else {
		b = append(b, 0)
	}
	for _, a := range [][]uint64{p.P, p.Q, p.T} {
		b = binary.BigEndian.AppendUint32(b, uint32(len(a)))
		for _, w := range a {
			b = binary.BigEndian.AppendUint64(b, w)
		}
	}
	return sealed(string(b))
}

// records keeps the encodings of pieces, as they are asked for again and again.
var records sync.Map

// record is the encoding of the correct part of a job for a range.
func record(j api.Job, r api.Range) string {
	type key struct {
		j api.Job
		r api.Range
	}
	if s, ok := records.Load(key{j, r}); ok {
		return s.(string)
	}
	s := encoding(j, sumOf(j.Const, r))
	records.Store(key{j, r}, s)
	return s
}

// nameOf is the name of a range.
func nameOf(r api.Range) string { return "c" + strconv.Itoa(r.From) + "-" + strconv.Itoa(r.To) }

// safe is a file that survives.
func safe(name, data string) api.File { return api.File{Name: name, Data: data, Safe: data} }

// piece is the file of the correct part of a job for a range.
func piece(j api.Job, r api.Range) api.File { return safe(nameOf(r), record(j, r)) }

// of is a disk of these files, each where it belongs.
func of(room int, files ...api.File) api.Disk {
	l := slices.Clone(files)
	slices.SortFunc(l, func(a, b api.File) int { return strings.Compare(a.Name, b.Name) })
	return api.Disk{Room: room, Files: l}
}

// many is a disk of n small files.
func many(room, n int) api.Disk {
	d := of(room)
	for i := range n {
		d.Files = append(d.Files, safe("n"+strconv.Itoa(100+i), "x"))
	}
	return d
}

// read is what a file holds, and whether it is there.
func read(d api.Disk, name string) (api.File, bool) {
	for _, f := range d.Files {
		if f.Name == name {
			return f, true
		}
	}
	return api.File{}, false
}

// without is a disk without the file of a name.
func without(d api.Disk, name string) api.Disk {
	return api.Disk{Room: d.Room, Files: slices.DeleteFunc(slices.Clone(d.Files), func(f api.File) bool { return f.Name == name })}
}

// plus is a disk with files, which take the place of those of the same names.
func plus(d api.Disk, files ...api.File) api.Disk {
	for _, f := range files {
		d = of(d.Room, append(without(d, f.Name).Files, f)...)
	}
	return d
}

// fits tells whether a disk may be as it is.
func fits(d api.Disk) bool {
	n := 0
	for _, f := range d.Files {
		n += len(f.Data)
	}
	return len(d.Files) <= 64 && n <= d.Room
}

// done is a disk after an act.
func done(d api.Disk, a api.Act) (api.Disk, api.Errno) {
	f, there := read(d, a.Name)
	switch {
	case a.Kind < api.AWrite || a.Kind > api.ADelete:
		return d, api.ErrArg
	case a.Kind == api.AWrite && (a.Name == "" || len(a.Name) > 16):
		return d, api.ErrArg
	case a.Kind == api.AWrite:
		if more := plus(d, api.File{Name: a.Name, Data: a.Data, Safe: f.Safe}); fits(more) {
			return more, api.OK
		}
		return d, api.ErrFull
	case !there:
		return d, api.ErrNone
	case a.Kind == api.ASync:
		return plus(d, safe(a.Name, f.Data)), api.OK
	case a.Kind == api.ADelete:
		return without(d, a.Name), api.OK
	case a.To == "" || len(a.To) > 16:
		return d, api.ErrArg
	}
	return plus(without(d, a.Name), api.File{Name: a.To, Data: f.Data, Safe: f.Safe}), api.OK
}

// actsOf are those that put data into a file, first under another name.
func actsOf(first, data, last string) []api.Act {
	return []api.Act{{Kind: 1, Name: first, Data: data}, {Kind: 2, Name: first}, {Kind: 3, Name: first, To: last}}
}

// fresh is a calculator that begins.
func fresh(d api.Disk, c, digits int) api.Calc {
	return api.Calc{D: d, Const: c, Digits: digits, On: true}
}

// failed is a calculator that has an error.
func failed(x api.Calc, e api.Errno) api.Calc {
	x.State, x.Err, x.Left = api.TFail, e, nil
	return x
}

// stepped is a calculator after one step, for a request that may be, if the digits are certain in its round.
func stepped(x api.Calc) api.Calc {
	if !x.On || x.State != api.TRuns {
		return x
	}
	if len(x.Left) > 0 {
		return acted(x)
	}
	j := job(x.Const, x.Digits, x.Round)
	for _, r := range piecesOf(j) {
		if f, _ := read(x.D, nameOf(r)); f.Data != record(j, r) {
			x.Pieces++
			x.Left = actsOf("t", record(j, r), nameOf(r))
			return x
		}
	}
	x.Written = true
	x.Left = actsOf("u", figures(x.Const, x.Digits), "out")
	return x
}

// acted is a calculator after its first act.
func acted(x api.Calc) api.Calc {
	d, e := done(x.D, x.Left[0])
	x.D = d
	if e != api.OK {
		return failed(x, e)
	}
	x.Left = slices.Clone(x.Left[1:])
	if len(x.Left) == 0 && x.Written {
		x.State = api.TDone
	}
	return x
}

// gone is a calculator after a power failure.
func gone(x api.Calc, masks []uint64) api.Calc {
	return api.Calc{D: disk.Crash(x.D, masks), Const: x.Const, Digits: x.Digits, Pieces: x.Pieces}
}

// come is a calculator whose power returns, of a request that may be.
func come(x api.Calc) api.Calc {
	if x.On {
		return x
	}
	return api.Calc{D: x.D, Const: x.Const, Digits: x.Digits, On: true, Pieces: x.Pieces}
}

// met is a calculator after an event.
func met(x api.Calc, e api.Event) api.Calc {
	switch e.Kind {
	case api.ESteps:
		for range max(0, min(e.N, 1000)) {
			x = stepped(x)
		}
	case api.EGoes:
		x = gone(x, e.Masks)
	case api.EComes:
		x = come(x)
	}
	return x
}

// boundOf is how many steps are enough for a request that may be.
func boundOf(c, d int) int {
	n := 5
	for round := range 4 {
		n += 4 * len(piecesOf(job(c, d, round)))
	}
	return n
}

// equal are two calculators whose fields are equal.
func equal(a, b api.Calc) bool {
	return a.D.Room == b.D.Room && slices.Equal(a.D.Files, b.D.Files) && slices.Equal(a.Left, b.Left) &&
		a.Const == b.Const && a.Digits == b.Digits && a.On == b.On && a.Round == b.Round && a.State == b.State && a.Err == b.Err && a.Pieces == b.Pieces && a.Written == b.Written
}

// copied is a calculator that shares nothing with another.
func copied(x api.Calc) api.Calc {
	x.D.Files, x.Left = slices.Clone(x.D.Files), slices.Clone(x.Left)
	return x
}
