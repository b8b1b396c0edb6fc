package disk_test

import (
	"bytes"
	"maps"
	"math"
	"slices"
	"strconv"
	"strings"
	"testing"

	"tallystick/api"
	"tallystick/disk"
)

const (
	top = 1<<64 - 1

	// longest is as long as a name may be, and longer by a byte is not one any more.
	longest = "0123456789abcdef"
	longer  = longest + "g"
)

// next are words without any pattern, the same ones in every run.
func next(s *uint64) uint64 {
	*s = *s*6364136223846793005 + 1442695040888963407
	return *s ^ *s>>29
}

// below is a number from 0 to n - 1 without any pattern.
func below(s *uint64, n int) int { return int(next(s) >> 33 % uint64(n)) }

// random are n bytes without any pattern.
func random(s *uint64, n int) string {
	b := make([]byte, n)
	for i := range b {
		b[i] = byte(next(s) >> 40)
	}
	return string(b)
}

// of is a disk of these files.
func of(room int, files ...api.File) api.Disk { return api.Disk{Room: room, Files: files} }

// one is a disk with a single file.
func one(data, safe string) api.Disk { return of(1000, api.File{Name: "f", Data: data, Safe: safe}) }

// many is a disk of n files, of one byte each that is not safe.
func many(room, n int) api.Disk {
	d := of(room)
	for i := range n {
		d.Files = append(d.Files, api.File{Name: "n" + strconv.Itoa(100+i), Data: "x"})
	}
	return d
}

// usual is a disk with files of all kinds: safe, not safe yet, new, emptied, with names of every length and of any bytes.
func usual() api.Disk {
	return of(300,
		api.File{Name: "\x00", Data: "zero", Safe: "zero"},
		api.File{Name: longest, Data: "longest", Safe: "longest ones"},
		api.File{Name: "A", Data: "new"},
		api.File{Name: "a", Data: "", Safe: "emptied"},
		api.File{Name: "ab", Data: "changed twice over", Safe: "changed"},
		api.File{Name: "b", Data: "", Safe: ""},
		api.File{Name: "\xff\xfe", Data: "no text", Safe: "no text"},
	)
}

// sorted is a disk with its files where they belong.
func sorted(d api.Disk) api.Disk {
	slices.SortFunc(d.Files, func(a, b api.File) int { return bytes.Compare([]byte(a.Name), []byte(b.Name)) })
	return d
}

// equal are two disks whose fields are equal.
func equal(a, b api.Disk) bool {
	if a.Room != b.Room || len(a.Files) != len(b.Files) {
		return false
	}
	for i, f := range a.Files {
		if g := b.Files[i]; f.Name != g.Name || f.Data != g.Data || f.Safe != g.Safe {
			return false
		}
	}
	return true
}

// copied is a disk that shares nothing with another.
func copied(d api.Disk) api.Disk {
	c := of(d.Room)
	for _, f := range d.Files {
		c.Files = append(c.Files, f)
	}
	return c
}

// act is a call that changes a disk.
type act struct {
	kind           string
	name, to, data string
	masks          []uint64
}

// done is what a call answers.
func (a act) done(d api.Disk) (api.Disk, api.Errno) {
	switch a.kind {
	case "Write":
		return disk.Write(d, a.name, a.data)
	case "Sync":
		return disk.Sync(d, a.name)
	case "Rename":
		return disk.Rename(d, a.name, a.to)
	case "Delete":
		return disk.Delete(d, a.name)
	}
	return disk.Crash(d, a.masks), api.OK
}

// wanted is what the chapter says that a call answers, told by the files' names.
func (a act) wanted(d api.Disk) (api.Disk, api.Errno) {
	files := map[string]api.File{}
	for _, f := range d.Files {
		files[f.Name] = f
	}
	f, there := files[a.name]
	if a.kind != "Write" && a.kind != "Crash" && !there {
		return d, api.ErrNone
	}
	switch a.kind {
	case "Write":
		if len(a.name) < 1 || len(a.name) > 16 {
			return d, api.ErrArg
		}
		files[a.name] = api.File{Name: a.name, Data: a.data, Safe: f.Safe}
		used := 0
		for _, g := range files {
			used += len(g.Data)
		}
		if len(files) > 64 || used > d.Room {
			return d, api.ErrFull
		}
	case "Sync":
		files[a.name] = api.File{Name: a.name, Data: f.Data, Safe: f.Data}
	case "Rename":
		if len(a.to) < 1 || len(a.to) > 16 {
			return d, api.ErrArg
		}
		delete(files, a.name)
		files[a.to] = api.File{Name: a.to, Data: f.Data, Safe: f.Safe}
	case "Delete":
		delete(files, a.name)
	case "Crash":
		for i, g := range d.Files {
			files[g.Name] = left(g, mask(a.masks, i))
		}
	}
	return sorted(of(d.Room, slices.Collect(maps.Values(files))...)), api.OK
}

// mask is the one of the i-th file.
func mask(masks []uint64, i int) uint64 {
	if len(masks) == 0 {
		return 0
	}
	return masks[i%len(masks)]
}

// left is what the chapter says of a file after a power failure, byte by byte.
func left(f api.File, mask uint64) api.File {
	if f.Data == f.Safe {
		return f
	}
	n := len(f.Safe)
	if mask%2 == 1 {
		n = len(f.Data)
	}
	var b []byte
	for i := range n {
		source, bit := f.Safe, 1+i/16%63
		if mask&(1<<bit) != 0 {
			source = f.Data
		}
		if i < len(source) {
			b = append(b, source[i])
		} else {
			b = append(b, 0)
		}
	}
	return api.File{Name: f.Name, Data: string(b), Safe: string(b)}
}

// check holds a call against the chapter, and looks whether it left its disk and its masks as they were, whether both disks are right, and whether one lives on when the other is written over.
func check(t *testing.T, d api.Disk, a act) (api.Disk, api.Errno) {
	t.Helper()
	before, masks := copied(d), slices.Clone(a.masks)
	want, wantErr := a.wanted(copied(d))
	got, e := a.done(d)
	if !equal(got, want) || e != wantErr {
		t.Fatalf("%#v of %#v: %#v, %d, not %#v, %d", a, before, got, e, want, wantErr)
	}
	if !equal(d, before) || !slices.Equal(a.masks, masks) {
		t.Fatalf("%#v changed what it was given: %#v, not %#v", a, d, before)
	}
	if !disk.Right(got) {
		t.Fatalf("%#v of %#v: %#v is not right", a, before, got)
	}
	if e == api.OK {
		apart(t, d, got)
	}
	return got, e
}

// apart looks whether a disk and the one that was made of it have files of their own, and puts back what it changed.
func apart(t *testing.T, d, made api.Disk) {
	t.Helper()
	before, after := copied(d), copied(made)
	_ = append(made.Files, api.File{Name: "behind"})
	clear(made.Files)
	if !equal(d, before) {
		t.Fatalf("%#v shares its files with what was made of it", before)
	}
	copy(made.Files, after.Files)
	_ = append(d.Files, api.File{Name: "behind"})
	clear(d.Files)
	if !equal(made, after) {
		t.Fatalf("%#v shares its files with what it was made of", after)
	}
	copy(d.Files, before.Files)
}

// TestNew: P15.1, an empty disk with its room.
func TestNew(t *testing.T) {
	for _, x := range []struct{ room, want int }{
		{0, 0}, {1, 1}, {20, 20}, {10000, 10000}, {math.MaxInt, math.MaxInt}, {-1, 0}, {-10000, 0}, {math.MinInt, 0},
	} {
		d := disk.New(x.room)
		if d.Room != x.want || len(d.Files) != 0 || !disk.Right(d) {
			t.Errorf("New(%d) = %v", x.room, d)
		}
	}
}

// TestRight: P15.1, every condition on both sides of its bound.
func TestRight(t *testing.T) {
	file := func(name string) api.File { return api.File{Name: name} }
	for i, d := range []api.Disk{
		{}, of(0), of(math.MaxInt), usual(), many(64, 64), many(0, 1), many(63, 63), of(5, file("a")), of(5, file(longest)), of(5, file("\x00"), file("\x00\x00")),
		of(5, file("a"), file("b")), of(5, file("B"), file("a")), of(5, file("a"), file("aa")), of(5, file("10"), file("9")), of(5, file("\x7f"), file("\x80"), file("\xff")),
		of(2, api.File{Name: "a", Data: "more than there is room for"}),
	} {
		if !disk.Right(d) {
			t.Errorf("the disk %d, %#v, is not right", i, d)
		}
	}
	for i, d := range []api.Disk{
		of(-1), of(math.MinInt), of(-1, file("a")), many(100, 65), many(100, 200), of(5, file("")), of(5, file(""), file("a")), of(5, file("a"), file("")),
		of(5, file(longer)), of(5, file("0"), file(longer), file("1")), of(5, file("a"), file(strings.Repeat("b", 1000))),
		of(5, file("a"), file("a")), of(5, file("b"), file("a")), of(5, file("a"), file("c"), file("b")), of(5, file("c"), file("a"), file("b")), of(5, file("a"), file("b"), file("b")),
		of(5, file("a"), file("b"), file("a")), of(5, file("a"), file("B")), of(5, file("aa"), file("a")), of(5, file("9"), file("10")), of(5, file("\xff"), file("\x7f")),
		of(5, api.File{Name: "a", Data: "1"}, api.File{Name: "a", Data: "2"}),
	} {
		if disk.Right(d) {
			t.Errorf("the disk %d, %#v, is right", i, d)
		}
	}
}

// TestUsed: P15.1, the bytes of all Data, and of nothing else.
func TestUsed(t *testing.T) {
	for _, x := range []struct {
		d    api.Disk
		want int
	}{
		{api.Disk{}, 0}, {of(100), 0}, {one("", ""), 0}, {one("abc", ""), 3}, {one("", "abc"), 0}, {one("ab", "abcde"), 2}, {many(100, 64), 64}, {usual(), 4 + 3 + 18 + 7 + 7},
		{of(26, api.File{Name: "a", Data: "hello"}, api.File{Name: "b", Data: strings.Repeat("x", 21), Safe: "safe"}), 26}, {one("\xff\x00é", ""), 4},
		{of(1, api.File{Name: "a", Data: "more than there is room for"}), 27},
	} {
		if got := disk.Used(x.d); got != x.want {
			t.Errorf("Used(%#v) = %d, not %d", x.d, got, x.want)
		}
	}
}

// TestSame: P15.1, every field counts.
func TestSame(t *testing.T) {
	disks := []api.Disk{{}, disk.New(300), usual(), many(100, 3), many(100, 64), one("a", "b"), one("b", "a"), one("", "ab"), one("ab", ""), of(1000, api.File{Name: "fa", Safe: "b"})}
	for name, change := range map[string]func(d *api.Disk){
		"Room": func(d *api.Disk) { d.Room++ }, "Name": func(d *api.Disk) { d.Files[3].Name = "ac" }, "Data": func(d *api.Disk) { d.Files[3].Data += "x" }, "Safe": func(d *api.Disk) { d.Files[3].Safe += "x" },
		"last Safe": func(d *api.Disk) { d.Files[6].Safe = "" }, "first Data": func(d *api.Disk) { d.Files[0].Data = "zerO" },
		"fewer": func(d *api.Disk) { d.Files = d.Files[:6] }, "more": func(d *api.Disk) { d.Files = append(d.Files, api.File{Name: "\xff\xff"}) },
		"other order": func(d *api.Disk) { slices.Reverse(d.Files) },
	} {
		d := usual()
		change(&d)
		if disk.Same(d, usual()) || disk.Same(usual(), d) {
			t.Errorf("%s: not the same fields count as the same", name)
		}
		disks = append(disks, d)
	}
	for i, a := range disks {
		for k, b := range disks {
			if got := disk.Same(a, copied(b)); got != equal(a, b) {
				t.Errorf("Same of the disks %d and %d: %v", i, k, got)
			}
		}
	}
	if !disk.Same(of(5), api.Disk{Room: 5, Files: []api.File{}}) {
		t.Error("disks without files are not the same")
	}
}

// TestRead: P15.1, the Data of a file, not what is safe; and ErrNone.
func TestRead(t *testing.T) {
	for _, f := range usual().Files {
		if s, e := disk.Read(usual(), f.Name); s != f.Data || e != api.OK {
			t.Errorf("Read of %q: %q, %d", f.Name, s, e)
		}
	}
	for _, d := range []api.Disk{{}, usual(), many(64, 64)} {
		for _, name := range []string{"", "c", "aa", "abc", "0", longest[:15], longer, "\xff", "\xff\xfe\x00", "n1000", strings.Repeat("a", 1000)} {
			if s, e := disk.Read(d, name); s != "" || e != api.ErrNone {
				t.Errorf("Read of %q: %q, %d", name, s, e)
			}
		}
	}
}

// TestList: P15.1, the names that begin so, in their order.
func TestList(t *testing.T) {
	d := sorted(of(9, api.File{Name: "c8-16"}, api.File{Name: "c0-8"}, api.File{Name: "c"}, api.File{Name: "out"}, api.File{Name: "b"}, api.File{Name: "d"}, api.File{Name: "C"}, api.File{Name: "ac"}, api.File{Name: "c16-18"}, api.File{Name: "\xffc"}))
	for _, x := range []struct {
		d      api.Disk
		begins string
		want   []string
	}{
		{d, "c", []string{"c", "c0-8", "c16-18", "c8-16"}}, {d, "", []string{"C", "ac", "b", "c", "c0-8", "c16-18", "c8-16", "d", "out", "\xffc"}}, {d, "c0", []string{"c0-8"}}, {d, "c0-8", []string{"c0-8"}},
		{d, "c0-80", nil}, {d, "o", []string{"out"}}, {d, "ut", nil}, {d, "\xff", []string{"\xffc"}}, {d, "\x00", nil}, {d, longer, nil},
		{api.Disk{}, "", nil}, {api.Disk{}, "a", nil}, {one("c", "c"), "c", nil}, {one("c", "c"), "f", []string{"f"}},
		{usual(), "a", []string{"a", "ab"}}, {usual(), "", []string{"\x00", "0123456789abcdef", "A", "a", "ab", "b", "\xff\xfe"}},
	} {
		if got := disk.List(sorted(x.d), x.begins); !slices.Equal(got, x.want) {
			t.Errorf("List of %q: %q, not %q", x.begins, got, x.want)
		}
	}
	names := disk.List(d, "")
	clear(names)
	if again := disk.List(d, ""); len(again) != 10 || again[0] != "C" {
		t.Errorf("the names changed with a list of them: %q", again)
	}
}

// TestWrite: P15.2, new files at every place, and files that are there already.
func TestWrite(t *testing.T) {
	for _, d := range []api.Disk{{Room: 100}, usual(), one("abc", "ab"), many(1000, 5), many(1000, 63)} {
		for _, name := range []string{"\x00", "\x00\x00", "0", longest, longest[:15] + "e", longest[:15] + "g", "A", "B", "a", "aa", "ab", "abc", "b", "f", "n103", "n1030", "\xff", "\xff\xfe", "\xff\xff", strings.Repeat("\xff", 16)} {
			for _, data := range []string{"", "x", "new data\x00\xff", strings.Repeat("z", 60)} {
				after, e := check(t, d, act{kind: "Write", name: name, data: data})
				s, eRead := disk.Read(after, name)
				if e != api.OK || s != data || eRead != api.OK {
					t.Errorf("Write of %q to %q: %d, and then Read: %q, %d", data, name, e, s, eRead)
				}
			}
		}
	}
	if d, e := disk.Write(one("abc", "old"), "f", "de"); !equal(d, one("de", "old")) || e != api.OK {
		t.Errorf("Write over a file: %#v, %d", d, e)
	}
	if d, e := disk.Write(of(9), "f", "de"); !equal(d, of(9, api.File{Name: "f", Data: "de"})) || e != api.OK {
		t.Errorf("Write of a new file: %#v, %d", d, e)
	}
}

// TestWriteErrors: P15.2, names that may not be, too many files, and too many bytes, on both sides of the bounds; a name counts first.
func TestWriteErrors(t *testing.T) {
	full := many(64, 64)
	for _, x := range []struct {
		d          api.Disk
		name, data string
		want       api.Errno
	}{
		{usual(), "", "x", api.ErrArg}, {usual(), longer, "x", api.ErrArg}, {usual(), longest, "x", api.OK}, {usual(), strings.Repeat("a", 300), "", api.ErrArg}, {api.Disk{}, "", "", api.ErrArg},
		{usual(), "", strings.Repeat("x", 400), api.ErrArg}, {full, "", "x", api.ErrArg}, {full, longer, "", api.ErrArg}, {of(0), longer, "x", api.ErrArg},
		{full, "n", "", api.ErrFull}, {many(1000, 64), "z", "x", api.ErrFull}, {many(1000, 64), "n1000", "", api.ErrFull}, {many(1000, 63), "n", "x", api.OK}, {many(1000, 64), "n100", "xyz", api.OK}, {full, "n163", "", api.OK}, {full, "n163", "y", api.OK}, {full, "n163", "yz", api.ErrFull},
		{of(0), "a", "", api.OK}, {of(0), "a", "x", api.ErrFull}, {of(5), "a", "12345", api.OK}, {of(5), "a", "123456", api.ErrFull}, {of(math.MaxInt), "a", "x", api.OK},
		{usual(), "c", strings.Repeat("x", 300-39), api.OK}, {usual(), "c", strings.Repeat("x", 301-39), api.ErrFull},
		{usual(), "ab", strings.Repeat("x", 300-39+18), api.OK}, {usual(), "ab", strings.Repeat("x", 301-39+18), api.ErrFull}, {usual(), "a", strings.Repeat("x", 301-39), api.ErrFull},
		{of(20), "t", strings.Repeat("x", 21), api.ErrFull}, {of(20), "t", strings.Repeat("x", 20), api.OK}, {of(3, api.File{Name: "a", Data: "x", Safe: "a longer one"}), "a", "xyz", api.OK},
	} {
		if d, e := check(t, x.d, act{kind: "Write", name: x.name, data: x.data}); e != x.want || e != api.OK && !equal(d, x.d) {
			t.Errorf("Write of %d bytes to %q: %d, not %d", len(x.data), x.name, e, x.want)
		}
	}
}

// TestWriteAboveRoom: P15.2, a disk that holds more than it has room for: what is still above may not be written, what fits then may.
func TestWriteAboveRoom(t *testing.T) {
	d := of(10, api.File{Name: "a", Data: strings.Repeat("x", 12)}, api.File{Name: "b", Data: "yyyyy"})
	for _, x := range []struct {
		name, data string
		want       api.Errno
	}{{"a", "", api.OK}, {"a", "12345", api.OK}, {"a", "123456", api.ErrFull}, {"b", "", api.ErrFull}, {"b", "yyyyy", api.ErrFull}, {"c", "", api.ErrFull}} {
		if _, e := check(t, d, act{kind: "Write", name: x.name, data: x.data}); e != x.want {
			t.Errorf("Write of %q to %q: %d, not %d", x.data, x.name, e, x.want)
		}
	}
}

// TestSync: P15.2, one file becomes safe, all others stay as they are.
func TestSync(t *testing.T) {
	for _, d := range []api.Disk{usual(), one("abc", "ab"), one("", "ab"), many(64, 64), of(1, api.File{Name: "a", Data: "more than there is room for"})} {
		for i, f := range d.Files {
			want := copied(d)
			want.Files[i].Safe = f.Data
			if got, e := check(t, d, act{kind: "Sync", name: f.Name}); !equal(got, want) || e != api.OK {
				t.Errorf("Sync of %q: %#v, %d", f.Name, got, e)
			}
		}
	}
}

// TestDelete: P15.2, one file is gone, all others stay as they are.
func TestDelete(t *testing.T) {
	for _, d := range []api.Disk{usual(), one("abc", "ab"), many(64, 64)} {
		for i, f := range d.Files {
			want := copied(d)
			want.Files = slices.Delete(want.Files, i, i+1)
			if got, e := check(t, d, act{kind: "Delete", name: f.Name}); !equal(got, want) || e != api.OK {
				t.Errorf("Delete of %q: %#v, %d", f.Name, got, e)
			}
		}
	}
}

// TestRename: P15.2, to names that are there and to new ones, at every place; also to its own.
func TestRename(t *testing.T) {
	for _, d := range []api.Disk{usual(), one("abc", "ab"), many(64, 64)} {
		for _, f := range d.Files {
			for _, to := range append(disk.List(d, ""), "\x00\x00", "0", "B", "aa", "abc", "c", "n1000", strings.Repeat("z", 16), "\xff\xff") {
				got, e := check(t, d, act{kind: "Rename", name: f.Name, to: to})
				i := slices.IndexFunc(got.Files, func(g api.File) bool { return g.Name == to })
				if e != api.OK || got.Files[i].Data != f.Data || got.Files[i].Safe != f.Safe {
					t.Errorf("Rename of %q to %q: %#v, %d", f.Name, to, got, e)
				}
				if to == f.Name && !equal(got, d) {
					t.Errorf("Rename of %q to itself: %#v", to, got)
				}
			}
		}
	}
	a, b := api.File{Name: "a", Data: "1", Safe: "2"}, api.File{Name: "b", Data: "3", Safe: "4"}
	if d, e := disk.Rename(of(9, a, b), "a", "b"); !equal(d, of(9, api.File{Name: "b", Data: "1", Safe: "2"})) || e != api.OK {
		t.Errorf("Rename of a to b: %#v, %d", d, e)
	}
	if d, e := disk.Rename(of(9, a, b), "b", "a"); !equal(d, of(9, api.File{Name: "a", Data: "3", Safe: "4"})) || e != api.OK {
		t.Errorf("Rename of b to a: %#v, %d", d, e)
	}
	if d, e := disk.Rename(of(9, a, b), "a", "c"); !equal(d, of(9, b, api.File{Name: "c", Data: "1", Safe: "2"})) || e != api.OK {
		t.Errorf("Rename of a to c: %#v, %d", d, e)
	}
}

// TestErrNone: P15.2, files that are not there; this counts before a name that may not be.
func TestErrNone(t *testing.T) {
	for _, d := range []api.Disk{{}, of(9), usual(), many(64, 64)} {
		for _, name := range []string{"", "c", "aa", "abc", longest[:15], longer, "\xff", strings.Repeat("a", 1000)} {
			calls := []act{{kind: "Sync", name: name}, {kind: "Delete", name: name}}
			for _, to := range []string{"", "z", "a", longest, longer, name} {
				calls = append(calls, act{kind: "Rename", name: name, to: to})
			}
			for _, a := range calls {
				if got, e := check(t, d, a); !equal(got, d) || e != api.ErrNone {
					t.Errorf("%#v: %#v, %d", a, got, e)
				}
			}
		}
	}
}

// TestRenameErrArg: P15.2, a file that is there, and a name that may not be.
func TestRenameErrArg(t *testing.T) {
	for _, d := range []api.Disk{usual(), one("abc", "ab"), many(64, 64)} {
		for _, f := range d.Files {
			for _, to := range []string{"", longer, strings.Repeat("a", 1000), strings.Repeat("é", 9)} {
				if got, e := check(t, d, act{kind: "Rename", name: f.Name, to: to}); !equal(got, d) || e != api.ErrArg {
					t.Errorf("Rename of %q to %q: %#v, %d", f.Name, to, got, e)
				}
			}
		}
	}
}

// TestCrashExamples: P15.3, what the chapter tells, and blocks chosen one by one.
func TestCrashExamples(t *testing.T) {
	a, b := strings.Repeat("a", 16), strings.Repeat("b", 16)
	for _, x := range []struct {
		data, safe string
		masks      []uint64
		want       string
	}{
		{"hello", "", []uint64{1}, "\x00\x00\x00\x00\x00"}, {"hello", "", []uint64{7}, "hello"}, {"hello", "", []uint64{3}, "hello"}, {"hello", "", []uint64{0}, ""}, {"hello", "", []uint64{top - 1}, ""}, {"hello", "", []uint64{5}, "\x00\x00\x00\x00\x00"}, {"hello", "", nil, ""},
		{"", "safe", []uint64{1}, ""}, {"", "safe", []uint64{0}, "safe"}, {"", "safe", []uint64{2}, "\x00\x00\x00\x00"}, {"", "safe", []uint64{4}, "safe"}, {"", "safe", []uint64{top}, ""}, {"", "safe", []uint64{}, "safe"},
		{"same", "same", []uint64{top}, "same"}, {"same", "same", []uint64{0}, "same"}, {"", "", []uint64{1}, ""},
		{"cd", "ab", nil, "ab"}, {"cd", "ab", []uint64{1}, "ab"}, {"cd", "ab", []uint64{2}, "cd"}, {"cd", "abx", []uint64{2}, "cd\x00"}, {"cd", "abx", []uint64{3}, "cd"}, {"cd", "abx", []uint64{1}, "ab"}, {"cdx", "ab", []uint64{1}, "ab\x00"},
		{a + a + a, b + b + b, []uint64{2}, a + b + b}, {a + a + a, b + b + b, []uint64{4}, b + a + b}, {a + a + a, b + b + b, []uint64{8 + 1}, b + b + a}, {a + a + a, b + b + b, []uint64{16}, b + b + b}, {a + a + a, b + b + b, []uint64{14}, a + a + a},
		{a + "A", b, []uint64{1}, b + "\x00"}, {a + "A", b, []uint64{5}, b + "A"}, {a + "A", b, []uint64{4}, b}, {a, b + "B", []uint64{2}, a + "B"}, {a, b + "B", []uint64{6}, a + "\x00"}, {a, b + "B", []uint64{7}, a}, {a[:15], b, []uint64{2}, a[:15] + "\x00"},
	} {
		if got, _ := check(t, one(x.data, x.safe), act{kind: "Crash", masks: x.masks}); !equal(got, one(x.want, x.want)) {
			t.Errorf("Crash of %q, %q by %d: %#v, not %q", x.data, x.safe, x.masks, got, x.want)
		}
	}
	d, _ := disk.Write(disk.New(9), "f", "ab")
	d, _ = disk.Sync(d, "f")
	d, _ = disk.Write(d, "f", "cd")
	if s, e := disk.Read(disk.Crash(d, nil), "f"); s != "ab" || e != api.OK {
		t.Errorf("after the power has failed: %q, %d", s, e)
	}
}

// TestCrashBlocks: P15.3, every bit of a mask by itself, and all but one, for files of more blocks than there are bits.
func TestCrashBlocks(t *testing.T) {
	seed := uint64(3)
	for _, x := range [][2]int{{16 * 200, 16 * 200}, {1600, 1017}, {1017, 1600}, {16 * 63, 16*63 + 1}, {16*63 + 1, 16 * 63}, {16 * 64, 16 * 62}, {0, 2100}, {2100, 0}} {
		d := one(random(&seed, x[0]), random(&seed, x[1]))
		for bit := range 64 {
			for _, m := range []uint64{1 << bit, 1<<bit | 1, ^(1 << bit), ^(1 << bit) &^ 1} {
				check(t, d, act{kind: "Crash", masks: []uint64{m}})
			}
		}
	}
	data, safe := strings.Repeat("a", 16*130), strings.Repeat("b", 16*130)
	s, _ := disk.Read(disk.Crash(one(data, safe), []uint64{1 << 63}), "f")
	for k := range 130 {
		if want := k%63 == 62; (s[16*k] == 'a') != want || (s[16*k+15] == 'a') != want {
			t.Errorf("the block %d by the highest bit: %q", k, s[16*k:16*k+16])
		}
	}
}

// TestCrashLengths: P15.3, Data and Safe of all short lengths, by all masks for their blocks.
func TestCrashLengths(t *testing.T) {
	for n := range 50 {
		for m := range 50 {
			d := one(strings.Repeat("D", n), strings.Repeat("S", m))
			for bits := range uint64(32) {
				check(t, d, act{kind: "Crash", masks: []uint64{bits}})
			}
		}
	}
}

// TestCrashMasks: P15.3, which mask is whose: files count also if they are safe, and masks begin anew behind the last one.
func TestCrashMasks(t *testing.T) {
	for _, masks := range [][]uint64{nil, {}, {top}, {3, 0}, {0, 3}, {1, 2, 3}, {0, 0, 0, 3}, {3, 2, 1, 0, 3, 2, 1}, {0, 1, 2, 3, 4, 5, 6, 7, 8, 9}} {
		for _, d := range []api.Disk{{}, usual(), many(100, 10), many(64, 64)} {
			check(t, d, act{kind: "Crash", masks: masks})
		}
	}
	d := of(10, api.File{Name: "a", Data: "x", Safe: "x"}, api.File{Name: "b", Data: "y"}, api.File{Name: "c", Data: "z"}, api.File{Name: "d", Data: "w"})
	want := of(10, api.File{Name: "a", Data: "x", Safe: "x"}, api.File{Name: "b", Data: "y", Safe: "y"}, api.File{Name: "c", Data: "\x00", Safe: "\x00"}, api.File{Name: "d"})
	if got := disk.Crash(d, []uint64{0, 3, 1}); !equal(got, want) {
		t.Errorf("Crash by 0, 3, 1: %#v", got)
	}
}

// name is one of few, so that files meet, and now and then one that may not be.
func name(s *uint64) string {
	l := [...]string{"a", "b", "ab", "c0-8", "c8-16", "t", "u", "out", "\x00", "\xff", longest, "A", "Z", "aa", "", longer}
	return l[below(s, len(l))]
}

// anyAct is a call without any pattern.
func anyAct(s *uint64) act {
	a := act{kind: [...]string{"Write", "Write", "Write", "Sync", "Rename", "Delete", "Crash"}[below(s, 7)], name: name(s), to: name(s), data: random(s, below(s, 80))}
	for range below(s, 4) {
		a.masks = append(a.masks, next(s)^next(s)<<32)
	}
	return a
}

// TestPlays: P15.2 to P15.4, long plays: each call against the chapter; disks stay right, Write stays within the room, what is safe survives, and what is not told stays as it was.
func TestPlays(t *testing.T) {
	for seed := range uint64(300) {
		s := seed * 77
		d := disk.New([...]int{0, 50, 200, 1000}[seed%4])
		for range 200 {
			a := anyAct(&s)
			after, e := check(t, d, a)
			if a.kind == "Write" && e == api.OK && disk.Used(after) > d.Room {
				t.Fatalf("%#v went beyond the room %d: %d", a, d.Room, disk.Used(after))
			}
			unchanged(t, d, after, a)
			d = after
		}
	}
}

// unchanged looks whether a call left alone what it does not speak of, and a power failure what is safe.
func unchanged(t *testing.T, d, after api.Disk, a act) {
	t.Helper()
	if after.Room != d.Room {
		t.Fatalf("%#v changed the room from %d to %d", a, d.Room, after.Room)
	}
	for _, f := range d.Files {
		spoken := f.Name == a.name || a.kind == "Rename" && f.Name == a.to
		if a.kind == "Crash" {
			spoken = f.Data != f.Safe
		}
		if !spoken && !slices.Contains(after.Files, f) {
			t.Fatalf("%#v lost or changed the file %q", a, f)
		}
	}
	for _, f := range after.Files {
		if a.kind == "Crash" && f.Data != f.Safe {
			t.Fatalf("%#v left a file that is not safe: %q", a, f)
		}
	}
}

// TestSafe: P15.4, what was synchronized is there after any power failures, also if it was renamed, and whatever was done to other files.
func TestSafe(t *testing.T) {
	for seed := range uint64(500) {
		s := seed*991 + 5
		data := random(&s, below(&s, 100))
		d, _ := disk.Write(disk.New(5000), "kept", data)
		d, _ = disk.Sync(d, "kept")
		if seed%2 == 1 {
			d, _ = disk.Write(d, "kept too", "something else")
			d, _ = disk.Rename(d, "kept", "kept too")
			d, _ = disk.Rename(d, "kept too", "kept")
		}
		for range 30 {
			d, _ = check(t, d, anyAct(&s))
			if got, e := disk.Read(disk.Crash(d, []uint64{next(&s), next(&s)}), "kept"); got != data || e != api.OK {
				t.Fatalf("%q was safe, and is %q, %d", data, got, e)
			}
		}
	}
}

// TestAlways: R4, the same answers for the same arguments, whatever was called meanwhile.
func TestAlways(t *testing.T) {
	first := disk.Crash(usual(), []uint64{3, 5})
	for range 20 {
		disk.Write(usual(), "x", "y")
		disk.Delete(usual(), "a")
		if again := disk.Crash(usual(), []uint64{3, 5}); !disk.Same(first, again) || !equal(first, again) {
			t.Fatalf("Crash: %#v, and then %#v", first, again)
		}
	}
}

// TestNeverPanics: R1, disks that are not right, and all calls.
func TestNeverPanics(t *testing.T) {
	for _, d := range []api.Disk{
		of(-1), of(-5, api.File{Name: "a", Data: "x"}), of(9, api.File{}), of(9, api.File{}, api.File{}), of(9, api.File{Name: "b"}, api.File{Name: "a", Data: "x"}, api.File{Name: "b", Data: "y"}),
		of(9, api.File{Name: longer, Safe: longer}), many(1000, 100), of(math.MinInt, api.File{Name: "a"}, api.File{Name: "a", Safe: "x"}),
	} {
		if disk.Right(d) || !disk.Same(d, copied(d)) {
			t.Errorf("%#v is right, or not the same as itself", d)
		}
		for _, name := range []string{"", "a", "b", "c", "n100", longest, longer} {
			disk.Write(d, name, "z")
			disk.Sync(d, name)
			disk.Rename(d, name, "b")
			disk.Rename(d, "a", name)
			disk.Delete(d, name)
			disk.Read(d, name)
			disk.List(d, name)
		}
		disk.Used(d)
		disk.Crash(d, []uint64{top, 3})
		disk.Crash(d, nil)
	}
}
