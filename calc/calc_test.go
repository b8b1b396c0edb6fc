package calc_test

import (
	"math"
	"slices"
	"strings"
	"testing"

	"tallystick/api"
	"tallystick/calc"
)

// constants are those that there are.
func constants() []int { return []int{api.CE, api.CPi} }

// wrongRequests are constants and numbers of digits of which one or both may not be.
func wrongRequests() [][2]int {
	l := [][2]int{{3, 0}, {0, 1001}, {math.MinInt, math.MaxInt}, {-1, -1}}
	for _, c := range []int{0, 3, -1, -2, 4, 257, 1<<32 + 1, math.MinInt, math.MaxInt} {
		l = append(l, [2]int{c, 1}, [2]int{c, 30}, [2]int{c, 1000})
	}
	for _, c := range constants() {
		for _, d := range []int{0, -1, -8, -1000, 1001, 1002, 1<<32 + 5, math.MinInt, math.MaxInt} {
			l = append(l, [2]int{c, d})
		}
	}
	return l
}

// disks are of all kinds: empty ones, full ones, such with parts of jobs, and with files that are not safe.
func disks() []api.Disk {
	e, pi := job(api.CE, 5, 0), job(api.CPi, 30, 0)
	return []api.Disk{
		{}, of(0), of(room), of(50), many(room, 64), of(10, safe("a", strings.Repeat("x", 20))),
		of(room, safe("out", "2.71828"), api.File{Name: "t", Data: "new", Safe: "old"}, api.File{Name: "u", Data: "2.7"}),
		of(room, piece(e, api.Range{To: 8}), piece(e, api.Range{From: 16, To: 18}), piece(pi, api.Range{To: 4})),
		of(room, api.File{Name: "c0-8", Data: strings.Repeat("A", 40), Safe: strings.Repeat("b", 50)}, api.File{Name: "out", Data: "3.", Safe: "2."}, safe("\xff\x00", "")),
	}
}

// calculators are of all kinds, on all of these disks.
func calculators() []api.Calc {
	var l []api.Calc
	for _, d := range disks() {
		l = append(l, fresh(d, api.CE, 5), fresh(d, api.CPi, 30), gone(fresh(d, api.CE, 5), nil), failed(fresh(d, 3, 5), api.ErrWanted),
			api.Calc{D: d, Const: api.CE, Digits: 5, Round: 2, Left: actsOf("t", "data", "c0-8"), State: api.TRuns, Pieces: 7},
			api.Calc{D: d, Const: api.CPi, Digits: 9, On: true, Round: 3, Left: actsOf("u", "3.1", "out"), Pieces: 3, Written: true},
			api.Calc{D: d, Const: api.CE, Digits: 5, On: true, Round: 1, State: api.TDone, Pieces: 5, Written: true},
			api.Calc{D: d, Const: -4, Digits: 5000, Round: -1, Left: []api.Act{{}}, State: 9, Err: api.ErrFull, Pieces: -3, Written: true},
		)
	}
	return l
}

// check holds a calculator against what is wanted, and the one that it was made of against what that was; the two share no memory.
func check(t *testing.T, name string, x, before, got, want api.Calc) {
	t.Helper()
	if !equal(got, want) {
		t.Fatalf("%s of %+v: %+v, not %+v", name, before, got, want)
	}
	if !equal(x, before) {
		t.Fatalf("%s changed what it was given: %+v, not %+v", name, x, before)
	}
	after := copied(got)
	_, _ = append(got.D.Files, api.File{Name: "behind"}), append(got.Left, api.Act{Name: "behind"})
	clear(got.D.Files)
	clear(got.Left)
	if !equal(x, before) {
		t.Fatalf("%s of %+v shares memory with it", name, before)
	}
	copy(got.D.Files, after.D.Files)
	copy(got.Left, after.Left)
}

// checkStep holds a step against what is wanted, and answers it.
func checkStep(t *testing.T, x, want api.Calc) api.Calc {
	t.Helper()
	before := copied(x)
	got := calc.Step(x)
	check(t, "Step", x, before, got, want)
	return got
}

// checkPlay holds a play against what is wanted.
func checkPlay(t *testing.T, x api.Calc, l []api.Event, want api.Calc) {
	t.Helper()
	before := copied(x)
	check(t, "Play", x, before, calc.Play(x, l), want)
}

// TestNew: P20.1, all that is told is in it, it is On, and nothing else is set.
func TestNew(t *testing.T) {
	for _, d := range disks() {
		for _, c := range constants() {
			for _, n := range []int{1, 2, 5, 30, 999, 1000} {
				x := fresh(d, c, n)
				check(t, "New", x, copied(x), calc.New(d, c, n), x)
			}
		}
	}
}

// TestNewErrWanted: P20.1, a request that may not be fails, with all that was told, and On.
func TestNewErrWanted(t *testing.T) {
	for _, d := range disks() {
		for _, r := range wrongRequests() {
			x := fresh(d, r[0], r[1])
			want := api.Calc{D: d, Const: r[0], Digits: r[1], On: true, State: 2, Err: 13}
			check(t, "New", x, copied(x), calc.New(d, r[0], r[1]), want)
			checkStep(t, want, want)
			if _, is := read(d, "out"); !is {
				checkOutput(t, want, "", api.ErrNone)
			}
		}
	}
}

// checkOutput holds the output against what is wanted.
func checkOutput(t *testing.T, x api.Calc, want string, wantErr api.Errno) {
	t.Helper()
	before := copied(x)
	if got, e := calc.Output(x); got != want || e != wantErr {
		t.Fatalf("Output of %+v: %q, %d, not %q, %d", x, got, e, want, wantErr)
	}
	if !equal(x, before) {
		t.Fatalf("Output changed what it was given: %+v, not %+v", x, before)
	}
}

// TestGoes: P20.1, what the power leaves of any calculator, on or off: its disk, what is wanted, and the count of its pieces.
func TestGoes(t *testing.T) {
	s := uint64(20)
	for _, x := range calculators() {
		for _, masks := range [][]uint64{nil, {}, {0}, {1}, {top}, {7, 2}, {5, top, 0}, masksOf(&s), masksOf(&s), masksOf(&s)} {
			before, given := copied(x), slices.Clone(masks)
			got := calc.Goes(x, masks)
			want := gone(x, masks)
			check(t, "Goes", x, before, got, want)
			if !slices.Equal(masks, given) {
				t.Fatalf("Goes changed its masks: %x, not %x", masks, given)
			}
			if got.On || got.Round != 0 || len(got.Left) != 0 || got.State != 0 || got.Err != 0 || got.Written {
				t.Fatalf("Goes of %+v: %+v", before, got)
			}
			if got.Const != x.Const || got.Digits != x.Digits || got.Pieces != x.Pieces || got.D.Room != x.D.Room {
				t.Fatalf("Goes of %+v: %+v", before, got)
			}
		}
	}
	x := api.Calc{D: of(99, api.File{Name: "t", Data: "hello", Safe: "old"}, api.File{Name: "u", Data: "new", Safe: "older"}), Const: 2, Digits: 7, On: true, Pieces: 4}
	want := api.Calc{D: of(99, safe("t", "hello"), safe("u", "older")), Const: 2, Digits: 7, Pieces: 4}
	check(t, "Goes", x, copied(x), calc.Goes(x, []uint64{3, 0}), want)
}

// TestComes: P20.1, a calculator that is on stays as it is, whatever it does; one that is off begins again, and keeps only the count of its pieces.
func TestComes(t *testing.T) {
	for _, x := range calculators() {
		want := x
		if !x.On {
			want = api.Calc{D: x.D, Const: x.Const, Digits: x.Digits, On: true, Pieces: x.Pieces}
			if x.Const < 0 {
				want.State, want.Err = 2, 13
			}
		}
		check(t, "Comes", x, copied(x), calc.Comes(x), want)
	}
}

// TestComesErrWanted: P20.1, also when the power returns a request that may not be fails.
func TestComesErrWanted(t *testing.T) {
	for _, d := range disks() {
		for _, r := range wrongRequests() {
			x := api.Calc{D: d, Const: r[0], Digits: r[1], Round: 1, Left: actsOf("t", "", "c0-8"), State: 1, Pieces: 11, Written: true}
			want := api.Calc{D: d, Const: r[0], Digits: r[1], On: true, State: 2, Err: 13, Pieces: 11}
			check(t, "Comes", x, copied(x), calc.Comes(x), want)
		}
	}
}

// TestOutput: P20.1, what is read of `out`, safe or not, whatever the calculator does; ErrNone where there is none.
func TestOutput(t *testing.T) {
	for _, x := range calculators() {
		f, is := read(x.D, "out")
		if is {
			checkOutput(t, x, f.Data, api.OK)
		} else {
			checkOutput(t, x, "", api.ErrNone)
		}
	}
	for _, name := range []string{"", "OUT", "out ", " out", "ou", "u", "t", "outt", "c0-8", "o", "put", "out\x00"} {
		checkOutput(t, fresh(of(9, safe(name, "3.1")), 1, 1), "", api.ErrNone)
	}
	checkOutput(t, api.Calc{D: of(9, api.File{Name: "out", Data: "\x00\xff", Safe: "3.1"})}, "\x00\xff", api.OK)
	checkOutput(t, api.Calc{D: of(9, api.File{Name: "out", Safe: "3.1"})}, "", api.OK)
}

// TestSame: P20.1, every field counts, and nothing else.
func TestSame(t *testing.T) {
	base := func() api.Calc {
		return api.Calc{D: of(9, safe("a", "x"), api.File{Name: "b", Data: "y", Safe: "z"}), Const: 1, Digits: 5, Round: 2, Left: actsOf("t", "x", "c0-8"), Pieces: 6}
	}
	changes := []func(x *api.Calc){
		func(x *api.Calc) { x.D.Room++ }, func(x *api.Calc) { x.D.Files = x.D.Files[:1] }, func(x *api.Calc) { x.D.Files = nil }, func(x *api.Calc) { x.D.Files = append(x.D.Files, api.File{}) },
		func(x *api.Calc) { x.D.Files[0].Name = "c" }, func(x *api.Calc) { x.D.Files[1].Data = "" }, func(x *api.Calc) { x.D.Files[1].Safe = "y" }, func(x *api.Calc) { slices.Reverse(x.D.Files) },
		func(x *api.Calc) { x.Const = 2 }, func(x *api.Calc) { x.Digits = 6 }, func(x *api.Calc) { x.On = true }, func(x *api.Calc) { x.Round = 3 },
		func(x *api.Calc) { x.Left = x.Left[1:] }, func(x *api.Calc) { x.Left = x.Left[:2] }, func(x *api.Calc) { x.Left = nil }, func(x *api.Calc) { slices.Reverse(x.Left) },
		func(x *api.Calc) { x.Left[0].Kind = 2 }, func(x *api.Calc) { x.Left[1].Name = "u" }, func(x *api.Calc) { x.Left[2].To = "c0-9" }, func(x *api.Calc) { x.Left[0].Data = "y" },
		func(x *api.Calc) { x.State = 1 }, func(x *api.Calc) { x.Err = 1 }, func(x *api.Calc) { x.Pieces = 7 }, func(x *api.Calc) { x.Written = true },
	}
	if !calc.Same(base(), base()) || !calc.Same(api.Calc{}, api.Calc{D: api.Disk{Files: []api.File{}}, Left: []api.Act{}}) {
		t.Error("calculators whose fields are equal are not the same")
	}
	for i, change := range changes {
		x := base()
		change(&x)
		if calc.Same(x, base()) || calc.Same(base(), x) || !calc.Same(x, x) {
			t.Errorf("Same after the change %d", i)
		}
	}
	l := calculators()
	for i := range l {
		for k := range l {
			if calc.Same(l[i], l[k]) != equal(l[i], l[k]) {
				t.Errorf("Same of %+v and %+v", l[i], l[k])
			}
		}
	}
}

// TestStepRests: P20.2, a calculator that is off, or does not run, stays as it is, though there is something left.
func TestStepRests(t *testing.T) {
	for _, x := range calculators() {
		for _, on := range []bool{false, true} {
			for _, state := range []int{0, 1, 2, 3, -1, 256, 1 << 32, math.MinInt, math.MaxInt} {
				if x.On, x.State = on, state; on && state == 0 {
					continue
				}
				checkStep(t, x, x)
				checkPlay(t, x, []api.Event{{Kind: 1, N: 1000}, {Kind: 1, N: 1}}, x)
			}
		}
	}
}

// TestStepActs: P20.2, whatever acts are left, each step does the first one; the last one ends all, if Written is set, and an error does so at once.
func TestStepActs(t *testing.T) {
	l := []api.Act{
		{Kind: 1, Name: "a", Data: "x"}, {Kind: 1, Name: "out", Data: "3.14"}, {Kind: 1, Name: "b", Data: strings.Repeat("y", 30)}, {Kind: 1, Data: "x"}, {Kind: 1, Name: "of seventeen byte", Data: "x"},
		{Kind: 2, Name: "a"}, {Kind: 2, Name: "none"}, {Kind: 3, Name: "a", To: "b"}, {Kind: 3, Name: "a"}, {Kind: 3, Name: "none", To: "a"}, {Kind: 4, Name: "a"}, {Kind: 4, Name: "none"},
		{}, {Kind: 5, Name: "a"}, {Kind: -1, Name: "a", Data: "x"}, {Kind: 1<<32 + 1, Name: "a"},
	}
	for _, d := range append(disks(), of(33, api.File{Name: "a", Data: "new", Safe: "old"})) {
		for seed := range uint64(150) {
			s := seed + 1
			x := api.Calc{D: d, Const: 1 + below(&s, 2), Digits: 5, On: true, Round: below(&s, 5) - 1, Pieces: below(&s, 9), Written: seed%2 == 0}
			for range 1 + below(&s, 4) {
				x.Left = append(x.Left, l[below(&s, len(l))])
			}
			for len(x.Left) > 0 {
				x = checkStep(t, x, acted(x))
			}
			if want := x.Err != 0 || x.Written; want != (x.State != 0) || x.State == api.TDone && x.Err != 0 {
				t.Fatalf("without anything left: %+v", x)
			}
		}
	}
}

// TestStepWritten: P20.2, only the last act ends it, and only if Written is set.
func TestStepWritten(t *testing.T) {
	for n := 1; n < 9; n++ {
		for _, written := range []bool{false, true} {
			x := fresh(of(room), api.CE, 5)
			x.Left, x.Written = slices.Repeat([]api.Act{{Kind: 1, Name: "a"}}, n), written
			for left := n - 1; left >= 0; left-- {
				x = calc.Step(x)
				if len(x.Left) != left || x.Written != written || x.Err != 0 || (x.State == api.TDone) != (left == 0 && written) || (x.State == api.TRuns) == (left == 0 && written) {
					t.Fatalf("%d of %d acts left: %+v", left, n, x)
				}
			}
		}
	}
}

// TestStepFirst: P20.2, the example: after a step on an empty disk a piece is computed, whose acts are left.
func TestStepFirst(t *testing.T) {
	x := calc.Step(calc.New(of(room), api.CE, 5))
	j, r := api.Job{Const: 1, Digits: 5, Guard: 8}, api.Range{To: 8}
	data := encoding(j, api.Part{R: r, P: []uint64{1}, Q: []uint64{5040}, T: []uint64{13700}})
	want := api.Calc{D: of(room), Const: 1, Digits: 5, On: true, Pieces: 1, Left: []api.Act{{Kind: 1, Name: "t", Data: data}, {Kind: 2, Name: "t"}, {Kind: 3, Name: "t", To: "c0-8"}}}
	if !equal(x, want) {
		t.Errorf("the first step: %+v, not %+v", x, want)
	}
}

// run holds every step of a calculator against the model, until it runs no more, and answers it and how many there were.
func run(t *testing.T, x api.Calc) (api.Calc, int) {
	t.Helper()
	n := 0
	for ; x.State == api.TRuns; n++ {
		x = checkStep(t, x, stepped(x))
	}
	checkStep(t, x, x)
	return x, n
}

// TestSteps: P20.2, all steps of requests, on disks on which some of the pieces are.
func TestSteps(t *testing.T) {
	for _, c := range constants() {
		for _, n := range []int{1, 2, 3, 4, 5, 6, 12, 13, 19, 20, 30, 60, 100, 150} {
			for seed := range uint64(8) {
				s := seed
				d, j, missing := of(room), job(c, n, 0), 0
				for _, r := range piecesOf(j) {
					if seed > 0 && below(&s, 3) > 0 {
						d = plus(d, piece(j, r))
					} else {
						missing++
					}
				}
				x, steps := run(t, calc.New(d, c, n))
				if steps != 4*missing+4 || x.State != api.TDone || x.Pieces != missing || x.Round != 0 || x.Err != 0 || !x.Written {
					t.Fatalf("%d digits of %d, with %d pieces missing: %+v after %d steps", n, c, missing, x, steps)
				}
				checkOutput(t, x, figures(c, n), api.OK)
			}
		}
	}
}

// TestStepsRounds: P20.2, the Round tells the guard digits of the job, also where it is told from outside.
func TestStepsRounds(t *testing.T) {
	for _, c := range constants() {
		for _, n := range []int{1, 5, 30, 70} {
			for _, round := range []int{-2, -1, 0, 1, 2, 3, 4, 5, 100, math.MinInt, math.MaxInt} {
				x := fresh(of(room, piece(job(c, n, 1), api.Range{To: 8})), c, n)
				x.Round = round
				x, _ = run(t, x)
				if x.State != api.TDone || x.Round != round {
					t.Fatalf("%d digits of %d in the round %d: %+v", n, c, round, x)
				}
				checkOutput(t, x, figures(c, n), api.OK)
			}
		}
	}
}

// TestStepsOtherFiles: P20.2, files that are no parts of the job are no pieces, also where they have their names; what is in the way is written over, all else stays.
func TestStepsOtherFiles(t *testing.T) {
	for _, c := range constants() {
		j := job(c, 30, 0)
		l := piecesOf(j)
		first := record(j, l[0])
		alien := []string{
			"", "x", "TALY", first[:len(first)-1], first + "\x00", strings.Repeat("\x00", len(first)), record(job(c, 31, 0), l[0]), record(job(c, 30, 1), l[0]), record(job(3-c, 30, 0), l[0]), record(j, api.Range{From: 0, To: 1}), record(j, api.Range{From: 8, To: 16}),
		}
		for _, data := range alien {
			for _, name := range []string{nameOf(l[0]), "c", "c0-1", "c0-9", "c8-16", "t", "u", "out", "c00-8", "C0-8"} {
				if name == "c0-1" && data == record(j, api.Range{From: 0, To: 1}) || name == "c8-16" && data == record(j, api.Range{From: 8, To: 16}) {
					continue // these are parts of the job
				}
				d := of(room, safe(name, data), safe("zzz", first))
				x, n := run(t, calc.New(d, c, 30))
				if x.State != api.TDone || x.Pieces != len(l) || n != 4*len(l)+4 {
					t.Fatalf("with the file %q of %q: %+v after %d steps", name, data, x, n)
				}
				checkOutput(t, x, figures(c, 30), api.OK)
				if f, _ := read(x.D, "zzz"); f.Data != first {
					t.Fatalf("the file zzz: %q", f.Data)
				}
			}
		}
	}
}

// TestStepsOtherParts: P20.2, correct parts of other ranges of the job are no pieces, and are in nobody's way.
func TestStepsOtherParts(t *testing.T) {
	for _, c := range constants() {
		j := job(c, 40, 0)
		d := of(room)
		for from := range 6 {
			for _, to := range []int{from + 1, from + 3, from + 9, 50} {
				d = plus(d, piece(j, api.Range{From: from, To: to}))
			}
		}
		x, n := run(t, calc.New(d, c, 40))
		if pieces := len(piecesOf(j)); x.State != api.TDone || x.Pieces != pieces || n != 4*pieces+4 || len(x.D.Files) != len(d.Files)+pieces+1 {
			t.Fatalf("with other parts of %d: %+v after %d steps", c, x, n)
		}
		checkOutput(t, x, figures(c, 40), api.OK)
	}
}

// TestStepsErrFull: P20.2 and T4, every room there is: where it isn't enough, the act fails, with the disk as it was, and nothing wrong is written.
func TestStepsErrFull(t *testing.T) {
	for _, c := range constants() {
		for _, n := range []int{1, 5, 30} {
			whole, _ := run(t, calc.New(of(room), c, n))
			enough := 0
			for _, f := range whole.D.Files {
				enough += len(f.Data)
			}
			twice := enough + len(figures(c, n)) // for digits that are written again while the first ones are there
			for tight := range twice + 20 {
				x, _ := run(t, calc.New(of(tight), c, n))
				again, _ := run(t, calc.Comes(calc.Goes(x, nil)))
				checkFull(t, x, tight < enough)
				checkFull(t, again, tight < twice)
				if tight < enough {
					checkOutput(t, again, "", api.ErrNone)
				} else {
					checkOutput(t, again, figures(c, n), api.OK)
				}
			}
		}
	}
	x := calc.New(of(50), api.CE, 30)
	x = calc.Step(calc.Step(x))
	if want := (api.Calc{D: of(50), Const: 1, Digits: 30, On: true, State: 2, Err: 8, Pieces: 1}); !equal(x, want) {
		t.Errorf("on a disk with the room 50: %+v, not %+v", x, want)
	}
}

// checkFull looks whether a calculator has no room, or is done.
func checkFull(t *testing.T, x api.Calc, full bool) {
	t.Helper()
	if full && (x.State != api.TFail || x.Err != api.ErrFull || len(x.Left) != 0) || !full && (x.State != api.TDone || x.Err != api.OK) {
		t.Fatalf("with the room %d: %+v", x.D.Room, x)
	}
}

// TestStepsManyFiles: P20.2 and T4, as many files as there may be, and one more.
func TestStepsManyFiles(t *testing.T) {
	for n := 58; n <= 64; n++ {
		x, _ := run(t, calc.New(many(room, n), api.CE, 5))
		want := n+3+1 <= 64
		if (x.State == api.TDone) != want || !want && x.Err != api.ErrFull {
			t.Errorf("with %d files: %+v", n, x)
		}
		if want {
			checkOutput(t, x, "2.71828", api.OK)
		} else {
			checkOutput(t, x, "", api.ErrNone)
		}
	}
}

// TestStepErrArg: P20.2, a part that may not be stored: the error of Steps, with the piece counted and nothing else done.
func TestStepErrArg(t *testing.T) {
	for _, c := range constants() {
		for _, n := range []int{-1, -2, -5, -8} {
			for _, d := range disks() {
				x := fresh(d, c, n)
				x.Pieces = 4
				want := failed(x, api.ErrArg)
				want.Pieces = 5
				checkStep(t, x, want)
			}
		}
	}
}

// TestStepErrNone: P20.2, requests that no terms are known for: nothing is missing, and there are no digits.
func TestStepErrNone(t *testing.T) {
	for _, r := range [][2]int{{0, 5}, {3, 5}, {-1, 0}, {256, 30}, {257, 30}, {math.MinInt, 5}, {1, -9}, {2, -9}, {1, 2993}, {2, 2993}, {1, math.MaxInt}, {2, math.MinInt}, {0, 0}} {
		for _, d := range disks() {
			x := fresh(d, r[0], r[1])
			x.Pieces, x.Round = 4, 0
			checkStep(t, x, failed(x, api.ErrNone))
		}
	}
}

// TestStepErrDigits: P20.2, what Figures refuses: no digits, or more than can be told.
func TestStepErrDigits(t *testing.T) {
	for _, n := range []int{0, 1501, 2992} {
		x := calc.Play(fresh(of(room), api.CPi, n), []api.Event{{Kind: 1, N: 1000}})
		if x.State != api.TFail || x.Err != api.ErrArg || x.Written || len(x.Left) != 0 || x.Round != 0 || x.Pieces != len(x.D.Files) {
			t.Errorf("%d digits: %+v", n, x)
		}
		checkOutput(t, x, "", api.ErrNone)
	}
}

// made is the file of a part that is not the correct one.
func made(j api.Job, r api.Range, p, q, t []uint64, minus bool) api.File {
	return safe(nameOf(r), encoding(j, api.Part{R: r, P: p, Q: q, T: t, Minus: minus}))
}

// checkWrong looks whether a step fails with an error, on a disk with all pieces.
func checkWrong(t *testing.T, x api.Calc, want api.Errno) {
	t.Helper()
	checkStep(t, x, failed(x, want))
	checkOutput(t, calc.Step(x), "", api.ErrNone)
}

// TestStepErrors: P20.2 and T4, each error of Figures but ErrNear ends it: too long a number, a divisor of 0, a part with a sign.
func TestStepErrors(t *testing.T) {
	one, zero, long := []uint64{1}, []uint64{}, slices.Repeat([]uint64{top}, api.MaxLimb)
	pi := job(api.CPi, 30, 0)
	r := piecesOf(pi)[0]
	checkWrong(t, fresh(of(room, made(pi, r, one, one, zero, false)), api.CPi, 30), api.ErrZero)
	checkWrong(t, fresh(of(room, made(pi, r, one, one, one, true)), api.CPi, 30), api.ErrArg)
	checkWrong(t, fresh(of(room, made(pi, r, one, one, zero, true)), api.CPi, 30), api.ErrArg)
	e := job(api.CE, 30, 0)
	var none, toLong, minus []api.File
	for _, r := range piecesOf(e) {
		none = append(none, made(e, r, one, zero, one, false))
		toLong = append(toLong, made(e, r, long, one, one, false))
		minus = append(minus, made(e, r, one, one, one, true))
	}
	checkWrong(t, fresh(of(1<<20, none...), api.CE, 30), api.ErrZero)
	checkWrong(t, fresh(of(1<<20, toLong...), api.CE, 30), api.ErrLong)
	checkWrong(t, fresh(of(1<<20, minus...), api.CE, 30), api.ErrArg)
}

// near is a disk with parts of the first rounds of a request for so few digits of pi that each has one piece, under a name of its own, whose digits are too near to a boundary.
func near(digits, rounds int) api.Disk {
	d := of(room)
	for round := range rounds {
		j := job(api.CPi, digits, round)
		d = plus(d, made(j, piecesOf(j)[0], []uint64{1}, nil, []uint64{1}, false))
	}
	return d
}

// TestStepErrNear: P20.2 and T4, digits that are not certain: the next round, and after the last one ErrNear.
func TestStepErrNear(t *testing.T) {
	for digits := 1; digits < 6; digits++ {
		for rounds := range 5 {
			x := calc.New(near(digits, rounds), api.CPi, digits)
			for round := range rounds {
				want := x
				if want.Round = round + 1; want.Round == 4 {
					want = failed(want, api.ErrNear)
				}
				x = checkStep(t, x, want)
			}
			x, n := run(t, x)
			if rounds == 4 {
				checkOutput(t, x, "", api.ErrNone)
				continue
			}
			if x.State != api.TDone || x.Round != rounds || x.Pieces != 1 || n != 8 || rounds+n > calc.Bound(api.CPi, digits) {
				t.Fatalf("%d rounds too near: %+v after %d steps", rounds, x, n)
			}
			checkOutput(t, x, figures(api.CPi, digits), api.OK)
		}
	}
}

// TestStepNearRounds: P20.2, from any round on, the next one is held against the limit; a power failure begins with the first one.
func TestStepNearRounds(t *testing.T) {
	for _, round := range []int{-3, -1, 0, 1, 2, 3, 4, 5, 1 << 40} {
		j := job(api.CE, 5, round)
		d := of(room)
		for _, r := range piecesOf(j) {
			d = plus(d, made(j, r, []uint64{1}, []uint64{1}, []uint64{2}, false))
		}
		x := fresh(d, api.CE, 5)
		x.Round, x.Pieces = round, 9
		want := x
		if want.Round++; round >= 3 {
			want = failed(want, api.ErrNear)
		}
		got := checkStep(t, x, want)
		checkPlay(t, got, []api.Event{{Kind: 2}, {Kind: 3}}, api.Calc{D: d, Const: 1, Digits: 5, On: true, Pieces: 9})
	}
}

// TestPlayKinds: P20.3, what each kind of event does, by the fields that it uses, and that other kinds do nothing.
func TestPlayKinds(t *testing.T) {
	for _, x := range calculators() {
		if x.Const < 0 || x.Const > 2 {
			continue // TestNewErrWanted and TestComesErrWanted hold these
		}
		for _, kind := range []int{0, 4, 5, -1, -2, -3, 255, 257, 1<<32 + 1, 1<<32 + 2, math.MinInt, math.MaxInt} {
			checkPlay(t, x, []api.Event{{Kind: kind, N: 5, Masks: []uint64{top}}}, x)
			checkPlay(t, x, []api.Event{{Kind: kind, N: 5000}}, x)
		}
		checkPlay(t, x, nil, x)
		for _, e := range []api.Event{{Kind: 1, N: 1}, {Kind: 1, N: 7, Masks: []uint64{top}}, {Kind: 1}, {Kind: 2}, {Kind: 2, N: 9, Masks: []uint64{top, 3, 5}}, {Kind: 3}, {Kind: 3, N: 4, Masks: []uint64{0}}} {
			checkPlay(t, x, []api.Event{e}, met(x, e))
		}
	}
}

// TestPlaySteps: P20.3, an event has N steps, none below 1 and 1000 at most; the next one has its own.
func TestPlaySteps(t *testing.T) {
	x := fresh(of(room, safe("a", "x")), api.CE, 5)
	x.Left = slices.Repeat([]api.Act{{Kind: 2, Name: "a"}}, 2500)
	for _, p := range []struct{ n, want int }{
		{math.MinInt, 0}, {-1 << 32, 0}, {-1000, 0}, {-1, 0}, {0, 0}, {1, 1}, {2, 2}, {500, 500}, {999, 999}, {1000, 1000}, {1001, 1000}, {1002, 1000}, {2000, 1000}, {2500, 1000}, {1<<32 + 1, 1000}, {math.MaxInt - 1, 1000}, {math.MaxInt, 1000},
	} {
		want := x
		want.Left = x.Left[p.want:]
		e := api.Event{Kind: 1, N: p.n}
		checkPlay(t, x, []api.Event{e}, want)
		want.Left = x.Left[2*p.want:]
		checkPlay(t, x, []api.Event{e, e}, want)
	}
}

// TestPlayOrder: P20.3, events are done one after the other, in any order, as if each were played alone; the list stays as it is.
func TestPlayOrder(t *testing.T) {
	for seed := range uint64(200) {
		s := seed + 5
		x := fresh(of([]int{room, 200, 400}[seed%3]), 1+below(&s, 2), 1+below(&s, 40))
		want := x
		var l []api.Event
		for range below(&s, 12) {
			e := api.Event{Kind: below(&s, 5), N: below(&s, 30) - 2, Masks: masksOf(&s)}
			l = append(l, e)
			want = met(want, e)
		}
		given := slices.Clone(l)
		checkPlay(t, x, l, want)
		one := x
		for i, e := range l {
			one = calc.Play(one, []api.Event{e})
			if e.Kind != given[i].Kind || e.N != given[i].N || !slices.Equal(e.Masks, given[i].Masks) {
				t.Fatalf("Play changed the event %d: %+v", i, e)
			}
		}
		if !equal(one, want) {
			t.Fatalf("one by one: %+v, not %+v", one, want)
		}
	}
}

// TestBound: P20.3, for all requests that may be.
func TestBound(t *testing.T) {
	if got := calc.Bound(api.CPi, 30); got != 21 {
		t.Errorf("Bound of 30 digits of pi: %d", got)
	}
	if got := calc.Bound(api.CE, 5); got != 5+4*(3+3+5+7) {
		t.Errorf("Bound of 5 digits of e: %d", got)
	}
	for _, c := range constants() {
		for d := 1; d <= longest; d++ {
			if d > 40 && d%23 != 0 && d < 990 {
				continue // the model is slow
			}
			if got, want := calc.Bound(c, d), boundOf(c, d); got != want {
				t.Errorf("Bound(%d, %d) = %d, not %d", c, d, got, want)
			}
		}
	}
}

// TestBoundWrong: P20.3, 0 for a request that may not be.
func TestBoundWrong(t *testing.T) {
	for _, r := range wrongRequests() {
		if got := calc.Bound(r[0], r[1]); got != 0 {
			t.Errorf("Bound(%d, %d) = %d", r[0], r[1], got)
		}
	}
}
