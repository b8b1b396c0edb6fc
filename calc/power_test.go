package calc_test

import (
	"math"
	"slices"
	"strings"
	"testing"

	"tallystick/api"
	"tallystick/calc"
)

// played is a calculator after so many steps.
func played(x api.Calc, n int) api.Calc {
	return calc.Play(x, []api.Event{{Kind: api.ESteps, N: n}})
}

// returned is one whose power failed, and is back.
func returned(x api.Calc, masks []uint64) api.Calc {
	return calc.Play(x, []api.Event{{Kind: api.EGoes, Masks: masks}, {Kind: api.EComes}})
}

// checkDone looks whether a request is done after as many steps as Bound tells.
func checkDone(t *testing.T, x api.Calc) api.Calc {
	t.Helper()
	got := played(x, calc.Bound(x.Const, x.Digits))
	if got.State != api.TDone || got.Err != api.OK || len(got.Left) != 0 || !got.Written {
		t.Fatalf("%d digits of %d are not done: %+v", x.Digits, x.Const, got)
	}
	checkOutput(t, got, figures(x.Const, x.Digits), api.OK)
	return got
}

// checkOut looks whether the output is as it was at the beginning, or the digits.
func checkOut(t *testing.T, x api.Calc, first api.Disk) {
	t.Helper()
	got, e := calc.Output(x)
	f, is := read(first, "out")
	if was := is && got == f.Data || !is && e == api.ErrNone; !was && got != figures(x.Const, x.Digits) {
		t.Fatalf("the output of %+v is %q, %d", x, got, e)
	}
}

// failures are masks of power failures of all kinds, and some without any pattern.
func failures(s *uint64) [][]uint64 {
	return [][]uint64{nil, {0}, {1}, {top}, {top - 1}, {3}, {5, 2}, {1, top}, masksOf(s), masksOf(s), masksOf(s)}
}

// TestExamples: the examples of the chapter, of the whole, and of README.md.
func TestExamples(t *testing.T) {
	if x := played(calc.New(of(10000), api.CE, 5), 17); x.State != api.TDone || !calc.Same(x, played(x, 1)) {
		t.Errorf("5 digits of e after 17 steps: %+v", x)
	} else {
		checkOutput(t, x, "2.71828", api.OK)
	}
	checkOutput(t, played(calc.New(of(10000), api.CPi, 10), 21), "3.1415926535", api.OK)
	checkOutput(t, played(calc.New(of(10000), api.CPi, 10), 7), "", api.ErrNone)
	readme := []api.Event{{Kind: api.ESteps, N: 7}, {Kind: api.EGoes}, {Kind: api.EComes}, {Kind: api.ESteps, N: calc.Bound(api.CE, 5)}}
	checkOutput(t, calc.Play(calc.New(of(10000), api.CE, 5), readme), "2.71828", api.OK)
	x := calc.New(of(10000), 3, 10)
	if x.State != api.TFail || x.Err != api.ErrWanted {
		t.Errorf("the constant 3: %+v", x)
	}
}

// TestDigits: T1 and P20.4, every request there is: within Bound its digits are there, truncated, and not before the last step of all that are needed.
func TestDigits(t *testing.T) {
	for _, c := range constants() {
		t.Run(figures(c, 2), func(t *testing.T) {
			t.Parallel()
			for d := 1; d <= longest; d++ {
				x := checkDone(t, calc.New(of(room), c, d))
				last := 4*x.Pieces + 4
				if x.Round != 0 || x.Pieces != len(x.D.Files)-1 || last > calc.Bound(c, d) {
					t.Fatalf("%d digits of %d: %+v", d, c, x)
				}
				if d%50 != 0 {
					continue
				}
				before := played(calc.New(of(room), c, d), last-1)
				checkOutput(t, before, "", api.ErrNone)
				if before.State != api.TRuns || !calc.Same(calc.Step(before), x) {
					t.Fatalf("%d digits of %d before the last step: %+v", d, c, before)
				}
			}
		})
	}
}

// TestPowerFails: T2, T5 and P20.4, the power fails after any step, and once more after any: `out` is not there or right at any time, what is stored is not computed again, and all is done within Bound.
func TestPowerFails(t *testing.T) {
	s := uint64(2)
	for _, x := range []api.Calc{fresh(of(room), api.CE, 5), fresh(of(room), api.CPi, 100), fresh(of(room, safe("out", "old"), api.File{Name: "t", Data: "left", Safe: "l"}, api.File{Name: "u", Data: "", Safe: "left"}), api.CPi, 9)} {
		first, pieces := x.D, len(piecesOf(job(x.Const, x.Digits, 0)))
		for n := range 4*pieces + 6 {
			for _, masks := range failures(&s) {
				again := returned(played(x, n), masks)
				checkOut(t, again, first)
				if stored := min(n/4, pieces); again.Pieces != min((n+3)/4, pieces) || checkDone(t, again).Pieces != again.Pieces+pieces-stored {
					t.Fatalf("after %d steps and a power failure: %+v", n, again)
				}
				for m := range 4*pieces + 6 {
					third := returned(played(again, m), masks)
					checkOut(t, third, first)
					if end := checkDone(t, third); end.Pieces > pieces+2 {
						t.Fatalf("after %d and %d steps and power failures: %+v", n, m, end)
					}
				}
			}
		}
	}
}

// TestPowerFailsLong: T2 and T5, a request of many pieces, with a power failure after a few steps each time: it gets on all the same, and computes a piece more a failure at most.
func TestPowerFailsLong(t *testing.T) {
	for _, c := range constants() {
		for _, between := range []int{4, 5, 6, 7, 11, 50} {
			s := uint64(between)
			x := calc.New(of(room), c, longest)
			pieces, failed := len(piecesOf(job(c, longest, 0))), 0
			for ; x.State == api.TRuns; failed++ {
				if x = played(x, between); x.State != api.TRuns {
					break
				}
				x = returned(x, masksOf(&s))
				checkOut(t, x, of(room))
			}
			if x.State != api.TDone || x.Pieces > pieces+failed || failed > pieces+1 {
				t.Fatalf("%d digits of %d, with a power failure after %d steps: %+v", longest, c, between, x)
			}
			checkOutput(t, x, figures(c, longest), api.OK)
		}
	}
}

// TestPlays: P20.2 to P20.4, T2 and T3, long plays without any pattern, on disks of all kinds: all is as the model has it, and nothing is computed that is stored.
func TestPlays(t *testing.T) {
	for seed := range uint64(400) {
		s := seed*31 + 1
		c, d := 1+below(&s, 2), 1+below(&s, 60)
		j := job(c, d, 0)
		first := append(disks(), of(300), of(500), of(room, piece(j, piecesOf(j)[0])), of(room, safe("out", figures(c, d))))[below(&s, 13)]
		x := calc.New(first, c, d)
		for range 60 {
			e := api.Event{Kind: 1 + below(&s, 3), N: below(&s, 9), Masks: masksOf(&s)}
			if e.Kind == api.EGoes && below(&s, 3) > 0 {
				e.Kind = api.ESteps
			}
			checkPlay(t, x, []api.Event{e}, met(x, e))
			x = calc.Play(x, []api.Event{e})
			if e.Kind != api.EGoes {
				checkFresh(t, x)
			}
			if f, _ := read(first, "out"); f.Data == f.Safe { // what was not safe a power failure may have changed
				checkOut(t, x, first)
			}
		}
		x.D.Room = room
		if x = calc.Comes(calc.Goes(x, nil)); len(x.D.Files) < 50 {
			checkDone(t, x)
		}
	}
}

// checkFresh looks whether the part that is to be stored is not there yet.
func checkFresh(t *testing.T, x api.Calc) {
	t.Helper()
	if len(x.Left) < 3 || x.Left[0].Name != "t" {
		return
	}
	if f, _ := read(x.D, x.Left[2].To); f.Data == x.Left[0].Data {
		t.Fatalf("%s is computed again: %+v", f.Name, x)
	}
}

// TestOutBefore: T3, an output that was there stays as it was until the digits take its place.
func TestOutBefore(t *testing.T) {
	for _, old := range []string{"", "2.71828", "3.14", figures(api.CPi, 20), strings.Repeat("9", 100)} {
		x := calc.New(of(room, safe("out", old)), api.CPi, 20)
		for n := range 8 {
			checkOutput(t, x, old, api.OK)
			for _, masks := range [][]uint64{nil, {top}, {1}, {6}} {
				checkOutput(t, calc.Goes(x, masks), old, api.OK)
			}
			if x = calc.Step(x); n == 7 {
				checkOutput(t, x, figures(api.CPi, 20), api.OK)
			}
		}
	}
}

// TestAgain: what is done is written again when the power returns, without any piece being computed.
func TestAgain(t *testing.T) {
	for _, c := range constants() {
		x := checkDone(t, calc.New(of(room), c, 200))
		for range 3 {
			again := returned(x, []uint64{0})
			if again.State != api.TRuns || again.Pieces != x.Pieces {
				t.Fatalf("what was done runs again: %+v", again)
			}
			got, n := run(t, again)
			if !equal(got, x) || n != 4 {
				t.Fatalf("%+v after %d steps, not %+v", got, n, x)
			}
		}
	}
}

// TestOtherRequests: T3, requests one after the other on one disk, whose parts stand in each other's way.
func TestOtherRequests(t *testing.T) {
	d := of(room)
	s := uint64(9)
	for range 60 {
		c, n := 1+below(&s, 2), 1+below(&s, 80)
		x := calc.New(d, c, n)
		for range below(&s, 3) {
			x = returned(played(x, below(&s, 20)), masksOf(&s))
		}
		d = checkDone(t, x).D
	}
}

// wrong is a disk with parts of a job that are not correct, and files that are none.
func wrong(s *uint64, j api.Job) api.Disk {
	number := func() []uint64 {
		a := make([]uint64, []int{0, 1, 2, 5, api.MaxLimb}[below(s, 5)])
		for i := range a {
			a[i] = next(s) >> (8 * below(s, 8))
		}
		if len(a) > 0 {
			a[len(a)-1] |= 1
		}
		return a
	}
	d := of(1 << 24)
	for round := range 4 {
		j.Guard = 8 << round
		for _, r := range piecesOf(j) {
			switch below(s, 4) {
			case 0:
				d = plus(d, made(j, r, number(), number(), number(), below(s, 2) == 0))
			case 1:
				d = plus(d, safe(nameOf(r), encoding(j, sumOf(j.Const, r))[below(s, 3):]))
			}
		}
	}
	return d
}

// TestWrongParts: T3, also with parts that are not correct the calculator goes on, and ends within Bound, whatever power failures there are.
func TestWrongParts(t *testing.T) {
	for seed := range uint64(300) {
		s := seed
		j := job(1+below(&s, 2), 1+below(&s, 60), 0)
		x := calc.New(wrong(&s, j), j.Const, j.Digits)
		for range below(&s, 4) {
			x = returned(played(x, below(&s, 20)), masksOf(&s))
		}
		x = played(x, calc.Bound(j.Const, j.Digits))
		if _, e := calc.Output(x); (x.State == api.TDone) != (e == api.OK) || (x.State == api.TFail) != (x.Err != api.OK) || x.State == api.TRuns {
			t.Fatalf("with parts that are not correct: %d, %d, %d", x.State, x.Err, e)
		}
	}
}

// TestErrors: T4, no error leaves a wrong output behind, and each is told again when the power returns.
func TestErrors(t *testing.T) {
	for _, x := range []api.Calc{
		calc.New(of(room), 3, 5), calc.New(of(room), api.CE, 1001), calc.New(of(20), api.CE, 5), calc.New(of(200), api.CPi, 100), calc.New(many(room, 64), api.CPi, 5), calc.New(near(2, 4), api.CPi, 2),
	} {
		for range 3 {
			x = played(x, 100)
			if x.State != api.TFail || x.Err == api.OK || len(x.Left) != 0 {
				t.Fatalf("no error: %+v", x)
			}
			checkOutput(t, x, "", api.ErrNone)
			if again := played(returned(x, []uint64{top}), 100); again.Err != x.Err {
				t.Fatalf("the error %d, and then %d", x.Err, again.Err)
			}
		}
	}
}

// TestAlways: R4, the same answers for the same arguments, whatever was called meanwhile, and also at the same time.
func TestAlways(t *testing.T) {
	l := []api.Event{{Kind: 1, N: 9}, {Kind: 2, Masks: []uint64{5, 7}}, {Kind: 3}, {Kind: 1, N: 3}}
	first := calc.Play(calc.New(of(room), api.CE, 30), l)
	answers := make(chan api.Calc)
	for range 20 {
		go func() {
			calc.Play(calc.New(of(room), api.CPi, 30), l)
			answers <- calc.Play(calc.New(of(room), api.CE, 30), l)
		}()
	}
	for range 20 {
		if again := <-answers; !equal(again, first) {
			t.Errorf("%+v, and then %+v", first, again)
		}
	}
}

// TestNeverPanics: R1, disks that are not valid, calculators with anything in them, and all calls.
func TestNeverPanics(t *testing.T) {
	long := strings.Repeat("n", 40)
	odd := []int{0, 1, 2, 3, 5, 1000, 1001, -1, -8, math.MinInt, math.MaxInt}
	disks := append(disks(), api.Disk{Room: -1}, api.Disk{Room: math.MinInt, Files: []api.File{safe("t", "x"), safe("t", "y"), {}, safe(long, ""), safe("c0-8", "TALY")}}, many(room, 100), near(2, 4))
	s := uint64(77)
	pick := func() int { return odd[below(&s, len(odd))] }
	for range 3000 {
		x := api.Calc{D: disks[below(&s, len(disks))], Const: pick(), Digits: pick(), On: below(&s, 4) > 0, Round: pick(), State: max(0, pick()%4), Err: api.Errno(pick()), Pieces: pick(), Written: below(&s, 2) == 0}
		for range below(&s, 4) {
			x.Left = append(x.Left, api.Act{Kind: pick(), Name: []string{"", "t", "u", long}[below(&s, 4)], To: []string{"", "out", "c0-8", long}[below(&s, 4)], Data: long})
		}
		before := copied(x)
		calc.Step(x)
		calc.Output(calc.Comes(calc.Goes(x, masksOf(&s))))
		calc.Play(x, []api.Event{{Kind: pick(), N: min(pick(), 40), Masks: masksOf(&s)}, {Kind: 2}, {Kind: 3}, {Kind: 1, N: 40}})
		calc.Output(calc.New(x.D, x.Const, x.Digits))
		calc.Bound(x.Const, x.Digits)
		if calc.Same(x, before); !equal(x, before) {
			t.Fatalf("%+v was changed: %+v", before, x)
		}
	}
}

// TestImports: the chapter's list of the layers that this one calls.
func TestImports(t *testing.T) {
	for _, path := range importsOf(t, "calc") {
		own, ours := strings.CutPrefix(path, "tallystick/")
		if ours && !slices.Contains([]string{"api", "series", "disk", "keep", "plan"}, own) {
			t.Errorf("package calc imports %s", path)
		}
	}
}
