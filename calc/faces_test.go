package calc_test

import (
	"testing"

	"tallystick/api"
	"tallystick/calc"
	"tallystick/crc"
	"tallystick/digits"
	"tallystick/disk"
	"tallystick/gold"
	"tallystick/keep"
	"tallystick/mont"
	"tallystick/mul"
	"tallystick/nat"
	"tallystick/newt"
	"tallystick/ntt"
	"tallystick/plan"
	"tallystick/prod"
	"tallystick/quot"
	"tallystick/radix"
	"tallystick/ring"
	"tallystick/root"
	"tallystick/series"
	"tallystick/trio"
	"tallystick/word"
)

// The functions that each layer hands out, with the types that the chapters give them: a change of one does not compile.
var (
	_ func(a, b, c uint64) (uint64, uint64)              = word.Add
	_ func(a, b, c uint64) (uint64, uint64)              = word.Sub
	_ func(a, b uint64) (uint64, uint64)                 = word.Mul
	_ func(hi, lo, d uint64) (uint64, uint64, api.Errno) = word.Div
	_ func(a uint64) int                                 = word.Len
	_ func(a, b uint64) uint64                           = word.Gcd

	_ func(a uint64) uint64              = gold.Norm
	_ func(a, b uint64) uint64           = gold.Add
	_ func(a, b uint64) uint64           = gold.Sub
	_ func(a, b uint64) uint64           = gold.Mul
	_ func(hi, lo uint64) uint64         = gold.Reduce
	_ func(a, n uint64) uint64           = gold.Pow
	_ func(a uint64) (uint64, api.Errno) = gold.Inv
	_ func(k int) (uint64, api.Errno)    = gold.Root

	_ func(m uint32) (api.Mont, api.Errno)        = mont.Make
	_ func(x api.Mont, a uint64) uint32           = mont.In
	_ func(x api.Mont, a uint32) uint32           = mont.Out
	_ func(x api.Mont, t uint64) uint32           = mont.Redc
	_ func(x api.Mont, a, b uint32) uint32        = mont.Mul
	_ func(x api.Mont, a uint32, n uint64) uint32 = mont.Pow

	_ func(a []uint64) []uint64                 = nat.Norm
	_ func(a, b []uint64) int                   = nat.Cmp
	_ func(a, b []uint64) []uint64              = nat.Add
	_ func(a, b []uint64) ([]uint64, api.Errno) = nat.Sub
	_ func(a []uint64, n int) []uint64          = nat.Shl
	_ func(a []uint64, n int) []uint64          = nat.Shr
	_ func(a []uint64) int                      = nat.Len
	_ func(a []uint64, w uint64) []uint64       = nat.Scale
	_ func(a []uint64, n int) []uint64          = nat.Low

	_ func(a, b []uint64) []uint64                              = prod.School
	_ func(a, b []uint64, least int) []uint64                   = prod.Kara
	_ func(a []uint64) []uint64                                 = prod.Square
	_ func(acc []uint64, a []uint64, w uint64, at int) []uint64 = prod.Mac
	_ func(a []uint64, n int) ([]uint64, []uint64)              = prod.Half

	_ func(a []uint64, d uint64) ([]uint64, uint64, api.Errno) = quot.ByWord
	_ func(a, d []uint64) ([]uint64, []uint64, api.Errno)      = quot.Div
	_ func(r []uint64, d []uint64) uint64                      = quot.Guess
	_ func(a, b []uint64) []uint64                             = quot.Gcd
	_ func(a []uint64, n int) ([]uint64, api.Errno)            = quot.Pow

	_ func(n int) (int, api.Errno)           = ntt.Log
	_ func(l []uint64) ([]uint64, api.Errno) = ntt.Forward
	_ func(l []uint64) ([]uint64, api.Errno) = ntt.Back
	_ func(i, k int) int                     = ntt.Turn
	_ func(l []uint64, w uint64) []uint64    = ntt.Weigh
	_ func(w uint64, n int) []uint64         = ntt.Powers

	_ func(a, b []uint64) ([]uint64, api.Errno) = ring.Cyclic
	_ func(a, b []uint64) ([]uint64, api.Errno) = ring.Nega
	_ func(a, b []uint64) ([]uint64, api.Errno) = ring.Plain
	_ func(a []uint64) ([]uint64, api.Errno)    = ring.Square
	_ func(a, b []uint64) []uint64              = ring.Points
	_ func(n int) int                           = ring.Up

	_ func(p api.Pair) api.Three                          = trio.Split
	_ func(t api.Three) api.Pair                          = trio.Join
	_ func(a, b []uint64, m uint32) ([]uint32, api.Errno) = trio.Mod
	_ func(a, b []uint64) ([]api.Pair, api.Errno)         = trio.Times
	_ func() api.Pair                                     = trio.Bound

	_ func(n, m int) int                                 = mul.Way
	_ func(a, b []uint64, way int) ([]uint64, api.Errno) = mul.By
	_ func(a, b []uint64) ([]uint64, api.Errno)          = mul.Mul
	_ func(a []uint64, bits int) []uint64                = mul.Cut
	_ func(l []api.Pair, bits int) []uint64              = mul.Carry

	_ func(d []uint64, n int) ([]uint64, api.Errno)       = newt.Recip
	_ func(x, d []uint64, n int) ([]uint64, api.Errno)    = newt.Step
	_ func(a, d []uint64) ([]uint64, []uint64, api.Errno) = newt.Div
	_ func(a, d []uint64) ([]uint64, api.Errno)           = newt.Exact
	_ func(a, d []uint64) ([]uint64, api.Errno)           = newt.Mod

	_ func(a []uint64) ([]uint64, []uint64)     = root.Sqrt
	_ func(x, a []uint64) ([]uint64, api.Errno) = root.Step
	_ func(a []uint64) []uint64                 = root.First
	_ func(a []uint64) bool                     = root.Whole
	_ func(a uint64) uint64                     = root.Word

	_ func(n int) ([]uint64, api.Errno)           = radix.Ten
	_ func(a []uint64) (string, api.Errno)        = radix.Text
	_ func(a []uint64, n int) (string, api.Errno) = radix.Padded
	_ func(s string) ([]uint64, api.Errno)        = radix.Parse
	_ func(a []uint64) (int, api.Errno)           = radix.Count
	_ func(k int) ([][]uint64, api.Errno)         = radix.Tower

	_ func(s string) uint32                           = crc.Sum
	_ func(r api.Record) (string, api.Errno)          = crc.Bytes
	_ func(s string) (api.Record, api.Errno)          = crc.Take
	_ func(s string, j api.Job) (api.Part, api.Errno) = crc.Of
	_ func(a, b api.Record) bool                      = crc.Same

	_ func(room int) api.Disk                                   = disk.New
	_ func(d api.Disk) bool                                     = disk.Right
	_ func(d api.Disk) int                                      = disk.Used
	_ func(d api.Disk, name, data string) (api.Disk, api.Errno) = disk.Write
	_ func(d api.Disk, name string) (api.Disk, api.Errno)       = disk.Sync
	_ func(d api.Disk, from, to string) (api.Disk, api.Errno)   = disk.Rename
	_ func(d api.Disk, name string) (api.Disk, api.Errno)       = disk.Delete
	_ func(d api.Disk, name string) (string, api.Errno)         = disk.Read
	_ func(d api.Disk, begins string) []string                  = disk.List
	_ func(d api.Disk, masks []uint64) api.Disk                 = disk.Crash
	_ func(a, b api.Disk) bool                                  = disk.Same

	_ func(r api.Range) string                                      = keep.Name
	_ func(j api.Job, p api.Part) ([]api.Act, api.Errno)            = keep.Steps
	_ func(d api.Disk, a api.Act) (api.Disk, api.Errno)             = keep.Do
	_ func(d api.Disk, j api.Job, p api.Part) (api.Disk, api.Errno) = keep.Save
	_ func(d api.Disk, j api.Job) []api.Part                        = keep.Find
	_ func(d api.Disk) api.Disk                                     = keep.Clean

	_ func(c, a int) (api.Part, api.Errno)           = series.Leaf
	_ func(x, y api.Part) (api.Part, api.Errno)      = series.Join
	_ func(c int, r api.Range) (api.Part, api.Errno) = series.Sum
	_ func(c, m int) (int, api.Errno)                = series.Terms
	_ func(r api.Range, size int) []api.Range        = series.Split

	_ func(c int, p api.Part, m int) ([]uint64, api.Errno)  = digits.Scaled
	_ func(v []uint64, g int) ([]uint64, api.Errno)         = digits.Sure
	_ func(v []uint64, d int) (string, api.Errno)           = digits.Text
	_ func(c int, p api.Part, d, g int) (string, api.Errno) = digits.Of
	_ func(round int) int                                   = digits.Guard
	_ func(c, d int) (string, int, api.Errno)               = digits.Reckon

	_ func(c, d int) api.Errno                               = plan.Wanted
	_ func(c, d, round int) api.Job                          = plan.Job
	_ func(j api.Job) []api.Range                            = plan.Pieces
	_ func(j api.Job, have []api.Part) (api.Range, bool)     = plan.Missing
	_ func(j api.Job, have []api.Part) (api.Part, api.Errno) = plan.Gather
	_ func(j api.Job, have []api.Part) (string, api.Errno)   = plan.Figures

	_ func(d api.Disk, c, digits int) api.Calc  = calc.New
	_ func(x api.Calc) api.Calc                 = calc.Step
	_ func(x api.Calc, masks []uint64) api.Calc = calc.Goes
	_ func(x api.Calc) api.Calc                 = calc.Comes
	_ func(x api.Calc, l []api.Event) api.Calc  = calc.Play
	_ func(x api.Calc) (string, api.Errno)      = calc.Output
	_ func(c, digits int) int                   = calc.Bound
	_ func(a, b api.Calc) bool                  = calc.Same
)

// TestNumbers: the numbers of api are those that the document lists.
func TestNumbers(t *testing.T) {
	for i, e := range []api.Errno{api.OK, api.ErrArg, api.ErrZero, api.ErrLess, api.ErrLong, api.ErrMore, api.ErrForm, api.ErrSum, api.ErrFull, api.ErrNone, api.ErrThere, api.ErrAlien, api.ErrNear, api.ErrWanted, api.ErrOff} {
		if int(e) != i {
			t.Errorf("error %d has the number %d", i, e)
		}
	}
	for i, x := range []struct{ got, want uint64 }{
		{api.MaxLog, 20}, {api.MaxLimb, 4096}, {api.MaxName, 16}, {api.MaxFiles, 64}, {api.MaxRounds, 4}, {api.Block, 16}, {api.Piece, 8},
		{api.Prime, 18446744069414584321}, {api.PrimeA, 998244353}, {api.PrimeB, 167772161}, {api.PrimeC, 469762049},
		{api.WSchool, 1}, {api.WKara, 2}, {api.WGold, 3}, {api.WTrio, 4},
		{api.CE, 1}, {api.CPi, 2},
		{api.TRuns, 0}, {api.TDone, 1}, {api.TFail, 2},
		{api.ESteps, 1}, {api.EGoes, 2}, {api.EComes, 3},
		{api.ANone, 0}, {api.AWrite, 1}, {api.ASync, 2}, {api.ARename, 3}, {api.ADelete, 4},
	} {
		if x.got != x.want {
			t.Errorf("constant %d: %d, not %d", i, x.got, x.want)
		}
	}
}
