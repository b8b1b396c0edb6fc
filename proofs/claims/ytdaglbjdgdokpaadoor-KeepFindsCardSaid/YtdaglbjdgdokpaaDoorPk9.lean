/-
  The frame of layer 14's statements: parameters that are strings, jobs, records; how long a string may be.
-/
import Derived.Test.YtdaglbjdgdokpaaDoorPk2
import Derived.Test.YtdaglbjdgdokpaaDoorPk8
import Derived.SizedLaws
import Derived.ChangeMaps5
namespace Go.Proofs.YtdaglbjdgdokpaaDoor
open Go.ChangeShapes Go.WideShapes Go.ChangeAt Go.RowKit Go.ChangeMaps
set_option linter.unusedVariables false
set_option maxRecDepth 100000

section
variable {H : Type} {enc : TypeId × Value → H}
theorem job_of {W : World} {base : Nat} {sp : Nat → Bool} {held : Bool} {n : Nat} {cs : List Value} {y : DataW H × List MemPlace} (h : DataW.trod enc Tryd.prog W base sp held n 26 cs = some y) : ∃ a b c : Int, cs = [.int .i64 a, .int .i64 b, .int .i64 c] := by
  obtain ⟨xs, m', rfl, _, hl, hx, hg⟩ := DataW.trod_struct Tryd.underlying26 h
  rw [show Tryd.prog.cellsOf 26 = 3 by kernel_rfl] at hl
  have c1 : Tryd.prog.cellsOf 3 = 1 := by kernel_rfl
  match cs, hl, xs, hx with
  | [u0, u1, u2], _, [y0, y1, y2], _ =>
    have g0 : DataW.trod enc Tryd.prog W base sp held m' 3 ((([u0, u1, u2] : List Value).drop 0).take (Tryd.prog.cellsOf 3)) = some y0 := hg 0 _ rfl
    rw [c1] at g0
    have g1 : DataW.trod enc Tryd.prog W base sp held m' 3 ((([u0, u1, u2] : List Value).drop 1).take (Tryd.prog.cellsOf 3)) = some y1 := hg 1 _ rfl
    rw [c1] at g1
    have g2 : DataW.trod enc Tryd.prog W base sp held m' 3 ((([u0, u1, u2] : List Value).drop 2).take (Tryd.prog.cellsOf 3)) = some y2 := hg 2 _ rfl
    rw [c1] at g2
    obtain ⟨a, e0, _, _⟩ := DataW.trod_int Tryd.underlying3 g0
    obtain ⟨b, e1, _, _⟩ := DataW.trod_int Tryd.underlying3 g1
    obtain ⟨c, e2, _, _⟩ := DataW.trod_int Tryd.underlying3 g2
    simp at e0 e1 e2
    exact ⟨a, b, c, by rw [e0, e1, e2]⟩
theorem range_of {W : World} {base : Nat} {sp : Nat → Bool} {held : Bool} {n : Nat} {cs : List Value} {y : DataW H × List MemPlace} (h : DataW.trod enc Tryd.prog W base sp held n 34 cs = some y) : ∃ a b : Int, cs = [.int .i64 a, .int .i64 b] := by
  obtain ⟨xs, m', rfl, _, hl, hx, hg⟩ := DataW.trod_struct Tryd.underlying34 h
  rw [show Tryd.prog.cellsOf 34 = 2 by kernel_rfl] at hl
  have c1 : Tryd.prog.cellsOf 3 = 1 := by kernel_rfl
  match cs, hl, xs, hx with
  | [u0, u1], _, [y0, y1], _ =>
    have g0 : DataW.trod enc Tryd.prog W base sp held m' 3 ((([u0, u1] : List Value).drop 0).take (Tryd.prog.cellsOf 3)) = some y0 := hg 0 _ rfl
    rw [c1] at g0
    have g1 : DataW.trod enc Tryd.prog W base sp held m' 3 ((([u0, u1] : List Value).drop 1).take (Tryd.prog.cellsOf 3)) = some y1 := hg 1 _ rfl
    rw [c1] at g1
    obtain ⟨a, e0, _, _⟩ := DataW.trod_int Tryd.underlying3 g0
    obtain ⟨b, e1, _, _⟩ := DataW.trod_int Tryd.underlying3 g1
    simp at e0 e1
    exact ⟨a, b, by rw [e0, e1]⟩
theorem part_of {W : World} {base : Nat} {n : Nat} {cs : List Value} {y : DataW H × List MemPlace} (h : DataW.trod enc Tryd.prog W base (fun _ => true) true n 43 cs = some y) :
    ∃ (f t : Int) (vp vq vt : Value) (p q r : List Nat) (m : Bool), cs = [.int .i64 f, .int .i64 t, vp, vq, vt, .bool m] ∧ Rw .u64 W vp p ∧ Rw .u64 W vq q ∧ Rw .u64 W vt r ∧ All 18446744073709551616 p ∧ All 18446744073709551616 q ∧ All 18446744073709551616 r := by
  obtain ⟨xs, m', rfl, _, hl, hx, hg⟩ := DataW.trod_struct Tryd.underlying43 h
  rw [show Tryd.prog.cellsOf 43 = 6 by kernel_rfl] at hl
  have c1 : Tryd.prog.cellsOf 41 = 1 := by kernel_rfl
  have c2 : Tryd.prog.cellsOf 4 = 1 := by kernel_rfl
  have c3 : Tryd.prog.cellsOf 34 = 2 := by kernel_rfl
  match cs, hl, xs, hx with
  | [u0, u1, u2, u3, u4, u5], _, [y0, y1, y2, y3, y4], _ =>
    have g0 : DataW.trod enc Tryd.prog W base (fun _ => true) true m' 34 ((([u0, u1, u2, u3, u4, u5] : List Value).drop 0).take (Tryd.prog.cellsOf 34)) = some y0 := hg 0 _ rfl
    rw [c3] at g0
    have g1 : DataW.trod enc Tryd.prog W base (fun _ => true) true m' 41 ((([u0, u1, u2, u3, u4, u5] : List Value).drop 2).take (Tryd.prog.cellsOf 41)) = some y1 := hg 1 _ rfl
    rw [c1] at g1
    have g2 : DataW.trod enc Tryd.prog W base (fun _ => true) true m' 41 ((([u0, u1, u2, u3, u4, u5] : List Value).drop 3).take (Tryd.prog.cellsOf 41)) = some y2 := hg 2 _ rfl
    rw [c1] at g2
    have g3 : DataW.trod enc Tryd.prog W base (fun _ => true) true m' 41 ((([u0, u1, u2, u3, u4, u5] : List Value).drop 4).take (Tryd.prog.cellsOf 41)) = some y3 := hg 3 _ rfl
    rw [c1] at g3
    have g4 : DataW.trod enc Tryd.prog W base (fun _ => true) true m' 4 ((([u0, u1, u2, u3, u4, u5] : List Value).drop 5).take (Tryd.prog.cellsOf 4)) = some y4 := hg 4 _ rfl
    rw [c2] at g4
    obtain ⟨f, t, e0⟩ := range_of g0
    obtain ⟨p, r1, a1⟩ := row_of Tryd.underlying41 Tryd.underlying68 (by kernel_rfl) (v := u2) g1
    obtain ⟨q, r2, a2⟩ := row_of Tryd.underlying41 Tryd.underlying68 (by kernel_rfl) (v := u3) g2
    obtain ⟨r, r3, a3⟩ := row_of Tryd.underlying41 Tryd.underlying68 (by kernel_rfl) (v := u4) g3
    obtain ⟨m, e4, _⟩ := DataW.trod_bool Tryd.underlying4 g4
    simp at e0 e4
    exact ⟨f, t, u2, u3, u4, p, q, r, m, by rw [e0.1, e0.2, e4], r1, r2, r3, a1, a2, a3⟩
theorem rec_of {W : World} {base : Nat} {n : Nat} {cs : List Value} {y : DataW H × List MemPlace} (h : DataW.trod enc Tryd.prog W base (fun _ => true) true n 62 cs = some y) :
    ∃ (r : Rc) (vp vq vt : Value), cs = recC r.con r.dgs r.gua r.frm r.til vp vq vt r.minus ∧ r.Wd ∧ Rw .u64 W vp r.p ∧ Rw .u64 W vq r.q ∧ Rw .u64 W vt r.t := by
  obtain ⟨xs, m', rfl, _, hl, hx, hg⟩ := DataW.trod_struct Tryd.underlying62 h
  rw [show Tryd.prog.cellsOf 62 = 9 by kernel_rfl] at hl
  have c1 : Tryd.prog.cellsOf 26 = 3 := by kernel_rfl
  have c2 : Tryd.prog.cellsOf 43 = 6 := by kernel_rfl
  match cs, hl, xs, hx with
  | [u0, u1, u2, u3, u4, u5, u6, u7, u8], _, [y0, y1], _ =>
    have g0 : DataW.trod enc Tryd.prog W base (fun _ => true) true m' 26 ((([u0, u1, u2, u3, u4, u5, u6, u7, u8] : List Value).drop 0).take (Tryd.prog.cellsOf 26)) = some y0 := hg 0 _ rfl
    rw [c1] at g0
    have g1 : DataW.trod enc Tryd.prog W base (fun _ => true) true m' 43 ((([u0, u1, u2, u3, u4, u5, u6, u7, u8] : List Value).drop 3).take (Tryd.prog.cellsOf 43)) = some y1 := hg 1 _ rfl
    rw [c2] at g1
    obtain ⟨a, b, c, e0⟩ := job_of g0
    obtain ⟨f, t, vp, vq, vt, p, q, r, m, e1, r1, r2, r3, a1, a2, a3⟩ := part_of g1
    simp at e0 e1
    obtain ⟨e01, e02, e03⟩ := e0
    obtain ⟨e11, e12, e13, e14, e15, e16⟩ := e1
    exact ⟨⟨a, b, c, f, t, p, q, r, m⟩, vp, vq, vt, by rw [e01, e02, e03, e11, e12, e13, e14, e15, e16]; rfl, ⟨a1, a2, a3⟩, r1, r2, r3⟩
theorem open_job {W : World} {base : Nat} {r : Reach} {b0 : Nat} {v : Value} {d : DataW H} {p : List MemPlace} (hval : Value.okWide Tryd.prog W r b0 26 v) (h : DataW.Trod enc Tryd.prog W base (fun _ => true) true 26 v d p) : ∃ a b c : Int, v = .agg #[.int .i64 a, .int .i64 b, .int .i64 c] := by
  obtain ⟨cs, rfl, _⟩ := okWide_struct Tryd.underlying26 hval
  obtain ⟨fuel, hf⟩ := h
  obtain ⟨a, b, c, e⟩ := job_of hf
  have e2 : cs.toList = [.int .i64 a, .int .i64 b, .int .i64 c] := e
  exact ⟨a, b, c, by rw [← Array.toArray_toList (xs := cs), e2]⟩
theorem open_rec {W : World} {base : Nat} {r : Reach} {b0 : Nat} {v : Value} {d : DataW H} {p : List MemPlace} (hval : Value.okWide Tryd.prog W r b0 62 v) (h : DataW.Trod enc Tryd.prog W base (fun _ => true) true 62 v d p) :
    ∃ (r : Rc) (vp vq vt : Value), v = recV r vp vq vt ∧ r.Wd ∧ Rw .u64 W vp r.p ∧ Rw .u64 W vq r.q ∧ Rw .u64 W vt r.t := by
  obtain ⟨cs, rfl, _⟩ := okWide_struct Tryd.underlying62 hval
  obtain ⟨fuel, hf⟩ := h
  obtain ⟨r, vp, vq, vt, e, hw, r1, r2, r3⟩ := rec_of hf
  have e2 : cs.toList = recC r.con r.dgs r.gua r.frm r.til vp vq vt r.minus := e
  exact ⟨r, vp, vq, vt, by rw [← Array.toArray_toList (xs := cs), e2]; rfl, hw, r1, r2, r3⟩
/-- A string that comes in, as bytes; it is no longer than any may be. -/
theorem str_of {ts : List TypeId} {ds : List (DataW H)} (hS : (DataW.weightsEach Tryd.prog ts ds).all (· ≤ reachBytes) = true) {j : Nat} {W : World} {base : Nat} {r : Reach} {b0 : Nat} {v : Value} {d : DataW H} {p : List MemPlace} (ht : ts[j]? = some 9) (hd : ds[j]? = some d)
    (hval : Value.okWide Tryd.prog W r b0 9 v) (h : DataW.Trod enc Tryd.prog W base (fun _ => true) true 9 v d p) : ∃ l, All 256 l ∧ v = .string (bs l) ∧ l.length ≤ 140737488355328 := by
  obtain ⟨s, rfl, rfl, _, _⟩ := open_string Tryd.underlying9 hval h
  have hz := sized_string hS ht hd
  obtain ⟨l, ha, e⟩ := bs_of s
  refine ⟨l, ha, by rw [e], ?_⟩
  have h2 : s.data.toList.length = l.length := by rw [← bs_size l, ← e]; rfl
  rw [h2] at hz
  exact Nat.le_trans hz (by decide)
end
end Go.Proofs.YtdaglbjdgdokpaaDoor
