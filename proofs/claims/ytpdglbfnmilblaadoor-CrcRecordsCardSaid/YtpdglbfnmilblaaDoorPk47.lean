/-
  The frame of CrcRecords: its one parameter.
-/
import Derived.Test.YtpdglbfnmilblaaDoorPk13
namespace Go.Proofs.YtpdglbfnmilblaaDoor
open Go.ChangeShapes Go.WideShapes Go.ChangeAt Go.RowKit Go.ChangeMaps
set_option linter.unusedVariables false
set_option maxRecDepth 100000

def inV (r : Rc) (vp vq vt : Value) (l : List Nat) (a b c : Int) (u : Rc) (up uq ut : Value) : Value :=
  .agg #[.int .i64 r.con, .int .i64 r.dgs, .int .i64 r.gua, .int .i64 r.frm, .int .i64 r.til, vp, vq, vt, .bool r.minus, .string (bs l), .int .i64 a, .int .i64 b, .int .i64 c, .int .i64 u.con, .int .i64 u.dgs, .int .i64 u.gua, .int .i64 u.frm, .int .i64 u.til, up, uq, ut, .bool u.minus]
section
variable {H : Type} {enc : TypeId × Value → H}
theorem open_in {ts : List TypeId} {ds : List (DataW H)} (hS : (DataW.weightsEach Tryd.prog ts ds).all (· ≤ reachBytes) = true) {j : Nat} {W : World} {base : Nat} {rr : Reach} {b0 : Nat} {v : Value} {d : DataW H} {p : List MemPlace} (htt : ts[j]? = some 32) (hd : ds[j]? = some d)
    (hval : Value.okWide Tryd.prog W rr b0 32 v) (h : DataW.Trod enc Tryd.prog W base (fun _ => true) true 32 v d p) :
    ∃ (r : Rc) (vp vq vt : Value) (l : List Nat) (a b c : Int) (u : Rc) (up uq ut : Value), v = inV r vp vq vt l a b c u up uq ut ∧ r.Wd ∧ u.Wd ∧ All 256 l ∧ l.length ≤ 140737488355328 ∧ Rw .u64 W vp r.p ∧ Rw .u64 W vq r.q ∧ Rw .u64 W vt r.t ∧ Rw .u64 W up u.p ∧ Rw .u64 W uq u.q ∧ Rw .u64 W ut u.t := by
  obtain ⟨cs, rfl, _⟩ := okWide_struct Tryd.underlying32 hval
  obtain ⟨fuel, hf⟩ := h
  obtain ⟨xs, m', rfl, hxs, hl, hx, hg⟩ := DataW.trod_struct Tryd.underlying32 hf
  have c1 : Tryd.prog.cellsOf 30 = 9 := by kernel_rfl
  have c2 : Tryd.prog.cellsOf 9 = 1 := by kernel_rfl
  have c3 : Tryd.prog.cellsOf 23 = 3 := by kernel_rfl
  have c0 : Tryd.prog.cellsOf 32 = 22 := by kernel_rfl
  rw [c0] at hl
  have hcs : (Value.agg cs).cells.toList = cs.toList := rfl
  rw [hcs] at hl hg
  obtain ⟨cl, ecl⟩ : ∃ cl, cs.toList = cl := ⟨_, rfl⟩
  rw [ecl] at hl hg
  match xs, hx, hxs, hg with
  | [y0, y1, y2, y3], _, hxs, hg =>
    have g0 : DataW.trod enc Tryd.prog W base (fun _ => true) true m' 30 ((cl.drop 0).take (Tryd.prog.cellsOf 30)) = some y0 := hg 0 _ rfl
    have g1 : DataW.trod enc Tryd.prog W base (fun _ => true) true m' 9 ((cl.drop 9).take (Tryd.prog.cellsOf 9)) = some y1 := hg 1 _ rfl
    have g2 : DataW.trod enc Tryd.prog W base (fun _ => true) true m' 23 ((cl.drop 10).take (Tryd.prog.cellsOf 23)) = some y2 := hg 2 _ rfl
    have g3 : DataW.trod enc Tryd.prog W base (fun _ => true) true m' 30 ((cl.drop 13).take (Tryd.prog.cellsOf 30)) = some y3 := hg 3 _ rfl
    rw [c1] at g0 g3
    rw [c2] at g1
    rw [c3] at g2
    obtain ⟨r, vp, vq, vt, e0, hw, r1, r2, r3⟩ := rec_of g0
    obtain ⟨s, e1, ey, _⟩ := DataW.trod_string Tryd.underlying9 g1
    obtain ⟨a, b, c, e2⟩ := job_of g2
    obtain ⟨u, up, uq, ut, e3, hu, u1, u2, u3⟩ := rec_of g3
    obtain ⟨l, ha, es⟩ := bs_of s
    have hd' : ds[j]? = some (.agg [y0.1, y1.1, y2.1, y3.1]) := by
      rw [hd]
      exact congrArg some (congrArg Prod.fst hxs)
    have hm := DataW.weights_mem_each (P := Tryd.prog) htt hd' s.data.toList.length (by
      have h2 := DataW.weights_mem_each (P := Tryd.prog) (ts := [30, 9, 23, 30]) (ds := [y0.1, y1.1, y2.1, y3.1]) (j := 1) (t := 9) (d := y1.1) rfl rfl s.data.toList.length (by rw [ey]; simp [DataW.weights])
      simp only [DataW.weights, Tryd.underlying32]
      exact h2)
    have hz : s.data.toList.length ≤ reachBytes := by simpa using List.all_eq_true.1 hS _ hm
    have h3 : s.data.toList.length = l.length := by rw [← bs_size l, ← es]; rfl
    rw [h3] at hz
    have ecs : cl = recC r.con r.dgs r.gua r.frm r.til vp vq vt r.minus ++ (.string s :: ([.int .i64 a, .int .i64 b, .int .i64 c] ++ recC u.con u.dgs u.gua u.frm u.til up uq ut u.minus)) := by
      have k0 := List.take_append_drop 9 cl
      have k1 := List.take_append_drop 1 (cl.drop 9)
      have k2 := List.take_append_drop 3 (cl.drop 10)
      rw [List.drop_drop] at k1 k2
      rw [List.drop_zero] at e0
      have k3 : (cl.drop 13).take 9 = cl.drop 13 := List.take_of_length_le (by rw [List.length_drop]; omega)
      rw [k3] at e3
      rw [e0] at k0
      rw [e1] at k1
      rw [e2, e3] at k2
      rw [← k0, ← k1, ← k2]
      rfl
    refine ⟨r, vp, vq, vt, l, a, b, c, u, up, uq, ut, ?_, hw, hu, ha, Nat.le_trans hz (by decide), r1, r2, r3, u1, u2, u3⟩
    rw [← Array.toArray_toList (xs := cs), ecl, ecs, es]
    rfl
end
end Go.Proofs.YtpdglbfnmilblaaDoor
