/-
  The frame of layer 15's statements: parameters that are structs with a disk.
-/
import Derived.Test.YtgbeflocojmhhaaDkW
namespace Go.Proofs.Ytgbeflocojmhhaa
open Go.ChangeShapes Go.WideShapes Go.ChangeAt Go.RowKit Go.ChangeMaps Go.Deep
set_option linter.unusedVariables false
set_option maxRecDepth 100000

section
variable {H : Type} {enc : TypeId × Value → H}
theorem open_stays {ts : List TypeId} {ds : List (DataW H)} (hS : (DataW.weightsEach Try.prog ts ds).all (· ≤ reachBytes) = true) {j : Nat} {W : World} {base : Nat} {rr : Reach} {b0 : Nat} {v : Value} {d : DataW H} {p : List MemPlace} (htt : ts[j]? = some 42) (hd : ds[j]? = some d)
    (hval : Value.okWide Try.prog W rr b0 42 v) (h : DataW.Trod enc Try.prog W base (fun _ => true) true 42 v d p) :
    ∃ (room : Int) (u : Value) (l : List Fl) (s : ByteArray) (to : ByteArray) (data : ByteArray) (vm : Value) (ms : List Nat) (other : ByteArray), v = .agg #[.int .i64 room, u, .string s, .string to, .string data, vm, .string other] ∧ (-9223372036854775808 ≤ room ∧ room ≤ 9223372036854775807) ∧ Fw W u l ∧ Szs l ∧ s.size ≤ 140737488355328 ∧ to.size ≤ 140737488355328 ∧ data.size ≤ 140737488355328 ∧ Rw .u64 W vm ms ∧ All 18446744073709551616 ms ∧ other.size ≤ 140737488355328 := by
  obtain ⟨cs, rfl, _⟩ := okWide_struct Try.underlying42 hval
  obtain ⟨fuel, hf⟩ := h
  obtain ⟨xs, m', rfl, hxs, hl, hx, hg⟩ := DataW.trod_struct Try.underlying42 hf
  have cdisk : Try.prog.cellsOf 24 = 2 := by kernel_rfl
  have crow : Try.prog.cellsOf 25 = 1 := by kernel_rfl
  have cstr : Try.prog.cellsOf 9 = 1 := by kernel_rfl
  have cN : Try.prog.cellsOf 42 = 7 := by kernel_rfl
  rw [cN] at hl
  have hcs : (Value.agg cs).cells.toList = cs.toList := rfl
  rw [hcs] at hl hg
  have hw : ∀ k ∈ d.weights Try.prog 42, k ≤ reachBytes := fun k hk => by simpa using List.all_eq_true.1 hS _ (DataW.weights_mem_each htt hd k hk)
  obtain ⟨cl, ecl⟩ : ∃ cl, cs.toList = cl := ⟨_, rfl⟩
  rw [ecl] at hl hg
  match cl, hl, xs, hx, hxs, hg with
  | [u0, u1, u2, u3, u4, u5, u6], _, [y0, y1, y2, y3, y4, y5], _, hxs, hg =>
    have hy : d = .agg [y0.1, y1.1, y2.1, y3.1, y4.1, y5.1] := congrArg Prod.fst hxs
    have hww : ∀ (q : Nat) (t : TypeId) (e : DataW H), ([24, 9, 9, 9, 25, 9] : List TypeId)[q]? = some t → ([y0.1, y1.1, y2.1, y3.1, y4.1, y5.1] : List (DataW H))[q]? = some e → ∀ k ∈ e.weights Try.prog t, k ≤ reachBytes := fun q t e h1 h2 k hk => by
      refine hw k ?_
      rw [hy]
      simp only [DataW.weights, Try.underlying42]
      exact DataW.weights_mem_each h1 h2 k hk
    have g0 : DataW.trod enc Try.prog W base (fun _ => true) true m' 24 ((([u0, u1, u2, u3, u4, u5, u6] : List Value).drop 0).take (Try.prog.cellsOf 24)) = some y0 := hg 0 _ rfl
    rw [cdisk] at g0
    have g1 : DataW.trod enc Try.prog W base (fun _ => true) true m' 9 ((([u0, u1, u2, u3, u4, u5, u6] : List Value).drop 2).take (Try.prog.cellsOf 9)) = some y1 := hg 1 _ rfl
    rw [cstr] at g1
    have g2 : DataW.trod enc Try.prog W base (fun _ => true) true m' 9 ((([u0, u1, u2, u3, u4, u5, u6] : List Value).drop 3).take (Try.prog.cellsOf 9)) = some y2 := hg 2 _ rfl
    rw [cstr] at g2
    have g3 : DataW.trod enc Try.prog W base (fun _ => true) true m' 9 ((([u0, u1, u2, u3, u4, u5, u6] : List Value).drop 4).take (Try.prog.cellsOf 9)) = some y3 := hg 3 _ rfl
    rw [cstr] at g3
    have g4 : DataW.trod enc Try.prog W base (fun _ => true) true m' 25 ((([u0, u1, u2, u3, u4, u5, u6] : List Value).drop 5).take (Try.prog.cellsOf 25)) = some y4 := hg 4 _ rfl
    rw [crow] at g4
    have g5 : DataW.trod enc Try.prog W base (fun _ => true) true m' 9 ((([u0, u1, u2, u3, u4, u5, u6] : List Value).drop 6).take (Try.prog.cellsOf 9)) = some y5 := hg 5 _ rfl
    rw [cstr] at g5
    obtain ⟨room, u, l, e0, hb0, hf0, hz0⟩ := disk_of g0 (hww 0 _ _ rfl rfl)
    obtain ⟨s, e1, z1, _⟩ := DataW.trod_string Try.underlying9 g1
    have hs1 : s.size ≤ 140737488355328 := str_small (hww 1 _ _ rfl rfl _ (by rw [z1]; simp [DataW.weights]))
    obtain ⟨to, e2, z2, _⟩ := DataW.trod_string Try.underlying9 g2
    have hs2 : to.size ≤ 140737488355328 := str_small (hww 2 _ _ rfl rfl _ (by rw [z2]; simp [DataW.weights]))
    obtain ⟨data, e3, z3, _⟩ := DataW.trod_string Try.underlying9 g3
    have hs3 : data.size ≤ 140737488355328 := str_small (hww 3 _ _ rfl rfl _ (by rw [z3]; simp [DataW.weights]))
    obtain ⟨ms, hr4, ha4⟩ := row_of Try.underlying25 Try.underlying54 (by kernel_rfl) (v := u5) g4
    obtain ⟨other, e5, z5, _⟩ := DataW.trod_string Try.underlying9 g5
    have hs5 : other.size ≤ 140737488355328 := str_small (hww 5 _ _ rfl rfl _ (by rw [z5]; simp [DataW.weights]))
    simp at e0 e1 e2 e3 e5
    exact ⟨room, u, l, s, to, data, u5, ms, other, by rw [← Array.toArray_toList (xs := cs), ecl, e0.1, e0.2, e1, e2, e3, e5], hb0, hf0, hz0, hs1, hs2, hs3, hr4, ha4, hs5⟩
theorem open_either {ts : List TypeId} {ds : List (DataW H)} (hS : (DataW.weightsEach Try.prog ts ds).all (· ≤ reachBytes) = true) {j : Nat} {W : World} {base : Nat} {rr : Reach} {b0 : Nat} {v : Value} {d : DataW H} {p : List MemPlace} (htt : ts[j]? = some 47) (hd : ds[j]? = some d)
    (hval : Value.okWide Try.prog W rr b0 47 v) (h : DataW.Trod enc Try.prog W base (fun _ => true) true 47 v d p) :
    ∃ (room : Int) (u : Value) (l : List Fl) (vm : Value) (ms : List Nat) (i : Int) (k : Int), v = .agg #[.int .i64 room, u, vm, .int .i64 i, .int .i64 k] ∧ (-9223372036854775808 ≤ room ∧ room ≤ 9223372036854775807) ∧ Fw W u l ∧ Szs l ∧ Rw .u64 W vm ms ∧ All 18446744073709551616 ms ∧ (-9223372036854775808 ≤ i ∧ i ≤ 9223372036854775807) ∧ (-9223372036854775808 ≤ k ∧ k ≤ 9223372036854775807) := by
  obtain ⟨cs, rfl, _⟩ := okWide_struct Try.underlying47 hval
  obtain ⟨fuel, hf⟩ := h
  obtain ⟨xs, m', rfl, hxs, hl, hx, hg⟩ := DataW.trod_struct Try.underlying47 hf
  have cdisk : Try.prog.cellsOf 24 = 2 := by kernel_rfl
  have cint : Try.prog.cellsOf 3 = 1 := by kernel_rfl
  have crow : Try.prog.cellsOf 25 = 1 := by kernel_rfl
  have cN : Try.prog.cellsOf 47 = 5 := by kernel_rfl
  rw [cN] at hl
  have hcs : (Value.agg cs).cells.toList = cs.toList := rfl
  rw [hcs] at hl hg
  have hw : ∀ k ∈ d.weights Try.prog 47, k ≤ reachBytes := fun k hk => by simpa using List.all_eq_true.1 hS _ (DataW.weights_mem_each htt hd k hk)
  obtain ⟨cl, ecl⟩ : ∃ cl, cs.toList = cl := ⟨_, rfl⟩
  rw [ecl] at hl hg
  match cl, hl, xs, hx, hxs, hg with
  | [u0, u1, u2, u3, u4], _, [y0, y1, y2, y3], _, hxs, hg =>
    have hy : d = .agg [y0.1, y1.1, y2.1, y3.1] := congrArg Prod.fst hxs
    have hww : ∀ (q : Nat) (t : TypeId) (e : DataW H), ([24, 25, 3, 3] : List TypeId)[q]? = some t → ([y0.1, y1.1, y2.1, y3.1] : List (DataW H))[q]? = some e → ∀ k ∈ e.weights Try.prog t, k ≤ reachBytes := fun q t e h1 h2 k hk => by
      refine hw k ?_
      rw [hy]
      simp only [DataW.weights, Try.underlying47]
      exact DataW.weights_mem_each h1 h2 k hk
    have g0 : DataW.trod enc Try.prog W base (fun _ => true) true m' 24 ((([u0, u1, u2, u3, u4] : List Value).drop 0).take (Try.prog.cellsOf 24)) = some y0 := hg 0 _ rfl
    rw [cdisk] at g0
    have g1 : DataW.trod enc Try.prog W base (fun _ => true) true m' 25 ((([u0, u1, u2, u3, u4] : List Value).drop 2).take (Try.prog.cellsOf 25)) = some y1 := hg 1 _ rfl
    rw [crow] at g1
    have g2 : DataW.trod enc Try.prog W base (fun _ => true) true m' 3 ((([u0, u1, u2, u3, u4] : List Value).drop 3).take (Try.prog.cellsOf 3)) = some y2 := hg 2 _ rfl
    rw [cint] at g2
    have g3 : DataW.trod enc Try.prog W base (fun _ => true) true m' 3 ((([u0, u1, u2, u3, u4] : List Value).drop 4).take (Try.prog.cellsOf 3)) = some y3 := hg 3 _ rfl
    rw [cint] at g3
    obtain ⟨room, u, l, e0, hb0, hf0, hz0⟩ := disk_of g0 (hww 0 _ _ rfl rfl)
    obtain ⟨ms, hr1, ha1⟩ := row_of Try.underlying25 Try.underlying54 (by kernel_rfl) (v := u2) g1
    obtain ⟨i, e2, _, w2⟩ := DataW.trod_int Try.underlying3 g2
    obtain ⟨k, e3, _, w3⟩ := DataW.trod_int Try.underlying3 g3
    simp at e0 e2 e3
    exact ⟨room, u, l, u2, ms, i, k, by rw [← Array.toArray_toList (xs := cs), ecl, e0.1, e0.2, e2, e3], hb0, hf0, hz0, hr1, ha1, bounds_i64 w2, bounds_i64 w3⟩
theorem open_reads {ts : List TypeId} {ds : List (DataW H)} (hS : (DataW.weightsEach Try.prog ts ds).all (· ≤ reachBytes) = true) {j : Nat} {W : World} {base : Nat} {rr : Reach} {b0 : Nat} {v : Value} {d : DataW H} {p : List MemPlace} (htt : ts[j]? = some 52) (hd : ds[j]? = some d)
    (hval : Value.okWide Try.prog W rr b0 52 v) (h : DataW.Trod enc Try.prog W base (fun _ => true) true 52 v d p) :
    ∃ (room : Int) (u : Value) (l : List Fl) (s : ByteArray) (to : ByteArray) (data : ByteArray), v = .agg #[.int .i64 room, u, .string s, .string to, .string data] ∧ (-9223372036854775808 ≤ room ∧ room ≤ 9223372036854775807) ∧ Fw W u l ∧ Szs l ∧ s.size ≤ 140737488355328 ∧ to.size ≤ 140737488355328 ∧ data.size ≤ 140737488355328 := by
  obtain ⟨cs, rfl, _⟩ := okWide_struct Try.underlying52 hval
  obtain ⟨fuel, hf⟩ := h
  obtain ⟨xs, m', rfl, hxs, hl, hx, hg⟩ := DataW.trod_struct Try.underlying52 hf
  have cdisk : Try.prog.cellsOf 24 = 2 := by kernel_rfl
  have cstr : Try.prog.cellsOf 9 = 1 := by kernel_rfl
  have cN : Try.prog.cellsOf 52 = 5 := by kernel_rfl
  rw [cN] at hl
  have hcs : (Value.agg cs).cells.toList = cs.toList := rfl
  rw [hcs] at hl hg
  have hw : ∀ k ∈ d.weights Try.prog 52, k ≤ reachBytes := fun k hk => by simpa using List.all_eq_true.1 hS _ (DataW.weights_mem_each htt hd k hk)
  obtain ⟨cl, ecl⟩ : ∃ cl, cs.toList = cl := ⟨_, rfl⟩
  rw [ecl] at hl hg
  match cl, hl, xs, hx, hxs, hg with
  | [u0, u1, u2, u3, u4], _, [y0, y1, y2, y3], _, hxs, hg =>
    have hy : d = .agg [y0.1, y1.1, y2.1, y3.1] := congrArg Prod.fst hxs
    have hww : ∀ (q : Nat) (t : TypeId) (e : DataW H), ([24, 9, 9, 9] : List TypeId)[q]? = some t → ([y0.1, y1.1, y2.1, y3.1] : List (DataW H))[q]? = some e → ∀ k ∈ e.weights Try.prog t, k ≤ reachBytes := fun q t e h1 h2 k hk => by
      refine hw k ?_
      rw [hy]
      simp only [DataW.weights, Try.underlying52]
      exact DataW.weights_mem_each h1 h2 k hk
    have g0 : DataW.trod enc Try.prog W base (fun _ => true) true m' 24 ((([u0, u1, u2, u3, u4] : List Value).drop 0).take (Try.prog.cellsOf 24)) = some y0 := hg 0 _ rfl
    rw [cdisk] at g0
    have g1 : DataW.trod enc Try.prog W base (fun _ => true) true m' 9 ((([u0, u1, u2, u3, u4] : List Value).drop 2).take (Try.prog.cellsOf 9)) = some y1 := hg 1 _ rfl
    rw [cstr] at g1
    have g2 : DataW.trod enc Try.prog W base (fun _ => true) true m' 9 ((([u0, u1, u2, u3, u4] : List Value).drop 3).take (Try.prog.cellsOf 9)) = some y2 := hg 2 _ rfl
    rw [cstr] at g2
    have g3 : DataW.trod enc Try.prog W base (fun _ => true) true m' 9 ((([u0, u1, u2, u3, u4] : List Value).drop 4).take (Try.prog.cellsOf 9)) = some y3 := hg 3 _ rfl
    rw [cstr] at g3
    obtain ⟨room, u, l, e0, hb0, hf0, hz0⟩ := disk_of g0 (hww 0 _ _ rfl rfl)
    obtain ⟨s, e1, z1, _⟩ := DataW.trod_string Try.underlying9 g1
    have hs1 : s.size ≤ 140737488355328 := str_small (hww 1 _ _ rfl rfl _ (by rw [z1]; simp [DataW.weights]))
    obtain ⟨to, e2, z2, _⟩ := DataW.trod_string Try.underlying9 g2
    have hs2 : to.size ≤ 140737488355328 := str_small (hww 2 _ _ rfl rfl _ (by rw [z2]; simp [DataW.weights]))
    obtain ⟨data, e3, z3, _⟩ := DataW.trod_string Try.underlying9 g3
    have hs3 : data.size ≤ 140737488355328 := str_small (hww 3 _ _ rfl rfl _ (by rw [z3]; simp [DataW.weights]))
    simp at e0 e1 e2 e3
    exact ⟨room, u, l, s, to, data, by rw [← Array.toArray_toList (xs := cs), ecl, e0.1, e0.2, e1, e2, e3], hb0, hf0, hz0, hs1, hs2, hs3⟩
end
end Go.Proofs.Ytgbeflocojmhhaa
