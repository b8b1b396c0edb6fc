/-
  The walk of the statement TrioSplits. · The walk of the statement TrioTimes. · Plain arithmetic of the statements of layer 9: products hang on no order, that with a 1 is the row, that of a sum is the sum of the products; numbers of two words.
-/
import Derived.Test.YtiainhbkoehhjaaDoorPk41
import Derived.Test.YtiainhbkoehhjaaDoorPk32
import Derived.Test.YtiainhbkoehhjaaDoorPk39
import Derived.Test.YtiainhbkoehhjaaDoorPk4
namespace Go.Proofs.YtiainhbkoehhjaaDoor
open Go.RowKit
set_option linter.unusedVariables false
set_option linter.unusedSimpArgs false

@[go_sem] theorem eq_three (a b c d e f : Int) (w : World) : (Op.equalIn 10000 27 (.agg #[.int .u32 a, .int .u32 b, .int .u32 c]) (.agg #[.int .u32 d, .int .u32 e, .int .u32 f])).run Tryd.prog w = .ok (a == d && (b == e && c == f)) w := by
  have u3 := Tryd.underlying25
  have a3 := Tryd.isAgg25
  have z3 := Tryd.sizeOf25
  have hS : Tryd.prog.underlying 27 = some (.struct (Tryd.prog.fieldsOf 27)) := by kernel_rfl
  have hp : Tryd.prog.stoodInHeld 27 = false := by kernel_rfl
  rw [show (10000 : Nat) = 9999 + 1 from rfl, run_equalIn_agg w 9999 27 _ _ hS hp]
  simp only [Program.fieldsOf, Tryd.underlying27]
  go_simp
  by_cases h1 : a = d <;> by_cases h2 : b = e <;> by_cases h3 : c = f <;> simp [h1, h2, h3]

theorem keep5 {w0 W w : World} {b c : Nat} {p0 p1 t0 t1 t2 : Value}
    (h : W.cell? ⟨b, 0, none⟩ = some p0 ∧ W.cell? ⟨b, 1, none⟩ = some p1 ∧ W.cell? ⟨c, 0, none⟩ = some t0 ∧ W.cell? ⟨c, 1, none⟩ = some t1 ∧ W.cell? ⟨c, 2, none⟩ = some t2 ∧ b < W.heap.size ∧ c < W.heap.size ∧ Bl w0 W) (g : Bl W w) :
    w.cell? ⟨b, 0, none⟩ = some p0 ∧ w.cell? ⟨b, 1, none⟩ = some p1 ∧ w.cell? ⟨c, 0, none⟩ = some t0 ∧ w.cell? ⟨c, 1, none⟩ = some t1 ∧ w.cell? ⟨c, 2, none⟩ = some t2 ∧ b < w.heap.size ∧ c < w.heap.size ∧ Bl w0 w := by
  obtain ⟨h0, h1, h2, h3, h4, hb, hc, hg⟩ := h
  exact ⟨(g.cell (p := ⟨b, 0, none⟩) hb).trans h0, (g.cell (p := ⟨b, 1, none⟩) hb).trans h1, (g.cell (p := ⟨c, 0, none⟩) hc).trans h2, (g.cell (p := ⟨c, 1, none⟩) hc).trans h3, (g.cell (p := ⟨c, 2, none⟩) hc).trans h4, Nat.lt_of_lt_of_le hb g.size, Nat.lt_of_lt_of_le hc g.size, hg.trans g⟩

set_option maxRecDepth 100000 in
set_option maxHeartbeats 4000000 in
theorem trioSplits_walk (n0 n1 n2 n3 n4 : Nat) (b0 : n0 < 18446744073709551616) (b1 : n1 < 18446744073709551616) (b2 : n2 < 4294967296) (b3 : n3 < 4294967296) (b4 : n4 < 4294967296) (W : World) (hw : PrW W) :
    Calls Tryd.prog 3 #[.agg #[.int .u64 (n0 : Int), .int .u64 (n1 : Int)], .agg #[.int .u32 (n2 : Int), .int .u32 (n3 : Int), .int .u32 (n4 : Int)]] W fun e w' => e = .returned (.bool true) ∧ Bl W w' := by
  have SH := Lib.hid (fun w hw => shown9 w hw)
  have HW := Lib.hid hw
  have S1 := Lib.hid (fun w hw => split_any n0 n1 b1 w hw)
  have S2 := Lib.hid (fun w => rsplit9_any n0 n1 b1 w)
  have J1 := Lib.hid (fun w => join_any n2 n3 n4 b2 b3 b4 w)
  have J2 := Lib.hid (fun w => rjoin9_any n2 n3 n4 b2 b3 b4 w)
  have B1 := Lib.hid (fun w => bound_any w)
  have B2 := Lib.hid (fun w => rbound9_any w)
  unfold three at S1 S2
  unfold pairv at J1 J2 B1 B2
  obtain ⟨x, hx⟩ : ∃ x, num n0 n1 % 998244353 = x := ⟨_, rfl⟩
  obtain ⟨y, hy⟩ : ∃ x, num n0 n1 % 167772161 = x := ⟨_, rfl⟩
  obtain ⟨z, hz⟩ : ∃ x, num n0 n1 % 469762049 = x := ⟨_, rfl⟩
  rw [hx, hy, hz] at S1 S2
  obtain ⟨jh, hjh⟩ : ∃ x, jn n2 n3 n4 / 18446744073709551616 = x := ⟨_, rfl⟩
  obtain ⟨jl, hjl⟩ : ∃ x, jn n2 n3 n4 % 18446744073709551616 = x := ⟨_, rfl⟩
  rw [hjh, hjl] at J1 J2
  obtain ⟨bh, hbh⟩ : ∃ x, bdH = x := ⟨_, rfl⟩
  obtain ⟨bl, hbl⟩ : ∃ x, bdL = x := ⟨_, rfl⟩
  rw [hbh, hbl] at B1 B2
  have a24 := Tryd.isAgg24
  have z24 := Tryd.sizeOf24
  have a27 := Tryd.isAgg27
  have z27 := Tryd.sizeOf27
  clear hx hy hz hjh hjl hbh hbl b0 b1 b2 b3 b4 hw
  obtain ⟨W2, hW2⟩ : ∃ W2, (W.alloc (.cells #[.int .u64 (n0 : Int), .int .u64 (n1 : Int)] 24)).alloc (.cells #[.int .u32 (n2 : Int), .int .u32 (n3 : Int), .int .u32 (n4 : Int)] 27) = W2 := ⟨_, rfl⟩
  have hb2 : Bl W W2 := by rw [← hW2]; exact ((Bl.refl W).alloc _).alloc _
  have hs2 : W.heap.size < W2.heap.size ∧ W.heap.size + 1 < W2.heap.size := by
    have : W2.heap.size = W.heap.size + 2 := by rw [← hW2]; simp
    omega
  have c0 : W2.cell? ⟨W.heap.size, 0, none⟩ = some (.int .u64 (n0 : Int)) ∧ W2.cell? ⟨W.heap.size, 1, none⟩ = some (.int .u64 (n1 : Int)) ∧ W2.cell? ⟨W.heap.size + 1, 0, none⟩ = some (.int .u32 (n2 : Int)) ∧ W2.cell? ⟨W.heap.size + 1, 1, none⟩ = some (.int .u32 (n3 : Int)) ∧ W2.cell? ⟨W.heap.size + 1, 2, none⟩ = some (.int .u32 (n4 : Int)) := by subst hW2; go_simp
  have HC : Hid (∀ w', Bl W2 w' → w'.cell? ⟨W.heap.size, 0, none⟩ = some (.int .u64 (n0 : Int)) ∧ w'.cell? ⟨W.heap.size, 1, none⟩ = some (.int .u64 (n1 : Int)) ∧ w'.cell? ⟨W.heap.size + 1, 0, none⟩ = some (.int .u32 (n2 : Int)) ∧ w'.cell? ⟨W.heap.size + 1, 1, none⟩ = some (.int .u32 (n3 : Int)) ∧ w'.cell? ⟨W.heap.size + 1, 2, none⟩ = some (.int .u32 (n4 : Int)) ∧ W.heap.size < w'.heap.size ∧ W.heap.size + 1 < w'.heap.size ∧ Bl W2 w') := fun w' g => keep5 ⟨c0.1, c0.2.1, c0.2.2.1, c0.2.2.2.1, c0.2.2.2.2, hs2.1, hs2.2, Bl.refl W2⟩ g
  have HB2 := Lib.hid hb2
  clear hb2 hs2 c0
  go_enter Tryd.func3, Tryd.ntmps3
  go_wp2_with (first
    | (go_at_call 10; (with_reducible refine (SH.out _ (HW.out.bl HB2.out)).mono ?_); rintro e w1 ⟨rfl, hb'⟩; have G1 := Lib.hid hb'; clear hb'))
  clear hW2
  have HW1 : Hid (∀ w', w'.cell? ⟨W.heap.size, 0, none⟩ = some (.int .u64 (n0 : Int)) ∧ w'.cell? ⟨W.heap.size, 1, none⟩ = some (.int .u64 (n1 : Int)) ∧ w'.cell? ⟨W.heap.size + 1, 0, none⟩ = some (.int .u32 (n2 : Int)) ∧ w'.cell? ⟨W.heap.size + 1, 1, none⟩ = some (.int .u32 (n3 : Int)) ∧ w'.cell? ⟨W.heap.size + 1, 2, none⟩ = some (.int .u32 (n4 : Int)) ∧ W.heap.size < w'.heap.size ∧ W.heap.size + 1 < w'.heap.size ∧ Bl W2 w' → PrW w') := fun w' h => HW.out.bl (HB2.out.trans h.2.2.2.2.2.2.2)
  go_region_held3 (fun w' => w'.cell? ⟨W.heap.size, 0, none⟩ = some (.int .u64 (n0 : Int)) ∧ w'.cell? ⟨W.heap.size, 1, none⟩ = some (.int .u64 (n1 : Int)) ∧ w'.cell? ⟨W.heap.size + 1, 0, none⟩ = some (.int .u32 (n2 : Int)) ∧ w'.cell? ⟨W.heap.size + 1, 1, none⟩ = some (.int .u32 (n3 : Int)) ∧ w'.cell? ⟨W.heap.size + 1, 2, none⟩ = some (.int .u32 (n4 : Int)) ∧ W.heap.size < w'.heap.size ∧ W.heap.size + 1 < w'.heap.size ∧ Bl W2 w')
    (first | assumption | exact HC.out _ G1.out.drew | exact keep5 ‹_› hg)
    (first
     | (go_at_call 11; (with_reducible refine (S1.out _ (HW1.out _ ‹_›)).mono ?_); rintro e w' ⟨rfl, hg⟩)
     | (go_at_call 12; (with_reducible refine (S2.out _).mono ?_); rintro e w' ⟨rfl, hg⟩)
     | (go_at_call 13; (with_reducible refine (J1.out _).mono ?_); rintro e w' ⟨rfl, hg⟩)
     | (go_at_call 14; (with_reducible refine (J2.out _).mono ?_); rintro e w' ⟨rfl, hg⟩)
     | (go_at_call 15; (with_reducible refine (B1.out _).mono ?_); rintro e w' ⟨rfl, hg⟩)
     | (go_at_call 16; (with_reducible refine (B2.out _).mono ?_); rintro e w' ⟨rfl, hg⟩))
  rename_i hH
  have HE := Lib.hid (HB2.out.trans hH.2.2.2.2.2.2.2)
  clear hH
  go_wp2
  go_ret
  exact ⟨rfl, HE.out⟩
end Go.Proofs.YtiainhbkoehhjaaDoor
namespace Go.Proofs.YtiainhbkoehhjaaDoor
open Go.RowKit
set_option linter.unusedVariables false
set_option linter.unusedSimpArgs false

set_option maxRecDepth 100000 in
set_option maxHeartbeats 4000000 in
theorem trioTimes_walk (v0 : Value) (l0 : List Nat) (v1 : Value) (l1 : List Nat) (n2 : Nat) (b0 : All 18446744073709551616 l0) (b1 : All 18446744073709551616 l1) (b2 : n2 < 4294967296) (W : World) (r0 : Rw .u64 W v0 l0) (r1 : Rw .u64 W v1 l1) (hw : PrW W) :
    Calls Tryd.prog 4 #[v0, v1, .int .u32 (n2 : Int)] W fun e w' => e = .returned (.bool true) ∧ Bl W w' := by
  have SH := Lib.hid (fun w hw => shown9 w hw)
  have HW := Lib.hid hw
  have R0 := Lib.hid r0
  have R1 := Lib.hid r1
  obtain ⟨A1, c1, rfl, hk1, hm1, _, _⟩ := r0
  obtain ⟨A2, c2, rfl, hk2, hm2, _, _⟩ := r1
  by_cases hf : l0.length ≤ 100 ∧ l1.length ≤ 100
  · obtain ⟨R, E, hRE, M1, M2⟩ := mod_same n2 b2 l0 l1 b0 b1 (by omega) (by omega)
    obtain ⟨Z, G, hZ, T1, T2⟩ := times_same l0 l1 b0 b1 (by omega) (by omega)
    have hR : R.length ≤ 20000 := by
      rcases hRE with ⟨_, _, h⟩ | ⟨_, _, h⟩
      · rw [h, List.length_map, cvs_length]; unfold cl; split <;> omega
      · rw [h]; simp
    have HM1 := Lib.hid M1
    have HM2 := Lib.hid M2
    have HT1 := Lib.hid T1
    have HT2 := Lib.hid T2
    have HRS := Lib.hid (fun w v1 v2 h1 h2 => rows_same v1 v2 R hR w h1 h2)
    have HPS := Lib.hid (fun w v1 v2 h1 h2 => pairs_same v1 v2 Z hZ w h1 h2)
    obtain ⟨x, hx⟩ : ∃ x, l0.length = x := ⟨_, rfl⟩
    obtain ⟨y, hy⟩ : ∃ x, l1.length = x := ⟨_, rfl⟩
    rw [hx] at R0 hf
    rw [hy] at R1 hf
    rw [hx, hy]
    have d1 : decide ((100 : Int) < (x : Int)) = false := decide_eq_false (by omega)
    have d2 : decide ((100 : Int) < (y : Int)) = false := decide_eq_false (by omega)
    have d3 : decide (100 < x) = false := decide_eq_false (by omega)
    have d4 : decide (100 < y) = false := decide_eq_false (by omega)
    have e1 : (E == E) = true := by rw [beq_iff_eq]
    have e2 : (G == G) = true := by rw [beq_iff_eq]
    clear hk1 hm1 hk2 hm2 hx hy hf hRE M1 M2 T1 T2 hZ hR b0 b1 b2 hw
    go_enter Tryd.func4, Tryd.ntmps4
    go_wp2_with (first
      | (go_at_call 10; (with_reducible refine (SH.out _ HW.out).mono ?_); rintro e w1 ⟨rfl, hb'⟩; have G1 := Lib.hid hb'; clear hb')
      | (go_at_call 17; (with_reducible refine (HM1.out _ _ _ (HW.out.bl G1.out) (R0.out.bl G1.out) (R1.out.bl G1.out)).mono ?_); rintro e w2 ⟨x1, rfl, hr, hb'⟩; have X1 := Lib.hid hr; have G2 := Lib.hid (G1.out.trans hb'); clear hr hb')
      | (go_at_call 18; (with_reducible refine (HM2.out _ _ _ (R0.out.bl G2.out) (R1.out.bl G2.out)).mono ?_); rintro e w3 ⟨x2, rfl, hr, hb'⟩; have X2 := Lib.hid hr; have X1' := Lib.hid (X1.out.bl hb'); have G3 := Lib.hid (G2.out.trans hb'); clear hr hb')
      | (go_at_call 19; (with_reducible refine (HT1.out _ _ _ (HW.out.bl G3.out) (R0.out.bl G3.out) (R1.out.bl G3.out)).mono ?_); rintro e w4 ⟨x3, rfl, hr, hb'⟩; have X3 := Lib.hid hr; have B4 := Lib.hid hb'; have G4 := Lib.hid (G3.out.trans hb'); clear hr hb')
      | (go_at_call 20; (with_reducible refine (HT2.out _ _ _ (R0.out.bl G4.out) (R1.out.bl G4.out)).mono ?_); rintro e w5 ⟨x4, rfl, hr, hb'⟩; have X4 := Lib.hid hr; have X3' := Lib.hid (X3.out.bl hb'); have B5 := Lib.hid (B4.out.trans hb'); have G5 := Lib.hid (G4.out.trans hb'); clear hr hb')
      | (go_at_call 21; (with_reducible refine (HRS.out _ _ _ (X1'.out.bl B5.out) (X2.out.bl B5.out)).mono ?_); rintro e w6 ⟨rfl, hb'⟩; have B6 := Lib.hid hb'; have G6 := Lib.hid (G5.out.trans hb'); clear hb')
      | (go_at_call 22; (with_reducible refine (HPS.out _ _ _ (X3'.out.bl B6.out) (X4.out.bl B6.out)).mono ?_); rintro e w7 ⟨rfl, hb'⟩; have G7 := Lib.hid (G6.out.trans hb'); clear hb'))
    go_ret
    exact ⟨rfl, G7.out⟩
  · obtain ⟨x, hx⟩ : ∃ x, l0.length = x := ⟨_, rfl⟩
    obtain ⟨y, hy⟩ : ∃ x, l1.length = x := ⟨_, rfl⟩
    rw [hx, hy] at hf
    rw [hx, hy]
    by_cases h1 : 100 < x
    · have d1 : decide ((100 : Int) < (x : Int)) = true := decide_eq_true (by omega)
      have d3 : decide (100 < x) = true := decide_eq_true (by omega)
      clear hk1 hm1 hk2 hm2 hx hy hf b0 b1 b2 hw R0 R1 h1
      go_enter Tryd.func4, Tryd.ntmps4
      go_wp2_with (go_at_call 10; (with_reducible refine (SH.out _ HW.out).mono ?_); rintro e w1 ⟨rfl, hb'⟩; have G1 := Lib.hid hb'; clear hb')
      go_ret
      exact ⟨rfl, G1.out⟩
    · have d1 : decide ((100 : Int) < (x : Int)) = false := decide_eq_false (by omega)
      have d3 : decide (100 < x) = false := decide_eq_false (by omega)
      have d2 : decide ((100 : Int) < (y : Int)) = true := decide_eq_true (by omega)
      have d4 : decide (100 < y) = true := decide_eq_true (by omega)
      clear hk1 hm1 hk2 hm2 hx hy hf b0 b1 b2 hw R0 R1 h1
      go_enter Tryd.func4, Tryd.ntmps4
      go_wp2_with (go_at_call 10; (with_reducible refine (SH.out _ HW.out).mono ?_); rintro e w1 ⟨rfl, hb'⟩; have G1 := Lib.hid hb'; clear hb')
      go_ret
      exact ⟨rfl, G1.out⟩
end Go.Proofs.YtiainhbkoehhjaaDoor
namespace Go.Proofs.YtiainhbkoehhjaaDoor
set_option linter.unusedVariables false
set_option linter.unusedSimpArgs false

theorem cv_sm (a b : List Nat) (n : Nat) : ∀ k, cv a b k n = sm k (fun i => ct a b i n)
  | 0 => rfl
  | k + 1 => by show cv a b k n + ct a b k n = sm (k + 1) _; rw [sm_succ, cv_sm a b n k]
theorem cv_whole (a b : List Nat) (n : Nat) : cv a b a.length n = sm (n + 1) (fun i => a.getD i 0 * b.getD (n - i) 0) := by
  rw [cv_sm]
  have e1 : sm (a.length + (n + 1)) (fun i => ct a b i n) = sm a.length (fun i => ct a b i n) :=
    sm_ext (by omega) fun i hi _ => by
      show ct a b i n = 0
      unfold ct
      split
      · rw [getD_over hi, Nat.zero_mul]
      · rfl
  have e2 : sm (a.length + (n + 1)) (fun i => ct a b i n) = sm (n + 1) (fun i => ct a b i n) :=
    sm_ext (by omega) fun i hi _ => by
      show ct a b i n = 0
      unfold ct
      rw [if_neg (by omega)]
  rw [← e1, e2]
  exact sm_congr fun i hi => by
    show ct a b i n = _
    unfold ct
    rw [if_pos (by omega)]
theorem cv_swap (a b : List Nat) (n : Nat) : cv a b a.length n = cv b a b.length n := by
  rw [cv_whole, cv_whole, ← sm_turn n (fun i => b.getD i 0 * a.getD (n - i) 0)]
  exact sm_congr fun i hi => by
    show _ = b.getD (n - i) 0 * a.getD (n - (n - i)) 0
    rw [show n - (n - i) = i by omega, Nat.mul_comm]
theorem cl_swap (a b : List Nat) : cl a b = cl b a := by
  unfold cl
  split <;> split <;> omega
theorem cvs_swap (a b : List Nat) : cvs a b = cvs b a := by
  unfold cvs
  rw [cl_swap a b]
  exact ml_congr fun n _ => cv_swap a b n
theorem cvs_get (a b : List Nat) (i : Nat) (h : i < (cvs a b).length) : (cvs a b)[i] = cv a b a.length i := ml_get h
theorem cl_one (a : List Nat) : cl a [1] = a.length := by
  unfold cl
  have : ([1] : List Nat).length = 1 := rfl
  split <;> omega
theorem cvs_one (a : List Nat) : cvs a [1] = a := by
  refine List.ext_getElem (by rw [cvs_length, cl_one]) fun i h1 h2 => ?_
  rw [cvs_get, cv_swap]
  show cv [1] a 0 i + ct [1] a 0 i = _
  show 0 + ct [1] a 0 i = _
  unfold ct
  rw [if_pos (Nat.zero_le _), Nat.zero_add]
  show 1 * a.getD (i - 0) 0 = _
  rw [Nat.one_mul, Nat.sub_zero, getD_in h2]
theorem cv_plus (a b c s : List Nat) (h : ∀ q, s.getD q 0 = b.getD q 0 + c.getD q 0) (n : Nat) : ∀ k, cv a s k n = cv a b k n + cv a c k n
  | 0 => rfl
  | k + 1 => by
    show cv a s k n + ct a s k n = cv a b k n + ct a b k n + (cv a c k n + ct a c k n)
    rw [cv_plus a b c s h n k]
    unfold ct
    split
    · rw [h, Nat.mul_add]; omega
    · omega
theorem one_small : All 4294967296 [1] := fun i hi => by
  have hi' : i < 1 := hi
  match i, hi' with
  | 0, _ => show 1 < 4294967296; decide
theorem num_tw (x : Nat) : num (tw x).1 (tw x).2 = x := by
  unfold num
  show x / 18446744073709551616 * 18446744073709551616 + x % 18446744073709551616 = x
  omega
theorem num_two (x : Nat) : num (x / 18446744073709551616) (x % 18446744073709551616) = x := num_tw x
theorem tw_num (h l : Nat) (hl : l < 18446744073709551616) : num h l / 18446744073709551616 = h ∧ num h l % 18446744073709551616 = l := by
  unfold num
  constructor <;> omega
theorem bd_num : num bdH bdL = bd := by decide
/-- What is joined is below the bound, and split as it was. -/
theorem jn_back (a b c : Nat) : jn a b c < bd ∧ jn a b c % 998244353 = a % 998244353 ∧ jn a b c % 167772161 = b % 167772161 ∧ jn a b c % 469762049 = c % 469762049 := jn_is a b c
end Go.Proofs.YtiainhbkoehhjaaDoor
