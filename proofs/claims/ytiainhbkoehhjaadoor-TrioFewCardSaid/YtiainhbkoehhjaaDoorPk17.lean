/-
  Package trio: forms: a row taken in, and noughts behind it.
-/
import Derived.Test.YtiainhbkoehhjaaDoorPk10
import Derived.Test.YtiainhbkoehhjaaDoorPk16
namespace Go.Proofs.YtiainhbkoehhjaaDoor
open Go.RowKit
set_option linter.unusedVariables false
set_option linter.unusedSimpArgs false

theorem fm_zero (m : Nat) : fm m 0 = 0 := by unfold fm; rw [Nat.zero_mul, Nat.zero_mod]
/-- A new row that reads as a function's values. -/
def MkEnd (W : World) (N : Nat) (F : Nat → Nat) (e : Ending) (w : World) : Prop := ∃ b, e = .returned (.slice (some ⟨b, 0, none⟩) N N) ∧ W.heap.size ≤ b ∧ Bk .u32 25 w b (ml N F) ∧ Bl W w
/-- The forms of the first i places. -/
def frs (m : Nat) (l : List Nat) (i p : Nat) : Nat := if p < i then fm m (l.getD p 0) else 0
theorem frs_zero (m : Nat) (l : List Nat) (p : Nat) : frs m l 0 p = 0 := if_neg (by omega)
theorem frs_at (m : Nat) (l : List Nat) (i : Nat) : frs m l (i + 1) i = fm m (l.getD i 0) := if_pos (by omega)
theorem frs_other (m : Nat) (l : List Nat) (i p : Nat) (h : p ≠ i) : frs m l (i + 1) p = frs m l i p := by
  unfold frs
  by_cases h2 : p < i
  · rw [if_pos h2, if_pos (by omega)]
  · rw [if_neg h2, if_neg (by omega)]
theorem frs_all (m : Nat) (l : List Nat) (i p : Nat) (h : l.length ≤ i) : frs m l i p = fm m (l.getD p 0) := by
  unfold frs
  by_cases h2 : p < i
  · rw [if_pos h2]
  · rw [if_neg h2, getD_over (by omega), fm_zero]
theorem pow20 (k : Nat) (hk : k ≤ 20) : 0 < 2 ^ k ∧ 2 ^ k ≤ 1048576 := ⟨Nat.pow_pos (by decide), Nat.pow_le_pow_right (n := 2) (by decide) hk⟩

set_option maxRecDepth 100000 in
set_option maxHeartbeats 4000000 in
theorem forms_any {m n o s : Nat} (pm : Pm m n o s) (W : World) (v : Value) (l : List Nat) (k N : Nat) (hN : N = 2 ^ k) (hk : k ≤ 20) (hv : Rw .u64 W v l) (hl : All 18446744073709551616 l) (hlN : l.length ≤ N) :
    Calls Tryd.prog 58 #[frm m n o s, v, .int .i64 (k : Int)] W (MkEnd W N fun p => fm m (l.getD p 0)) := by
  obtain ⟨i0, hi, hz0, hz1, hz2⟩ := info_parts Tryd.infoU32
  obtain ⟨A, c, rfl, _, _, _, hx⟩ := hv
  have HX := Lib.hid hx
  obtain ⟨q, hq⟩ : ∃ q, l.length = q := ⟨_, rfl⟩
  have HQ := Lib.hid hq
  have hp := pow20 k hk
  rw [← hN] at hp
  have hqb : (q : Int) ≤ 1048576 := by omega
  have hNb : (N : Int) ≤ 1048576 := by omega
  have hki : (k : Int) ≤ 20 := by omega
  have hk0 : (0 : Int) ≤ (k : Int) := by omega
  have s1 : (2 : Int) ^ k = (N : Int) := by rw [hN, Int.natCast_pow]; rfl
  have s2 : IntKind.i64.wrap (N : Int) = (N : Int) := IntWalk.i64_in _ (by omega)
  have hmk := fun W => run_mk (P := Tryd.prog) .u32 34 25 i0 Tryd.underlying34 hi hz0 hz1 (by omega) N (by omega) W
  have HL := Lib.hid hl
  have HP := Lib.hid pm
  have HLN := Lib.hid (hq ▸ hlN)
  have F0 := Lib.hid (four_box W (.int .u32 (m : Int)) (.int .u32 (n : Int)) (.int .u32 (o : Int)) (.int .u32 (s : Int)) 77)
  rw [hq]
  clear hx hq hp hl pm hlN hN hk
  unfold frm
  go_enter Tryd.func58, Tryd.ntmps58
  go_wp2
  clear hmk
  obtain ⟨W1, hW1⟩ : ∃ W1, (W.alloc (.cells #[.int .u32 (m : Int), .int .u32 (n : Int), .int .u32 (o : Int), .int .u32 (s : Int)] 77)).alloc (.cells (vs .u32 (List.replicate N 0)).toArray 25) = W1 := ⟨_, rfl⟩
  have hBl1 : Hid (Bl W W1) := by rw [← hW1]; exact ((Bl.refl W).alloc _).alloc _
  have hB1 : Hid (Bk .u32 25 W1 (W.heap.size + 1) (ml N (frs m l 0))) := by
    show Bk _ _ _ _ _
    rw [ml_congr (fun p _ => frs_zero m l p), ml_const, ← hW1, ← World.size_alloc W (.cells #[.int .u32 (m : Int), .int .u32 (n : Int), .int .u32 (o : Int), .int .u32 (s : Int)] 77)]
    exact Bk.made _ _ _ _
  have F1 : Hid (Four W.heap.size (.int .u32 (m : Int)) (.int .u32 (n : Int)) (.int .u32 (o : Int)) (.int .u32 (s : Int)) W1) := by
    rw [← hW1]; exact F0.out.kept ((Gr.refl _).alloc _ _)
  rw [hW1]
  clear F0 hW1
  go_loopw [15] (fun sv wr => ∃ i : Nat, i ≤ q ∧ sv = .int .i64 (i : Int) ∧ Hid (Bk .u32 25 wr (W.heap.size + 1) (ml N (frs m l i))) ∧ Hid (Four W.heap.size (.int .u32 (m : Int)) (.int .u32 (n : Int)) (.int .u32 (o : Int)) (.int .u32 (s : Int)) wr) ∧ Hid (Bl W wr)) (fun sv _ => q - (intOf sv).toNat)
  case atStart => exact ⟨0, Nat.zero_le _, rfl, hB1, F1, hBl1⟩
  case round =>
    obtain ⟨i, hiq, rfl, hbk, hF, hb⟩ := hrel
    by_cases hlt : i < q
    · have hil : i < l.length := by rw [HQ.out]; exact hlt
      have hiN : i < N := Nat.lt_of_lt_of_le hlt HLN.out
      obtain ⟨ad, hA, hc⟩ := (HX.out.bl hb.out).at_ (i := i) hil
      have hg := getD_in hil
      have hd := HL.out i hil
      obtain ⟨d, ed⟩ : ∃ d, l[i] = d := ⟨_, rfl⟩
      rw [ed] at hc hg hd
      have MI := Lib.hid (fun w => in_any HP.out d hd w)
      have hx1 := frs_at m l i
      rw [hg] at hx1
      obtain ⟨x, ex⟩ : ∃ x, fm m d = x := ⟨_, rfl⟩
      rw [ex] at MI hx1
      have hst : Hid (∀ w, Bk .u32 25 w (W.heap.size + 1) (ml N (frs m l i)) → (∃ y, w.cell? ⟨W.heap.size + 1, i, none⟩ = some y) ∧ w.frozen? ⟨W.heap.size + 1, i, none⟩ = false ∧ Bk .u32 25 (w.setCell ⟨W.heap.size + 1, i, none⟩ (.int .u32 (x : Int))) (W.heap.size + 1) (ml N (frs m l (i + 1)))) := by
        intro w hw
        refine ⟨⟨_, hw.cell i (by rw [ml_length]; exact hiN)⟩, hw.free _, ?_⟩
        have h := hw.set i x (by rw [ml_length]; exact hiN)
        rw [← hx1, ml_set (g := frs m l (i + 1)) (fun p hp => frs_other m l i p hp), hx1] at h
        exact h
      obtain ⟨k0, k1, k2, k3, kb⟩ := hF.out
      have b1 : (0 : Int) ≤ (i : Int) ∧ (i : Int) < (q : Int) := by omega
      have b2 : (0 : Int) ≤ (i : Int) ∧ (i : Int) < (N : Int) := by omega
      unfold frm at MI
      subst hA
      clear hg hd ed ex hx1 hil hiN
      go_wp2_with (go_at_call 67; (with_reducible refine (MI.out _).mono ?_); rintro e w2 ⟨rfl, hg⟩; obtain ⟨⟨y, q1⟩, q2, q3⟩ := hst.out w2 (hbk.out.bl hg.1); have HBK := Lib.hid q3; have HF := Lib.hid ((hF.out.kept hg).og ((Og.refl (W.heap.size + 1) _).setCell i (.int .u32 (x : Int))) (by omega)); have HBL := Lib.hid ((hb.out.trans hg.1).setCell (p := ⟨W.heap.size + 1, i, none⟩) (Nat.le_succ _) (.int .u32 (x : Int))); clear q3 hg)
      go_roundw
      case rel => exact ⟨i + 1, hlt, by go_num, HBK, HF, HBL⟩
      case measure => simp [intOf] <;> omega
    · have hin' : i = q := by omega
      have HS : Hid (Bk .u32 25 wr (W.heap.size + 1) (ml N fun p => fm m (l.getD p 0))) := by
        show Bk _ _ _ _ _
        rw [ml_congr (fun p _ => (frs_all m l i p (by rw [HQ.out, hin']; exact Nat.le_refl _)).symm)]
        exact hbk.out
      clear hin' hbk
      go_wp2
      go_ret
      exact ⟨_, rfl, Nat.le_succ _, HS.out, hb.out⟩
end Go.Proofs.YtiainhbkoehhjaaDoor
