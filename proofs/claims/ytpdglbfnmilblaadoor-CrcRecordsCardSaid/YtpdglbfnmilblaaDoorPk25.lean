/-
  A slice that reads as a number; what package nat's Norm, Cmp, Add, Sub, Shl, Scale are to answer, as properties. · Package nat (layer 4): its small functions: trim, widened, place, raise, times; the makers of words and chain; cmp.Compare.
-/
import Derived.Test.YtpdglbfnmilblaaDoorPk24
import Derived.Test.YtpdglbfnmilblaaDoorPk20
import Derived.Test.YtpdglbfnmilblaaDoorPk21
import Derived.Test.YtpdglbfnmilblaaDoorPk22
import Derived.Lib.Strings
import Derived.Lib.Slices
import Derived.Lib.Small
import Derived.Lib.Walk
import Derived.Lib.BitFns
import Derived.Laws.Small
namespace Go.Proofs.YtpdglbfnmilblaaDoor
open Go.RowKit
set_option linter.unusedVariables false

/-- v reads as the number X. -/
def Nu (W : World) (v : Value) (X : Nat) : Prop := ∃ l, Rw .u64 W v l ∧ All 18446744073709551616 l ∧ l.length < 1048576 ∧ val 18446744073709551616 l = X
theorem Nu.bl {W w : World} {v : Value} {X : Nat} (h : Nu W v X) (g : Bl W w) : Nu w v X := by
  obtain ⟨l, h1, h2⟩ := h
  exact ⟨l, h1.bl g, h2⟩
theorem Nu.mk {W : World} {v : Value} {l : List Nat} (h : Rw .u64 W v l) (ha : All 18446744073709551616 l) (hl : l.length < 1048576) : Nu W v (val 18446744073709551616 l) := ⟨l, h, ha, hl, rfl⟩
/-- X has k words at most. -/
def Sz (k X : Nat) : Prop := X < 18446744073709551616 ^ k
theorem Sz.mono {k j X : Nat} (h : Sz k X) (hk : k ≤ j) : Sz j X := Nat.lt_of_lt_of_le h (Nat.pow_le_pow_right (by decide) hk)
theorem Sz.le {k X Y : Nat} (h : Sz k X) (hy : Y ≤ X) : Sz k Y := Nat.lt_of_le_of_lt hy h
theorem Sz.of_val {l : List Nat} (ha : All 18446744073709551616 l) {k : Nat} (hl : l.length ≤ k) : Sz k (val 18446744073709551616 l) := Sz.mono (val_lt _ (by decide) l ha) hl
theorem Sz.add {k X Y : Nat} (h : Sz k X) (h' : Sz k Y) : Sz (k + 1) (X + Y) := by
  unfold Sz at *
  rw [Nat.pow_succ]
  omega
theorem Sz.word {k X w : Nat} (h : Sz k X) (hw : w < 18446744073709551616) : Sz (k + 1) (X * w) := by
  unfold Sz at *
  rw [Nat.pow_succ]
  exact Nat.mul_lt_mul'' h hw
theorem Sz.shl {k X n j : Nat} (h : Sz k X) (hn : n ≤ 64 * j) : Sz (k + j) (X * 2 ^ n) := by
  unfold Sz at *
  have e : (18446744073709551616 : Nat) = 2 ^ 64 := by decide
  have h1 : 2 ^ n ≤ 18446744073709551616 ^ j := by
    rw [e, ← Nat.pow_mul]
    exact Nat.pow_le_pow_right (by decide) hn
  rw [Nat.pow_add]
  exact Nat.lt_of_lt_of_le (Nat.mul_lt_mul_of_pos_right h (Nat.two_pow_pos n)) (Nat.mul_le_mul_left _ h1)
theorem Nu.dig {W : World} {v : Value} {X k : Nat} (h : Rw .u64 W v (dig 18446744073709551616 X)) (hs : Sz k X) (hk : k < 1048576) : Nu W v X :=
  ⟨_, h, all_dig _ (by decide) X, Nat.lt_of_le_of_lt (dig_len_of_lt _ (by decide) X k hs) hk, val_dig _ (by decide) X⟩
theorem rw_len {k : IntKind} {w : World} {v : Value} {l : List Nat} (h : Rw k w v l) : l.length ≤ 9223372036854775807 := by
  obtain ⟨A, c, _, h1, h2, _⟩ := h
  unfold maxLen at h2
  omega

def CNorm : Prop := ∀ (W : World) (v : Value) (X : Nat), Nu W v X → Calls Tryd.prog 50 #[v] W (RwEnd .u64 W (dig 18446744073709551616 X))
end Go.Proofs.YtpdglbfnmilblaaDoor
namespace Go.Proofs.YtpdglbfnmilblaaDoor
open Go.RowKit
set_option linter.unusedVariables false

theorem infoW : (Tryd.prog.info? 59).map (fun i => (i.zero, i.size, i.bytes)) = some (some (.int .u64 0), 1, 8) := by kernel_rfl

/-- What a call answers that hands back a row and leaves the world as it was. -/
def RwSame (W : World) (l : List Nat) (e : Ending) (w : World) : Prop := ∃ v, e = .returned v ∧ W = w ∧ Rw .u64 W v l
theorem RwSame.of {W w : World} {l m : List Nat} {v : Value} (h : Rw .u64 W v m) (g : W = w) (e : m = l) : RwSame W l (.returned v) w := ⟨v, rfl, g, e ▸ h⟩

set_option maxRecDepth 100000 in
set_option maxHeartbeats 2000000 in
theorem ptrim_any (v : Value) (l : List Nat) (ha : All 18446744073709551616 l) (hl : l.length < 1099511627776) (w : World) (hr : Rw .u64 w v l) :
    Calls Tryd.prog 52 #[v] w (RwSame w (dig 18446744073709551616 (val 18446744073709551616 l))) := by
  obtain ⟨A, c, rfl, hc, hm, h0, hx⟩ := hr
  have hlc : (l.length : Int) ≤ 1099511627776 := by omega
  obtain ⟨L, hL⟩ : ∃ L, l.length = L := ⟨_, rfl⟩
  have HA := Lib.hid ha
  have HX := Lib.hid hx
  have H0 := Lib.hid h0
  have HL := Lib.hid hL
  have HM := Lib.hid hm
  have hcL : (L : Int) ≤ (c : Int) := by omega
  have HCL := Lib.hid hcL
  rw [hL] at hlc ⊢
  clear ha hx h0 hL hc hl hm
  go_enter Tryd.func52, Tryd.ntmps52
  go_wp2
  go_loop [3] (fun s => ∃ n : Nat, Hid (Zr l n) ∧ s = .int .i64 (n : Int)) (fun s => (intOf s).toNat)
  case atStart => exact ⟨l.length, zr_start l, by rw [HL.out]⟩
  case round =>
    obtain ⟨n, hz, rfl⟩ := hrel
    have hn := hz.out.1
    rw [HL.out] at hn
    have hni : (n : Int) ≤ (c : Int) := by omega
    have HTL := Lib.hid (show n = (l.take n).length by rw [List.length_take, HL.out]; omega)
    have HNM := Lib.hid (show n ≤ maxLen by have := HM.out; omega)
    by_cases h0 : n = 0
    · have HE := Lib.hid (trim_eq 18446744073709551616 (by omega) HA.out hz.out (Or.inl h0))
      have d0 : decide (0 < n) = false := decide_eq_false (by omega)
      have HN := Lib.hid hn
      have HZ := Lib.hid h0
      clear h0
      go_wp2
      go_ret
      exact RwSame.of ((HX.out.take _).rw HTL.out (Nat.le_refl _) HNM.out (fun _ => HZ.out)) rfl HE.out
    · obtain ⟨j, hj⟩ : ∃ j, n = j + 1 := ⟨n - 1, by omega⟩
      have hjl : j < l.length := by rw [HL.out]; omega
      obtain ⟨ad, hA, hcell⟩ := HX.out.at_ hjl
      obtain ⟨x, hxe⟩ : ∃ x, l[j] = x := ⟨_, rfl⟩
      rw [hxe] at hcell
      have d0 : decide (0 < n) = true := decide_eq_true (by omega)
      have r1 : (n : Int) - 1 = (j : Int) := by omega
      have b1 : (0 : Int) ≤ (j : Int) ∧ (j : Int) < (L : Int) := by omega
      have HN := Lib.hid hn
      have HJ := Lib.hid hj
      by_cases h1 : x = 0
      · have hz' := Lib.hid (zr_step (hj ▸ hz.out) hjl (hxe.trans h1))
        subst hA
        subst h1
        clear hxe hj h0
        go_wp2
        go_round
        case rel => exact ⟨j, hz', by go_num⟩
        case measure => have := HJ.out; simp [intOf] <;> omega
      · have HE := Lib.hid (trim_eq 18446744073709551616 (by omega) HA.out hz.out (Or.inr ⟨by omega, by subst hj; simp only [Nat.add_sub_cancel]; rw [hxe]; exact h1⟩))
        have hb : ((x : Int) == 0) = false := by rw [beq_eq_false_iff_ne]; omega
        subst hA
        clear hxe h1 hj h0
        go_wp2
        go_ret
        exact RwSame.of ((HX.out.take _).rw HTL.out (Nat.le_refl _) HNM.out (fun h => by cases h)) rfl HE.out

/-- .. a row of the call's own, laid in the next block. -/
def BkNew (W : World) (n : Nat) (l : List Nat) (e : Ending) (w : World) : Prop :=
  e = .returned (.slice (some ⟨W.heap.size, 0, none⟩) n n) ∧ Bk .u64 59 w W.heap.size l ∧ Bl W w ∧ w.heap.size = W.heap.size + 1
theorem splice_wide (l : List Nat) (n : Nat) (h : l.length ≤ n) : splice (List.replicate n 0) 0 (l.take n) = l ++ List.replicate (n - l.length) 0 := by
  rw [List.take_of_length_le h]
  simp [splice]

set_option maxRecDepth 100000 in
set_option maxHeartbeats 2000000 in
theorem pwidened_any (v : Value) (l : List Nat) (n : Nat) (hn : l.length ≤ n) (hb : n < 1099511627776) (w : World) (hr : Rw .u64 w v l) :
    Calls Tryd.prog 53 #[v, .int .i64 (n : Int)] w (BkNew w n (l ++ List.replicate (n - l.length) 0)) := by
  obtain ⟨i0, hi, hz0, hz1, hz2⟩ := info_parts infoW
  obtain ⟨A, c, rfl, hc, hm, h0, hx⟩ := hr
  have hmk := run_mk (P := Tryd.prog) .u64 26 59 i0 Tryd.underlying26 hi hz0 hz1 (by omega) n hb w
  have hlc : (l.length : Int) ≤ 1099511627776 := by omega
  have HS := Lib.hid (splice_wide l n hn)
  obtain ⟨L, hL⟩ : ∃ L, l.length = L := ⟨_, rfl⟩
  have HL := Lib.hid hL
  have HX := Lib.hid hx
  have HN := Lib.hid hn
  rw [hL] at hlc
  show Calls Tryd.prog 53 #[.slice A l.length c, .int .i64 (n : Int)] w _
  rw [hL]
  clear hx h0 hL hc hm hn hb
  go_enter Tryd.func53, Tryd.ntmps53
  go_wp2_with (refine copy_bk w _ .u64 59 rfl _ _ _ _ rfl 59 Tryd.underlying26 (by rw [hi]; simp [hz1]) w.heap.size 0 n n A L c rfl rfl (List.replicate n 0) l HL.out.symm (Bk.made _ _ _ _) (HX.out.bl ((Bl.refl w).alloc _)) (by simp; omega) ((Bl.refl w).alloc _) (Nat.le_refl _) ?_; intro w' hbk hbl hoth)
  go_ret
  refine ⟨rfl, ?_, hbl.out, ?_⟩
  · have := hbk.out
    rw [HS.out] at this
    rw [← HL.out]
    exact this
  · rw [hoth.out.1]; simp
end Go.Proofs.YtpdglbfnmilblaaDoor
