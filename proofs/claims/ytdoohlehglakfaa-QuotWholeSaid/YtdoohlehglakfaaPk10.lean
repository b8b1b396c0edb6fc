/-
  Package nat (layer 4): its small functions: trim, widened, place, raise, times; the makers of words and chain; cmp.Compare.
-/
import Derived.Test.YtdoohlehglakfaaPk1
import Derived.Test.YtdoohlehglakfaaNatM
import Derived.Test.YtdoohlehglakfaaPk2
import Derived.Test.YtdoohlehglakfaaPk9
import Derived.Lib.Strings
import Derived.Lib.Slices
import Derived.Lib.Small
import Derived.Lib.Walk
import Derived.Lib.BitFns
import Derived.Laws.Small
namespace Go.Proofs.Ytdoohlehglakfaa
open Go.RowKit
set_option linter.unusedVariables false

theorem infoW : (Try.prog.info? 33).map (fun i => (i.zero, i.size, i.bytes)) = some (some (.int .u64 0), 1, 8) := by kernel_rfl

/-- What a call answers that hands back a row and leaves the world as it was. -/
def RwSame (W : World) (l : List Nat) (e : Ending) (w : World) : Prop := ∃ v, e = .returned v ∧ W = w ∧ Rw .u64 W v l
theorem RwSame.of {W w : World} {l m : List Nat} {v : Value} (h : Rw .u64 W v m) (g : W = w) (e : m = l) : RwSame W l (.returned v) w := ⟨v, rfl, g, e ▸ h⟩

set_option maxRecDepth 100000 in
set_option maxHeartbeats 2000000 in
theorem ptrim_any (v : Value) (l : List Nat) (ha : All 18446744073709551616 l) (hl : l.length < 1099511627776) (w : World) (hr : Rw .u64 w v l) :
    Calls Try.prog 20 #[v] w (RwSame w (dig 18446744073709551616 (val 18446744073709551616 l))) := by
  obtain ⟨A, c, rfl, hc, hm, h0, hx⟩ := hr
  have hlc : (l.length : Int) ≤ 1099511627776 := by omega
  obtain ⟨L, hL⟩ : ∃ L, l.length = L := ⟨_, rfl⟩
  have HA := Lib.hid ha
  have HX := Lib.hid hx
  have H0 := Lib.hid h0
  have HL := Lib.hid hL
  have HM := Lib.hid hm
  have hcL : (L : Int) ≤ (c : Int) := by omega
  have HCL := Lib.hid hcL
  rw [hL] at hlc ⊢
  clear ha hx h0 hL hc hl hm
  go_enter Try.func20, Try.ntmps20
  go_wp2
  go_loop [3] (fun s => ∃ n : Nat, Hid (Zr l n) ∧ s = .int .i64 (n : Int)) (fun s => (intOf s).toNat)
  case atStart => exact ⟨l.length, zr_start l, by rw [HL.out]⟩
  case round =>
    obtain ⟨n, hz, rfl⟩ := hrel
    have hn := hz.out.1
    rw [HL.out] at hn
    have hni : (n : Int) ≤ (c : Int) := by omega
    have HTL := Lib.hid (show n = (l.take n).length by rw [List.length_take, HL.out]; omega)
    have HNM := Lib.hid (show n ≤ maxLen by have := HM.out; omega)
    by_cases h0 : n = 0
    · have HE := Lib.hid (trim_eq 18446744073709551616 (by omega) HA.out hz.out (Or.inl h0))
      have d0 : decide (0 < n) = false := decide_eq_false (by omega)
      have HN := Lib.hid hn
      have HZ := Lib.hid h0
      clear h0
      go_wp2
      go_ret
      exact RwSame.of ((HX.out.take _).rw HTL.out (Nat.le_refl _) HNM.out (fun _ => HZ.out)) rfl HE.out
    · obtain ⟨j, hj⟩ : ∃ j, n = j + 1 := ⟨n - 1, by omega⟩
      have hjl : j < l.length := by rw [HL.out]; omega
      obtain ⟨ad, hA, hcell⟩ := HX.out.at_ hjl
      obtain ⟨x, hxe⟩ : ∃ x, l[j] = x := ⟨_, rfl⟩
      rw [hxe] at hcell
      have d0 : decide (0 < n) = true := decide_eq_true (by omega)
      have r1 : (n : Int) - 1 = (j : Int) := by omega
      have b1 : (0 : Int) ≤ (j : Int) ∧ (j : Int) < (L : Int) := by omega
      have HN := Lib.hid hn
      have HJ := Lib.hid hj
      by_cases h1 : x = 0
      · have hz' := Lib.hid (zr_step (hj ▸ hz.out) hjl (hxe.trans h1))
        subst hA
        subst h1
        clear hxe hj h0
        go_wp2
        go_round
        case rel => exact ⟨j, hz', by go_num⟩
        case measure => have := HJ.out; simp [intOf] <;> omega
      · have HE := Lib.hid (trim_eq 18446744073709551616 (by omega) HA.out hz.out (Or.inr ⟨by omega, by subst hj; simp only [Nat.add_sub_cancel]; rw [hxe]; exact h1⟩))
        have hb : ((x : Int) == 0) = false := by rw [beq_eq_false_iff_ne]; omega
        subst hA
        clear hxe h1 hj h0
        go_wp2
        go_ret
        exact RwSame.of ((HX.out.take _).rw HTL.out (Nat.le_refl _) HNM.out (fun h => by cases h)) rfl HE.out

/-- .. a row of the call's own, laid in the next block. -/
def BkNew (W : World) (n : Nat) (l : List Nat) (e : Ending) (w : World) : Prop :=
  e = .returned (.slice (some ⟨W.heap.size, 0, none⟩) n n) ∧ Bk .u64 33 w W.heap.size l ∧ Bl W w ∧ w.heap.size = W.heap.size + 1
theorem splice_wide (l : List Nat) (n : Nat) (h : l.length ≤ n) : splice (List.replicate n 0) 0 (l.take n) = l ++ List.replicate (n - l.length) 0 := by
  rw [List.take_of_length_le h]
  simp [splice]

set_option maxRecDepth 100000 in
set_option maxHeartbeats 2000000 in
theorem pwidened_any (v : Value) (l : List Nat) (n : Nat) (hn : l.length ≤ n) (hb : n < 1099511627776) (w : World) (hr : Rw .u64 w v l) :
    Calls Try.prog 21 #[v, .int .i64 (n : Int)] w (BkNew w n (l ++ List.replicate (n - l.length) 0)) := by
  obtain ⟨i0, hi, hz0, hz1, hz2⟩ := info_parts infoW
  obtain ⟨A, c, rfl, hc, hm, h0, hx⟩ := hr
  have hmk := run_mk (P := Try.prog) .u64 22 33 i0 Try.underlying22 hi hz0 hz1 (by omega) n hb w
  have hlc : (l.length : Int) ≤ 1099511627776 := by omega
  have HS := Lib.hid (splice_wide l n hn)
  obtain ⟨L, hL⟩ : ∃ L, l.length = L := ⟨_, rfl⟩
  have HL := Lib.hid hL
  have HX := Lib.hid hx
  have HN := Lib.hid hn
  rw [hL] at hlc
  show Calls Try.prog 21 #[.slice A l.length c, .int .i64 (n : Int)] w _
  rw [hL]
  clear hx h0 hL hc hm hn hb
  go_enter Try.func21, Try.ntmps21
  go_wp2_with (refine copy_bk w _ .u64 33 rfl _ _ _ _ rfl 33 Try.underlying22 (by rw [hi]; simp [hz1]) w.heap.size 0 n n A L c rfl rfl (List.replicate n 0) l HL.out.symm (Bk.made _ _ _ _) (HX.out.bl ((Bl.refl w).alloc _)) (by simp; omega) ((Bl.refl w).alloc _) (Nat.le_refl _) ?_; intro w' hbk hbl hoth)
  go_ret
  refine ⟨rfl, ?_, hbl.out, ?_⟩
  · have := hbk.out
    rw [HS.out] at this
    rw [← HL.out]
    exact this
  · rw [hoth.out.1]; simp
end Go.Proofs.Ytdoohlehglakfaa
