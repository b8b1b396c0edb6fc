/-
  Package prod: joined, of two pieces.
-/
import Derived.Test.YteoeaogfeblokaaNtZ
import Derived.Test.YteoeaogfeblokaaNatPa
namespace Go.Proofs.Yteoeaogfeblokaa
open Go.RowKit
set_option linter.unusedVariables false
set_option linter.unusedSimpArgs false

/-- The row between two pieces. -/
def jnL (N : Nat) (l0 l1 : List Nat) : Nat → List Nat
  | 0 => []
  | 1 => l0
  | _ => l0 ++ List.replicate (N - l0.length) 0 ++ l1
theorem int_widen : Try.prog.underlying 3 = some (.int .i64) := Try.underlying3

set_option maxRecDepth 100000 in
set_option maxHeartbeats 4000000 in
theorem pjoined_any (W0 W : World) (b N : Nat) (p0 p1 : Value) (l0 l1 : List Nat) (hb : Bl W0 W) (h0 : Rw .u64 W0 p0 l0) (h1 : Rw .u64 W0 p1 l1) (hc0 : W.cell? ⟨b, 0, none⟩ = some p0) (hc1 : W.cell? ⟨b, 1, none⟩ = some p1) (hbb : b < W.heap.size)
    (hl : l0.length ≤ N) (hN : N + l1.length < 1048576) :
    Calls Try.prog 45 #[.int .i64 (N : Int), .slice (some ⟨b, 0, none⟩) 2 2] W (RwEnd .u64 W (l0 ++ List.replicate (N - l0.length) 0 ++ l1)) := by
  obtain ⟨i0, hi, hz0, hz1, hz2⟩ := info_parts infoW
  obtain ⟨A0, d0, rfl, _, _, e0, hx0⟩ := h0
  obtain ⟨A1, d1, rfl, _, _, e1, hx1⟩ := h1
  have H0 := Lib.hid (hx0.bl hb)
  have H1 := Lib.hid (hx1.bl hb)
  have E0 := Lib.hid e0
  have E1 := Lib.hid e1
  obtain ⟨L0, hL0⟩ : ∃ k, l0.length = k := ⟨_, rfl⟩
  obtain ⟨L1, hL1⟩ : ∃ k, l1.length = k := ⟨_, rfl⟩
  rw [hL0] at hl hc0
  rw [hL1] at hN hc1
  have HL0 := Lib.hid hL0
  have HL1 := Lib.hid hL1
  obtain ⟨z, hz⟩ : ∃ z, N - L0 = z := ⟨_, rfl⟩
  have HZ : Hid (l0 ++ List.replicate z 0 ++ l1 = jnL N l0 l1 2) := by show _ = l0 ++ List.replicate (N - l0.length) 0 ++ l1; rw [hL0, hz]
  have rz : (N : Int) - (L0 : Int) = (z : Int) := by omega
  have hNb : (N : Int) ≤ 1048576 := by omega
  have hLb : (L0 : Int) ≤ 1048576 := by omega
  have hzb : (z : Int) ≤ 1048576 := by omega
  have hzb' : (0 : Int) ≤ (z : Int) := by omega
  have HS0 : Hid (([] : List Nat).length + 0 < 1099511627776) := by show 0 + 0 < _; decide
  have HS1 : Hid (([] ++ List.replicate 0 0 : List Nat).length + l0.length < 1099511627776) := by show _ < _; simp; omega
  have HS2 : Hid (l0.length + z < 1099511627776) := by show _ < _; omega
  have HS3 : Hid ((l0 ++ List.replicate z 0).length + l1.length < 1099511627776) := by show _ < _; simp; omega
  have HBB := Lib.hid hbb
  clear e0 e1 hx0 hx1 hL0 hL1 hz hb hN hbb
  show Calls Try.prog 45 _ W (RwEnd .u64 W (jnL N l0 l1 2))
  go_enter Try.func45, Try.ntmps45
  go_wp2
  go_loopw [5, 10] (fun r s wr => ∃ i : Nat, i ≤ 2 ∧ s = .int .i64 (i : Int) ∧ Hid (Ow .u64 29 W.heap.size wr r (jnL N l0 l1 i)) ∧ Hid (Bl W wr)) (fun _ s _ => 2 - (intOf s).toNat)
  case atStart => exact ⟨0, by omega, rfl, Ow.nil _ _ _ _, Bl.refl _⟩
  case round =>
    obtain ⟨i, hi2, rfl, hown, hb⟩ := hrel
    have hk0 := (hb.out.cell (p := ⟨b, 0, none⟩) HBB.out).trans hc0
    have hk1 := (hb.out.cell (p := ⟨b, 1, none⟩) HBB.out).trans hc1
    obtain ⟨A5, c5, rfl, _, _, _, _⟩ := hown.out.rw
    have h3 : i = 0 ∨ i = 1 ∨ i = 2 := by omega
    rcases h3 with rfl | rfl | rfl
    · have er : (jnL N l0 l1 0).length = 0 := rfl
      rw [er] at hown ⊢
      go_wp2_with (first
        | (at_builtin; refine app_zeros W wr .u64 .i64 22 3 29 i0 Try.underlying22 int_widen hi hz0 hz1 (by omega) rfl _ _ rfl (.slice A5 0 c5) [] 0 rfl rfl hown.out hb.out HS0.out ?_; intro v2 w2 hown2 hb2)
        | (at_builtin; refine app_many W w2 .u64 22 29 i0 (.int .u64 0) 8 Try.underlying22 hi hz0 hz1 hz2 rfl (by decide) rfl _ _ rfl v2 ([] ++ List.replicate 0 0) l0 _ _ _ rfl rfl HL0.out.symm E0.out hown2.out (H0.out.bl hb2.out) hb2.out HS1.out ?_; intro v3 w3 hown3 hb3))
      go_roundw
      case rel => exact ⟨1, by omega, by go_num, hown3, hb3⟩
      case measure => simp [intOf]
    · have er : (jnL N l0 l1 1).length = L0 := HL0.out
      rw [er] at hown ⊢
      go_wp2_with (first
        | (at_builtin; refine app_zeros W wr .u64 .i64 22 3 29 i0 Try.underlying22 int_widen hi hz0 hz1 (by omega) rfl _ _ rfl (.slice A5 L0 c5) l0 z rfl rfl hown.out hb.out HS2.out ?_; intro v2 w2 hown2 hb2)
        | (at_builtin; refine app_many W w2 .u64 22 29 i0 (.int .u64 0) 8 Try.underlying22 hi hz0 hz1 hz2 rfl (by decide) rfl _ _ rfl v2 (l0 ++ List.replicate z 0) l1 _ _ _ rfl rfl HL1.out.symm E1.out hown2.out (H1.out.bl hb2.out) hb2.out HS3.out ?_; intro v3 w3 hown3 hb3))
      go_roundw
      case rel => exact ⟨2, by omega, by go_num, by rw [← HZ.out]; exact hown3, hb3⟩
      case measure => simp [intOf]
    · have HR := Lib.hid hown.out.rw
      go_wp2
      go_ret
      exact RwEnd.mk HR.out hb.out
/-- .. of two pieces that were laid side by side just now. -/
theorem pjoined_lit (w : World) (N : Nat) (p0 p1 : Value) (l0 l1 : List Nat) (h0 : Rw .u64 w p0 l0) (h1 : Rw .u64 w p1 l1) (hl : l0.length ≤ N) (hN : N + l1.length < 1048576) :
    Calls Try.prog 45 #[.int .i64 (N : Int), .slice (some ⟨w.heap.size, 0, none⟩) 2 2] (w.alloc (.cells #[p0, p1] 22)) (RwEnd .u64 w (l0 ++ List.replicate (N - l0.length) 0 ++ l1)) :=
  (pjoined_any w _ w.heap.size N p0 p1 l0 l1 ((Bl.refl w).alloc _) h0 h1 (by simp) (by simp) (by simp) hl hN).mono fun e w' ⟨v, he, hr, hb⟩ => ⟨v, he, hr, ((Bl.refl w).alloc _).trans hb⟩
end Go.Proofs.Yteoeaogfeblokaa
