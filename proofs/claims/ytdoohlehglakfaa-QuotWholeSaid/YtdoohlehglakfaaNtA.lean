/-
  The document's rows of digits (layer 4): Trim.
-/
import Derived.Test.YtdoohlehglakfaaChecked
import Derived.Test.YtdoohlehglakfaaNtM
import Derived.Test.YtdoohlehglakfaaNtW
namespace Go.Proofs.Ytdoohlehglakfaa
open Go.RowKit
set_option linter.unusedVariables false

theorem Try.infoInt : (Try.prog.info? 3).map (fun i => (i.zero, i.size, i.bytes)) = some (some (.int .i64 0), 1, 8) := by kernel_rfl

/-- What a call answers that hands back a row. -/
def RwEnd (k : IntKind) (W : World) (l : List Nat) (e : Ending) (w : World) : Prop := ∃ v, e = .returned v ∧ Rw k w v l ∧ Bl W w
theorem RwEnd.mk {k : IntKind} {W w : World} {l : List Nat} {v : Value} (h : Rw k w v l) (g : Bl W w) : RwEnd k W l (.returned v) w := ⟨v, rfl, h, g⟩
theorem RwEnd.of {k : IntKind} {W w : World} {l m : List Nat} {v : Value} (h : Rw k w v m) (g : Bl W w) (e : m = l) : RwEnd k W l (.returned v) w := ⟨v, rfl, e ▸ h, g⟩

/-- .. a row of its own. -/
def RwEndF (k : IntKind) (W : World) (l : List Nat) (e : Ending) (w : World) : Prop := ∃ v, e = .returned v ∧ Rw k w v l ∧ Bl W w ∧ Fs W.heap.size v
theorem RwEndF.of {k : IntKind} {W w : World} {e : TypeId} {l m : List Nat} {v : Value} (h : Ow k e W.heap.size w v m) (g : Bl W w) (e' : m = l) : RwEndF k W l (.returned v) w :=
  ⟨v, rfl, e' ▸ h.rw, g, fun b hb => (World.ownsRow.lt h b hb).1⟩
theorem RwEndF.weak {k : IntKind} {W w : World} {l : List Nat} {e : Ending} (h : RwEndF k W l e w) : RwEnd k W l e w := by
  obtain ⟨v, h1, h2, h3, _⟩ := h
  exact ⟨v, h1, h2, h3⟩

set_option maxRecDepth 100000 in
set_option maxHeartbeats 1000000 in
theorem rtrim_fresh (v : Value) (l : List Nat) (ha : All 65536 l) (hl : l.length < 1099511627776) (w : World) (hr : Rw .i64 w v l) :
    Calls Try.prog 16 #[v] w (RwEndF .i64 w (dig 65536 (val 65536 l))) := by
  obtain ⟨i0, hi, hz0, hz1, hz2⟩ := info_parts Try.infoInt
  obtain ⟨A, c, rfl, hc, hm, h0, hx⟩ := hr
  have hlc : (l.length : Int) ≤ 1099511627776 := by omega
  have hlen : ∀ n, n ≤ l.length → n = (l.take n).length := fun n h => by rw [List.length_take, Nat.min_eq_left h]
  have hlen2 : ∀ n, ([] : List Nat).length + (l.take n).length < 1099511627776 := fun n => by rw [List.length_take]; have := Nat.min_le_right n l.length; simp; omega
  have hl1 := Lib.hid hlen
  have hl2 := Lib.hid hlen2
  clear hlen hlen2
  have HA := Lib.hid ha
  have HX := Lib.hid hx
  have H0 := Lib.hid h0
  have HM := Lib.hid hm
  clear ha hx h0 hm
  go_enter Try.func16, Try.ntmps16
  go_wp2
  go_loop [3] (fun s => ∃ n : Nat, Hid (Zr l n) ∧ s = .int .i64 (n : Int)) (fun s => (intOf s).toNat)
  case atStart => exact ⟨l.length, zr_start l, rfl⟩
  case round =>
    obtain ⟨n, hz, rfl⟩ := hrel
    have hn := hz.out.1
    by_cases h0 : n = 0
    · have HE := Lib.hid (trim_eq 65536 (by omega) HA.out hz.out (Or.inl h0))
      subst h0
      go_wp2_with (at_builtin; refine app_many w _ .i64 28 3 i0 (.int .i64 0) 8 Try.underlying28 hi hz0 hz1 hz2 rfl (by decide) rfl _ _ rfl _ [] (l.take 0) _ _ _ rfl rfl (hl1.out _ (by omega)) H0.out (World.ownsRow_made w #[] 0 (Nat.le_refl _) (by decide) rfl) ((HX.out.bl ((Bl.refl w).alloc _)).take _) ((Bl.refl w).alloc _) (hl2.out _) ?_; intro v' w' hown hbl)
      go_wp2
      go_ret
      exact RwEndF.of hown.out hbl.out HE.out
    · obtain ⟨j, hj⟩ : ∃ j, n = j + 1 := ⟨n - 1, by omega⟩
      have hjl : j < l.length := by omega
      obtain ⟨ad, hA, hcell⟩ := HX.out.at_ hjl
      obtain ⟨x, hxe⟩ : ∃ x, l[j] = x := ⟨_, rfl⟩
      rw [hxe] at hcell
      by_cases h1 : x = 0
      · have hz' := Lib.hid (zr_step (hj ▸ hz.out) hjl (hxe.trans h1))
        subst hj
        subst hA
        subst h1
        clear hxe
        go_wp2
        go_round
        case rel => exact ⟨j, hz', by go_num⟩
        case measure => simp [intOf]
      · have HE := Lib.hid (trim_eq 65536 (by omega) HA.out hz.out (Or.inr ⟨by omega, by subst hj; simp only [Nat.add_sub_cancel]; rw [hxe]; exact h1⟩))
        subst hj
        subst hA
        have hb : ((x : Int) == 0) = false := by rw [beq_eq_false_iff_ne]; omega
        clear hxe h1
        go_wp2_with (at_builtin; refine app_many w _ .i64 28 3 i0 (.int .i64 0) 8 Try.underlying28 hi hz0 hz1 hz2 rfl (by decide) rfl _ _ rfl _ [] (l.take (j + 1)) _ _ _ rfl rfl (hl1.out _ (by omega)) H0.out (World.ownsRow_made w #[] 0 (Nat.le_refl _) (by decide) rfl) ((HX.out.bl ((Bl.refl w).alloc _)).take _) ((Bl.refl w).alloc _) (hl2.out _) ?_; intro v' w' hown hbl)
        go_wp2
        go_ret
        exact RwEndF.of hown.out hbl.out HE.out

theorem rtrim_any (v : Value) (l : List Nat) (ha : All 65536 l) (hl : l.length < 1099511627776) (w : World) (hr : Rw .i64 w v l) :
    Calls Try.prog 16 #[v] w (RwEnd .i64 w (dig 65536 (val 65536 l))) := (rtrim_fresh v l ha hl w hr).mono fun _ _ h => h.weak
end Go.Proofs.Ytdoohlehglakfaa
