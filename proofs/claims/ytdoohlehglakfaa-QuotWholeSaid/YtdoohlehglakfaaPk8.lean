/-
  The document's rows of digits (layer 4): Power, Less. · A row and an error, handed back; how many digits words have. · The document's rows of digits (layer 4): Div.
-/
import Derived.Test.YtdoohlehglakfaaPk6
import Derived.Test.YtdoohlehglakfaaPk7
namespace Go.Proofs.Ytdoohlehglakfaa
open Go.RowKit
set_option linter.unusedVariables false

theorem power_row (n : Nat) : (List.replicate (n / 16 + 1) 0).set (n / 16) (2 ^ (n % 16)) = dig 65536 (2 ^ n) := by
  have hp : 2 ^ (n % 16) < 65536 := by
    have : 2 ^ (n % 16) ≤ 2 ^ 15 := Nat.pow_le_pow_right (by decide) (by omega)
    omega
  have ha : All 65536 ((List.replicate (n / 16 + 1) 0).set (n / 16) (2 ^ (n % 16))) := all_set (all_zeros _ _ (by decide)) _ _ hp
  have hv := val_set 65536 (List.replicate (n / 16 + 1) 0) (n / 16) (2 ^ (n % 16)) (by simp)
  rw [val_zeros, List.getElem_replicate, Nat.mul_zero, Nat.add_zero, Nat.zero_add, two_pow16, ← Nat.pow_add, show 16 * (n / 16) + n % 16 = n from by omega] at hv
  have hn : Nm ((List.replicate (n / 16 + 1) 0).set (n / 16) (2 ^ (n % 16))) := by
    intro hne
    rw [List.getLast_eq_getElem, List.getElem_set]
    simp only [List.length_set, List.length_replicate, Nat.add_sub_cancel, if_true]
    exact Nat.ne_of_gt (Nat.two_pow_pos _)
  have := dig_val 65536 (by decide) _ ha hn
  rw [hv] at this
  exact this.symm

theorem Bk.alloc_set (k : IntKind) (e : TypeId) (w : World) (l : List Nat) (h u : Nat) : Bk k e (w.alloc (.cells ((vs k l).set h (.int k (u : Int))).toArray e)) w.heap.size (l.set h u) := by
  have e1 : vs k (l.set h u) = (vs k l).set h (.int k (u : Int)) := by simp [vs, List.map_set]
  unfold Bk
  rw [e1]
  exact heap_alloc_new w _

end Go.Proofs.Ytdoohlehglakfaa
namespace Go.Proofs.Ytdoohlehglakfaa
open Go.RowKit
set_option linter.unusedVariables false

/-- What a call answers that hands back a row and an error. -/
def RwErr (k : IntKind) (W : World) (l : List Nat) (err : Int) (e : Ending) (w : World) : Prop := ∃ v, e = .returned (.tuple #[v, .int .i64 err]) ∧ Rw k w v l ∧ Bl W w
theorem RwErr.mk {k : IntKind} {W w : World} {l : List Nat} {v : Value} {err : Int} (h : Rw k w v l) (g : Bl W w) : RwErr k W l err (.returned (.tuple #[v, .int .i64 err])) w := ⟨v, rfl, h, g⟩

theorem digs_of_words (l : List Nat) (ha : All 18446744073709551616 l) (hl : l.length < 34359738368) : (dig 65536 (val 18446744073709551616 l)).length < 137438953472 := by
  have h := val_lt 18446744073709551616 (by decide) l ha
  rw [w64_pow] at h
  have := dig_len_of_lt 65536 (by decide) _ _ h
  omega
end Go.Proofs.Ytdoohlehglakfaa
namespace Go.Proofs.Ytdoohlehglakfaa
open Go.RowKit
set_option linter.unusedVariables false

/-- What is left behind the places from j on, and the quotient's digits. -/
def dq (X D j i : Nat) : Nat := if j ≤ i then X / D / 65536 ^ i % 65536 else 0
theorem dq_start (X D n : Nat) : rowf n (dq X D n) = List.replicate n 0 := by
  rw [← rowf_zero]
  exact rowf_congr fun i hi => by unfold dq; rw [if_neg (by omega)]
theorem dq_end (X D n : Nat) (hX : (dig 65536 X).length = n) : val 65536 (rowf n (dq X D 0)) = X / D := by
  have e : rowf n (dq X D 0) = rowf n fun q => X / D / 65536 ^ q % 65536 := rowf_congr fun i _ => by unfold dq; rw [if_pos (Nat.zero_le _)]
  rw [e, rowf_val _ _ (by decide), Nat.mod_eq_of_lt]
  have := dig_lt 65536 (by decide) X
  rw [hX] at this
  exact Nat.lt_of_le_of_lt (Nat.div_le_self _ _) this
theorem dq_all (X D n j : Nat) : All 65536 (rowf n (dq X D j)) := fun i hi => by
  rw [rowf_get]; unfold dq; split
  · exact Nat.mod_lt _ (by decide)
  · decide
/-- One place: t is what is divided there. -/
theorem dq_step (X D i : Nat) (hD : 0 < D) : ∃ t q : Nat, X / 65536 ^ i % 65536 + 65536 * (X / 65536 ^ (i + 1) % D) = t ∧ t / D = q ∧ q < 65536 ∧ q = X / D / 65536 ^ i % 65536 ∧ t - D * q = X / 65536 ^ i % D ∧ D * q ≤ t ∧ t < 65536 * D := by
  obtain ⟨W, hW⟩ : ∃ W, X / 65536 ^ (i + 1) = W := ⟨_, rfl⟩
  obtain ⟨d, hd⟩ : ∃ d, X / 65536 ^ i % 65536 = d := ⟨_, rfl⟩
  have hdl : d < 65536 := by rw [← hd]; exact Nat.mod_lt _ (by decide)
  have hz := ab_div (B := 65536) (x := X) (i := i)
  rw [hW, hd] at hz
  have hr : W % D < D := Nat.mod_lt _ hD
  have ht : d + 65536 * (W % D) < 65536 * D := by
    have : 65536 * (W % D + 1) ≤ 65536 * D := Nat.mul_le_mul_left _ hr
    omega
  have hq : (d + 65536 * (W % D)) / D < 65536 := by rw [Nat.div_lt_iff_lt_mul hD]; exact ht
  have hZ : X / 65536 ^ i = D * (65536 * (W / D)) + (d + 65536 * (W % D)) := by
    have e := Nat.div_add_mod W D
    have e2 : 65536 * W = 65536 * (D * (W / D) + W % D) := by rw [e]
    rw [Nat.mul_add, Nat.mul_left_comm] at e2
    omega
  rw [hW, hd]
  refine ⟨_, _, rfl, rfl, hq, ?_, ?_, ?_, ht⟩
  · rw [Nat.div_div_eq_div_mul, Nat.mul_comm D, ← Nat.div_div_eq_div_mul, hZ, Nat.mul_add_div hD, Nat.mul_add_mod, Nat.mod_eq_of_lt hq]
  · rw [hZ, Nat.mul_add_mod]
    have := Nat.div_add_mod (d + 65536 * (W % D)) D
    omega
  · exact Nat.mul_div_le _ _
theorem dq_set (X D n i q : Nat) (hq : q = X / D / 65536 ^ i % 65536) : (rowf n (dq X D (i + 1))).set i q = rowf n (dq X D i) := by
  refine rowf_set n _ _ i q ?_ fun k hk => ?_
  · unfold dq; rw [if_pos (Nat.le_refl _)]; exact hq
  · unfold dq
    by_cases h : i ≤ k
    · rw [if_pos (by omega), if_pos h]
    · rw [if_neg (by omega), if_neg h]
theorem cmpi_le {D mid t : Nat} (hD : 0 < D) : (cmpi (D * mid) t ≤ 0 ↔ mid ≤ t / D) := by
  rw [Nat.le_div_iff_mul_le hD, Nat.mul_comm mid D]
  unfold cmpi
  by_cases h : D * mid < t
  · rw [if_pos h]; omega
  · by_cases h2 : t < D * mid
    · rw [if_neg h, if_pos h2]; omega
    · rw [if_neg h, if_neg h2]; omega
theorem all_one {x : Nat} (h : x < 65536) : All 65536 [x] := all_cons h (all_nil _)
theorem lit_own (k : IntKind) (e : TypeId) (w : World) (x : Nat) : Ow k e w.heap.size (w.alloc (.cells #[.int k (x : Int)] e)) (.slice (some ⟨w.heap.size, 0, none⟩) 1 1) [x] :=
  World.ownsRow_lit w #[.int k (x : Int)] 1 (Nat.le_refl _) (by decide) rfl
theorem lit_rw (k : IntKind) (e : TypeId) (w : World) (x : Nat) : Rw k (w.alloc (.cells #[.int k (x : Int)] e)) (.slice (some ⟨w.heap.size, 0, none⟩) 1 1) [x] := (lit_own k e w x).rw

theorem lit_at {k : IntKind} {e : TypeId} {w : World} {x b : Nat} (hb : b = w.heap.size) : Rw k (w.alloc (.cells #[.int k (x : Int)] e)) (.slice (some ⟨b, 0, none⟩) 1 1) [x] := by
  subst hb; exact lit_rw k e w x

/-- What a call answers that hands back two rows. -/
def RwEnd2 (k : IntKind) (W : World) (l m : List Nat) (e : Ending) (w : World) : Prop := ∃ q r, e = .returned (.tuple #[q, r]) ∧ Rw k w q l ∧ Rw k w r m ∧ Bl W w
theorem RwEnd2.mk {k : IntKind} {W w : World} {l m : List Nat} {q r : Value} (h : Rw k w q l) (h' : Rw k w r m) (g : Bl W w) : RwEnd2 k W l m (.returned (.tuple #[q, r])) w := ⟨q, r, rfl, h, h', g⟩

end Go.Proofs.Ytdoohlehglakfaa
