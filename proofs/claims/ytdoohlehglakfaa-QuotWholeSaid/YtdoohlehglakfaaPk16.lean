/-
  Package nat: Norm, Add, Scale over numbers. · Package prod: addTimes: a number times a word, added into a row in place. First the plain part: a row between two rounds.
-/
import Derived.Test.YtdoohlehglakfaaPk15
import Derived.LoopTactic
namespace Go.Proofs.Ytdoohlehglakfaa
open Go.RowKit
set_option linter.unusedVariables false

theorem trimN (W : World) (v : Value) (X : Nat) (h : Nu W v X) : Calls Try.prog 20 #[v] W (RwSame W (dig 18446744073709551616 X)) := by
  obtain ⟨l, h1, ha, hl, hx⟩ := h
  have := ptrim_any v l ha (by omega) W h1
  rwa [hx] at this
theorem nu_len {W : World} {v : Value} {X : Nat} (h : Nu W v X) : (dig 18446744073709551616 X).length < 1048576 := by
  obtain ⟨l, h1, ha, hl, hx⟩ := h
  have := dig_len_le 18446744073709551616 (by decide) l ha
  rw [hx] at this
  omega

set_option maxRecDepth 100000 in
theorem pNorm : CNorm := by
  intro W v X hv
  have hln := (nu_len hv)
  have KT := Lib.hid (trimN W v X hv)
  have KW := Lib.hid (fun v2 (h : Rw .u64 W v2 (dig 18446744073709551616 X)) => pwidened_any v2 _ _ (Nat.le_refl _) (by omega) W h)
  obtain ⟨l, hl⟩ : ∃ l, dig 18446744073709551616 X = l := ⟨_, rfl⟩
  rw [hl] at KT KW hln ⊢
  have HL := Lib.hid hln
  clear hl hln
  go_enter Try.func11, Try.ntmps11
  go_wp2_with (first
    | (go_at_call 20; refine KT.out.mono ?_; rintro e w' ⟨v2, rfl, rfl, hv2⟩; have HV := Lib.hid hv2; obtain ⟨A, c, rfl, _⟩ := hv2)
    | (go_at_call 21; refine (KW.out _ HV.out).mono ?_; rintro e w' ⟨rfl, hbk, hbl, hsz⟩))
  go_ret
  exact RwEnd.of (hbk.rw (n := l.length) (by simp) (by unfold maxLen; have := HL.out; omega)) hbl (by simp)

end Go.Proofs.Ytdoohlehglakfaa
namespace Go.Proofs.Ytdoohlehglakfaa
open Go.RowKit
set_option linter.unusedVariables false

/-- The row between two rounds: i words of l, times y, are added at place o; c is what is carried. -/
structure AtSt (B : Nat) (row l : List Nat) (y o i c : Nat) (out : List Nat) : Prop where
  lt : c < B
  all : All B out
  len : out.length = row.length
  num : val B out + B ^ (o + i) * c = val B row + B ^ o * (val B (l.take i) * y)
  far : ∀ j, o + i ≤ j → out[j]? = row[j]?
theorem at_start {B : Nat} (hB : 0 < B) {row : List Nat} (h : All B row) (l : List Nat) (y o : Nat) : AtSt B row l y o 0 0 row :=
  ⟨hB, h, rfl, by simp [val], fun _ _ => rfl⟩
theorem at_step {B : Nat} (hB : 0 < B) {row l out : List Nat} {y o i c : Nat} (h : AtSt B row l y o i c out) (hl : All B l) (hy : y < B) (hi : i < l.length) (ho : o + i < out.length) (r' c' : Nat)
    (e : l[i] * y + c + out[o + i] = r' + B * c') (hr : r' < B) : AtSt B row l y o (i + 1) c' (out.set (o + i) r') := by
  have hc' : c' < B := by
    have h1 := hl i hi
    have h2 := h.lt
    have h3 := h.all (o + i) ho
    have h4 : l[i] * y ≤ (B - 1) * (B - 1) := Nat.mul_le_mul (by omega) (by omega)
    have h5 : (B - 1) * (B - 1) + (B - 1) + (B - 1) < B * B := by
      obtain ⟨b, rfl⟩ : ∃ b, B = b + 1 := ⟨B - 1, by omega⟩
      rw [Nat.add_sub_cancel]
      have : (b + 1) * (b + 1) = b * b + b + b + 1 := by rw [Nat.add_mul, Nat.mul_add]; omega
      omega
    rcases Nat.lt_or_ge c' B with h6 | h6
    · exact h6
    · have := Nat.mul_le_mul_left B h6
      omega
  refine ⟨hc', all_set h.all _ _ hr, by rw [List.length_set]; exact h.len, ?_, fun j hj => ?_⟩
  · have h1 := val_set B out (o + i) r' ho
    have h2 := h.num
    have h3 := val_take_succ B l i hi
    rw [h3]
    have e2 : B ^ (o + (i + 1)) * c' = B ^ (o + i) * (B * c') := by rw [← Nat.add_assoc, Nat.pow_succ, Nat.mul_assoc]
    have e3 : B ^ o * ((val B (l.take i) + B ^ i * l[i]) * y) = B ^ o * (val B (l.take i) * y) + B ^ (o + i) * (l[i] * y) := by
      rw [Nat.add_mul, Nat.mul_add, Nat.mul_assoc (B ^ i), ← Nat.mul_assoc (B ^ o) (B ^ i), ← Nat.pow_add]
    have e4 : B ^ (o + i) * (l[i] * y) + B ^ (o + i) * c + B ^ (o + i) * out[o + i] = B ^ (o + i) * r' + B ^ (o + i) * (B * c') := by
      rw [← Nat.mul_add, ← Nat.mul_add, ← Nat.mul_add, e]
    rw [e2, e3]
    omega
  · rw [List.getElem?_set_ne (by omega)]
    exact h.far j (by omega)

theorem at_num (a y c r : Nat) (ha : a < 18446744073709551616) (hy : y < 18446744073709551616) (hc : c < 18446744073709551616) (hr : r < 18446744073709551616) :
    mulH a y + addC (mulL a y) c 0 < 18446744073709551616 ∧ mulH a y + addC (mulL a y) c 0 + addC r (addS (mulL a y) c 0) 0 < 18446744073709551616 ∧
    a * y + c + r = addS r (addS (mulL a y) c 0) 0 + 18446744073709551616 * (mulH a y + addC (mulL a y) c 0 + addC r (addS (mulL a y) c 0) 0) ∧ addS r (addS (mulL a y) c 0) 0 < 18446744073709551616 := by
  have h4 : a * y ≤ 18446744073709551615 * 18446744073709551615 := Nat.mul_le_mul (by omega) (by omega)
  unfold addS addC mulH mulL un
  rw [if_pos rfl]
  obtain ⟨p, hp⟩ : ∃ p, a * y = p := ⟨_, rfl⟩
  rw [hp] at h4 ⊢
  omega

/-- Only block g has turned. -/
def Oth (g : Nat) (W w : World) : Prop := w.heap.size = W.heap.size ∧ ∀ j, j ≠ g → w.heap[j]? = W.heap[j]?
theorem Oth.refl (g : Nat) (W : World) : Oth g W W := ⟨rfl, fun _ _ => rfl⟩
theorem Oth.setCell {g : Nat} {W w : World} (h : Oth g W w) (i : Nat) (u : Value) : Oth g W (w.setCell ⟨g, i, none⟩ u) := by
  refine ⟨?_, fun j hj => ?_⟩
  · show (w.heap.modify _ _).size = _
    rw [Array.size_modify]; exact h.1
  · exact (setCell_heap_other _ _ _ _ _ (Ne.symm hj)).trans (h.2 j hj)
theorem Oth.trans {g : Nat} {a b c : World} (h : Oth g a b) (k : Oth g b c) : Oth g a c := ⟨k.1.trans h.1, fun j hj => (k.2 j hj).trans (h.2 j hj)⟩
theorem Oth.drew {g : Nat} {W w : World} (h : Oth g W w) : Oth g W w.drew := h

/-- What addTimes leaves. -/
def AtEnd (W0 W : World) (g : Nat) (row l : List Nat) (y o : Nat) (e : Ending) (w : World) : Prop :=
  ∃ out c, e = .returned (.int .u64 ((c : Nat) : Int)) ∧ Bk .u64 33 w g out ∧ AtSt 18446744073709551616 row l y o l.length c out ∧ Bl W0 w ∧ Oth g W w

end Go.Proofs.Ytdoohlehglakfaa
