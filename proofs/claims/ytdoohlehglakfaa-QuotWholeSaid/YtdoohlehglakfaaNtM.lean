/-
  Numbers as rows of digits to a base, the lowest first. No program in sight.
-/
import Derived.Laws.Bits64b
import Derived.IntWalk
import Derived.Lib.Hide
namespace Go.Proofs.Ytdoohlehglakfaa
set_option linter.unusedVariables false

def val (B : Nat) : List Nat → Nat
  | [] => 0
  | x :: l => x + B * val B l
def All (B : Nat) (l : List Nat) : Prop := ∀ i (h : i < l.length), l[i] < B
/-- No 0 stands behind. -/
def Nm (l : List Nat) : Prop := ∀ h : l ≠ [], l.getLast h ≠ 0
def digF (B : Nat) : Nat → Nat → List Nat
  | 0, _ => []
  | f + 1, n => if n = 0 then [] else n % B :: digF B f (n / B)
def dig (B n : Nat) : List Nat := digF B n n

theorem digF_more (B : Nat) (hB : 2 ≤ B) : ∀ f n, n ≤ f → ∀ g, n ≤ g → digF B f n = digF B g n := by
  intro f
  induction f with
  | zero =>
    intro n hn g hg
    have : n = 0 := by omega
    subst this
    cases g with
    | zero => rfl
    | succ g => simp [digF]
  | succ f ih =>
    intro n hn g hg
    by_cases h : n = 0
    · subst h
      cases g with
      | zero => simp [digF]
      | succ g => simp [digF]
    · cases g with
      | zero => omega
      | succ g =>
        have hd : n / B < n := Nat.div_lt_self (by omega) (by omega)
        simp only [digF, if_neg h]
        rw [ih (n / B) (by omega) g (by omega)]
theorem dig_zero (B : Nat) : dig B 0 = [] := rfl
theorem dig_pos (B n : Nat) (hB : 2 ≤ B) (hn : 0 < n) : dig B n = n % B :: dig B (n / B) := by
  unfold dig
  cases n with
  | zero => omega
  | succ m =>
    have hd : (m + 1) / B < m + 1 := Nat.div_lt_self (by omega) (by omega)
    simp only [digF, if_neg (Nat.succ_ne_zero m)]
    rw [digF_more B hB m _ (by omega) _ (Nat.le_refl _)]
theorem val_dig (B : Nat) (hB : 2 ≤ B) : ∀ n, val B (dig B n) = n := by
  intro n
  induction n using Nat.strongRecOn with
  | ind n ih =>
    by_cases h : n = 0
    · subst h; rfl
    · rw [dig_pos B n hB (by omega)]
      show n % B + B * val B (dig B (n / B)) = n
      rw [ih (n / B) (Nat.div_lt_self (by omega) (by omega))]
      exact Nat.mod_add_div n B
theorem all_nil (B : Nat) : All B [] := fun i h => absurd h (by simp)
theorem all_cons {B x : Nat} {l : List Nat} (hx : x < B) (h : All B l) : All B (x :: l) := by
  intro i hi
  cases i with
  | zero => exact hx
  | succ i => exact h i (by simpa using hi)
theorem all_tail {B x : Nat} {l : List Nat} (h : All B (x :: l)) : x < B ∧ All B l :=
  ⟨h 0 (by simp), fun i hi => h (i + 1) (by simpa using hi)⟩
theorem all_dig (B : Nat) (hB : 2 ≤ B) : ∀ n, All B (dig B n) := by
  intro n
  induction n using Nat.strongRecOn with
  | ind n ih =>
    by_cases h : n = 0
    · subst h; exact all_nil B
    · rw [dig_pos B n hB (by omega)]
      exact all_cons (Nat.mod_lt _ (by omega)) (ih (n / B) (Nat.div_lt_self (by omega) (by omega)))
theorem nm_nil : Nm [] := fun h => absurd rfl h
theorem nm_one {x : Nat} (h : x ≠ 0) : Nm [x] := fun _ => h
theorem nm_cons {x : Nat} {l : List Nat} (hl : l ≠ []) (h : Nm l) : Nm (x :: l) := by
  intro h'
  rw [List.getLast_cons hl]
  exact h hl
theorem nm_tail {x : Nat} {l : List Nat} (h : Nm (x :: l)) : Nm l := by
  intro hl
  have := h (by simp)
  rwa [List.getLast_cons hl] at this
theorem dig_ne (B n : Nat) (hB : 2 ≤ B) (hn : 0 < n) : dig B n ≠ [] := by rw [dig_pos B n hB hn]; simp
theorem nm_dig (B : Nat) (hB : 2 ≤ B) : ∀ n, Nm (dig B n) := by
  intro n
  induction n using Nat.strongRecOn with
  | ind n ih =>
    by_cases h : n = 0
    · subst h; exact nm_nil
    · rw [dig_pos B n hB (by omega)]
      by_cases h2 : n / B = 0
      · rw [h2, dig_zero]
        refine nm_one ?_
        have := Nat.mod_add_div n B
        rw [h2, Nat.mul_zero] at this
        omega
      · exact nm_cons (dig_ne B _ hB (Nat.pos_of_ne_zero h2)) (ih (n / B) (Nat.div_lt_self (by omega) (by omega)))
theorem val_zero_nm (B : Nat) (hB : 2 ≤ B) : ∀ l, Nm l → val B l = 0 → l = [] := by
  intro l
  induction l with
  | nil => intros; rfl
  | cons x l ih =>
    intro hn hv
    have hv' : x + B * val B l = 0 := hv
    have hx : x = 0 := by omega
    have hl : val B l = 0 := by
      rcases Nat.eq_zero_or_pos (val B l) with h | h
      · exact h
      · have := Nat.mul_pos (show 0 < B by omega) h; omega
    have e := ih (nm_tail hn) hl
    subst e
    have := hn (by simp)
    simp [hx] at this
theorem dig_val (B : Nat) (hB : 2 ≤ B) : ∀ l, All B l → Nm l → dig B (val B l) = l := by
  intro l
  induction l with
  | nil => intros; rfl
  | cons x l ih =>
    intro ha hn
    obtain ⟨hx, hl⟩ := all_tail ha
    have hv : val B (x :: l) = x + B * val B l := rfl
    by_cases h : val B (x :: l) = 0
    · rw [val_zero_nm B hB _ hn h]; rfl
    · rw [dig_pos B _ hB (by omega), hv, Nat.add_mul_mod_self_left, Nat.mod_eq_of_lt hx, Nat.add_mul_div_left _ _ (by omega), Nat.div_eq_of_lt hx, Nat.zero_add, ih hl (nm_tail hn)]
theorem val_append (B : Nat) : ∀ l m, val B (l ++ m) = val B l + B ^ l.length * val B m := by
  intro l m
  induction l with
  | nil => simp [val]
  | cons x l ih =>
    show x + B * val B (l ++ m) = x + B * val B l + B ^ (l.length + 1) * val B m
    rw [ih, Nat.mul_add, Nat.pow_succ, ← Nat.mul_assoc, Nat.mul_comm (B ^ l.length) B, Nat.add_assoc]
theorem val_one (B x : Nat) : val B [x] = x := by simp [val]
theorem val_lt (B : Nat) (hB : 0 < B) : ∀ l, All B l → val B l < B ^ l.length := by
  intro l
  induction l with
  | nil => intro _; simp [val]
  | cons x l ih =>
    intro ha
    obtain ⟨hx, hl⟩ := all_tail ha
    have h1 := ih hl
    show x + B * val B l < B ^ (l.length + 1)
    rw [Nat.pow_succ, Nat.mul_comm _ B]
    have h2 : B * (val B l + 1) ≤ B * B ^ l.length := Nat.mul_le_mul_left B h1
    rw [Nat.mul_add] at h2
    omega
theorem val_take_succ (B : Nat) (l : List Nat) (k : Nat) (h : k < l.length) : val B (l.take (k + 1)) = val B (l.take k) + B ^ k * l[k] := by
  rw [List.take_succ_eq_append_getElem h, val_append, val_one, List.length_take, Nat.min_eq_left (by omega)]
theorem all_take {B : Nat} {l : List Nat} (h : All B l) (k : Nat) : All B (l.take k) := by
  intro i hi
  rw [List.getElem_take]
  exact h i (by simp at hi; omega)
theorem all_append {B : Nat} {l m : List Nat} (h : All B l) (h' : All B m) : All B (l ++ m) := by
  intro i hi
  rw [List.getElem_append]
  split
  · exact h _ _
  · exact h' _ _
theorem all_snoc {B x : Nat} {l : List Nat} (h : All B l) (hx : x < B) : All B (l ++ [x]) := all_append h (all_cons hx (all_nil B))

/-! ### Noughts behind are cut off -/
def Zr (l : List Nat) (n : Nat) : Prop := n ≤ l.length ∧ ∀ i (h : i < l.length), n ≤ i → l[i] = 0
theorem zr_start (l : List Nat) : Zr l l.length := ⟨Nat.le_refl _, fun i h h' => by omega⟩
theorem zr_step {l : List Nat} {n : Nat} (h : Zr l (n + 1)) (hn : n < l.length) (h0 : l[n] = 0) : Zr l n := by
  refine ⟨by omega, fun i hi hni => ?_⟩
  by_cases e : i = n
  · subst e; exact h0
  · exact h.2 i hi (by omega)
theorem zr_val (B : Nat) {l : List Nat} {n : Nat} (h : Zr l n) : val B (l.take n) = val B l := by
  have key : ∀ k, n + k ≤ l.length → val B (l.take (n + k)) = val B (l.take n) := by
    intro k
    induction k with
    | zero => intro _; rfl
    | succ k ih =>
      intro hk
      rw [← Nat.add_assoc, val_take_succ B l (n + k) (by omega), ih (by omega), h.2 (n + k) (by omega) (by omega), Nat.mul_zero, Nat.add_zero]
  have := key (l.length - n) (by have := h.1; omega)
  rw [Nat.add_sub_cancel' h.1, List.take_length] at this
  exact this.symm
theorem nm_take {l : List Nat} {n : Nat} (hn : n ≤ l.length) (h : n = 0 ∨ ∃ h' : n - 1 < l.length, l[n - 1] ≠ 0) : Nm (l.take n) := by
  intro hne
  rcases h with rfl | ⟨h', hx⟩
  · simp at hne
  · rw [List.getLast_eq_getElem]
    simp only [List.length_take, Nat.min_eq_left hn, List.getElem_take]
    exact hx
/-- What Trim leaves. -/
theorem trim_eq (B : Nat) (hB : 2 ≤ B) {l : List Nat} {n : Nat} (ha : All B l) (h : Zr l n) (hl : n = 0 ∨ ∃ h' : n - 1 < l.length, l[n - 1] ≠ 0) : l.take n = dig B (val B l) := by
  rw [← zr_val B h, dig_val B hB _ (all_take ha n) (nm_take h.1 hl)]
theorem dig_len_le (B : Nat) (hB : 2 ≤ B) (l : List Nat) (ha : All B l) : (dig B (val B l)).length ≤ l.length := by
  have key : ∀ k, ∀ l : List Nat, l.length = k → All B l → (dig B (val B l)).length ≤ k := by
    intro k
    induction k with
    | zero =>
      intro l hl _
      have : l = [] := List.length_eq_zero_iff.1 hl
      subst this
      simp [val, dig_zero]
    | succ k ih =>
      intro l hl ha
      cases l with
      | nil => simp at hl
      | cons x l =>
        obtain ⟨hx, hl'⟩ := all_tail ha
        by_cases h : val B (x :: l) = 0
        · rw [h, dig_zero]; simp
        · have hv : val B (x :: l) = x + B * val B l := rfl
          rw [dig_pos B _ hB (by omega), hv, Nat.add_mul_div_left _ _ (by omega), Nat.div_eq_of_lt hx, Nat.zero_add]
          have := ih l (by simpa using hl) hl'
          simp only [List.length_cons]
          omega
  exact key _ l rfl ha
end Go.Proofs.Ytdoohlehglakfaa
