/-
  Plain encoding of records (layer 14): numbers by their bytes, rows, records; what is encoded is taken again, and nothing else. No program in sight.
-/
import Derived.Test.YtdaglbjdgdokpaaDoorCrM
import Derived.Test.YtdaglbjdgdokpaaDoorNtN
namespace Go.Proofs.YtdaglbjdgdokpaaDoor
set_option linter.unusedVariables false

/-- n bytes of a number, the highest one first. -/
def be : Nat → Nat → List Nat
  | 0, _ => []
  | n + 1, v => be n (v / 256) ++ [v % 256]
/-- The number of bytes. -/
def bnum (l : List Nat) : Nat := l.foldl (fun v x => 256 * v + x) 0
theorem bnum_nil : bnum [] = 0 := rfl
theorem bnum_snoc (l : List Nat) (x : Nat) : bnum (l ++ [x]) = 256 * bnum l + x := by unfold bnum; rw [List.foldl_append]; rfl
theorem be_len : ∀ n v, (be n v).length = n
  | 0, _ => rfl
  | n + 1, v => by unfold be; rw [List.length_append, be_len n]; rfl
theorem be_all : ∀ n v, All 256 (be n v)
  | 0, _ => all_nil _
  | n + 1, v => all_append (be_all n _) (all_cons (Nat.mod_lt _ (by decide)) (all_nil _))
theorem bnum_be : ∀ n v, bnum (be n v) = v % 256 ^ n
  | 0, v => by rw [Nat.pow_zero, Nat.mod_one]; rfl
  | n + 1, v => by
    unfold be
    rw [bnum_snoc, bnum_be n]
    have h := Nat.mod_mul (x := v) (a := 256) (b := 256 ^ n)
    rw [show 256 ^ (n + 1) = 256 * 256 ^ n by rw [Nat.pow_succ, Nat.mul_comm], h]
    omega
theorem bnum_lt {l : List Nat} (h : All 256 l) : bnum l < 256 ^ l.length := by
  obtain ⟨n, hn⟩ : ∃ n, l.length = n := ⟨_, rfl⟩
  induction n generalizing l with
  | zero =>
    obtain rfl := List.length_eq_zero_iff.1 hn
    decide
  | succ n ih =>
    obtain ⟨m, x, rfl⟩ : ∃ m x, l = m ++ [x] := ⟨l.dropLast, l.getLast (by intro e; rw [e] at hn; cases hn), (List.dropLast_concat_getLast _).symm⟩
    have hm : m.length = n := by rw [List.length_append] at hn; simpa using hn
    have h1 : All 256 m := fun i hi => by
      have := h i (by rw [List.length_append]; omega)
      rwa [List.getElem_append_left hi] at this
    have h2 : x < 256 := by
      have := h m.length (by rw [List.length_append]; simp)
      simpa using this
    have h3 := ih h1 hm
    rw [bnum_snoc, List.length_append, List.length_singleton, Nat.pow_succ]
    omega
theorem be_bnum {l : List Nat} (h : All 256 l) : be l.length (bnum l) = l := by
  obtain ⟨n, hn⟩ : ∃ n, l.length = n := ⟨_, rfl⟩
  induction n generalizing l with
  | zero =>
    obtain rfl := List.length_eq_zero_iff.1 hn
    rfl
  | succ n ih =>
    obtain ⟨m, x, rfl⟩ : ∃ m x, l = m ++ [x] := ⟨l.dropLast, l.getLast (by intro e; rw [e] at hn; cases hn), (List.dropLast_concat_getLast _).symm⟩
    have hm : m.length = n := by rw [List.length_append] at hn; simpa using hn
    have h1 : All 256 m := fun i hi => by
      have := h i (by rw [List.length_append]; omega)
      rwa [List.getElem_append_left hi] at this
    have h2 : x < 256 := by
      have := h m.length (by rw [List.length_append]; simp)
      simpa using this
    rw [List.length_append, List.length_singleton, bnum_snoc]
    unfold be
    rw [show (256 * bnum m + x) / 256 = bnum m by omega, show (256 * bnum m + x) % 256 = x by omega, ih h1 hm]
theorem be_small {n v : Nat} (h : v < 256 ^ n) : bnum (be n v) = v := by rw [bnum_be, Nat.mod_eq_of_lt h]

/-! ### Rows -/
/-- A row that may be: in order, and not too long. -/
def Okr (l : List Nat) : Prop := l.length ≤ 4096 ∧ Nm l
instance (l : List Nat) : Decidable (Nm l) := by unfold Nm; infer_instance
instance (l : List Nat) : Decidable (Okr l) := by unfold Okr; infer_instance
def wordsB : List Nat → List Nat
  | [] => []
  | x :: l => be 8 x ++ wordsB l
def rowB (l : List Nat) : List Nat := be 4 l.length ++ wordsB l
theorem wordsB_append (l m : List Nat) : wordsB (l ++ m) = wordsB l ++ wordsB m := by
  induction l with
  | nil => rfl
  | cons x l ih => show be 8 x ++ wordsB (l ++ m) = _; rw [ih, ← List.append_assoc]; rfl
theorem wordsB_len (l : List Nat) : (wordsB l).length = 8 * l.length := by
  induction l with
  | nil => rfl
  | cons x l ih => show (be 8 x ++ wordsB l).length = _; rw [List.length_append, be_len, ih, List.length_cons]; omega
theorem wordsB_all (l : List Nat) : All 256 (wordsB l) := by
  induction l with
  | nil => exact all_nil _
  | cons x l ih => exact all_append (be_all 8 x) ih
theorem rowB_len (l : List Nat) : (rowB l).length = 4 + 8 * l.length := by unfold rowB; rw [List.length_append, be_len, wordsB_len]
theorem rowB_all (l : List Nat) : All 256 (rowB l) := all_append (be_all 4 _) (wordsB_all l)

/-- n words at the beginning of bytes, and what stands behind; none, if there are too few. -/
def tkWords : Nat → List Nat → Option (List Nat × List Nat)
  | 0, s => some ([], s)
  | n + 1, s => if s.length < 8 then none else match tkWords n (s.drop 8) with
    | none => none
    | some (l, r) => some (bnum (s.take 8) :: l, r)
/-- A row at the beginning of bytes: the error (0: none), the row, what stands behind. -/
def tkRow (s : List Nat) : Nat × List Nat × List Nat :=
  if s.length < 4 then (5, [], []) else if 4096 < bnum (s.take 4) then (4, [], []) else
    match tkWords (bnum (s.take 4)) (s.drop 4) with
    | none => (5, [], [])
    | some (l, r) => if Nm l then (0, l, r) else (6, [], [])
theorem w8 : (256 : Nat) ^ 8 = 18446744073709551616 := by decide
theorem w4 : (256 : Nat) ^ 4 = 4294967296 := by decide
theorem tkWords_back : ∀ (l r : List Nat), All 18446744073709551616 l → tkWords l.length (wordsB l ++ r) = some (l, r) := by
  intro l r h
  induction l with
  | nil => rfl
  | cons x l ih =>
    obtain ⟨hx, hl⟩ := all_tail h
    have h8 : (be 8 x).length = 8 := be_len 8 x
    show tkWords (l.length + 1) ((be 8 x ++ wordsB l) ++ r) = _
    unfold tkWords
    rw [List.append_assoc, if_neg (by rw [List.length_append, h8]; omega), List.drop_append_of_le_length (by omega), List.drop_eq_nil_of_le (by omega), List.nil_append, ih hl, List.take_append_of_le_length (by omega), List.take_of_length_le (by omega), be_small (by rw [w8]; exact hx)]
theorem tkRow_back {l : List Nat} (r : List Nat) (h : Okr l) (ha : All 18446744073709551616 l) : tkRow (rowB l ++ r) = (0, l, r) := by
  have h4 : (be 4 l.length).length = 4 := be_len 4 _
  have e1 : (rowB l ++ r).take 4 = be 4 l.length := by
    unfold rowB
    rw [List.append_assoc, List.take_append_of_le_length (by omega), List.take_of_length_le (by omega)]
  have e2 : (rowB l ++ r).drop 4 = wordsB l ++ r := by
    unfold rowB
    rw [List.append_assoc, List.drop_append_of_le_length (by omega), List.drop_eq_nil_of_le (by omega), List.nil_append]
  have e3 : bnum (be 4 l.length) = l.length := be_small (by rw [w4]; have := h.1; omega)
  unfold tkRow
  rw [e1, e2, e3, if_neg (by rw [List.length_append, rowB_len]; omega), if_neg (by have := h.1; omega), tkWords_back l r ha]
  exact if_pos h.2
theorem all_take' {B : Nat} {l : List Nat} (h : All B l) (k : Nat) : All B (l.take k) := all_take h k
theorem all_dropc {B : Nat} {l : List Nat} (h : All B l) (k : Nat) : All B (l.drop k) := fun i hi => by
  rw [List.getElem_drop]; exact h _ _
theorem tkWords_of : ∀ (n : Nat) (s l r : List Nat), All 256 s → tkWords n s = some (l, r) → s = wordsB l ++ r ∧ l.length = n ∧ All 18446744073709551616 l := by
  intro n
  induction n with
  | zero =>
    intro s l r _ h
    injection h with h
    injection h with h1 h2
    subst h1; subst h2
    exact ⟨rfl, rfl, all_nil _⟩
  | succ n ih =>
    intro s l r ha h
    unfold tkWords at h
    by_cases hs : s.length < 8
    · rw [if_pos hs] at h; cases h
    · rw [if_neg hs] at h
      cases e : tkWords n (s.drop 8) with
      | none => rw [e] at h; cases h
      | some p =>
        obtain ⟨l', r'⟩ := p
        rw [e] at h
        injection h with h
        injection h with h1 h2
        subst h1; subst h2
        obtain ⟨i1, i2, i3⟩ := ih _ _ _ (all_dropc ha 8) e
        have h8 : (s.take 8).length = 8 := by rw [List.length_take]; omega
        have hb := be_bnum (all_take ha 8)
        rw [h8] at hb
        have hlt := bnum_lt (all_take ha 8)
        rw [h8, w8] at hlt
        refine ⟨?_, by rw [List.length_cons, i2], all_cons hlt i3⟩
        show s = (be 8 (bnum (s.take 8)) ++ wordsB l') ++ r'
        rw [hb, List.append_assoc, ← i1, List.take_append_drop]
theorem tkRow_of {s l r : List Nat} (ha : All 256 s) (h : tkRow s = (0, l, r)) : s = rowB l ++ r ∧ Okr l ∧ All 18446744073709551616 l := by
  unfold tkRow at h
  by_cases h1 : s.length < 4
  · rw [if_pos h1] at h; cases h
  · rw [if_neg h1] at h
    by_cases h2 : 4096 < bnum (s.take 4)
    · rw [if_pos h2] at h; cases h
    · rw [if_neg h2] at h
      cases e : tkWords (bnum (s.take 4)) (s.drop 4) with
      | none => rw [e] at h; cases h
      | some p =>
        obtain ⟨l', r'⟩ := p
        rw [e] at h
        dsimp only at h
        by_cases h3 : Nm l'
        · rw [if_pos h3] at h
          injection h with _ h
          injection h with h4 h5
          subst h4; subst h5
          obtain ⟨i1, i2, i3⟩ := tkWords_of _ _ _ _ (all_dropc ha 4) e
          have h4 : (s.take 4).length = 4 := by rw [List.length_take]; omega
          have hb := be_bnum (all_take ha 4)
          rw [h4] at hb
          refine ⟨?_, ⟨by omega, h3⟩, i3⟩
          unfold rowB
          rw [i2, hb, List.append_assoc, ← i1, List.take_append_drop]
        · rw [if_neg h3] at h; cases h
end Go.Proofs.YtdaglbjdgdokpaaDoor
