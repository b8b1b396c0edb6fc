/-
  Rows of digits: each digit told by the number; lengths; rows to the base 2^16 and to the base 2^64. No program in sight. · Plain encoding of records (layer 14): numbers by their bytes, rows, records; what is encoded is taken again, and nothing else. No program in sight.
-/
import Derived.Test.YtdaglbjdgdokpaaDoorPk1
import Derived.Test.YtdaglbjdgdokpaaDoorPk3
namespace Go.Proofs.YtdaglbjdgdokpaaDoor
set_option linter.unusedVariables false

theorem val_take_drop (B : Nat) (hB : 0 < B) (l : List Nat) (ha : All B l) (k : Nat) (hk : k ≤ l.length) : val B (l.take k) = val B l % B ^ k ∧ val B (l.drop k) = val B l / B ^ k := by
  have e : val B l = val B (l.take k) + B ^ k * val B (l.drop k) := by
    have h := val_append B (l.take k) (l.drop k)
    rw [List.take_append_drop, List.length_take, Nat.min_eq_left hk] at h
    exact h
  have hlt : val B (l.take k) < B ^ k := by
    have h := val_lt B hB (l.take k) (all_take ha k)
    rwa [List.length_take, Nat.min_eq_left hk] at h
  have hp : 0 < B ^ k := Nat.pow_pos hB
  constructor
  · rw [e, Nat.add_mul_mod_self_left, Nat.mod_eq_of_lt hlt]
  · rw [e, Nat.add_mul_div_left _ _ hp, Nat.div_eq_of_lt hlt, Nat.zero_add]
theorem get_val (B : Nat) (hB : 0 < B) (l : List Nat) (ha : All B l) (i : Nat) (hi : i < l.length) : l[i] = val B l / B ^ i % B := by
  rw [← (val_take_drop B hB l ha i (by omega)).2, List.drop_eq_getElem_cons hi]
  show l[i] = (l[i] + B * val B (l.drop (i + 1))) % B
  rw [Nat.add_mul_mod_self_left, Nat.mod_eq_of_lt (ha i hi)]
theorem dig_get (B : Nat) (hB : 2 ≤ B) (n i : Nat) (hi : i < (dig B n).length) : (dig B n)[i] = n / B ^ i % B := by
  rw [get_val B (by omega) (dig B n) (all_dig B hB n) i hi, val_dig B hB]
theorem dig_lt (B : Nat) (hB : 2 ≤ B) (n : Nat) : n < B ^ (dig B n).length := by
  have h := val_lt B (by omega) (dig B n) (all_dig B hB n)
  rwa [val_dig B hB] at h
theorem dig_len_pos (B : Nat) (hB : 2 ≤ B) (n : Nat) (hn : 0 < n) : 0 < (dig B n).length := List.length_pos_iff.2 (dig_ne B n hB hn)
theorem dig_ge (B : Nat) (hB : 2 ≤ B) (n : Nat) (hn : 0 < n) : B ^ ((dig B n).length - 1) ≤ n := by
  have hl := dig_len_pos B hB n hn
  have h := nm_dig B hB n (dig_ne B n hB hn)
  rw [List.getLast_eq_getElem, dig_get B hB n _ (by omega)] at h
  rcases Nat.lt_or_ge n (B ^ ((dig B n).length - 1)) with h1 | h1
  · rw [Nat.div_eq_of_lt h1, Nat.zero_mod] at h; exact absurd rfl h
  · exact h1
theorem dig_len_of_lt (B : Nat) (hB : 2 ≤ B) (n k : Nat) (h : n < B ^ k) : (dig B n).length ≤ k := by
  rcases Nat.eq_zero_or_pos n with e | e
  · subst e; rw [dig_zero]; exact Nat.zero_le _
  · have h1 := dig_ge B hB n e
    rcases Nat.lt_or_ge k (dig B n).length with h2 | h2
    · have := Nat.pow_le_pow_right (show 0 < B by omega) (show k ≤ (dig B n).length - 1 by omega)
      omega
    · exact h2
/-- The row of L digits. -/
def rowf (L : Nat) (f : Nat → Nat) : List Nat := (List.range L).map f
theorem rowf_length (L : Nat) (f : Nat → Nat) : (rowf L f).length = L := by simp [rowf]
theorem rowf_get (L : Nat) (f : Nat → Nat) (i : Nat) (hi : i < (rowf L f).length) : (rowf L f)[i] = f i := by simp [rowf]
theorem rowf_succ (L : Nat) (f : Nat → Nat) : rowf (L + 1) f = rowf L f ++ [f L] := by simp [rowf, List.range_succ]
theorem rowf_ext {L : Nat} {l : List Nat} {f : Nat → Nat} (h : l.length = L) (hf : ∀ i (hi : i < l.length), l[i] = f i) : l = rowf L f :=
  List.ext_getElem (by rw [rowf_length]; exact h) fun i h1 h2 => by rw [hf i h1, rowf_get]
theorem rowf_congr {L : Nat} {f g : Nat → Nat} (h : ∀ i, i < L → f i = g i) : rowf L f = rowf L g :=
  rowf_ext (rowf_length L f) fun i hi => by rw [rowf_get]; exact h i (by rw [rowf_length] at hi; exact hi)
theorem rowf_set (L : Nat) (f g : Nat → Nat) (q v : Nat) (hv : v = g q) (h : ∀ i, i ≠ q → f i = g i) : (rowf L f).set q v = rowf L g := by
  refine rowf_ext (by rw [List.length_set, rowf_length]) fun i hi => ?_
  rw [List.getElem_set]
  split
  · rename_i e; rw [← e]; exact hv
  · rename_i e; rw [rowf_get]; exact h i (fun h' => e h'.symm)
theorem rowf_zero (L : Nat) : rowf L (fun _ => 0) = List.replicate L 0 := by
  refine (rowf_ext (by simp) fun i hi => by simp).symm
theorem rowf_val (B n : Nat) (hB : 2 ≤ B) : ∀ L, val B (rowf L fun q => n / B ^ q % B) = n % B ^ L := by
  intro L
  induction L with
  | zero => simp [rowf, val, Nat.mod_one]
  | succ L ih => rw [rowf_succ, val_append, val_one, ih, rowf_length, Nat.pow_succ, Nat.mod_mul]
theorem dig_of_len (B : Nat) (hB : 2 ≤ B) (n L : Nat) (hlt : n < B ^ L) (hge : L = 0 ∨ B ^ (L - 1) ≤ n) : dig B n = rowf L fun q => n / B ^ q % B := by
  have hv := rowf_val B n hB L
  rw [Nat.mod_eq_of_lt hlt] at hv
  have ha : All B (rowf L fun q => n / B ^ q % B) := fun i hi => by rw [rowf_get]; exact Nat.mod_lt _ (by omega)
  have hn : Nm (rowf L fun q => n / B ^ q % B) := by
    intro hne
    rcases hge with h | h
    · subst h; exact absurd rfl hne
    · rw [List.getLast_eq_getElem, rowf_get, rowf_length]
      have hL : L ≠ 0 := by intro e; subst e; exact hne rfl
      have hp : 0 < B ^ (L - 1) := Nat.pow_pos (by omega)
      have h1 : n / B ^ (L - 1) < B := by
        rw [Nat.div_lt_iff_lt_mul hp, Nat.mul_comm, ← Nat.pow_succ]
        rwa [show (L - 1).succ = L from by omega]
      rw [Nat.mod_eq_of_lt h1]
      have := Nat.div_pos h hp
      omega
  have := dig_val B hB _ ha hn
  rwa [hv] at this

/-! ### Digits of 16 bits and words of 64 -/
theorem two_pow16 (k : Nat) : (65536 : Nat) ^ k = 2 ^ (16 * k) := by rw [Nat.pow_mul]
theorem w64_pow (q : Nat) : (18446744073709551616 : Nat) ^ q = 65536 ^ (4 * q) := by rw [Nat.pow_mul]
/-- A word, of whose digits those from j on are there. -/
def wq (x j q : Nat) : Nat := x % 65536 ^ (4 * q + 4) / 65536 ^ (max j (4 * q))
theorem wq_start (x m q : Nat) (hm : x < 65536 ^ m) : wq x m q = 0 := by
  unfold wq
  refine Nat.div_eq_of_lt (Nat.lt_of_le_of_lt (Nat.mod_le _ _) (Nat.lt_of_lt_of_le hm (Nat.pow_le_pow_right (by decide) (Nat.le_max_left _ _))))
theorem wq_other (x i q : Nat) (h : i / 4 ≠ q) : wq x (i + 1) q = wq x i q := by
  unfold wq
  rcases Nat.lt_or_gt_of_ne h with h | h
  · rw [Nat.max_eq_right (by omega), Nat.max_eq_right (by omega)]
  · have hlt : x % 65536 ^ (4 * q + 4) < 65536 ^ (4 * q + 4) := Nat.mod_lt _ (Nat.pow_pos (by decide))
    rw [Nat.div_eq_of_lt (Nat.lt_of_lt_of_le hlt (Nat.pow_le_pow_right (by decide) (by omega))), Nat.div_eq_of_lt (Nat.lt_of_lt_of_le hlt (Nat.pow_le_pow_right (by decide) (by omega)))]
theorem mod_pow_digit (B x a i : Nat) (hB : 0 < B) (h : i < a) : x % B ^ a / B ^ i % B = x / B ^ i % B := by
  obtain ⟨d, rfl⟩ : ∃ d, a = i + (1 + d) := ⟨a - i - 1, by omega⟩
  rw [Nat.pow_add, Nat.mod_mul_right_div_self, Nat.pow_add, Nat.pow_one, Nat.mod_mul_right_mod]
theorem wq_step (x i q : Nat) (h : i / 4 = q) : 65536 * wq x (i + 1) q + x / 65536 ^ i % 65536 = wq x i q := by
  unfold wq
  rw [Nat.max_eq_left (by omega), Nat.max_eq_left (by omega), ← mod_pow_digit 65536 x (4 * q + 4) i (by decide) (by omega)]
  generalize x % 65536 ^ (4 * q + 4) = X
  rw [Nat.pow_succ, ← Nat.div_div_eq_div_mul]
  exact Nat.div_add_mod _ _
theorem wq_end (x q : Nat) : wq x 0 q = x / 18446744073709551616 ^ q % 18446744073709551616 := by
  unfold wq
  rw [Nat.max_eq_right (by omega), w64_pow, Nat.pow_add, Nat.mod_mul_right_div_self]
theorem wq_lt (x j q : Nat) : wq x j q < 18446744073709551616 := by
  unfold wq
  have h1 : x % 65536 ^ (4 * q + 4) / 65536 ^ (max j (4 * q)) ≤ x % 65536 ^ (4 * q + 4) / 65536 ^ (4 * q) := Nat.div_le_div_left (Nat.pow_le_pow_right (by decide) (Nat.le_max_right _ _)) (Nat.pow_pos (by decide))
  rw [Nat.pow_add (a := 65536) (m := 4 * q) (n := 4), Nat.mod_mul_right_div_self] at h1
  have h2 : x / 65536 ^ (4 * q) % 65536 ^ 4 < 65536 ^ 4 := Nat.mod_lt _ (by decide)
  rw [Nat.pow_add]
  exact Nat.lt_of_le_of_lt h1 h2
theorem words_end (x : Nat) : rowf (((dig 65536 x).length + 3) / 4) (wq x 0) = dig 18446744073709551616 x := by
  have e : rowf (((dig 65536 x).length + 3) / 4) (wq x 0) = rowf (((dig 65536 x).length + 3) / 4) fun q => x / 18446744073709551616 ^ q % 18446744073709551616 := rowf_congr fun i _ => wq_end x i
  rw [e]
  refine (dig_of_len _ (by decide) x _ ?_ ?_).symm
  · rw [w64_pow]
    exact Nat.lt_of_lt_of_le (dig_lt 65536 (by decide) x) (Nat.pow_le_pow_right (by decide) (by omega))
  · rcases Nat.eq_zero_or_pos x with h | h
    · subst h; exact Or.inl rfl
    · refine Or.inr ?_
      have hl := dig_len_pos 65536 (by decide) x h
      rw [w64_pow]
      exact Nat.le_trans (Nat.pow_le_pow_right (by decide) (by omega)) (dig_ge 65536 (by decide) x h)
end Go.Proofs.YtdaglbjdgdokpaaDoor
namespace Go.Proofs.YtdaglbjdgdokpaaDoor
set_option linter.unusedVariables false

/-- n bytes of a number, the highest one first. -/
def be : Nat → Nat → List Nat
  | 0, _ => []
  | n + 1, v => be n (v / 256) ++ [v % 256]
/-- The number of bytes. -/
def bnum (l : List Nat) : Nat := l.foldl (fun v x => 256 * v + x) 0
theorem bnum_nil : bnum [] = 0 := rfl
theorem bnum_snoc (l : List Nat) (x : Nat) : bnum (l ++ [x]) = 256 * bnum l + x := by unfold bnum; rw [List.foldl_append]; rfl
theorem be_len : ∀ n v, (be n v).length = n
  | 0, _ => rfl
  | n + 1, v => by unfold be; rw [List.length_append, be_len n]; rfl
theorem be_all : ∀ n v, All 256 (be n v)
  | 0, _ => all_nil _
  | n + 1, v => all_append (be_all n _) (all_cons (Nat.mod_lt _ (by decide)) (all_nil _))
theorem bnum_be : ∀ n v, bnum (be n v) = v % 256 ^ n
  | 0, v => by rw [Nat.pow_zero, Nat.mod_one]; rfl
  | n + 1, v => by
    unfold be
    rw [bnum_snoc, bnum_be n]
    have h := Nat.mod_mul (x := v) (a := 256) (b := 256 ^ n)
    rw [show 256 ^ (n + 1) = 256 * 256 ^ n by rw [Nat.pow_succ, Nat.mul_comm], h]
    omega
theorem bnum_lt {l : List Nat} (h : All 256 l) : bnum l < 256 ^ l.length := by
  obtain ⟨n, hn⟩ : ∃ n, l.length = n := ⟨_, rfl⟩
  induction n generalizing l with
  | zero =>
    obtain rfl := List.length_eq_zero_iff.1 hn
    decide
  | succ n ih =>
    obtain ⟨m, x, rfl⟩ : ∃ m x, l = m ++ [x] := ⟨l.dropLast, l.getLast (by intro e; rw [e] at hn; cases hn), (List.dropLast_concat_getLast _).symm⟩
    have hm : m.length = n := by rw [List.length_append] at hn; simpa using hn
    have h1 : All 256 m := fun i hi => by
      have := h i (by rw [List.length_append]; omega)
      rwa [List.getElem_append_left hi] at this
    have h2 : x < 256 := by
      have := h m.length (by rw [List.length_append]; simp)
      simpa using this
    have h3 := ih h1 hm
    rw [bnum_snoc, List.length_append, List.length_singleton, Nat.pow_succ]
    omega
theorem be_bnum {l : List Nat} (h : All 256 l) : be l.length (bnum l) = l := by
  obtain ⟨n, hn⟩ : ∃ n, l.length = n := ⟨_, rfl⟩
  induction n generalizing l with
  | zero =>
    obtain rfl := List.length_eq_zero_iff.1 hn
    rfl
  | succ n ih =>
    obtain ⟨m, x, rfl⟩ : ∃ m x, l = m ++ [x] := ⟨l.dropLast, l.getLast (by intro e; rw [e] at hn; cases hn), (List.dropLast_concat_getLast _).symm⟩
    have hm : m.length = n := by rw [List.length_append] at hn; simpa using hn
    have h1 : All 256 m := fun i hi => by
      have := h i (by rw [List.length_append]; omega)
      rwa [List.getElem_append_left hi] at this
    have h2 : x < 256 := by
      have := h m.length (by rw [List.length_append]; simp)
      simpa using this
    rw [List.length_append, List.length_singleton, bnum_snoc]
    unfold be
    rw [show (256 * bnum m + x) / 256 = bnum m by omega, show (256 * bnum m + x) % 256 = x by omega, ih h1 hm]
theorem be_small {n v : Nat} (h : v < 256 ^ n) : bnum (be n v) = v := by rw [bnum_be, Nat.mod_eq_of_lt h]

/-! ### Rows -/
/-- A row that may be: in order, and not too long. -/
def Okr (l : List Nat) : Prop := l.length ≤ 4096 ∧ Nm l
instance (l : List Nat) : Decidable (Nm l) := by unfold Nm; infer_instance
instance (l : List Nat) : Decidable (Okr l) := by unfold Okr; infer_instance
def wordsB : List Nat → List Nat
  | [] => []
  | x :: l => be 8 x ++ wordsB l
def rowB (l : List Nat) : List Nat := be 4 l.length ++ wordsB l
theorem wordsB_append (l m : List Nat) : wordsB (l ++ m) = wordsB l ++ wordsB m := by
  induction l with
  | nil => rfl
  | cons x l ih => show be 8 x ++ wordsB (l ++ m) = _; rw [ih, ← List.append_assoc]; rfl
theorem wordsB_len (l : List Nat) : (wordsB l).length = 8 * l.length := by
  induction l with
  | nil => rfl
  | cons x l ih => show (be 8 x ++ wordsB l).length = _; rw [List.length_append, be_len, ih, List.length_cons]; omega
theorem wordsB_all (l : List Nat) : All 256 (wordsB l) := by
  induction l with
  | nil => exact all_nil _
  | cons x l ih => exact all_append (be_all 8 x) ih
theorem rowB_len (l : List Nat) : (rowB l).length = 4 + 8 * l.length := by unfold rowB; rw [List.length_append, be_len, wordsB_len]
theorem rowB_all (l : List Nat) : All 256 (rowB l) := all_append (be_all 4 _) (wordsB_all l)

/-- n words at the beginning of bytes, and what stands behind; none, if there are too few. -/
def tkWords : Nat → List Nat → Option (List Nat × List Nat)
  | 0, s => some ([], s)
  | n + 1, s => if s.length < 8 then none else match tkWords n (s.drop 8) with
    | none => none
    | some (l, r) => some (bnum (s.take 8) :: l, r)
/-- A row at the beginning of bytes: the error (0: none), the row, what stands behind. -/
def tkRow (s : List Nat) : Nat × List Nat × List Nat :=
  if s.length < 4 then (5, [], []) else if 4096 < bnum (s.take 4) then (4, [], []) else
    match tkWords (bnum (s.take 4)) (s.drop 4) with
    | none => (5, [], [])
    | some (l, r) => if Nm l then (0, l, r) else (6, [], [])
theorem w8 : (256 : Nat) ^ 8 = 18446744073709551616 := by decide
theorem w4 : (256 : Nat) ^ 4 = 4294967296 := by decide
theorem tkWords_back : ∀ (l r : List Nat), All 18446744073709551616 l → tkWords l.length (wordsB l ++ r) = some (l, r) := by
  intro l r h
  induction l with
  | nil => rfl
  | cons x l ih =>
    obtain ⟨hx, hl⟩ := all_tail h
    have h8 : (be 8 x).length = 8 := be_len 8 x
    show tkWords (l.length + 1) ((be 8 x ++ wordsB l) ++ r) = _
    unfold tkWords
    rw [List.append_assoc, if_neg (by rw [List.length_append, h8]; omega), List.drop_append_of_le_length (by omega), List.drop_eq_nil_of_le (by omega), List.nil_append, ih hl, List.take_append_of_le_length (by omega), List.take_of_length_le (by omega), be_small (by rw [w8]; exact hx)]
theorem tkRow_back {l : List Nat} (r : List Nat) (h : Okr l) (ha : All 18446744073709551616 l) : tkRow (rowB l ++ r) = (0, l, r) := by
  have h4 : (be 4 l.length).length = 4 := be_len 4 _
  have e1 : (rowB l ++ r).take 4 = be 4 l.length := by
    unfold rowB
    rw [List.append_assoc, List.take_append_of_le_length (by omega), List.take_of_length_le (by omega)]
  have e2 : (rowB l ++ r).drop 4 = wordsB l ++ r := by
    unfold rowB
    rw [List.append_assoc, List.drop_append_of_le_length (by omega), List.drop_eq_nil_of_le (by omega), List.nil_append]
  have e3 : bnum (be 4 l.length) = l.length := be_small (by rw [w4]; have := h.1; omega)
  unfold tkRow
  rw [e1, e2, e3, if_neg (by rw [List.length_append, rowB_len]; omega), if_neg (by have := h.1; omega), tkWords_back l r ha]
  exact if_pos h.2
theorem all_take' {B : Nat} {l : List Nat} (h : All B l) (k : Nat) : All B (l.take k) := all_take h k
theorem all_dropc {B : Nat} {l : List Nat} (h : All B l) (k : Nat) : All B (l.drop k) := fun i hi => by
  rw [List.getElem_drop]; exact h _ _
theorem tkWords_of : ∀ (n : Nat) (s l r : List Nat), All 256 s → tkWords n s = some (l, r) → s = wordsB l ++ r ∧ l.length = n ∧ All 18446744073709551616 l := by
  intro n
  induction n with
  | zero =>
    intro s l r _ h
    injection h with h
    injection h with h1 h2
    subst h1; subst h2
    exact ⟨rfl, rfl, all_nil _⟩
  | succ n ih =>
    intro s l r ha h
    unfold tkWords at h
    by_cases hs : s.length < 8
    · rw [if_pos hs] at h; cases h
    · rw [if_neg hs] at h
      cases e : tkWords n (s.drop 8) with
      | none => rw [e] at h; cases h
      | some p =>
        obtain ⟨l', r'⟩ := p
        rw [e] at h
        injection h with h
        injection h with h1 h2
        subst h1; subst h2
        obtain ⟨i1, i2, i3⟩ := ih _ _ _ (all_dropc ha 8) e
        have h8 : (s.take 8).length = 8 := by rw [List.length_take]; omega
        have hb := be_bnum (all_take ha 8)
        rw [h8] at hb
        have hlt := bnum_lt (all_take ha 8)
        rw [h8, w8] at hlt
        refine ⟨?_, by rw [List.length_cons, i2], all_cons hlt i3⟩
        show s = (be 8 (bnum (s.take 8)) ++ wordsB l') ++ r'
        rw [hb, List.append_assoc, ← i1, List.take_append_drop]
theorem tkRow_of {s l r : List Nat} (ha : All 256 s) (h : tkRow s = (0, l, r)) : s = rowB l ++ r ∧ Okr l ∧ All 18446744073709551616 l := by
  unfold tkRow at h
  by_cases h1 : s.length < 4
  · rw [if_pos h1] at h; cases h
  · rw [if_neg h1] at h
    by_cases h2 : 4096 < bnum (s.take 4)
    · rw [if_pos h2] at h; cases h
    · rw [if_neg h2] at h
      cases e : tkWords (bnum (s.take 4)) (s.drop 4) with
      | none => rw [e] at h; cases h
      | some p =>
        obtain ⟨l', r'⟩ := p
        rw [e] at h
        dsimp only at h
        by_cases h3 : Nm l'
        · rw [if_pos h3] at h
          injection h with _ h
          injection h with h4 h5
          subst h4; subst h5
          obtain ⟨i1, i2, i3⟩ := tkWords_of _ _ _ _ (all_dropc ha 4) e
          have h4 : (s.take 4).length = 4 := by rw [List.length_take]; omega
          have hb := be_bnum (all_take ha 4)
          rw [h4] at hb
          refine ⟨?_, ⟨by omega, h3⟩, i3⟩
          unfold rowB
          rw [i2, hb, List.append_assoc, ← i1, List.take_append_drop]
        · rw [if_neg h3] at h; cases h
end Go.Proofs.YtdaglbjdgdokpaaDoor
