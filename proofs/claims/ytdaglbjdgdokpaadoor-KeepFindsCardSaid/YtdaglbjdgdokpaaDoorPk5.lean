/-
  Plain encoding of whole records (layer 14): what is encoded is taken again, and nothing else. No program in sight.
-/
import Derived.Test.YtdaglbjdgdokpaaDoorPk4
namespace Go.Proofs.YtdaglbjdgdokpaaDoor
set_option linter.unusedVariables false

/-- A record. -/
structure Rc where
  con : Int
  dgs : Int
  gua : Int
  frm : Int
  til : Int
  p : List Nat
  q : List Nat
  t : List Nat
  minus : Bool
def rc0 : Rc := ⟨0, 0, 0, 0, 0, [], [], [], false⟩
/-- A number from 0 to 2^31 - 1. -/
def Sm (n : Int) : Prop := 0 ≤ n ∧ n ≤ 2147483647
instance (n : Int) : Decidable (Sm n) := by unfold Sm; infer_instance
/-- A record that may be. -/
def Rc.May (r : Rc) : Prop := ((Sm r.dgs ∧ Sm r.gua ∧ Sm r.frm ∧ Sm r.til) ∧ (Okr r.p ∧ Okr r.q ∧ Okr r.t) ∧ 0 ≤ r.con ∧ r.con ≤ 255)
instance (r : Rc) : Decidable r.May := by unfold Rc.May; infer_instance
/-- Its rows are of words. -/
def Rc.Wd (r : Rc) : Prop := All 18446744073709551616 r.p ∧ All 18446744073709551616 r.q ∧ All 18446744073709551616 r.t
def sgn (b : Bool) : Nat := if b then 1 else 0
def headB (r : Rc) : List Nat := be 1 r.con.toNat ++ (be 4 r.dgs.toNat ++ (be 4 r.gua.toNat ++ (be 4 r.frm.toNat ++ (be 4 r.til.toNat ++ be 1 (sgn r.minus)))))
def rowsB (r : Rc) : List Nat := rowB r.p ++ (rowB r.q ++ rowB r.t)
def taly : List Nat := [84, 65, 76, 89]
def bodyB (r : Rc) : List Nat := taly ++ (headB r ++ rowsB r)
def encB (r : Rc) : List Nat := bodyB r ++ be 4 (crSum (bodyB r))
theorem headB_len (r : Rc) : (headB r).length = 18 := by unfold headB; simp only [List.length_append, be_len]
theorem rowsB_len (r : Rc) : (rowsB r).length = 12 + 8 * (r.p.length + r.q.length + r.t.length) := by unfold rowsB; simp only [List.length_append, rowB_len]; omega
theorem bodyB_len (r : Rc) : (bodyB r).length = 34 + 8 * (r.p.length + r.q.length + r.t.length) := by
  unfold bodyB
  rw [List.length_append, List.length_append, headB_len, rowsB_len, show taly.length = 4 from rfl]; omega
theorem encB_len (r : Rc) : (encB r).length = 38 + 8 * (r.p.length + r.q.length + r.t.length) := by
  unfold encB
  rw [List.length_append, bodyB_len, be_len]; omega
theorem taly_all : All 256 taly := all_cons (by decide) (all_cons (by decide) (all_cons (by decide) (all_cons (by decide) (all_nil _))))
theorem bodyB_all (r : Rc) : All 256 (bodyB r) := by
  unfold bodyB headB rowsB
  refine all_append taly_all (all_append ?_ (all_append (rowB_all _) (all_append (rowB_all _) (rowB_all _))))
  exact all_append (be_all _ _) (all_append (be_all _ _) (all_append (be_all _ _) (all_append (be_all _ _) (all_append (be_all _ _) (be_all _ _)))))
theorem encB_all (r : Rc) : All 256 (encB r) := all_append (bodyB_all r) (be_all 4 _)

/-- The bytes from i on, up to j. -/
def seg (b : List Nat) (i j : Nat) : List Nat := (b.take j).drop i
theorem seg_all {b : List Nat} (h : All 256 b) (i j : Nat) : All 256 (seg b i j) := all_dropc (all_take h j) i
theorem seg_len {b : List Nat} {i j : Nat} (h : j ≤ b.length) : (seg b i j).length = j - i := by unfold seg; rw [List.length_drop, List.length_take]; omega
/-- What is taken behind the sum: the eighteen bytes, and three rows. -/
def tkBody (b : List Nat) : Nat × Rc :=
  if b.length < 18 then (5, rc0) else if 1 < b.getD 17 0 then (6, rc0) else
    if (tkRow (b.drop 18)).1 ≠ 0 then ((tkRow (b.drop 18)).1, rc0) else
    if (tkRow (tkRow (b.drop 18)).2.2).1 ≠ 0 then ((tkRow (tkRow (b.drop 18)).2.2).1, rc0) else
    if (tkRow (tkRow (tkRow (b.drop 18)).2.2).2.2).1 ≠ 0 then ((tkRow (tkRow (tkRow (b.drop 18)).2.2).2.2).1, rc0) else
    if 0 < (tkRow (tkRow (tkRow (b.drop 18)).2.2).2.2).2.2.length then (6, rc0) else
    if (⟨(b.getD 0 0 : Nat), (bnum (seg b 1 5) : Nat), (bnum (seg b 5 9) : Nat), (bnum (seg b 9 13) : Nat), (bnum (seg b 13 17) : Nat), (tkRow (b.drop 18)).2.1, (tkRow (tkRow (b.drop 18)).2.2).2.1, (tkRow (tkRow (tkRow (b.drop 18)).2.2).2.2).2.1, decide (b.getD 17 0 = 1)⟩ : Rc).May
    then (0, ⟨(b.getD 0 0 : Nat), (bnum (seg b 1 5) : Nat), (bnum (seg b 5 9) : Nat), (bnum (seg b 9 13) : Nat), (bnum (seg b 13 17) : Nat), (tkRow (b.drop 18)).2.1, (tkRow (tkRow (b.drop 18)).2.2).2.1, (tkRow (tkRow (tkRow (b.drop 18)).2.2).2.2).2.1, decide (b.getD 17 0 = 1)⟩)
    else (1, rc0)
/-- The record of bytes, or why there is none. -/
def decB (s : List Nat) : Nat × Rc :=
  if s.length < 8 then (5, rc0) else if bnum (s.drop (s.length - 4)) ≠ crSum (s.take (s.length - 4)) then (7, rc0) else
    if s.take 4 ≠ taly then (6, rc0) else tkBody (seg s 4 (s.length - 4))

theorem seg_mid {a c r : List Nat} {i j : Nat} (hi : a.length = i) (hj : i + c.length = j) : seg (a ++ (c ++ r)) i j = c := by
  unfold seg
  rw [← List.append_assoc, List.take_append_of_le_length (by rw [List.length_append]; omega), List.take_of_length_le (by rw [List.length_append]; omega), List.drop_append_of_le_length (by omega), List.drop_eq_nil_of_le (by omega), List.nil_append]
theorem drop_at {a r : List Nat} {i : Nat} (hi : a.length = i) : (a ++ r).drop i = r := by
  rw [List.drop_append_of_le_length (by omega), List.drop_eq_nil_of_le (by omega), List.nil_append]
theorem be_one {v : Nat} (h : v < 256) : be 1 v = [v] := by show [] ++ [v % 256] = _; rw [Nat.mod_eq_of_lt h]; rfl
theorem toNat_back {n : Int} (h : 0 ≤ n) : ((n.toNat : Nat) : Int) = n := Int.toNat_of_nonneg h
theorem sm_be {n : Int} (h : Sm n) : bnum (be 4 n.toNat) = n.toNat := be_small (by rw [w4]; have := h.2; have := h.1; omega)
theorem sgn_lt (b : Bool) : sgn b < 256 := by cases b <;> decide

theorem tkBody_back (r : Rc) (h : r.May) (hw : r.Wd) : tkBody (headB r ++ rowsB r) = (0, r) := by
  obtain ⟨⟨h1, h2, h3, h4⟩, ⟨o1, o2, o3⟩, h5, h6⟩ := h
  obtain ⟨w1, w2, w3⟩ := hw
  have hd : (headB r ++ rowsB r).drop 18 = rowsB r := drop_at (headB_len r)
  have e1 : tkRow (rowsB r) = (0, r.p, rowB r.q ++ rowB r.t) := tkRow_back _ o1 w1
  have e2 : tkRow (rowB r.q ++ rowB r.t) = (0, r.q, rowB r.t) := tkRow_back _ o2 w2
  have e3 : tkRow (rowB r.t) = (0, r.t, []) := by have := tkRow_back [] o3 w3; rwa [List.append_nil] at this
  have hc : be 1 r.con.toNat = [r.con.toNat] := be_one (by omega)
  have hm : be 1 (sgn r.minus) = [sgn r.minus] := be_one (sgn_lt _)
  have f0 : (headB r ++ rowsB r).getD 0 0 = r.con.toNat := by unfold headB; rw [hc]; rfl
  have f1 : seg (headB r ++ rowsB r) 1 5 = be 4 r.dgs.toNat := by
    unfold headB
    simp only [List.append_assoc]
    exact seg_mid (be_len 1 _) (by rw [be_len])
  have f2 : seg (headB r ++ rowsB r) 5 9 = be 4 r.gua.toNat := by
    unfold headB
    simp only [List.append_assoc]
    rw [← List.append_assoc (be 1 _)]
    exact seg_mid (by simp only [List.length_append, be_len]) (by rw [be_len])
  have f3 : seg (headB r ++ rowsB r) 9 13 = be 4 r.frm.toNat := by
    unfold headB
    simp only [List.append_assoc]
    rw [← List.append_assoc (be 1 _), ← List.append_assoc (be 1 _ ++ be 4 _)]
    exact seg_mid (by simp only [List.length_append, be_len]) (by rw [be_len])
  have f4 : seg (headB r ++ rowsB r) 13 17 = be 4 r.til.toNat := by
    unfold headB
    simp only [List.append_assoc]
    rw [← List.append_assoc (be 1 _), ← List.append_assoc (be 1 _ ++ be 4 _), ← List.append_assoc (be 1 _ ++ be 4 _ ++ be 4 _)]
    exact seg_mid (by simp only [List.length_append, be_len]) (by rw [be_len])
  have f5 : (headB r ++ rowsB r).getD 17 0 = sgn r.minus := by
    have e : seg (headB r ++ rowsB r) 17 18 = be 1 (sgn r.minus) := by
      unfold headB
      simp only [List.append_assoc]
      rw [← List.append_assoc (be 1 _), ← List.append_assoc (be 1 _ ++ be 4 _), ← List.append_assoc (be 1 _ ++ be 4 _ ++ be 4 _), ← List.append_assoc (be 1 _ ++ be 4 _ ++ be 4 _ ++ be 4 _)]
      exact seg_mid (by simp only [List.length_append, be_len]) (by rw [be_len])
    rw [hm] at e
    have hl : 17 < (headB r ++ rowsB r).length := by rw [List.length_append, headB_len]; omega
    have e2 : (headB r ++ rowsB r).getD 17 0 = (seg (headB r ++ rowsB r) 17 18).getD 0 0 := by
      unfold seg
      simp only [List.getD_eq_getElem?_getD, List.getElem?_drop, List.getElem?_take]
      simp
    rw [e2, e]; rfl
  unfold tkBody
  rw [hd, e1]
  dsimp only
  rw [e2]
  dsimp only
  rw [e3, f0, f1, f2, f3, f4, f5, sm_be h1, sm_be h2, sm_be h3, sm_be h4, toNat_back h5, toNat_back h1.1, toNat_back h2.1, toNat_back h3.1, toNat_back h4.1]
  dsimp only
  have em : decide (sgn r.minus = 1) = r.minus := by cases r.minus <;> decide
  rw [em, if_neg (by rw [List.length_append, headB_len]; omega), if_neg (by cases r.minus <;> decide), if_neg (by simp), if_neg (by simp), if_neg (by simp), if_neg (by simp), if_pos ⟨⟨h1, h2, h3, h4⟩, ⟨o1, o2, o3⟩, h5, h6⟩]
theorem enc_cut (r : Rc) : (encB r).length - 4 = (bodyB r).length := by unfold encB; rw [List.length_append, be_len]; omega
theorem enc_take (r : Rc) : (encB r).take ((encB r).length - 4) = bodyB r := by
  rw [enc_cut]; unfold encB; rw [List.take_append_of_le_length (Nat.le_refl _), List.take_length]
theorem enc_drop (r : Rc) : (encB r).drop ((encB r).length - 4) = be 4 (crSum (bodyB r)) := by rw [enc_cut]; exact drop_at rfl
theorem dec_enc (r : Rc) (h : r.May) (hw : r.Wd) : decB (encB r) = (0, r) := by
  have e1 : bnum (be 4 (crSum (bodyB r))) = crSum (bodyB r) := be_small (by rw [w4]; exact crSum_lt _)
  have e2 : (encB r).take 4 = taly := by
    unfold encB bodyB
    rw [List.append_assoc, List.take_append_of_le_length (by decide)]; rfl
  have e3 : seg (encB r) 4 ((encB r).length - 4) = headB r ++ rowsB r := by
    unfold seg
    rw [enc_take]; unfold bodyB
    exact drop_at rfl
  unfold decB
  rw [enc_take, enc_drop, e1, e2, e3, if_neg (by rw [encB_len]; omega), if_neg (by simp), if_neg (by simp)]
  exact tkBody_back r h hw

theorem take_seg {b : List Nat} {i j : Nat} (h : i ≤ j) : b.take i ++ seg b i j = b.take j := by
  unfold seg
  have := List.take_append_drop i (b.take j)
  rwa [List.take_take, Nat.min_eq_left h] at this
theorem bnum_be4 {b : List Nat} (ha : All 256 b) {i : Nat} (h : i + 4 ≤ b.length) : be 4 (bnum (seg b i (i + 4))) = seg b i (i + 4) := by
  have hl := seg_len (i := i) h
  have := be_bnum (seg_all ha i (i + 4))
  rwa [hl, show i + 4 - i = 4 by omega] at this
theorem seg_one {b : List Nat} {i : Nat} (h : i < b.length) : seg b i (i + 1) = [b.getD i 0] := by
  unfold seg
  rw [List.take_succ_eq_append_getElem h, List.drop_append_of_le_length (by rw [List.length_take]; omega), List.drop_eq_nil_of_le (by rw [List.length_take]; omega), List.nil_append]
  simp [h]
theorem tkBody_of {b : List Nat} {r : Rc} (ha : All 256 b) (h : tkBody b = (0, r)) : r.May ∧ r.Wd ∧ headB r ++ rowsB r = b := by
  unfold tkBody at h
  by_cases h1 : b.length < 18
  · rw [if_pos h1] at h; cases h
  rw [if_neg h1] at h
  by_cases h2 : 1 < b.getD 17 0
  · rw [if_pos h2] at h; cases h
  rw [if_neg h2] at h
  rcases e1 : tkRow (b.drop 18) with ⟨x1, l1, r1⟩
  rw [e1] at h
  dsimp only at h
  by_cases h3 : x1 ≠ 0
  · rw [if_pos h3] at h; injection h with h _; exact absurd h h3
  rw [if_neg h3] at h
  obtain rfl : x1 = 0 := by omega
  rcases e2 : tkRow r1 with ⟨x2, l2, r2⟩
  rw [e2] at h
  dsimp only at h
  by_cases h4 : x2 ≠ 0
  · rw [if_pos h4] at h; injection h with h _; exact absurd h h4
  rw [if_neg h4] at h
  obtain rfl : x2 = 0 := by omega
  rcases e3 : tkRow r2 with ⟨x3, l3, r3⟩
  rw [e3] at h
  dsimp only at h
  by_cases h5 : x3 ≠ 0
  · rw [if_pos h5] at h; injection h with h _; exact absurd h h5
  rw [if_neg h5] at h
  obtain rfl : x3 = 0 := by omega
  by_cases h6 : 0 < r3.length
  · rw [if_pos h6] at h; cases h
  rw [if_neg h6] at h
  obtain rfl : r3 = [] := List.length_eq_zero_iff.1 (by omega)
  obtain ⟨i1, o1, w1⟩ := tkRow_of (all_dropc ha 18) e1
  have a1 : All 256 r1 := by
    have := all_dropc (all_dropc ha 18) (rowB l1).length
    rw [i1, drop_at rfl] at this
    exact this
  obtain ⟨i2, o2, w2⟩ := tkRow_of a1 e2
  have a2 : All 256 r2 := by
    have := all_dropc a1 (rowB l2).length
    rw [i2, drop_at rfl] at this
    exact this
  obtain ⟨i3, o3, w3⟩ := tkRow_of a2 e3
  split at h
  · rename_i hm
    injection h with _ h
    subst h
    refine ⟨hm, ⟨w1, w2, w3⟩, ?_⟩
    rw [List.append_nil] at i3
    have hr : rowB l1 ++ (rowB l2 ++ rowB l3) = b.drop 18 := by rw [i1, i2, i3]
    unfold headB rowsB
    dsimp only
    rw [hr]
    simp only [Int.toNat_natCast]
    have g0 : be 1 (b.getD 0 0) = b.take 1 := by
      have h0 : b.getD 0 0 < 256 := by
        have := ha 0 (by omega)
        simpa [List.getD_eq_getElem?_getD, show 0 < b.length by omega] using this
      rw [be_one h0]
      have := seg_one (b := b) (i := 0) (by omega)
      unfold seg at this
      rw [List.drop_zero] at this
      exact this.symm
    have g5 : be 1 (sgn (decide (b.getD 17 0 = 1))) = seg b 17 18 := by
      rw [be_one (sgn_lt _), seg_one (by omega)]
      rcases Nat.lt_or_ge (b.getD 17 0) 1 with h' | h'
      · rw [show b.getD 17 0 = 0 by omega]; rfl
      · rw [show b.getD 17 0 = 1 by omega]; rfl
    rw [g0, g5, bnum_be4 ha (by omega), bnum_be4 ha (i := 5) (by omega), bnum_be4 ha (i := 9) (by omega), bnum_be4 ha (i := 13) (by omega)]
    have z1 := take_seg (b := b) (i := 1) (j := 5) (by decide)
    have z2 := take_seg (b := b) (i := 5) (j := 9) (by decide)
    have z3 := take_seg (b := b) (i := 9) (j := 13) (by decide)
    have z4 := take_seg (b := b) (i := 13) (j := 17) (by decide)
    have z5 := take_seg (b := b) (i := 17) (j := 18) (by decide)
    show (b.take 1 ++ (seg b 1 5 ++ (seg b 5 9 ++ (seg b 9 13 ++ (seg b 13 17 ++ seg b 17 18))))) ++ b.drop 18 = b
    rw [← List.append_assoc, z1, ← List.append_assoc, z2, ← List.append_assoc, z3, ← List.append_assoc, z4, z5, List.take_append_drop]
  · cases h
theorem dec_of {s : List Nat} {r : Rc} (ha : All 256 s) (h : decB s = (0, r)) : r.May ∧ r.Wd ∧ encB r = s := by
  unfold decB at h
  by_cases h1 : s.length < 8
  · rw [if_pos h1] at h; cases h
  rw [if_neg h1] at h
  by_cases h2 : bnum (s.drop (s.length - 4)) ≠ crSum (s.take (s.length - 4))
  · rw [if_pos h2] at h; cases h
  rw [if_neg h2] at h
  by_cases h3 : s.take 4 ≠ taly
  · rw [if_pos h3] at h; cases h
  rw [if_neg h3] at h
  obtain ⟨hm, hw, hb⟩ := tkBody_of (seg_all ha _ _) h
  refine ⟨hm, hw, ?_⟩
  have h3' := Classical.not_not.1 h3
  have h2' := Classical.not_not.1 h2
  have e1 : bodyB r = s.take (s.length - 4) := by
    unfold bodyB
    rw [hb, ← h3']
    exact take_seg (by omega)
  unfold encB
  rw [e1, ← h2']
  have hl : (s.drop (s.length - 4)).length = 4 := by rw [List.length_drop]; omega
  have := be_bnum (all_dropc ha (s.length - 4))
  rw [hl] at this
  rw [this, List.take_append_drop]
/-- Where there is an error there is no record. -/
theorem pick_bad {c : Prop} [Decidable c] {a b : Nat × Rc} (ha : a.1 ≠ 0 → a.2 = rc0) (hb : b.1 ≠ 0 → b.2 = rc0) : (if c then a else b).1 ≠ 0 → (if c then a else b).2 = rc0 := by
  split
  · exact ha
  · exact hb
theorem tkBody_bad (b : List Nat) : (tkBody b).1 ≠ 0 → (tkBody b).2 = rc0 := by
  unfold tkBody
  exact pick_bad (fun _ => rfl) (pick_bad (fun _ => rfl) (pick_bad (fun _ => rfl) (pick_bad (fun _ => rfl) (pick_bad (fun _ => rfl) (pick_bad (fun _ => rfl) (pick_bad (fun h => absurd rfl h) (fun _ => rfl)))))))
theorem dec_bad (s : List Nat) : (decB s).1 ≠ 0 → (decB s).2 = rc0 := by
  unfold decB
  exact pick_bad (fun _ => rfl) (pick_bad (fun _ => rfl) (pick_bad (fun _ => rfl) (tkBody_bad _)))

/-! ### What the statements ask of encodings -/
/-- One bit of an encoding turned: the sum isn't right. -/
theorem dec_turned {s : List Nat} {r : Rc} (ha : All 256 s) (h : decB s = (0, r)) (i k : Nat) (hi : i < s.length) (hk : k < 8) : decB (s.set i (turn1 s[i] k)) = (7, rc0) := by
  have h8 : ¬ s.length < 8 := fun h1 => by unfold decB at h; rw [if_pos h1] at h; cases h
  have h7 : bnum (s.drop (s.length - 4)) = crSum (s.take (s.length - 4)) := by
    unfold decB at h
    rw [if_neg h8] at h
    by_cases h2 : bnum (s.drop (s.length - 4)) ≠ crSum (s.take (s.length - 4))
    · rw [if_pos h2] at h; cases h
    · exact Classical.not_not.1 h2
  unfold decB
  rw [List.length_set, if_neg h8]
  rw [if_pos]
  have hx := turn1_lt (ha i hi) hk
  by_cases hc : i < s.length - 4
  · rw [List.drop_set_of_lt hc, List.take_set, h7]
    have hl : i < (s.take (s.length - 4)).length := by rw [List.length_take]; omega
    have he : (s.take (s.length - 4))[i] = s[i] := by rw [List.getElem_take]
    have := crSum_turned (s.take (s.length - 4)) i k hl hk
    rw [he] at this
    exact Ne.symm this
  · have e1 : (s.set i (turn1 s[i] k)).take (s.length - 4) = s.take (s.length - 4) := by rw [List.take_set_of_le (by omega)]
    rw [e1, ← h7, List.drop_set, if_neg hc]
    intro e
    have hl : (s.drop (s.length - 4)).length = 4 := by rw [List.length_drop]; omega
    have hd := all_dropc ha (s.length - 4)
    have hj : i - (s.length - 4) < (s.drop (s.length - 4)).length := by omega
    have hs : All 256 ((s.drop (s.length - 4)).set (i - (s.length - 4)) (turn1 s[i] k)) := by
      intro j hj'
      rw [List.getElem_set]
      split
      · exact hx
      · exact hd j (by rw [List.length_set] at hj'; exact hj')
    have e2 := be_bnum hs
    have e3 := be_bnum hd
    rw [List.length_set, e, e3] at e2
    have e4 : ((s.drop (s.length - 4)).set (i - (s.length - 4)) (turn1 s[i] k))[i - (s.length - 4)]'(by rw [List.length_set]; exact hj) = (s.drop (s.length - 4))[i - (s.length - 4)] := by simp only [← e2]
    rw [List.getElem_set_self, List.getElem_drop] at e4
    refine turn1_ne s[i] k ?_
    simpa only [show s.length - 4 + (i - (s.length - 4)) = i by omega] using e4
/-- Encodings tell records apart. -/
theorem enc_inj {r u : Rc} (hr : r.May) (hw : r.Wd) (hu : u.May) (hv : u.Wd) (h : encB r = encB u) : r = u := by
  have e1 := dec_enc r hr hw
  have e2 := dec_enc u hu hv
  rw [h, e2] at e1
  injection e1 with _ e1
  exact e1.symm
end Go.Proofs.YtdaglbjdgdokpaaDoor
