/-
  Plain arithmetic of square roots (layer 12): the greatest number whose square is not above a, Newton's step, the first number of the steps, the root bit by bit. No program in sight. · Rows that the call makes whole: a block that is known; make([]T, n); a store. · copy into a row that the call itself made.
-/
import Derived.Test.YtojpfijjnocboaaPk5
import Derived.Test.YtojpfijjnocboaaNtW
import Derived.Test.YtojpfijjnocboaaPk3
import Derived.Laws.MakeOwn
import Derived.OneCell
import Derived.Laws.CopyOwn
namespace Go.Proofs.Ytojpfijjnocboaa
set_option linter.unusedVariables false

/-- The greatest number, n at most, whose square is not above a. -/
def isqTo (a : Nat) : Nat → Nat
  | 0 => 0
  | n + 1 => if (n + 1) * (n + 1) ≤ a then n + 1 else isqTo a n
/-- The root of a, rounded down. -/
def isq (a : Nat) : Nat := isqTo a a

theorem isqTo_le (a : Nat) : ∀ n, isqTo a n * isqTo a n ≤ a := by
  intro n
  induction n with
  | zero => exact Nat.zero_le _
  | succ n ih =>
    unfold isqTo
    split
    · assumption
    · exact ih
theorem isqTo_max (a : Nat) : ∀ n y, y ≤ n → y * y ≤ a → y ≤ isqTo a n := by
  intro n
  induction n with
  | zero => intro y h _; exact h
  | succ n ih =>
    intro y h hy
    unfold isqTo
    split
    · exact h
    · rename_i hn
      refine ih y ?_ hy
      rcases Nat.lt_or_ge y (n + 1) with h' | h'
      · omega
      · exact absurd (Nat.le_antisymm h h' ▸ hy) hn
theorem isq_le (a : Nat) : isq a * isq a ≤ a := isqTo_le a a
theorem sq_le_self {y a : Nat} (h : y * y ≤ a) : y ≤ a := Nat.le_trans (Nat.le_mul_self y) h
theorem isq_iff {y a : Nat} : y ≤ isq a ↔ y * y ≤ a :=
  ⟨fun h => Nat.le_trans (Nat.mul_le_mul h h) (isq_le a), fun h => isqTo_max a a y (sq_le_self h) h⟩
theorem isq_lt (a : Nat) : a < (isq a + 1) * (isq a + 1) := by
  rcases Nat.lt_or_ge a ((isq a + 1) * (isq a + 1)) with h | h
  · exact h
  · exact absurd (isq_iff.2 h) (by omega)
theorem isq_of {x a : Nat} (h1 : x * x ≤ a) (h2 : a < (x + 1) * (x + 1)) : isq a = x := by
  have e1 := isq_iff.2 h1
  rcases Nat.lt_or_ge x (isq a) with h | h
  · exact absurd (Nat.le_trans (Nat.mul_le_mul h h) (isq_le a)) (Nat.not_le.2 h2)
  · omega
theorem isq_mono {a b : Nat} (h : a ≤ b) : isq a ≤ isq b := isq_iff.2 (Nat.le_trans (isq_le a) h)
theorem isq_sq (x : Nat) (m : Nat) (h : m ≤ x + x) : isq (x * x + m) = x :=
  isq_of (Nat.le_add_right _ _) (by rw [Nat.add_mul, Nat.mul_add]; omega)
theorem isq_zero : isq 0 = 0 := rfl
theorem isq_pos {a : Nat} (h : 0 < a) : 0 < isq a := isq_iff.2 (by omega)
theorem isq_rest (a : Nat) : a - isq a * isq a ≤ isq a + isq a := by
  have h := isq_lt a
  rw [Nat.add_mul, Nat.mul_add] at h
  omega
theorem isq_four (a : Nat) : isq (a * 4) = 2 * isq a ∨ isq (a * 4) = 2 * isq a + 1 := by
  have h1 : 2 * isq a ≤ isq (a * 4) := isq_iff.2 (by have := isq_le a; rw [show 2 * isq a * (2 * isq a) = isq a * isq a * 4 by rw [Nat.mul_mul_mul_comm]; omega]; omega)
  have h2 : isq (a * 4) < 2 * isq a + 2 := by
    rcases Nat.lt_or_ge (isq (a * 4)) (2 * isq a + 2) with h | h
    · exact h
    · have h3 := isq_iff.1 h
      rw [show (2 * isq a + 2) * (2 * isq a + 2) = (isq a + 1) * (isq a + 1) * 4 by rw [show 2 * isq a + 2 = 2 * (isq a + 1) by omega, Nat.mul_mul_mul_comm]; omega] at h3
      have := isq_lt a
      omega
  omega

/-- Newton's step from x to the root of a. -/
def nwt (a x : Nat) : Nat := (x + a / x) / 2
theorem sq_between (x r : Nat) : 2 * (r * x) ≤ x * x + r * r := by
  rcases Nat.le_total x r with h | h
  · obtain ⟨k, rfl⟩ := Nat.exists_eq_add_of_le h
    rw [Nat.add_mul, Nat.add_mul, Nat.mul_add, Nat.mul_add x, Nat.mul_add k, Nat.mul_comm k x]
    have := Nat.zero_le (k * k); omega
  · obtain ⟨k, rfl⟩ := Nat.exists_eq_add_of_le h
    rw [Nat.mul_add, Nat.add_mul, Nat.mul_add r, Nat.mul_add k, Nat.mul_comm k r]
    have := Nat.zero_le (k * k); omega
theorem nwt_ge {a x : Nat} (hx : 0 < x) : isq a ≤ nwt a x := by
  unfold nwt
  have h : 2 * isq a ≤ x + a / x := by
    rcases Nat.le_total (2 * isq a) x with h | h
    · exact Nat.le_trans h (Nat.le_add_right _ _)
    · have h2 : 2 * isq a - x ≤ a / x := by
        rw [Nat.le_div_iff_mul_le hx, Nat.sub_mul]
        have e1 := sq_between x (isq a)
        have e2 := isq_le a
        rw [Nat.mul_assoc]; omega
      omega
  omega
theorem nwt_lt {a x : Nat} (h : isq a < x) : nwt a x < x := by
  have hx : 0 < x := by omega
  have h1 : a < x * x := Nat.lt_of_not_le fun h' => absurd (isq_iff.2 h') (by omega)
  have h2 : a / x < x := by rw [Nat.div_lt_iff_lt_mul hx]; exact h1
  unfold nwt
  omega
/-- Where a step goes no more down from a number that is not below the root, there the root is. -/
theorem nwt_end {a x : Nat} (h : isq a ≤ x) (hn : x ≤ nwt a x) : isq a = x := by
  rcases Nat.lt_or_ge (isq a) x with h' | h'
  · exact absurd (nwt_lt h') (by omega)
  · omega

theorem lt_blen (a : Nat) : a < 2 ^ blen a := by
  unfold blen
  split
  · rename_i h; subst h; decide
  · exact Nat.lt_log2_self
theorem ge_blen {a : Nat} (h : 0 < a) : 2 ^ (blen a - 1) ≤ a := by
  unfold blen
  rw [if_neg (by omega), Nat.add_sub_cancel]
  exact Nat.log2_self_le (by omega)
/-- Where the steps begin. -/
def fst (a : Nat) : Nat := 2 ^ ((blen a + 1) / 2)
theorem fst_gt (a : Nat) : isq a < fst a := by
  refine Nat.lt_of_not_le fun h => ?_
  have h2 := isq_iff.1 h
  unfold fst at h2
  rw [← Nat.pow_add] at h2
  have h3 := lt_blen a
  have h4 : 2 ^ blen a ≤ 2 ^ ((blen a + 1) / 2 + (blen a + 1) / 2) := Nat.pow_le_pow_right (by decide) (by omega)
  omega
theorem fst_le (a : Nat) : fst a ≤ isq a + isq a + 2 := by
  rcases Nat.eq_zero_or_pos a with h | h
  · subst h; decide
  · have h0 : 0 < blen a := by unfold blen; rw [if_neg (by omega)]; omega
    have h1 : 2 ^ ((blen a - 1) / 2) ≤ isq a := by
      refine isq_iff.2 (Nat.le_trans ?_ (ge_blen h))
      rw [← Nat.pow_add]
      exact Nat.pow_le_pow_right (by decide) (by omega)
    unfold fst
    rw [show (blen a + 1) / 2 = (blen a - 1) / 2 + 1 by omega, Nat.pow_succ]
    omega

/-- The root bit by bit: all bits from i on. -/
def hib (a i : Nat) : Nat := isq a / 2 ^ i * 2 ^ i
theorem hib_start {a i : Nat} (h : blen a / 2 + 1 ≤ i) : hib a i = 0 := by
  unfold hib
  rw [Nat.div_eq_of_lt, Nat.zero_mul]
  refine Nat.lt_of_lt_of_le (Nat.lt_of_lt_of_le (fst_gt a) ?_) (Nat.pow_le_pow_right (by decide) h)
  exact Nat.pow_le_pow_right (by decide) (by omega)
theorem hib_end (a : Nat) : hib a 0 = isq a := by unfold hib; rw [Nat.pow_zero, Nat.div_one, Nat.mul_one]
theorem hib_step (a i : Nat) : hib a i = if (hib a (i + 1) + 2 ^ i) * (hib a (i + 1) + 2 ^ i) ≤ a then hib a (i + 1) + 2 ^ i else hib a (i + 1) := by
  have hp : 0 < 2 ^ i := Nat.two_pow_pos i
  have e1 : hib a (i + 1) = isq a / 2 ^ i / 2 * 2 * 2 ^ i := by
    unfold hib
    rw [Nat.pow_succ, ← Nat.div_div_eq_div_mul]; ac_rfl
  have e2 : hib a (i + 1) + 2 ^ i = (isq a / 2 ^ i / 2 * 2 + 1) * 2 ^ i := by rw [e1, Nat.add_mul, Nat.one_mul]
  have e3 : (hib a (i + 1) + 2 ^ i) * (hib a (i + 1) + 2 ^ i) ≤ a ↔ isq a / 2 ^ i / 2 * 2 + 1 ≤ isq a / 2 ^ i := by
    rw [← isq_iff, e2, ← Nat.le_div_iff_mul_le hp]
  split
  · rename_i h
    have h' := e3.1 h
    rw [e2]; unfold hib
    congr 1; omega
  · rename_i h
    have h' := fun k => h (e3.2 k)
    rw [e1]; unfold hib
    congr 1; omega
theorem hib_le (a i : Nat) : hib a i ≤ isq a := Nat.div_mul_le_self _ _

end Go.Proofs.Ytojpfijjnocboaa
namespace Go.Proofs.Ytojpfijjnocboaa
open Go.RowKit
set_option linter.unusedVariables false

/-- Block g is the row l. -/
def Bk (k : IntKind) (e : TypeId) (w : World) (g : Nat) (l : List Nat) : Prop := w.heap[g]? = some (.cells (vs k l).toArray e (0, 0))
theorem Bk.lt {k : IntKind} {e : TypeId} {w : World} {g : Nat} {l : List Nat} (h : Bk k e w g l) : g < w.heap.size := lt_of_block h
theorem Bk.cell {k : IntKind} {e : TypeId} {w : World} {g : Nat} {l : List Nat} (h : Bk k e w g l) (i : Nat) (hi : i < l.length) : w.cell? ⟨g, i, none⟩ = some (.int k (l[i] : Int)) := by
  unfold Bk at h
  simp [World.cell?, h, vs, hi]
theorem Bk.free {k : IntKind} {e : TypeId} {w : World} {g : Nat} {l : List Nat} (h : Bk k e w g l) (i : Nat) : w.frozen? ⟨g, i, none⟩ = false := by
  unfold Bk at h
  simp [World.frozen?, h]
theorem Bk.bl {k : IntKind} {e : TypeId} {w w' : World} {g : Nat} {l : List Nat} (h : Bk k e w g l) (b : Bl w w') : Bk k e w' g l := (b.block g h.lt).trans h
theorem Bk.drew {k : IntKind} {e : TypeId} {w : World} {g : Nat} {l : List Nat} (h : Bk k e w g l) : Bk k e w.drew g l := h
theorem Bk.drewN {k : IntKind} {e : TypeId} {w : World} {g : Nat} {l : List Nat} (h : Bk k e w g l) (n : Nat) : Bk k e (w.drewN n) g l := h
theorem Bk.set {k : IntKind} {e : TypeId} {w : World} {g : Nat} {l : List Nat} (h : Bk k e w g l) (i u : Nat) (hi : i < l.length) : Bk k e (w.setCell ⟨g, i, none⟩ (.int k (u : Int))) g (l.set i u) := by
  have hlt := h.lt
  have h' : w.heap[g] = .cells (vs k l).toArray e (0, 0) := by unfold Bk at h; simpa [Array.getElem?_eq_getElem hlt] using h
  show (w.heap.modify g _)[g]? = _
  rw [Array.getElem?_eq_getElem (by simpa using hlt), Array.getElem_modify_self, h']
  simp [vs, List.map_set]
theorem Bk.src {k : IntKind} {e : TypeId} {w : World} {g : Nat} {l : List Nat} (h : Bk k e w g l) : Src k w (some ⟨g, 0, none⟩) l := fun _ => ⟨_, rfl, h.lt, fun i hi => by rw [add_none, Nat.zero_add]; exact h.cell i hi⟩
theorem Bk.rw {k : IntKind} {e : TypeId} {w : World} {g : Nat} {l : List Nat} {n : Nat} (h : Bk k e w g l) (hn : n = l.length) (hm : n ≤ maxLen) : Rw k w (.slice (some ⟨g, 0, none⟩) n n) l :=
  h.src.rw hn (Nat.le_refl _) hm (fun h => by cases h)
theorem Bk.made (k : IntKind) (e : TypeId) (w : World) (n : Nat) : Bk k e (w.alloc (.cells (vs k (List.replicate n 0)).toArray e)) w.heap.size (List.replicate n 0) := heap_alloc_new w _

theorem run_mk {P : Program} (k : IntKind) (t e : TypeId) (i : TypeInfo) (ht : P.underlying t = some (.slice e)) (hi : P.info? e = some i) (hz : i.zero = some (.int k 0)) (hs : i.size = 1) (hb8 : i.bytes ≤ 8) (n : Nat) (hn : n < 1099511627776) (w : World) :
    (Instr.makeSlice t (.int .i64 (n : Int)) (.int .i64 (n : Int))).run P w = .ok (.slice (some ⟨w.heap.size, 0, none⟩) n n) (w.alloc (.cells (vs k (List.replicate n 0)).toArray e)) := by
  have hb : (i.bytes : Int) * (n : Int) ≤ 281474976710656 := by
    have h : i.bytes * n ≤ 8 * n := Nat.mul_le_mul_right _ hb8
    have h' : ((i.bytes * n : Nat) : Int) ≤ 281474976710656 := by omega
    rwa [Int.natCast_mul] at h'
  have hr := run_make (P := P) w t e i (.int k 0) ht hi hz .i64 .i64 n n (by omega) (by omega) hb (by omega)
  simp only [Int.toNat_natCast] at hr
  rw [hr, hs, Nat.mul_one]
  have e1 : madeCells (Value.int k 0).cells n = (vs k (List.replicate n 0)).toArray := by
    apply Array.toList_inj.1
    have h1 : (Value.int k 0).cells = #[.int k 0] := rfl
    rw [h1, toList_madeCells_one]
    simp [vs]
  rw [e1]
end Go.Proofs.Ytojpfijjnocboaa
namespace Go.Proofs.Ytojpfijjnocboaa
open Go.RowKit
set_option linter.unusedVariables false

theorem vs_splice (k : IntKind) (l m : List Nat) (off : Nat) : vs k (splice l off m) = splice (vs k l) off (vs k m) := by
  simp [vs, splice, List.map_take, List.map_drop]
theorem copy_bk {P : Program} {ops : Array Oper} {rest : List Oper} {o : Oper} {a : Act} {Q : Exit → Act → World → Prop} (W w : World) (k : IntKind) (e : TypeId) (hgd : o.guard = none) (d s : Operand) (dT sT : TypeId)
    (ho : o.op = .call { callee := .builtin .copy, args := #[d, s], argTypes := #[dT, sT] }) (elem : TypeId) (hu : P.underlying dT = some (.slice elem)) (hsz : (P.info? elem).map (·.size) = some 1)
    (g off dLen dCap : Nat) (A : Option Addr) (sLen sCap : Nat) (hd : a.eval d = .slice (some ⟨g, off, none⟩) dLen dCap) (hs : a.eval s = .slice A sLen sCap)
    (l m : List Nat) (hm : sLen = m.length) (hbk : Bk k e w g l) (hsrc : Src k w A m) (hfit : off + min m.length dLen ≤ l.length) (hb : Bl W w) (hBg : W.heap.size ≤ g)
    (h : ∀ w', Hid (Bk k e w' g (splice l off (m.take dLen))) → Hid (Bl W w') → Hid (w'.heap.size = w.heap.size ∧ ∀ j, j ≠ g → w'.heap[j]? = w.heap[j]?) → wpList P ops Q rest (a.put o.dst (goInt ((min m.length dLen : Nat) : Int))) w') :
    wpList P ops Q (o :: rest) a w := by
  have hlen : (vs k (m.take dLen)).length = min m.length dLen := by rw [vs_length, List.length_take, Nat.min_comm]
  have h1 : ∀ v ∈ vs k (m.take dLen), v.oneCell' = true := by
    intro v hv
    simp only [vs, List.mem_map] at hv
    obtain ⟨x, _, rfl⟩ := hv
    rfl
  by_cases h0 : min m.length dLen = 0
  · refine wpList_copy_nothing hgd d s dT sT ho elem hu hsz (some ⟨g, off, none⟩) A dLen dCap sLen sCap hd hs (by rw [hm]; exact h0) ?_
    have e1 : m.take dLen = [] := List.length_eq_zero_iff.1 (by rw [List.length_take, Nat.min_comm]; exact h0)
    have := h w (by show Bk _ _ _ _ _; rw [e1]; simpa [splice] using hbk) hb ⟨rfl, fun _ _ => rfl⟩
    rwa [h0] at this
  · obtain ⟨ad, hA, _, hx⟩ := hsrc (by omega)
    subst hA
    have hcs : ∀ j v, (vs k (m.take dLen))[j]? = some v → w.cell? (ad.add j) = some v := by
      intro j v hv
      have hj : j < (m.take dLen).length := by
        have := (List.getElem?_eq_some_iff.1 hv).1
        rwa [vs_length] at this
      have hj' : j < m.length := by rw [List.length_take] at hj; omega
      have e1 : v = .int k ((m[j] : Nat) : Int) := by
        have := (List.getElem?_eq_some_iff.1 hv).2
        rw [← this]
        simp [vs]
      rw [e1]
      exact hx j hj'
    refine wpList_copy_own hgd d s dT sT ho elem hu hsz g off dLen dCap ad sLen sCap hd hs (vs k l).toArray e hbk (vs k (m.take dLen)) (by rw [hlen, hm]) hcs (by rw [hlen]; simpa [vs] using hfit) h1 ?_
    rw [hlen]
    refine h _ ?_ (below_setRow hb hBg _) ⟨by simp [World.setRow], fun j hj => setRow_other w g j _ hj⟩
    show Bk _ _ _ _ _
    unfold Bk
    rw [vs_splice]
    have := setRow_heap w g (vs k l).toArray (((vs k l).take off ++ (vs k (m.take dLen) ++ (vs k l).drop (off + (min m.length dLen)))).toArray) e (0, 0) hbk
    simpa [splice, hlen] using this
end Go.Proofs.Ytojpfijjnocboaa
