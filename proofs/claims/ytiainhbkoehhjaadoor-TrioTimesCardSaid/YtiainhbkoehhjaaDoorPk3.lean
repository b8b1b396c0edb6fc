/-
  What package word answers, as plain functions of natural numbers; the numbers' spellings in a walk; the world of what only reads. No program in sight. · Plain arithmetic of products of rows (layer 9): sums of products, as they grow term by term; rows that a function gives. · Plain arithmetic modulo an odd number, by Montgomery's form. No program in sight.
-/
import Derived.WalkKit
import Derived.Laws.Bits64b
import Derived.IntWalk
import Derived.Lib.Hide
import Derived.RowKit3
import Derived.Deep.QuietTactic
import Derived.Test.YtiainhbkoehhjaaDoorPk1
import Derived.Lib.BitFns
namespace Go.Proofs.YtiainhbkoehhjaaDoor
open Go.RowKit
set_option linter.unusedVariables false

/-- What counts as a carry: 0, or 1 for any other number. -/
def un (c : Nat) : Nat := if c = 0 then 0 else 1
theorem un_le (c : Nat) : un c ≤ 1 := by unfold un; split <;> omega

theorem ret_eq {a b : Value} (h : a = b) : Ending.returned a = .returned b := by rw [h]
theorem u64_eq {a b : Int} (h : a = b) : Value.int .u64 a = .int .u64 b := by rw [h]
theorem pair_eq {a b c d : Int} (h : a = c) (h' : b = d) : Value.tuple #[.int .u64 a, .int .u64 b] = .tuple #[.int .u64 c, .int .u64 d] := by rw [h, h']

theorem int_eq {k : IntKind} {a b : Int} (h : a = b) : Ending.returned (.int k a) = .returned (.int k b) := by rw [h]

def addS (a b c : Nat) : Nat := (a + b + un c) % 18446744073709551616
def addC (a b c : Nat) : Nat := (a + b + un c) / 18446744073709551616
def subD (a b c : Nat) : Nat := (a + 18446744073709551616 - b - un c) % 18446744073709551616
def subB (a b c : Nat) : Nat := if a < b + un c then 1 else 0
def mulH (a b : Nat) : Nat := a * b / 18446744073709551616
def mulL (a b : Nat) : Nat := a * b % 18446744073709551616
def num (hi lo : Nat) : Nat := hi * 18446744073709551616 + lo
def divQ (hi lo d : Nat) : Nat := if d ≤ hi then 0 else num hi lo / d
def divR (hi lo d : Nat) : Nat := if d ≤ hi then 0 else num hi lo % d
def divE (hi d : Nat) : Nat := if d = 0 then 2 else if d ≤ hi then 1 else 0

theorem maskN (a : Nat) (ha : a < 18446744073709551616) : bits .and .u64 (a : Int) 4294967295 = ((a % 4294967296 : Nat) : Int) := by
  have h := bits_and_u64_nat a 4294967295 ha (by omega)
  have e : a &&& 4294967295 = a % 4294967296 := Nat.and_two_pow_sub_one_eq_mod a 32
  rw [e] at h
  exact h
theorem divN (a : Nat) : (a : Int) / 4294967296 = ((a / 4294967296 : Nat) : Int) := by omega
theorem modN (a : Nat) : (a : Int) % 4294967296 = ((a % 4294967296 : Nat) : Int) := by omega
theorem tdivN (a : Nat) : ((a : Int)).tdiv 4294967296 = ((a / 4294967296 : Nat) : Int) := by rw [Int.tdiv_eq_ediv_of_nonneg (by omega)]; omega
theorem tmodN (a : Nat) : ((a : Int)).tmod 4294967296 = ((a % 4294967296 : Nat) : Int) := by rw [Int.tmod_eq_emod_of_nonneg (by omega)]; omega
theorem mulN (a b : Nat) : (a : Int) * (b : Int) = ((a * b : Nat) : Int) := (Int.natCast_mul a b).symm
theorem addN (a b : Nat) : (a : Int) + (b : Int) = ((a + b : Nat) : Int) := (Int.natCast_add a b).symm
theorem wrapN (a : Nat) (ha : a < 18446744073709551616) : IntKind.u64.wrap (a : Int) = (a : Int) := by rw [IntKind.wrap_u64]; omega
theorem wrapM (a : Nat) : IntKind.u64.wrap (a : Int) = ((a % 18446744073709551616 : Nat) : Int) := by rw [IntKind.wrap_u64]; omega
theorem w64 (a : Nat) (ha : a < 18446744073709551616) : IntKind.u64.wrap (a : Int) = (a : Int) := by rw [IntKind.wrap_u64]; omega

theorem un_cases (c : Nat) : (c = 0 ∧ un c = 0) ∨ (1 ≤ c ∧ un c = 1) := by
  unfold un
  by_cases h : c = 0
  · exact Or.inl ⟨h, if_pos h⟩
  · exact Or.inr ⟨by omega, if_neg h⟩

theorem addC_le (a b c : Nat) (ha : a < 18446744073709551616) (hb : b < 18446744073709551616) : addC a b c ≤ 1 := by
  have := un_le c
  unfold addC; omega
theorem addS_lt (a b c : Nat) : addS a b c < 18446744073709551616 := Nat.mod_lt _ (by omega)
theorem back_d (a b c : Nat) (ha : a < 18446744073709551616) (hb : b < 18446744073709551616) : subD (addS a b c) b c = a := by
  have := un_le c
  unfold subD addS; omega
theorem back_b (a b c : Nat) (ha : a < 18446744073709551616) (hb : b < 18446744073709551616) : subB (addS a b c) b c = addC a b c := by
  have := un_le c
  unfold subB addS addC
  split <;> omega

theorem mulH_lt (a b : Nat) (ha : a < 18446744073709551616) (hb : b < 18446744073709551616) : mulH a b < 18446744073709551616 := by
  unfold mulH
  rw [Nat.div_lt_iff_lt_mul (by omega)]
  exact Nat.mul_lt_mul'' ha hb
theorem mulL_lt (a b : Nat) : mulL a b < 18446744073709551616 := Nat.mod_lt _ (by omega)
theorem mul_parts (a b : Nat) : mulH a b * 18446744073709551616 + mulL a b = a * b := Nat.div_add_mod' _ _
theorem mulH_comm (a b : Nat) : mulH a b = mulH b a := by unfold mulH; rw [Nat.mul_comm]
theorem mulL_comm (a b : Nat) : mulL a b = mulL b a := by unfold mulL; rw [Nat.mul_comm]

theorem add_parts (a b c : Nat) : addC a b c * 18446744073709551616 + addS a b c = a + b + un c := Nat.div_add_mod' _ _
theorem un_of_le (y : Nat) (h : y ≤ 1) : un y = y := by unfold un; split <;> omega

/-! ### The world: what only reads, in an order that is left open -/
def Q (w w' : World) : Prop := ∃ n, w' = w.drewN n
theorem Q.refl (w : World) : Q w w := ⟨0, rfl⟩
theorem Q.drewN {w w' : World} (h : Q w w') (n : Nat) : Q w (w'.drewN n) := by
  obtain ⟨m, rfl⟩ := h
  exact ⟨m + n, World.drewN_drewN _ _ _⟩
theorem Q.drew {w w' : World} (h : Q w w') : Q w w'.drew := h.drewN 1
theorem Q.trans {a b c : World} (h : Q a b) (h' : Q b c) : Q a c := by
  obtain ⟨n, rfl⟩ := h'
  exact h.drewN n
theorem Q.grown {w w' : World} (h : Q w w') : Grown w w' := by
  obtain ⟨n, rfl⟩ := h
  exact Grown.refl w
end Go.Proofs.YtiainhbkoehhjaaDoor
namespace Go.Proofs.YtiainhbkoehhjaaDoor
set_option linter.unusedVariables false

/-- The product of the element i with the one of the other row that lies at n with it. -/
def ct (a b : List Nat) (i n : Nat) : Nat := if i ≤ n then a.getD i 0 * b.getD (n - i) 0 else 0
/-- .. of the first i elements. -/
def cv (a b : List Nat) : Nat → Nat → Nat
  | 0, _ => 0
  | i + 1, n => cv a b i n + ct a b i n
/-- .. and of the element i with the first k. -/
def cvk (a b : List Nat) (i k n : Nat) : Nat := cv a b i n + if i ≤ n ∧ n < i + k then a.getD i 0 * b.getD (n - i) 0 else 0
theorem cvk_zero (a b : List Nat) (i n : Nat) : cvk a b i 0 n = cv a b i n := by
  unfold cvk; rw [if_neg (by omega)]; rfl
theorem cvk_at (a b : List Nat) (i k : Nat) : cvk a b i (k + 1) (i + k) = cvk a b i k (i + k) + a.getD i 0 * b.getD k 0 := by
  unfold cvk; rw [if_pos (by omega), if_neg (by omega), show i + k - i = k from by omega]; omega
theorem cvk_other (a b : List Nat) (i k n : Nat) (h : n ≠ i + k) : cvk a b i (k + 1) n = cvk a b i k n := by
  unfold cvk
  by_cases h' : i ≤ n ∧ n < i + k
  · rw [if_pos h', if_pos (by omega)]
  · rw [if_neg h', if_neg (by omega)]
theorem cvk_end (a b : List Nat) (i n : Nat) : cvk a b i b.length n = cv a b (i + 1) n := by
  show cv a b i n + _ = cv a b i n + ct a b i n
  unfold ct
  by_cases h : i ≤ n
  · by_cases h' : n < i + b.length
    · rw [if_pos ⟨h, h'⟩, if_pos h]
    · rw [if_neg (by omega), if_pos h]
      have : b.getD (n - i) 0 = 0 := by rw [List.getD_eq_getElem?_getD, List.getElem?_eq_none (by omega)]; rfl
      rw [this]; rfl
  · rw [if_neg (by omega), if_neg h]
theorem getD_ltB {B : Nat} {l : List Nat} (h : All B l) (hB : 0 < B) (i : Nat) : l.getD i 0 < B := by
  rw [List.getD_eq_getElem?_getD]
  by_cases hi : i < l.length
  · rw [List.getElem?_eq_getElem hi]; exact h i hi
  · rw [List.getElem?_eq_none (by omega)]; exact hB
theorem getD_in {l : List Nat} {i : Nat} (h : i < l.length) : l.getD i 0 = l[i] := by
  rw [List.getD_eq_getElem?_getD, List.getElem?_eq_getElem h]; rfl
theorem ct_le {a b : List Nat} (ha : All 4294967296 a) (hb : All 4294967296 b) (i n : Nat) : ct a b i n ≤ 18446744065119617025 := by
  unfold ct
  split
  · have h1 := getD_ltB ha (by decide) i
    have h2 := getD_ltB hb (by decide) (n - i)
    exact Nat.le_trans (Nat.mul_le_mul (show a.getD i 0 ≤ 4294967295 by omega) (show b.getD (n - i) 0 ≤ 4294967295 by omega)) (by decide)
  · omega
theorem cv_le {a b : List Nat} (ha : All 4294967296 a) (hb : All 4294967296 b) (n i : Nat) : cv a b i n ≤ i * 18446744065119617025 := by
  obtain ⟨K, hK⟩ : ∃ K, 18446744065119617025 = K := ⟨_, rfl⟩
  have h2 := fun i => ct_le ha hb i n
  rw [hK] at h2 ⊢
  induction i with
  | zero => exact Nat.zero_le _
  | succ i ih =>
    have e : cv a b (i + 1) n = cv a b i n + ct a b i n := rfl
    have := h2 i
    rw [e, Nat.add_mul, Nat.one_mul]
    omega
theorem cvk_le {a b : List Nat} (ha : All 4294967296 a) (hb : All 4294967296 b) (i k n : Nat) : cvk a b i k n ≤ (i + 1) * 18446744065119617025 := by
  have h1 := cv_le ha hb n i
  have h2 := ct_le ha hb i n
  obtain ⟨K, hK⟩ : ∃ K, 18446744065119617025 = K := ⟨_, rfl⟩
  rw [hK] at h1 h2 ⊢
  rw [Nat.add_mul, Nat.one_mul]
  unfold cvk
  unfold ct at h2
  by_cases h : i ≤ n
  · rw [if_pos h] at h2
    split <;> omega
  · rw [if_neg (by omega)]; omega

/-! ### Rows that a function gives -/
def ml {α : Type} (L : Nat) (f : Nat → α) : List α := (List.range L).map f
theorem ml_length {α : Type} (L : Nat) (f : Nat → α) : (ml L f).length = L := by simp [ml]
theorem ml_get {α : Type} {L : Nat} {f : Nat → α} {i : Nat} (h : i < (ml L f).length) : (ml L f)[i] = f i := by simp [ml]
theorem ml_set {α : Type} {L : Nat} {f g : Nat → α} {j : Nat} (h : ∀ n, n ≠ j → g n = f n) : (ml L f).set j (g j) = ml L g := by
  apply List.ext_getElem
  · simp [ml]
  · intro i h1 h2
    rw [List.getElem_set]
    simp only [ml, List.getElem_map, List.getElem_range]
    by_cases e : j = i
    · rw [if_pos e, e]
    · rw [if_neg e, h i (fun e' => e e'.symm)]
theorem ml_congr {α : Type} {L : Nat} {f g : Nat → α} (h : ∀ n, n < L → f n = g n) : ml L f = ml L g := by
  apply List.ext_getElem
  · simp [ml]
  · intro i h1 h2
    simp only [ml, List.getElem_map, List.getElem_range]
    exact h i (by simpa [ml] using h1)
theorem ml_const {α : Type} (L : Nat) (x : α) : ml L (fun _ => x) = List.replicate L x := by
  apply List.ext_getElem
  · simp [ml]
  · intro i h1 h2; simp [ml]
/-- A number as two words. -/
def tw (x : Nat) : Nat × Nat := (x / 18446744073709551616, x % 18446744073709551616)
theorem tw_add (x y : Nat) (hy : y < 18446744073709551616) : tw (x + y) = ((tw x).1 + ((tw x).2 + y) / 18446744073709551616, ((tw x).2 + y) % 18446744073709551616) := by
  unfold tw
  apply Prod.ext
  · show (x + y) / 18446744073709551616 = x / 18446744073709551616 + (x % 18446744073709551616 + y) / 18446744073709551616; omega
  · show (x + y) % 18446744073709551616 = (x % 18446744073709551616 + y) % 18446744073709551616; omega
theorem tw_inj {x y : Nat} (h : tw x = tw y) : x = y := by
  have h1 := congrArg Prod.fst h
  have h2 := congrArg Prod.snd h
  have h3 : x / 18446744073709551616 = y / 18446744073709551616 := h1
  have h4 : x % 18446744073709551616 = y % 18446744073709551616 := h2
  omega
end Go.Proofs.YtiainhbkoehhjaaDoor
namespace Go.Proofs.YtiainhbkoehhjaaDoor
open Go.RowKit
set_option linter.unusedVariables false

/-! ### The same modulo m -/
def Cg (m a b : Nat) : Prop := a % m = b % m
theorem Cg.refl (m a : Nat) : Cg m a a := rfl
theorem Cg.symm {m a b : Nat} (h : Cg m a b) : Cg m b a := Eq.symm h
theorem Cg.trans {m a b c : Nat} (h : Cg m a b) (k : Cg m b c) : Cg m a c := Eq.trans h k
theorem Cg.mul {m a b c d : Nat} (h : Cg m a b) (k : Cg m c d) : Cg m (a * c) (b * d) := by unfold Cg at *; rw [Nat.mul_mod, h, k, ← Nat.mul_mod]
theorem Cg.add {m a b c d : Nat} (h : Cg m a b) (k : Cg m c d) : Cg m (a + c) (b + d) := by unfold Cg at *; rw [Nat.add_mod, h, k, ← Nat.add_mod]
theorem Cg.pow {m a b : Nat} (h : Cg m a b) (n : Nat) : Cg m (a ^ n) (b ^ n) := by unfold Cg at *; rw [Nat.pow_mod, h, ← Nat.pow_mod]
theorem Cg.mod (m a : Nat) : Cg m (a % m) a := Nat.mod_mod a m
theorem Cg.of_eq {m a b : Nat} (h : a = b) : Cg m a b := by rw [h]; rfl
theorem Cg.eq {m a b : Nat} (h : Cg m a b) (ha : a < m) (hb : b < m) : a = b := by unfold Cg at h; rwa [Nat.mod_eq_of_lt ha, Nat.mod_eq_of_lt hb] at h
theorem Cg.over (m a k : Nat) : Cg m (a + k * m) a := Nat.add_mul_mod_self_right a k m

/-- Half of 1 modulo an odd m; what divides by 2^32. -/
def hf (m : Nat) : Nat := (m + 1) / 2
def ri (m : Nat) : Nat := hf m ^ 32
def rd (m t : Nat) : Nat := t * ri m % m
/-- A number in its form; one taken out. -/
def fm (m v : Nat) : Nat := v * 4294967296 % m

theorem hf_two (m : Nat) (h : m % 2 = 1) : 2 * hf m = m + 1 := by unfold hf; omega
theorem hf_cg (m : Nat) (h : m % 2 = 1) : Cg m (2 * hf m) 1 := by
  rw [hf_two m h]
  have := Cg.over m 1 1
  rwa [Nat.one_mul, Nat.add_comm] at this
theorem two32 : (2 : Nat) ^ 32 = 4294967296 := by decide
theorem ri_cg (m : Nat) (h : m % 2 = 1) : Cg m (4294967296 * ri m) 1 := by
  have e := (hf_cg m h).pow 32
  rw [Nat.mul_pow, Nat.one_pow, two32] at e
  exact e
theorem rd_lt (m t : Nat) (h : 0 < m) : rd m t < m := Nat.mod_lt _ h
theorem fm_lt (m v : Nat) (h : 0 < m) : fm m v < m := Nat.mod_lt _ h
theorem rd_cg (m t : Nat) : Cg m (rd m t) (t * ri m) := Cg.mod _ _
theorem fm_cg (m v : Nat) : Cg m (fm m v) (v * 4294967296) := Cg.mod _ _

theorem rd_back (m t : Nat) (h : m % 2 = 1) : Cg m (rd m t * 4294967296) t := by
  refine ((rd_cg m t).mul (Cg.refl m 4294967296)).trans ?_
  rw [Nat.mul_assoc, Nat.mul_comm (ri m)]
  have := (Cg.refl m t).mul (ri_cg m h)
  rwa [Nat.mul_one] at this
theorem rd_only (m r t : Nat) (h : m % 2 = 1) (hr : r < m) (e : Cg m (r * 4294967296) t) : r = rd m t := by
  refine Cg.eq (Cg.trans ?_ (rd_cg m t).symm) hr (rd_lt m t (by omega))
  refine Cg.trans ?_ (e.mul (Cg.refl m (ri m)))
  rw [Nat.mul_assoc]
  have := (Cg.refl m r).mul (ri_cg m h).symm
  rwa [Nat.mul_one] at this
/-- Products of forms are the forms of products. -/
theorem rd_fm (m x y : Nat) (h : m % 2 = 1) : rd m (fm m x * fm m y) = fm m (x * y) := by
  refine (rd_only m _ _ h (fm_lt m _ (by omega)) ?_).symm
  refine ((fm_cg m (x * y)).mul (Cg.refl m _)).trans (Cg.trans ?_ ((fm_cg m x).mul (fm_cg m y)).symm)
  exact Cg.of_eq (by simp only [Nat.mul_assoc, Nat.mul_left_comm])
theorem rd_of_fm (m x : Nat) (h : m % 2 = 1) : rd m (fm m x) = x % m := by
  refine (rd_only m _ _ h (Nat.mod_lt _ (by omega)) ?_).symm
  exact ((Cg.mod m x).mul (Cg.refl m _)).trans (fm_cg m x).symm
theorem fm_of_rd (m a : Nat) (h : m % 2 = 1) (ha : a < m) : fm m (rd m a) = a :=
  Cg.eq ((fm_cg m _).trans (rd_back m a h)) (fm_lt m _ (by omega)) ha
theorem fm_mod (m a : Nat) : fm m (a % m) = fm m a := by unfold fm; rw [Nat.mod_mul_mod]
theorem fm_same {m a b : Nat} (h : Cg m a b) : fm m a = fm m b := h.mul (Cg.refl m _)
/-- Taken in by the square. -/
theorem rd_sq (m a : Nat) (h : m % 2 = 1) : rd m (a * (fm m 1 * fm m 1 % m)) = fm m a := by
  refine (rd_only m _ _ h (fm_lt m _ (by omega)) ?_).symm
  refine ((fm_cg m a).mul (Cg.refl m _)).trans ((Cg.refl m a).mul (((Cg.mod m _).trans ((fm_cg m 1).mul (fm_cg m 1))).symm) |> Cg.trans (Cg.of_eq ?_))
  simp only [Nat.one_mul, Nat.mul_assoc]

/-! ### The last subtraction -/
def bel (m a : Nat) : Nat := if m ≤ a then a - m else a
theorem bel_mod (m a : Nat) (h : a < 2 * m) : bel m a = a % m := by
  unfold bel
  split
  · rename_i h1
    rw [Nat.mod_eq_sub_mod h1, Nat.mod_eq_of_lt (by omega)]
  · rw [Nat.mod_eq_of_lt (by omega)]

/-- Neg is what it must be. -/
def NegOk (m n : Nat) : Prop := (n * m + 1) % 4294967296 = 0
theorem redc_sum (m n t : Nat) (hn : NegOk m n) : (t + (t % 4294967296 * n % 4294967296) * m) % 4294967296 = 0 := by
  have e : Cg 4294967296 (t + (t % 4294967296 * n % 4294967296) * m) (t * (n * m + 1)) := by
    refine ((Cg.refl _ t).add (((Cg.mod _ _).trans ((Cg.mod _ t).mul (Cg.refl _ n))).mul (Cg.refl _ m))).trans (Cg.of_eq ?_)
    rw [Nat.mul_add, Nat.mul_one, Nat.mul_assoc, Nat.add_comm]
  refine Eq.trans e ?_
  rw [Nat.mul_mod, hn, Nat.mul_zero]
/-- The number q of Redc. -/
def rq (n t : Nat) : Nat := t % 4294967296 * n % 4294967296
def rs (m n t : Nat) : Nat := t + rq n t * m
theorem rq_lt (n t : Nat) : rq n t < 4294967296 := Nat.mod_lt _ (by decide)
theorem rqm_lt (m n t : Nat) (hm : m < 2147483648) : rq n t * m < 9223372036854775808 :=
  Nat.lt_of_lt_of_le (Nat.mul_lt_mul'' (rq_lt n t) hm) (by decide)
theorem tm_lt (m t : Nat) (hm : m < 2147483648) (ht : t < m * 4294967296) : t < 9223372036854775808 := by omega
theorem redc_eq (m n t : Nat) (h : m % 2 = 1) (hn : NegOk m n) (ht : t < m * 4294967296) : rs m n t / 4294967296 < 2 * m ∧ bel m (rs m n t / 4294967296) = rd m t := by
  have hs := redc_sum m n t hn
  have hq : rq n t * m < m * 4294967296 := by rw [Nat.mul_comm m]; exact Nat.mul_lt_mul_of_pos_right (rq_lt n t) (by omega)
  obtain ⟨u, hu⟩ : ∃ u, rs m n t / 4294967296 = u := ⟨_, rfl⟩
  have hu2 : rs m n t = u * 4294967296 := by
    have h1 : rs m n t % 4294967296 = 0 := hs
    omega
  rw [hu]
  have hlt : u < 2 * m := by
    have h2 : rs m n t = t + rq n t * m := rfl
    obtain ⟨z, hz⟩ : ∃ z, rq n t * m = z := ⟨_, rfl⟩
    rw [hz] at h2 hq
    omega
  refine ⟨hlt, ?_⟩
  rw [bel_mod m u hlt]
  refine rd_only m _ _ h (Nat.mod_lt _ (by omega)) ?_
  refine ((Cg.mod m u).mul (Cg.refl m _)).trans ?_
  rw [← hu2]
  exact Cg.over m t _

/-! ### Doubled again and again -/
theorem dbl_step (m a : Nat) (h : a < m) : bel m (2 * a) = 2 * a % m := bel_mod m _ (by omega)
def sh (m a k : Nat) : Nat := a * 2 ^ k % m
theorem sh_zero (m a : Nat) (h : a < m) : sh m a 0 = a := by unfold sh; rw [Nat.pow_zero, Nat.mul_one, Nat.mod_eq_of_lt h]
theorem sh_succ (m a k : Nat) (h : 0 < m) : bel m (2 * sh m a k) = sh m a (k + 1) := by
  rw [dbl_step m (sh m a k) (Nat.mod_lt _ h)]
  unfold sh
  rw [Nat.mul_mod_mod, Nat.pow_succ]
  congr 1
  simp only [Nat.mul_left_comm, Nat.mul_comm]
theorem sh_all (m a : Nat) : sh m a 32 = fm m a := by unfold sh fm; rw [two32]
theorem sh_lt (m a k : Nat) (h : 0 < m) : sh m a k < m := Nat.mod_lt _ h
end Go.Proofs.YtiainhbkoehhjaaDoor
