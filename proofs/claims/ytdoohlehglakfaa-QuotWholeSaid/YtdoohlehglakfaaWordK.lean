/-
  The plain arithmetic under math/bits.Div64: one figure of a quotient, to the base 2^32, is guessed from the divisor's upper half and lowered till it is right. No program in sight.
-/
import Derived.Test.YtdoohlehglakfaaWordP
namespace Go.Proofs.Ytdoohlehglakfaa
set_option linter.unusedVariables false

/-- The figure that is sought. -/
def kq (u v y1 y0 : Nat) : Nat := (u * 4294967296 + v) / (y1 * 4294967296 + y0)
def kr (u v y1 y0 : Nat) : Nat := (u * 4294967296 + v) % (y1 * 4294967296 + y0)

/-- The divisor's halves, and what is to be divided by it. -/
def KD (u v y1 y0 : Nat) : Prop := 2147483648 ≤ y1 ∧ y1 < 4294967296 ∧ y0 < 4294967296 ∧ v < 4294967296 ∧ u < y1 * 4294967296 + y0

/-- What holds of a guess q and what is left r, at the loop's head. -/
def KI (u v y1 y0 q r : Nat) : Prop := KD u v y1 y0 ∧ q * y1 + r = u ∧ r < 4294967296 ∧ q ≤ 4294967297 ∧ kq u v y1 y0 ≤ q

theorem kq_lt {u v y1 y0 : Nat} (h : KD u v y1 y0) : kq u v y1 y0 < 4294967296 := by
  obtain ⟨a, b, c, d, e⟩ := h
  unfold kq
  rw [Nat.div_lt_iff_lt_mul (by omega)]
  omega

theorem kq_mul {u v y1 y0 : Nat} : kq u v y1 y0 * (y1 * 4294967296 + y0) ≤ u * 4294967296 + v := by
  unfold kq; exact Nat.div_mul_le_self _ _

theorem k_start {u v y1 y0 : Nat} (h : KD u v y1 y0) : KI u v y1 y0 (u / y1) (u % y1) := by
  have hk := h
  obtain ⟨a, b, c, d, e⟩ := h
  have hp : 0 < y1 := by omega
  refine ⟨hk, Nat.div_add_mod' u y1, Nat.lt_trans (Nat.mod_lt _ hp) b, ?_, ?_⟩
  · have : u / y1 < 4294967298 := by
      rw [Nat.div_lt_iff_lt_mul hp]; omega
    omega
  · rw [Nat.le_div_iff_mul_le hp]
    have hm := @kq_mul u v y1 y0
    rw [Nat.mul_add, ← Nat.mul_assoc] at hm
    generalize kq u v y1 y0 * y1 = p at *
    omega

theorem k_over {u v y1 y0 q r : Nat} (h : KI u v y1 y0 q r) (hc : 4294967296 ≤ q ∨ 4294967296 * r + v < q * y0) : kq u v y1 y0 < q := by
  obtain ⟨hk, e1, e2, e3, e4⟩ := h
  have hl := kq_lt hk
  rcases hc with hc | hc
  · omega
  · refine Nat.lt_of_not_le fun hle => ?_
    have hm := @kq_mul u v y1 y0
    have h2 := Nat.mul_le_mul_right (y1 * 4294967296 + y0) hle
    have h3 : q * (y1 * 4294967296 + y0) ≤ u * 4294967296 + v := Nat.le_trans h2 hm
    rw [Nat.mul_add, ← Nat.mul_assoc] at h3
    generalize q * y1 = p at *
    generalize q * y0 = p0 at *
    omega

theorem k_done {u v y1 y0 q r : Nat} (h : KI u v y1 y0 q r) (hc : q * y0 ≤ 4294967296 * r + v) : q = kq u v y1 y0 := by
  obtain ⟨hk, e1, e2, e3, e4⟩ := h
  obtain ⟨a, b, c, d, e⟩ := hk
  refine Nat.le_antisymm ?_ e4
  unfold kq
  rw [Nat.le_div_iff_mul_le (by omega), Nat.mul_add, ← Nat.mul_assoc]
  generalize q * y1 = p at *
  generalize q * y0 = p0 at *
  omega

theorem k_low {q y1 r u : Nat} (hq : 1 ≤ q) (e : q * y1 + r = u) : (q - 1) * y1 + (r + y1) = u := by
  obtain ⟨p, rfl⟩ : ∃ p, q = p + 1 := ⟨q - 1, by omega⟩
  rw [Nat.add_sub_cancel]
  rw [Nat.add_mul, Nat.one_mul] at e
  omega

theorem k_break {u v y1 y0 q r : Nat} (h : KI u v y1 y0 q r) (hc : 4294967296 ≤ q ∨ 4294967296 * r + v < q * y0) (hb : 4294967296 ≤ r + y1) : q - 1 = kq u v y1 y0 := by
  have ho := k_over h hc
  obtain ⟨hk, e1, e2, e3, e4⟩ := h
  have hl := k_low (by omega) e1
  obtain ⟨a, b, c, d, e⟩ := hk
  refine Nat.le_antisymm ?_ (by omega)
  have hy : (q - 1) * y0 ≤ 4294967296 * y0 := Nat.mul_le_mul_right y0 (by omega)
  unfold kq
  rw [Nat.le_div_iff_mul_le (by omega), Nat.mul_add, ← Nat.mul_assoc]
  generalize (q - 1) * y1 = p at *
  generalize (q - 1) * y0 = p0 at *
  omega

theorem k_next {u v y1 y0 q r : Nat} (h : KI u v y1 y0 q r) (hc : 4294967296 ≤ q ∨ 4294967296 * r + v < q * y0) (hb : r + y1 < 4294967296) : KI u v y1 y0 (q - 1) (r + y1) := by
  have ho := k_over h hc
  obtain ⟨hk, e1, e2, e3, e4⟩ := h
  exact ⟨hk, k_low (by omega) e1, hb, by omega, by omega⟩

/-! ### In the walk's own words -/

theorem k_prod {u v y1 y0 q r : Nat} (h : KI u v y1 y0 q r) (hq : q < 4294967296) : IntKind.u64.wrap ((q : Int) * (y0 : Int)) = ((q * y0 : Nat) : Int) := by
  obtain ⟨⟨a, b, c, d, e⟩, e1, e2, e3, e4⟩ := h
  rw [← Int.natCast_mul]
  refine w64 _ ?_
  have : q * y0 ≤ 4294967295 * 4294967295 := Nat.mul_le_mul (by omega) (by omega)
  omega

theorem k_sum {u v y1 y0 q r : Nat} (h : KI u v y1 y0 q r) : IntKind.u64.wrap (IntKind.u64.wrap (4294967296 * (r : Int)) + (v : Int)) = ((4294967296 * r + v : Nat) : Int) := by
  obtain ⟨⟨a, b, c, d, e⟩, e1, e2, e3, e4⟩ := h
  simp only [IntKind.wrap_u64]
  omega

theorem k_less {u v y1 y0 q r : Nat} (h : KI u v y1 y0 q r) (hc : 4294967296 ≤ q ∨ 4294967296 * r + v < q * y0) : IntKind.u64.wrap ((q : Int) - 1) = ((q - 1 : Nat) : Int) := by
  have ho := k_over h hc
  obtain ⟨⟨a, b, c, d, e⟩, e1, e2, e3, e4⟩ := h
  simp only [IntKind.wrap_u64]
  omega

theorem k_more {u v y1 y0 q r : Nat} (h : KI u v y1 y0 q r) : IntKind.u64.wrap ((r : Int) + (y1 : Int)) = ((r + y1 : Nat) : Int) := by
  obtain ⟨⟨a, b, c, d, e⟩, e1, e2, e3, e4⟩ := h
  simp only [IntKind.wrap_u64]
  omega

/-- What is left behind the figure, as the program takes it. -/
theorem k_rest {u v y1 y0 : Nat} (h : KD u v y1 y0) :
    IntKind.u64.wrap (IntKind.u64.wrap (IntKind.u64.wrap ((u : Int) * 4294967296) + (v : Int)) - IntKind.u64.wrap ((kq u v y1 y0 : Int) * ((y1 * 4294967296 + y0 : Nat) : Int))) = ((kr u v y1 y0 : Nat) : Int) := by
  obtain ⟨a, b, c, d, e⟩ := h
  have hd : kq u v y1 y0 * (y1 * 4294967296 + y0) + kr u v y1 y0 = u * 4294967296 + v := Nat.div_add_mod' _ _
  have hr : kr u v y1 y0 < y1 * 4294967296 + y0 := Nat.mod_lt _ (by omega)
  rw [← Int.natCast_mul]
  generalize kq u v y1 y0 * (y1 * 4294967296 + y0) = p at *
  generalize kr u v y1 y0 = x at *
  simp only [IntKind.wrap_u64]
  omega

/-- Two figures, one behind the other. -/
theorem k_two' (K u v1 v0 Y : Nat) (hY : 0 < Y) :
    ((u * K + v1) / Y) * K + (((u * K + v1) % Y) * K + v0) / Y = (u * (K * K) + (v1 * K + v0)) / Y ∧
    (((u * K + v1) % Y) * K + v0) % Y = (u * (K * K) + (v1 * K + v0)) % Y := by
  have h := Nat.div_add_mod (u * K + v1) Y
  generalize (u * K + v1) / Y = q at h ⊢
  generalize (u * K + v1) % Y = r at h ⊢
  have e : u * (K * K) + (v1 * K + v0) = (r * K + v0) + Y * (q * K) := by
    rw [← Nat.mul_assoc, ← Nat.mul_assoc, ← Nat.add_assoc, ← Nat.add_mul, ← h, Nat.add_mul]
    omega
  generalize r * K + v0 = x at e ⊢
  refine ⟨?_, ?_⟩
  · rw [e, Nat.add_mul_div_left _ _ hY]
    exact Nat.add_comm _ _
  · rw [e, Nat.add_mul_mod_self_left]
theorem k_two (u v1 v0 Y : Nat) (hY : 0 < Y) :
    ((u * 4294967296 + v1) / Y) * 4294967296 + (((u * 4294967296 + v1) % Y) * 4294967296 + v0) / Y = (u * 18446744073709551616 + (v1 * 4294967296 + v0)) / Y ∧
    (((u * 4294967296 + v1) % Y) * 4294967296 + v0) % Y = (u * 18446744073709551616 + (v1 * 4294967296 + v0)) % Y := k_two' 4294967296 u v1 v0 Y hY
end Go.Proofs.Ytdoohlehglakfaa
