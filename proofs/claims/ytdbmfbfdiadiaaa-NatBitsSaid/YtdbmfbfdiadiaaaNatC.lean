/-
  What package nat is to answer (layer 4), as properties of its functions: the walks of the statements stand on these alone; that the code has them is shown elsewhere.
-/
import Derived.Test.YtdbmfbfdiadiaaaNtL
import Derived.Test.YtdbmfbfdiadiaaaNtJ
namespace Go.Proofs.Ytdbmfbfdiadiaaa
open Go.RowKit
set_option linter.unusedVariables false

/-- v reads as the number X. -/
def Nu (W : World) (v : Value) (X : Nat) : Prop := ∃ l, Rw .u64 W v l ∧ All 18446744073709551616 l ∧ l.length < 1048576 ∧ val 18446744073709551616 l = X
theorem Nu.bl {W w : World} {v : Value} {X : Nat} (h : Nu W v X) (g : Bl W w) : Nu w v X := by
  obtain ⟨l, h1, h2⟩ := h
  exact ⟨l, h1.bl g, h2⟩
theorem Nu.mk {W : World} {v : Value} {l : List Nat} (h : Rw .u64 W v l) (ha : All 18446744073709551616 l) (hl : l.length < 1048576) : Nu W v (val 18446744073709551616 l) := ⟨l, h, ha, hl, rfl⟩
/-- X has k words at most. -/
def Sz (k X : Nat) : Prop := X < 18446744073709551616 ^ k
theorem Sz.mono {k j X : Nat} (h : Sz k X) (hk : k ≤ j) : Sz j X := Nat.lt_of_lt_of_le h (Nat.pow_le_pow_right (by decide) hk)
theorem Sz.le {k X Y : Nat} (h : Sz k X) (hy : Y ≤ X) : Sz k Y := Nat.lt_of_le_of_lt hy h
theorem Sz.of_val {l : List Nat} (ha : All 18446744073709551616 l) {k : Nat} (hl : l.length ≤ k) : Sz k (val 18446744073709551616 l) := Sz.mono (val_lt _ (by decide) l ha) hl
theorem Sz.add {k X Y : Nat} (h : Sz k X) (h' : Sz k Y) : Sz (k + 1) (X + Y) := by
  unfold Sz at *
  rw [Nat.pow_succ]
  omega
theorem Sz.word {k X w : Nat} (h : Sz k X) (hw : w < 18446744073709551616) : Sz (k + 1) (X * w) := by
  unfold Sz at *
  rw [Nat.pow_succ]
  exact Nat.mul_lt_mul'' h hw
theorem Sz.shl {k X n j : Nat} (h : Sz k X) (hn : n ≤ 64 * j) : Sz (k + j) (X * 2 ^ n) := by
  unfold Sz at *
  have e : (18446744073709551616 : Nat) = 2 ^ 64 := by decide
  have h1 : 2 ^ n ≤ 18446744073709551616 ^ j := by
    rw [e, ← Nat.pow_mul]
    exact Nat.pow_le_pow_right (by decide) hn
  rw [Nat.pow_add]
  exact Nat.lt_of_lt_of_le (Nat.mul_lt_mul_of_pos_right h (Nat.two_pow_pos n)) (Nat.mul_le_mul_left _ h1)
theorem Nu.dig {W : World} {v : Value} {X k : Nat} (h : Rw .u64 W v (dig 18446744073709551616 X)) (hs : Sz k X) (hk : k < 1048576) : Nu W v X :=
  ⟨_, h, all_dig _ (by decide) X, Nat.lt_of_le_of_lt (dig_len_of_lt _ (by decide) X k hs) hk, val_dig _ (by decide) X⟩

def CNorm : Prop := ∀ (W : World) (v : Value) (X : Nat), Nu W v X → Calls Try.prog 17 #[v] W (RwEnd .u64 W (dig 18446744073709551616 X))
def CCmp : Prop := ∀ (W : World) (v u : Value) (X Y : Nat), Nu W v X → Nu W u Y → Calls Try.prog 23 #[v, u] W fun e w => e = .returned (.int .i64 (cmpi X Y)) ∧ Bl W w
def CAdd : Prop := ∀ (W : World) (v u : Value) (X Y : Nat), Nu W v X → Nu W u Y → Calls Try.prog 19 #[v, u] W (RwEnd .u64 W (dig 18446744073709551616 (X + Y)))
def CSub : Prop := ∀ (W : World) (v u : Value) (X Y : Nat), Nu W v X → Nu W u Y → Calls Try.prog 14 #[v, u] W (if X < Y then RwErr .u64 W [] 3 else RwErr .u64 W (dig 18446744073709551616 (X - Y)) 0)
def CShl : Prop := ∀ (W : World) (v : Value) (X : Nat) (n : Int), Nu W v X → n ≤ 33554432 → -9223372036854775808 ≤ n → Calls Try.prog 31 #[v, .int .i64 n] W (RwEnd .u64 W (dig 18446744073709551616 (X * 2 ^ n.toNat)))
def CShr : Prop := ∀ (W : World) (v : Value) (X : Nat) (n : Int), Nu W v X → n ≤ 33554432 → -9223372036854775808 ≤ n → Calls Try.prog 29 #[v, .int .i64 n] W (RwEnd .u64 W (dig 18446744073709551616 (X / 2 ^ n.toNat)))
def CLow : Prop := ∀ (W : World) (v : Value) (X : Nat) (n : Int), Nu W v X → n ≤ 33554432 → -9223372036854775808 ≤ n → Calls Try.prog 30 #[v, .int .i64 n] W (RwEnd .u64 W (dig 18446744073709551616 (X % 2 ^ n.toNat)))
def CLen : Prop := ∀ (W : World) (v : Value) (X : Nat), Nu W v X → Calls Try.prog 25 #[v] W fun e w => e = .returned (.int .i64 ((blen X : Nat) : Int)) ∧ Bl W w
def CScale : Prop := ∀ (W : World) (v : Value) (X y : Nat), Nu W v X → y < 18446744073709551616 → Calls Try.prog 21 #[v, .int .u64 (y : Int)] W (RwEnd .u64 W (dig 18446744073709551616 (X * y)))

/-! ### few, ordered -/
set_option maxRecDepth 100000 in
theorem few_yes (v u : Value) (l m : List Nat) (hl : l.length ≤ 40) (hm : m.length ≤ 40) (w : World) (h1 : Rw .u64 w v l) (h2 : Rw .u64 w u m) :
    Calls Try.prog 12 #[v, u] w fun e w' => e = .returned (.bool true) ∧ w = w' := by
  obtain ⟨A, c, rfl, _⟩ := h1
  obtain ⟨B, d, rfl, _⟩ := h2
  obtain ⟨n, hn⟩ : ∃ n, l.length = n := ⟨_, rfl⟩
  obtain ⟨k, hk⟩ : ∃ n, m.length = n := ⟨_, rfl⟩
  rw [hn] at hl ⊢
  rw [hk] at hm ⊢
  have a1 : decide ((n : Int) ≤ 40) = true := decide_eq_true (by omega)
  have a2 : decide ((k : Int) ≤ 40) = true := decide_eq_true (by omega)
  clear hn hk hl hm
  go_enter Try.func12, Try.ntmps12
  go_wp2
  go_ret
  exact ⟨rfl, rfl⟩
set_option maxRecDepth 100000 in
theorem few_no (v u : Value) (l m : List Nat) (h : ¬ (l.length ≤ 40 ∧ m.length ≤ 40)) (hb : l.length ≤ 9223372036854775807) (hb' : m.length ≤ 9223372036854775807) (w : World) (h1 : Rw .u64 w v l) (h2 : Rw .u64 w u m) :
    Calls Try.prog 12 #[v, u] w fun e w' => e = .returned (.bool false) ∧ w = w' := by
  obtain ⟨A, c, rfl, _⟩ := h1
  obtain ⟨B, d, rfl, _⟩ := h2
  obtain ⟨n, hn⟩ : ∃ n, l.length = n := ⟨_, rfl⟩
  obtain ⟨k, hk⟩ : ∃ n, m.length = n := ⟨_, rfl⟩
  rw [hn] at h hb ⊢
  rw [hk] at h hb' ⊢
  have hnb : (n : Int) ≤ 9223372036854775807 := by omega
  have hkb : (k : Int) ≤ 9223372036854775807 := by omega
  by_cases hn1 : n ≤ 40
  · have a1 : decide ((n : Int) ≤ 40) = true := decide_eq_true (by omega)
    have a2 : decide ((k : Int) ≤ 40) = false := decide_eq_false (by omega)
    clear hn hk h hb hb' hn1 hnb hkb
    go_enter Try.func12, Try.ntmps12
    go_wp2
    go_ret
    exact ⟨rfl, rfl⟩
  · have a1 : decide ((n : Int) ≤ 40) = false := decide_eq_false (by omega)
    clear hn hk h hb hb' hn1 hnb hkb
    go_enter Try.func12, Try.ntmps12
    go_wp2
    go_ret
    exact ⟨rfl, rfl⟩
theorem rw_len {k : IntKind} {w : World} {v : Value} {l : List Nat} (h : Rw k w v l) : l.length ≤ 9223372036854775807 := by
  obtain ⟨A, c, _, h1, h2, _⟩ := h
  unfold maxLen at h2
  omega

set_option maxRecDepth 100000 in
theorem ordered_any (v : Value) (X : Nat) (hl : (dig 18446744073709551616 X).length < 1048576) (w : World) (h : Rw .u64 w v (dig 18446744073709551616 X)) :
    Calls Try.prog 32 #[v] w fun e w' => e = .returned (.bool true) ∧ Bl w w' := by
  obtain ⟨A, c, rfl, _, _, _, hs⟩ := h
  have hn := nm_dig 18446744073709551616 (by decide) X
  obtain ⟨l, el⟩ : ∃ l, dig 18446744073709551616 X = l := ⟨_, rfl⟩
  rw [el] at hn hs hl ⊢
  rcases Nat.eq_zero_or_pos l.length with h0 | h0
  · have : l = [] := List.length_eq_zero_iff.1 h0
    subst this
    clear hn hs hl el h0
    go_enter Try.func32, Try.ntmps32
    go_wp2
    go_ret
    exact ⟨rfl, Bl.refl w⟩
  · have hne : l ≠ [] := List.length_pos_iff.1 h0
    have hlast := hn hne
    rw [List.getLast_eq_getElem] at hlast
    obtain ⟨ad, hA, hc⟩ := hs.at_ (i := l.length - 1) (by omega)
    obtain ⟨x, hx⟩ : ∃ x, l[l.length - 1]'(by omega) = x := ⟨_, rfl⟩
    rw [hx] at hlast hc
    obtain ⟨k, hk⟩ : ∃ k, l.length = k + 1 := ⟨l.length - 1, by omega⟩
    rw [hk, Nat.add_sub_cancel] at hc
    rw [hk]
    obtain ⟨m, hm⟩ : ∃ m, k + 1 = m := ⟨_, rfl⟩
    rw [hm]
    have n1 : ((m : Int) == 0) = false := by rw [beq_eq_false_iff_ne]; omega
    have n2 : (m : Int) - 1 = (k : Int) := by omega
    have n3 : (0 : Int) ≤ (k : Int) ∧ (k : Int) < (m : Int) := by omega
    have n4 : ((x : Int) != 0) = true := by rw [bne_iff_ne]; omega
    have n5 : (m : Int) ≤ 1048576 := by omega
    subst hA
    clear hlast hx hn hs hl el h0 hne hk hm
    go_enter Try.func32, Try.ntmps32
    go_wp2
    go_ret
    exact ⟨rfl, Bl.refl w⟩
end Go.Proofs.Ytdbmfbfdiadiaaa
