/-
  A slice that reads as a number; what package nat's Norm, Cmp, Add, Sub, Shl, Scale are to answer, as properties. · Rows of one and two words, read cell by cell. · The document's answers of layer 4 as contracts over numbers, for the walks of the statements. · Bits of moved numbers; a row of nothing. · The document's answers of layer 5 over numbers: Times, Half.
-/
import Derived.Test.YtiainhbkoehhjaaDoorPk23
import Derived.Test.YtiainhbkoehhjaaDoorPk27
namespace Go.Proofs.YtiainhbkoehhjaaDoor
open Go.RowKit
set_option linter.unusedVariables false

/-- v reads as the number X. -/
def Nu (W : World) (v : Value) (X : Nat) : Prop := ∃ l, Rw .u64 W v l ∧ All 18446744073709551616 l ∧ l.length < 1048576 ∧ val 18446744073709551616 l = X
theorem Nu.bl {W w : World} {v : Value} {X : Nat} (h : Nu W v X) (g : Bl W w) : Nu w v X := by
  obtain ⟨l, h1, h2⟩ := h
  exact ⟨l, h1.bl g, h2⟩
theorem Nu.mk {W : World} {v : Value} {l : List Nat} (h : Rw .u64 W v l) (ha : All 18446744073709551616 l) (hl : l.length < 1048576) : Nu W v (val 18446744073709551616 l) := ⟨l, h, ha, hl, rfl⟩
/-- X has k words at most. -/
def Sz (k X : Nat) : Prop := X < 18446744073709551616 ^ k
theorem Sz.mono {k j X : Nat} (h : Sz k X) (hk : k ≤ j) : Sz j X := Nat.lt_of_lt_of_le h (Nat.pow_le_pow_right (by decide) hk)
theorem Sz.le {k X Y : Nat} (h : Sz k X) (hy : Y ≤ X) : Sz k Y := Nat.lt_of_le_of_lt hy h
theorem Sz.of_val {l : List Nat} (ha : All 18446744073709551616 l) {k : Nat} (hl : l.length ≤ k) : Sz k (val 18446744073709551616 l) := Sz.mono (val_lt _ (by decide) l ha) hl
theorem Sz.add {k X Y : Nat} (h : Sz k X) (h' : Sz k Y) : Sz (k + 1) (X + Y) := by
  unfold Sz at *
  rw [Nat.pow_succ]
  omega
theorem Sz.word {k X w : Nat} (h : Sz k X) (hw : w < 18446744073709551616) : Sz (k + 1) (X * w) := by
  unfold Sz at *
  rw [Nat.pow_succ]
  exact Nat.mul_lt_mul'' h hw
theorem Sz.shl {k X n j : Nat} (h : Sz k X) (hn : n ≤ 64 * j) : Sz (k + j) (X * 2 ^ n) := by
  unfold Sz at *
  have e : (18446744073709551616 : Nat) = 2 ^ 64 := by decide
  have h1 : 2 ^ n ≤ 18446744073709551616 ^ j := by
    rw [e, ← Nat.pow_mul]
    exact Nat.pow_le_pow_right (by decide) hn
  rw [Nat.pow_add]
  exact Nat.lt_of_lt_of_le (Nat.mul_lt_mul_of_pos_right h (Nat.two_pow_pos n)) (Nat.mul_le_mul_left _ h1)
theorem Nu.dig {W : World} {v : Value} {X k : Nat} (h : Rw .u64 W v (dig 18446744073709551616 X)) (hs : Sz k X) (hk : k < 1048576) : Nu W v X :=
  ⟨_, h, all_dig _ (by decide) X, Nat.lt_of_le_of_lt (dig_len_of_lt _ (by decide) X k hs) hk, val_dig _ (by decide) X⟩
theorem rw_len {k : IntKind} {w : World} {v : Value} {l : List Nat} (h : Rw k w v l) : l.length ≤ 9223372036854775807 := by
  obtain ⟨A, c, _, h1, h2, _⟩ := h
  unfold maxLen at h2
  omega

end Go.Proofs.YtiainhbkoehhjaaDoor
namespace Go.Proofs.YtiainhbkoehhjaaDoor
open Go.RowKit
set_option linter.unusedVariables false

theorem nu_lit {w : World} {e : TypeId} {x b : Nat} {z : Int} (hb : b = w.heap.size) (hz : z = (x : Int)) (hx : x < 18446744073709551616) : Nu (w.alloc (.cells #[.int .u64 z] e)) (.slice (some ⟨b, 0, none⟩) 1 1) x := by
  subst hz
  exact ⟨[x], lit_at hb, all_cons hx (all_nil _), by simp, val_one _ x⟩

theorem row1 {k : IntKind} {w : World} {v : Value} {x : Nat} (h : Rw k w v [x]) : ∃ ad c, v = .slice (some ad) 1 c ∧ ad.block < w.heap.size ∧ w.cell? (ad.add 0) = some (.int k (x : Int)) := by
  obtain ⟨A, c, hv, _, _, _, hs⟩ := h
  obtain ⟨ad, hA, hb, hx⟩ := hs (by simp)
  subst hA
  exact ⟨ad, c, hv, hb, hx 0 (by simp)⟩
theorem row2 {k : IntKind} {w : World} {v : Value} {x y : Nat} (h : Rw k w v [x, y]) : ∃ ad c, v = .slice (some ad) 2 c ∧ ad.block < w.heap.size ∧ w.cell? (ad.add 0) = some (.int k (x : Int)) ∧ w.cell? (ad.add 1) = some (.int k (y : Int)) := by
  obtain ⟨A, c, hv, _, _, _, hs⟩ := h
  obtain ⟨ad, hA, hb, hx⟩ := hs (by simp)
  subst hA
  exact ⟨ad, c, hv, hb, hx 0 (by simp), hx 1 (by simp)⟩
theorem keep_cell {W w : World} {a : Addr} {i : Nat} {u : Value} (h : W.cell? (a.add i) = some u) (hb : a.block < W.heap.size) (g : Bl W w) : w.cell? (a.add i) = some u := (g.cell (by rw [blk_add]; exact hb)).trans h
/-- The highest place of a row. -/
theorem src_last {k : IntKind} {w : World} {A : Option Addr} {l : List Nat} {j n x : Nat} (h : Src k w A l) (hx : l[j]? = some x) (hn : l.length = n) : ∃ ad, A = some ad ∧ w.cell? (ad.add j) = some (.int k (x : Int)) := by
  obtain ⟨hj, e⟩ := List.getElem?_eq_some_iff.1 hx
  obtain ⟨ad, ha, hc⟩ := h.at_ hj
  rw [e] at hc
  exact ⟨ad, ha, hc⟩
end Go.Proofs.YtiainhbkoehhjaaDoor
namespace Go.Proofs.YtiainhbkoehhjaaDoor
open Go.RowKit
set_option linter.unusedVariables false

/-- v reads as the digits of X. -/
abbrev De (W : World) (v : Value) (X : Nat) : Prop := Rw .i64 W v (dig 65536 X)
theorem De.bl {W w : World} {v : Value} {X : Nat} (h : De W v X) (g : Bl W w) : De w v X := Rw.bl h g
/-- X has 200 words at most. -/
def Sd (X : Nat) : Prop := Sz 200 X
theorem Sz.sd {k X : Nat} (h : Sz k X) (hk : k ≤ 200) : Sd X := h.mono hk
theorem dlen (X k : Nat) (h : Sz k X) : (dig 65536 X).length ≤ 4 * k := by
  unfold Sz at h
  rw [w64_pow] at h
  exact dig_len_of_lt 65536 (by decide) X _ h
theorem Sd.len {X : Nat} (h : Sd X) : (dig 65536 X).length ≤ 800 := by have := dlen X 200 h; omega
theorem Sd.lenw {X : Nat} (h : Sd X) : (dig 18446744073709551616 X).length ≤ 200 := dig_len_of_lt _ (by decide) X 200 h

theorem kDigits {v : Value} {l : List Nat} {A : Nat} (ha : All 18446744073709551616 l) (hl : l.length ≤ 40) (e : val 18446744073709551616 l = A) (W : World) (h : Rw .u64 W v l) :
    Calls Tryd.prog 31 #[v] W (RwEnd .i64 W (dig 65536 A)) := by
  subst e
  exact rdigits_any v l ha (by omega) W h
theorem kDigit {v : Value} {x : Nat} (hx : x < 18446744073709551616) (W : World) (h : Rw .u64 W v [x]) :
    Calls Tryd.prog 31 #[v] W (RwEnd .i64 W (dig 65536 x)) :=
  kDigits (all_cons hx (all_nil _)) (by simp) (val_one _ x) W h
theorem kWords (X : Nat) (hs : Sd X) (W : World) (v : Value) (h : De W v X) : Calls Tryd.prog 55 #[v] W (RwEnd .u64 W (dig 18446744073709551616 X)) := by
  have c := rwords_any v (dig 65536 X) (all_dig _ (by decide) X) (by have := hs.len; omega) W h
  rw [val_dig _ (by decide)] at c
  exact c
theorem kAdd (X Y : Nat) (hs : Sd X) (hs' : Sd Y) (W : World) (v u : Value) (h : De W v X) (h' : De W u Y) : Calls Tryd.prog 28 #[v, u] W (RwEnd .i64 W (dig 65536 (X + Y))) :=
  radd4_any v u X Y (by have := hs.len; omega) (by have := hs'.len; omega) W h h'
theorem kMul (X Y : Nat) (hs : Sd X) (hs' : Sd Y) (W : World) (v u : Value) (h : De W v X) (h' : De W u Y) : Calls Tryd.prog 52 #[v, u] W (RwEnd .i64 W (dig 65536 (X * Y))) :=
  rmul4_any v u X Y (by have := hs.len; omega) (by have := hs'.len; omega) W h h'
theorem kCmp (X Y : Nat) (hs : Sd X) (hs' : Sd Y) (W : World) (v u : Value) (h : De W v X) (h' : De W u Y) : Calls Tryd.prog 53 #[v, u] W fun e w => e = .returned (.int .i64 (cmpi X Y)) ∧ Bl W w :=
  rcmp_any v u X Y (by have := hs.len; omega) (by have := hs'.len; omega) W h h'
theorem kDiv (X D : Nat) (hD : 0 < D) (hs : Sd X) (hs' : Sd D) (W : World) (v u : Value) (h : De W v X) (h' : De W u D) : Calls Tryd.prog 30 #[v, u] W (RwEnd2 .i64 W (dig 65536 (X / D)) (dig 65536 (X % D))) :=
  rdiv4_any v u X D hD (by have := hs.len; omega) (by have := hs'.len; omega) W h h'
theorem sz_pow' (n k : Nat) (hn : n < 64 * k) : Sz k (2 ^ n) := by
  unfold Sz
  have e : (18446744073709551616 : Nat) = 2 ^ 64 := by decide
  rw [e, ← Nat.pow_mul]
  exact Nat.pow_lt_pow_right (by decide) hn
theorem sz_pow (n : Nat) (hn : n ≤ 3000) : Sz 47 (2 ^ n) := sz_pow' n 47 (by omega)
end Go.Proofs.YtiainhbkoehhjaaDoor
namespace Go.Proofs.YtiainhbkoehhjaaDoor
open Go.RowKit
set_option linter.unusedVariables false

theorem blen_lt {x n : Nat} (h : x < 2 ^ n) : blen x ≤ n := by
  unfold blen
  split
  · omega
  · have := (Nat.log2_lt (by omega)).2 h
    omega
theorem blen_mod (x n r : Nat) (h : x % 2 ^ n = r) : blen r ≤ n := blen_lt (by rw [← h]; exact Nat.mod_lt _ (Nat.two_pow_pos n))
theorem blen_sz {k x : Nat} (h : Sz k x) : blen x ≤ 64 * k := by
  unfold Sz at h
  have e : (18446744073709551616 : Nat) = 2 ^ 64 := by decide
  rw [e, ← Nat.pow_mul] at h
  exact blen_lt h
theorem blen_shl_eq (x n : Nat) (h : 0 < x) : blen (x * 2 ^ n) = blen x + n := by
  have hp : 0 < x * 2 ^ n := Nat.mul_pos h (Nat.two_pow_pos n)
  unfold blen
  rw [if_neg (by omega), if_neg (by omega)]
  have h1 : 2 ^ (Nat.log2 x) ≤ x := (Nat.le_log2 (by omega)).1 (Nat.le_refl _)
  have h2 : x < 2 ^ (Nat.log2 x + 1) := (Nat.log2_lt (by omega)).1 (by omega)
  have e1 : Nat.log2 x + n ≤ Nat.log2 (x * 2 ^ n) := (Nat.le_log2 (by omega)).2 (by rw [Nat.pow_add]; exact Nat.mul_le_mul_right _ h1)
  have e2 : Nat.log2 (x * 2 ^ n) < Nat.log2 x + n + 1 := (Nat.log2_lt (by omega)).2 (by
    rw [show Nat.log2 x + n + 1 = Nat.log2 x + 1 + n from by omega, Nat.pow_add]
    exact Nat.mul_lt_mul_of_pos_right h2 (Nat.two_pow_pos n))
  omega
theorem blen_shl (x n : Nat) : blen (x * 2 ^ n) ≤ blen x + n := by
  rcases Nat.eq_zero_or_pos x with h | h
  · subst h; rw [Nat.zero_mul]; unfold blen; simp
  · rw [blen_shl_eq x n h]; omega
theorem row0 {k : IntKind} {w : World} {v : Value} (h : Rw k w v []) : ∃ A c, v = .slice A 0 c := by
  obtain ⟨A, c, hv, _⟩ := h
  exact ⟨A, c, hv⟩
end Go.Proofs.YtiainhbkoehhjaaDoor
namespace Go.Proofs.YtiainhbkoehhjaaDoor
open Go.RowKit
set_option linter.unusedVariables false
set_option linter.unusedSimpArgs false

theorem kDg {W : World} {v : Value} {X : Nat} (h : Nu W v X) : Calls Tryd.prog 31 #[v] W (RwEnd .i64 W (dig 65536 X)) := by
  obtain ⟨l, h1, ha, hl, hx⟩ := h
  subst hx
  exact rdigits_any v l ha (by omega) W h1
theorem szmul {X Y j k : Nat} (h : Sz j X) (h' : Sz k Y) : Sz (j + k) (X * Y) := by
  unfold Sz
  rw [Nat.pow_add]
  exact Nat.mul_lt_mul'' h h'
theorem sd_mul {X Y j k : Nat} (h : Sz j X) (h' : Sz k Y) (hk : j + k ≤ 200) : Sd (X * Y) := by
  refine Sz.mono (k := j + k) ?_ hk
  unfold Sz
  rw [Nat.pow_add]
  exact Nat.mul_lt_mul'' h h'

theorem w64_two (n : Nat) : 18446744073709551616 ^ n = 2 ^ (64 * n) := by rw [Nat.pow_mul]
theorem sz_pw (n : Nat) : Sz (n + 1) (18446744073709551616 ^ n) := Nat.pow_lt_pow_right (by decide) (by omega)

end Go.Proofs.YtiainhbkoehhjaaDoor
