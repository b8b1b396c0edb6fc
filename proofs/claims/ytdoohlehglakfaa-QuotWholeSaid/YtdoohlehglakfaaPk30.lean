/-
  Rows of one and two words, read cell by cell. · The document's answers of layer 4 as contracts over numbers, for the walks of the statements.
-/
import Derived.Test.YtdoohlehglakfaaPk9
namespace Go.Proofs.Ytdoohlehglakfaa
open Go.RowKit
set_option linter.unusedVariables false

theorem nu_lit {w : World} {e : TypeId} {x b : Nat} {z : Int} (hb : b = w.heap.size) (hz : z = (x : Int)) (hx : x < 18446744073709551616) : Nu (w.alloc (.cells #[.int .u64 z] e)) (.slice (some ⟨b, 0, none⟩) 1 1) x := by
  subst hz
  exact ⟨[x], lit_at hb, all_cons hx (all_nil _), by simp, val_one _ x⟩

theorem row1 {k : IntKind} {w : World} {v : Value} {x : Nat} (h : Rw k w v [x]) : ∃ ad c, v = .slice (some ad) 1 c ∧ ad.block < w.heap.size ∧ w.cell? (ad.add 0) = some (.int k (x : Int)) := by
  obtain ⟨A, c, hv, _, _, _, hs⟩ := h
  obtain ⟨ad, hA, hb, hx⟩ := hs (by simp)
  subst hA
  exact ⟨ad, c, hv, hb, hx 0 (by simp)⟩
theorem row2 {k : IntKind} {w : World} {v : Value} {x y : Nat} (h : Rw k w v [x, y]) : ∃ ad c, v = .slice (some ad) 2 c ∧ ad.block < w.heap.size ∧ w.cell? (ad.add 0) = some (.int k (x : Int)) ∧ w.cell? (ad.add 1) = some (.int k (y : Int)) := by
  obtain ⟨A, c, hv, _, _, _, hs⟩ := h
  obtain ⟨ad, hA, hb, hx⟩ := hs (by simp)
  subst hA
  exact ⟨ad, c, hv, hb, hx 0 (by simp), hx 1 (by simp)⟩
theorem keep_cell {W w : World} {a : Addr} {i : Nat} {u : Value} (h : W.cell? (a.add i) = some u) (hb : a.block < W.heap.size) (g : Bl W w) : w.cell? (a.add i) = some u := (g.cell (by rw [blk_add]; exact hb)).trans h
/-- The highest place of a row. -/
theorem src_last {k : IntKind} {w : World} {A : Option Addr} {l : List Nat} {j n x : Nat} (h : Src k w A l) (hx : l[j]? = some x) (hn : l.length = n) : ∃ ad, A = some ad ∧ w.cell? (ad.add j) = some (.int k (x : Int)) := by
  obtain ⟨hj, e⟩ := List.getElem?_eq_some_iff.1 hx
  obtain ⟨ad, ha, hc⟩ := h.at_ hj
  rw [e] at hc
  exact ⟨ad, ha, hc⟩
end Go.Proofs.Ytdoohlehglakfaa
namespace Go.Proofs.Ytdoohlehglakfaa
open Go.RowKit
set_option linter.unusedVariables false

/-- v reads as the digits of X. -/
abbrev De (W : World) (v : Value) (X : Nat) : Prop := Rw .i64 W v (dig 65536 X)
theorem De.bl {W w : World} {v : Value} {X : Nat} (h : De W v X) (g : Bl W w) : De w v X := Rw.bl h g
/-- X has 200 words at most. -/
def Sd (X : Nat) : Prop := Sz 200 X
theorem Sz.sd {k X : Nat} (h : Sz k X) (hk : k ≤ 200) : Sd X := h.mono hk
theorem dlen (X k : Nat) (h : Sz k X) : (dig 65536 X).length ≤ 4 * k := by
  unfold Sz at h
  rw [w64_pow] at h
  exact dig_len_of_lt 65536 (by decide) X _ h
theorem Sd.len {X : Nat} (h : Sd X) : (dig 65536 X).length ≤ 800 := by have := dlen X 200 h; omega
theorem Sd.lenw {X : Nat} (h : Sd X) : (dig 18446744073709551616 X).length ≤ 200 := dig_len_of_lt _ (by decide) X 200 h

theorem kDigits {v : Value} {l : List Nat} {A : Nat} (ha : All 18446744073709551616 l) (hl : l.length ≤ 40) (e : val 18446744073709551616 l = A) (W : World) (h : Rw .u64 W v l) :
    Calls Try.prog 7 #[v] W (RwEnd .i64 W (dig 65536 A)) := by
  subst e
  exact rdigits_any v l ha (by omega) W h
theorem kDigit {v : Value} {x : Nat} (hx : x < 18446744073709551616) (W : World) (h : Rw .u64 W v [x]) :
    Calls Try.prog 7 #[v] W (RwEnd .i64 W (dig 65536 x)) :=
  kDigits (all_cons hx (all_nil _)) (by simp) (val_one _ x) W h
theorem kWords (X : Nat) (hs : Sd X) (W : World) (v : Value) (h : De W v X) : Calls Try.prog 18 #[v] W (RwEnd .u64 W (dig 18446744073709551616 X)) := by
  have c := rwords_any v (dig 65536 X) (all_dig _ (by decide) X) (by have := hs.len; omega) W h
  rw [val_dig _ (by decide)] at c
  exact c
theorem kAdd (X Y : Nat) (hs : Sd X) (hs' : Sd Y) (W : World) (v u : Value) (h : De W v X) (h' : De W u Y) : Calls Try.prog 8 #[v, u] W (RwEnd .i64 W (dig 65536 (X + Y))) :=
  radd4_any v u X Y (by have := hs.len; omega) (by have := hs'.len; omega) W h h'
theorem kMul (X Y : Nat) (hs : Sd X) (hs' : Sd Y) (W : World) (v u : Value) (h : De W v X) (h' : De W u Y) : Calls Try.prog 19 #[v, u] W (RwEnd .i64 W (dig 65536 (X * Y))) :=
  rmul4_any v u X Y (by have := hs.len; omega) (by have := hs'.len; omega) W h h'
theorem kCmp (X Y : Nat) (hs : Sd X) (hs' : Sd Y) (W : World) (v u : Value) (h : De W v X) (h' : De W u Y) : Calls Try.prog 10 #[v, u] W fun e w => e = .returned (.int .i64 (cmpi X Y)) ∧ Bl W w :=
  rcmp_any v u X Y (by have := hs.len; omega) (by have := hs'.len; omega) W h h'
theorem sz_pow' (n k : Nat) (hn : n < 64 * k) : Sz k (2 ^ n) := by
  unfold Sz
  have e : (18446744073709551616 : Nat) = 2 ^ 64 := by decide
  rw [e, ← Nat.pow_mul]
  exact Nat.pow_lt_pow_right (by decide) hn
theorem sz_pow (n : Nat) (hn : n ≤ 3000) : Sz 47 (2 ^ n) := sz_pow' n 47 (by omega)
end Go.Proofs.Ytdoohlehglakfaa
