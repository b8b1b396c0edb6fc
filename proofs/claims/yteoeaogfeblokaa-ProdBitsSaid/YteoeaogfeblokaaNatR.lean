/-
  The document's answers of layer 4 as contracts over numbers, for the walks of the statements.
-/
import Derived.Test.YteoeaogfeblokaaNatSa
namespace Go.Proofs.Yteoeaogfeblokaa
open Go.RowKit
set_option linter.unusedVariables false

/-- v reads as the digits of X. -/
abbrev De (W : World) (v : Value) (X : Nat) : Prop := Rw .i64 W v (dig 65536 X)
theorem De.bl {W w : World} {v : Value} {X : Nat} (h : De W v X) (g : Bl W w) : De w v X := Rw.bl h g
/-- X has 200 words at most. -/
def Sd (X : Nat) : Prop := Sz 200 X
theorem Sz.sd {k X : Nat} (h : Sz k X) (hk : k ≤ 200) : Sd X := h.mono hk
theorem dlen (X k : Nat) (h : Sz k X) : (dig 65536 X).length ≤ 4 * k := by
  unfold Sz at h
  rw [w64_pow] at h
  exact dig_len_of_lt 65536 (by decide) X _ h
theorem Sd.len {X : Nat} (h : Sd X) : (dig 65536 X).length ≤ 800 := by have := dlen X 200 h; omega
theorem Sd.lenw {X : Nat} (h : Sd X) : (dig 18446744073709551616 X).length ≤ 200 := dig_len_of_lt _ (by decide) X 200 h

theorem kDigits {v : Value} {l : List Nat} {A : Nat} (ha : All 18446744073709551616 l) (hl : l.length ≤ 40) (e : val 18446744073709551616 l = A) (W : World) (h : Rw .u64 W v l) :
    Calls Try.prog 23 #[v] W (RwEnd .i64 W (dig 65536 A)) := by
  subst e
  exact rdigits_any v l ha (by omega) W h
theorem kDigit {v : Value} {x : Nat} (hx : x < 18446744073709551616) (W : World) (h : Rw .u64 W v [x]) :
    Calls Try.prog 23 #[v] W (RwEnd .i64 W (dig 65536 x)) :=
  kDigits (all_cons hx (all_nil _)) (by simp) (val_one _ x) W h
theorem kWords (X : Nat) (hs : Sd X) (W : World) (v : Value) (h : De W v X) : Calls Try.prog 21 #[v] W (RwEnd .u64 W (dig 18446744073709551616 X)) := by
  have c := rwords_any v (dig 65536 X) (all_dig _ (by decide) X) (by have := hs.len; omega) W h
  rw [val_dig _ (by decide)] at c
  exact c
theorem kSame (X : Nat) (hs : Sd X) (W : World) (v u : Value) (h : Rw .u64 W v (dig 18446744073709551616 X)) (h' : Rw .u64 W u (dig 18446744073709551616 X)) :
    Calls Try.prog 13 #[v, u] W fun e w => e = .returned (.bool true) ∧ Bl W w := by
  have c := rsame_any v u _ _ (by have := hs.lenw; omega) (by have := hs.lenw; omega) W h h'
  rw [decide_eq_true rfl] at c
  exact c
theorem kSame0 (W : World) (v u : Value) (h : Rw .u64 W v []) (h' : Rw .u64 W u []) :
    Calls Try.prog 13 #[v, u] W fun e w => e = .returned (.bool true) ∧ Bl W w := by
  have c := rsame_any v u _ _ (by simp) (by simp) W h h'
  rw [decide_eq_true rfl] at c
  exact c
theorem kAdd (X Y : Nat) (hs : Sd X) (hs' : Sd Y) (W : World) (v u : Value) (h : De W v X) (h' : De W u Y) : Calls Try.prog 22 #[v, u] W (RwEnd .i64 W (dig 65536 (X + Y))) :=
  radd4_any v u X Y (by have := hs.len; omega) (by have := hs'.len; omega) W h h'
theorem kMul (X Y : Nat) (hs : Sd X) (hs' : Sd Y) (W : World) (v u : Value) (h : De W v X) (h' : De W u Y) : Calls Try.prog 26 #[v, u] W (RwEnd .i64 W (dig 65536 (X * Y))) :=
  rmul4_any v u X Y (by have := hs.len; omega) (by have := hs'.len; omega) W h h'
theorem kCmp (X Y : Nat) (hs : Sd X) (hs' : Sd Y) (W : World) (v u : Value) (h : De W v X) (h' : De W u Y) : Calls Try.prog 29 #[v, u] W fun e w => e = .returned (.int .i64 (cmpi X Y)) ∧ Bl W w :=
  rcmp_any v u X Y (by have := hs.len; omega) (by have := hs'.len; omega) W h h'
theorem kDiv (X D : Nat) (hD : 0 < D) (hs : Sd X) (hs' : Sd D) (W : World) (v u : Value) (h : De W v X) (h' : De W u D) : Calls Try.prog 38 #[v, u] W (RwEnd2 .i64 W (dig 65536 (X / D)) (dig 65536 (X % D))) :=
  rdiv4_any v u X D hD (by have := hs.len; omega) (by have := hs'.len; omega) W h h'
theorem kBits (X : Nat) (hs : Sd X) (W : World) (v : Value) (h : De W v X) : Calls Try.prog 40 #[v] W fun e w => e = .returned (.int .i64 ((blen X : Nat) : Int)) ∧ W = w :=
  rbits_any v X (by have := hs.len; omega) W h
theorem kPower (n : Nat) (hn : n ≤ 3000) (W : World) : Calls Try.prog 28 #[.int .i64 (n : Int)] W (RwEnd .i64 W (dig 65536 (2 ^ n))) := rpower_any n (by omega) W
theorem sz_pow' (n k : Nat) (hn : n < 64 * k) : Sz k (2 ^ n) := by
  unfold Sz
  have e : (18446744073709551616 : Nat) = 2 ^ 64 := by decide
  rw [e, ← Nat.pow_mul]
  exact Nat.pow_lt_pow_right (by decide) hn
theorem sz_pow (n : Nat) (hn : n ≤ 3000) : Sz 47 (2 ^ n) := sz_pow' n 47 (by omega)
end Go.Proofs.Yteoeaogfeblokaa
