/-
  Rows of one and two words, read cell by cell. · The document's answers of layer 4 as contracts over numbers, for the walks of the statements. · The document's answers of layer 5 over numbers: Times, Half. · few and the document's example, which stand in the statements of layer 6.
-/
import Derived.Test.YtfmkbeffhdphfaaPk12
import Derived.Test.YtfmkbeffhdphfaaPk18
import Derived.Test.YtfmkbeffhdphfaaPk30
namespace Go.Proofs.Ytfmkbeffhdphfaa
open Go.RowKit
set_option linter.unusedVariables false

theorem nu_lit {w : World} {e : TypeId} {x b : Nat} {z : Int} (hb : b = w.heap.size) (hz : z = (x : Int)) (hx : x < 18446744073709551616) : Nu (w.alloc (.cells #[.int .u64 z] e)) (.slice (some ⟨b, 0, none⟩) 1 1) x := by
  subst hz
  exact ⟨[x], lit_at hb, all_cons hx (all_nil _), by simp, val_one _ x⟩

theorem row1 {k : IntKind} {w : World} {v : Value} {x : Nat} (h : Rw k w v [x]) : ∃ ad c, v = .slice (some ad) 1 c ∧ ad.block < w.heap.size ∧ w.cell? (ad.add 0) = some (.int k (x : Int)) := by
  obtain ⟨A, c, hv, _, _, _, hs⟩ := h
  obtain ⟨ad, hA, hb, hx⟩ := hs (by simp)
  subst hA
  exact ⟨ad, c, hv, hb, hx 0 (by simp)⟩
theorem row2 {k : IntKind} {w : World} {v : Value} {x y : Nat} (h : Rw k w v [x, y]) : ∃ ad c, v = .slice (some ad) 2 c ∧ ad.block < w.heap.size ∧ w.cell? (ad.add 0) = some (.int k (x : Int)) ∧ w.cell? (ad.add 1) = some (.int k (y : Int)) := by
  obtain ⟨A, c, hv, _, _, _, hs⟩ := h
  obtain ⟨ad, hA, hb, hx⟩ := hs (by simp)
  subst hA
  exact ⟨ad, c, hv, hb, hx 0 (by simp), hx 1 (by simp)⟩
theorem keep_cell {W w : World} {a : Addr} {i : Nat} {u : Value} (h : W.cell? (a.add i) = some u) (hb : a.block < W.heap.size) (g : Bl W w) : w.cell? (a.add i) = some u := (g.cell (by rw [blk_add]; exact hb)).trans h
/-- The highest place of a row. -/
theorem src_last {k : IntKind} {w : World} {A : Option Addr} {l : List Nat} {j n x : Nat} (h : Src k w A l) (hx : l[j]? = some x) (hn : l.length = n) : ∃ ad, A = some ad ∧ w.cell? (ad.add j) = some (.int k (x : Int)) := by
  obtain ⟨hj, e⟩ := List.getElem?_eq_some_iff.1 hx
  obtain ⟨ad, ha, hc⟩ := h.at_ hj
  rw [e] at hc
  exact ⟨ad, ha, hc⟩
end Go.Proofs.Ytfmkbeffhdphfaa
namespace Go.Proofs.Ytfmkbeffhdphfaa
open Go.RowKit
set_option linter.unusedVariables false

/-- v reads as the digits of X. -/
abbrev De (W : World) (v : Value) (X : Nat) : Prop := Rw .i64 W v (dig 65536 X)
theorem De.bl {W w : World} {v : Value} {X : Nat} (h : De W v X) (g : Bl W w) : De w v X := Rw.bl h g
/-- X has 200 words at most. -/
def Sd (X : Nat) : Prop := Sz 200 X
theorem Sz.sd {k X : Nat} (h : Sz k X) (hk : k ≤ 200) : Sd X := h.mono hk
theorem dlen (X k : Nat) (h : Sz k X) : (dig 65536 X).length ≤ 4 * k := by
  unfold Sz at h
  rw [w64_pow] at h
  exact dig_len_of_lt 65536 (by decide) X _ h
theorem Sd.len {X : Nat} (h : Sd X) : (dig 65536 X).length ≤ 800 := by have := dlen X 200 h; omega
theorem Sd.lenw {X : Nat} (h : Sd X) : (dig 18446744073709551616 X).length ≤ 200 := dig_len_of_lt _ (by decide) X 200 h

theorem kDigits {v : Value} {l : List Nat} {A : Nat} (ha : All 18446744073709551616 l) (hl : l.length ≤ 40) (e : val 18446744073709551616 l = A) (W : World) (h : Rw .u64 W v l) :
    Calls Try.prog 17 #[v] W (RwEnd .i64 W (dig 65536 A)) := by
  subst e
  exact rdigits_any v l ha (by omega) W h
theorem kDigit {v : Value} {x : Nat} (hx : x < 18446744073709551616) (W : World) (h : Rw .u64 W v [x]) :
    Calls Try.prog 17 #[v] W (RwEnd .i64 W (dig 65536 x)) :=
  kDigits (all_cons hx (all_nil _)) (by simp) (val_one _ x) W h
theorem kWords (X : Nat) (hs : Sd X) (W : World) (v : Value) (h : De W v X) : Calls Try.prog 16 #[v] W (RwEnd .u64 W (dig 18446744073709551616 X)) := by
  have c := rwords_any v (dig 65536 X) (all_dig _ (by decide) X) (by have := hs.len; omega) W h
  rw [val_dig _ (by decide)] at c
  exact c
theorem kSame (X : Nat) (hs : Sd X) (W : World) (v u : Value) (h : Rw .u64 W v (dig 18446744073709551616 X)) (h' : Rw .u64 W u (dig 18446744073709551616 X)) :
    Calls Try.prog 15 #[v, u] W fun e w => e = .returned (.bool true) ∧ Bl W w := by
  have c := rsame_any v u _ _ (by have := hs.lenw; omega) (by have := hs.lenw; omega) W h h'
  rw [decide_eq_true rfl] at c
  exact c
theorem kSame0 (W : World) (v u : Value) (h : Rw .u64 W v []) (h' : Rw .u64 W u []) :
    Calls Try.prog 15 #[v, u] W fun e w => e = .returned (.bool true) ∧ Bl W w := by
  have c := rsame_any v u _ _ (by simp) (by simp) W h h'
  rw [decide_eq_true rfl] at c
  exact c
theorem kAdd (X Y : Nat) (hs : Sd X) (hs' : Sd Y) (W : World) (v u : Value) (h : De W v X) (h' : De W u Y) : Calls Try.prog 25 #[v, u] W (RwEnd .i64 W (dig 65536 (X + Y))) :=
  radd4_any v u X Y (by have := hs.len; omega) (by have := hs'.len; omega) W h h'
theorem kMul (X Y : Nat) (hs : Sd X) (hs' : Sd Y) (W : World) (v u : Value) (h : De W v X) (h' : De W u Y) : Calls Try.prog 44 #[v, u] W (RwEnd .i64 W (dig 65536 (X * Y))) :=
  rmul4_any v u X Y (by have := hs.len; omega) (by have := hs'.len; omega) W h h'
theorem kCmp (X Y : Nat) (hs : Sd X) (hs' : Sd Y) (W : World) (v u : Value) (h : De W v X) (h' : De W u Y) : Calls Try.prog 27 #[v, u] W fun e w => e = .returned (.int .i64 (cmpi X Y)) ∧ Bl W w :=
  rcmp_any v u X Y (by have := hs.len; omega) (by have := hs'.len; omega) W h h'
theorem kDiv (X D : Nat) (hD : 0 < D) (hs : Sd X) (hs' : Sd D) (W : World) (v u : Value) (h : De W v X) (h' : De W u D) : Calls Try.prog 33 #[v, u] W (RwEnd2 .i64 W (dig 65536 (X / D)) (dig 65536 (X % D))) :=
  rdiv4_any v u X D hD (by have := hs.len; omega) (by have := hs'.len; omega) W h h'
theorem kBits (X : Nat) (hs : Sd X) (W : World) (v : Value) (h : De W v X) : Calls Try.prog 20 #[v] W fun e w => e = .returned (.int .i64 ((blen X : Nat) : Int)) ∧ W = w :=
  rbits_any v X (by have := hs.len; omega) W h
theorem sz_pow' (n k : Nat) (hn : n < 64 * k) : Sz k (2 ^ n) := by
  unfold Sz
  have e : (18446744073709551616 : Nat) = 2 ^ 64 := by decide
  rw [e, ← Nat.pow_mul]
  exact Nat.pow_lt_pow_right (by decide) hn
theorem sz_pow (n : Nat) (hn : n ≤ 3000) : Sz 47 (2 ^ n) := sz_pow' n 47 (by omega)
end Go.Proofs.Ytfmkbeffhdphfaa
namespace Go.Proofs.Ytfmkbeffhdphfaa
open Go.RowKit
set_option linter.unusedVariables false
set_option linter.unusedSimpArgs false

theorem kDg {W : World} {v : Value} {X : Nat} (h : Nu W v X) : Calls Try.prog 17 #[v] W (RwEnd .i64 W (dig 65536 X)) := by
  obtain ⟨l, h1, ha, hl, hx⟩ := h
  subst hx
  exact rdigits_any v l ha (by omega) W h1
theorem szmul {X Y j k : Nat} (h : Sz j X) (h' : Sz k Y) : Sz (j + k) (X * Y) := by
  unfold Sz
  rw [Nat.pow_add]
  exact Nat.mul_lt_mul'' h h'
theorem sd_mul {X Y j k : Nat} (h : Sz j X) (h' : Sz k Y) (hk : j + k ≤ 200) : Sd (X * Y) := by
  refine Sz.mono (k := j + k) ?_ hk
  unfold Sz
  rw [Nat.pow_add]
  exact Nat.mul_lt_mul'' h h'

set_option maxRecDepth 100000 in
set_option maxHeartbeats 1000000 in
theorem rtimes_any (W : World) (v u : Value) (X Y j k : Nat) (hv : Nu W v X) (hu : Nu W u Y) (hx : Sz j X) (hy : Sz k Y) (hjk : j + k ≤ 200) :
    Calls Try.prog 26 #[v, u] W (RwEnd .u64 W (dig 18446744073709551616 (X * Y))) := by
  have K1 := Lib.hid (kDg hv)
  have K2 := Lib.hid (fun W' (g : Bl W W') => kDg (hu.bl g))
  have KM := Lib.hid (kMul X Y (hx.sd (by omega)) (hy.sd (by omega)))
  have KW := Lib.hid (kWords (X * Y) (sd_mul hx hy hjk))
  clear hv hu hx hy hjk
  go_enter Try.func26, Try.ntmps26
  go_wp2_with (first
    | (go_at_call 17; (with_reducible refine K1.out.mono ?_); rintro e w1 ⟨v1, rfl, hr, hb'⟩; have D1 := Lib.hid hr; have G1 := Lib.hid hb'; clear hr hb')
    | (go_at_call 17; (with_reducible refine (K2.out _ G1.out).mono ?_); rintro e w2 ⟨v2, rfl, hr, hb'⟩; have D2 := Lib.hid hr; have D1' := Lib.hid (D1.out.bl hb'); have G2 := Lib.hid (G1.out.trans hb'); clear hr hb')
    | (go_at_call 44; (with_reducible refine (KM.out _ _ _ D1'.out D2.out).mono ?_); rintro e w3 ⟨v3, rfl, hr, hb'⟩; have D3 := Lib.hid hr; have G3 := Lib.hid (G2.out.trans hb'); clear hr hb')
    | (go_at_call 16; (with_reducible refine (KW.out _ _ D3.out).mono ?_); rintro e w4 ⟨v4, rfl, hr, hb'⟩; have D4 := Lib.hid hr; have G4 := Lib.hid (G3.out.trans hb'); clear hr hb'))
  go_ret
  exact RwEnd.mk D4.out G4.out

theorem w64_two (n : Nat) : 18446744073709551616 ^ n = 2 ^ (64 * n) := by rw [Nat.pow_mul]
theorem sz_pw (n : Nat) : Sz (n + 1) (18446744073709551616 ^ n) := Nat.pow_lt_pow_right (by decide) (by omega)

end Go.Proofs.Ytfmkbeffhdphfaa
namespace Go.Proofs.Ytfmkbeffhdphfaa
open Go.RowKit
set_option linter.unusedVariables false

set_option maxRecDepth 100000 in
theorem few6_yes (v u : Value) (l m : List Nat) (hl : l.length ≤ 30) (hm : m.length ≤ 30) (w : World) (h1 : Rw .u64 w v l) (h2 : Rw .u64 w u m) :
    Calls Try.prog 11 #[v, u] w fun e w' => e = .returned (.bool true) ∧ w = w' := by
  obtain ⟨A, c, rfl, _⟩ := h1
  obtain ⟨B, d, rfl, _⟩ := h2
  obtain ⟨n, hn⟩ : ∃ n, l.length = n := ⟨_, rfl⟩
  obtain ⟨k, hk⟩ : ∃ n, m.length = n := ⟨_, rfl⟩
  rw [hn] at hl ⊢
  rw [hk] at hm ⊢
  have a1 : decide ((n : Int) ≤ 30) = true := decide_eq_true (by omega)
  have a2 : decide ((k : Int) ≤ 30) = true := decide_eq_true (by omega)
  clear hn hk hl hm
  go_enter Try.func11, Try.ntmps11
  go_wp2
  go_ret
  exact ⟨rfl, rfl⟩
set_option maxRecDepth 100000 in
theorem few6_no (v u : Value) (l m : List Nat) (h : ¬ (l.length ≤ 30 ∧ m.length ≤ 30)) (hb : l.length ≤ 9223372036854775807) (hb' : m.length ≤ 9223372036854775807) (w : World) (h1 : Rw .u64 w v l) (h2 : Rw .u64 w u m) :
    Calls Try.prog 11 #[v, u] w fun e w' => e = .returned (.bool false) ∧ w = w' := by
  obtain ⟨A, c, rfl, _⟩ := h1
  obtain ⟨B, d, rfl, _⟩ := h2
  obtain ⟨n, hn⟩ : ∃ n, l.length = n := ⟨_, rfl⟩
  obtain ⟨k, hk⟩ : ∃ n, m.length = n := ⟨_, rfl⟩
  rw [hn] at h hb ⊢
  rw [hk] at h hb' ⊢
  have hnb : (n : Int) ≤ 9223372036854775807 := by omega
  have hkb : (k : Int) ≤ 9223372036854775807 := by omega
  by_cases hn1 : n ≤ 30
  · have a1 : decide ((n : Int) ≤ 30) = true := decide_eq_true (by omega)
    have a2 : decide ((k : Int) ≤ 30) = false := decide_eq_false (by omega)
    clear hn hk h hb hb' hn1 hnb hkb
    go_enter Try.func11, Try.ntmps11
    go_wp2
    go_ret
    exact ⟨rfl, rfl⟩
  · have a1 : decide ((n : Int) ≤ 30) = false := decide_eq_false (by omega)
    clear hn hk h hb hb' hn1 hnb hkb
    go_enter Try.func11, Try.ntmps11
    go_wp2
    go_ret
    exact ⟨rfl, rfl⟩

theorem lit2 {w : World} {e : TypeId} {b : Nat} (hb : b = w.heap.size) (x y : Nat) (hx : x < 18446744073709551616) (hy : y < 18446744073709551616) : Nu (w.alloc (.cells #[.int .u64 (x : Int), .int .u64 (y : Int)] e)) (.slice (some ⟨b, 0, none⟩) 2 2) (x + 18446744073709551616 * y) := by
  subst hb
  have hk : Bk .u64 e (w.alloc (.cells #[.int .u64 (x : Int), .int .u64 (y : Int)] e)) w.heap.size [x, y] := heap_alloc_new w _
  have hn := Nu.mk (hk.rw (n := 2) rfl (by decide)) (all_cons hx (all_cons hy (all_nil _))) (by simp)
  have e1 : val 18446744073709551616 [x, y] = x + 18446744073709551616 * y := by simp [val]
  rwa [e1] at hn

set_option maxRecDepth 100000 in
set_option maxHeartbeats 1000000 in
theorem shown6_any (w : World) : Calls Try.prog 10 #[] w fun e w' => e = .returned (.bool true) ∧ Bl w w' := by
  have e1 : dig 18446744073709551616 (18446744073709551616 / 3) = [6148914691236517205] := by decide +kernel
  have e2 : dig 18446744073709551616 (18446744073709551616 % 3) = [1] := by decide +kernel
  have z1 : Sz 2 18446744073709551616 := by unfold Sz; decide +kernel
  have z2 : Sz 2 3 := by unfold Sz; decide +kernel
  have S : Hid (∀ W v u, Nu W v (0 + 18446744073709551616 * 1) → Nu W u 3 → Calls Try.prog 12 #[v, u] W (RwEnd3 W [6148914691236517205] [1] 0)) := fun W v u h1 h2 => by
    have h1' : Nu W v 18446744073709551616 := h1
    have := pDiv W v u 18446744073709551616 3 2 2 h1' h2 (by decide) z1 z2 (by decide) (by decide)
    rw [e1, e2] at this
    exact this
  have L2 : Hid (∀ (w : World) (e : TypeId), Nu (w.alloc (.cells #[.int .u64 0, .int .u64 1] e)) (.slice (some ⟨w.heap.size, 0, none⟩) 2 2) (0 + 18446744073709551616 * 1)) := fun w e => lit2 (w := w) (e := e) rfl 0 1 (by decide) (by decide)
  have Z3 : Hid ((3 : Int) = ((3 : Nat) : Int)) := rfl
  have Z4 : Hid (3 < 18446744073709551616) := by show 3 < 18446744073709551616; decide
  clear e1 e2 z1 z2
  go_enter Try.func10, Try.ntmps10
  go_wp2_with (go_at_call 12; (with_reducible refine (S.out _ _ _ ((L2.out _ _).bl ((Bl.refl _).alloc _)) (nu_lit (by simp) Z3.out Z4.out)).mono ?_); rintro e w1 ⟨v1, v2, rfl, hr, hs, hb'⟩; have G1 := Lib.hid ((((Bl.refl w).alloc _).alloc _).trans hb'); obtain ⟨a1, c1, hv1, hk1, x0⟩ := row1 hr; subst hv1; obtain ⟨a2, c2, hv2, hk2, y0⟩ := row1 hs; subst hv2; rw [Addr.add_zero'] at x0 y0; clear hr hs hb')
  go_ret
  exact ⟨rfl, G1.out⟩
end Go.Proofs.Ytfmkbeffhdphfaa
