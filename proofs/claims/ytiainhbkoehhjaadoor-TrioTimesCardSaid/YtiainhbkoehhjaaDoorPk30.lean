/-
  The document's Bound, part, pair and Join (layer 9).
-/
import Derived.Test.YtiainhbkoehhjaaDoorPk26
import Derived.Test.YtiainhbkoehhjaaDoorPk28
import Derived.Test.YtiainhbkoehhjaaDoorPk29
namespace Go.Proofs.YtiainhbkoehhjaaDoor
open Go.RowKit
set_option linter.unusedVariables false

def bdH : Nat := 4264960
def bdL : Nat := 715227917457555457
theorem mul_bound : mulH 167477612308856833 469762049 = bdH ∧ mulL 167477612308856833 469762049 = bdL := by decide

set_option maxRecDepth 100000 in
theorem rbound9_any (w : World) : Calls Tryd.prog 16 #[] w fun e w' => e = .returned (pairv bdH bdL) ∧ Bl w w' := by
  have K := Lib.hid (fun W => rmul_any 167477612308856833 469762049 (by decide) (by decide) W)
  rw [mul_bound.1, mul_bound.2] at K
  have K' : Hid (∀ W, Calls Tryd.prog 34 #[.int .u64 167477612308856833, .int .u64 469762049] W fun e w' => e = .returned (.tuple #[.int .u64 ((bdH : Nat) : Int), .int .u64 ((bdL : Nat) : Int)]) ∧ W = w') := fun W => K.out W
  clear K
  unfold pairv
  obtain ⟨x, hx⟩ : ∃ x, bdH = x := ⟨_, rfl⟩
  obtain ⟨y, hy⟩ : ∃ x, bdL = x := ⟨_, rfl⟩
  rw [hx, hy] at K' ⊢
  clear hx hy
  have a24 := Tryd.isAgg24
  have z24 := Tryd.sizeOf24
  go_enter Tryd.func16, Tryd.ntmps16
  go_wp2_with (go_at_call 34; (with_reducible refine (K'.out _).mono ?_); rintro e w' ⟨rfl, rfl⟩)
  refine bodyPost_ret (v := .agg #[.int .u64 (x : Int), .int .u64 (y : Int)]) (by simp [results, Tryd.results16, go_sem, a24, z24]) rfl ⟨rfl, (Bl.refl w).alloc _⟩

theorem tn_lt (m a b : Nat) (h : 0 < m) : tn m a b < m := Nat.mod_lt _ h
/-- What a part comes to. -/
def prt (t m p q : Nat) : Nat := p * q * tn m t (tn m p q ^ (m - 2) % m)
theorem sz_lt {k X : Nat} (h : X < 18446744073709551616 ^ k) : Sz k X := h

set_option maxRecDepth 100000 in
set_option maxHeartbeats 1000000 in
theorem rpart9_any (t m p q : Nat) (h0 : 3 ≤ m) (hm : m < 2147483648) (hp : p < 4294967296) (hq : q < 4294967296) (ht : t < 4294967296) (w : World) :
    Calls Tryd.prog 29 #[.int .u32 (t : Int), .int .u32 (m : Int), .int .u64 (p : Int), .int .u64 (q : Int)] w (RwEnd .i64 w (dig 65536 (prt t m p q))) := by
  have T1 := Lib.hid (fun W => rturn_any m p q h0 hm W)
  have hx1 := tn_lt m p q (by omega)
  unfold prt
  obtain ⟨x, ex⟩ : ∃ x, tn m p q = x := ⟨_, rfl⟩
  rw [ex] at T1 hx1 ⊢
  have P1 := Lib.hid (fun W => rpow_any m x (m - 2) h0 hm (by omega) W)
  have hi1 : x ^ (m - 2) % m < m := Nat.mod_lt _ (by omega)
  obtain ⟨n, en⟩ : ∃ n, m - 2 = n := ⟨_, rfl⟩
  rw [en] at P1 hi1 ⊢
  obtain ⟨y, ey⟩ : ∃ y, x ^ n % m = y := ⟨_, rfl⟩
  rw [ey] at P1 hi1 ⊢
  have T2 := Lib.hid (fun W => rturn_any m t y h0 hm W)
  have hz1 := tn_lt m t y (by omega)
  obtain ⟨z, ez⟩ : ∃ z, tn m t y = z := ⟨_, rfl⟩
  rw [ez] at T2 hz1 ⊢
  have hp64 : Hid (p < 18446744073709551616) := by show p < _; omega
  have hq64 : Hid (q < 18446744073709551616) := by show q < _; omega
  have hz64 : Hid (z < 18446744073709551616) := by show z < _; omega
  have s1 : Hid (Sd p) := Sz.sd (k := 1) (by show p < 18446744073709551616 ^ 1; rw [Nat.pow_one]; exact hp64.out) (by omega)
  have s2 : Hid (Sd q) := Sz.sd (k := 1) (by show q < 18446744073709551616 ^ 1; rw [Nat.pow_one]; exact hq64.out) (by omega)
  have s3 : Hid (Sd z) := Sz.sd (k := 1) (by show z < 18446744073709551616 ^ 1; rw [Nat.pow_one]; exact hz64.out) (by omega)
  have s4 : Hid (Sd (p * q)) := sd_mul (j := 1) (k := 1) (by show p < 18446744073709551616 ^ 1; rw [Nat.pow_one]; exact hp64.out) (by show q < 18446744073709551616 ^ 1; rw [Nat.pow_one]; exact hq64.out) (by omega)
  have w1 : (m : Int) - 2 = (n : Int) := by omega
  have w2 : IntKind.u64.wrap (m : Int) = (m : Int) := IntWalk.u64_in _ (by omega)
  have w3 : IntKind.u64.wrap (t : Int) = (t : Int) := IntWalk.u64_in _ (by omega)
  have w4 : IntKind.u64.wrap ((m : Int) - 2) = (n : Int) := by rw [w1]; exact IntWalk.u64_in _ (by omega)
  clear ex en ey ez hx1 hi1 hz1 h0 hm hp hq ht w1
  go_enter Tryd.func29, Tryd.ntmps29
  go_wp2_with (first
    | (go_at_call 40; (with_reducible refine (T1.out _).mono ?_); rintro e w1 ⟨rfl, hg⟩; have G1 := Lib.hid (show Bl _ _ from hg.1); clear hg)
    | (go_at_call 51; (with_reducible refine (P1.out _).mono ?_); rintro e w2 ⟨rfl, hg⟩; have G2 := Lib.hid (G1.out.trans (show Bl _ _ from hg.1)); clear hg)
    | (go_at_call 31; (with_reducible refine (kDigit hp64.out _ (lit_at rfl)).mono ?_); rintro e w3 ⟨v3, rfl, hr, hb'⟩; have D3 := Lib.hid hr; have G3 := Lib.hid ((G2.out.alloc _).trans hb'); clear hr hb')
    | (go_at_call 31; (with_reducible refine (kDigit hq64.out _ (lit_at rfl)).mono ?_); rintro e w4 ⟨v4, rfl, hr, hb'⟩; have D4 := Lib.hid hr; have D3' := Lib.hid (D3.out.bl (((Bl.refl w3).alloc _).trans hb')); have G4 := Lib.hid ((G3.out.alloc _).trans hb'); clear hr hb')
    | (go_at_call 52; (with_reducible refine (kMul p q s1.out s2.out _ _ _ D3'.out D4.out).mono ?_); rintro e w5 ⟨v5, rfl, hr, hb'⟩; have D5 := Lib.hid hr; have G5 := Lib.hid (G4.out.trans hb'); clear hr hb')
    | (go_at_call 40; (with_reducible refine (T2.out _).mono ?_); rintro e w6 ⟨rfl, hg⟩; have D5' := Lib.hid (D5.out.bl (show Bl _ _ from hg.1)); have G6 := Lib.hid (G5.out.trans (show Bl _ _ from hg.1)); clear hg)
    | (go_at_call 31; (with_reducible refine (kDigit hz64.out _ (lit_at rfl)).mono ?_); rintro e w7 ⟨v7, rfl, hr, hb'⟩; have D7 := Lib.hid hr; have D6 := Lib.hid (D5'.out.bl (((Bl.refl w6).alloc _).trans hb')); have G7 := Lib.hid ((G6.out.alloc _).trans hb'); clear hr hb')
    | (go_at_call 52; (with_reducible refine (kMul (p * q) z s4.out s3.out _ _ _ D6.out D7.out).mono ?_); rintro e w8 ⟨v8, rfl, hr, hb'⟩; have D8 := Lib.hid hr; have G8 := Lib.hid (G7.out.trans hb'); clear hr hb'))
  go_ret
  exact RwEnd.mk D8.out G8.out

theorem two_digs (X : Nat) (hX : X < 18446744073709551616 * 18446744073709551616) (l : List Nat) (hl : l = dig 18446744073709551616 X ++ [0, 0]) :
    ∃ (h0 : 0 < l.length) (h1 : 1 < l.length), l[0] = X % 18446744073709551616 ∧ l[1] = X / 18446744073709551616 := by
  subst hl
  have g := dig_getD 18446744073709551616 (by decide) X
  have e : ∀ i, i < 2 → (dig 18446744073709551616 X ++ [0, 0]).getD i 0 = (dig 18446744073709551616 X).getD i 0 := by
    intro i hi
    rw [List.getD_eq_getElem?_getD, List.getD_eq_getElem?_getD]
    by_cases h : i < (dig 18446744073709551616 X).length
    · rw [List.getElem?_append_left h]
    · rw [List.getElem?_append_right (by omega), List.getElem?_eq_none (l := dig 18446744073709551616 X) (by omega)]
      obtain ⟨j, hj⟩ : ∃ j, i - (dig 18446744073709551616 X).length = j := ⟨_, rfl⟩
      rw [hj]
      match j, (show j < 2 by omega) with
      | 0, _ => rfl
      | 1, _ => rfl
  have hlen : 2 ≤ (dig 18446744073709551616 X ++ [0, 0]).length := by simp
  refine ⟨by omega, by omega, ?_, ?_⟩
  · rw [← getD_in, e 0 (by decide), g, Nat.pow_zero, Nat.div_one]
  · rw [← getD_in, e 1 (by decide), g, Nat.pow_one]
    exact Nat.mod_eq_of_lt (Nat.div_lt_of_lt_mul hX)
theorem src_two (w : World) (e : TypeId) : Src .u64 (w.alloc (.cells #[.int .u64 0, .int .u64 0] e)) (some ⟨w.heap.size, 0, none⟩) [0, 0] := by
  intro _
  refine ⟨_, rfl, by simp, fun i hi => ?_⟩
  have hi' : i < 2 := hi
  match i, hi' with
  | 0, _ => simp [add_none]
  | 1, _ => simp [add_none]
theorem kWordsOw (X : Nat) (hs : Sd X) (W : World) (v : Value) (h : De W v X) : Calls Tryd.prog 55 #[v] W (OwEnd .u64 22 W (dig 18446744073709551616 X)) := by
  have c := rwords_own v (dig 65536 X) (all_dig _ (by decide) X) (by have := hs.len; omega) W h
  rw [val_dig _ (by decide)] at c
  exact c

set_option maxRecDepth 100000 in
set_option maxHeartbeats 1000000 in
/-- A number below 2^128 as a pair. -/
theorem rpair9_any (v : Value) (X : Nat) (hX : X < 18446744073709551616 * 18446744073709551616) (w : World) (h : De w v X) :
    Calls Tryd.prog 32 #[v] w fun e w' => e = .returned (pairv (X / 18446744073709551616) (X % 18446744073709551616)) ∧ Bl w w' := by
  have hs : Sd X := Sz.sd (k := 2) (by show X < 18446744073709551616 ^ 2; rw [Nat.pow_two]; exact hX) (by omega)
  obtain ⟨i0, hi, hz0, hz1, hz2⟩ := info_parts Tryd.infoU64
  have KW := Lib.hid (fun W v h => kWordsOw X hs W v h)
  have HLW : Hid ((dig 18446744073709551616 X).length + [0, 0].length < 1099511627776) := by
    have := hs.lenw
    show _ + 2 < _
    omega
  have H := Lib.hid h
  obtain ⟨T, hT⟩ : ∃ T, dig 18446744073709551616 X ++ [0, 0] = T := ⟨_, rfl⟩
  obtain ⟨l0, l1, e0, e1⟩ := two_digs X hX T hT.symm
  have HT := Lib.hid hT
  clear hT
  unfold pairv
  obtain ⟨x, hx⟩ : ∃ x, X % 18446744073709551616 = x := ⟨_, rfl⟩
  obtain ⟨y, hy⟩ : ∃ x, X / 18446744073709551616 = x := ⟨_, rfl⟩
  rw [hx] at e0
  rw [hy] at e1
  rw [hx, hy]
  have HRD : Hid (∀ (W' : World) (v' : Value), Rw .u64 W' v' T → ∃ ad n c, v' = .slice (some ad) n c ∧ (0 : Int) < (n : Int) ∧ (1 : Int) < (n : Int) ∧ W'.cell? ad = some (.int .u64 (x : Int)) ∧ W'.cell? ⟨ad.block, ad.off + 1, none⟩ = some (.int .u64 (y : Int))) := by
    intro W' v' ⟨A, c, hv, _, _, _, hsrc⟩
    obtain ⟨ad, hA, hc0⟩ := hsrc.at_ l0
    obtain ⟨ad', hA', hc1⟩ := hsrc.at_ l1
    rw [hA] at hA'
    cases hA'
    rw [e0] at hc0
    rw [e1] at hc1
    have h2 : ad.add 1 = ⟨ad.block, ad.off + 1, none⟩ := by simp [Addr.add]
    rw [h2] at hc1
    refine ⟨ad, T.length, c, by rw [hv, hA], by omega, by omega, ?_, hc1⟩
    have : ad.add 0 = ad := by simp [Addr.add]
    rw [this] at hc0
    exact hc0
  clear hx hy e0 e1 l0 l1 hX hs h
  have a24 := Tryd.isAgg24
  have z24 := Tryd.sizeOf24
  go_enter Tryd.func32, Tryd.ntmps32
  go_wp2_with (first
    | (go_at_call 55; (with_reducible refine (KW.out _ _ (H.out.bl ((Bl.refl w).alloc _))).mono ?_); rintro e w1 ⟨v1, rfl, hr, hb'⟩; have D1 := Lib.hid hr; have G1 := Lib.hid hb'; clear hr hb')
    | (at_builtin; refine app_many _ (w1.alloc (.cells #[.int .u64 0, .int .u64 0] 22)) .u64 33 22 i0 (.int .u64 0) 8 Tryd.underlying33 hi hz0 hz1 hz2 rfl (by decide) rfl _ _ rfl v1 (dig 18446744073709551616 X) [0, 0] _ _ _ rfl rfl rfl (fun h => by cases h) (D1.out.alloc _) (src_two _ _) (G1.out.alloc _) HLW.out ?_; intro v2 w2 hown hbl))
  obtain ⟨ad, n, c, rfl, b0, b1, q0, q1⟩ := HRD.out w2 v2 (by rw [← HT.out]; exact hown.out.rw)
  have k0 : w2.cell? ⟨w.heap.size, 0, none⟩ = some (.int .u64 0) := (hbl.out.cell (p := ⟨w.heap.size, 0, none⟩) (by simp)).trans (by simp)
  have k1 : w2.cell? ⟨w.heap.size, 1, none⟩ = some (.int .u64 0) := (hbl.out.cell (p := ⟨w.heap.size, 1, none⟩) (by simp)).trans (by simp)
  have k2 : w2.frozen? ⟨w.heap.size, 0, none⟩ = false := (hbl.out.frozen _ _ (by simp)).trans (by simp)
  have k3 : w2.frozen? ⟨w.heap.size, 1, none⟩ = false := (hbl.out.frozen _ _ (by simp)).trans (by simp)
  have HB2 : Hid (Bl w w2) := ((Bl.refl w).alloc _).trans hbl.out
  clear hown hbl D1 G1 HRD H KW
  go_region
  go_wp2
  have hc := sets2 (W := w2) (b := w.heap.size) (x := .int .u64 0) (y := .int .u64 0) k0 k1 (.int .u64 (y : Int)) (.int .u64 (x : Int))
  refine bodyPost_ret (v := .agg #[.int .u64 (y : Int), .int .u64 (x : Int)]) (by simp [results, Tryd.results32, go_sem, a24, z24, hc.1, hc.2]) rfl ⟨rfl, ((HB2.out.setCell (p := ⟨w.heap.size, 0, none⟩) (Nat.le_refl _) _).setCell (p := ⟨w.heap.size, 1, none⟩) (Nat.le_refl _) _).drew⟩
end Go.Proofs.YtiainhbkoehhjaaDoor
