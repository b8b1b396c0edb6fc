/-
  The document's Join (layer 9).
-/
import Derived.Test.YtiainhbkoehhjaaDoorPk30
namespace Go.Proofs.YtiainhbkoehhjaaDoor
open Go.RowKit
set_option linter.unusedVariables false

def bd : Nat := 78674626319836206717730817
theorem bd_words : val 18446744073709551616 [bdL, bdH] = bd := by decide
/-- What Join hands back. -/
def jn (a b c : Nat) : Nat := (prt a 998244353 167772161 469762049 + (prt b 167772161 998244353 469762049 + prt c 469762049 998244353 167772161)) % bd
theorem rpart9_lit (t m p q : Nat) (M P Q : Int) (hM : (m : Int) = M) (hP : (p : Int) = P) (hQ : (q : Int) = Q) (h0 : 3 ≤ m) (hm : m < 2147483648) (hp : p < 4294967296) (hq : q < 4294967296) (ht : t < 4294967296) (w : World) :
    Calls Tryd.prog 29 #[.int .u32 (t : Int), .int .u32 M, .int .u64 P, .int .u64 Q] w (RwEnd .i64 w (dig 65536 (prt t m p q))) := by
  subst hM hP hQ
  exact rpart9_any t m p q h0 hm hp hq ht w
theorem prt_sz (t m p q : Nat) (h0 : 0 < m) (hm : m < 2147483648) (hp : p < 4294967296) (hq : q < 4294967296) : prt t m p q < 39614081257132168796771975168 := by
  unfold prt
  have h1 := tn_lt m t (tn m p q ^ (m - 2) % m) h0
  obtain ⟨z, ez⟩ : ∃ z, tn m t (tn m p q ^ (m - 2) % m) = z := ⟨_, rfl⟩
  rw [ez] at h1 ⊢
  have h2 : p * q ≤ 4294967295 * 4294967295 := Nat.mul_le_mul (by omega) (by omega)
  have h3 : p * q * z ≤ 4294967295 * 4294967295 * 2147483647 := Nat.mul_le_mul h2 (by omega)
  exact Nat.lt_of_le_of_lt h3 (by decide)
theorem sz2_of {X : Nat} (h : X < 340282366920938463463374607431768211456) : Sz 2 X := h
theorem bd_pos : 0 < bd := by decide
theorem bd_lt : bd < 18446744073709551616 * 18446744073709551616 := by decide
theorem lit_two {w : World} {e : TypeId} {b : Nat} (hb : b = w.heap.size) (x y : Nat) : Rw .u64 (w.alloc (.cells #[.int .u64 (x : Int), .int .u64 (y : Int)] e)) (.slice (some ⟨b, 0, none⟩) 2 2) [x, y] := by
  subst hb
  refine ⟨_, 2, rfl, Nat.le_refl _, by decide, (fun h => by cases h), fun _ => ⟨_, rfl, by simp, fun i hi => ?_⟩⟩
  have hi' : i < 2 := hi
  match i, hi' with
  | 0, _ => simp [add_none]
  | 1, _ => simp [add_none]
theorem keepJ {W0 W w' : World} {b : Nat} {c0 c1 c2 : Value} (h : W.cell? ⟨b, 0, none⟩ = some c0 ∧ W.cell? ⟨b, 1, none⟩ = some c1 ∧ W.cell? ⟨b, 2, none⟩ = some c2 ∧ b < W.heap.size ∧ Bl W0 W) (g : Bl W w') :
    w'.cell? ⟨b, 0, none⟩ = some c0 ∧ w'.cell? ⟨b, 1, none⟩ = some c1 ∧ w'.cell? ⟨b, 2, none⟩ = some c2 ∧ b < w'.heap.size ∧ Bl W0 w' := by
  obtain ⟨h0, h1, h2, h3, h4⟩ := h
  exact ⟨(g.cell h3).trans h0, (g.cell h3).trans h1, (g.cell h3).trans h2, Nat.lt_of_lt_of_le h3 g.size, h4.trans g⟩

set_option maxRecDepth 100000 in
set_option maxHeartbeats 4000000 in
theorem rjoin9_any (a b c : Nat) (ha : a < 4294967296) (hb : b < 4294967296) (hc : c < 4294967296) (w : World) :
    Calls Tryd.prog 14 #[.agg #[.int .u32 (a : Int), .int .u32 (b : Int), .int .u32 (c : Int)]] w fun e w' => e = .returned (pairv (jn a b c / 18446744073709551616) (jn a b c % 18446744073709551616)) ∧ Bl w w' := by
  have K1 := Lib.hid (fun W => rpart9_lit a 998244353 167772161 469762049 998244353 167772161 469762049 rfl rfl rfl (by decide) (by decide) (by decide) (by decide) ha W)
  have K2 := Lib.hid (fun W => rpart9_lit b 167772161 998244353 469762049 167772161 998244353 469762049 rfl rfl rfl (by decide) (by decide) (by decide) (by decide) hb W)
  have K3 := Lib.hid (fun W => rpart9_lit c 469762049 998244353 167772161 469762049 998244353 167772161 rfl rfl rfl (by decide) (by decide) (by decide) (by decide) hc W)
  have s1 := prt_sz a 998244353 167772161 469762049 (by decide) (by decide) (by decide) (by decide)
  have s2 := prt_sz b 167772161 998244353 469762049 (by decide) (by decide) (by decide) (by decide)
  have s3 := prt_sz c 469762049 998244353 167772161 (by decide) (by decide) (by decide) (by decide)
  unfold jn
  obtain ⟨X1, e1⟩ : ∃ X, prt a 998244353 167772161 469762049 = X := ⟨_, rfl⟩
  obtain ⟨X2, e2⟩ : ∃ X, prt b 167772161 998244353 469762049 = X := ⟨_, rfl⟩
  obtain ⟨X3, e3⟩ : ∃ X, prt c 469762049 998244353 167772161 = X := ⟨_, rfl⟩
  rw [e1] at K1 s1 ⊢
  rw [e2] at K2 s2 ⊢
  rw [e3] at K3 s3 ⊢
  have A1 := Lib.hid (fun W v u h h' => kAdd X2 X3 ((sz2_of (by omega)).sd (by decide)) ((sz2_of (by omega)).sd (by decide)) W v u h h')
  have A2 := Lib.hid (fun W v u h h' => kAdd X1 (X2 + X3) ((sz2_of (by omega)).sd (by decide)) ((sz2_of (by omega)).sd (by decide)) W v u h h')
  have hX : X1 + (X2 + X3) < 340282366920938463463374607431768211456 := by omega
  obtain ⟨X, eX⟩ : ∃ X, X1 + (X2 + X3) = X := ⟨_, rfl⟩
  rw [eX] at A2 hX ⊢
  have DV := Lib.hid (fun W v u h h' => kDiv X bd bd_pos ((sz2_of hX).sd (by decide)) ((sz2_of bd_lt).sd (by decide)) W v u h h')
  have hR : X % bd < 18446744073709551616 * 18446744073709551616 := Nat.lt_trans (Nat.mod_lt _ bd_pos) bd_lt
  obtain ⟨R, eR⟩ : ∃ R, X % bd = R := ⟨_, rfl⟩
  rw [eR] at DV hR ⊢
  have PA := Lib.hid (fun W v h => rpair9_any v R hR W h)
  have DG : Hid (∀ W v, Rw .u64 W v [bdL, bdH] → Calls Tryd.prog 31 #[v] W (RwEnd .i64 W (dig 65536 bd))) := fun W v h => kDigits (all_cons (by decide) (all_cons (by decide) (all_nil _))) (by simp) bd_words W h
  obtain ⟨bq, ebq⟩ : ∃ x, bd = x := ⟨_, rfl⟩
  rw [ebq] at DV DG
  have BO := Lib.hid rbound9_any
  unfold pairv at BO PA ⊢
  obtain ⟨x, ex⟩ : ∃ x, bdH = x := ⟨_, rfl⟩
  obtain ⟨y, ey⟩ : ∃ x, bdL = x := ⟨_, rfl⟩
  rw [ex, ey] at BO DG
  obtain ⟨h', eh⟩ : ∃ x, R / 18446744073709551616 = x := ⟨_, rfl⟩
  obtain ⟨l', el⟩ : ∃ x, R % 18446744073709551616 = x := ⟨_, rfl⟩
  rw [eh, el] at PA ⊢
  clear e1 e2 e3 s1 s2 s3 eX hX eR hR ebq ex ey eh el ha hb hc
  have a24 := Tryd.isAgg24
  have z24 := Tryd.sizeOf24
  have a27 := Tryd.isAgg27
  have z27 := Tryd.sizeOf27
  go_enter Tryd.func14, Tryd.ntmps14
  go_wp2
  have k0 : ((w.alloc (.cells #[.int .u32 (a : Int), .int .u32 (b : Int), .int .u32 (c : Int)] 27)).alloc (.cells #[.int .u64 0, .int .u64 0] 24)).cell? ⟨w.heap.size, 0, none⟩ = some (.int .u32 (a : Int)) := by go_simp
  have k1 : ((w.alloc (.cells #[.int .u32 (a : Int), .int .u32 (b : Int), .int .u32 (c : Int)] 27)).alloc (.cells #[.int .u64 0, .int .u64 0] 24)).cell? ⟨w.heap.size, 1, none⟩ = some (.int .u32 (b : Int)) := by go_simp
  have k2 : ((w.alloc (.cells #[.int .u32 (a : Int), .int .u32 (b : Int), .int .u32 (c : Int)] 27)).alloc (.cells #[.int .u64 0, .int .u64 0] 24)).cell? ⟨w.heap.size, 2, none⟩ = some (.int .u32 (c : Int)) := by go_simp
  have k3 : w.heap.size + 1 < ((w.alloc (.cells #[.int .u32 (a : Int), .int .u32 (b : Int), .int .u32 (c : Int)] 27)).alloc (.cells #[.int .u64 0, .int .u64 0] 24)).heap.size := by go_simp
  have k4 : ((w.alloc (.cells #[.int .u32 (a : Int), .int .u32 (b : Int), .int .u32 (c : Int)] 27)).alloc (.cells #[.int .u64 0, .int .u64 0] 24)).cell? ⟨w.heap.size + 1, 0, none⟩ = some (.int .u64 0) := by go_simp
  have k5 : ((w.alloc (.cells #[.int .u32 (a : Int), .int .u32 (b : Int), .int .u32 (c : Int)] 27)).alloc (.cells #[.int .u64 0, .int .u64 0] 24)).cell? ⟨w.heap.size + 1, 1, none⟩ = some (.int .u64 0) := by go_simp
  have k6 : ((w.alloc (.cells #[.int .u32 (a : Int), .int .u32 (b : Int), .int .u32 (c : Int)] 27)).alloc (.cells #[.int .u64 0, .int .u64 0] 24)).frozen? ⟨w.heap.size + 1, 0, none⟩ = false := by go_simp
  have k7 : ((w.alloc (.cells #[.int .u32 (a : Int), .int .u32 (b : Int), .int .u32 (c : Int)] 27)).alloc (.cells #[.int .u64 0, .int .u64 0] 24)).frozen? ⟨w.heap.size + 1, 1, none⟩ = false := by go_simp
  have HW0 : Hid (Bl w ((w.alloc (.cells #[.int .u32 (a : Int), .int .u32 (b : Int), .int .u32 (c : Int)] 27)).alloc (.cells #[.int .u64 0, .int .u64 0] 24))) := ((Bl.refl w).alloc _).alloc _
  obtain ⟨W0, hW0⟩ : ∃ W, ((w.alloc (.cells #[.int .u32 (a : Int), .int .u32 (b : Int), .int .u32 (c : Int)] 27)).alloc (.cells #[.int .u64 0, .int .u64 0] 24)) = W := ⟨_, rfl⟩
  rw [hW0] at k0 k1 k2 k3 k4 k5 k6 k7 HW0 ⊢
  clear hW0
  have hS : (fun w' => w'.cell? ⟨w.heap.size, 0, none⟩ = some (.int .u32 (a : Int)) ∧ w'.cell? ⟨w.heap.size, 1, none⟩ = some (.int .u32 (b : Int)) ∧ w'.cell? ⟨w.heap.size, 2, none⟩ = some (.int .u32 (c : Int)) ∧ w.heap.size < w'.heap.size ∧ Bl W0 w') W0.drew := ⟨k0, k1, k2, by show w.heap.size < W0.heap.size; omega, (Bl.refl W0).drew⟩
  go_region_held3 (fun w' => w'.cell? ⟨w.heap.size, 0, none⟩ = some (.int .u32 (a : Int)) ∧ w'.cell? ⟨w.heap.size, 1, none⟩ = some (.int .u32 (b : Int)) ∧ w'.cell? ⟨w.heap.size, 2, none⟩ = some (.int .u32 (c : Int)) ∧ w.heap.size < w'.heap.size ∧ Bl W0 w')
    (first | assumption | exact hS | exact keepJ ‹_› hb')
    (first
     | (go_at_call 29; (with_reducible refine (K1.out _).mono ?_); rintro e w1 ⟨v1, rfl, hr, hb'⟩; have D1 := Lib.hid hr; clear hr)
     | (go_at_call 29; (with_reducible refine (K2.out _).mono ?_); rintro e w2 ⟨v2, rfl, hr, hb'⟩; have D1' := Lib.hid (D1.out.bl hb'); have D2 := Lib.hid hr; clear hr)
     | (go_at_call 29; (with_reducible refine (K3.out _).mono ?_); rintro e w3 ⟨v3, rfl, hr, hb'⟩; have D1x := Lib.hid (D1'.out.bl hb'); have D2' := Lib.hid (D2.out.bl hb'); have D3 := Lib.hid hr; clear hr)
     | (go_at_call 28; (with_reducible refine (A1.out _ _ _ D2'.out D3.out).mono ?_); rintro e w4 ⟨v4, rfl, hr, hb'⟩; have D1y := Lib.hid (D1x.out.bl hb'); have D4 := Lib.hid hr; clear hr)
     | (go_at_call 28; (with_reducible refine (A2.out _ _ _ D1y.out D4.out).mono ?_); rintro e w5 ⟨v5, rfl, hr, hb'⟩; have D5 := Lib.hid hr; clear hr))
  rename_i hH
  have HB5 := Lib.hid hH.2.2.2.2
  clear hH hS k0 k1 k2
  go_wp2_with (first
    | (go_at_call 16; (with_reducible refine (BO.out _).mono ?_); rintro e w6 ⟨rfl, hb'⟩; have D6 := Lib.hid (D5.out.bl hb'); have HB6 := Lib.hid (HB5.out.trans hb'); clear hb')
    | (go_at_call 31; (with_reducible refine (DG.out _ _ (lit_two (by simp) y x)).mono ?_); rintro e w7 ⟨v7, rfl, hr, hb'⟩; have D7 := Lib.hid hr; have D8 := Lib.hid (D6.out.bl ((((Bl.refl w6).alloc _).alloc _).trans hb')); have HB7 := Lib.hid (((HB6.out.alloc _).alloc _).trans hb'); clear hr hb')
    | (go_at_call 30; (with_reducible refine (DV.out _ _ _ D8.out D7.out).mono ?_); rintro e w8 ⟨v8, v9, rfl, hq, hr, hb'⟩; have D9 := Lib.hid hr; have HB8 := Lib.hid (HB7.out.trans hb'); clear hq hr hb')
    | (go_at_call 32; (with_reducible refine (PA.out _ _ D9.out).mono ?_); rintro e w9 ⟨rfl, hb'⟩; have HB9 := Lib.hid (HB8.out.trans hb'); have q4 := (HB9.out.cell (p := ⟨w.heap.size + 1, 0, none⟩) k3).trans k4; have q5 := (HB9.out.cell (p := ⟨w.heap.size + 1, 1, none⟩) k3).trans k5; have q6 := (HB9.out.frozen (w.heap.size + 1) 0 k3).trans k6; have q7 := (HB9.out.frozen (w.heap.size + 1) 1 k3).trans k7; clear hb'))
  have hc := sets2 (W := w9) (b := w.heap.size + 1) (x := .int .u64 0) (y := .int .u64 0) q4 q5 (.int .u64 (h' : Int)) (.int .u64 (l' : Int))
  refine bodyPost_ret (v := .agg #[.int .u64 (h' : Int), .int .u64 (l' : Int)]) (by simp [results, Tryd.results14, go_sem, a24, z24, hc.1, hc.2]) rfl ⟨rfl, ((HW0.out.trans HB9.out).setCell (p := ⟨w.heap.size + 1, 0, none⟩) (Nat.le_succ _) _).setCell (p := ⟨w.heap.size + 1, 1, none⟩) (Nat.le_succ _) _⟩
end Go.Proofs.YtiainhbkoehhjaaDoor
