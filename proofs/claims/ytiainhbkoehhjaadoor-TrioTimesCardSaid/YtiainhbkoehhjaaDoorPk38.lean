/-
  The calls of package word that stand on math/bits.Add64: what they answer. · Package trio: the closure of joiner; Join.
-/
import Derived.Test.YtiainhbkoehhjaaDoorChecked
import Derived.Test.YtiainhbkoehhjaaDoorPk3
import Derived.Laws.Externs
import Derived.Test.YtiainhbkoehhjaaDoorPk37
namespace Go.Proofs.YtiainhbkoehhjaaDoor
open Go.RowKit
set_option linter.unusedVariables false

theorem add64_run (x y c : Nat) (hc : c ≤ 1) (w : World) :
    (callFunc 48 #[.int .u64 (x : Int), .int .u64 (y : Int), .int .u64 (c : Int)]).run Tryd.prog w =
      .ok (.value (.tuple #[.int .u64 (((x + y + c) % 18446744073709551616 : Nat) : Int), .int .u64 (((x + y + c) / 18446744073709551616 : Nat) : Int)])) w := by
  rw [run_callFunc_extern Tryd.func48 (by kernel_rfl) (by kernel_rfl) (by kernel_rfl) (e := add64Entry) (by kernel_rfl), run_add64 x y c (by omega) (by omega) (by omega) (by omega)]
  simp only [Result.andThen]
  congr 5 <;> omega

end Go.Proofs.YtiainhbkoehhjaaDoor
namespace Go.Proofs.YtiainhbkoehhjaaDoor
open Go.RowKit
set_option linter.unusedVariables false
set_option linter.unusedSimpArgs false

theorem jx_tw (A S f : Nat) (hA : A = 998244353) (hS : S < 18446744073709551616) (hf : f < 998244353) (hb : A * S + f < bd) : ∃ h l c s X : Nat, mulH A S = h ∧ mulL A S = l ∧ (l + f + 0) % 18446744073709551616 = s ∧ (l + f + 0) / 18446744073709551616 = c ∧ (h : Int) + (c : Int) = (X : Int) ∧ X < 18446744073709551616 ∧ (A * S + f) / 18446744073709551616 = X ∧ (A * S + f) % 18446744073709551616 = s := by
  have e := tw_add (A * S) f (by omega)
  have e1 : (A * S + f) / 18446744073709551616 = mulH A S + (mulL A S + f) / 18446744073709551616 := congrArg Prod.fst e
  have e2 : (A * S + f) % 18446744073709551616 = (mulL A S + f) % 18446744073709551616 := congrArg Prod.snd e
  have hb2 := bd_lt
  obtain ⟨Z, hZ⟩ : ∃ Z, A * S + f = Z := ⟨_, rfl⟩
  rw [hZ] at e1 e2 hb ⊢
  have hlt : Z / 18446744073709551616 < 18446744073709551616 := Nat.div_lt_of_lt_mul (by omega)
  refine ⟨_, _, _, _, _, rfl, rfl, rfl, rfl, ?_, hlt, rfl, ?_⟩
  · rw [e1, Nat.add_zero]; omega
  · rw [e2, Nat.add_zero]
theorem keepJ2 {w0 W w : World} {b g5 g6 bt : Nat} {c0 c1 c2 c3 v5 v6 vt : Value}
    (h : W.cell? ⟨b, 0, none⟩ = some c0 ∧ W.cell? ⟨b, 1, none⟩ = some c1 ∧ W.cell? ⟨b, 2, none⟩ = some c2 ∧ W.cell? ⟨b, 3, none⟩ = some c3 ∧ W.cell? ⟨g5, 0, none⟩ = some v5 ∧ W.cell? ⟨g6, 0, none⟩ = some v6 ∧ W.cell? ⟨bt, 2, none⟩ = some vt ∧ b < W.heap.size ∧ g5 < W.heap.size ∧ g6 < W.heap.size ∧ bt < W.heap.size ∧ Gr w0 W) (g : Gr W w) :
    w.cell? ⟨b, 0, none⟩ = some c0 ∧ w.cell? ⟨b, 1, none⟩ = some c1 ∧ w.cell? ⟨b, 2, none⟩ = some c2 ∧ w.cell? ⟨b, 3, none⟩ = some c3 ∧ w.cell? ⟨g5, 0, none⟩ = some v5 ∧ w.cell? ⟨g6, 0, none⟩ = some v6 ∧ w.cell? ⟨bt, 2, none⟩ = some vt ∧ b < w.heap.size ∧ g5 < w.heap.size ∧ g6 < w.heap.size ∧ bt < w.heap.size ∧ Gr w0 w := by
  obtain ⟨h0, h1, h2, h3, h4, h5, h6, hb, q5, q6, qt, hg⟩ := h
  have hs := g.size
  exact ⟨(g.cell _ _ hb).trans h0, (g.cell _ _ hb).trans h1, (g.cell _ _ hb).trans h2, (g.cell _ _ hb).trans h3, (g.cell _ _ q5).trans h4, (g.cell _ _ q6).trans h5, (g.cell _ _ qt).trans h6, Nat.lt_of_lt_of_le hb hs, Nat.lt_of_lt_of_le q5 hs, Nat.lt_of_lt_of_le q6 hs, Nat.lt_of_lt_of_le qt hs, hg.trans g⟩

set_option maxRecDepth 100000 in
set_option maxHeartbeats 4000000 in
theorem jcall_any (w : World) (b1 g5 b3 g6 g7 : Nat) (hj : Jo w b1 g5 b3 g6 g7) (a b c : Nat) (ha : a < 4294967296) (hb : b < 4294967296) (hc : c < 4294967296) :
    Calls Tryd.prog 46 #[.agg #[.int .u32 (a : Int), .int .u32 (b : Int), .int .u32 (c : Int)], .pointer (some ⟨b1, 0, none⟩), .pointer (some ⟨g5, 0, none⟩), .pointer (some ⟨b3, 0, none⟩), .pointer (some ⟨g6, 0, none⟩), .pointer (some ⟨g7, 0, none⟩)] w fun e w' => e = .returned (pairv (jn a b c / 18446744073709551616) (jn a b c % 18446744073709551616)) ∧ Bl w w' := by
  obtain ⟨nB, oB, sB, nC, oC, sC, y1, y2, y3, pB, pC, c1, c2, c3, fB, fC, q5, q6, q7⟩ := hj
  have hjx := jx_is a b c y1 y2 y3 c1 c2 c3
  rw [jc_one (jn_is a b c) hjx]
  have hbd := hjx.1
  unfold jx at hbd ⊢
  have hf : a % 998244353 < 998244353 := Nat.mod_lt _ (by decide)
  obtain ⟨f, ef⟩ : ∃ x, a % 998244353 = x := ⟨_, rfl⟩
  rw [ef] at hf hbd ⊢
  have K1 := fun w => digit_any pB (by decide) b f y1 w
  have K2 := fun w => digit_any pC (by decide) c f y2 w
  have l1 := dgt_lt 167772161 b f y1 (by decide)
  obtain ⟨s, es⟩ : ∃ x, dgt 167772161 b f y1 = x := ⟨_, rfl⟩
  rw [es] at K1 l1 hbd ⊢
  obtain ⟨t, et⟩ : ∃ x, dgt 469762049 c f y2 = x := ⟨_, rfl⟩
  rw [et] at K2 hbd ⊢
  have K3 := fun w => digit_any pC (by decide) t s y3 w
  have l3 := dgt_lt 469762049 t s y3 (by decide)
  obtain ⟨u, eu⟩ : ∃ x, dgt 469762049 t s y3 = x := ⟨_, rfl⟩
  rw [eu] at K3 l3 hbd ⊢
  obtain ⟨Y1, h1⟩ : ∃ x, fm 167772161 y1 = x := ⟨_, rfl⟩
  obtain ⟨Y2, h2⟩ : ∃ x, fm 469762049 y2 = x := ⟨_, rfl⟩
  obtain ⟨Y3, h3⟩ : ∃ x, fm 469762049 y3 = x := ⟨_, rfl⟩
  rw [h1] at K1 q5
  rw [h2] at K2 q6
  rw [h3] at K3 q7
  unfold frm at K1 K2 K3
  rw [show ((167772161 : Nat) : Int) = 167772161 from rfl] at K1
  rw [show ((469762049 : Nat) : Int) = 469762049 from rfl] at K2 K3
  have z5 := q5.lt
  have z6 := q6.lt
  have z7 := q7.lt
  have q5 : w.cell? ⟨g5, 0, none⟩ = some (.int .u32 (Y1 : Int)) := q5.cell 0 (by simp)
  have q6 : w.cell? ⟨g6, 0, none⟩ = some (.int .u32 (Y2 : Int)) := q6.cell 0 (by simp)
  have q7 : w.cell? ⟨g7, 0, none⟩ = some (.int .u32 (Y3 : Int)) := q7.cell 0 (by simp)
  obtain ⟨p, hp⟩ : ∃ p, 167772161 * u = p := ⟨_, rfl⟩
  obtain ⟨S, hS⟩ : ∃ S, s + p = S := ⟨_, rfl⟩
  rw [hp, hS] at hbd ⊢
  obtain ⟨h, l, cr, lo, X, t1, t2, t3, t4, t5, t6, t7, t8⟩ := jx_tw 998244353 S f rfl (by omega) hf hbd
  have MU := fun w => mul64_any 998244353 S (by decide) (by omega) w
  rw [t1, t2, show ((998244353 : Nat) : Int) = 998244353 from rfl] at MU
  have AD := fun w => add64_run l f 0 (by decide) w
  rw [t3, t4, show ((0 : Nat) : Int) = 0 from rfl] at AD
  rw [t7, t8]
  have HM := Lib.hid MU
  have H1 := Lib.hid K1
  have H2 := Lib.hid K2
  have H3 := Lib.hid K3
  have e1 : (a : Int) % 998244353 = (f : Int) := by omega
  have e2 : (a : Int).tmod 998244353 = (f : Int) := by rw [Int.tmod_eq_emod_of_nonneg (by omega)]; exact e1
  have e3 : IntKind.u32.wrap (f : Int) = (f : Int) := IntWalk.u32_in _ (by omega)
  have e4 : (f : Int) % 4294967296 = (f : Int) := by omega
  have e5 : IntKind.u64.wrap (s : Int) = (s : Int) := IntWalk.u64_in _ (by omega)
  have e6 : IntKind.u64.wrap (u : Int) = (u : Int) := IntWalk.u64_in _ (by omega)
  have e7 : IntKind.u64.wrap (f : Int) = (f : Int) := IntWalk.u64_in _ (by omega)
  have e8 : (167772161 : Int) * (u : Int) = (p : Int) := by omega
  have e9 : IntKind.u64.wrap (p : Int) = (p : Int) := IntWalk.u64_in _ (by omega)
  have e10 : (s : Int) + (p : Int) = (S : Int) := by omega
  have e11 : IntKind.u64.wrap (S : Int) = (S : Int) := IntWalk.u64_in _ (by omega)
  have e12 : IntKind.u64.wrap (X : Int) = (X : Int) := IntWalk.u64_in _ (by omega)
  obtain ⟨W2, hW2⟩ : ∃ W2, (w.alloc (.cells #[.int .u32 (a : Int), .int .u32 (b : Int), .int .u32 (c : Int)] 27)).alloc (.cells #[.int .u64 0, .int .u64 0] 24) = W2 := ⟨_, rfl⟩
  have hb2 : Bl w W2 := by rw [← hW2]; exact ((Bl.refl w).alloc _).alloc _
  have hs2 : W2.heap.size = w.heap.size + 2 := by rw [← hW2]; simp
  have x0 : W2.cell? ⟨w.heap.size, 0, none⟩ = some (.int .u32 (a : Int)) := by subst hW2; go_simp
  have x1 : W2.cell? ⟨w.heap.size, 1, none⟩ = some (.int .u32 (b : Int)) := by subst hW2; go_simp
  have x2 : W2.cell? ⟨w.heap.size, 2, none⟩ = some (.int .u32 (c : Int)) := by subst hW2; go_simp
  have r0 : W2.cell? ⟨w.heap.size + 1, 0, none⟩ = some (.int .u64 0) ∧ W2.cell? ⟨w.heap.size + 1, 1, none⟩ = some (.int .u64 0) ∧ W2.frozen? ⟨w.heap.size + 1, 0, none⟩ = false ∧ W2.frozen? ⟨w.heap.size + 1, 1, none⟩ = false := by subst hW2; go_simp
  have hB2 := Lib.hid hb2
  have FC2 := Lib.hid (fC.bl hb2)
  have v5 := (hb2.cell (p := ⟨g5, 0, none⟩) z5).trans q5
  have v6 := Lib.hid ((hb2.cell (p := ⟨g6, 0, none⟩) z6).trans q6)
  have v7 := Lib.hid ((hb2.cell (p := ⟨g7, 0, none⟩) z7).trans q7)
  have X2 := Lib.hid x2
  have R0 := Lib.hid r0
  have HS2 : Hid (g6 < W2.heap.size ∧ g7 < W2.heap.size ∧ w.heap.size < W2.heap.size ∧ w.heap.size + 1 < W2.heap.size) := by show _ ∧ _ ∧ _ ∧ _; omega
  obtain ⟨k0, k1, k2, k3, _⟩ := fB.bl hb2
  unfold pairv
  have a24 := Tryd.isAgg24
  have z24 := Tryd.sizeOf24
  have a27 := Tryd.isAgg27
  have z27 := Tryd.sizeOf27
  clear K1 K2 K3 MU pB pC c1 c2 c3 fB fC hjx hf ef l1 es et hbd l3 eu h1 h2 h3 q5 q6 q7 z5 z6 z7 hp hS t1 t2 t3 t4 t6 t7 t8 hb2 hs2 x2 r0 ha hb hc
  go_enter Tryd.func46, Tryd.ntmps46
  go_wp2_with (first
    | (go_at_call 47; (with_reducible refine (H1.out _).mono ?_); rintro e w1 ⟨rfl, hg⟩; have G1 := Lib.hid hg; clear hg))
  obtain ⟨bt, hbt⟩ : ∃ x, w.heap.size = x := ⟨_, rfl⟩
  have HW : Hid (w.heap.size = bt) := hbt
  rw [hbt] at X2 R0 HS2 ⊢
  obtain ⟨m0, m1, m2, m3, mb⟩ := FC2.out.kept G1.out
  have n1 : w1.cell? ⟨g6, 0, none⟩ = some (.int .u32 (Y2 : Int)) := (G1.out.cell _ _ HS2.out.1).trans v6.out
  have n2 : w1.cell? ⟨g7, 0, none⟩ = some (.int .u32 (Y3 : Int)) := (G1.out.cell _ _ HS2.out.2.1).trans v7.out
  have n3 : w1.cell? ⟨bt, 2, none⟩ = some (.int .u32 (c : Int)) := (G1.out.cell _ _ HS2.out.2.2.1).trans X2.out
  have hsz := G1.out.size
  have HC : Hid (∀ w', Gr w1 w' → w'.cell? ⟨b3, 0, none⟩ = some (.int .u32 469762049) ∧ w'.cell? ⟨b3, 1, none⟩ = some (.int .u32 (nC : Int)) ∧ w'.cell? ⟨b3, 2, none⟩ = some (.int .u32 (oC : Int)) ∧ w'.cell? ⟨b3, 3, none⟩ = some (.int .u32 (sC : Int)) ∧ w'.cell? ⟨g6, 0, none⟩ = some (.int .u32 (Y2 : Int)) ∧ w'.cell? ⟨g7, 0, none⟩ = some (.int .u32 (Y3 : Int)) ∧ w'.cell? ⟨bt, 2, none⟩ = some (.int .u32 (c : Int)) ∧ b3 < w'.heap.size ∧ g6 < w'.heap.size ∧ g7 < w'.heap.size ∧ bt < w'.heap.size ∧ Gr w1 w') :=
    fun w' hg => keepJ2 ⟨m0, m1, m2, m3, n1, n2, n3, mb, Nat.lt_of_lt_of_le HS2.out.1 hsz, Nat.lt_of_lt_of_le HS2.out.2.1 hsz, Nat.lt_of_lt_of_le HS2.out.2.2.1 hsz, Gr.refl w1⟩ hg
  clear m0 m1 m2 m3 mb n1 n2 n3 hsz x0 x1 v5 k0 k1 k2 k3 hW2 hbt v6 v7 X2 FC2
  go_region_held3 (fun w' => w'.cell? ⟨b3, 0, none⟩ = some (.int .u32 469762049) ∧ w'.cell? ⟨b3, 1, none⟩ = some (.int .u32 (nC : Int)) ∧ w'.cell? ⟨b3, 2, none⟩ = some (.int .u32 (oC : Int)) ∧ w'.cell? ⟨b3, 3, none⟩ = some (.int .u32 (sC : Int)) ∧ w'.cell? ⟨g6, 0, none⟩ = some (.int .u32 (Y2 : Int)) ∧ w'.cell? ⟨g7, 0, none⟩ = some (.int .u32 (Y3 : Int)) ∧ w'.cell? ⟨bt, 2, none⟩ = some (.int .u32 (c : Int)) ∧ b3 < w'.heap.size ∧ g6 < w'.heap.size ∧ g7 < w'.heap.size ∧ bt < w'.heap.size ∧ Gr w1 w')
    (first | assumption | exact HC.out _ ((Gr.refl _).drew) | exact keepJ2 ‹_› hg)
    (first
     | (go_at_call 47; (with_reducible refine (H2.out _).mono ?_); rintro e w3 ⟨rfl, hg⟩)
     | (go_at_call 47; (with_reducible refine (H3.out _).mono ?_); rintro e w4 ⟨rfl, hg⟩))
  rename_i hH
  have hG := hH.2.2.2.2.2.2.2.2.2.2.2
  have HB4 := Lib.hid (hB2.out.trans ((show Bl W2 w1 from G1.out.1).trans hG.1))
  have hr : w4.cell? ⟨bt + 1, 0, none⟩ = some (.int .u64 0) ∧ w4.cell? ⟨bt + 1, 1, none⟩ = some (.int .u64 0) ∧ w4.frozen? ⟨bt + 1, 0, none⟩ = false ∧ w4.frozen? ⟨bt + 1, 1, none⟩ = false := by
    have g := G1.out.trans hG
    have hs := HS2.out.2.2.2
    exact ⟨(g.cell _ _ hs).trans R0.out.1, (g.cell _ _ hs).trans R0.out.2.1, (g.2 _).trans R0.out.2.2.1, (g.2 _).trans R0.out.2.2.2⟩
  obtain ⟨k0, k1, k2, k3⟩ := hr
  have hc := sets2 k0 k1 (.int .u64 (X : Int)) (.int .u64 (lo : Int))
  clear hH hG hg H2 H3 HC
  go_wp2_with (first
    | (go_at_call 33; (with_reducible refine (HM.out _).mono ?_); rintro e w' ⟨rfl, rfl⟩))
  refine bodyPost_ret (v := .agg #[.int .u64 (X : Int), .int .u64 (lo : Int)]) (by simp [results, Tryd.results46, go_sem, a24, z24, hc.1, hc.2]) rfl ⟨rfl, (HB4.out.setCell (p := ⟨bt + 1, 0, none⟩) (by rw [HW.out]; exact Nat.le_succ _) _).setCell (p := ⟨bt + 1, 1, none⟩) (by rw [HW.out]; exact Nat.le_succ _) _⟩

set_option maxRecDepth 100000 in
set_option maxHeartbeats 1000000 in
theorem join_any (a b c : Nat) (ha : a < 4294967296) (hb : b < 4294967296) (hc : c < 4294967296) (w : World) :
    Calls Tryd.prog 13 #[.agg #[.int .u32 (a : Int), .int .u32 (b : Int), .int .u32 (c : Int)]] w fun e w' => e = .returned (pairv (jn a b c / 18446744073709551616) (jn a b c % 18446744073709551616)) ∧ Bl w w' := by
  have J := Lib.hid (fun w => joiner_any w)
  have C := Lib.hid (fun w b1 g5 b3 g6 g7 hj => jcall_any w b1 g5 b3 g6 g7 hj a b c ha hb hc)
  obtain ⟨hi, hhi⟩ : ∃ x, jn a b c / 18446744073709551616 = x := ⟨_, rfl⟩
  obtain ⟨lo, hlo⟩ : ∃ x, jn a b c % 18446744073709551616 = x := ⟨_, rfl⟩
  rw [hhi, hlo] at C ⊢
  unfold pairv at C ⊢
  clear hhi hlo ha hb hc
  have a24 := Tryd.isAgg24
  have z24 := Tryd.sizeOf24
  have a27 := Tryd.isAgg27
  have z27 := Tryd.sizeOf27
  go_enter Tryd.func13, Tryd.ntmps13
  go_wp2
  obtain ⟨W2, hW2⟩ : ∃ W2, (w.alloc (.cells #[.int .u32 (a : Int), .int .u32 (b : Int), .int .u32 (c : Int)] 27)).alloc (.cells #[.int .u64 0, .int .u64 0] 24) = W2 := ⟨_, rfl⟩
  have hb2 : Bl w W2 := by rw [← hW2]; exact ((Bl.refl w).alloc _).alloc _
  have hs2 : w.heap.size < W2.heap.size ∧ w.heap.size + 1 < W2.heap.size := by
    have : W2.heap.size = w.heap.size + 2 := by rw [← hW2]; simp
    omega
  have x0 : W2.cell? ⟨w.heap.size, 0, none⟩ = some (.int .u32 (a : Int)) := by subst hW2; go_simp
  have x1 : W2.cell? ⟨w.heap.size, 1, none⟩ = some (.int .u32 (b : Int)) := by subst hW2; go_simp
  have x2 : W2.cell? ⟨w.heap.size, 2, none⟩ = some (.int .u32 (c : Int)) := by subst hW2; go_simp
  have r0 : W2.cell? ⟨w.heap.size + 1, 0, none⟩ = some (.int .u64 0) ∧ W2.cell? ⟨w.heap.size + 1, 1, none⟩ = some (.int .u64 0) ∧ W2.frozen? ⟨w.heap.size + 1, 0, none⟩ = false ∧ W2.frozen? ⟨w.heap.size + 1, 1, none⟩ = false := by subst hW2; go_simp
  have HB2 := Lib.hid hb2
  rw [hW2]
  have HC : Hid (∀ w', Bl W2 w' → w'.cell? ⟨w.heap.size, 0, none⟩ = some (.int .u32 (a : Int)) ∧ w'.cell? ⟨w.heap.size, 1, none⟩ = some (.int .u32 (b : Int)) ∧ w'.cell? ⟨w.heap.size, 2, none⟩ = some (.int .u32 (c : Int))) := fun w' g => ⟨(g.cell (p := ⟨w.heap.size, 0, none⟩) hs2.1).trans x0, (g.cell (p := ⟨w.heap.size, 1, none⟩) hs2.1).trans x1, (g.cell (p := ⟨w.heap.size, 2, none⟩) hs2.1).trans x2⟩
  have HR : Hid (∀ w', Bl W2 w' → w'.cell? ⟨w.heap.size + 1, 0, none⟩ = some (.int .u64 0) ∧ w'.cell? ⟨w.heap.size + 1, 1, none⟩ = some (.int .u64 0) ∧ w'.frozen? ⟨w.heap.size + 1, 0, none⟩ = false ∧ w'.frozen? ⟨w.heap.size + 1, 1, none⟩ = false ∧ (w'.setCell ⟨w.heap.size + 1, 0, none⟩ (.int .u64 (hi : Int))).cell? ⟨w.heap.size + 1, 1, none⟩ = some (.int .u64 0)) := fun w' g => by
    have y0 := (g.cell (p := ⟨w.heap.size + 1, 0, none⟩) hs2.2).trans r0.1
    have y1 := (g.cell (p := ⟨w.heap.size + 1, 1, none⟩) hs2.2).trans r0.2.1
    exact ⟨y0, y1, (g.frozen _ _ hs2.2).trans r0.2.2.1, (g.frozen _ _ hs2.2).trans r0.2.2.2, (World.cell?_setCell_other _ _ _ _ (fun e => by have := congrArg Addr.off e; have e' : (0 : Nat) = 1 := this; omega)).trans y1⟩
  clear hW2 hb2 hs2 r0
  go_region_with (first
    | (go_at_call 27; (with_reducible refine (J.out _).mono ?_); rintro e w1 ⟨b1, g5, b3, g6, g7, rfl, hj, hb'⟩; have G1 := Lib.hid ((Bl.refl W2).drew.trans hb'); have HJ := Lib.hid hj; obtain ⟨y0, y1, y2⟩ := HC.out _ G1.out; clear hj hb')
    | (go_at_call 46; (with_reducible refine (C.out _ _ _ _ _ _ HJ.out).mono ?_); rintro e w3 ⟨rfl, hb'⟩; have G3 := Lib.hid (G1.out.trans hb'); obtain ⟨z0, z1', z2', z3, z4⟩ := HR.out _ G3.out; clear hb'))
  all_goals
    have hc := sets2 z0 z1' (.int .u64 (hi : Int)) (.int .u64 (lo : Int))
    go_wp2
    refine bodyPost_ret (v := .agg #[.int .u64 (hi : Int), .int .u64 (lo : Int)]) (by simp [results, Tryd.results13, go_sem, a24, z24, hc.1, hc.2]) rfl ⟨rfl, ((HB2.out.trans G3.out).setCell (p := ⟨w.heap.size + 1, 0, none⟩) (Nat.le_succ _) _).setCell (p := ⟨w.heap.size + 1, 1, none⟩) (Nat.le_succ _) _⟩
end Go.Proofs.YtiainhbkoehhjaaDoor
