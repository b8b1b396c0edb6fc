/-
  Package prod: split, by three smaller products; Kara, over numbers.
-/
import Derived.Test.YteoeaogfeblokaaProdG
namespace Go.Proofs.Yteoeaogfeblokaa
open Go.RowKit
set_option linter.unusedVariables false
set_option linter.unusedSimpArgs false

theorem split_num (P a b c d : Nat) : (a * d + b * c) = (a + b) * (c + d) - (a * c + b * d) ∧ b * d + P * P * (a * c) + P * (a * d + b * c) = (P * a + b) * (P * c + d) := by
  constructor
  · have : (a + b) * (c + d) = a * c + b * d + (a * d + b * c) := by simp only [Nat.add_mul, Nat.mul_add]; omega
    omega
  · simp only [Nat.add_mul, Nat.mul_add]
    have e1 : P * P * (a * c) = P * a * (P * c) := by ac_rfl
    have e2 : P * (a * d) = P * a * d := by ac_rfl
    have e3 : P * (b * c) = b * (P * c) := by ac_rfl
    rw [e1, e2, e3]
    omega
theorem split_len {X mx n : Nat} (h : (dig 18446744073709551616 X).length ≤ mx) (hn : mx ≤ 2 * n) : (dig 18446744073709551616 (X / 18446744073709551616 ^ n)).length ≤ n ∧ (dig 18446744073709551616 (X % 18446744073709551616 ^ n)).length ≤ n ∧
    (dig 18446744073709551616 (X / 18446744073709551616 ^ n + X % 18446744073709551616 ^ n)).length ≤ n + 1 := by
  have h1 : Sz n (X / 18446744073709551616 ^ n) := by
    unfold Sz
    rw [Nat.div_lt_iff_lt_mul (Nat.pow_pos (by decide)), ← Nat.pow_add]
    exact (sz_dig X).mono (by omega)
  have h2 : Sz n (X % 18446744073709551616 ^ n) := Nat.mod_lt _ (Nat.pow_pos (by decide))
  exact ⟨dig_len_of_lt _ (by decide) _ _ h1, dig_len_of_lt _ (by decide) _ _ h2, dig_len_of_lt _ (by decide) _ _ (h1.add h2)⟩
theorem joined_val (N A B : Nat) (h : (dig 18446744073709551616 A).length ≤ N) : val 18446744073709551616 (dig 18446744073709551616 A ++ List.replicate (N - (dig 18446744073709551616 A).length) 0 ++ dig 18446744073709551616 B) = A + 18446744073709551616 ^ N * B := by
  have vz : ∀ k, val 18446744073709551616 (List.replicate k 0) = 0 := by
    intro k
    induction k with
    | zero => rfl
    | succ k ih => show 0 + 18446744073709551616 * val 18446744073709551616 (List.replicate k 0) = 0; rw [ih]
  rw [val_append, val_append, val_dig _ (by decide), val_dig _ (by decide), vz, List.length_append, List.length_replicate, Nat.add_sub_cancel' h, Nat.mul_zero, Nat.add_zero]
theorem all_noughts (k : Nat) : All 18446744073709551616 (List.replicate k 0) := fun i hi => by simp
theorem len_mul {A B i j : Nat} (h : (dig 18446744073709551616 A).length ≤ i) (h' : (dig 18446744073709551616 B).length ≤ j) : (dig 18446744073709551616 (A * B)).length ≤ i + j := by
  refine dig_len_of_lt _ (by decide) _ _ ?_
  rw [Nat.pow_add]
  exact Nat.mul_lt_mul'' ((sz_dig A).mono h) ((sz_dig B).mono h')

set_option maxRecDepth 100000 in
set_option maxHeartbeats 8000000 in
theorem cs_of (k : Nat) (hK : ∀ j, j < k → CKar j) : CSpl k := by
  intro W p q least v u X Y hp hq hpl hql h3 hb hv hu hx hy hk hlx hly
  obtain ⟨n, hn⟩ : ∃ n, (max (dig 18446744073709551616 X).length (dig 18446744073709551616 Y).length + 1) / 2 = n := ⟨_, rfl⟩
  have hnk : n + 1 < k := by omega
  have hKn := hK (n + 1) hnk
  have KK := Lib.hid (fun W' v' u' A B (g : Bl W W') (h : Rw .u64 W' v' (dig 18446744073709551616 A)) (h' : Rw .u64 W' u' (dig 18446744073709551616 B)) l1 l2 => hKn W' p q least v' u' A B ((g.cell (p := ⟨p, 0, none⟩) hpl).trans hp) ((g.cell (p := ⟨q, 0, none⟩) hql).trans hq) (Nat.lt_of_lt_of_le hpl g.size) (Nat.lt_of_lt_of_le hql g.size) h3 hb h h' l1 l2 (by omega))
  obtain ⟨lx1, lx2, lx3⟩ := split_len (X := X) (n := n) (Nat.le_refl _) (by omega)
  obtain ⟨ly1, ly2, ly3⟩ := split_len (X := Y) (n := n) (Nat.le_refl _) (by omega)
  have HX := Lib.hid (fun W' (g : Bl W W') => pHalf W' v X (n : Int) (rw_nu (hv.bl g) (by omega)) (by omega) (by omega))
  have HY := Lib.hid (fun W' (g : Bl W W') => pHalf W' u Y (n : Int) (rw_nu (hu.bl g) (by omega)) (by omega) (by omega))
  rw [Int.toNat_natCast] at HX HY
  obtain ⟨c, ec⟩ : ∃ c, X / 18446744073709551616 ^ n = c := ⟨_, rfl⟩
  obtain ⟨d, ed⟩ : ∃ c, X % 18446744073709551616 ^ n = c := ⟨_, rfl⟩
  obtain ⟨f, ef⟩ : ∃ c, Y / 18446744073709551616 ^ n = c := ⟨_, rfl⟩
  obtain ⟨g, eg⟩ : ∃ c, Y % 18446744073709551616 ^ n = c := ⟨_, rfl⟩
  have eX : 18446744073709551616 ^ n * c + d = X := by rw [← ec, ← ed]; exact Nat.div_add_mod X _
  have eY : 18446744073709551616 ^ n * f + g = Y := by rw [← ef, ← eg]; exact Nat.div_add_mod Y _
  rw [ec, ed] at HX lx3
  rw [ec] at lx1
  rw [ed] at lx2
  rw [ef, eg] at HY ly3
  rw [ef] at ly1
  rw [eg] at ly2
  obtain ⟨m1, m2⟩ := split_num (18446744073709551616 ^ n) c d f g
  rw [eX, eY] at m2
  have hlo := len_mul lx2 ly2
  have hhi := len_mul lx1 ly1
  have hal := len_mul lx3 ly3
  have sh : (dig 18446744073709551616 (c * f + d * g)).length ≤ n + n + 1 := dig_len_of_lt _ (by decide) _ _ (((sz_dig _).mono hhi).add ((sz_dig _).mono hlo))
  have sm : (dig 18446744073709551616 (c * g + d * f)).length ≤ n + 1 + (n + 1) := dig_len_of_lt _ (by decide) _ _ (((sz_dig _).mono hal).le (by rw [m1]; exact Nat.sub_le _ _))
  have hge : ¬ ((c + d) * (f + g) < c * f + d * g) := by
    have : (c + d) * (f + g) = c * f + d * g + (c * g + d * f) := by simp only [Nat.add_mul, Nat.mul_add]; omega
    omega
  have KA1 := Lib.hid (fun W' v' u' (h : Rw .u64 W' v' (dig 18446744073709551616 c)) (h' : Rw .u64 W' u' (dig 18446744073709551616 d)) => pAdd W' v' u' c d (rw_nu h (by omega)) (rw_nu h' (by omega)))
  have KA2 := Lib.hid (fun W' v' u' (h : Rw .u64 W' v' (dig 18446744073709551616 f)) (h' : Rw .u64 W' u' (dig 18446744073709551616 g)) => pAdd W' v' u' f g (rw_nu h (by omega)) (rw_nu h' (by omega)))
  have KA3 := Lib.hid (fun W' v' u' (h : Rw .u64 W' v' (dig 18446744073709551616 (c * f))) (h' : Rw .u64 W' u' (dig 18446744073709551616 (d * g))) => pAdd W' v' u' _ _ (rw_nu h (by omega)) (rw_nu h' (by omega)))
  have KS := fun W' v' u' (h : Rw .u64 W' v' (dig 18446744073709551616 ((c + d) * (f + g)))) (h' : Rw .u64 W' u' (dig 18446744073709551616 (c * f + d * g))) => (show Calls Try.prog 44 #[v', u'] W' (RwErr .u64 W' (dig 18446744073709551616 (c * g + d * f)) 0) by
    have r := pSub W' v' u' _ _ (rw_nu h (by omega)) (rw_nu h' (by omega))
    rw [if_neg hge, ← m1] at r
    exact r)
  have KS' := Lib.hid KS
  have hjv := joined_val (2 * n) (d * g) (c * f) (by omega)
  have hjm := joined_val n 0 (c * g + d * f) (by rw [dig_zero]; exact Nat.zero_le _)
  rw [dig_zero] at hjm
  have KJ1 := Lib.hid (fun w p0 p1 h0 h1 => pjoined_lit w (2 * n) p0 p1 (dig 18446744073709551616 (d * g)) (dig 18446744073709551616 (c * f)) h0 h1 (by omega) (by omega))
  have KJ2 := Lib.hid (fun w p0 p1 h0 h1 => pjoined_lit w n p0 p1 [] (dig 18446744073709551616 (c * g + d * f)) h0 h1 (by simp) (by omega))
  obtain ⟨J1, eJ1⟩ : ∃ J, dig 18446744073709551616 (d * g) ++ List.replicate (2 * n - (dig 18446744073709551616 (d * g)).length) 0 ++ dig 18446744073709551616 (c * f) = J := ⟨_, rfl⟩
  obtain ⟨J2, eJ2⟩ : ∃ J, [] ++ List.replicate (n - ([] : List Nat).length) 0 ++ dig 18446744073709551616 (c * g + d * f) = J := ⟨_, rfl⟩
  have aJ1 : All 18446744073709551616 J1 := by rw [← eJ1]; exact all_append (all_append (all_dig _ (by decide) _) (all_noughts _)) (all_dig _ (by decide) _)
  have aJ2 : All 18446744073709551616 J2 := by rw [← eJ2]; exact all_append (all_append (all_nil _) (all_noughts _)) (all_dig _ (by decide) _)
  have lJ1 : J1.length < 1048576 := by rw [← eJ1]; simp only [List.length_append, List.length_replicate]; omega
  have lJ2 : J2.length < 1048576 := by rw [← eJ2]; simp only [List.length_append, List.length_replicate, List.length_nil]; omega
  rw [eJ1] at hjv KJ1
  rw [eJ2] at hjm KJ2
  have KE := fun W' v' u' (h : Rw .u64 W' v' J1) (h' : Rw .u64 W' u' J2) => pAdd W' v' u' _ _ (Nu.mk h aJ1 lJ1) (Nu.mk h' aJ2 lJ2)
  rw [hjv, hjm, Nat.zero_add, show 18446744073709551616 ^ (2 * n) = 18446744073709551616 ^ n * 18446744073709551616 ^ n by rw [Nat.two_mul, Nat.pow_add], m2] at KE
  have KE' := Lib.hid KE
  obtain ⟨Ax, cx, rfl, _, _, _, _⟩ := id hv
  obtain ⟨Ay, cy, rfl, _, _, _, _⟩ := id hu
  obtain ⟨nx, enx⟩ : ∃ n, (dig 18446744073709551616 X).length = n := ⟨_, rfl⟩
  obtain ⟨ny, eny⟩ : ∃ n, (dig 18446744073709551616 Y).length = n := ⟨_, rfl⟩
  rw [enx, eny] at hn
  rw [enx] at HX hlx hx ⊢
  rw [eny] at HY hly hy ⊢
  have L1 := Lib.hid (show (dig 18446744073709551616 c).length ≤ n + 1 by omega)
  have L2 := Lib.hid (show (dig 18446744073709551616 d).length ≤ n + 1 by omega)
  have L3 := Lib.hid (show (dig 18446744073709551616 f).length ≤ n + 1 by omega)
  have L4 := Lib.hid (show (dig 18446744073709551616 g).length ≤ n + 1 by omega)
  have L5 := Lib.hid lx3
  have L6 := Lib.hid ly3
  have e1 : max (nx : Int) (ny : Int) + 1 = ((max nx ny + 1 : Nat) : Int) := by omega
  obtain ⟨mx, emx⟩ : ∃ m, max nx ny + 1 = m := ⟨_, rfl⟩
  rw [emx] at e1 hn
  have e2 : (mx : Int).tdiv 2 = (n : Int) := by rw [Int.tdiv_eq_ediv_of_nonneg (by omega)]; omega
  have e2' : (mx : Int) / 2 = (n : Int) := by omega
  have e3 : (2 : Int) * (n : Int) = ((2 * n : Nat) : Int) := by omega
  obtain ⟨n2, en2⟩ : ∃ m, 2 * n = m := ⟨_, rfl⟩
  rw [en2] at e3 KJ1
  have i1 : (nx : Int) ≤ 200000 := by omega
  have i2 : (ny : Int) ≤ 200000 := by omega
  have i3 : (mx : Int) ≤ 200001 := by omega
  have i4 : (n : Int) ≤ 200001 := by omega
  obtain ⟨R, eR⟩ : ∃ R, dig 18446744073709551616 (X * Y) = R := ⟨_, rfl⟩
  rw [eR] at KE' ⊢
  clear hK hKn KS KE hp hq hpl hql h3 hb hv hu hx hy hk hlx hly hn hnk lx1 lx2 lx3 ly1 ly2 ly3 ec ed ef eg eX eY m1 m2 hlo hhi hal sh sm hge hjv hjm eJ1 eJ2 aJ1 aJ2 lJ1 lJ2 enx eny emx en2 eR
  unfold kF
  go_enter Try.func33, Try.ntmps33
  go_wp2_with (first
    | (go_at_call 19; (with_reducible refine (HX.out _ ((Bl.refl _).alloc _)).mono ?_); rintro e w1 ⟨v1, v2, rfl, hr1, hr2, hb1⟩; have R1 := Lib.hid hr1; have R2 := Lib.hid hr2; have B1 := Lib.hid hb1; clear hr1 hr2 hb1)
    | (go_at_call 19; (with_reducible refine (HY.out _ (((Bl.refl _).alloc _).trans B1.out)).mono ?_); rintro e w2 ⟨v3, v4, rfl, hr1, hr2, hb1⟩; have R3 := Lib.hid hr1; have R4 := Lib.hid hr2; have R1' := Lib.hid (R1.out.bl hb1); have R2' := Lib.hid (R2.out.bl hb1); have B2 := Lib.hid (B1.out.trans hb1); clear hr1 hr2 hb1))
  have B12 := Lib.hid (((Bl.refl W).alloc (.cells #[.func (.func 32) #[] #[.pointer (some ⟨p, 0, none⟩), .pointer (some ⟨q, 0, none⟩)]] 49)).trans B2.out)
  have hc := (B2.out.cell (p := ⟨W.heap.size, 0, none⟩) (by simp)).trans (show (W.alloc (.cells #[.func (.func 32) #[] #[.pointer (some ⟨p, 0, none⟩), .pointer (some ⟨q, 0, none⟩)]] 49)).cell? ⟨W.heap.size, 0, none⟩ = some (.func (.func 32) #[] #[.pointer (some ⟨p, 0, none⟩), .pointer (some ⟨q, 0, none⟩)]) by simp)
  have HWS : Hid (W.heap.size < w2.heap.size) := Nat.lt_of_lt_of_le (by simp) B2.out.size
  clear B2 B1 R1 R2
  refine Code.wp_mono (Q := fun e a w' => match e with
    | .normal => ∃ v5 v6, Hid (Rw .u64 w' v5 (dig 18446744073709551616 (c * f))) ∧ Hid (Rw .u64 w' v6 (dig 18446744073709551616 (d * g))) ∧ Hid (Bl w2 w') ∧ a = { tmps := #[.agg #[.func (.func 32) #[] #[.pointer (some ⟨p, 0, none⟩), .pointer (some ⟨q, 0, none⟩)]], .slice Ax nx cx, .slice Ay ny cy, .pointer (some ⟨W.heap.size, 0, none⟩), undef, undef, .slice none 0 0, .int .i64 (n : Int), v1, v2, v3, v4, v5, v6, undef, undef, undef, .slice Ax nx cx, .int .i64 (nx : Int), .slice Ay ny cy, .int .i64 (ny : Int), .int .i64 (max (nx : Int) (ny : Int)), .int .i64 (mx : Int), .int .i64 (n : Int), .tuple #[v1, v2], .slice Ax nx cx, .int .i64 (n : Int), .tuple #[v1, v2], v1, v2, .tuple #[v3, v4], .slice Ay ny cy, .int .i64 (n : Int), .tuple #[v3, v4], v3, v4, .pointer (some ⟨W.heap.size, 0, none⟩), .func (.func 32) #[] #[.pointer (some ⟨p, 0, none⟩), .pointer (some ⟨q, 0, none⟩)], v1, v3, v5, .pointer (some ⟨W.heap.size, 0, none⟩), .func (.func 32) #[] #[.pointer (some ⟨p, 0, none⟩), .pointer (some ⟨q, 0, none⟩)], v2, v4, v6, undef, undef, undef, undef, undef, undef, undef, undef, undef, undef, undef, undef, undef, undef, undef, undef, undef, undef, undef, undef, undef, undef, undef, undef, undef, undef, undef, undef], defers := [] }
    | _ => False) ?_ ?_
  rotate_left
  · go_region_with (first
      | (go_at_call 32; (with_reducible refine (KK.out _ _ _ _ _ B12.out.drew (R1'.out.bl (Bl.refl _).drew) (R3.out.bl (Bl.refl _).drew) L1.out L3.out).mono ?_); rintro e w5 ⟨v5, rfl, hr5, hb5⟩; have hc5 := (hb5.cell (p := ⟨W.heap.size, 0, none⟩) HWS.out).trans hc; have R5 := Lib.hid hr5; have B5 := Lib.hid hb5; clear hr5 hb5)
      | (go_at_call 32; (with_reducible refine (KK.out _ _ _ _ _ (B12.out.drew.trans B5.out) (R2'.out.bl ((Bl.refl _).drew.trans B5.out)) (R4.out.bl ((Bl.refl _).drew.trans B5.out)) L2.out L4.out).mono ?_); rintro e w6 ⟨v6, rfl, hr6, hb6⟩; have R6 := Lib.hid hr6; have B6 := Lib.hid hb6; clear hr6 hb6))
    all_goals exact ⟨v5, v6, R5.out.bl B6.out, R6.out, ((Bl.refl _).drew.trans B5.out).trans B6.out, rfl⟩
  intro e a w' h
  cases e <;> first | exact h.elim | skip
  obtain ⟨v5, v6, R5, R6, B56, rfl⟩ := h
  dsimp only
  have R1 := Lib.hid (R1'.out.bl B56.out)
  have R2 := Lib.hid (R2'.out.bl B56.out)
  have R3' := Lib.hid (R3.out.bl B56.out)
  have R4' := Lib.hid (R4.out.bl B56.out)
  have hc' := (B56.out.cell (p := ⟨W.heap.size, 0, none⟩) HWS.out).trans hc
  have HWS' : Hid (W.heap.size < w'.heap.size) := Nat.lt_of_lt_of_le HWS.out B56.out.size
  have B1w := Lib.hid (B12.out.trans B56.out)
  clear R1' R2' R3 R4 hc B56 B12 HWS
  go_wp2_with (fail)
  refine Code.wp_mono (Q := fun e a w'' => match e with
    | .normal => ∃ v7 v8 v9, Hid (Rw .u64 w'' v9 (dig 18446744073709551616 ((c + d) * (f + g)))) ∧ Hid (Bl w' w'') ∧ a = { tmps := #[.agg #[.func (.func 32) #[] #[.pointer (some ⟨p, 0, none⟩), .pointer (some ⟨q, 0, none⟩)]], .slice Ax nx cx, .slice Ay ny cy, .pointer (some ⟨W.heap.size, 0, none⟩), undef, undef, .slice none 0 0, .int .i64 (n : Int), v1, v2, v3, v4, v5, v6, v9, undef, undef, .slice Ax nx cx, .int .i64 (nx : Int), .slice Ay ny cy, .int .i64 (ny : Int), .int .i64 (max (nx : Int) (ny : Int)), .int .i64 (mx : Int), .int .i64 (n : Int), .tuple #[v1, v2], .slice Ax nx cx, .int .i64 (n : Int), .tuple #[v1, v2], v1, v2, .tuple #[v3, v4], .slice Ay ny cy, .int .i64 (n : Int), .tuple #[v3, v4], v3, v4, .pointer (some ⟨W.heap.size, 0, none⟩), .func (.func 32) #[] #[.pointer (some ⟨p, 0, none⟩), .pointer (some ⟨q, 0, none⟩)], v1, v3, v5, .pointer (some ⟨W.heap.size, 0, none⟩), .func (.func 32) #[] #[.pointer (some ⟨p, 0, none⟩), .pointer (some ⟨q, 0, none⟩)], v2, v4, v6, .pointer (some ⟨W.heap.size, 0, none⟩), .func (.func 32) #[] #[.pointer (some ⟨p, 0, none⟩), .pointer (some ⟨q, 0, none⟩)], v1, v2, v7, v3, v4, v8, v9, undef, undef, undef, undef, undef, undef, undef, undef, undef, undef, undef, undef, undef, undef, undef, undef, undef, undef, undef], defers := [] }
    | _ => False) ?_ ?_
  rotate_left
  · go_region_with (first
      | (go_at_call 35; (with_reducible refine (KA1.out _ _ _ (R1.out.bl (Bl.refl _).drew) (R2.out.bl (Bl.refl _).drew)).mono ?_); rintro e w7 ⟨v7, rfl, hr7, hb7⟩; have hc7 := (hb7.cell (p := ⟨W.heap.size, 0, none⟩) HWS'.out).trans hc'; have R7 := Lib.hid hr7; have B7 := Lib.hid ((Bl.refl w').drew.trans hb7); have HWS7 := Lib.hid (Nat.lt_of_lt_of_le HWS'.out hb7.size); clear hr7 hb7)
      | (go_at_call 35; (with_reducible refine (KA2.out _ _ _ (R3'.out.bl B7.out) (R4'.out.bl B7.out)).mono ?_); rintro e w8 ⟨v8, rfl, hr8, hb8⟩; have hc8 := (hb8.cell (p := ⟨W.heap.size, 0, none⟩) HWS7.out).trans hc7; have R8 := Lib.hid hr8; have R7' := Lib.hid (R7.out.bl hb8); have B8 := Lib.hid (B7.out.trans hb8); clear hr8 hb8)
      | (go_at_call 32; (with_reducible refine (KK.out _ _ _ _ _ (B1w.out.trans B8.out) R7'.out R8.out L5.out L6.out).mono ?_); rintro e w9 ⟨v9, rfl, hr9, hb9⟩; have R9 := Lib.hid hr9; have B9 := Lib.hid (B8.out.trans hb9); clear hr9 hb9))
    all_goals exact ⟨v7, v8, v9, R9.out, B9.out, rfl⟩
  intro e a w'' h
  cases e <;> first | exact h.elim | skip
  obtain ⟨v7, v8, v9, R9, B9, rfl⟩ := h
  dsimp only
  have R5' := Lib.hid (R5.out.bl B9.out)
  have R6' := Lib.hid (R6.out.bl B9.out)
  have BW := Lib.hid (B1w.out.trans B9.out)
  clear R5 R6 R1 R2 R3' R4' hc' HWS' B1w B9 KK KA1 KA2
  obtain ⟨A5, c5, rfl, _, _, _, _⟩ := id R5'.out
  obtain ⟨A6, c6, rfl, _, _, _, _⟩ := id R6'.out
  obtain ⟨n5, en5⟩ : ∃ m, (dig 18446744073709551616 (c * f)).length = m := ⟨_, rfl⟩
  obtain ⟨n6, en6⟩ : ∃ m, (dig 18446744073709551616 (d * g)).length = m := ⟨_, rfl⟩
  rw [en5] at R5' ⊢
  rw [en6] at R6' ⊢
  clear en5 en6
  go_wp2_with (first
    | (go_at_call 35; (with_reducible refine (KA3.out _ _ _ R5'.out R6'.out).mono ?_); rintro e w3 ⟨va, rfl, hr, hb'⟩; have Ra := Lib.hid hr; have Ba := Lib.hid hb'; clear hr hb')
    | (go_at_call 44; (with_reducible refine (KS'.out _ _ _ (R9.out.bl Ba.out) Ra.out).mono ?_); rintro e w4 ⟨vb, rfl, hr, hb'⟩; have Rb := Lib.hid hr; have Bb := Lib.hid (Ba.out.trans hb'); clear hr hb'; obtain ⟨Ab, cb, rfl, _, _, _, _⟩ := id Rb.out)
    | (go_at_call 45; (with_reducible refine (KJ1.out _ _ _ (R6'.out.bl Bb.out) (R5'.out.bl Bb.out)).mono ?_); rintro e wj1 ⟨vj1, rfl, hr, hb'⟩; have Rj1 := Lib.hid hr; have Bj1 := Lib.hid hb'; clear hr hb')
    | (go_at_call 45; (with_reducible refine (KJ2.out _ _ _ (Rw.nil _ _) (Rb.out.bl Bj1.out)).mono ?_); rintro e wj2 ⟨vj2, rfl, hr, hb'⟩; have Rj2 := Lib.hid hr; have Rj1' := Lib.hid (Rj1.out.bl hb'); have Bj2 := Lib.hid (Bj1.out.trans hb'); clear hr hb')
    | (go_at_call 35; (with_reducible refine (KE'.out _ _ _ Rj1'.out Rj2.out).mono ?_); rintro e wz ⟨vz, rfl, hr, hb'⟩; have Rz := Lib.hid hr; have Bz := Lib.hid (Bj2.out.trans hb'); clear hr hb'))
  go_ret
  exact RwEnd.mk Rz.out (BW.out.trans (Bb.out.trans Bz.out))

theorem ck_all : ∀ k, CKar k := by
  intro k
  induction k using Nat.strongRecOn with
  | ind k ih => exact ck_of k (cs_of k ih)
end Go.Proofs.Yteoeaogfeblokaa
