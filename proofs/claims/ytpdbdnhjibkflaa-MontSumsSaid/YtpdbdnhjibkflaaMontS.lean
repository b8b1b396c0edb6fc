/-
  The document's Make and Pow for layer 3; the example that stands at the head of each statement.
-/
import Derived.Test.YtpdbdnhjibkflaaMontR
import Derived.Test.YtpdbdnhjibkflaaMontE
namespace Go.Proofs.Ytpdbdnhjibkflaa
open Go.RowKit
set_option linter.unusedVariables false

/-- One digit, as the walk reckons it. -/
theorem dg_num (m k g : Nat) (hm : m < 2147483648) (hk : k < 32) (d : Dg m k g) : ∃ P c q : Nat, 2 ^ k = P ∧ IntKind.u64.wrap ((g : Int) * (m : Int)) = (c : Int) ∧ (c : Int) / (P : Int) = (q : Int) ∧ g * m / P = q ∧
    ¬ (P : Int) = 0 ∧ IntKind.u64.wrap (q : Int) = (q : Int) ∧ IntKind.u64.wrap ((g : Int) + (P : Int)) = ((g + P : Nat) : Int) ∧ IntKind.u64.wrap ((P : Int) + (P : Int)) = ((2 ^ (k + 1) : Nat) : Int) := by
  obtain ⟨P, hP⟩ : ∃ P, 2 ^ k = P := ⟨_, rfl⟩
  have hpos : 0 < P := by rw [← hP]; exact Nat.two_pow_pos k
  have hle : P ≤ 2147483648 := by rw [← hP]; exact Nat.pow_le_pow_right (by omega) (show k ≤ 31 by omega)
  have hg : g < P := by rw [← hP]; exact d.2
  have hP2 : 2 ^ (k + 1) = P * 2 := by rw [Nat.pow_succ, hP]
  have hgm : g * m < 2147483648 * 2147483648 := Nat.mul_lt_mul'' (by omega) hm
  have hq : g * m / P ≤ g * m := Nat.div_le_self _ _
  refine ⟨P, g * m, g * m / P, hP, ?_, rfl, rfl, by omega, wrapN _ (by omega), ?_, ?_⟩
  · rw [← Int.natCast_mul, wrapN _ (by omega)]
  · rw [← Int.natCast_add, wrapN _ (by omega)]
  · rw [hP2, ← Int.natCast_add, wrapN _ (by omega)]; omega

set_option maxRecDepth 100000 in
set_option maxHeartbeats 1000000 in
theorem rmake_no (m : Nat) (h : ¬ May m) (w : World) :
    Calls Try.prog 12 #[.int .u32 (m : Int)] w fun e w' => e = .returned (mk 0 0 0 0 1) ∧ Gr w w' := by
  have B := Lib.hid (fun w => rmay_no m h w)
  unfold mk frm
  clear h
  go_enter Try.func12, Try.ntmps12
  go_wp2_with (go_at_call 22; (with_reducible refine (B.out _).mono ?_); rintro e w1 ⟨rfl, rfl⟩)
  refine bodyPost_ret (v := .tuple #[.agg #[.int .u32 0, .int .u32 0, .int .u32 0, .int .u32 0], .int .i64 1]) (by simp [results, Try.results12, go_sem]) rfl ⟨rfl, (Gr.refl _).alloc _ _⟩

set_option maxRecDepth 100000 in
set_option maxHeartbeats 1000000 in
theorem rmake_yes (m : Nat) (h : May m) (w : World) :
    Calls Try.prog 12 #[.int .u32 (m : Int)] w fun e w' => e = .returned (mk m (ngn m) (fm m 1) (fm m (fm m 1)) 0) ∧ Gr w w' := by
  have B := Lib.hid (fun w => rmay_yes m h w)
  have c := conv64 m (by have := h.2.2; omega)
  have n0 : ¬ (m : Int) = 0 := by have := h.2.1; omega
  have n1 : ((m : Int) == 0) = false := by rw [beq_eq_false_iff_ne]; exact n0
  have H := Lib.hid h
  have F0 := Lib.hid (four_box w (.int .u32 0) (.int .u32 0) (.int .u32 0) (.int .u32 0) 25)
  have hsq := (pm_of m h).sq
  obtain ⟨G, hG0⟩ : ∃ g, ngn m = g := ⟨_, rfl⟩
  obtain ⟨o, ho⟩ : ∃ o, fm m 1 = o := ⟨_, rfl⟩
  rw [ho] at hsq
  obtain ⟨q, hq⟩ : ∃ q, fm m o = q := ⟨_, rfl⟩
  rw [hq] at hsq
  have T := fun w => rturn_any m o o h.2.1 h.2.2 w
  rw [show tn m o o = q from hsq.symm] at T
  have HT := Lib.hid T
  rw [hG0, ho, hq]
  have HG0 := Lib.hid hG0
  have HO := Lib.hid ho
  have HQ0 := Lib.hid hq
  clear h hsq hG0 ho hq T
  unfold mk frm
  go_enter Try.func12, Try.ntmps12
  go_wp2_with (go_at_call 22; (with_reducible refine (B.out _).mono ?_); rintro e w1 ⟨rfl, rfl⟩)
  go_loop [5, 6, 7] (fun g b i => ∃ k x : Nat, k ≤ 32 ∧ i = .int .i64 (k : Int) ∧ b = .int .u64 ((2 ^ k : Nat) : Int) ∧ g = .int .u64 (x : Int) ∧ Hid (Dg m k x)) (fun _ _ i => 32 - (intOf i).toNat)
  case atStart => exact ⟨0, 0, by omega, rfl, rfl, rfl, dg_start m⟩
  case round =>
    obtain ⟨k, g, hk, rfl, rfl, rfl, hd⟩ := hrel
    by_cases hlt : k < 32
    · obtain ⟨P, v, q, hP, r1, r2, hq, r3, r4, r5, r6⟩ := dg_num m k g H.out.2.2 hlt hd.out
      obtain ⟨s0, s1⟩ := dg_step m k g H.out.1 hd.out
      rw [hP, hq] at s0 s1
      have S0 := Lib.hid s0
      have S1 := Lib.hid s1
      rw [hP]
      clear s0 s1 hP hq hd
      obtain ⟨Q, hQ⟩ : ∃ Q, 2 ^ (k + 1) = Q := ⟨_, rfl⟩
      have HQ := Lib.hid hQ
      rw [hQ] at r6
      clear hQ
      rcases Nat.mod_two_eq_zero_or_one q with ht | ht
      · have r7 : ((q : Int) % 2 == 0) = true := by rw [beq_iff_eq]; omega
        have D := Lib.hid (S0.out ht)
        clear ht
        go_wp2
        go_round
        case rel => exact ⟨k + 1, g + P, by omega, by go_num, by rw [HQ.out], rfl, D.out⟩
        case measure => simp [intOf]; omega
      · have r7 : ((q : Int) % 2 == 0) = false := by rw [beq_eq_false_iff_ne]; omega
        have D := Lib.hid (S1.out ht)
        clear ht
        go_wp2
        go_round
        case rel => exact ⟨k + 1, g, by omega, by go_num, by rw [HQ.out], rfl, D.out⟩
        case measure => simp [intOf]; omega
    · have hk4 : k = 32 := by omega
      subst hk4
      obtain ⟨m1, m2, m3⟩ := H.out
      have hg := dg_end m g m1 (by omega) hd.out
      have hgl := (ngn_ok m m1 (by omega)).2
      rw [HG0.out] at hg hgl
      have hol : o < m := by rw [← HO.out]; exact fm_lt m 1 (by omega)
      have hql : q < m := by rw [← HQ0.out]; exact fm_lt m o (by omega)
      rw [hg]
      have r1 : (4294967296 : Int) % (m : Int) = (o : Int) := by
        rw [← HO.out]; unfold fm; rw [Nat.one_mul]; rfl
      have r2 : (G : Int) % 4294967296 = (G : Int) := by omega
      have r3 : (o : Int) % 4294967296 = (o : Int) := by omega
      have r4 : (q : Int) % 4294967296 = (q : Int) := by omega
      clear hg hgl hol hql m1 m2 m3 hd
      go_wp2_with (go_at_call 13; (with_reducible refine (HT.out _).mono ?_); rintro e w1 ⟨rfl, hg⟩; obtain ⟨k0, k1, k2, k3, kb⟩ := F0.out.kept hg; have hf := hg.2; have HG := Lib.hid hg; clear hg)
      have hG : Gr w (((((w1.setCell ⟨w.heap.size, 0, none⟩ (.int .u32 (m : Int))).setCell ⟨w.heap.size, 1, none⟩ (.int .u32 (G : Int))).setCell ⟨w.heap.size, 2, none⟩ (.int .u32 (o : Int))).setCell ⟨w.heap.size, 3, none⟩ (.int .u32 (q : Int)))) :=
        ((((((Gr.refl w).alloc _ _).trans HG.out).setCell (Nat.le_refl _) _).setCell (Nat.le_refl _) _).setCell (Nat.le_refl _) _).setCell (Nat.le_refl _) _
      refine bodyPost_ret (v := .tuple #[.agg #[.int .u32 (m : Int), .int .u32 (G : Int), .int .u32 (o : Int), .int .u32 (q : Int)], .int .i64 0]) (by simp [results, Try.results12, go_sem, k0, k1, k2, k3]) rfl ⟨rfl, hG⟩

/-! ### The document's power -/
/-- v times b to the n is what is sought. -/
theorem rp_odd (m v b n : Nat) (h : n % 2 = 1) : tn m v (b ^ n) = tn m (tn m v b) (tn m b b ^ (n / 2)) := by
  have e : n = 2 * (n / 2) + 1 := by omega
  have c : Cg m (v * b ^ n) (v * b * ((b * b) ^ (n / 2))) := by
    rw [show b ^ n = b ^ (2 * (n / 2) + 1) from by rw [← e], Nat.pow_succ, Nat.pow_mul, Nat.pow_two]
    exact Cg.of_eq (by simp only [Nat.mul_assoc, Nat.mul_comm])
  exact c.trans (((Cg.mod m (v * b)).mul ((Cg.mod m (b * b)).pow (n / 2))).symm)
theorem rp_even (m v b n : Nat) (h : n % 2 = 0) : tn m v (b ^ n) = tn m v (tn m b b ^ (n / 2)) := by
  have e : n = 2 * (n / 2) := by omega
  have c : Cg m (v * b ^ n) (v * ((b * b) ^ (n / 2))) := by
    rw [show b ^ n = b ^ (2 * (n / 2)) from by rw [← e], Nat.pow_mul, Nat.pow_two]
    exact Cg.refl _ _
  exact c.trans ((Cg.refl m v).mul ((Cg.mod m (b * b)).pow (n / 2)).symm)

set_option maxRecDepth 100000 in
set_option maxHeartbeats 1000000 in
theorem rpow_any (m a n : Nat) (h0 : 3 ≤ m) (hm : m < 2147483648) (hn : n < 18446744073709551616) (w : World) :
    Calls Try.prog 14 #[.int .u32 (m : Int), .int .u64 (a : Int), .int .u64 (n : Int)] w fun e w' => e = .returned (.int .u64 ((a ^ n % m : Nat) : Int)) ∧ Gr w w' := by
  have c := conv64 m (by omega)
  have n0 : ¬ (m : Int) = 0 := by omega
  have n1 : ((m : Int) == 0) = false := by rw [beq_eq_false_iff_ne]; omega
  have r0 : (1 : Int) % (m : Int) = 1 := Int.emod_eq_of_lt (by omega) (by omega)
  have R0 := Lib.hid r0
  clear r0
  have T := Lib.hid (fun x y w => rturn_any m x y h0 hm w)
  have HS : Hid (tn m 1 (a ^ n) = a ^ n % m) := by show 1 * a ^ n % m = a ^ n % m; rw [Nat.one_mul]
  have HM := Lib.hid h0
  have HN := Lib.hid hn
  clear hm h0 hn
  go_enter Try.func14, Try.ntmps14
  go_wp2
  go_loopw [1, 2, 7] (fun b n' v wr => ∃ y k x : Nat, b = .int .u64 (y : Int) ∧ n' = .int .u64 (k : Int) ∧ v = .int .u64 (x : Int) ∧ Hid (tn m x (y ^ k) = tn m 1 (a ^ n)) ∧ Hid (x < m) ∧ Hid (k < 18446744073709551616) ∧ Gr w wr) (fun _ n' _ _ => (intOf n').toNat)
  case atStart => exact ⟨a, n, 1, rfl, rfl, by rw [R0.out]; rfl, rfl, (by have := HM.out; show 1 < m; omega), HN, Gr.refl w⟩
  case round =>
    obtain ⟨y, k, x, rfl, rfl, rfl, he, hx, hkn, hg⟩ := hrel
    have HG := Lib.hid hg
    clear hg
    by_cases hk : k = 0
    · subst hk
      have hend : Hid (x = a ^ n % m) := by
        have e := he.out
        rw [HS.out] at e
        rw [Nat.pow_zero] at e
        unfold tn at e
        rw [Nat.mul_one, Nat.mod_eq_of_lt hx.out] at e
        exact e
      go_wp2
      go_ret
      exact ⟨by first | (rw [hend.out]; rfl) | rw [hend.out], HG.out⟩
    · have hpos : 0 < k := by omega
      obtain ⟨z, hz⟩ : ∃ z, tn m y y = z := ⟨_, rfl⟩
      have T2 := Lib.hid (fun w => T.out y y w)
      rw [hz] at T2
      obtain ⟨h, hh⟩ : ∃ h, k / 2 = h := ⟨_, rfl⟩
      have HH := Lib.hid hh
      have r8 : (k : Int) / 2 = (h : Int) := by omega
      have hkn' := hkn.out
      have r9 := w64 h (by omega)
      have hhn : Hid (h < 18446744073709551616) := by show h < _; omega
      clear hkn'
      rcases Nat.mod_two_eq_zero_or_one k with ht | ht
      · have r7 : ((k : Int) % 2 == 1) = false := by rw [beq_eq_false_iff_ne]; omega
        have e := rp_even m x y k ht
        rw [hz] at e
        have HE := Lib.hid (e.symm.trans he.out)
        rw [hh] at HE
        clear e hz ht hk hh
        go_wp2_with (go_at_call 13; (with_reducible refine (T2.out _).mono ?_); rintro e w2 ⟨rfl, hg⟩; have HG2 := Lib.hid (HG.out.trans hg); clear hg)
        go_roundw
        case rel => exact ⟨z, h, x, rfl, rfl, rfl, HE, hx, hhn, HG2.out⟩
        case measure => simp [intOf]; have := HH.out; omega
      · have r7 : ((k : Int) % 2 == 1) = true := by rw [beq_iff_eq]; omega
        have e := rp_odd m x y k ht
        rw [hz] at e
        obtain ⟨u, hu⟩ : ∃ u, tn m x y = u := ⟨_, rfl⟩
        have hum : Hid (u < m) := by rw [← hu]; exact Nat.mod_lt _ (by have := HM.out; omega)
        have T1 := Lib.hid (fun w => T.out x y w)
        rw [hu] at T1 e
        have HE := Lib.hid (e.symm.trans he.out)
        rw [hh] at HE
        clear e hz ht hk hu hh
        go_wp2_with (first
          | (go_at_call 13; (with_reducible refine (T1.out _).mono ?_); rintro e w2 ⟨rfl, hg⟩; have HG2 := Lib.hid (HG.out.trans hg); clear hg)
          | (go_at_call 13; (with_reducible refine (T2.out _).mono ?_); rintro e w3 ⟨rfl, hg⟩; have HG3 := Lib.hid (HG2.out.trans hg); clear hg))
        go_roundw
        case rel => exact ⟨z, h, u, rfl, rfl, rfl, HE, hum, hhn, HG3.out⟩
        case measure => simp [intOf]; have := HH.out; omega
end Go.Proofs.Ytpdbdnhjibkflaa
