/-
  The walks of the statements of layer 3: MontSums, MontBack.
-/
import Derived.Test.YtpdbdnhjibkflaaMontLa
namespace Go.Proofs.Ytpdbdnhjibkflaa
open Go.RowKit
set_option linter.unusedVariables false

/-! ### A form that lies in memory, through the calls of a statement that draws its order -/
theorem boxS {w0 W : World} (g : Gr w0 W) (c0 c1 c2 c3 : Value) (t : TypeId) :
    (W.alloc (.cells #[c0, c1, c2, c3] t)).drew.cell? ⟨W.heap.size, 0, none⟩ = some c0 ∧ (W.alloc (.cells #[c0, c1, c2, c3] t)).drew.cell? ⟨W.heap.size, 1, none⟩ = some c1 ∧ (W.alloc (.cells #[c0, c1, c2, c3] t)).drew.cell? ⟨W.heap.size, 2, none⟩ = some c2 ∧
      (W.alloc (.cells #[c0, c1, c2, c3] t)).drew.cell? ⟨W.heap.size, 3, none⟩ = some c3 ∧ W.heap.size < (W.alloc (.cells #[c0, c1, c2, c3] t)).drew.heap.size ∧ Gr w0 (W.alloc (.cells #[c0, c1, c2, c3] t)).drew := by
  obtain ⟨h0, h1, h2, h3, h4⟩ := four_box W c0 c1 c2 c3 t
  exact ⟨h0, h1, h2, h3, h4, (g.alloc _ _).drew⟩
theorem drewS {w0 W : World} {b : Nat} {c0 c1 c2 c3 : Value} (h0 : W.cell? ⟨b, 0, none⟩ = some c0) (h1 : W.cell? ⟨b, 1, none⟩ = some c1) (h2 : W.cell? ⟨b, 2, none⟩ = some c2) (h3 : W.cell? ⟨b, 3, none⟩ = some c3) (hb : b < W.heap.size) (g : Gr w0 W) :
    W.drew.cell? ⟨b, 0, none⟩ = some c0 ∧ W.drew.cell? ⟨b, 1, none⟩ = some c1 ∧ W.drew.cell? ⟨b, 2, none⟩ = some c2 ∧ W.drew.cell? ⟨b, 3, none⟩ = some c3 ∧ b < W.drew.heap.size ∧ Gr w0 W.drew := ⟨h0, h1, h2, h3, hb, g.drew⟩

theorem sums_num {m n o s : Nat} (p : Pm m n o s) (a b : Nat) (ha : a < m) (hb : b < m) : ∃ u v r t z : Nat, rd m a = u ∧ rd m b = v ∧ rd m (a * b) = r ∧ rd m r = t ∧ rd m o = 1 ∧ r < 4294967296 ∧
    IntKind.u64.wrap (u : Int) = (u : Int) ∧ IntKind.u64.wrap (v : Int) = (v : Int) ∧ IntKind.u64.wrap (t : Int) = (t : Int) ∧ IntKind.u64.wrap (m : Int) = (m : Int) ∧ IntKind.u64.wrap ((u : Int) * (v : Int)) = (z : Int) ∧ (z : Int).tmod (m : Int) = (t : Int) := by
  have h0 := p.lo
  have hm := p.hi
  have l1 := rd_lt m a (by omega)
  have l2 := rd_lt m b (by omega)
  have l3 := rd_lt m (a * b) (by omega)
  have l4 := rd_lt m (rd m (a * b)) (by omega)
  refine ⟨_, _, _, _, rd m a * rd m b, rfl, rfl, rfl, rfl, ?_, by omega, conv64 _ (by omega), conv64 _ (by omega), conv64 _ (by omega), conv64 _ (by omega), ?_, ?_⟩
  · rw [p.one, rd_of_fm m 1 p.odd, Nat.mod_eq_of_lt (by omega)]
  · have : rd m a * rd m b < 2147483648 * 2147483648 := Nat.mul_lt_mul'' (by omega) (by omega)
    rw [← Int.natCast_mul, wrapN _ (by omega)]
  · rw [Int.tmod_eq_emod_of_nonneg (by omega)]
    have e : rd m a * rd m b % m = rd m (rd m (a * b)) := by
      refine Cg.eq (((Cg.mod m _).trans ((rd_cg m a).mul (rd_cg m b))).trans (((rd_cg m (rd m (a * b))).trans ((rd_cg m (a * b)).mul (Cg.refl m _))).trans (Cg.of_eq ?_)).symm) (Nat.mod_lt _ (by omega)) l4
      simp only [Nat.mul_assoc, Nat.mul_left_comm]
    rw [← e]; rfl

set_option maxRecDepth 100000 in
set_option maxHeartbeats 2000000 in
theorem montSums_walk (m a b : Nat) (hm : m < 4294967296) (ha : a < 4294967296) (hb : b < 4294967296) (w : World) :
    Calls Try.prog 9 #[.int .u32 (m : Int), .int .u32 (a : Int), .int .u32 (b : Int)] w fun e w' => e = .returned (.bool true) ∧ Gr w w' := by
  by_cases h : May m
  · have M := make_yes m h
    have p := pm_of m h
    obtain ⟨g, hg⟩ : ∃ g, ngn m = g := ⟨_, rfl⟩
    obtain ⟨q, hq⟩ : ∃ q, fm m (fm m 1) = q := ⟨_, rfl⟩
    obtain ⟨o, ho⟩ : ∃ o, fm m 1 = o := ⟨_, rfl⟩
    rw [hg, hq, ho] at M p
    by_cases h1 : a < m
    · by_cases h2 : b < m
      · obtain ⟨u, v, r, t, z, eu, ev, er, et, eo, hr, r1, r2, r3, r4, r5, r6⟩ := sums_num p a b h1 h2
        have hol : o < 4294967296 := by rw [p.one]; have := fm_lt m 1 (by have := p.lo; omega); omega
        have O1 := fun w => out_any p a ha w
        have O2 := fun w => out_any p b hb w
        have MU := fun w => mmul_any p a b ha hb (prod_lt m a b ha h2) w
        have O3 := fun w => out_any p r hr w
        have O4 := fun w => out_any p o hol w
        have I1 := fun w => in_any p 1 (by omega) w
        rw [eu] at O1
        rw [ev] at O2
        rw [er] at MU
        rw [et] at O3
        rw [eo] at O4
        rw [ho] at I1
        rw [show ((1 : Nat) : Int) = 1 from rfl] at O4 I1
        have n0 : ¬ (m : Int) = 0 := by have := p.lo; omega
        have n1 : ((m : Int) == 0) = false := by rw [beq_eq_false_iff_ne]; exact n0
        have n2 : ¬ m = 0 := by omega
        have d1 : decide (m ≤ a) = false := by rw [decide_eq_false_iff_not]; omega
        have d2 : decide (m ≤ b) = false := by rw [decide_eq_false_iff_not]; omega
        unfold mk at M
        unfold frm at M O1 O2 MU O3 O4 I1
        have HM := Lib.hid M
        have H1 := Lib.hid O1
        have H2 := Lib.hid O2
        have H3 := Lib.hid MU
        have H4 := Lib.hid O3
        have H5 := Lib.hid O4
        have H6 := Lib.hid I1
        clear M p hg hq ho h1 h2 eu ev er et eo hr hol O1 O2 MU O3 O4 I1 h hm ha hb
        go_enter Try.func9, Try.ntmps9
        go_wp2_with (first
          | (go_at_call 10; (with_reducible refine (mshown_any _).mono ?_); rintro e w1 ⟨rfl, hg⟩; have G1 := Lib.hid hg; clear hg)
          | (go_at_call 11; (with_reducible refine (HM.out _).mono ?_); rintro e w2 ⟨rfl, hg⟩; have G2 := Lib.hid (G1.out.trans hg); clear hg))
        go_region_held3 (fun w' => w'.cell? ⟨w2.heap.size, 0, none⟩ = some (.int .u32 (m : Int)) ∧ w'.cell? ⟨w2.heap.size, 1, none⟩ = some (.int .u32 (g : Int)) ∧ w'.cell? ⟨w2.heap.size, 2, none⟩ = some (.int .u32 (o : Int)) ∧ w'.cell? ⟨w2.heap.size, 3, none⟩ = some (.int .u32 (q : Int)) ∧ w2.heap.size < w'.heap.size ∧ Gr w w')
          (first | assumption | exact boxS G2.out _ _ _ _ _ | exact keepS ‹_› hg)
          (first
           | (go_at_call 18; (with_reducible refine (H1.out _).mono ?_); rintro e w3 ⟨rfl, hg⟩)
           | (go_at_call 18; (with_reducible refine (H2.out _).mono ?_); rintro e w3 ⟨rfl, hg⟩))
        rename_i hH
        obtain ⟨j0, j1, j2, j3, jb, jg⟩ := hH
        have G3 := Lib.hid jg
        clear hg jg
        go_wp2_with fail
        go_region_held3 (fun w' => w'.cell? ⟨w2.heap.size, 0, none⟩ = some (.int .u32 (m : Int)) ∧ w'.cell? ⟨w2.heap.size, 1, none⟩ = some (.int .u32 (g : Int)) ∧ w'.cell? ⟨w2.heap.size, 2, none⟩ = some (.int .u32 (o : Int)) ∧ w'.cell? ⟨w2.heap.size, 3, none⟩ = some (.int .u32 (q : Int)) ∧ w2.heap.size < w'.heap.size ∧ Gr w w')
          (first | assumption | exact drewS j0 j1 j2 j3 jb G3.out | exact keepS ‹_› hg)
          (first
           | (go_at_call 19; (with_reducible refine (H3.out _).mono ?_); rintro e w4 ⟨rfl, hg⟩)
           | (go_at_call 18; (with_reducible refine (H4.out _).mono ?_); rintro e w4 ⟨rfl, hg⟩)
           | (go_at_call 18; (with_reducible refine (H5.out _).mono ?_); rintro e w4 ⟨rfl, hg⟩)
           | (go_at_call 17; (with_reducible refine (H6.out _).mono ?_); rintro e w4 ⟨rfl, hg⟩))
        rename_i hH
        have G4 := Lib.hid hH.2.2.2.2.2
        clear hg hH
        go_wp2
        go_ret
        exact ⟨rfl, G4.out⟩
      · have d1 : decide (m ≤ a) = false := by rw [decide_eq_false_iff_not]; omega
        have d2 : decide (m ≤ b) = true := by rw [decide_eq_true_iff]; omega
        unfold mk frm at M
        have HM := Lib.hid M
        clear M p hg hq ho h1 h2 h hm ha hb
        go_enter Try.func9, Try.ntmps9
        go_wp2_with (first
          | (go_at_call 10; (with_reducible refine (mshown_any _).mono ?_); rintro e w1 ⟨rfl, hg⟩; have G1 := Lib.hid hg; clear hg)
          | (go_at_call 11; (with_reducible refine (HM.out _).mono ?_); rintro e w2 ⟨rfl, hg⟩; have G2 := Lib.hid (G1.out.trans hg); clear hg))
        go_ret
        exact ⟨rfl, G2.out.alloc _ _⟩
    · have d1 : decide (m ≤ a) = true := by rw [decide_eq_true_iff]; omega
      unfold mk frm at M
      have HM := Lib.hid M
      clear M p hg hq ho h1 h hm ha hb
      go_enter Try.func9, Try.ntmps9
      go_wp2_with (first
        | (go_at_call 10; (with_reducible refine (mshown_any _).mono ?_); rintro e w1 ⟨rfl, hg⟩; have G1 := Lib.hid hg; clear hg)
        | (go_at_call 11; (with_reducible refine (HM.out _).mono ?_); rintro e w2 ⟨rfl, hg⟩; have G2 := Lib.hid (G1.out.trans hg); clear hg))
      go_ret
      exact ⟨rfl, G2.out.alloc _ _⟩
  · have M := make_no m hm h
    unfold mk frm at M
    have HM := Lib.hid M
    clear M h hm ha hb
    go_enter Try.func9, Try.ntmps9
    go_wp2_with (first
      | (go_at_call 10; (with_reducible refine (mshown_any _).mono ?_); rintro e w1 ⟨rfl, hg⟩; have G1 := Lib.hid hg; clear hg)
      | (go_at_call 11; (with_reducible refine (HM.out _).mono ?_); rintro e w2 ⟨rfl, hg⟩; have G2 := Lib.hid (G1.out.trans hg); clear hg))
    go_ret
    exact ⟨rfl, G2.out.alloc _ _⟩

set_option maxRecDepth 100000 in
set_option maxHeartbeats 2000000 in
theorem montBack_walk (m a b : Nat) (hm : m < 4294967296) (ha : a < 18446744073709551616) (hb : b < 18446744073709551616) (w : World) :
    Calls Try.prog 5 #[.int .u32 (m : Int), .int .u64 (a : Int), .int .u64 (b : Int)] w fun e w' => e = .returned (.bool true) ∧ Gr w w' := by
  by_cases h : May m
  · have M := make_yes m h
    have p := pm_of m h
    obtain ⟨g, hg⟩ : ∃ g, ngn m = g := ⟨_, rfl⟩
    obtain ⟨q, hq⟩ : ∃ q, fm m (fm m 1) = q := ⟨_, rfl⟩
    obtain ⟨o, ho⟩ : ∃ o, fm m 1 = o := ⟨_, rfl⟩
    rw [hg, hq, ho] at M p
    have m0 : 0 < m := by have := p.lo; omega
    have hmm := p.hi
    obtain ⟨x, y, z, t, r1, r2, r3, r4, ht⟩ := turn_num m a b p.lo p.hi
    have hx : a % m = x := by rw [Int.tmod_eq_emod_of_nonneg (by omega)] at r1; exact_mod_cast r1
    have hxm : x < m := by rw [← hx]; exact Nat.mod_lt _ m0
    have htm : t < m := by rw [← ht]; exact Nat.mod_lt _ m0
    obtain ⟨c, hc⟩ : ∃ c, fm m a = c := ⟨_, rfl⟩
    obtain ⟨d, hd⟩ : ∃ d, fm m b = d := ⟨_, rfl⟩
    obtain ⟨e, he⟩ : ∃ e, rd m (c * d) = e := ⟨_, rfl⟩
    have hcm : c < m := by rw [← hc]; exact fm_lt m a m0
    have hdm : d < m := by rw [← hd]; exact fm_lt m b m0
    have hem : e < m := by rw [← he]; exact rd_lt m _ m0
    have I1 := fun w => in_any p a ha w
    have I2 := fun w => in_any p b hb w
    have MU := fun w => mmul_any p c d (by omega) (by omega) (prod_lt m c d (by omega) hdm) w
    have O1 := fun w => out_any p c (by omega) w
    have O2 := fun w => out_any p e (by omega) w
    rw [hc] at I1
    rw [hd] at I2
    rw [he] at MU
    rw [show rd m c = x from by rw [← hc, rd_of_fm m a p.odd, hx]] at O1
    rw [show rd m e = t from by rw [← he, ← hc, ← hd, rd_fm m a b p.odd, rd_of_fm m (a * b) p.odd]; exact ht] at O2
    have n0 : ¬ (m : Int) = 0 := by omega
    have n1 : ((m : Int) == 0) = false := by rw [beq_eq_false_iff_ne]; exact n0
    have n2 : ¬ m = 0 := by omega
    have c1 := conv64 m (by omega)
    have c2 := conv64 x (by omega)
    have c3 := conv64 t (by omega)
    have d1 : decide (c < m) = true := decide_eq_true hcm
    have d2 : decide (d < m) = true := decide_eq_true hdm
    have d3 : decide (e < m) = true := decide_eq_true hem
    unfold mk at M
    unfold frm at M I1 I2 MU O1 O2
    have HM := Lib.hid M
    have H1 := Lib.hid I1
    have H2 := Lib.hid I2
    have H3 := Lib.hid MU
    have H4 := Lib.hid O1
    have H5 := Lib.hid O2
    clear M p hg hq ho m0 hmm ht hx hxm htm hc hd he hcm hdm hem I1 I2 MU O1 O2 h hm ha hb
    go_enter Try.func5, Try.ntmps5
    go_wp2_with (first
      | (go_at_call 10; (with_reducible refine (mshown_any _).mono ?_); rintro e w1 ⟨rfl, hg⟩; have G1 := Lib.hid hg; clear hg)
      | (go_at_call 11; (with_reducible refine (HM.out _).mono ?_); rintro e w2 ⟨rfl, hg⟩; have G2 := Lib.hid (G1.out.trans hg); clear hg)
      | (go_at_call 17; (with_reducible refine (H1.out _).mono ?_); rintro e w3 ⟨rfl, hg⟩; have F3 := Lib.hid ((four_box w2 _ _ _ _ _).kept hg); obtain ⟨i0, i1, i2, i3, ib⟩ := F3.out; have G3 := Lib.hid ((G2.out.alloc _ _).trans hg); clear hg)
      | (go_at_call 17; (with_reducible refine (H2.out _).mono ?_); rintro e w4 ⟨rfl, hg⟩; have F4 := Lib.hid (F3.out.kept hg); obtain ⟨j0, j1, j2, j3, jb⟩ := F4.out; have G4 := Lib.hid (G3.out.trans hg); clear hg)
      | (go_at_call 19; (with_reducible refine (H3.out _).mono ?_); rintro e w5 ⟨rfl, hg⟩; obtain ⟨k0, k1, k2, k3, kb⟩ := F4.out.kept hg; have G5 := Lib.hid (G4.out.trans hg); clear hg))
    clear i0 i1 i2 i3 ib j0 j1 j2 j3 jb F3 F4
    go_region_held3 (fun w' => w'.cell? ⟨w2.heap.size, 0, none⟩ = some (.int .u32 (m : Int)) ∧ w'.cell? ⟨w2.heap.size, 1, none⟩ = some (.int .u32 (g : Int)) ∧ w'.cell? ⟨w2.heap.size, 2, none⟩ = some (.int .u32 (o : Int)) ∧ w'.cell? ⟨w2.heap.size, 3, none⟩ = some (.int .u32 (q : Int)) ∧ w2.heap.size < w'.heap.size ∧ Gr w w')
      (first | assumption | exact drewS k0 k1 k2 k3 kb G5.out | exact keepS ‹_› hg)
      (first
       | (go_at_call 18; (with_reducible refine (H4.out _).mono ?_); rintro e w6 ⟨rfl, hg⟩)
       | (go_at_call 18; (with_reducible refine (H5.out _).mono ?_); rintro e w6 ⟨rfl, hg⟩))
    rename_i hH
    have G6 := Lib.hid hH.2.2.2.2.2
    clear hg hH
    go_wp2
    go_ret
    exact ⟨rfl, G6.out⟩
  · have M := make_no m hm h
    unfold mk frm at M
    have HM := Lib.hid M
    clear M
    by_cases h1 : m % 2 = 0
    · have hd1 : ((m : Int) % 2 == 0) = true := by rw [beq_iff_eq]; omega
      clear h h1 hm ha hb
      go_enter Try.func5, Try.ntmps5
      go_wp2_with (first
        | (go_at_call 10; (with_reducible refine (mshown_any _).mono ?_); rintro e w1 ⟨rfl, hg⟩; have G1 := Lib.hid hg; clear hg)
        | (go_at_call 11; (with_reducible refine (HM.out _).mono ?_); rintro e w2 ⟨rfl, hg⟩; have G2 := Lib.hid (G1.out.trans hg); clear hg))
      go_ret
      exact ⟨rfl, G2.out.alloc _ _⟩
    · have hd1 : ((m : Int) % 2 == 0) = false := by rw [beq_eq_false_iff_ne]; omega
      by_cases h2 : m < 3
      · have hd2 : decide ((m : Int) < 3) = true := by rw [decide_eq_true_iff]; omega
        clear h h1 hm ha hb h2
        go_enter Try.func5, Try.ntmps5
        go_wp2_with (first
          | (go_at_call 10; (with_reducible refine (mshown_any _).mono ?_); rintro e w1 ⟨rfl, hg⟩; have G1 := Lib.hid hg; clear hg)
          | (go_at_call 11; (with_reducible refine (HM.out _).mono ?_); rintro e w2 ⟨rfl, hg⟩; have G2 := Lib.hid (G1.out.trans hg); clear hg))
        go_ret
        exact ⟨rfl, G2.out.alloc _ _⟩
      · have hd2 : decide ((m : Int) < 3) = false := by rw [decide_eq_false_iff_not]; omega
        have h3 : ¬ m < 2147483648 := fun h3 => h ⟨by omega, by omega, h3⟩
        have hd3 : decide ((2147483648 : Int) ≤ (m : Int)) = true := by rw [decide_eq_true_iff]; omega
        clear h h1 hm ha hb h2 h3
        go_enter Try.func5, Try.ntmps5
        go_wp2_with (first
          | (go_at_call 10; (with_reducible refine (mshown_any _).mono ?_); rintro e w1 ⟨rfl, hg⟩; have G1 := Lib.hid hg; clear hg)
          | (go_at_call 11; (with_reducible refine (HM.out _).mono ?_); rintro e w2 ⟨rfl, hg⟩; have G2 := Lib.hid (G1.out.trans hg); clear hg))
        go_ret
        exact ⟨rfl, G2.out.alloc _ _⟩
end Go.Proofs.Ytpdbdnhjibkflaa
