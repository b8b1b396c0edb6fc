/-
  The walks of the statements of layer 3: MontLaws.
-/
import Derived.Test.YtpdbdnhjibkflaaMontLb
namespace Go.Proofs.Ytpdbdnhjibkflaa
open Go.RowKit
set_option linter.unusedVariables false

theorem laws_num {m n o s : Nat} (p : Pm m n o s) (a b i k : Nat) (hi : i ≤ 4611686018427387904) (hk : k ≤ 4611686018427387904) : ∃ c d e j u v x : Nat, fm m a = c ∧ fm m b = d ∧ c < m ∧ d < m ∧ o < m ∧ rd m (c * d) = e ∧ rd m (c * o) = c ∧
    i + k = j ∧ j < 18446744073709551616 ∧ pw m (rd m c) i = u ∧ pw m (rd m c) k = v ∧ u < m ∧ v < m ∧ pw m (rd m c) j = x ∧ rd m (u * v) = x := by
  have h3 := p.lo
  refine ⟨_, _, _, _, _, _, _, rfl, rfl, fm_lt m a (by omega), fm_lt m b (by omega), by rw [p.one]; exact fm_lt m 1 (by omega), rfl, ?_, rfl, by omega, rfl, rfl, pw_lt _ _ _ (by omega), pw_lt _ _ _ (by omega), rfl, pw_mul m _ _ _ p.odd⟩
  rw [p.one, rd_fm m a 1 p.odd, Nat.mul_one]

set_option maxRecDepth 100000 in
set_option maxHeartbeats 4000000 in
theorem montLaws_walk (m a b i k : Nat) (hm : m < 4294967296) (ha : a < 18446744073709551616) (hb : b < 18446744073709551616) (hi : i < 18446744073709551616) (hk : k < 18446744073709551616) (w : World) :
    Calls Try.prog 6 #[.agg #[.int .u32 (m : Int), .int .u64 (a : Int), .int .u64 (b : Int), .int .u64 (i : Int), .int .u64 (k : Int)]] w fun e w' => e = .returned (.bool true) ∧ Gr w w' := by
  by_cases h : May m
  · have M := make_yes m h
    have p := pm_of m h
    obtain ⟨g, hg⟩ : ∃ g, ngn m = g := ⟨_, rfl⟩
    obtain ⟨q, hq⟩ : ∃ q, fm m (fm m 1) = q := ⟨_, rfl⟩
    obtain ⟨o, ho⟩ : ∃ o, fm m 1 = o := ⟨_, rfl⟩
    rw [hg, hq, ho] at M p
    by_cases h1 : i ≤ 4611686018427387904
    · by_cases h2 : k ≤ 4611686018427387904
      · obtain ⟨c, d, e, j, u, v, x, hc, hd, hcm, hdm, hom, he, hco, hj, hjl, hu, hv, hum, hvm, hx, huv⟩ := laws_num p a b i k h1 h2
        have hmm := p.hi
        have I1 := fun w => in_any p a ha w
        have I2 := fun w => in_any p b hb w
        have M1 := fun w => mmul_any p c d (by omega) (by omega) (prod_lt m c d (by omega) hdm) w
        have M2 := fun w => mmul_any p d c (by omega) (by omega) (prod_lt m d c (by omega) hcm) w
        have M3 := fun w => mmul_any p c o (by omega) (by omega) (prod_lt m c o (by omega) hom) w
        have P1 := fun w => mpow_any p c j hcm hjl w
        have P2 := fun w => mpow_any p c i hcm hi w
        have P3 := fun w => mpow_any p c k hcm hk w
        have M4 := fun w => mmul_any p u v (by omega) (by omega) (prod_lt m u v (by omega) hvm) w
        rw [hc] at I1
        rw [hd] at I2
        rw [he] at M1
        rw [Nat.mul_comm d c, he] at M2
        rw [hco] at M3
        rw [hx] at P1
        rw [hu] at P2
        rw [hv] at P3
        rw [huv] at M4
        have r1 : IntKind.u64.wrap ((i : Int) + (k : Int)) = (j : Int) := by rw [← hj, ← Int.natCast_add, wrapN _ (by omega)]
        have d1 : decide ((4611686018427387904 : Int) < (i : Int)) = false := by rw [decide_eq_false_iff_not]; omega
        have d2 : decide ((4611686018427387904 : Int) < (k : Int)) = false := by rw [decide_eq_false_iff_not]; omega
        unfold mk at M
        unfold frm at M I1 I2 M1 M2 M3 P1 P2 P3 M4
        have HM := Lib.hid M
        have H1 := Lib.hid I1
        have H2 := Lib.hid I2
        have H3 := Lib.hid M1
        have H4 := Lib.hid M2
        have H5 := Lib.hid M3
        have H6 := Lib.hid P1
        have H7 := Lib.hid P2
        have H8 := Lib.hid P3
        have H9 := Lib.hid M4
        clear M p hg hq ho h h1 h2 hc hd hcm hdm hom he hco hj hjl hu hv hum hvm hx huv hmm I1 I2 M1 M2 M3 P1 P2 P3 M4 hm ha hb hi hk
        go_enter Try.func6, Try.ntmps6
        go_wp2_with (first
          | (go_at_call 10; (with_reducible refine (mshown_any _).mono ?_); rintro e w1 ⟨rfl, hg⟩; have G1 := Lib.hid (((Gr.refl w).alloc _ _).trans hg); clear hg)
          | (go_at_call 11; (with_reducible refine (HM.out _).mono ?_); rintro e w2 ⟨rfl, hg⟩; have G2 := Lib.hid (G1.out.trans hg); clear hg)
          | (go_at_call 17; (with_reducible refine (H1.out _).mono ?_); rintro e w3 ⟨rfl, hg⟩; have F3 := Lib.hid ((four_box w2 _ _ _ _ _).kept hg); obtain ⟨i0, i1, i2, i3, ib⟩ := F3.out; have G3 := Lib.hid ((G2.out.alloc _ _).trans hg); clear hg)
          | (go_at_call 17; (with_reducible refine (H2.out _).mono ?_); rintro e w4 ⟨rfl, hg⟩; have F4 := Lib.hid (F3.out.kept hg); obtain ⟨j0, j1, j2, j3, jb⟩ := F4.out; have G4 := Lib.hid (G3.out.trans hg); clear hg))
        clear i0 i1 i2 i3 ib F3 F4
        go_region_held3 (fun w' => w'.cell? ⟨w2.heap.size, 0, none⟩ = some (.int .u32 (m : Int)) ∧ w'.cell? ⟨w2.heap.size, 1, none⟩ = some (.int .u32 (g : Int)) ∧ w'.cell? ⟨w2.heap.size, 2, none⟩ = some (.int .u32 (o : Int)) ∧ w'.cell? ⟨w2.heap.size, 3, none⟩ = some (.int .u32 (q : Int)) ∧ w2.heap.size < w'.heap.size ∧ Gr w w')
          (first | assumption | exact drewS j0 j1 j2 j3 jb G4.out | exact keepS ‹_› hg)
          (first
           | (go_at_call 19; (with_reducible refine (H3.out _).mono ?_); rintro e w6 ⟨rfl, hg⟩)
           | (go_at_call 19; (with_reducible refine (H4.out _).mono ?_); rintro e w6 ⟨rfl, hg⟩)
           | (go_at_call 19; (with_reducible refine (H5.out _).mono ?_); rintro e w6 ⟨rfl, hg⟩)
           | (go_at_call 19; (with_reducible refine (H9.out _).mono ?_); rintro e w6 ⟨rfl, hg⟩)
           | (go_at_call 20; (with_reducible refine (H6.out _).mono ?_); rintro e w6 ⟨rfl, hg⟩)
           | (go_at_call 20; (with_reducible refine (H7.out _).mono ?_); rintro e w6 ⟨rfl, hg⟩)
           | (go_at_call 20; (with_reducible refine (H8.out _).mono ?_); rintro e w6 ⟨rfl, hg⟩))
        rename_i hH
        have G6 := Lib.hid hH.2.2.2.2.2
        clear hg hH
        go_wp2
        go_ret
        exact ⟨rfl, G6.out⟩
      · have d1 : decide ((4611686018427387904 : Int) < (i : Int)) = false := by rw [decide_eq_false_iff_not]; omega
        have d2 : decide ((4611686018427387904 : Int) < (k : Int)) = true := by rw [decide_eq_true_iff]; omega
        unfold mk frm at M
        have HM := Lib.hid M
        clear M p hg hq ho h h1 h2 hm ha hb hi hk
        go_enter Try.func6, Try.ntmps6
        go_wp2_with (first
          | (go_at_call 10; (with_reducible refine (mshown_any _).mono ?_); rintro e w1 ⟨rfl, hg⟩; have G1 := Lib.hid (((Gr.refl w).alloc _ _).trans hg); clear hg)
          | (go_at_call 11; (with_reducible refine (HM.out _).mono ?_); rintro e w2 ⟨rfl, hg⟩; have G2 := Lib.hid (G1.out.trans hg); clear hg))
        go_ret
        exact ⟨rfl, G2.out.alloc _ _⟩
    · have d1 : decide ((4611686018427387904 : Int) < (i : Int)) = true := by rw [decide_eq_true_iff]; omega
      unfold mk frm at M
      have HM := Lib.hid M
      clear M p hg hq ho h h1 hm ha hb hi hk
      go_enter Try.func6, Try.ntmps6
      go_wp2_with (first
        | (go_at_call 10; (with_reducible refine (mshown_any _).mono ?_); rintro e w1 ⟨rfl, hg⟩; have G1 := Lib.hid (((Gr.refl w).alloc _ _).trans hg); clear hg)
        | (go_at_call 11; (with_reducible refine (HM.out _).mono ?_); rintro e w2 ⟨rfl, hg⟩; have G2 := Lib.hid (G1.out.trans hg); clear hg))
      go_ret
      exact ⟨rfl, G2.out.alloc _ _⟩
  · have M := make_no m hm h
    unfold mk frm at M
    have HM := Lib.hid M
    clear M h hm ha hb hi hk
    go_enter Try.func6, Try.ntmps6
    go_wp2_with (first
      | (go_at_call 10; (with_reducible refine (mshown_any _).mono ?_); rintro e w1 ⟨rfl, hg⟩; have G1 := Lib.hid (((Gr.refl w).alloc _ _).trans hg); clear hg)
      | (go_at_call 11; (with_reducible refine (HM.out _).mono ?_); rintro e w2 ⟨rfl, hg⟩; have G2 := Lib.hid (G1.out.trans hg); clear hg))
    go_ret
    exact ⟨rfl, G2.out.alloc _ _⟩
end Go.Proofs.Ytpdbdnhjibkflaa
