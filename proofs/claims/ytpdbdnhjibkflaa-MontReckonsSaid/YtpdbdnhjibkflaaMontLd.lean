/-
  The walks of the statements of layer 3: MontReckons.
-/
import Derived.Test.YtpdbdnhjibkflaaMontLb
namespace Go.Proofs.Ytpdbdnhjibkflaa
open Go.RowKit
set_option linter.unusedVariables false

theorem reck_num {m n o s : Nat} (p : Pm m n o s) (a b t e : Nat) (hb : b < m) : ∃ c f h u v x y z : Nat, tn m a 4294967296 = c ∧ fm m a = c ∧ c < m ∧ rd m b = h ∧ h ^ e % m = f ∧ tn m f 4294967296 = x ∧ pw m (rd m b) e = x ∧
    rd m t = u ∧ b * c = y ∧ rd m y = v ∧ y < m * 4294967296 ∧ h < 2147483648 ∧ u < 2147483648 ∧ v < 2147483648 ∧ x < 2147483648 ∧ IntKind.u64.wrap ((b : Int) * (c : Int)) = (y : Int) ∧ (c : Int) % 4294967296 = (c : Int) := by
  have h3 := p.lo
  have hm := p.hi
  have hc : fm m a < m := fm_lt m a (by omega)
  have hbc : b * fm m a < m * 4294967296 := by rw [Nat.mul_comm m]; exact Nat.mul_lt_mul'' (by omega) hc
  have l1 := rd_lt m b (by omega)
  have l2 := rd_lt m t (by omega)
  have l3 := rd_lt m (b * fm m a) (by omega)
  have l4 := pw_lt m (rd m b) e (by omega)
  refine ⟨fm m a, rd m b ^ e % m, rd m b, rd m t, rd m (b * fm m a), pw m (rd m b) e, b * fm m a, 0, rfl, rfl, hc, rfl, rfl, ?_, rfl, rfl, rfl, rfl, hbc, by omega, by omega, by omega, by omega, ?_, by omega⟩
  · exact fm_mod m _
  · have := tm_lt m _ hm hbc
    rw [← Int.natCast_mul, wrapN _ (by omega)]

set_option maxRecDepth 100000 in
set_option maxHeartbeats 4000000 in
theorem montReckons_walk (m a b t n : Nat) (hm : m < 4294967296) (ha : a < 18446744073709551616) (hb : b < 4294967296) (ht : t < 18446744073709551616) (hn : n < 18446744073709551616) (w : World) :
    Calls Try.prog 4 #[.agg #[.int .u32 (m : Int), .int .u64 (a : Int), .int .u32 (b : Int), .int .u64 (t : Int), .int .u64 (n : Int)]] w fun e w' => e = .returned (.bool true) ∧ Gr w w' := by
  have cm := conv64 m hm
  obtain ⟨l, hl⟩ : ∃ l, t / 4294967296 = l := ⟨_, rfl⟩
  have rl : (t : Int) / 4294967296 = (l : Int) := by omega
  by_cases h : May m
  · have M := make_yes m h
    have p := pm_of m h
    obtain ⟨g, hg⟩ : ∃ g, ngn m = g := ⟨_, rfl⟩
    obtain ⟨q, hq⟩ : ∃ q, fm m (fm m 1) = q := ⟨_, rfl⟩
    obtain ⟨o, ho⟩ : ∃ o, fm m 1 = o := ⟨_, rfl⟩
    rw [hg, hq, ho] at M p
    by_cases h1 : b < m
    · by_cases h2 : l < m
      · obtain ⟨c, f, hh, u, v, x, y, z, ec, ec2, hcm, eh, ef, ex, ex2, eu, ey, ev, hy, h_h, h_u, h_v, h_x, r1, r2⟩ := reck_num p a b t n h1
        have hlo := p.lo
        have hmm := p.hi
        have htm : t < m * 4294967296 := by omega
        have T1 := fun w => rturn_any m a 4294967296 hlo hmm w
        have T2 := fun w => rturn_any m f 4294967296 hlo hmm w
        have A1 := fun w => rhalf_any m b p.odd hlo hmm w
        have A2 := fun w => rhalf_any m t p.odd hlo hmm w
        have A3 := fun w => rhalf_any m y p.odd hlo hmm w
        have W1 := fun w => rpow_any m hh n hlo hmm hn w
        have D := fun w => redc_any p t htm w
        have I := fun w => in_any p a ha w
        have O := fun w => out_any p b hb w
        have U := fun w => mmul_any p b c hb (by omega) (by rw [ey]; exact hy) w
        have P := fun w => mpow_any p b n h1 hn w
        rw [ec] at T1
        rw [ex] at T2
        rw [eh] at A1
        rw [eu] at A2
        rw [ev] at A3
        rw [ef] at W1
        rw [eu] at D
        rw [ec2] at I
        rw [eh] at O
        rw [ey, ev] at U
        rw [ex2] at P
        rw [show ((4294967296 : Nat) : Int) = 4294967296 from rfl] at T1 T2
        have c1 := conv64 b hb
        have c2 := conv64 c (by omega)
        have c3 := conv64 hh (by omega)
        have c4 := conv64 u (by omega)
        have c5 := conv64 v (by omega)
        have c6 := conv64 x (by omega)
        have d1 : decide (m ≤ b) = false := by rw [decide_eq_false_iff_not]; omega
        have d2 : decide (m ≤ l) = false := by rw [decide_eq_false_iff_not]; omega
        unfold mk at M
        unfold frm at M D I O U P
        have HM := Lib.hid M
        have HT1 := Lib.hid T1
        have HT2 := Lib.hid T2
        have HA1 := Lib.hid A1
        have HA2 := Lib.hid A2
        have HA3 := Lib.hid A3
        have HW1 := Lib.hid W1
        have HD := Lib.hid D
        have HI := Lib.hid I
        have HO := Lib.hid O
        have HU := Lib.hid U
        have HP := Lib.hid P
        clear M T1 T2 A1 A2 A3 W1 D I O U P p hg hq ho h h1 h2 ec ec2 hcm eh ef ex ex2 eu ey ev hy h_h h_u h_v h_x hlo hmm htm hl hm ha hb ht hn
        go_enter Try.func4, Try.ntmps4
        go_wp2_with (first
          | (go_at_call 10; (with_reducible refine (mshown_any _).mono ?_); rintro e w1 ⟨rfl, hg⟩; have G1 := Lib.hid (((Gr.refl w).alloc _ _).trans hg); clear hg)
          | (go_at_call 11; (with_reducible refine (HM.out _).mono ?_); rintro e w2 ⟨rfl, hg⟩; have G2 := Lib.hid (G1.out.trans hg); clear hg)
          | (go_at_call 13; (with_reducible refine (HT1.out _).mono ?_); rintro e w3 ⟨rfl, hg⟩; have F3 := Lib.hid ((four_box w2 _ _ _ _ _).kept hg); obtain ⟨a3, b3, c3, d3, e3⟩ := F3.out; have G3 := Lib.hid (((G2.out.alloc _ _).trans hg)); clear hg)
          | (go_at_call 15; (with_reducible refine (HA1.out _).mono ?_); rintro e w' ⟨rfl, rfl⟩)
          | (go_at_call 14; (with_reducible refine (HW1.out _).mono ?_); rintro e w4 ⟨rfl, hg⟩; have F4 := Lib.hid (F3.out.kept hg); obtain ⟨a4, b4, c4, d4, e4⟩ := F4.out; have G4 := Lib.hid (G3.out.trans hg); clear hg)
          | (go_at_call 13; (with_reducible refine (HT2.out _).mono ?_); rintro e w5 ⟨rfl, hg⟩; have F5 := Lib.hid (F4.out.kept hg); obtain ⟨a5, b5, c5, d5, e5⟩ := F5.out; have G5 := Lib.hid (G4.out.trans hg); clear hg)
          | (go_at_call 16; (with_reducible refine (HD.out _).mono ?_); rintro e w6 ⟨rfl, hg⟩; have F6 := Lib.hid (F5.out.kept hg); obtain ⟨a6, b6, c6, d6, e6⟩ := F6.out; have G6 := Lib.hid (G5.out.trans hg); clear hg)
          | (go_at_call 15; (with_reducible refine (HA2.out _).mono ?_); rintro e w' ⟨rfl, rfl⟩)
          | (go_at_call 17; (with_reducible refine (HI.out _).mono ?_); rintro e w7 ⟨rfl, hg⟩; have F7 := Lib.hid (F6.out.kept hg); obtain ⟨a7, b7, c7, d7, e7⟩ := F7.out; have G7 := Lib.hid (G6.out.trans hg); clear hg)
          | (go_at_call 18; (with_reducible refine (HO.out _).mono ?_); rintro e w8 ⟨rfl, hg⟩; have F8 := Lib.hid (F7.out.kept hg); obtain ⟨a8, b8, c8, d8, e8⟩ := F8.out; have G8 := Lib.hid (G7.out.trans hg); clear hg)
          | (go_at_call 19; (with_reducible refine (HU.out _).mono ?_); rintro e w9 ⟨rfl, hg⟩; have F9 := Lib.hid (F8.out.kept hg); obtain ⟨a9, b9, c9, d9, e9⟩ := F9.out; have G9 := Lib.hid (G8.out.trans hg); clear hg)
          | (go_at_call 15; (with_reducible refine (HA3.out _).mono ?_); rintro e w' ⟨rfl, rfl⟩)
          | (go_at_call 20; (with_reducible refine (HP.out _).mono ?_); rintro e w10 ⟨rfl, hg⟩; have G10 := Lib.hid (G9.out.trans hg); clear hg))
        go_ret
        exact ⟨rfl, G10.out⟩
      · have d1 : decide (m ≤ b) = false := by rw [decide_eq_false_iff_not]; omega
        have d2 : decide (m ≤ l) = true := by rw [decide_eq_true_iff]; omega
        unfold mk frm at M
        have HM := Lib.hid M
        clear M p hg hq ho h h1 h2 hl hm ha hb ht hn
        go_enter Try.func4, Try.ntmps4
        go_wp2_with (first
          | (go_at_call 10; (with_reducible refine (mshown_any _).mono ?_); rintro e w1 ⟨rfl, hg⟩; have G1 := Lib.hid (((Gr.refl w).alloc _ _).trans hg); clear hg)
          | (go_at_call 11; (with_reducible refine (HM.out _).mono ?_); rintro e w2 ⟨rfl, hg⟩; have G2 := Lib.hid (G1.out.trans hg); clear hg))
        go_ret
        exact ⟨rfl, G2.out.alloc _ _⟩
    · have d1 : decide (m ≤ b) = true := by rw [decide_eq_true_iff]; omega
      unfold mk frm at M
      have HM := Lib.hid M
      clear M p hg hq ho h h1 hl hm ha hb ht hn
      go_enter Try.func4, Try.ntmps4
      go_wp2_with (first
        | (go_at_call 10; (with_reducible refine (mshown_any _).mono ?_); rintro e w1 ⟨rfl, hg⟩; have G1 := Lib.hid (((Gr.refl w).alloc _ _).trans hg); clear hg)
        | (go_at_call 11; (with_reducible refine (HM.out _).mono ?_); rintro e w2 ⟨rfl, hg⟩; have G2 := Lib.hid (G1.out.trans hg); clear hg))
      go_ret
      exact ⟨rfl, G2.out.alloc _ _⟩
  · have M := make_no m hm h
    unfold mk frm at M
    have HM := Lib.hid M
    clear M h hl hm ha hb ht hn
    go_enter Try.func4, Try.ntmps4
    go_wp2_with (first
      | (go_at_call 10; (with_reducible refine (mshown_any _).mono ?_); rintro e w1 ⟨rfl, hg⟩; have G1 := Lib.hid (((Gr.refl w).alloc _ _).trans hg); clear hg)
      | (go_at_call 11; (with_reducible refine (HM.out _).mono ?_); rintro e w2 ⟨rfl, hg⟩; have G2 := Lib.hid (G1.out.trans hg); clear hg))
    go_ret
    exact ⟨rfl, G2.out.alloc _ _⟩
end Go.Proofs.Ytpdbdnhjibkflaa
