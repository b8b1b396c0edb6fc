/-
  The walks of the statements of layer 3: MontFermat.
-/
import Derived.Test.YtpdbdnhjibkflaaMontLb
import Derived.Test.YtpdbdnhjibkflaaFermat
namespace Go.Proofs.Ytpdbdnhjibkflaa
open Go.RowKit Plain
set_option linter.unusedVariables false

theorem fermat_num {m n o s : Nat} (p : Pm m n o s) (hp : Pr m) (a : Nat) : ∃ c v e : Nat, fm m a = c ∧ c < m ∧ pw m (rd m c) (m - 1) = v ∧ rd m c = e ∧ e < m ∧ rd m (e * s) = c ∧ (c = 0 → v = 0) ∧ (c ≠ 0 → v = o) := by
  have h3 := p.lo
  have hc : fm m a < m := fm_lt m a (by omega)
  refine ⟨_, _, _, rfl, hc, rfl, rfl, rd_lt m _ (by omega), ?_, ?_, ?_⟩
  · rw [p.sq, rd_sq m _ p.odd, fm_of_rd m _ p.odd hc]
  · intro h
    rw [h]
    have e : rd m 0 = 0 := by unfold rd; rw [Nat.zero_mul, Nat.zero_mod]
    rw [e]
    unfold pw fm
    rw [Nat.zero_pow (by omega), Nat.zero_mul, Nat.zero_mod]
  · intro h
    have hl : rd m (fm m a) < m := rd_lt m _ (by omega)
    have hn : rd m (fm m a) % m ≠ 0 := by
      rw [Nat.mod_eq_of_lt hl]
      intro e
      have b := fm_of_rd m (fm m a) p.odd hc
      rw [e] at b
      apply h
      rw [← b]
      unfold fm
      rw [Nat.zero_mul, Nat.zero_mod]
    have f := fermat_one hp hn
    rw [p.one]
    unfold pw
    exact fm_same (show _ % m = 1 % m by rw [f, Nat.mod_eq_of_lt (by omega)])

set_option maxRecDepth 100000 in
set_option maxHeartbeats 2000000 in
theorem fermat_b (which : Int) (hw : which = 1) (a : Nat) (ha : a < 18446744073709551616) (w : World) :
    Calls Try.prog 8 #[.int .i64 which, .int .u64 (a : Int)] w fun e w' => e = .returned (.bool true) ∧ Gr w w' := by
  subst hw
  have h : May 167772161 := ⟨by decide, by decide, by decide⟩
  have M := make_yes 167772161 h
  have p := pm_of 167772161 h
  obtain ⟨g, hg⟩ : ∃ g, ngn 167772161 = g := ⟨_, rfl⟩
  obtain ⟨q, hq⟩ : ∃ q, fm 167772161 (fm 167772161 1) = q := ⟨_, rfl⟩
  obtain ⟨o, ho⟩ : ∃ o, fm 167772161 1 = o := ⟨_, rfl⟩
  rw [hg, hq, ho] at M p
  obtain ⟨c, v, e, hc, hcm, hv, he, hem, hb, hz, hnz⟩ := fermat_num p b_prime a
  have hqm : q < 167772161 := by rw [p.sq]; exact Nat.mod_lt _ (by decide)
  have I := fun w => in_any p a ha w
  have P := fun w => mpow_any p c (167772161 - 1) hcm (by decide) w
  have O := fun w => out_any p c (by omega) w
  have MU := fun w => mmul_any p e q (by omega) (by omega) (prod_lt 167772161 e q (by omega) hqm) w
  rw [hc] at I
  rw [hv] at P
  rw [he] at O
  rw [hb] at MU
  unfold mk at M
  unfold frm at M I P O MU
  rw [show ((167772161 : Nat) : Int) = 167772161 from rfl] at M I P O MU
  rw [show ((167772161 - 1 : Nat) : Int) = 167772160 from rfl] at P
  have HM := Lib.hid M
  have H1 := Lib.hid I
  have H2 := Lib.hid P
  have H3 := Lib.hid O
  have H4 := Lib.hid MU
  clear M p hg hq ho hc hcm hv he hem hb hqm I P O MU h ha
  by_cases h0 : c = 0
  · have hv0 := hz h0
    have d1 : ((c : Int) == 0) = true := by rw [beq_iff_eq]; omega
    have d2 : ((v : Int) == 0) = true := by rw [beq_iff_eq]; omega
    clear hz hnz h0 hv0
    go_enter Try.func8, Try.ntmps8
    go_wp2_with (first
      | (go_at_call 10; (with_reducible refine (mshown_any _).mono ?_); rintro e w1 ⟨rfl, hg⟩; have G1 := Lib.hid hg; clear hg)
      | (go_at_call 11; (with_reducible refine (HM.out _).mono ?_); rintro e w2 ⟨rfl, hg⟩; have G2 := Lib.hid (G1.out.trans hg); clear hg)
      | (go_at_call 17; (with_reducible refine (H1.out _).mono ?_); rintro e w3 ⟨rfl, hg⟩; have F3 := Lib.hid ((four_box w2 _ _ _ _ _).kept hg); obtain ⟨i0, i1, i2, i3, ib⟩ := F3.out; have G3 := Lib.hid ((G2.out.alloc _ _).trans hg); clear hg)
      | (go_at_call 20; (with_reducible refine (H2.out _).mono ?_); rintro e w4 ⟨rfl, hg⟩; have F4 := Lib.hid (F3.out.kept hg); obtain ⟨j0, j1, j2, j3, jb⟩ := F4.out; have G4 := Lib.hid (G3.out.trans hg); clear hg))
    clear i0 i1 i2 i3 ib F3 F4
    go_region_held3 (fun w' => w'.cell? ⟨w2.heap.size, 0, none⟩ = some (.int .u32 167772161) ∧ w'.cell? ⟨w2.heap.size, 1, none⟩ = some (.int .u32 (g : Int)) ∧ w'.cell? ⟨w2.heap.size, 2, none⟩ = some (.int .u32 (o : Int)) ∧ w'.cell? ⟨w2.heap.size, 3, none⟩ = some (.int .u32 (q : Int)) ∧ w2.heap.size < w'.heap.size ∧ Gr w w')
      (first | assumption | exact drewS j0 j1 j2 j3 jb G4.out | exact keepS ‹_› hg)
      (first
       | (go_at_call 18; (with_reducible refine (H3.out _).mono ?_); rintro e w5 ⟨rfl, hg⟩)
       | (go_at_call 19; (with_reducible refine (H4.out _).mono ?_); rintro e w5 ⟨rfl, hg⟩))
    rename_i hH
    obtain ⟨k0, k1, k2, k3, kb, kg⟩ := hH
    have G6 := Lib.hid kg
    clear hg kg j0 j1 j2 j3 jb
    go_wp2
    go_ret
    exact ⟨rfl, G6.out⟩
  · have hvo := hnz h0
    have d1 : ((c : Int) == 0) = false := by rw [beq_eq_false_iff_ne]; omega
    have d2 : ((c : Int) != 0) = true := by rw [bne_iff_ne]; omega
    rw [hvo] at H2
    clear hz hnz h0 hvo
    go_enter Try.func8, Try.ntmps8
    go_wp2_with (first
      | (go_at_call 10; (with_reducible refine (mshown_any _).mono ?_); rintro e w1 ⟨rfl, hg⟩; have G1 := Lib.hid hg; clear hg)
      | (go_at_call 11; (with_reducible refine (HM.out _).mono ?_); rintro e w2 ⟨rfl, hg⟩; have G2 := Lib.hid (G1.out.trans hg); clear hg)
      | (go_at_call 17; (with_reducible refine (H1.out _).mono ?_); rintro e w3 ⟨rfl, hg⟩; have F3 := Lib.hid ((four_box w2 _ _ _ _ _).kept hg); obtain ⟨i0, i1, i2, i3, ib⟩ := F3.out; have G3 := Lib.hid ((G2.out.alloc _ _).trans hg); clear hg)
      | (go_at_call 20; (with_reducible refine (H2.out _).mono ?_); rintro e w4 ⟨rfl, hg⟩; have F4 := Lib.hid (F3.out.kept hg); obtain ⟨j0, j1, j2, j3, jb⟩ := F4.out; have G4 := Lib.hid (G3.out.trans hg); clear hg))
    clear i0 i1 i2 i3 ib F3 F4
    go_region_held3 (fun w' => w'.cell? ⟨w2.heap.size, 0, none⟩ = some (.int .u32 167772161) ∧ w'.cell? ⟨w2.heap.size, 1, none⟩ = some (.int .u32 (g : Int)) ∧ w'.cell? ⟨w2.heap.size, 2, none⟩ = some (.int .u32 (o : Int)) ∧ w'.cell? ⟨w2.heap.size, 3, none⟩ = some (.int .u32 (q : Int)) ∧ w2.heap.size < w'.heap.size ∧ Gr w w')
      (first | assumption | exact drewS j0 j1 j2 j3 jb G4.out | exact keepS ‹_› hg)
      (first
       | (go_at_call 18; (with_reducible refine (H3.out _).mono ?_); rintro e w5 ⟨rfl, hg⟩)
       | (go_at_call 19; (with_reducible refine (H4.out _).mono ?_); rintro e w5 ⟨rfl, hg⟩))
    rename_i hH
    obtain ⟨k0, k1, k2, k3, kb, kg⟩ := hH
    have G6 := Lib.hid kg
    clear hg kg j0 j1 j2 j3 jb
    go_wp2
    go_ret
    exact ⟨rfl, G6.out⟩

set_option maxRecDepth 100000 in
set_option maxHeartbeats 2000000 in
theorem fermat_c (which : Int) (hw : which = 2) (a : Nat) (ha : a < 18446744073709551616) (w : World) :
    Calls Try.prog 8 #[.int .i64 which, .int .u64 (a : Int)] w fun e w' => e = .returned (.bool true) ∧ Gr w w' := by
  subst hw
  have h : May 469762049 := ⟨by decide, by decide, by decide⟩
  have M := make_yes 469762049 h
  have p := pm_of 469762049 h
  obtain ⟨g, hg⟩ : ∃ g, ngn 469762049 = g := ⟨_, rfl⟩
  obtain ⟨q, hq⟩ : ∃ q, fm 469762049 (fm 469762049 1) = q := ⟨_, rfl⟩
  obtain ⟨o, ho⟩ : ∃ o, fm 469762049 1 = o := ⟨_, rfl⟩
  rw [hg, hq, ho] at M p
  obtain ⟨c, v, e, hc, hcm, hv, he, hem, hb, hz, hnz⟩ := fermat_num p c_prime a
  have hqm : q < 469762049 := by rw [p.sq]; exact Nat.mod_lt _ (by decide)
  have I := fun w => in_any p a ha w
  have P := fun w => mpow_any p c (469762049 - 1) hcm (by decide) w
  have O := fun w => out_any p c (by omega) w
  have MU := fun w => mmul_any p e q (by omega) (by omega) (prod_lt 469762049 e q (by omega) hqm) w
  rw [hc] at I
  rw [hv] at P
  rw [he] at O
  rw [hb] at MU
  unfold mk at M
  unfold frm at M I P O MU
  rw [show ((469762049 : Nat) : Int) = 469762049 from rfl] at M I P O MU
  rw [show ((469762049 - 1 : Nat) : Int) = 469762048 from rfl] at P
  have HM := Lib.hid M
  have H1 := Lib.hid I
  have H2 := Lib.hid P
  have H3 := Lib.hid O
  have H4 := Lib.hid MU
  clear M p hg hq ho hc hcm hv he hem hb hqm I P O MU h ha
  by_cases h0 : c = 0
  · have hv0 := hz h0
    have d1 : ((c : Int) == 0) = true := by rw [beq_iff_eq]; omega
    have d2 : ((v : Int) == 0) = true := by rw [beq_iff_eq]; omega
    clear hz hnz h0 hv0
    go_enter Try.func8, Try.ntmps8
    go_wp2_with (first
      | (go_at_call 10; (with_reducible refine (mshown_any _).mono ?_); rintro e w1 ⟨rfl, hg⟩; have G1 := Lib.hid hg; clear hg)
      | (go_at_call 11; (with_reducible refine (HM.out _).mono ?_); rintro e w2 ⟨rfl, hg⟩; have G2 := Lib.hid (G1.out.trans hg); clear hg)
      | (go_at_call 17; (with_reducible refine (H1.out _).mono ?_); rintro e w3 ⟨rfl, hg⟩; have F3 := Lib.hid ((four_box w2 _ _ _ _ _).kept hg); obtain ⟨i0, i1, i2, i3, ib⟩ := F3.out; have G3 := Lib.hid ((G2.out.alloc _ _).trans hg); clear hg)
      | (go_at_call 20; (with_reducible refine (H2.out _).mono ?_); rintro e w4 ⟨rfl, hg⟩; have F4 := Lib.hid (F3.out.kept hg); obtain ⟨j0, j1, j2, j3, jb⟩ := F4.out; have G4 := Lib.hid (G3.out.trans hg); clear hg))
    clear i0 i1 i2 i3 ib F3 F4
    go_region_held3 (fun w' => w'.cell? ⟨w2.heap.size, 0, none⟩ = some (.int .u32 469762049) ∧ w'.cell? ⟨w2.heap.size, 1, none⟩ = some (.int .u32 (g : Int)) ∧ w'.cell? ⟨w2.heap.size, 2, none⟩ = some (.int .u32 (o : Int)) ∧ w'.cell? ⟨w2.heap.size, 3, none⟩ = some (.int .u32 (q : Int)) ∧ w2.heap.size < w'.heap.size ∧ Gr w w')
      (first | assumption | exact drewS j0 j1 j2 j3 jb G4.out | exact keepS ‹_› hg)
      (first
       | (go_at_call 18; (with_reducible refine (H3.out _).mono ?_); rintro e w5 ⟨rfl, hg⟩)
       | (go_at_call 19; (with_reducible refine (H4.out _).mono ?_); rintro e w5 ⟨rfl, hg⟩))
    rename_i hH
    obtain ⟨k0, k1, k2, k3, kb, kg⟩ := hH
    have G6 := Lib.hid kg
    clear hg kg j0 j1 j2 j3 jb
    go_wp2
    go_ret
    exact ⟨rfl, G6.out⟩
  · have hvo := hnz h0
    have d1 : ((c : Int) == 0) = false := by rw [beq_eq_false_iff_ne]; omega
    have d2 : ((c : Int) != 0) = true := by rw [bne_iff_ne]; omega
    rw [hvo] at H2
    clear hz hnz h0 hvo
    go_enter Try.func8, Try.ntmps8
    go_wp2_with (first
      | (go_at_call 10; (with_reducible refine (mshown_any _).mono ?_); rintro e w1 ⟨rfl, hg⟩; have G1 := Lib.hid hg; clear hg)
      | (go_at_call 11; (with_reducible refine (HM.out _).mono ?_); rintro e w2 ⟨rfl, hg⟩; have G2 := Lib.hid (G1.out.trans hg); clear hg)
      | (go_at_call 17; (with_reducible refine (H1.out _).mono ?_); rintro e w3 ⟨rfl, hg⟩; have F3 := Lib.hid ((four_box w2 _ _ _ _ _).kept hg); obtain ⟨i0, i1, i2, i3, ib⟩ := F3.out; have G3 := Lib.hid ((G2.out.alloc _ _).trans hg); clear hg)
      | (go_at_call 20; (with_reducible refine (H2.out _).mono ?_); rintro e w4 ⟨rfl, hg⟩; have F4 := Lib.hid (F3.out.kept hg); obtain ⟨j0, j1, j2, j3, jb⟩ := F4.out; have G4 := Lib.hid (G3.out.trans hg); clear hg))
    clear i0 i1 i2 i3 ib F3 F4
    go_region_held3 (fun w' => w'.cell? ⟨w2.heap.size, 0, none⟩ = some (.int .u32 469762049) ∧ w'.cell? ⟨w2.heap.size, 1, none⟩ = some (.int .u32 (g : Int)) ∧ w'.cell? ⟨w2.heap.size, 2, none⟩ = some (.int .u32 (o : Int)) ∧ w'.cell? ⟨w2.heap.size, 3, none⟩ = some (.int .u32 (q : Int)) ∧ w2.heap.size < w'.heap.size ∧ Gr w w')
      (first | assumption | exact drewS j0 j1 j2 j3 jb G4.out | exact keepS ‹_› hg)
      (first
       | (go_at_call 18; (with_reducible refine (H3.out _).mono ?_); rintro e w5 ⟨rfl, hg⟩)
       | (go_at_call 19; (with_reducible refine (H4.out _).mono ?_); rintro e w5 ⟨rfl, hg⟩))
    rename_i hH
    obtain ⟨k0, k1, k2, k3, kb, kg⟩ := hH
    have G6 := Lib.hid kg
    clear hg kg j0 j1 j2 j3 jb
    go_wp2
    go_ret
    exact ⟨rfl, G6.out⟩

set_option maxRecDepth 100000 in
set_option maxHeartbeats 2000000 in
theorem fermat_a (which : Int) (hw1 : (which == 1) = false) (hw2 : (which == 2) = false) (a : Nat) (ha : a < 18446744073709551616) (w : World) :
    Calls Try.prog 8 #[.int .i64 which, .int .u64 (a : Int)] w fun e w' => e = .returned (.bool true) ∧ Gr w w' := by
  have h : May 998244353 := ⟨by decide, by decide, by decide⟩
  have M := make_yes 998244353 h
  have p := pm_of 998244353 h
  obtain ⟨g, hg⟩ : ∃ g, ngn 998244353 = g := ⟨_, rfl⟩
  obtain ⟨q, hq⟩ : ∃ q, fm 998244353 (fm 998244353 1) = q := ⟨_, rfl⟩
  obtain ⟨o, ho⟩ : ∃ o, fm 998244353 1 = o := ⟨_, rfl⟩
  rw [hg, hq, ho] at M p
  obtain ⟨c, v, e, hc, hcm, hv, he, hem, hb, hz, hnz⟩ := fermat_num p a_prime a
  have hqm : q < 998244353 := by rw [p.sq]; exact Nat.mod_lt _ (by decide)
  have I := fun w => in_any p a ha w
  have P := fun w => mpow_any p c (998244353 - 1) hcm (by decide) w
  have O := fun w => out_any p c (by omega) w
  have MU := fun w => mmul_any p e q (by omega) (by omega) (prod_lt 998244353 e q (by omega) hqm) w
  rw [hc] at I
  rw [hv] at P
  rw [he] at O
  rw [hb] at MU
  unfold mk at M
  unfold frm at M I P O MU
  rw [show ((998244353 : Nat) : Int) = 998244353 from rfl] at M I P O MU
  rw [show ((998244353 - 1 : Nat) : Int) = 998244352 from rfl] at P
  have HM := Lib.hid M
  have H1 := Lib.hid I
  have H2 := Lib.hid P
  have H3 := Lib.hid O
  have H4 := Lib.hid MU
  clear M p hg hq ho hc hcm hv he hem hb hqm I P O MU h ha
  by_cases h0 : c = 0
  · have hv0 := hz h0
    have d1 : ((c : Int) == 0) = true := by rw [beq_iff_eq]; omega
    have d2 : ((v : Int) == 0) = true := by rw [beq_iff_eq]; omega
    clear hz hnz h0 hv0
    go_enter Try.func8, Try.ntmps8
    go_wp2_with (first
      | (go_at_call 10; (with_reducible refine (mshown_any _).mono ?_); rintro e w1 ⟨rfl, hg⟩; have G1 := Lib.hid hg; clear hg)
      | (go_at_call 11; (with_reducible refine (HM.out _).mono ?_); rintro e w2 ⟨rfl, hg⟩; have G2 := Lib.hid (G1.out.trans hg); clear hg)
      | (go_at_call 17; (with_reducible refine (H1.out _).mono ?_); rintro e w3 ⟨rfl, hg⟩; have F3 := Lib.hid ((four_box w2 _ _ _ _ _).kept hg); obtain ⟨i0, i1, i2, i3, ib⟩ := F3.out; have G3 := Lib.hid ((G2.out.alloc _ _).trans hg); clear hg)
      | (go_at_call 20; (with_reducible refine (H2.out _).mono ?_); rintro e w4 ⟨rfl, hg⟩; have F4 := Lib.hid (F3.out.kept hg); obtain ⟨j0, j1, j2, j3, jb⟩ := F4.out; have G4 := Lib.hid (G3.out.trans hg); clear hg))
    clear i0 i1 i2 i3 ib F3 F4
    go_region_held3 (fun w' => w'.cell? ⟨w2.heap.size, 0, none⟩ = some (.int .u32 998244353) ∧ w'.cell? ⟨w2.heap.size, 1, none⟩ = some (.int .u32 (g : Int)) ∧ w'.cell? ⟨w2.heap.size, 2, none⟩ = some (.int .u32 (o : Int)) ∧ w'.cell? ⟨w2.heap.size, 3, none⟩ = some (.int .u32 (q : Int)) ∧ w2.heap.size < w'.heap.size ∧ Gr w w')
      (first | assumption | exact drewS j0 j1 j2 j3 jb G4.out | exact keepS ‹_› hg)
      (first
       | (go_at_call 18; (with_reducible refine (H3.out _).mono ?_); rintro e w5 ⟨rfl, hg⟩)
       | (go_at_call 19; (with_reducible refine (H4.out _).mono ?_); rintro e w5 ⟨rfl, hg⟩))
    rename_i hH
    obtain ⟨k0, k1, k2, k3, kb, kg⟩ := hH
    have G6 := Lib.hid kg
    clear hg kg j0 j1 j2 j3 jb
    go_wp2
    go_ret
    exact ⟨rfl, G6.out⟩
  · have hvo := hnz h0
    have d1 : ((c : Int) == 0) = false := by rw [beq_eq_false_iff_ne]; omega
    have d2 : ((c : Int) != 0) = true := by rw [bne_iff_ne]; omega
    rw [hvo] at H2
    clear hz hnz h0 hvo
    go_enter Try.func8, Try.ntmps8
    go_wp2_with (first
      | (go_at_call 10; (with_reducible refine (mshown_any _).mono ?_); rintro e w1 ⟨rfl, hg⟩; have G1 := Lib.hid hg; clear hg)
      | (go_at_call 11; (with_reducible refine (HM.out _).mono ?_); rintro e w2 ⟨rfl, hg⟩; have G2 := Lib.hid (G1.out.trans hg); clear hg)
      | (go_at_call 17; (with_reducible refine (H1.out _).mono ?_); rintro e w3 ⟨rfl, hg⟩; have F3 := Lib.hid ((four_box w2 _ _ _ _ _).kept hg); obtain ⟨i0, i1, i2, i3, ib⟩ := F3.out; have G3 := Lib.hid ((G2.out.alloc _ _).trans hg); clear hg)
      | (go_at_call 20; (with_reducible refine (H2.out _).mono ?_); rintro e w4 ⟨rfl, hg⟩; have F4 := Lib.hid (F3.out.kept hg); obtain ⟨j0, j1, j2, j3, jb⟩ := F4.out; have G4 := Lib.hid (G3.out.trans hg); clear hg))
    clear i0 i1 i2 i3 ib F3 F4
    go_region_held3 (fun w' => w'.cell? ⟨w2.heap.size, 0, none⟩ = some (.int .u32 998244353) ∧ w'.cell? ⟨w2.heap.size, 1, none⟩ = some (.int .u32 (g : Int)) ∧ w'.cell? ⟨w2.heap.size, 2, none⟩ = some (.int .u32 (o : Int)) ∧ w'.cell? ⟨w2.heap.size, 3, none⟩ = some (.int .u32 (q : Int)) ∧ w2.heap.size < w'.heap.size ∧ Gr w w')
      (first | assumption | exact drewS j0 j1 j2 j3 jb G4.out | exact keepS ‹_› hg)
      (first
       | (go_at_call 18; (with_reducible refine (H3.out _).mono ?_); rintro e w5 ⟨rfl, hg⟩)
       | (go_at_call 19; (with_reducible refine (H4.out _).mono ?_); rintro e w5 ⟨rfl, hg⟩))
    rename_i hH
    obtain ⟨k0, k1, k2, k3, kb, kg⟩ := hH
    have G6 := Lib.hid kg
    clear hg kg j0 j1 j2 j3 jb
    go_wp2
    go_ret
    exact ⟨rfl, G6.out⟩

theorem montFermat_walk (which : Int) (a : Nat) (hwh : -9223372036854775808 ≤ which ∧ which ≤ 9223372036854775807) (ha : a < 18446744073709551616) (w : World) :
    Calls Try.prog 8 #[.int .i64 which, .int .u64 (a : Int)] w fun e w' => e = .returned (.bool true) ∧ Gr w w' := by
  by_cases h1 : which = 1
  · exact fermat_b which h1 a ha w
  · by_cases h2 : which = 2
    · exact fermat_c which h2 a ha w
    · exact fermat_a which (beq_eq_false_iff_ne.2 h1) (beq_eq_false_iff_ne.2 h2) a ha w
end Go.Proofs.Ytpdbdnhjibkflaa
