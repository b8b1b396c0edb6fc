/-
  The document's Rows and Mod (layer 9).
-/
import Derived.Test.YtiainhbkoehhjaaDoorPk16
import Derived.Test.YtiainhbkoehhjaaDoorPk29
import Derived.Test.YtiainhbkoehhjaaDoorPk26
import Derived.Test.YtiainhbkoehhjaaDoorPk23
import Derived.Test.YtiainhbkoehhjaaDoorPk24
import Derived.Deep.RegionHeld3
import Derived.Deep.DeepCutAuto
import Derived.Deep.CutBlock
import Derived.Deep.CutRange
namespace Go.Proofs.YtiainhbkoehhjaaDoor
open Go.RowKit
set_option linter.unusedVariables false

set_option maxRecDepth 100000 in
set_option maxHeartbeats 1000000 in
theorem rrows_any (v1 v2 : Value) (l m : List Nat) (hl : l.length < 1099511627776) (hm : m.length < 1099511627776) (w : World) (hr1 : Rw .u32 w v1 l) (hr2 : Rw .u32 w v2 m) :
    Calls Tryd.prog 21 #[v1, v2] w fun e w' => e = .returned (.bool (decide (l = m))) ∧ Bl w w' := by
  obtain ⟨A1, c1, rfl, _, _, _, hx1⟩ := hr1
  obtain ⟨A2, c2, rfl, _, _, _, hx2⟩ := hr2
  have H1 := Lib.hid hx1
  have H2 := Lib.hid hx2
  have hnb : (l.length : Int) ≤ 1099511627776 := by omega
  clear hx1 hx2 hl hm
  by_cases h : l.length = m.length
  · obtain ⟨n, hn⟩ : ∃ n, l.length = n := ⟨_, rfl⟩
    obtain ⟨b, hb⟩ : ∃ b, decide (l = m) = b := ⟨_, rfl⟩
    have HL := Lib.hid hn
    have HM := Lib.hid (h.symm.trans hn)
    have HB := Lib.hid hb
    rw [hb]
    rw [← h, hn]
    rw [hn] at hnb
    have r1 : ((n : Int) != (n : Int)) = false := by rw [bne_eq_false_iff_eq]
    clear hn h hb
    go_enter Tryd.func21, Tryd.ntmps21
    go_wp2
    go_loopw [5] (fun s wr => ∃ i : Nat, i ≤ n ∧ s = .int .i64 (i : Int) ∧ Hid (l.take i = m.take i) ∧ Hid (Bl w wr)) (fun s _ => n - (intOf s).toNat)
    case atStart => exact ⟨0, Nat.zero_le _, rfl, by show l.take 0 = m.take 0; simp, Bl.refl w⟩
    case round =>
      obtain ⟨i, hin, rfl, ht, hb⟩ := hrel
      by_cases hlt : i < n
      · obtain ⟨a1, hA1, hc1⟩ := (H1.out.bl hb.out).at_ (i := i) (by rw [HL.out]; exact hlt)
        obtain ⟨a2, hA2, hc2⟩ := (H2.out.bl hb.out).at_ (i := i) (by rw [HM.out]; exact hlt)
        have s1 := Lib.hid (take_eq_step ht.out (by rw [HL.out]; exact hlt) (by rw [HM.out]; exact hlt))
        have s2 := Lib.hid (take_ne (l := l) (m := m) (i := i) (by rw [HL.out]; exact hlt) (by rw [HM.out]; exact hlt))
        obtain ⟨d1, e1⟩ : ∃ d, l[i]'(by rw [HL.out]; exact hlt) = d := ⟨_, rfl⟩
        obtain ⟨d2, e2⟩ : ∃ d, m[i]'(by rw [HM.out]; exact hlt) = d := ⟨_, rfl⟩
        rw [e1] at s1 s2 hc1
        rw [e2] at s1 s2 hc2
        have b2 : (0 : Int) ≤ (i : Int) ∧ (i : Int) < (n : Int) := by omega
        subst hA1
        subst hA2
        clear e1 e2
        by_cases hd : d1 = d2
        · have HS := Lib.hid (s1.out hd)
          have t1 : ((d1 : Int) != (d2 : Int)) = false := by rw [bne_eq_false_iff_eq]; omega
          clear hd
          go_wp2
          go_quiet (fail)
          go_wp2
          go_roundw
          case rel => exact ⟨i + 1, by omega, by go_num, HS.out, hb.out.drewN _⟩
          case measure => simp [intOf] <;> omega
        · have HF : Hid (b = false) := by rw [← HB.out]; exact decide_eq_false (s2.out hd)
          have t1 : ((d1 : Int) != (d2 : Int)) = true := by rw [bne_iff_ne]; omega
          clear hd
          go_wp2
          go_quiet (fail)
          go_wp2
          go_ret
          exact ⟨ret_b HF.out.symm, hb.out.drewN _⟩
      · have hin' : i = n := by omega
        have HT : Hid (b = true) := by
          rw [← HB.out]
          refine decide_eq_true ?_
          have e := ht.out
          rw [hin', ← HL.out, List.take_length, HL.out, ← HM.out, List.take_length] at e
          exact e
        clear hin'
        go_wp2
        go_ret
        exact ⟨ret_b HT.out.symm, hb.out⟩
  · have HF : Hid (decide (l = m) = false) := decide_eq_false (fun e => h (by rw [e]))
    have r1 : ((l.length : Int) != (m.length : Int)) = true := by rw [bne_iff_ne]; omega
    clear h
    go_enter Tryd.func21, Tryd.ntmps21
    go_wp2
    go_ret
    exact ⟨ret_b HF.out.symm, Bl.refl w⟩

theorem keepN {w W w' : World} {p1 p2 : Addr} {v1 v2 : Value} (h1 : p1.block < w.heap.size) (h2 : p2.block < w.heap.size) (h : W.cell? p1 = some v1 ∧ W.cell? p2 = some v2 ∧ Bl w W) (g : Bl W w') : w'.cell? p1 = some v1 ∧ w'.cell? p2 = some v2 ∧ Bl w w' :=
  ⟨(g.cell (Nat.lt_of_lt_of_le h1 h.2.2.size)).trans h.1, (g.cell (Nat.lt_of_lt_of_le h2 h.2.2.size)).trans h.2.1, h.2.2.trans g⟩
theorem setN {w W : World} {p1 p2 p : Addr} {v1 v2 : Value} (h1 : p1.block < w.heap.size) (h2 : p2.block < w.heap.size) (hp : w.heap.size ≤ p.block) (h : W.cell? p1 = some v1 ∧ W.cell? p2 = some v2 ∧ Bl w W) (u : Value) : (W.setCell p u).cell? p1 = some v1 ∧ (W.setCell p u).cell? p2 = some v2 ∧ Bl w (W.setCell p u) := by
  refine ⟨(World.cell?_setCell_other _ _ _ _ ?_).trans h.1, (World.cell?_setCell_other _ _ _ _ ?_).trans h.2.1, h.2.2.setCell hp u⟩
  · intro e; subst e; omega
  · intro e; subst e; omega
theorem tn_lt' (m a b : Nat) (h : 0 < m) : tn m a b < m := Nat.mod_lt _ h
theorem mod_step (m : Nat) (h3 : 3 ≤ m) (hm : m < 2147483648) (a b : List Nat) (i k d1 d2 o : Nat) (h1 : a.getD i 0 = d1) (h2 : b.getD k 0 = d2) (ho : cvk a b i k (i + k) % m = o) :
    ∃ s r : Nat, IntKind.u64.wrap ((o : Int) + ((tn m d1 d2 : Nat) : Int)) = (s : Int) ∧ (o : Int) + ((tn m d1 d2 : Nat) : Int) = (s : Int) ∧ (s : Int) % (m : Int) = (r : Int) ∧ IntKind.u32.wrap (r : Int) = (r : Int) ∧ IntKind.u64.wrap (o : Int) = (o : Int) ∧ cvk a b i (k + 1) (i + k) % m = r := by
  have ht := tn_lt' m d1 d2 (by omega)
  have hol : o < m := ho ▸ Nat.mod_lt _ (by omega)
  have hrl : (o + tn m d1 d2) % m < m := Nat.mod_lt _ (by omega)
  refine ⟨o + tn m d1 d2, (o + tn m d1 d2) % m, ?_, by omega, by omega, IntWalk.u32_in _ (by omega), IntWalk.u64_in _ (by omega), ?_⟩
  · rw [← Int.natCast_add]; exact IntWalk.u64_in _ (by omega)
  · rw [cvk_at, h1, h2, ← ho]
    show _ = (_ % m + d1 * d2 % m) % m
    rw [← Nat.add_mod]

set_option maxRecDepth 100000 in
set_option maxHeartbeats 4000000 in
theorem rmod_bad (v1 v2 : Value) (a b : List Nat) (m : Nat) (hm : m < 4294967296) (h : ¬ P3 m) (w : World) :
    Calls Tryd.prog 18 #[v1, v2, .int .u32 (m : Int)] w (M9 w a b m) := by
  have n1 : ((m : Int) != 998244353) = true := by rw [bne_iff_ne]; intro e; exact h (.inl (by omega))
  have n2 : ((m : Int) != 167772161) = true := by rw [bne_iff_ne]; intro e; exact h (.inr (.inl (by omega)))
  have n3 : ((m : Int) != 469762049) = true := by rw [bne_iff_ne]; intro e; exact h (.inr (.inr (by omega)))
  have H := Lib.hid h
  clear h hm
  go_enter Tryd.func18, Tryd.ntmps18
  go_wp2
  go_ret2
  exact .bad H.out (RwErr.mk (Rw.nil _ _) (Bl.refl w))

theorem mlm_cv0 (a b : List Nat) (L m : Nat) : (ml L fun x => cv a b 0 x % m) = List.replicate L 0 := by
  rw [← ml_const]
  exact ml_congr fun _ _ => Nat.zero_mod m

set_option maxRecDepth 100000 in
set_option maxHeartbeats 8000000 in
theorem rmod_ok (v1 v2 : Value) (a b : List Nat) (m : Nat) (hP3 : P3 m) (ha64 : All 18446744073709551616 a) (hb64 : All 18446744073709551616 b) (hal : a.length ≤ 10000) (hbl : b.length ≤ 10000) (w : World) (hr1 : Rw .u64 w v1 a) (hr2 : Rw .u64 w v2 b) :
    Calls Tryd.prog 18 #[v1, v2, .int .u32 (m : Int)] w (M9 w a b m) := by
  obtain ⟨i0, hi, hz0, hz1, hz2⟩ := info_parts Tryd.infoU32
  have HP := Lib.hid hP3
  have hP := hP3.ge
  have R1 := Lib.hid hr1
  have R2 := Lib.hid hr2
  obtain ⟨A1, c1, rfl, _, _, _, hx1⟩ := hr1
  obtain ⟨A2, c2, rfl, _, _, _, hx2⟩ := hr2
  have H1 := Lib.hid hx1
  have H2 := Lib.hid hx2
  have G := Lib.hid (fun W h1 h2 => rlong_no (.slice A1 a.length c1) (.slice A2 b.length c2) a b hal hbl W h1 h2)
  obtain ⟨n, hn⟩ : ∃ n, a.length = n := ⟨_, rfl⟩
  obtain ⟨k0, hm⟩ : ∃ m, b.length = m := ⟨_, rfl⟩
  rw [hn] at hal R1 G
  rw [hm] at hbl R2 G
  have HN := Lib.hid hn
  have HM := Lib.hid hm
  have HA := Lib.hid ha64
  have HB := Lib.hid hb64
  have hnb : (n : Int) ≤ 10000 := by omega
  have hmb : (k0 : Int) ≤ 10000 := by omega
  rw [hn, hm]
  have hcase : (((m : Int) != 998244353) = false) ∨ (((m : Int) != 998244353) = true ∧ ((m : Int) != 167772161) = false) ∨ (((m : Int) != 998244353) = true ∧ ((m : Int) != 167772161) = true ∧ ((m : Int) != 469762049) = false) := by
    rcases hP3 with h | h | h
    · exact .inl (by rw [bne_eq_false_iff_eq]; omega)
    · exact .inr (.inl ⟨by rw [bne_iff_ne]; omega, by rw [bne_eq_false_iff_eq]; omega⟩)
    · exact .inr (.inr ⟨by rw [bne_iff_ne]; omega, by rw [bne_iff_ne]; omega, by rw [bne_eq_false_iff_eq]; omega⟩)
  clear hn hm hal hbl hx1 hx2 ha64 hb64 hP3
  go_enter Tryd.func18, Tryd.ntmps18
  go_upto_region 1 with fail
  go_cut [21] from 12 to 20 (fun c wx => c = .bool false ∧ w = wx)
  case first =>
    rcases hcase with n1 | ⟨n1, n2⟩ | ⟨n1, n2, n3⟩
    all_goals
      go_wp2_with fail
      go_meet
      case rel => exact ⟨rfl, rfl⟩
  case rest =>
    obtain ⟨rfl, rfl⟩ := hcut
    clear hcase
    by_cases hz : n = 0 ∨ k0 = 0
    · have hres : Hid ((cvs a b).map (· % m) = []) := by
        show (ml (cl a b) _).map (· % m) = []
        rw [cl_zero (by rw [HN.out, HM.out]; exact hz)]; rfl
      have hz' : ((n : Int) == 0) = true ∨ (((n : Int) == 0) = false ∧ ((k0 : Int) == 0) = true) := by
        by_cases h : n = 0
        · exact .inl (by rw [h]; rfl)
        · exact .inr ⟨by rw [beq_eq_false_iff_ne]; omega, by rw [beq_iff_eq]; omega⟩
      clear hz
      rcases hz' with y1 | ⟨y1, y2⟩
      all_goals
        go_wp2_with (go_at_call 39; (with_reducible refine (G.out _ R1.out R2.out).mono ?_); rintro e w' ⟨rfl, hb'⟩; have HB' := Lib.hid hb'; clear hb')
        go_ret2
        exact .ok HP.out (by rw [hres.out]; exact RwErr.mk (Rw.nil _ _) HB'.out)
    · have y1 : ((n : Int) == 0) = false := by rw [beq_eq_false_iff_ne]; omega
      have y2 : ((k0 : Int) == 0) = false := by rw [beq_eq_false_iff_ne]; omega
      obtain ⟨L, hL⟩ : ∃ L, n + k0 - 1 = L := ⟨_, rfl⟩
      have rL : (n : Int) + (k0 : Int) - 1 = (L : Int) := by omega
      have hcl : Hid (cl a b = L) := by show cl a b = L; rw [cl_pos (by rw [HN.out]; omega) (by rw [HM.out]; omega), HN.out, HM.out]; exact hL
      have hLm : Hid (L < 20000 ∧ ∀ i k, i < n → k < k0 → i + k < L) := ⟨by omega, fun i k h1 h2 => by omega⟩
      have hLb : (L : Int) ≤ 20000 := by omega
      have hmk := fun W => run_mk (P := Tryd.prog) .u32 34 25 i0 Tryd.underlying34 hi hz0 hz1 (by omega) L (by omega) W
      clear hz hL
      go_wp2_with (go_at_call 39; (with_reducible refine (G.out _ R1.out R2.out).mono ?_); rintro e w' ⟨rfl, hb'⟩; have HB' := Lib.hid hb'; clear hb')
      clear hmk
      go_loopw [10] (fun s wr => ∃ i : Nat, i ≤ n ∧ s = .int .i64 (i : Int) ∧ Hid (Bk .u32 25 wr w'.heap.size (ml L fun x => cv a b i x % m)) ∧ Hid (Bl w wr)) (fun s _ => n - (intOf s).toNat)
      case atStart => exact ⟨0, Nat.zero_le _, rfl, (by show Bk _ _ _ _ _; rw [mlm_cv0]; exact Bk.made _ _ _ _), HB'.out.alloc _⟩
      case round =>
        have HBs := Lib.hid HB'.out.size
        clear HB'
        obtain ⟨i, hil, rfl, hbk, hb⟩ := hrel
        by_cases hlt3 : i < n
        · have hst0 : Hid (Bk .u32 25 wr w'.heap.size (ml L fun x => cvk a b i 0 x % m)) := by
            have e : (ml L fun x => cvk a b i 0 x % m) = ml L fun x => cv a b i x % m := ml_congr fun x _ => by rw [cvk_zero]
            show Bk _ _ _ _ _
            rw [e]; exact hbk.out
          clear hbk
          go_wp2
          go_loopw [11] (fun s wr => ∃ k : Nat, k ≤ k0 ∧ s = .int .i64 (k : Int) ∧ Hid (Bk .u32 25 wr w'.heap.size (ml L fun x => cvk a b i k x % m)) ∧ Hid (Bl w wr)) (fun s _ => k0 - (intOf s).toNat)
          case atStart => exact ⟨0, Nat.zero_le _, rfl, hst0, hb⟩
          case round =>
            clear hst0 hb
            obtain ⟨k, hkm, rfl, hbk, hb⟩ := hrel
            by_cases hlt4 : k < k0
            · obtain ⟨ad1, hA1, hbl1, hc1⟩ := H1.out (by rw [HN.out]; omega)
              obtain ⟨ad2, hA2, hbl2, hc2⟩ := H2.out (by rw [HM.out]; omega)
              have hc1 := hc1 i (by rw [HN.out]; exact hlt3)
              have hc2 := hc2 k (by rw [HM.out]; exact hlt4)
              have hj := hLm.out.2 i k hlt3 hlt4
              have hg1 := getD_in (l := a) (i := i) (by rw [HN.out]; exact hlt3)
              have hg2 := getD_in (l := b) (i := k) (by rw [HM.out]; exact hlt4)
              obtain ⟨d1, e1⟩ : ∃ d, a[i]'(by rw [HN.out]; exact hlt3) = d := ⟨_, rfl⟩
              obtain ⟨d2, e2⟩ : ∃ d, b[k]'(by rw [HM.out]; exact hlt4) = d := ⟨_, rfl⟩
              rw [e1] at hc1 hg1
              rw [e2] at hc2 hg2
              have hq := hbk.out.cell (i + k) (by rw [ml_length]; exact hj)
              rw [ml_get] at hq
              have hf := hbk.out.free (i + k)
              have hBlt := hbk.out.lt
              obtain ⟨o, eo⟩ : ∃ o, cvk a b i k (i + k) % m = o := ⟨_, rfl⟩
              obtain ⟨s', r, r1, r2, r3, r4, r5, r6⟩ := mod_step m hP.1 hP.2 a b i k d1 d2 o hg1 hg2 eo
              rw [eo] at hq
              have T1 := Lib.hid (fun W => rturn_any m d1 d2 hP.1 hP.2 W)
              obtain ⟨t, et⟩ : ∃ t, tn m d1 d2 = t := ⟨_, rfl⟩
              rw [et] at r1 r2 T1
              obtain ⟨j, ej⟩ : ∃ j, i + k = j := ⟨_, rfl⟩
              have w2 : (i : Int) + (k : Int) = (j : Int) := by omega
              have w3 : IntKind.i64.wrap ((i : Int) + (k : Int)) = (j : Int) := by rw [w2]; exact IntWalk.i64_in _ (by omega)
              rw [ej] at hq hf hj r6
              have b1 : (0 : Int) ≤ (i : Int) ∧ (i : Int) < (n : Int) := by omega
              have b2 : (0 : Int) ≤ (k : Int) ∧ (k : Int) < (k0 : Int) := by omega
              have b3 : (0 : Int) ≤ (j : Int) ∧ (j : Int) < (L : Int) := by omega
              have m1 : IntKind.u64.wrap (m : Int) = (m : Int) := IntWalk.u64_in _ (by omega)
              have m2 : ((m : Int) == 0) = false := by rw [beq_eq_false_iff_ne]; omega
              have m3 : ¬ (m : Int) = 0 := by omega
              have m4 : ¬ m = 0 := by omega
              have s1 : IntKind.u64.wrap (s' : Int) = (s' : Int) := by have h := r1; rw [r2] at h; exact h
              have s2 : (s' : Int).tmod (m : Int) = (r : Int) := by rw [Int.tmod_eq_emod_of_nonneg (by omega)]; exact r3
              have s3 : (r : Int) % 4294967296 = (r : Int) := by rw [← IntKind.wrap_u32]; exact r4
              have hset : Hid (∀ W, Bk .u32 25 W w'.heap.size (ml L fun x => cvk a b i k x % m) → Bk .u32 25 (W.setCell ⟨w'.heap.size, j, none⟩ (.int .u32 (r : Int))) w'.heap.size (ml L fun x => cvk a b i (k + 1) x % m)) := by
                intro W hW
                have h := hW.set j r (by rw [ml_length]; exact hj)
                rw [← r6, ml_set (f := fun x => cvk a b i k x % m) (g := fun x => cvk a b i (k + 1) x % m) (fun y hy => by show _ % _ = _ % _; rw [cvk_other a b i k y (by omega)]), r6] at h
                exact h
              have HF : Hid (∀ W, Bl wr W → W.cell? ⟨w'.heap.size, j, none⟩ = some (.int .u32 (o : Int)) ∧ W.frozen? ⟨w'.heap.size, j, none⟩ = false) := fun W g => ⟨(g.cell (p := ⟨w'.heap.size, j, none⟩) hBlt).trans hq, (g.frozen _ _ hBlt).trans hf⟩
              subst hA1
              subst hA2
              have hc1 := (hb.out.cell (p := ad1.add i) (by rw [blk_add]; exact hbl1)).trans hc1
              have hc2 := (hb.out.cell (p := ad2.add k) (by rw [blk_add]; exact hbl2)).trans hc2
              clear hg1 hg2 e1 e2 eo et r6 ej w2 hj hbl1 hbl2
              go_wp2
              go_region_with (first
                | (go_at_call 40; (with_reducible refine (T1.out _).mono ?_); rintro e w2 ⟨rfl, hg⟩; have HB2 : Hid (Bl wr w2) := ((Bl.refl wr).drew).trans hg.1; have q2 := (HF.out _ HB2.out).1; have f2 := (HF.out _ HB2.out).2; clear hg))
              all_goals
                have hbk2 := Lib.hid (hset.out _ (hbk.out.bl HB2.out))
                have hb2 := Lib.hid ((hb.out.trans HB2.out).setCell (p := ⟨w'.heap.size, j, none⟩) HBs.out (.int .u32 (r : Int)))
                clear q2 f2 hc1 hc2 hq
                go_wp2
                go_roundw
                case rel => exact ⟨k + 1, by omega, by go_num, hbk2, hb2⟩
                case measure => simp [intOf] <;> omega
            · have hkm' : k = k0 := by omega
              have hbk2 : Hid (Bk .u32 25 wr w'.heap.size (ml L fun x => cv a b (i + 1) x % m)) := by
                have e : (ml L fun x => cv a b (i + 1) x % m) = ml L fun x => cvk a b i k x % m := ml_congr fun x _ => by rw [hkm', ← HM.out, cvk_end]
                show Bk _ _ _ _ _
                rw [e]; exact hbk.out
              clear hbk hkm'
              go_wp2
              go_roundw
              case rel => exact ⟨i + 1, by omega, by go_num, hbk2, hb⟩
              case measure => simp [intOf] <;> omega
        · have hin' : i = n := by omega
          have hpr : Hid (Rw .u32 wr (.slice (some ⟨w'.heap.size, 0, none⟩) L L) ((cvs a b).map (· % m))) := by
            have e : (cvs a b).map (· % m) = ml L fun x => cv a b i x % m := by
              show (ml (cl a b) _).map (· % m) = _
              rw [map_ml, hcl.out, HN.out, hin']
            show Rw _ _ _ _
            rw [e]
            exact hbk.out.rw (ml_length _ _).symm (by have := hLm.out.1; unfold maxLen; omega)
          clear hbk hin'
          go_wp2
          go_ret2
          exact .ok HP.out (RwErr.mk hpr.out hb.out)
end Go.Proofs.YtiainhbkoehhjaaDoor
