/-
  The document's Times (layer 9).
-/
import Derived.Test.YtiainhbkoehhjaaDoorPk15
namespace Go.Proofs.YtiainhbkoehhjaaDoor
open Go.RowKit
set_option linter.unusedVariables false

/-- How long a product is. -/
def cl (a b : List Nat) : Nat := if a.length = 0 ∨ b.length = 0 then 0 else a.length + b.length - 1
/-- The product of two rows. -/
def cvs (a b : List Nat) : List Nat := ml (cl a b) (cv a b a.length)
theorem cvs_length (a b : List Nat) : (cvs a b).length = cl a b := ml_length _ _
theorem cl_zero {a b : List Nat} (h : a.length = 0 ∨ b.length = 0) : cl a b = 0 := if_pos h
theorem cl_pos {a b : List Nat} (h1 : 0 < a.length) (h2 : 0 < b.length) : cl a b = a.length + b.length - 1 := if_neg (by omega)
theorem ml_zero {α : Type} (f : Nat → α) : ml 0 f = [] := rfl
theorem map_ml {α β : Type} (L : Nat) (f : Nat → α) (g : α → β) : (ml L f).map g = ml L (fun n => g (f n)) := by simp [ml]
/-- What the two rows come to. -/
inductive T9 (W : World) (a b : List Nat) (e : Ending) (w : World) : Prop
  | bad (h : ¬ (All 4294967296 a ∧ All 4294967296 b)) (he : PrEr W [] 1 e w) : T9 W a b e w
  | ok (ha : All 4294967296 a) (hb : All 4294967296 b) (he : PrEr W ((cvs a b).map tw) 0 e w) : T9 W a b e w
theorem not_all {B : Nat} {l : List Nat} {i : Nat} (hi : i < l.length) (h : B ≤ l[i]) : ¬ All B l := fun ha => absurd (ha i hi) (by omega)
/-- One product more in a place. -/
theorem tw_step (a b : List Nat) (ha : All 4294967296 a) (hb : All 4294967296 b) (i k : Nat) (hi : i < 10000) (P p : Nat × Nat) (hP : P = tw (cvk a b i k (i + k))) (x : Nat) (hx : x = a.getD i 0 * b.getD k 0) :
    ∃ hi lo c s X : Nat, P.1 = hi ∧ P.2 = lo ∧ addS lo x 0 = s ∧ addC lo x 0 = c ∧ IntKind.u64.wrap ((hi : Int) + (c : Int)) = (X : Int) ∧ (X, s) = tw (cvk a b i (k + 1) (i + k)) ∧ x < 18446744073709551616 ∧ lo < 18446744073709551616 := by
  have h1 := getD_ltB ha (by decide) i
  have h2 := getD_ltB hb (by decide) k
  have hxl : x ≤ 4294967295 * 4294967295 := by rw [hx]; exact Nat.mul_le_mul (by omega) (by omega)
  have hxl' : x < 18446744073709551616 := Nat.lt_of_le_of_lt hxl (by decide)
  have e := tw_add (cvk a b i k (i + k)) x hxl'
  have hle := cvk_le ha hb i k (i + k)
  obtain ⟨z, hz⟩ : ∃ z, cvk a b i k (i + k) = z := ⟨_, rfl⟩
  rw [cvk_at, ← hx, e]
  rw [hz] at hP hle ⊢
  have hz2 : z < 340282366920938463463374607431768211455 := by omega
  have hlo : (tw z).2 < 18446744073709551616 := Nat.mod_lt _ (by decide)
  have hhi : (tw z).1 < 18446744073709551615 := by show z / 18446744073709551616 < _; omega
  refine ⟨(tw z).1, (tw z).2, ((tw z).2 + x) / 18446744073709551616, ((tw z).2 + x) % 18446744073709551616, (tw z).1 + ((tw z).2 + x) / 18446744073709551616, by rw [hP], by rw [hP], ?_, ?_, ?_, rfl, hxl', hlo⟩
  · unfold addS un; rfl
  · unfold addC un; rfl
  · rw [← Int.natCast_add]; exact IntWalk.u64_in _ (by omega)

theorem ml_cv0 (a b : List Nat) (L : Nat) : (ml L fun x => tw (cv a b 0 x)) = List.replicate L (0, 0) := by
  rw [← ml_const]
  exact ml_congr fun _ _ => by show tw 0 = (0, 0); decide
theorem Tryd.infoPair : (Tryd.prog.info? 24).map (fun i => (i.zero, i.size, i.bytes)) = some (some (.agg #[.int .u64 0, .int .u64 0]), 2, 16) := by kernel_rfl

set_option maxRecDepth 100000 in
set_option maxHeartbeats 4000000 in
theorem rtimes9_any (v1 v2 : Value) (a b : List Nat) (ha64 : All 18446744073709551616 a) (hb64 : All 18446744073709551616 b) (hal : a.length ≤ 10000) (hbl : b.length ≤ 10000) (w : World) (hr1 : Rw .u64 w v1 a) (hr2 : Rw .u64 w v2 b) :
    Calls Tryd.prog 20 #[v1, v2] w (T9 w a b) := by
  obtain ⟨i0, hi, hz0, hz1, hz2⟩ := info_parts Tryd.infoPair
  have R1 := Lib.hid hr1
  have R2 := Lib.hid hr2
  obtain ⟨A1, c1, rfl, _, _, _, hx1⟩ := hr1
  obtain ⟨A2, c2, rfl, _, _, _, hx2⟩ := hr2
  have H1 := Lib.hid hx1
  have H2 := Lib.hid hx2
  have G := Lib.hid (fun W h1 h2 => rlong_no (.slice A1 a.length c1) (.slice A2 b.length c2) a b hal hbl W h1 h2)
  obtain ⟨n, hn⟩ : ∃ n, a.length = n := ⟨_, rfl⟩
  obtain ⟨m, hm⟩ : ∃ m, b.length = m := ⟨_, rfl⟩
  rw [hn] at hal R1 G
  rw [hm] at hbl R2 G
  have HN := Lib.hid hn
  have HM := Lib.hid hm
  have HA := Lib.hid ha64
  have HB := Lib.hid hb64
  have hnb : (n : Int) ≤ 10000 := by omega
  have hmb : (m : Int) ≤ 10000 := by omega
  rw [hn, hm]
  clear hn hm hal hbl hx1 hx2 ha64 hb64
  go_enter Tryd.func20, Tryd.ntmps20
  go_wp2
  go_loopw [6] (fun s wr => ∃ i : Nat, i ≤ n ∧ s = .int .i64 (i : Int) ∧ Hid (∀ j, j < i → a.getD j 0 < 4294967296) ∧ Hid (Bl w wr)) (fun s _ => n - (intOf s).toNat)
  case atStart => exact ⟨0, Nat.zero_le _, rfl, (fun j hj => absurd hj (by omega)), Bl.refl w⟩
  case round =>
    obtain ⟨i, hin, rfl, hd, hb⟩ := hrel
    by_cases hlt : i < n
    · obtain ⟨ad, hA, hc⟩ := (H1.out.bl hb.out).at_ (i := i) (by rw [HN.out]; exact hlt)
      have hg := Lib.hid (getD_in (l := a) (i := i) (by rw [HN.out]; exact hlt))
      have hna := Lib.hid (fun h => not_all (B := 4294967296) (l := a) (i := i) (by rw [HN.out]; exact hlt) h)
      obtain ⟨d, ed⟩ : ∃ d, a[i]'(by rw [HN.out]; exact hlt) = d := ⟨_, rfl⟩
      rw [ed] at hc hg hna
      have b2 : (0 : Int) ≤ (i : Int) ∧ (i : Int) < (n : Int) := by omega
      subst hA
      clear ed
      by_cases hd2 : 4294967296 ≤ d
      · have t : decide ((4294967296 : Int) ≤ (d : Int)) = true := decide_eq_true (by omega)
        have hbad := Lib.hid (fun h : All 4294967296 a ∧ All 4294967296 b => hna.out hd2 h.1)
        clear hd2
        go_wp2
        go_ret2
        exact .bad hbad.out ⟨_, rfl, Pq.nil _, hb.out⟩
      · have t : decide ((4294967296 : Int) ≤ (d : Int)) = false := decide_eq_false (by omega)
        have hnext : Hid (∀ j, j < i + 1 → a.getD j 0 < 4294967296) := fun j hj => by
          rcases Nat.lt_or_ge j i with h | h
          · exact hd.out j h
          · have : j = i := by omega
            rw [this, hg.out]; omega
        clear hd2
        go_wp2
        go_roundw
        case rel => exact ⟨i + 1, by omega, by go_num, hnext, hb⟩
        case measure => simp [intOf] <;> omega
    · have hall : Hid (All 4294967296 a) := fun j hj => by rw [← getD_in hj]; exact hd.out j (by have := HN.out; omega)
      clear hd hin
      go_wp2
      go_loopw [7] (fun s wr => ∃ i : Nat, i ≤ m ∧ s = .int .i64 (i : Int) ∧ Hid (∀ j, j < i → b.getD j 0 < 4294967296) ∧ Hid (Bl w wr)) (fun s _ => m - (intOf s).toNat)
      case atStart => exact ⟨0, Nat.zero_le _, rfl, (fun j hj => absurd hj (by omega)), hb⟩
      case round =>
        clear hb
        obtain ⟨i, hin, rfl, hd, hb⟩ := hrel
        by_cases hlt2 : i < m
        · obtain ⟨ad, hA, hc⟩ := (H2.out.bl hb.out).at_ (i := i) (by rw [HM.out]; exact hlt2)
          have hg := Lib.hid (getD_in (l := b) (i := i) (by rw [HM.out]; exact hlt2))
          have hna := Lib.hid (fun h => not_all (B := 4294967296) (l := b) (i := i) (by rw [HM.out]; exact hlt2) h)
          obtain ⟨d, ed⟩ : ∃ d, b[i]'(by rw [HM.out]; exact hlt2) = d := ⟨_, rfl⟩
          rw [ed] at hc hg hna
          have b2 : (0 : Int) ≤ (i : Int) ∧ (i : Int) < (m : Int) := by omega
          subst hA
          clear ed
          by_cases hd2 : 4294967296 ≤ d
          · have t : decide ((4294967296 : Int) ≤ (d : Int)) = true := decide_eq_true (by omega)
            have hbad := Lib.hid (fun h : All 4294967296 a ∧ All 4294967296 b => hna.out hd2 h.2)
            clear hd2
            go_wp2
            go_ret2
            exact .bad hbad.out ⟨_, rfl, Pq.nil _, hb.out⟩
          · have t : decide ((4294967296 : Int) ≤ (d : Int)) = false := decide_eq_false (by omega)
            have hnext : Hid (∀ j, j < i + 1 → b.getD j 0 < 4294967296) := fun j hj => by
              rcases Nat.lt_or_ge j i with h | h
              · exact hd.out j h
              · have : j = i := by omega
                rw [this, hg.out]; omega
            clear hd2
            go_wp2
            go_roundw
            case rel => exact ⟨i + 1, by omega, by go_num, hnext, hb⟩
            case measure => simp [intOf] <;> omega
        · have hall2 : Hid (All 4294967296 b) := fun j hj => by rw [← getD_in hj]; exact hd.out j (by have := HM.out; omega)
          have q1 := Lib.hid (R1.out.bl hb.out)
          have q2 := Lib.hid (R2.out.bl hb.out)
          clear hd hin
          by_cases hz : n = 0 ∨ m = 0
          · have hres : Hid ((cvs a b).map tw = []) := by
              show (ml (cl a b) _).map tw = []
              rw [cl_zero (by rw [HN.out, HM.out]; exact hz)]; rfl
            have hz' : ((n : Int) == 0) = true ∨ (((n : Int) == 0) = false ∧ ((m : Int) == 0) = true) := by
              by_cases h : n = 0
              · exact .inl (by rw [h]; rfl)
              · exact .inr ⟨by rw [beq_eq_false_iff_ne]; omega, by rw [beq_iff_eq]; omega⟩
            clear hz
            rcases hz' with y1 | ⟨y1, y2⟩
            all_goals
              go_wp2_with (go_at_call 39; (with_reducible refine (G.out _ q1.out q2.out).mono ?_); rintro e w' ⟨rfl, hb'⟩; have HB' := Lib.hid (hb.out.trans hb'); clear hb')
              go_ret2
              exact .ok hall.out hall2.out ⟨_, rfl, by rw [hres.out]; exact Pq.nil _, HB'.out⟩
          · have y1 : ((n : Int) == 0) = false := by rw [beq_eq_false_iff_ne]; omega
            have y2 : ((m : Int) == 0) = false := by rw [beq_eq_false_iff_ne]; omega
            obtain ⟨L, hL⟩ : ∃ L, n + m - 1 = L := ⟨_, rfl⟩
            have rL : (n : Int) + (m : Int) - 1 = (L : Int) := by omega
            have hcl : Hid (cl a b = L) := by show cl a b = L; rw [cl_pos (by rw [HN.out]; omega) (by rw [HM.out]; omega), HN.out, HM.out]; exact hL
            have hLm : Hid (L < 20000 ∧ ∀ i k, i < n → k < m → i + k < L) := ⟨by omega, fun i k h1 h2 => by omega⟩
            have hLb : (L : Int) ≤ 20000 := by omega
            have hmk := fun W => run_mkp (P := Tryd.prog) 40 24 i0 Tryd.underlying40 hi hz0 hz1 (by omega) L (by omega) W
            clear hz hL
            go_wp2_with (go_at_call 39; (with_reducible refine (G.out _ q1.out q2.out).mono ?_); rintro e w' ⟨rfl, hb'⟩; have HB' := Lib.hid (hb.out.trans hb'); clear hb')
            clear hmk
            have a24 := Tryd.isAgg24
            have z24 := Tryd.sizeOf24
            go_loopw [10] (fun s wr => ∃ i : Nat, i ≤ n ∧ s = .int .i64 (i : Int) ∧ Hid (Bp 24 wr w'.heap.size (ml L fun x => tw (cv a b i x))) ∧ Hid (Bl w wr)) (fun s _ => n - (intOf s).toNat)
            case atStart => exact ⟨0, Nat.zero_le _, rfl, (by show Bp _ _ _ _; rw [ml_cv0]; exact Bp.made _ _ _), HB'.out.alloc _⟩
            case round =>
              have HBs := Lib.hid HB'.out.size
              clear HB'
              obtain ⟨i, hil, rfl, hbk, hb⟩ := hrel
              by_cases hlt3 : i < n
              · have hst0 : Hid (Bp 24 wr w'.heap.size (ml L fun x => tw (cvk a b i 0 x))) := by
                  have e : (ml L fun x => tw (cvk a b i 0 x)) = ml L fun x => tw (cv a b i x) := ml_congr fun x _ => by rw [cvk_zero]
                  show Bp _ _ _ _
                  rw [e]; exact hbk.out
                clear hbk
                go_wp2
                go_loopw [11] (fun s wr => ∃ k : Nat, k ≤ m ∧ s = .int .i64 (k : Int) ∧ Hid (Bp 24 wr w'.heap.size (ml L fun x => tw (cvk a b i k x))) ∧ Hid (Bl w wr)) (fun s _ => m - (intOf s).toNat)
                case atStart => exact ⟨0, Nat.zero_le _, rfl, hst0, hb⟩
                case round =>
                  clear hst0 hb
                  obtain ⟨k, hkm, rfl, hbk, hb⟩ := hrel
                  by_cases hlt4 : k < m
                  · obtain ⟨ad1, hA1, hc1⟩ := (H1.out.bl hb.out).at_ (i := i) (by rw [HN.out]; exact hlt3)
                    obtain ⟨ad2, hA2, hc2⟩ := (H2.out.bl hb.out).at_ (i := k) (by rw [HM.out]; exact hlt4)
                    have hj := hLm.out.2 i k hlt3 hlt4
                    have hg1 := getD_in (l := a) (i := i) (by rw [HN.out]; exact hlt3)
                    have hg2 := getD_in (l := b) (i := k) (by rw [HM.out]; exact hlt4)
                    obtain ⟨d1, e1⟩ : ∃ d, a[i]'(by rw [HN.out]; exact hlt3) = d := ⟨_, rfl⟩
                    obtain ⟨d2, e2⟩ : ∃ d, b[k]'(by rw [HM.out]; exact hlt4) = d := ⟨_, rfl⟩
                    rw [e1] at hc1 hg1
                    rw [e2] at hc2 hg2
                    have hd1 := getD_ltB hall.out (by decide) i
                    have hd2 := getD_ltB hall2.out (by decide) k
                    rw [hg1] at hd1
                    rw [hg2] at hd2
                    obtain ⟨x, hx⟩ : ∃ x, d1 * d2 = x := ⟨_, rfl⟩
                    have hq1 := hbk.out.cell1 (i + k) (by rw [ml_length]; exact hj)
                    have hq2 := hbk.out.cell2 (i + k) (by rw [ml_length]; exact hj)
                    have hf1 := hbk.out.free ((i + k) * 2)
                    have hf2 := hbk.out.free ((i + k) * 2 + 1)
                    obtain ⟨P, hP⟩ : ∃ P, (ml L fun x => tw (cvk a b i k x))[i + k]'(by rw [ml_length]; exact hj) = P := ⟨_, rfl⟩
                    rw [hP] at hq1 hq2
                    rw [ml_get] at hP
                    obtain ⟨hi', lo, c, s', X, r1, r2, r3, r4, r5, r6, hxl, hll⟩ := tw_step a b hall.out hall2.out i k (by omega) P P hP.symm x (by rw [hg1, hg2]; exact hx.symm)
                    rw [r1] at hq1
                    rw [r2] at hq2
                    have w1 : IntKind.u64.wrap ((d1 : Int) * (d2 : Int)) = (x : Int) := by rw [← Int.natCast_mul, hx]; exact IntWalk.u64_in _ (by omega)
                    obtain ⟨j, ej⟩ : ∃ j, i + k = j := ⟨_, rfl⟩
                    have w2 : (i : Int) + (k : Int) = (j : Int) := by omega
                    have w3 : IntKind.i64.wrap ((i : Int) + (k : Int)) = (j : Int) := by rw [w2]; exact IntWalk.i64_in _ (by omega)
                    rw [ej] at hq1 hq2 hf1 hf2 hj
                    have b1 : (0 : Int) ≤ (i : Int) ∧ (i : Int) < (n : Int) := by omega
                    have b2 : (0 : Int) ≤ (k : Int) ∧ (k : Int) < (m : Int) := by omega
                    have b3 : (0 : Int) ≤ (j : Int) ∧ (j : Int) < (L : Int) := by omega
                    have hset : Hid (∀ W, Bp 24 W w'.heap.size (ml L fun x => tw (cvk a b i k x)) → Bp 24 ((W.setCell ⟨w'.heap.size, j * 2, none⟩ (.int .u64 (X : Int))).setCell ⟨w'.heap.size, j * 2 + 1, none⟩ (.int .u64 (s' : Int))) w'.heap.size (ml L fun x => tw (cvk a b i (k + 1) x))) := by
                      intro W hW
                      have h := hW.set j X s' (by rw [ml_length]; exact hj)
                      rw [r6, ej, ml_set (f := fun x => tw (cvk a b i k x)) (g := fun x => tw (cvk a b i (k + 1) x)) (fun y hy => by show tw _ = tw _; rw [cvk_other a b i k y (by omega)])] at h
                      exact h
                    have KA := Lib.hid (fun W => radd_any lo x 0 hll hxl (by decide) W)
                    rw [r3, r4] at KA
                    subst hA1
                    subst hA2
                    clear hg1 hg2 e1 e2 hx hP r1 r2 r3 r4 r6 ej w2 hd1 hd2 hxl hll hj
                    go_wp2
                    go_quiet ((go_at_call 24; exact quiet_left (KA.out _)))
                    have hbk2 := Lib.hid (hset.out _ (hbk.out.drewN nq))
                    have hb2 := Lib.hid (((hb.out.drewN nq).setCell (p := ⟨w'.heap.size, j * 2, none⟩) HBs.out (.int .u64 (X : Int))).setCell (p := ⟨w'.heap.size, j * 2 + 1, none⟩) HBs.out (.int .u64 (s' : Int)))
                    clear hc1 hc2
                    go_wp2
                    go_roundw
                    case rel => exact ⟨k + 1, by omega, by go_num, hbk2, hb2⟩
                    case measure => simp [intOf] <;> omega
                  · have hkm' : k = m := by omega
                    have hbk2 : Hid (Bp 24 wr w'.heap.size (ml L fun x => tw (cv a b (i + 1) x))) := by
                      have e : (ml L fun x => tw (cv a b (i + 1) x)) = ml L fun x => tw (cvk a b i k x) := ml_congr fun x _ => by rw [hkm', ← HM.out, cvk_end]
                      show Bp _ _ _ _
                      rw [e]; exact hbk.out
                    clear hbk hkm'
                    go_wp2
                    go_roundw
                    case rel => exact ⟨i + 1, by omega, by go_num, hbk2, hb⟩
                    case measure => simp [intOf] <;> omega
              · have hin' : i = n := by omega
                have hpr : Hid (Pq wr (.slice (some ⟨w'.heap.size, 0, none⟩) L L) ((cvs a b).map tw)) := by
                  have e : (cvs a b).map tw = ml L fun x => tw (cv a b i x) := by
                    show (ml (cl a b) _).map tw = _
                    rw [map_ml, hcl.out, HN.out, hin']
                  show Pq _ _ _
                  rw [e]
                  exact hbk.out.pr (ml_length _ _).symm (by have := hLm.out.1; unfold maxLen; omega)
                clear hbk hin'
                go_wp2
                go_ret2
                exact .ok hall.out hall2.out ⟨_, rfl, hpr.out, hb.out⟩
end Go.Proofs.YtiainhbkoehhjaaDoor
