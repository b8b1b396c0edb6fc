/-
  The walk of the statement TrioLaws.
-/
import Derived.Test.YtiainhbkoehhjaaDoorPk41
import Derived.Test.YtiainhbkoehhjaaDoorPk42
namespace Go.Proofs.YtiainhbkoehhjaaDoor
open Go.RowKit
set_option linter.unusedVariables false
set_option linter.unusedSimpArgs false

/-- What Times comes to, both ways round. -/
theorem times_swap (a b : List Nat) (hal : a.length ≤ 10000) (hbl : b.length ≤ 10000) : ∃ (Z : List (Nat × Nat)) (G : Int), Z.length ≤ 20000 ∧ (G = 0 ∨ G = 1 ∧ ¬ (All 4294967296 a ∧ All 4294967296 b)) ∧ (All 4294967296 a ∨ G = 1) ∧
    (∀ W v1 v2, PrW W → Rw .u64 W v1 a → Rw .u64 W v2 b → Calls Tryd.prog 19 #[v1, v2] W (PrEr W Z G)) ∧
    (∀ W v1 v2, PrW W → Rw .u64 W v1 b → Rw .u64 W v2 a → Calls Tryd.prog 19 #[v1, v2] W (PrEr W Z G)) := by
  obtain ⟨Z, G, hc, hT⟩ := times_is a b hal hbl
  obtain ⟨Z', G', hc', hT'⟩ := times_is b a hbl hal
  rcases hc with ⟨rfl, p, q, rfl⟩ | ⟨rfl, hn, rfl⟩
  · rcases hc' with ⟨rfl, _, _, rfl⟩ | ⟨rfl, hn, rfl⟩
    · rw [cvs_swap b a] at hT'
      exact ⟨_, _, by rw [List.length_map, cvs_length]; unfold cl; split <;> omega, .inl rfl, .inl p, hT, hT'⟩
    · exact absurd ⟨q, p⟩ hn
  · rcases hc' with ⟨rfl, q, p, rfl⟩ | ⟨rfl, _, rfl⟩
    · exact absurd ⟨p, q⟩ hn
    · exact ⟨_, _, by simp, .inr ⟨rfl, hn⟩, .inr rfl, hT, hT'⟩
theorem times_one (a : List Nat) (n : Nat) (hn : a.length = n) (hal : a.length ≤ 10000) (ha : All 4294967296 a) (W : World) (v1 v2 : Value) (hw : PrW W) (h1 : Rw .u64 W v1 a) (h2 : Rw .u64 W v2 [1]) :
    Calls Tryd.prog 19 #[v1, v2] W fun e w => ∃ A c, e = .returned (.tuple #[.slice A n c, .int .i64 0]) ∧ Hid (Ps w A (a.map tw)) ∧ Bl W w := by
  refine (times_any v1 v2 a [1] hal (by simp) W hw h1 h2).mono fun e w h => ?_
  rcases h with ⟨hn, _⟩ | ⟨_, _, he⟩
  · exact absurd ⟨ha, one_small⟩ hn
  · rw [cvs_one] at he
    obtain ⟨v, rfl, ⟨A, c, rfl, _, _, _, hp⟩, hb⟩ := he
    exact ⟨A, c, by rw [List.length_map, hn], hp, hb⟩
theorem times_one_bad (a : List Nat) (hal : a.length ≤ 10000) (ha : ¬ All 4294967296 a) (W : World) (v1 v2 : Value) (hw : PrW W) (h1 : Rw .u64 W v1 a) (h2 : Rw .u64 W v2 [1]) :
    Calls Tryd.prog 19 #[v1, v2] W fun e w => ∃ v, e = .returned (.tuple #[v, .int .i64 1]) ∧ Bl W w := by
  refine (times_any v1 v2 a [1] hal (by simp) W hw h1 h2).mono fun e w h => ?_
  rcases h with ⟨_, he⟩ | ⟨h, _, _⟩
  · obtain ⟨v, rfl, _, hb⟩ := he
    exact ⟨v, rfl, hb⟩
  · exact absurd h ha
theorem tw_small (x : Nat) (h : x < 4294967296) : tw x = (0, x) := by
  unfold tw
  rw [show x / 18446744073709551616 = 0 by omega, show x % 18446744073709551616 = x by omega]

set_option maxRecDepth 100000 in
set_option maxHeartbeats 4000000 in
theorem trioLaws_walk (v0 : Value) (l0 : List Nat) (v1 : Value) (l1 : List Nat) (b0 : All 18446744073709551616 l0) (b1 : All 18446744073709551616 l1) (W : World) (r0 : Rw .u64 W v0 l0) (r1 : Rw .u64 W v1 l1) (hw : PrW W) :
    Calls Tryd.prog 7 #[v0, v1] W fun e w' => e = .returned (.bool true) ∧ Bl W w' := by
  have SH := Lib.hid (fun w hw => shown9 w hw)
  have HW := Lib.hid hw
  have R0 := Lib.hid r0
  have R1 := Lib.hid r1
  obtain ⟨A1, c1, rfl, hk1, hm1, _, hx1⟩ := r0
  obtain ⟨A2, c2, rfl, hk2, hm2, _, _⟩ := r1
  by_cases hf : l0.length ≤ 300 ∧ l1.length ≤ 300
  · obtain ⟨Z, G, hZ, hG, hA, T1, T2⟩ := times_swap l0 l1 (by omega) (by omega)
    have HT1 := Lib.hid T1
    have HT2 := Lib.hid T2
    have HPS := Lib.hid (fun w v1 v2 h1 h2 => pairs_same v1 v2 Z hZ w h1 h2)
    have L1 := Lib.hid (fun (w : World) => lit_row1 (w := w) (e := 22) rfl 1 1 rfl)
    obtain ⟨x, hx⟩ : ∃ x, l0.length = x := ⟨_, rfl⟩
    obtain ⟨y, hy⟩ : ∃ x, l1.length = x := ⟨_, rfl⟩
    have e1 : (G != G) = false := by rw [bne_eq_false_iff_eq]
    by_cases ha : All 4294967296 l0
    · have HT3 := Lib.hid (fun W v1 v2 hw h1 h2 => times_one l0 x hx (by omega) ha W v1 v2 hw h1 h2)
      have HS := Lib.hid hx1
      have HL := Lib.hid hx
      have HA := Lib.hid ha
      rw [hx] at R0 hf
      rw [hy] at R1 hf
      rw [hx, hy]
      have d1 : decide ((300 : Int) < (x : Int)) = false := decide_eq_false (by omega)
      have d2 : decide ((300 : Int) < (y : Int)) = false := decide_eq_false (by omega)
      have d3 : decide (300 < x) = false := decide_eq_false (by omega)
      have d4 : decide (300 < y) = false := decide_eq_false (by omega)
      have hnb : (x : Int) ≤ 300 := by omega
      clear hk1 hm1 hk2 hm2 hx hy hf T1 T2 hZ b0 b1 hw ha hG hA hx1
      go_enter Tryd.func7, Tryd.ntmps7
      go_wp2_with (first
        | (go_at_call 10; (with_reducible refine (SH.out _ HW.out).mono ?_); rintro e w1 ⟨rfl, hb'⟩; have G1 := Lib.hid hb'; clear hb')
        | (go_at_call 19; (with_reducible refine (HT1.out _ _ _ (HW.out.bl G1.out) (R0.out.bl G1.out) (R1.out.bl G1.out)).mono ?_); rintro e w2 ⟨x1, rfl, hr, hb'⟩; have X1 := Lib.hid hr; have G2 := Lib.hid (G1.out.trans hb'); clear hr hb')
        | (go_at_call 19; (with_reducible refine (HT2.out _ _ _ (HW.out.bl G2.out) (R1.out.bl G2.out) (R0.out.bl G2.out)).mono ?_); rintro e w3 ⟨x2, rfl, hr, hb'⟩; have X2 := Lib.hid hr; have X1' := Lib.hid (X1.out.bl hb'); have G3 := Lib.hid (G2.out.trans hb'); clear hr hb')
        | (go_at_call 19; (with_reducible refine (HT3.out _ _ _ (HW.out.bl (G3.out.alloc _)) (R0.out.bl (G3.out.alloc _)) (L1.out _)).mono ?_); rintro e w4 ⟨A3, c3, rfl, X3, hb'⟩; have B4 := Lib.hid (((Bl.refl w3).alloc _).trans hb'); have G4 := Lib.hid (G3.out.trans B4.out); clear hb')
        | (go_at_call 22; (with_reducible refine (HPS.out _ _ _ (X1'.out.bl B4.out) (X2.out.bl B4.out)).mono ?_); rintro e w5 ⟨rfl, hb'⟩; have B5 := Lib.hid hb'; have G5 := Lib.hid (G4.out.trans hb'); clear hb'))
      go_loopw [12] (fun s wr => ∃ i : Nat, i ≤ x ∧ s = .int .i64 (i : Int) ∧ Hid (Bl w5 wr)) (fun s _ => x - (intOf s).toNat)
      case atStart => exact ⟨0, Nat.zero_le _, rfl, Bl.refl w5⟩
      case round =>
        obtain ⟨i, hin, rfl, hb⟩ := hrel
        by_cases hlt : i < x
        · have hil : i < l0.length := by rw [HL.out]; exact hlt
          obtain ⟨ad, hA1, hc1⟩ := (HS.out.bl (G5.out.trans hb.out)).at_ (i := i) hil
          obtain ⟨ae, hA3, hc2, hd2⟩ := (X3.out.bl (B5.out.trans hb.out)).at_ (i := i) (by rw [List.length_map]; exact hil)
          rw [List.getElem_map, tw_small _ (HA.out i hil)] at hc2 hd2
          obtain ⟨d, hd⟩ : ∃ d, l0[i] = d := ⟨_, rfl⟩
          rw [hd] at hc1 hd2
          rw [show (((0 : Nat), d).1 : Int) = 0 from rfl] at hc2
          rw [show ((((0 : Nat), d).2 : Nat) : Int) = (d : Int) from rfl] at hd2
          have b2 : (0 : Int) ≤ (i : Int) ∧ (i : Int) < (x : Int) := by omega
          have t1 : ((d : Int) != (d : Int)) = false := by rw [bne_eq_false_iff_eq]
          subst hA1
          subst hA3
          clear hd hil
          go_wp2
          go_quiet (fail)
          go_wp2
          go_roundw
          case rel => exact ⟨i + 1, by omega, by go_num, hb.out.drewN _⟩
          case measure => simp [intOf] <;> omega
        · have hin' : i = x := by omega
          clear hin'
          go_wp2
          go_ret
          exact ⟨rfl, G5.out.trans hb.out⟩
    · have hG1 : G = 1 := hA.resolve_left ha
      have HT3 := Lib.hid (fun W v1 v2 hw h1 h2 => times_one_bad l0 (by omega) ha W v1 v2 hw h1 h2)
      subst hG1
      rw [hx] at R0 hf
      rw [hy] at R1 hf
      rw [hx, hy]
      have d1 : decide ((300 : Int) < (x : Int)) = false := decide_eq_false (by omega)
      have d2 : decide ((300 : Int) < (y : Int)) = false := decide_eq_false (by omega)
      have d3 : decide (300 < x) = false := decide_eq_false (by omega)
      have d4 : decide (300 < y) = false := decide_eq_false (by omega)
      clear hk1 hm1 hk2 hm2 hx hy hf T1 T2 hZ b0 b1 hw ha hG hA hx1 e1
      go_enter Tryd.func7, Tryd.ntmps7
      go_wp2_with (first
        | (go_at_call 10; (with_reducible refine (SH.out _ HW.out).mono ?_); rintro e w1 ⟨rfl, hb'⟩; have G1 := Lib.hid hb'; clear hb')
        | (go_at_call 19; (with_reducible refine (HT1.out _ _ _ (HW.out.bl G1.out) (R0.out.bl G1.out) (R1.out.bl G1.out)).mono ?_); rintro e w2 ⟨x1, rfl, hr, hb'⟩; have X1 := Lib.hid hr; have G2 := Lib.hid (G1.out.trans hb'); clear hr hb')
        | (go_at_call 19; (with_reducible refine (HT2.out _ _ _ (HW.out.bl G2.out) (R1.out.bl G2.out) (R0.out.bl G2.out)).mono ?_); rintro e w3 ⟨x2, rfl, hr, hb'⟩; have X2 := Lib.hid hr; have X1' := Lib.hid (X1.out.bl hb'); have G3 := Lib.hid (G2.out.trans hb'); clear hr hb')
        | (go_at_call 19; (with_reducible refine (HT3.out _ _ _ (HW.out.bl (G3.out.alloc _)) (R0.out.bl (G3.out.alloc _)) (L1.out _)).mono ?_); rintro e w4 ⟨v3, rfl, hb'⟩; have B4 := Lib.hid (((Bl.refl w3).alloc _).trans hb'); have G4 := Lib.hid (G3.out.trans B4.out); clear hb')
        | (go_at_call 22; (with_reducible refine (HPS.out _ _ _ (X1'.out.bl B4.out) (X2.out.bl B4.out)).mono ?_); rintro e w5 ⟨rfl, hb'⟩; have B5 := Lib.hid hb'; have G5 := Lib.hid (G4.out.trans hb'); clear hb'))
      go_ret
      exact ⟨rfl, G5.out⟩
  · obtain ⟨x, hx⟩ : ∃ x, l0.length = x := ⟨_, rfl⟩
    obtain ⟨y, hy⟩ : ∃ x, l1.length = x := ⟨_, rfl⟩
    rw [hx, hy] at hf
    rw [hx, hy]
    by_cases h1 : 300 < x
    · have d1 : decide ((300 : Int) < (x : Int)) = true := decide_eq_true (by omega)
      have d3 : decide (300 < x) = true := decide_eq_true (by omega)
      clear hk1 hm1 hk2 hm2 hx hy hf b0 b1 hw R0 R1 h1 hx1
      go_enter Tryd.func7, Tryd.ntmps7
      go_wp2_with (go_at_call 10; (with_reducible refine (SH.out _ HW.out).mono ?_); rintro e w1 ⟨rfl, hb'⟩; have G1 := Lib.hid hb'; clear hb')
      go_ret
      exact ⟨rfl, G1.out⟩
    · have d1 : decide ((300 : Int) < (x : Int)) = false := decide_eq_false (by omega)
      have d3 : decide (300 < x) = false := decide_eq_false (by omega)
      have d2 : decide ((300 : Int) < (y : Int)) = true := decide_eq_true (by omega)
      have d4 : decide (300 < y) = true := decide_eq_true (by omega)
      clear hk1 hm1 hk2 hm2 hx hy hf b0 b1 hw R0 R1 h1 hx1
      go_enter Tryd.func7, Tryd.ntmps7
      go_wp2_with (go_at_call 10; (with_reducible refine (SH.out _ HW.out).mono ?_); rintro e w1 ⟨rfl, hb'⟩; have G1 := Lib.hid hb'; clear hb')
      go_ret
      exact ⟨rfl, G1.out⟩
end Go.Proofs.YtiainhbkoehhjaaDoor
