/-
  The walk of the statement TrioAgrees.
-/
import Derived.Test.YtiainhbkoehhjaaDoorPk41
import Derived.Test.YtiainhbkoehhjaaDoorPk42
namespace Go.Proofs.YtiainhbkoehhjaaDoor
open Go.RowKit
set_option linter.unusedVariables false
set_option linter.unusedSimpArgs false

theorem times_agree (a b : List Nat) (L : Nat) (hL : cl a b = L) (hal : a.length ≤ 10000) (hbl : b.length ≤ 10000) (ha : All 4294967296 a) (hb : All 4294967296 b) (W : World) (v1 v2 : Value) (hw : PrW W) (h1 : Rw .u64 W v1 a) (h2 : Rw .u64 W v2 b) :
    Calls Tryd.prog 19 #[v1, v2] W fun e w => ∃ A c, e = .returned (.tuple #[.slice A L c, .int .i64 0]) ∧ Hid (Ps w A ((cvs a b).map tw)) ∧ Bl W w := by
  refine (times_any v1 v2 a b hal hbl W hw h1 h2).mono fun e w h => ?_
  rcases h with ⟨hn, _⟩ | ⟨_, _, he⟩
  · exact absurd ⟨ha, hb⟩ hn
  · obtain ⟨v, rfl, ⟨A, c, rfl, _, _, _, hp⟩, hb⟩ := he
    exact ⟨A, c, by rw [List.length_map, cvs_length, hL], hp, hb⟩
theorem times_bad9 (a b : List Nat) (hal : a.length ≤ 10000) (hbl : b.length ≤ 10000) (h : ¬ (All 4294967296 a ∧ All 4294967296 b)) (W : World) (v1 v2 : Value) (hw : PrW W) (h1 : Rw .u64 W v1 a) (h2 : Rw .u64 W v2 b) :
    Calls Tryd.prog 19 #[v1, v2] W fun e w => ∃ A c, e = .returned (.tuple #[.slice A 0 c, .int .i64 1]) ∧ Bl W w := by
  refine (times_any v1 v2 a b hal hbl W hw h1 h2).mono fun e w h' => ?_
  rcases h' with ⟨_, he⟩ | ⟨p, q, _⟩
  · obtain ⟨v, rfl, ⟨A, c, rfl, _, _, _, _⟩, hb⟩ := he
    exact ⟨A, c, rfl, hb⟩
  · exact absurd ⟨p, q⟩ h
theorem mod_agree (a b : List Nat) (L : Nat) (hL : cl a b = L) (m : Nat) (M : Int) (hM : (m : Int) = M) (hP : P3 m) (hal : a.length ≤ 10000) (hbl : b.length ≤ 10000) (ha : All 18446744073709551616 a) (hb : All 18446744073709551616 b) (W : World) (v1 v2 : Value) (hw : PrW W) (h1 : Rw .u64 W v1 a) (h2 : Rw .u64 W v2 b) :
    Calls Tryd.prog 17 #[v1, v2, .int .u32 M] W fun e w => ∃ A c, e = .returned (.tuple #[.slice A L c, .int .i64 0]) ∧ Hid (Src .u32 w A ((cvs a b).map (· % m))) ∧ Bl W w := by
  subst hM
  refine (mod_any v1 v2 a b m ha hb hal hbl W hw h1 h2).mono fun e w h => ?_
  rcases h with ⟨hn, _⟩ | ⟨_, he⟩
  · exact absurd hP hn
  · obtain ⟨v, rfl, ⟨A, c, rfl, _, _, _, hp⟩, hb⟩ := he
    exact ⟨A, c, by rw [List.length_map, cvs_length, hL], hp, hb⟩
theorem keepA {w0 W w : World} {p q r s : Addr} {u v x y z : Value} (h : W.cell? p = some u ∧ W.cell? ⟨p.block, p.off + 1, none⟩ = some v ∧ W.cell? q = some x ∧ W.cell? r = some y ∧ W.cell? s = some z ∧ p.block < W.heap.size ∧ q.block < W.heap.size ∧ r.block < W.heap.size ∧ s.block < W.heap.size ∧ Bl w0 W) (g : Bl W w) :
    w.cell? p = some u ∧ w.cell? ⟨p.block, p.off + 1, none⟩ = some v ∧ w.cell? q = some x ∧ w.cell? r = some y ∧ w.cell? s = some z ∧ p.block < w.heap.size ∧ q.block < w.heap.size ∧ r.block < w.heap.size ∧ s.block < w.heap.size ∧ Bl w0 w := by
  obtain ⟨h0, h1, h2, h3, h4, b1, b2, b3, b4, hg⟩ := h
  have hs := g.size
  exact ⟨(g.cell b1).trans h0, (g.cell (p := ⟨p.block, p.off + 1, none⟩) b1).trans h1, (g.cell b2).trans h2, (g.cell b3).trans h3, (g.cell b4).trans h4, by omega, by omega, by omega, by omega, hg.trans g⟩

set_option maxRecDepth 100000 in
set_option maxHeartbeats 4000000 in
theorem trioAgrees_walk (v0 : Value) (l0 : List Nat) (v1 : Value) (l1 : List Nat) (a2 : Int) (b0 : All 18446744073709551616 l0) (b1 : All 18446744073709551616 l1) (b2 : (-9223372036854775808 : Int) ≤ a2 ∧ a2 ≤ 9223372036854775807) (W : World) (r0 : Rw .u64 W v0 l0) (r1 : Rw .u64 W v1 l1) (hw : PrW W) :
    Calls Tryd.prog 6 #[v0, v1, .int .i64 a2] W fun e w' => e = .returned (.bool true) ∧ Bl W w' := by
  have SH := Lib.hid (fun w hw => shown9 w hw)
  have HW := Lib.hid hw
  have R0 := Lib.hid r0
  have R1 := Lib.hid r1
  obtain ⟨A1, c1, rfl, hk1, hm1, _, _⟩ := r0
  obtain ⟨A2, c2, rfl, hk2, hm2, _, _⟩ := r1
  by_cases hf : l0.length ≤ 600 ∧ l1.length ≤ 600
  · obtain ⟨x, hx⟩ : ∃ x, l0.length = x := ⟨_, rfl⟩
    obtain ⟨y, hy⟩ : ∃ x, l1.length = x := ⟨_, rfl⟩
    obtain ⟨L, hL⟩ : ∃ L, cl l0 l1 = L := ⟨_, rfl⟩
    have hLb : L ≤ 1200 := by rw [← hL]; unfold cl; split <;> omega
    have d1 : decide ((600 : Int) < (x : Int)) = false := decide_eq_false (by omega)
    have d2 : decide ((600 : Int) < (y : Int)) = false := decide_eq_false (by omega)
    have d3 : decide (600 < x) = false := decide_eq_false (by omega)
    have d4 : decide (600 < y) = false := decide_eq_false (by omega)
    by_cases hA : All 4294967296 l0 ∧ All 4294967296 l1
    · have HT1 := Lib.hid (fun W v1 v2 hw h1 h2 => times_agree l0 l1 L hL (by omega) (by omega) hA.1 hA.2 W v1 v2 hw h1 h2)
      have HM1 := Lib.hid (fun W v1 v2 hw h1 h2 => mod_agree l0 l1 L hL 998244353 998244353 rfl (.inl rfl) (by omega) (by omega) b0 b1 W v1 v2 hw h1 h2)
      have HM2 := Lib.hid (fun W v1 v2 hw h1 h2 => mod_agree l0 l1 L hL 167772161 167772161 rfl (.inr (.inl rfl)) (by omega) (by omega) b0 b1 W v1 v2 hw h1 h2)
      have HM3 := Lib.hid (fun W v1 v2 hw h1 h2 => mod_agree l0 l1 L hL 469762049 469762049 rfl (.inr (.inr rfl)) (by omega) (by omega) b0 b1 W v1 v2 hw h1 h2)
      have HC := Lib.hid (show ∀ n, cv l0 l1 l0.length n < bd from fun n => cv_bd hA.1 hA.2 (by omega) n)
      have HLN := Lib.hid (show (cvs l0 l1).length = L by rw [cvs_length, hL])
      rw [hx] at R0 HC hf
      rw [hy] at R1 hf
      rw [hx, hy]
      have HX := Lib.hid hx
      have hnb : (L : Int) ≤ 1200 := by omega
      clear hk1 hm1 hk2 hm2 hx hy hf b0 b1 hw hA hL
      by_cases h1 : a2 < 0
      · have g1 : decide (a2 < 0) = true := decide_eq_true h1
        clear h1 b2 hLb
        go_enter Tryd.func6, Tryd.ntmps6
        go_wp2_with (first
          | (go_at_call 10; (with_reducible refine (SH.out _ HW.out).mono ?_); rintro e w1 ⟨rfl, hb'⟩; have G1 := Lib.hid hb'; clear hb')
          | (go_at_call 19; (with_reducible refine (HT1.out _ _ _ (HW.out.bl G1.out) (R0.out.bl G1.out) (R1.out.bl G1.out)).mono ?_); rintro e w2 ⟨A3, c3, rfl, X2, hb'⟩; have G2 := Lib.hid (G1.out.trans hb'); clear hb')
          | (go_at_call 17; (with_reducible refine (HM1.out _ _ _ (HW.out.bl G2.out) (R0.out.bl G2.out) (R1.out.bl G2.out)).mono ?_); rintro e w3 ⟨A4, c4, rfl, X3, hb'⟩; have B3 := Lib.hid hb'; have G3 := Lib.hid (G2.out.trans hb'); clear hb')
          | (go_at_call 17; (with_reducible refine (HM2.out _ _ _ (HW.out.bl G3.out) (R0.out.bl G3.out) (R1.out.bl G3.out)).mono ?_); rintro e w4 ⟨A5, c5, rfl, X4, hb'⟩; have B4 := Lib.hid hb'; have G4 := Lib.hid (G3.out.trans hb'); clear hb')
          | (go_at_call 17; (with_reducible refine (HM3.out _ _ _ (HW.out.bl G4.out) (R0.out.bl G4.out) (R1.out.bl G4.out)).mono ?_); rintro e w5 ⟨A6, c6, rfl, X5, hb'⟩; have B5 := Lib.hid hb'; have G5 := Lib.hid (G4.out.trans hb'); clear hb'))
        go_ret
        exact ⟨rfl, G5.out⟩
      · have g1 : decide (a2 < 0) = false := decide_eq_false h1
        obtain ⟨i, rfl⟩ : ∃ i : Nat, a2 = (i : Int) := ⟨a2.toNat, by omega⟩
        by_cases h2 : L ≤ i
        · have g2 : decide ((L : Int) ≤ (i : Int)) = true := decide_eq_true (by omega)
          have g3 : decide (L ≤ i) = true := decide_eq_true h2
          clear h1 b2 h2 hLb
          go_enter Tryd.func6, Tryd.ntmps6
          go_wp2_with (first
            | (go_at_call 10; (with_reducible refine (SH.out _ HW.out).mono ?_); rintro e w1 ⟨rfl, hb'⟩; have G1 := Lib.hid hb'; clear hb')
            | (go_at_call 19; (with_reducible refine (HT1.out _ _ _ (HW.out.bl G1.out) (R0.out.bl G1.out) (R1.out.bl G1.out)).mono ?_); rintro e w2 ⟨A3, c3, rfl, X2, hb'⟩; have G2 := Lib.hid (G1.out.trans hb'); clear hb')
            | (go_at_call 17; (with_reducible refine (HM1.out _ _ _ (HW.out.bl G2.out) (R0.out.bl G2.out) (R1.out.bl G2.out)).mono ?_); rintro e w3 ⟨A4, c4, rfl, X3, hb'⟩; have B3 := Lib.hid hb'; have G3 := Lib.hid (G2.out.trans hb'); clear hb')
            | (go_at_call 17; (with_reducible refine (HM2.out _ _ _ (HW.out.bl G3.out) (R0.out.bl G3.out) (R1.out.bl G3.out)).mono ?_); rintro e w4 ⟨A5, c5, rfl, X4, hb'⟩; have B4 := Lib.hid hb'; have G4 := Lib.hid (G3.out.trans hb'); clear hb')
            | (go_at_call 17; (with_reducible refine (HM3.out _ _ _ (HW.out.bl G4.out) (R0.out.bl G4.out) (R1.out.bl G4.out)).mono ?_); rintro e w5 ⟨A6, c6, rfl, X5, hb'⟩; have B5 := Lib.hid hb'; have G5 := Lib.hid (G4.out.trans hb'); clear hb'))
          go_ret
          exact ⟨rfl, G5.out⟩
        · have g2 : decide ((L : Int) ≤ (i : Int)) = false := decide_eq_false (by omega)
          have g3 : decide (L ≤ i) = false := decide_eq_false h2
          have gb : (0 : Int) ≤ (i : Int) ∧ (i : Int) < (L : Int) := by omega
          have hil : Hid (i < (cvs l0 l1).length) := by rw [HLN.out]; exact Nat.lt_of_not_le h2
          clear h1 b2 h2 hLb
          go_enter Tryd.func6, Tryd.ntmps6
          go_wp2_with (first
            | (go_at_call 10; (with_reducible refine (SH.out _ HW.out).mono ?_); rintro e w1 ⟨rfl, hb'⟩; have G1 := Lib.hid hb'; clear hb')
            | (go_at_call 19; (with_reducible refine (HT1.out _ _ _ (HW.out.bl G1.out) (R0.out.bl G1.out) (R1.out.bl G1.out)).mono ?_); rintro e w2 ⟨A3, c3, rfl, X2, hb'⟩; have G2 := Lib.hid (G1.out.trans hb'); clear hb')
            | (go_at_call 17; (with_reducible refine (HM1.out _ _ _ (HW.out.bl G2.out) (R0.out.bl G2.out) (R1.out.bl G2.out)).mono ?_); rintro e w3 ⟨A4, c4, rfl, X3, hb'⟩; have B3 := Lib.hid hb'; have G3 := Lib.hid (G2.out.trans hb'); clear hb')
            | (go_at_call 17; (with_reducible refine (HM2.out _ _ _ (HW.out.bl G3.out) (R0.out.bl G3.out) (R1.out.bl G3.out)).mono ?_); rintro e w4 ⟨A5, c5, rfl, X4, hb'⟩; have B4 := Lib.hid hb'; have G4 := Lib.hid (G3.out.trans hb'); clear hb')
            | (go_at_call 17; (with_reducible refine (HM3.out _ _ _ (HW.out.bl G4.out) (R0.out.bl G4.out) (R1.out.bl G4.out)).mono ?_); rintro e w5 ⟨A6, c6, rfl, X5, hb'⟩; have B5 := Lib.hid hb'; have G5 := Lib.hid (G4.out.trans hb'); clear hb'))
          obtain ⟨ad, hA3, hc1, hc2⟩ := (X2.out.bl (B3.out.trans (B4.out.trans B5.out))).at_ (i := i) (by rw [List.length_map]; exact hil.out)
          obtain ⟨a4, hA4, hc3⟩ := (X3.out.bl (B4.out.trans B5.out)).at_ (i := i) (by rw [List.length_map]; exact hil.out)
          obtain ⟨a5, hA5, hc4⟩ := (X4.out.bl B5.out).at_ (i := i) (by rw [List.length_map]; exact hil.out)
          obtain ⟨a6, hA6, hc5⟩ := X5.out.at_ (i := i) (by rw [List.length_map]; exact hil.out)
          rw [List.getElem_map] at hc1 hc2 hc3 hc4 hc5
          rw [cvs_get, HX.out] at hc1 hc2 hc3 hc4 hc5
          obtain ⟨X, hX⟩ : ∃ X, cv l0 l1 x i = X := ⟨_, rfl⟩
          have hXb : X < bd := by rw [← hX]; exact HC.out i
          rw [hX] at hc1 hc2 hc3 hc4 hc5
          obtain ⟨h, hh⟩ : ∃ h, (tw X).1 = h := ⟨_, rfl⟩
          obtain ⟨l, hl⟩ : ∃ h, (tw X).2 = h := ⟨_, rfl⟩
          have hlb : l < 18446744073709551616 := by rw [← hl]; exact Nat.mod_lt _ (by decide)
          have hn : num h l = X := by rw [← hh, ← hl]; exact num_tw X
          rw [hh] at hc1
          rw [hl] at hc2
          have S1 := Lib.hid (fun w hw => split_any h l hlb w hw)
          rw [hn] at S1
          obtain ⟨xa, hxa⟩ : ∃ h, X % 998244353 = h := ⟨_, rfl⟩
          obtain ⟨xb, hxb⟩ : ∃ h, X % 167772161 = h := ⟨_, rfl⟩
          obtain ⟨xc, hxc⟩ : ∃ h, X % 469762049 = h := ⟨_, rfl⟩
          rw [hxa, hxb, hxc] at S1
          rw [hxa] at hc3
          rw [hxb] at hc4
          rw [hxc] at hc5
          unfold three at S1
          have B1 := Lib.hid (fun w => bound_any w)
          have L1 := Lib.hid (fun w => below9 h l bdH bdL w)
          rw [show pbl h l bdH bdL = true by rw [pbl_num _ _ _ _ hlb (by decide), hn, bd_num]; exact decide_eq_true hXb] at L1
          obtain ⟨bh, hbh⟩ : ∃ x, bdH = x := ⟨_, rfl⟩
          obtain ⟨bl, hbl⟩ : ∃ x, bdL = x := ⟨_, rfl⟩
          rw [hbh, hbl] at B1 L1
          unfold pairv at B1
          have a24 := Tryd.isAgg24
          have z24 := Tryd.sizeOf24
          have a27 := Tryd.isAgg27
          have z27 := Tryd.sizeOf27
          subst hA3 hA4 hA5 hA6
          have HQ := Lib.hid (show (fun w' => w'.cell? (ad.add (i * 2)) = some (.int .u64 (h : Int)) ∧ w'.cell? ⟨(ad.add (i * 2)).block, (ad.add (i * 2)).off + 1, none⟩ = some (.int .u64 (l : Int)) ∧ w'.cell? (a4.add i) = some (.int .u32 (xa : Int)) ∧ w'.cell? (a5.add i) = some (.int .u32 (xb : Int)) ∧ w'.cell? (a6.add i) = some (.int .u32 (xc : Int)) ∧ (ad.add (i * 2)).block < w'.heap.size ∧ (a4.add i).block < w'.heap.size ∧ (a5.add i).block < w'.heap.size ∧ (a6.add i).block < w'.heap.size ∧ Bl w5 w') w5 from ⟨hc1, hc2, hc3, hc4, hc5, World.block_lt_of_cell? _ _ hc1, World.block_lt_of_cell? _ _ hc3, World.block_lt_of_cell? _ _ hc4, World.block_lt_of_cell? _ _ hc5, Bl.refl w5⟩)
          have HW5 : Hid (∀ w', (fun w' => w'.cell? (ad.add (i * 2)) = some (.int .u64 (h : Int)) ∧ w'.cell? ⟨(ad.add (i * 2)).block, (ad.add (i * 2)).off + 1, none⟩ = some (.int .u64 (l : Int)) ∧ w'.cell? (a4.add i) = some (.int .u32 (xa : Int)) ∧ w'.cell? (a5.add i) = some (.int .u32 (xb : Int)) ∧ w'.cell? (a6.add i) = some (.int .u32 (xc : Int)) ∧ (ad.add (i * 2)).block < w'.heap.size ∧ (a4.add i).block < w'.heap.size ∧ (a5.add i).block < w'.heap.size ∧ (a6.add i).block < w'.heap.size ∧ Bl w5 w') w' → PrW w') := fun w' h => HW.out.bl (G5.out.trans h.2.2.2.2.2.2.2.2.2)
          clear hc1 hc2 hc3 hc4 hc5 hX hXb hh hl hlb hn hxa hxb hxc hbh hbl
          go_region_held3 (fun w' => w'.cell? (ad.add (i * 2)) = some (.int .u64 (h : Int)) ∧ w'.cell? ⟨(ad.add (i * 2)).block, (ad.add (i * 2)).off + 1, none⟩ = some (.int .u64 (l : Int)) ∧ w'.cell? (a4.add i) = some (.int .u32 (xa : Int)) ∧ w'.cell? (a5.add i) = some (.int .u32 (xb : Int)) ∧ w'.cell? (a6.add i) = some (.int .u32 (xc : Int)) ∧ (ad.add (i * 2)).block < w'.heap.size ∧ (a4.add i).block < w'.heap.size ∧ (a5.add i).block < w'.heap.size ∧ (a6.add i).block < w'.heap.size ∧ Bl w5 w')
            (first | assumption | exact HQ.out | exact keepA ‹_› hg | exact keepA HQ.out (Bl.refl _).drew)
            (first
             | (go_at_call 15; (with_reducible refine (B1.out _).mono ?_); rintro e w' ⟨rfl, hg⟩)
             | (go_at_call 23; (with_reducible refine (L1.out _).mono ?_); rintro e w' ⟨rfl, hg⟩))
          rename_i hH
          have HH := Lib.hid hH
          clear hH
          go_wp2
          go_region_held3 (fun w' => w'.cell? (ad.add (i * 2)) = some (.int .u64 (h : Int)) ∧ w'.cell? ⟨(ad.add (i * 2)).block, (ad.add (i * 2)).off + 1, none⟩ = some (.int .u64 (l : Int)) ∧ w'.cell? (a4.add i) = some (.int .u32 (xa : Int)) ∧ w'.cell? (a5.add i) = some (.int .u32 (xb : Int)) ∧ w'.cell? (a6.add i) = some (.int .u32 (xc : Int)) ∧ (ad.add (i * 2)).block < w'.heap.size ∧ (a4.add i).block < w'.heap.size ∧ (a5.add i).block < w'.heap.size ∧ (a6.add i).block < w'.heap.size ∧ Bl w5 w')
            (first | assumption | exact HH.out | exact keepA ‹_› hg | exact keepA HH.out (Bl.refl _).drew)
            (first
             | (go_at_call 11; (with_reducible refine (S1.out _ (HW5.out _ ‹_›)).mono ?_); rintro e w' ⟨rfl, hg⟩))
          rename_i hH
          have HE := Lib.hid (G5.out.trans hH.2.2.2.2.2.2.2.2.2)
          clear hH
          go_wp2
          go_ret
          exact ⟨rfl, HE.out⟩
    · have HT1 := Lib.hid (fun W v1 v2 hw h1 h2 => times_bad9 l0 l1 (by omega) (by omega) hA W v1 v2 hw h1 h2)
      rw [hx] at R0 hf
      rw [hy] at R1 hf
      rw [hx, hy]
      clear hk1 hm1 hk2 hm2 hx hy hf b0 b1 hw hA b2 hL hLb
      go_enter Tryd.func6, Tryd.ntmps6
      go_wp2_with (first
        | (go_at_call 10; (with_reducible refine (SH.out _ HW.out).mono ?_); rintro e w1 ⟨rfl, hb'⟩; have G1 := Lib.hid hb'; clear hb')
        | (go_at_call 19; (with_reducible refine (HT1.out _ _ _ (HW.out.bl G1.out) (R0.out.bl G1.out) (R1.out.bl G1.out)).mono ?_); rintro e w2 ⟨A3, c3, rfl, hb'⟩; have G2 := Lib.hid (G1.out.trans hb'); clear hb'))
      go_ret
      exact ⟨rfl, G2.out⟩
  · obtain ⟨x, hx⟩ : ∃ x, l0.length = x := ⟨_, rfl⟩
    obtain ⟨y, hy⟩ : ∃ x, l1.length = x := ⟨_, rfl⟩
    rw [hx, hy] at hf
    rw [hx, hy]
    by_cases h1 : 600 < x
    · have d1 : decide ((600 : Int) < (x : Int)) = true := decide_eq_true (by omega)
      have d3 : decide (600 < x) = true := decide_eq_true (by omega)
      clear hk1 hm1 hk2 hm2 hx hy hf b0 b1 hw R0 R1 h1 b2
      go_enter Tryd.func6, Tryd.ntmps6
      go_wp2_with (go_at_call 10; (with_reducible refine (SH.out _ HW.out).mono ?_); rintro e w1 ⟨rfl, hb'⟩; have G1 := Lib.hid hb'; clear hb')
      go_ret
      exact ⟨rfl, G1.out⟩
    · have d1 : decide ((600 : Int) < (x : Int)) = false := decide_eq_false (by omega)
      have d3 : decide (600 < x) = false := decide_eq_false (by omega)
      have d2 : decide ((600 : Int) < (y : Int)) = true := decide_eq_true (by omega)
      have d4 : decide (600 < y) = true := decide_eq_true (by omega)
      clear hk1 hm1 hk2 hm2 hx hy hf b0 b1 hw R0 R1 h1 b2
      go_enter Tryd.func6, Tryd.ntmps6
      go_wp2_with (go_at_call 10; (with_reducible refine (SH.out _ HW.out).mono ?_); rintro e w1 ⟨rfl, hb'⟩; have G1 := Lib.hid hb'; clear hb')
      go_ret
      exact ⟨rfl, G1.out⟩
end Go.Proofs.YtiainhbkoehhjaaDoor
