/-
  The document's names of ranges (layer 16): figures, Name.
-/
import Derived.Test.YtdaglbjdgdokpaaDoorPk14
import Derived.Test.YtdaglbjdgdokpaaDoorPk8
import Derived.Test.YtdaglbjdgdokpaaDoorPk10
import Derived.Deep.RegionWith
import Derived.Deep.RegionHeld3
namespace Go.Proofs.YtdaglbjdgdokpaaDoor
open Go.RowKit
set_option linter.unusedVariables false
set_option linter.unusedSimpArgs false

set_option maxRecDepth 100000 in
set_option maxHeartbeats 2000000 in
theorem rfigures_any (n : Nat) (h : n ≤ 9223372036854775807) (w : World) : Calls Tryd.prog 26 #[.int .i64 (n : Int)] w fun e w' => e = .returned (.string (bs (figs n))) ∧ Bl w w' := by
  induction n using Nat.strongRecOn generalizing w with
  | ind n ih =>
    have HC := Lib.hid (fun x (h : x < 256) W => bs_one (P := Tryd.prog) h W 84 9 5 W.heap.size rfl Tryd.underlying84 Tryd.underlying5 Tryd.underlying9)
    by_cases hs : n < 10
    · have hx : 48 + n < 256 := by omega
      have e : figs n = [48 + n] := figs_small hs
      obtain ⟨x, ex⟩ : ∃ x, 48 + n = x := ⟨_, rfl⟩
      rw [ex] at hx e
      have hcv := fun W => HC.out x hx W
      have w0 : IntKind.u8.wrap (n : Int) = (n : Int) := by rw [IntKind.wrap_u8]; omega
      have w00 : (n : Int) % 256 = (n : Int) := by omega
      have r1 : (48 : Int) + (n : Int) = (x : Int) := by omega
      have w1 : IntKind.u8.wrap (x : Int) = (x : Int) := by rw [IntKind.wrap_u8]; omega
      have w11 : (x : Int) % 256 = (x : Int) := by omega
      have t0 : ¬ ((n : Int) < 0) := by omega
      have t1 : (n : Int) < 10 := by omega
      rw [e]
      clear ih h hs e ex HC
      go_enter Tryd.func26, Tryd.ntmps26
      go_wp2
      go_ret
      exact ⟨rfl, (Bl.refl _).alloc _⟩
    · have hx : 48 + n % 10 < 256 := by omega
      have e : figs n = figs (n / 10) ++ [48 + n % 10] := figs_big hs
      have K0 := fun W => ih (n / 10) (by omega) (by omega) W
      have hsz := figs_len (n := n / 10) (by omega)
      obtain ⟨q, hq⟩ : ∃ q, n / 10 = q := ⟨_, rfl⟩
      obtain ⟨r, hr⟩ : ∃ r, n % 10 = r := ⟨_, rfl⟩
      rw [hq, hr] at e
      rw [hr] at hx
      rw [hq] at K0 hsz
      obtain ⟨x, ex⟩ : ∃ x, 48 + r = x := ⟨_, rfl⟩
      rw [ex] at hx e
      have hcv0 := fun W => HC.out x hx W
      have r3 : (n : Int).tdiv 10 = (q : Int) := by rw [Int.tdiv_eq_ediv_of_nonneg (by omega)]; omega
      have r4 : (n : Int).tmod 10 = (r : Int) := by rw [Int.tmod_eq_emod_of_nonneg (by omega)]; omega
      have r5 : (n : Int) / 10 = (q : Int) := by omega
      have r6 : (n : Int) % 10 = (r : Int) := by omega
      have w3 : IntKind.i64.wrap (q : Int) = (q : Int) := by rw [IntKind.wrap_i64]; omega
      have w0 : IntKind.u8.wrap (r : Int) = (r : Int) := by rw [IntKind.wrap_u8]; omega
      have w00 : (r : Int) % 256 = (r : Int) := by omega
      have r1 : (48 : Int) + (r : Int) = (x : Int) := by omega
      have w1 : IntKind.u8.wrap (x : Int) = (x : Int) := by rw [IntKind.wrap_u8]; omega
      have w11 : (x : Int) % 256 = (x : Int) := by omega
      have t1 : ¬ ((n : Int) < 10) := by omega
      rw [e, ← bs_append]
      have hadd0 := fun W => run_string_add_sum (P := Tryd.prog) W (bs (figs q)) (bs [x]) (by rw [bs_size, bs_size]; simp; omega)
      obtain ⟨A, hA⟩ : ∃ A, bs (figs q) = A := ⟨_, rfl⟩
      obtain ⟨B, hB⟩ : ∃ B, bs [x] = B := ⟨_, rfl⟩
      rw [hA, hB] at hadd0 ⊢
      rw [hA] at K0
      rw [hB] at hcv0
      obtain ⟨C, hC⟩ : ∃ C, A ++ B = C := ⟨_, rfl⟩
      rw [hC] at hadd0 ⊢
      have K := Lib.hid K0
      have HC2 : Hid (∀ W', Bl (w.alloc (.cells #[.int .u8 (x : Int)] 5)).drew W' → (convert 84 9 (.slice (some ⟨w.heap.size, 0, none⟩) 1 1)).run Tryd.prog W' = .ok (.string B) W') := fun W' g => by
        have hb := Bq.new w 5 [.int .u8 (x : Int)]
        have hc := hb.drew.bl g
        have hx2 : (UInt8.ofNat x).toNat = x := by rw [UInt8.toNat_ofNat']; omega
        rw [← hB]
        exact run_convert_bytes_back (P := Tryd.prog) W' 84 9 5 ⟨w.heap.size, 0, none⟩ 1 [UInt8.ofNat x] Tryd.underlying84 Tryd.underlying5 Tryd.underlying9 (fun j hj => by
          have : j = 0 := by simpa using hj
          subst this
          rw [add_none]
          simp only [List.getElem_cons_zero, hx2]
          exact hc.cell 0 rfl)
      have hcv := hcv0
      have hcv3 := HC2.out _ (Bl.refl _)
      have hadd := hadd0
      clear ih h hs e ex HC K0 hcv0 hadd0 hq hr hsz hA hB hC
      go_enter Tryd.func26, Tryd.ntmps26
      go_wp2
      go_region_with (go_at_call 26; (with_reducible refine (K.out _).mono ?_); rintro e w1 ⟨rfl, hb⟩; (try have hcv2 := HC2.out w1 hb))
      all_goals
        go_wp2
        go_ret
        exact ⟨rfl, by first | exact ((Bl.refl w).drew.trans hb).alloc _ | exact (((Bl.refl w).alloc _).drew).trans hb⟩
theorem keepA {w0 W w : World} {b : Nat} {v0 v1 : Value} (h : W.cell? ⟨b, 0, none⟩ = some v0 ∧ W.cell? ⟨b, 1, none⟩ = some v1 ∧ b < W.heap.size ∧ Bl w0 W) (g : Bl W w) :
    w.cell? ⟨b, 0, none⟩ = some v0 ∧ w.cell? ⟨b, 1, none⟩ = some v1 ∧ b < w.heap.size ∧ Bl w0 w := by
  obtain ⟨h0, h1, hb, hg⟩ := h
  exact ⟨(g.cell (p := ⟨b, 0, none⟩) hb).trans h0, (g.cell (p := ⟨b, 1, none⟩) hb).trans h1, Nat.lt_of_lt_of_le hb g.size, hg.trans g⟩
set_option maxRecDepth 100000 in
set_option maxHeartbeats 2000000 in
theorem rName_any (n m : Nat) (hn : n ≤ 9223372036854775807) (hm : m ≤ 9223372036854775807) (w : World) : Calls Tryd.prog 17 #[.agg #[.int .i64 (n : Int), .int .i64 (m : Int)]] w fun e w' => e = .returned (.string (nmB n m)) ∧ Bl w w' := by
  have KN := Lib.hid (fun W => rfigures_any n hn W)
  have KM := Lib.hid (fun W => rfigures_any m hm W)
  have ln := figs_len (n := n) (by omega)
  have lm := figs_len (n := m) (by omega)
  have e : ((bs [99] ++ bs (figs n)) ++ bs [45]) ++ bs (figs m) = nmB n m := by
    unfold nmB nmL
    rw [show ((n : Int)).toNat = n from rfl, show ((m : Int)).toNat = m from rfl, bs_append, bs_append, bs_append]
    simp
  have a1 := fun W => run_string_add_sum (P := Tryd.prog) W (bs [99]) (bs (figs n)) (by rw [bs_size, bs_size]; simp; omega)
  have a2 := fun W => run_string_add_sum (P := Tryd.prog) W (bs [99] ++ bs (figs n)) (bs [45]) (by rw [bs_append, bs_size, bs_size, List.length_append]; simp; omega)
  have a3 := fun W => run_string_add_sum (P := Tryd.prog) W ((bs [99] ++ bs (figs n)) ++ bs [45]) (bs (figs m)) (by rw [bs_append, bs_append, bs_size, bs_size, List.length_append, List.length_append]; simp; omega)
  rw [e] at a3
  obtain ⟨A2, hA2⟩ : ∃ A, (bs [99] ++ bs (figs n)) ++ bs [45] = A := ⟨_, rfl⟩
  rw [hA2] at a2 a3
  obtain ⟨A1, hA1⟩ : ∃ A, bs [99] ++ bs (figs n) = A := ⟨_, rfl⟩
  rw [hA1] at a1 a2
  obtain ⟨N, eN⟩ : ∃ N, bs (figs n) = N := ⟨_, rfl⟩
  obtain ⟨M, eM⟩ : ∃ M, bs (figs m) = M := ⟨_, rfl⟩
  rw [eN] at KN a1
  rw [eM] at KM a3
  have b1 : bs [99] = ⟨#[99]⟩ := rfl
  have b2 : bs [45] = ⟨#[45]⟩ := rfl
  rw [b1] at a1
  rw [b2] at a2
  obtain ⟨RR, hRR⟩ : ∃ RR, nmB n m = RR := ⟨_, rfl⟩
  rw [hRR] at a3 ⊢
  clear e hA1 hA2 eN eM ln lm hRR b1 b2 hn hm
  go_enter Tryd.func17, Tryd.ntmps17
  go_wp2
  have HQ0 : Hid (((w.alloc (.cells #[.int .i64 (n : Int), .int .i64 (m : Int)] 34)).cell? ⟨w.heap.size, 0, none⟩ = some (.int .i64 (n : Int)) ∧ (w.alloc (.cells #[.int .i64 (n : Int), .int .i64 (m : Int)] 34)).cell? ⟨w.heap.size, 1, none⟩ = some (.int .i64 (m : Int)) ∧ w.heap.size < (w.alloc (.cells #[.int .i64 (n : Int), .int .i64 (m : Int)] 34)).heap.size ∧ Bl w (w.alloc (.cells #[.int .i64 (n : Int), .int .i64 (m : Int)] 34)))) := by
    have h := Bq.new w 34 [.int .i64 (n : Int), .int .i64 (m : Int)]
    exact ⟨h.cell 0 rfl, h.cell 1 rfl, h.lt, (Bl.refl w).alloc _⟩
  go_region_held3 (fun W => W.cell? ⟨w.heap.size, 0, none⟩ = some (.int .i64 (n : Int)) ∧ W.cell? ⟨w.heap.size, 1, none⟩ = some (.int .i64 (m : Int)) ∧ w.heap.size < W.heap.size ∧ Bl w W)
    (first | assumption | exact HQ0.out | exact keepA HQ0.out (Bl.refl _).drew | exact keepA ‹_› hb)
    (first
     | (go_at_call 26; (with_reducible refine (KN.out _).mono ?_); rintro e w1 ⟨rfl, hb⟩)
     | (go_at_call 26; (with_reducible refine (KM.out _).mono ?_); rintro e w2 ⟨rfl, hb⟩))
  go_wp2
  go_ret
  exact ⟨rfl, And.right (And.right (And.right (by assumption)))⟩
end Go.Proofs.YtdaglbjdgdokpaaDoor
