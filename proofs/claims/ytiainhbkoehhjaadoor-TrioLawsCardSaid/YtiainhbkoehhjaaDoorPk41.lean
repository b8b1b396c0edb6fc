/-
  Layer 9: the document's example; one pair below another.
-/
import Derived.Test.YtiainhbkoehhjaaDoorPk39
import Derived.Test.YtiainhbkoehhjaaDoorPk40
namespace Go.Proofs.YtiainhbkoehhjaaDoor
open Go.RowKit
set_option linter.unusedVariables false
set_option linter.unusedSimpArgs false

theorem lit_row1 {w : World} {e : TypeId} {b : Nat} (hb : b = w.heap.size) (x : Nat) (X : Int) (hx : (x : Int) = X) : Rw .u64 (w.alloc (.cells #[.int .u64 X] e)) (.slice (some ⟨b, 0, none⟩) 1 1) [x] := by
  subst hb hx
  refine ⟨_, 1, rfl, Nat.le_refl _, by decide, (fun h => by cases h), fun _ => ⟨_, rfl, by simp, fun i hi => ?_⟩⟩
  have hi' : i < 1 := hi
  match i, hi' with
  | 0, _ => simp [add_none]
theorem shown_val : (cvs [4294967295] [4294967295]).map tw = [(0, 18446744065119617025)] := by decide
theorem shown_times (w : World) (hw : PrW w) (v1 v2 : Value) (h1 : Rw .u64 w v1 [4294967295]) (h2 : Rw .u64 w v2 [4294967295]) :
    Calls Tryd.prog 19 #[v1, v2] w fun e w' => ∃ ad c, e = .returned (.tuple #[.slice (some ad) 1 c, .int .i64 0]) ∧ w'.cell? ad = some (.int .u64 0) ∧ w'.cell? ⟨ad.block, ad.off + 1, none⟩ = some (.int .u64 18446744065119617025) ∧ Bl w w' := by
  refine (times_any v1 v2 [4294967295] [4294967295] (by decide) (by decide) w hw h1 h2).mono fun e w' ht => ?_
  have hall : All 4294967296 [4294967295] := fun i hi => by
    have hi' : i < 1 := hi
    match i, hi' with
    | 0, _ => show 4294967295 < 4294967296; decide
  rcases ht with ⟨h, _⟩ | ⟨_, _, he⟩
  · exact absurd ⟨hall, hall⟩ h
  · rw [shown_val] at he
    obtain ⟨v, rfl, ⟨A, c, rfl, _, _, _, hp⟩, hb⟩ := he
    obtain ⟨ad, rfl, _, hx⟩ := hp (by decide)
    have hc := hx 0 (by decide)
    have e0 : ad.add (0 * 2) = ad := by simp [Addr.add]
    rw [e0] at hc
    exact ⟨ad, c, rfl, hc.1, hc.2, hb⟩

set_option maxRecDepth 100000 in
set_option maxHeartbeats 1000000 in
theorem shown9 (w : World) (hw : PrW w) : Calls Tryd.prog 10 #[] w fun e w' => e = .returned (.bool true) ∧ Bl w w' := by
  have hb2 : Bl w ((w.alloc (.cells #[.int .u64 4294967295] 22)).alloc (.cells #[.int .u64 4294967295] 22)) := ((Bl.refl w).alloc _).alloc _
  have r1 : Rw .u64 ((w.alloc (.cells #[.int .u64 4294967295] 22)).alloc (.cells #[.int .u64 4294967295] 22)) (.slice (some ⟨w.heap.size, 0, none⟩) 1 1) [4294967295] := (lit_row1 rfl 4294967295 4294967295 rfl).bl ((Bl.refl _).alloc _)
  have r2 : Rw .u64 ((w.alloc (.cells #[.int .u64 4294967295] 22)).alloc (.cells #[.int .u64 4294967295] 22)) (.slice (some ⟨w.heap.size + 1, 0, none⟩) 1 1) [4294967295] := lit_row1 (by simp) 4294967295 4294967295 rfl
  have K := Lib.hid (shown_times _ (hw.bl hb2) _ _ r1 r2)
  have HB2 := Lib.hid hb2
  clear r1 r2 hb2 hw
  go_enter Tryd.func10, Tryd.ntmps10
  go_wp2_with (go_at_call 19; (with_reducible refine K.out.mono ?_); rintro e w' ⟨ad, c, rfl, q0, q1, hb'⟩; have HB := Lib.hid (HB2.out.trans hb'); clear hb')
  go_ret
  exact ⟨rfl, HB.out⟩

/-- Is a pair below another one? -/
def pbl (a b c d : Nat) : Bool := decide (a < c) || (decide (a = c) && decide (b < d))
theorem pbl_num (a b c d : Nat) (hb : b < 18446744073709551616) (hd : d < 18446744073709551616) : pbl a b c d = decide (num a b < num c d) := by
  unfold pbl num
  by_cases h1 : a < c
  · rw [decide_eq_true h1, Bool.true_or, decide_eq_true (by omega)]
  · rw [decide_eq_false h1, Bool.false_or]
    by_cases h2 : a = c
    · subst h2
      rw [decide_eq_true rfl, Bool.true_and]
      by_cases h3 : b < d
      · rw [decide_eq_true h3, decide_eq_true (by omega)]
      · rw [decide_eq_false h3, decide_eq_false (by omega)]
    · rw [decide_eq_false h2, Bool.false_and, decide_eq_false (by omega)]
set_option maxRecDepth 100000 in
theorem below9 (a b c d : Nat) (w : World) : Calls Tryd.prog 23 #[.agg #[.int .u64 (a : Int), .int .u64 (b : Int)], .agg #[.int .u64 (c : Int), .int .u64 (d : Int)]] w fun e w' => e = .returned (.bool (pbl a b c d)) ∧ Bl w w' := by
  unfold pbl
  by_cases h1 : a < c
  · have d1 : decide (a < c) = true := decide_eq_true h1
    clear h1
    go_enter Tryd.func23, Tryd.ntmps23
    go_wp2
    go_ret
    exact ⟨by simp [d1], ((Bl.refl w).alloc _).alloc _⟩
  · have d1 : decide (a < c) = false := decide_eq_false h1
    by_cases h2 : a = c
    · have d2 : ((a : Int) == (c : Int)) = true := by rw [beq_iff_eq]; omega
      obtain ⟨r, hr⟩ : ∃ r, decide (b < d) = r := ⟨_, rfl⟩
      have d3 := Lib.hid h2
      clear h1 h2
      go_enter Tryd.func23, Tryd.ntmps23
      go_wp2
      go_ret
      exact ⟨by simp [d1, d3.out, hr], ((Bl.refl w).alloc _).alloc _⟩
    · have d2 : ((a : Int) == (c : Int)) = false := by rw [beq_eq_false_iff_ne]; omega
      have d3 := Lib.hid h2
      clear h1 h2
      go_enter Tryd.func23, Tryd.ntmps23
      go_wp2
      go_ret
      exact ⟨by simp [d1, d3.out], ((Bl.refl w).alloc _).alloc _⟩

/-! ### The program's calls and the document's, side by side -/
theorem mod_same (m : Nat) (hm : m < 4294967296) (a b : List Nat) (ha : All 18446744073709551616 a) (hb : All 18446744073709551616 b) (hal : a.length ≤ 10000) (hbl : b.length ≤ 10000) : ∃ (R : List Nat) (E : Int), (E = 0 ∧ P3 m ∧ R = (cvs a b).map (· % m) ∨ E = 1 ∧ ¬ P3 m ∧ R = []) ∧
    (∀ W v1 v2, PrW W → Rw .u64 W v1 a → Rw .u64 W v2 b → Calls Tryd.prog 17 #[v1, v2, .int .u32 (m : Int)] W (RwErr .u32 W R E)) ∧
    (∀ W v1 v2, Rw .u64 W v1 a → Rw .u64 W v2 b → Calls Tryd.prog 18 #[v1, v2, .int .u32 (m : Int)] W (RwErr .u32 W R E)) := by
  by_cases hP : P3 m
  · refine ⟨_, 0, .inl ⟨rfl, hP, rfl⟩, fun W v1 v2 hw h1 h2 => ?_, fun W v1 v2 h1 h2 => ?_⟩
    · exact (mod_any v1 v2 a b m ha hb hal hbl W hw h1 h2).mono fun e w h => by
        rcases h with ⟨hn, _⟩ | ⟨_, he⟩
        · exact absurd hP hn
        · exact he
    · exact (rmod_ok v1 v2 a b m hP ha hb hal hbl W h1 h2).mono fun e w h => by
        rcases h with ⟨hn, _⟩ | ⟨_, he⟩
        · exact absurd hP hn
        · exact he
  · refine ⟨[], 1, .inr ⟨rfl, hP, rfl⟩, fun W v1 v2 hw h1 h2 => ?_, fun W v1 v2 h1 h2 => ?_⟩
    · exact (mod_any v1 v2 a b m ha hb hal hbl W hw h1 h2).mono fun e w h => by
        rcases h with ⟨_, he⟩ | ⟨hp, _⟩
        · exact he
        · exact absurd hp hP
    · exact (rmod_bad v1 v2 a b m hm hP W).mono fun e w h => by
        rcases h with ⟨_, he⟩ | ⟨hp, _⟩
        · exact he
        · exact absurd hp hP
/-- What Times comes to. -/
theorem times_is (a b : List Nat) (hal : a.length ≤ 10000) (hbl : b.length ≤ 10000) : ∃ (Z : List (Nat × Nat)) (G : Int), (G = 0 ∧ All 4294967296 a ∧ All 4294967296 b ∧ Z = (cvs a b).map tw ∨ G = 1 ∧ ¬ (All 4294967296 a ∧ All 4294967296 b) ∧ Z = []) ∧
    (∀ W v1 v2, PrW W → Rw .u64 W v1 a → Rw .u64 W v2 b → Calls Tryd.prog 19 #[v1, v2] W (PrEr W Z G)) := by
  by_cases hA : All 4294967296 a ∧ All 4294967296 b
  · refine ⟨_, 0, .inl ⟨rfl, hA.1, hA.2, rfl⟩, fun W v1 v2 hw h1 h2 => (times_any v1 v2 a b hal hbl W hw h1 h2).mono fun e w h => ?_⟩
    rcases h with ⟨hn, _⟩ | ⟨_, _, he⟩
    · exact absurd hA hn
    · exact he
  · refine ⟨[], 1, .inr ⟨rfl, hA, rfl⟩, fun W v1 v2 hw h1 h2 => (times_any v1 v2 a b hal hbl W hw h1 h2).mono fun e w h => ?_⟩
    rcases h with ⟨_, he⟩ | ⟨p, q, _⟩
    · exact he
    · exact absurd ⟨p, q⟩ hA
theorem times_same (a b : List Nat) (ha64 : All 18446744073709551616 a) (hb64 : All 18446744073709551616 b) (hal : a.length ≤ 10000) (hbl : b.length ≤ 10000) : ∃ (Z : List (Nat × Nat)) (G : Int), Z.length ≤ 20000 ∧
    (∀ W v1 v2, PrW W → Rw .u64 W v1 a → Rw .u64 W v2 b → Calls Tryd.prog 19 #[v1, v2] W (PrEr W Z G)) ∧
    (∀ W v1 v2, Rw .u64 W v1 a → Rw .u64 W v2 b → Calls Tryd.prog 20 #[v1, v2] W (PrEr W Z G)) := by
  obtain ⟨Z, G, hc, hT⟩ := times_is a b hal hbl
  have hz : Z.length ≤ 20000 := by
    rcases hc with ⟨_, _, _, h⟩ | ⟨_, _, h⟩
    · rw [h, List.length_map, cvs_length]; unfold cl; split <;> omega
    · rw [h]; simp
  refine ⟨Z, G, hz, hT, fun W v1 v2 h1 h2 => (rtimes9_any v1 v2 a b ha64 hb64 hal hbl W h1 h2).mono fun e w h => ?_⟩
  rcases hc with ⟨rfl, p, q, rfl⟩ | ⟨rfl, hn, rfl⟩
  · rcases h with ⟨h1, _⟩ | ⟨_, _, he⟩
    · exact absurd ⟨p, q⟩ h1
    · exact he
  · rcases h with ⟨_, he⟩ | ⟨p, q, _⟩
    · exact he
    · exact absurd ⟨p, q⟩ hn
theorem pairs_same (v1 v2 : Value) (l : List (Nat × Nat)) (hl : l.length ≤ 20000) (w : World) (h1 : Pq w v1 l) (h2 : Pq w v2 l) : Calls Tryd.prog 22 #[v1, v2] w fun e w' => e = .returned (.bool true) ∧ Bl w w' :=
  (rpairs_any v1 v2 l l (by omega) (by omega) w h1 h2).mono fun e w' ⟨he, hb⟩ => ⟨by rw [he, decide_eq_true rfl], hb⟩
theorem rows_same (v1 v2 : Value) (l : List Nat) (hl : l.length ≤ 20000) (w : World) (h1 : Rw .u32 w v1 l) (h2 : Rw .u32 w v2 l) : Calls Tryd.prog 21 #[v1, v2] w fun e w' => e = .returned (.bool true) ∧ Bl w w' :=
  (rrows_any v1 v2 l l (by omega) (by omega) w h1 h2).mono fun e w' ⟨he, hb⟩ => ⟨by rw [he, decide_eq_true rfl], hb⟩
end Go.Proofs.YtiainhbkoehhjaaDoor
