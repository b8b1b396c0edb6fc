/-
  The walk of CrcTurned (printed by gen/cst.py)
-/
import Derived.Test.YtpdglbfnmilblaaCsT
import Derived.Test.YtpdglbfnmilblaaCsV
namespace Go.Proofs.Ytpdglbfnmilblaa
open Go.RowKit
set_option linter.unusedVariables false
set_option linter.unusedSimpArgs false

set_option maxRecDepth 100000 in
set_option maxHeartbeats 4000000 in
theorem turned_out (l : List Nat) (ha : All 256 l) (hl : l.length ≤ 140737488355328) (a : Int) (k : Int) (w : World) (h : a < 0 ∨ (l.length : Int) ≤ a ∨ k < 0 ∨ 7 < k ∨ 4000 < l.length) :
    Calls Try.prog 3 #[.string (bs l), .int .i64 a, .int .i64 k] w fun e w' => e = .returned (.bool true) ∧ Bl w w' := by
  have hz := bs_size l
  obtain ⟨n, hn⟩ : ∃ n, l.length = n := ⟨_, rfl⟩
  rw [hn] at h hz hl
  obtain ⟨S, eS⟩ : ∃ S, bs l = S := ⟨_, rfl⟩
  rw [eS] at hz ⊢
  have nb : (n : Int) ≤ 140737488355328 := by omega
  have hways : (a < 0) ∨ (0 ≤ a ∧ (n : Int) ≤ a) ∨ (0 ≤ a ∧ a < (n : Int) ∧ k < 0) ∨ (0 ≤ a ∧ a < (n : Int) ∧ 0 ≤ k ∧ 7 < k) ∨ (0 ≤ a ∧ a < (n : Int) ∧ 0 ≤ k ∧ k ≤ 7 ∧ 4000 < n) := by omega
  clear h hn eS ha hl
  rcases hways with h | h | h | h | h
  · skip
    have q0 : decide (a < 0) = true := decide_eq_true (by omega)
    clear h
    go_enter Try.func3, Try.ntmps3
    go_wp2_with (go_at_call 5; (with_reducible refine (shown14_any _).mono ?_); rintro e w' ⟨rfl, rfl⟩)
    go_ret
    exact ⟨rfl, Bl.refl _⟩
  · skip
    have q0 : decide (a < 0) = false := decide_eq_false (by omega)
    have q1 : decide ((n : Int) ≤ a) = true := decide_eq_true (by omega)
    clear h
    go_enter Try.func3, Try.ntmps3
    go_wp2_with (go_at_call 5; (with_reducible refine (shown14_any _).mono ?_); rintro e w' ⟨rfl, rfl⟩)
    go_ret
    exact ⟨rfl, Bl.refl _⟩
  · skip
    have q0 : decide (a < 0) = false := decide_eq_false (by omega)
    have q1 : decide ((n : Int) ≤ a) = false := decide_eq_false (by omega)
    have q2 : decide (k < 0) = true := decide_eq_true (by omega)
    clear h
    go_enter Try.func3, Try.ntmps3
    go_wp2_with (go_at_call 5; (with_reducible refine (shown14_any _).mono ?_); rintro e w' ⟨rfl, rfl⟩)
    go_ret
    exact ⟨rfl, Bl.refl _⟩
  · skip
    have q0 : decide (a < 0) = false := decide_eq_false (by omega)
    have q1 : decide ((n : Int) ≤ a) = false := decide_eq_false (by omega)
    have q2 : decide (k < 0) = false := decide_eq_false (by omega)
    have q3 : decide (7 < k) = true := decide_eq_true (by omega)
    clear h
    go_enter Try.func3, Try.ntmps3
    go_wp2_with (go_at_call 5; (with_reducible refine (shown14_any _).mono ?_); rintro e w' ⟨rfl, rfl⟩)
    go_ret
    exact ⟨rfl, Bl.refl _⟩
  · skip
    have q0 : decide (a < 0) = false := decide_eq_false (by omega)
    have q1 : decide ((n : Int) ≤ a) = false := decide_eq_false (by omega)
    have q2 : decide (k < 0) = false := decide_eq_false (by omega)
    have q3 : decide (7 < k) = false := decide_eq_false (by omega)
    have q4 : decide ((4000 : Int) < (n : Int)) = true := decide_eq_true (by omega)
    have q5 : decide (4000 < n) = true := decide_eq_true (by omega)
    clear h
    go_enter Try.func3, Try.ntmps3
    go_wp2_with (go_at_call 5; (with_reducible refine (shown14_any _).mono ?_); rintro e w' ⟨rfl, rfl⟩)
    go_ret
    exact ⟨rfl, Bl.refl _⟩
set_option maxRecDepth 100000 in
set_option maxHeartbeats 4000000 in
theorem turned_in (l : List Nat) (ha : All 256 l) (hl : l.length ≤ 4000) (i κ : Nat) (hi : i < l.length) (hk : κ < 8) (w : World) :
    Calls Try.prog 3 #[.string (bs l), .int .i64 (i : Int), .int .i64 (κ : Int)] w fun e w' => e = .returned (.bool true) ∧ Bl w w' := by
  have hz := bs_size l
  have hsum := crSum_turned l i κ hi hk
  have hx := ha i hi
  have hal := turn_all ha i κ hi hk
  have K1 := Lib.hid (fun W => psum_any (l.set i (turn1 l[i] κ)) hal (by rw [List.length_set]; omega) W)
  have K2 := Lib.hid (fun W => psum_any l ha (by omega) W)
  have hcv := fun W => run_bytes_of_string (P := Try.prog) W 9 23 5 (bs l) Try.underlying9 Try.underlying23 Try.underlying5
  have hby := by_made0 ha w 5 (grownCap w (bs l).size 0 5) w.heap.size rfl
  have hc := hby.cell i hi
  have hf := hby.free i hi
  have htb := turn_bits hx κ hk _ rfl
  have hcb := fun c => by_conv (P := Try.prog) _ 23 9 5 Try.underlying23 Try.underlying5 Try.underlying9 (n := l.length) (c := c) (hby.set i (turn1 l[i] κ)).drew hal (by rw [List.length_set])
  have tb := turn1_lt hx hk
  obtain ⟨x, ex⟩ : ∃ x, l[i] = x := ⟨_, rfl⟩
  rw [ex] at hsum hx K1 hc htb hcb tb
  obtain ⟨y, ey⟩ : ∃ y, turn1 x κ = y := ⟨_, rfl⟩
  rw [ey] at hsum K1 htb hcb tb
  have t0 : (((crSum (l.set i y) : Nat) : Int) != ((crSum l : Nat) : Int)) = true := by rw [bne_iff_ne]; omega
  obtain ⟨s1, es1⟩ : ∃ s, crSum (l.set i y) = s := ⟨_, rfl⟩
  obtain ⟨s2, es2⟩ : ∃ s, crSum l = s := ⟨_, rfl⟩
  rw [es1] at K1 t0
  rw [es2] at K2 t0
  obtain ⟨T, eT⟩ : ∃ S, bs (l.set i y) = S := ⟨_, rfl⟩
  rw [eT] at K1 hcb
  obtain ⟨S, eS⟩ : ∃ S, bs l = S := ⟨_, rfl⟩
  rw [eS] at hz K2 hcv hc hf hcb ⊢
  obtain ⟨n, hn⟩ : ∃ n, l.length = n := ⟨_, rfl⟩
  rw [hn] at hz hcb hl hi
  rw [hz] at hcv hc hf hcb
  have nb : (n : Int) ≤ 4000 := by omega
  have b1 : (0 : Int) ≤ (i : Int) ∧ (i : Int) < (n : Int) := by omega
  have q1 : decide ((n : Int) ≤ (i : Int)) = false := decide_eq_false (by omega)
  have q1' : decide (n ≤ i) = false := decide_eq_false (by omega)
  have q4 : decide ((4000 : Int) < (n : Int)) = false := decide_eq_false (by omega)
  have q5 : decide (4000 < n) = false := decide_eq_false (by omega)
  have xb : (x : Int) ≤ 255 := by omega
  have hg : Hid (∀ o v, Bl w ((w.alloc o).setCell ⟨w.heap.size, i, none⟩ v).drew) := fun o v => (((Bl.refl w).alloc o).setCell (p := ⟨w.heap.size, i, none⟩) (Nat.le_refl _) v).drew
  clear hsum hal hby ex ey es1 es2 eT eS hn hi hl ha hx tb
  have hways : κ = 0 ∨ κ = 1 ∨ κ = 2 ∨ κ = 3 ∨ κ = 4 ∨ κ = 5 ∨ κ = 6 ∨ κ = 7 := by omega
  clear hk
  rcases hways with rfl | rfl | rfl | rfl | rfl | rfl | rfl | rfl
  all_goals
    try simp only [show ((2 ^ 0 : Nat) : Int) = 1 from rfl, show ((2 ^ 1 : Nat) : Int) = 2 from rfl, show ((2 ^ 2 : Nat) : Int) = 4 from rfl, show ((2 ^ 3 : Nat) : Int) = 8 from rfl, show ((2 ^ 4 : Nat) : Int) = 16 from rfl, show ((2 ^ 5 : Nat) : Int) = 32 from rfl, show ((2 ^ 6 : Nat) : Int) = 64 from rfl, show ((2 ^ 7 : Nat) : Int) = 128 from rfl] at htb
    go_enter Try.func3, Try.ntmps3
    go_wp2_with (first
      | (go_at_call 5; (with_reducible refine (shown14_any _).mono ?_); rintro e w' ⟨rfl, rfl⟩)
      | (go_at_call 6; (with_reducible refine (K1.out _).mono ?_); rintro e w' ⟨rfl, rfl⟩)
      | (go_at_call 6; (with_reducible refine (K2.out _).mono ?_); rintro e w' ⟨rfl, rfl⟩))
    go_ret
    exact ⟨rfl, hg.out _ _⟩
theorem crcTurned_walk (l : List Nat) (ha : All 256 l) (hl : l.length ≤ 140737488355328) (a : Int) (h1 : -9223372036854775808 ≤ a ∧ a ≤ 9223372036854775807) (k : Int) (h2 : -9223372036854775808 ≤ k ∧ k ≤ 9223372036854775807) (w : World) :
    Calls Try.prog 3 #[.string (bs l), .int .i64 a, .int .i64 k] w fun e w' => e = .returned (.bool true) ∧ Bl w w' := by
  by_cases h : a < 0 ∨ (l.length : Int) ≤ a ∨ k < 0 ∨ 7 < k ∨ 4000 < l.length
  · exact turned_out l ha hl a k w h
  · obtain ⟨i, rfl⟩ : ∃ i : Nat, a = (i : Int) := ⟨a.toNat, by omega⟩
    obtain ⟨κ, rfl⟩ : ∃ i : Nat, k = (i : Int) := ⟨k.toNat, by omega⟩
    exact turned_in l ha (by omega) i κ (by omega) (by omega) w
end Go.Proofs.Ytpdglbfnmilblaa
