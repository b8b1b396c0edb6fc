/-
  The walk of CrcSpoilt (printed by gen/cst.py)
-/
import Derived.Test.YtpdglbfnmilblaaDoorPk39
import Derived.Test.YtpdglbfnmilblaaDoorPk44
import Derived.Test.YtpdglbfnmilblaaDoorPk45
import Derived.Test.YtpdglbfnmilblaaDoorPk38
namespace Go.Proofs.YtpdglbfnmilblaaDoor
open Go.RowKit
set_option linter.unusedVariables false
set_option linter.unusedSimpArgs false

set_option maxRecDepth 100000 in
set_option maxHeartbeats 4000000 in
theorem spoilt_no (r : Rc) (vp vq vt : Value) (hw : r.Wd) (a k : Int) (w : World) (hp : Rw .u64 w vp r.p) (hq : Rw .u64 w vq r.q) (ht : Rw .u64 w vt r.t) (hm : ¬ r.May) :
    Calls Tryd.prog 6 #[recV r vp vq vt, .int .i64 a, .int .i64 k] w fun e w' => e = .returned (.bool true) ∧ Bl w w' := by
  have KB := Lib.hid (fun W (g : Bl w W) => pBytes_any r vp vq vt hw W (hp.bl g) (hq.bl g) (ht.bl g))
  rw [if_neg hm, if_neg hm] at KB
  obtain ⟨con, dgs, gua, frm, til, p, q, t, m⟩ := r
  dsimp only at hp hq ht
  obtain ⟨A1, c1, rfl, _⟩ := hp
  obtain ⟨A2, c2, rfl, _⟩ := hq
  obtain ⟨A3, c3, rfl, _⟩ := ht
  unfold recV at KB ⊢
  dsimp only at KB ⊢
  clear hm hw
  go_enter Tryd.func6, Tryd.ntmps6
  go_wp2_with (first
    | (go_at_call 8; (with_reducible refine (shown14_any _).mono ?_); rintro e w' ⟨rfl, rfl⟩)
    | (go_at_call 9; (with_reducible refine (KB.out _ ((Bl.refl w).alloc _)).mono ?_); rintro e w1 ⟨rfl, hb⟩; have G1 := Lib.hid (((Bl.refl w).alloc _).trans hb); clear hb))
  go_ret
  exact ⟨rfl, G1.out⟩
set_option maxRecDepth 100000 in
set_option maxHeartbeats 4000000 in
theorem spoilt_out (r : Rc) (vp vq vt : Value) (hw : r.Wd) (a k : Int) (w : World) (hp : Rw .u64 w vp r.p) (hq : Rw .u64 w vq r.q) (ht : Rw .u64 w vt r.t) (hm : r.May) (h : a < 0 ∨ ((encB r).length : Int) ≤ a ∨ k < 0 ∨ 7 < k ∨ 4000 < (encB r).length) :
    Calls Tryd.prog 6 #[recV r vp vq vt, .int .i64 a, .int .i64 k] w fun e w' => e = .returned (.bool true) ∧ Bl w w' := by
  have KB0 := Lib.hid (fun W (g : Bl w W) => pBytes_any r vp vq vt hw W (hp.bl g) (hq.bl g) (ht.bl g))
  rw [if_pos hm, if_pos hm] at KB0
  have hz := bs_size (encB r)
  obtain ⟨S, eS⟩ : ∃ S, bs (encB r) = S := ⟨_, rfl⟩
  have KB : Hid (∀ W, Bl w W → Calls Tryd.prog 9 #[recV r vp vq vt] W fun e w' => e = .returned (.tuple #[.string S, .int .i64 0]) ∧ Bl W w') := fun W g => by
    have c := KB0.out W g
    unfold BsEnd at c
    rw [eS] at c
    exact c
  rw [eS] at hz
  have hlb : (encB r).length ≤ 100000 := by rw [encB_len]; have h1 := hm.2.1.1.1; have h2 := hm.2.1.2.1.1; have h3 := hm.2.1.2.2.1; omega
  obtain ⟨n, hn⟩ : ∃ n, (encB r).length = n := ⟨_, rfl⟩
  rw [hn] at h hz hlb
  have nb : (n : Int) ≤ 100000 := by omega
  have hways : (a < 0) ∨ (0 ≤ a ∧ (n : Int) ≤ a) ∨ (0 ≤ a ∧ a < (n : Int) ∧ k < 0) ∨ (0 ≤ a ∧ a < (n : Int) ∧ 0 ≤ k ∧ 7 < k) ∨ (0 ≤ a ∧ a < (n : Int) ∧ 0 ≤ k ∧ k ≤ 7 ∧ 4000 < n) := by omega
  clear h hn eS KB0 hw hm
  obtain ⟨con, dgs, gua, frm, til, p, q, t, m⟩ := r
  dsimp only at hp hq ht
  obtain ⟨A1, c1, rfl, _⟩ := hp
  obtain ⟨A2, c2, rfl, _⟩ := hq
  obtain ⟨A3, c3, rfl, _⟩ := ht
  unfold recV at KB ⊢
  dsimp only at KB ⊢
  rcases hways with h | h | h | h | h
  · skip
    have q0 : decide (a < 0) = true := decide_eq_true (by omega)
    clear h
    go_enter Tryd.func6, Tryd.ntmps6
    go_wp2_with (first
      | (go_at_call 8; (with_reducible refine (shown14_any _).mono ?_); rintro e w' ⟨rfl, rfl⟩)
      | (go_at_call 9; (with_reducible refine (KB.out _ ((Bl.refl w).alloc _)).mono ?_); rintro e w1 ⟨rfl, hb⟩; have G1 := Lib.hid (((Bl.refl w).alloc _).trans hb); clear hb))
    go_ret
    exact ⟨rfl, G1.out⟩
  · skip
    have q0 : decide (a < 0) = false := decide_eq_false (by omega)
    have q1 : decide ((n : Int) ≤ a) = true := decide_eq_true (by omega)
    clear h
    go_enter Tryd.func6, Tryd.ntmps6
    go_wp2_with (first
      | (go_at_call 8; (with_reducible refine (shown14_any _).mono ?_); rintro e w' ⟨rfl, rfl⟩)
      | (go_at_call 9; (with_reducible refine (KB.out _ ((Bl.refl w).alloc _)).mono ?_); rintro e w1 ⟨rfl, hb⟩; have G1 := Lib.hid (((Bl.refl w).alloc _).trans hb); clear hb))
    go_ret
    exact ⟨rfl, G1.out⟩
  · skip
    have q0 : decide (a < 0) = false := decide_eq_false (by omega)
    have q1 : decide ((n : Int) ≤ a) = false := decide_eq_false (by omega)
    have q2 : decide (k < 0) = true := decide_eq_true (by omega)
    clear h
    go_enter Tryd.func6, Tryd.ntmps6
    go_wp2_with (first
      | (go_at_call 8; (with_reducible refine (shown14_any _).mono ?_); rintro e w' ⟨rfl, rfl⟩)
      | (go_at_call 9; (with_reducible refine (KB.out _ ((Bl.refl w).alloc _)).mono ?_); rintro e w1 ⟨rfl, hb⟩; have G1 := Lib.hid (((Bl.refl w).alloc _).trans hb); clear hb))
    go_ret
    exact ⟨rfl, G1.out⟩
  · skip
    have q0 : decide (a < 0) = false := decide_eq_false (by omega)
    have q1 : decide ((n : Int) ≤ a) = false := decide_eq_false (by omega)
    have q2 : decide (k < 0) = false := decide_eq_false (by omega)
    have q3 : decide (7 < k) = true := decide_eq_true (by omega)
    clear h
    go_enter Tryd.func6, Tryd.ntmps6
    go_wp2_with (first
      | (go_at_call 8; (with_reducible refine (shown14_any _).mono ?_); rintro e w' ⟨rfl, rfl⟩)
      | (go_at_call 9; (with_reducible refine (KB.out _ ((Bl.refl w).alloc _)).mono ?_); rintro e w1 ⟨rfl, hb⟩; have G1 := Lib.hid (((Bl.refl w).alloc _).trans hb); clear hb))
    go_ret
    exact ⟨rfl, G1.out⟩
  · skip
    have q0 : decide (a < 0) = false := decide_eq_false (by omega)
    have q1 : decide ((n : Int) ≤ a) = false := decide_eq_false (by omega)
    have q2 : decide (k < 0) = false := decide_eq_false (by omega)
    have q3 : decide (7 < k) = false := decide_eq_false (by omega)
    have q4 : decide ((4000 : Int) < (n : Int)) = true := decide_eq_true (by omega)
    have q5 : decide (4000 < n) = true := decide_eq_true (by omega)
    clear h
    go_enter Tryd.func6, Tryd.ntmps6
    go_wp2_with (first
      | (go_at_call 8; (with_reducible refine (shown14_any _).mono ?_); rintro e w' ⟨rfl, rfl⟩)
      | (go_at_call 9; (with_reducible refine (KB.out _ ((Bl.refl w).alloc _)).mono ?_); rintro e w1 ⟨rfl, hb⟩; have G1 := Lib.hid (((Bl.refl w).alloc _).trans hb); clear hb))
    go_ret
    exact ⟨rfl, G1.out⟩
set_option maxRecDepth 100000 in
set_option maxHeartbeats 4000000 in
theorem spoilt_in (r : Rc) (vp vq vt : Value) (hw : r.Wd) (i κ : Nat) (w : World) (hp : Rw .u64 w vp r.p) (hq : Rw .u64 w vq r.q) (ht : Rw .u64 w vt r.t) (hE : ErrT w) (hm : r.May) (hl : (encB r).length ≤ 4000) (hi : i < (encB r).length) (hk : κ < 8) :
    Calls Tryd.prog 6 #[recV r vp vq vt, .int .i64 (i : Int), .int .i64 (κ : Int)] w fun e w' => e = .returned (.bool true) ∧ Bl w w' := by
  have KB0 := Lib.hid (fun W (g : Bl w W) => pBytes_any r vp vq vt hw W (hp.bl g) (hq.bl g) (ht.bl g))
  rw [if_pos hm, if_pos hm] at KB0
  have hz := bs_size (encB r)
  obtain ⟨S, eS⟩ : ∃ S, bs (encB r) = S := ⟨_, rfl⟩
  have KB : Hid (∀ W, Bl w W → Calls Tryd.prog 9 #[recV r vp vq vt] W fun e w' => e = .returned (.tuple #[.string S, .int .i64 0]) ∧ Bl W w') := fun W g => by
    have c := KB0.out W g
    unfold BsEnd at c
    rw [eS] at c
    exact c
  have ha := encB_all r
  have hx := ha i hi
  have hal := turn_all ha i κ hi hk
  have hdec := dec_turned ha (dec_enc r hm hw) i κ hi hk
  have K1 := Lib.hid (fun W (h : ErrT W) => ptake_any ((encB r).set i (turn1 (encB r)[i] κ)) hal (by rw [List.length_set]; omega) W h)
  rw [hdec] at K1
  have hcv := fun W => run_bytes_of_string (P := Tryd.prog) W 9 54 5 (bs (encB r)) Tryd.underlying9 Tryd.underlying54 Tryd.underlying5
  have HBY := Lib.hid (fun (w1 : World) => by_made0 ha w1 5 (grownCap w1 (bs (encB r)).size 0 5) w1.heap.size rfl)
  have htb := turn_bits hx κ hk _ rfl
  have tb := turn1_lt hx hk
  have HCB := Lib.hid (fun W g (h : By W g ((encB r).set i (turn1 (encB r)[i] κ))) (c : Nat) => by_conv (P := Tryd.prog) W 54 9 5 Tryd.underlying54 Tryd.underlying5 Tryd.underlying9 (n := (encB r).length) (c := c) h hal (by rw [List.length_set]))
  have HCE := Lib.hid (fun (W : World) g (h : By W g (encB r)) => h.cell i hi)
  have HFR := Lib.hid (fun (W : World) g (h : By W g (encB r)) => h.free i hi)
  obtain ⟨x, ex⟩ : ∃ x, (encB r)[i] = x := ⟨_, rfl⟩
  rw [ex] at hx K1 htb HCB tb HCE
  obtain ⟨y, ey⟩ : ∃ y, turn1 x κ = y := ⟨_, rfl⟩
  rw [ey] at K1 htb HCB tb
  obtain ⟨B, eB⟩ : ∃ B, encB r = B := ⟨_, rfl⟩
  rw [eB] at K1 HBY HCB HCE HFR hcv eS hz hl hi
  obtain ⟨T, eT⟩ : ∃ S, bs (B.set i y) = S := ⟨_, rfl⟩
  rw [eT] at K1 HCB
  rw [eS] at hz hcv HBY
  obtain ⟨n, hn⟩ : ∃ n, B.length = n := ⟨_, rfl⟩
  rw [hn] at hz HCB hl hi
  rw [hz] at hcv HBY
  have nb : (n : Int) ≤ 4000 := by omega
  have b1 : (0 : Int) ≤ (i : Int) ∧ (i : Int) < (n : Int) := by omega
  have q1 : decide ((n : Int) ≤ (i : Int)) = false := decide_eq_false (by omega)
  have q1' : decide (n ≤ i) = false := decide_eq_false (by omega)
  have q4 : decide ((4000 : Int) < (n : Int)) = false := decide_eq_false (by omega)
  have q5 : decide (4000 < n) = false := decide_eq_false (by omega)
  have xb : (x : Int) ≤ 255 := by omega
  have HE := Lib.hid hE
  clear hal hdec ex ey eT eS hn hi hl ha hx tb KB0 hm hw eB hE
  obtain ⟨con, dgs, gua, frm, til, p, q, t, m⟩ := r
  dsimp only at hp hq ht
  obtain ⟨A1, c1, rfl, _⟩ := hp
  obtain ⟨A2, c2, rfl, _⟩ := hq
  obtain ⟨A3, c3, rfl, _⟩ := ht
  unfold recV at KB ⊢
  dsimp only at KB ⊢
  have hways : κ = 0 ∨ κ = 1 ∨ κ = 2 ∨ κ = 3 ∨ κ = 4 ∨ κ = 5 ∨ κ = 6 ∨ κ = 7 := by omega
  clear hk
  rcases hways with rfl | rfl | rfl | rfl | rfl | rfl | rfl | rfl
  all_goals
    try simp only [show ((2 ^ 0 : Nat) : Int) = 1 from rfl, show ((2 ^ 1 : Nat) : Int) = 2 from rfl, show ((2 ^ 2 : Nat) : Int) = 4 from rfl, show ((2 ^ 3 : Nat) : Int) = 8 from rfl, show ((2 ^ 4 : Nat) : Int) = 16 from rfl, show ((2 ^ 5 : Nat) : Int) = 32 from rfl, show ((2 ^ 6 : Nat) : Int) = 64 from rfl, show ((2 ^ 7 : Nat) : Int) = 128 from rfl] at htb
    go_enter Tryd.func6, Tryd.ntmps6
    go_wp2_with (first
      | (go_at_call 8; (with_reducible refine (shown14_any _).mono ?_); rintro e w' ⟨rfl, rfl⟩)
      | (go_at_call 9; (with_reducible refine (KB.out _ ((Bl.refl w).alloc _)).mono ?_); rintro e w1 ⟨rfl, hb⟩; have G1 := Lib.hid (((Bl.refl w).alloc _).trans hb); have hby := HBY.out w1; have hc := HCE.out _ _ hby; have hf := HFR.out _ _ hby; have hcb := HCB.out _ _ (hby.set i y).drew; have G2 := Lib.hid (((G1.out.alloc (.cells (bytesRow S (grownCap w1 n 0 5)) 5 ((bytesRow S (grownCap w1 n 0 5)).size, (bytesRow S (grownCap w1 n 0 5)).size + 1))).setCell (p := ⟨w1.heap.size, i, none⟩) (Below.size G1.out) (.int .u8 (y : Int))).drew); clear hby; clear hb)
      | (go_at_call 11; (with_reducible refine (K1.out _ (HE.out.bl G2.out)).mono ?_); rintro e w2 ⟨vp', vq', vt', rfl, hp', hq', ht', hb⟩; obtain ⟨Ap, cp, ep⟩ := rw_open hp' rfl; obtain ⟨Aq, cq, eq⟩ := rw_open hq' rfl; obtain ⟨At, ct, et⟩ := rw_open ht' rfl; dsimp only at ep eq et; subst ep; subst eq; subst et; have G3 := Lib.hid (G2.out.trans hb); clear hp' hq' ht' hb; (try dsimp only [recV])))
    go_ret
    exact ⟨rfl, by first | exact G3.out | exact G3.out.alloc _⟩
theorem crcSpoilt_walk (r : Rc) (vp vq vt : Value) (hw : r.Wd) (a : Int) (h1 : -9223372036854775808 ≤ a ∧ a ≤ 9223372036854775807) (k : Int) (h2 : -9223372036854775808 ≤ k ∧ k ≤ 9223372036854775807) (w : World) (hp : Rw .u64 w vp r.p) (hq : Rw .u64 w vq r.q) (ht : Rw .u64 w vt r.t) (hE : ErrT w) :
    Calls Tryd.prog 6 #[recV r vp vq vt, .int .i64 a, .int .i64 k] w fun e w' => e = .returned (.bool true) ∧ Bl w w' := by
  by_cases hm : r.May
  · by_cases h : a < 0 ∨ ((encB r).length : Int) ≤ a ∨ k < 0 ∨ 7 < k ∨ 4000 < (encB r).length
    · exact spoilt_out r vp vq vt hw a k w hp hq ht hm h
    · obtain ⟨i, rfl⟩ : ∃ i : Nat, a = (i : Int) := ⟨a.toNat, by omega⟩
      obtain ⟨κ, rfl⟩ : ∃ i : Nat, k = (i : Int) := ⟨k.toNat, by omega⟩
      exact spoilt_in r vp vq vt hw i κ w hp hq ht hE hm (by omega) (by omega) (by omega)
  · exact spoilt_no r vp vq vt hw a k w hp hq ht hm
end Go.Proofs.YtpdglbfnmilblaaDoor
