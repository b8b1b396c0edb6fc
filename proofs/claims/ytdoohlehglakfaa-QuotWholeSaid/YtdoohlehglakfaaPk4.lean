/-
  The document's rows of digits (layer 4): Add, Sub.
-/
import Derived.Test.YtdoohlehglakfaaPk3
import Derived.Deep.QuietTactic
namespace Go.Proofs.Ytdoohlehglakfaa
open Go.RowKit
set_option linter.unusedVariables false

theorem dig_getD (B : Nat) (hB : 2 ≤ B) (X i : Nat) : (dig B X).getD i 0 = X / B ^ i % B := by
  by_cases h : i < (dig B X).length
  · have e : (dig B X).getD i 0 = (dig B X)[i] := by simp [h]
    rw [e, dig_get B hB]
  · have e : (dig B X).getD i 0 = 0 := by simp [h]
    have hlt := dig_lt B hB X
    rw [e, Nat.div_eq_of_lt (Nat.lt_of_lt_of_le hlt (Nat.pow_le_pow_right (by omega) (by omega))), Nat.zero_mod]
theorem mod_succ (B X i : Nat) : X % B ^ (i + 1) = X % B ^ i + B ^ i * (X / B ^ i % B) := by rw [Nat.pow_succ, Nat.mod_mul]
theorem mod_all (B : Nat) (hB : 2 ≤ B) (X i : Nat) (h : (dig B X).length ≤ i) : X % B ^ i = X :=
  Nat.mod_eq_of_lt (Nat.lt_of_lt_of_le (dig_lt B hB X) (Nat.pow_le_pow_right (by omega) h))
theorem div_all (B : Nat) (hB : 2 ≤ B) (X i : Nat) (h : (dig B X).length ≤ i) : X / B ^ i % B = 0 := by
  rw [Nat.div_eq_of_lt (Nat.lt_of_lt_of_le (dig_lt B hB X) (Nat.pow_le_pow_right (by omega) h)), Nat.zero_mod]

/-- Behind i digits of a sum. -/
structure Ad (X Y n m i c : Nat) (out : List Nat) : Prop where
  len : out.length = i
  all : All 65536 out
  num : val 65536 out + 65536 ^ i * c = X % 65536 ^ i + Y % 65536 ^ i
  lt : c ≤ 1
  far : i ≤ max n m ∨ (i = max n m + 1 ∧ c = 0)
theorem ad_start (X Y n m : Nat) : Ad X Y n m 0 0 [] := ⟨rfl, all_nil _, by simp [val, Nat.mod_one], by omega, Or.inl (Nat.zero_le _)⟩
theorem ad_step {X Y n m i c : Nat} {out : List Nat} (hX : (dig 65536 X).length = n) (hY : (dig 65536 Y).length = m) (h : Ad X Y n m i c out) (hg : i < n ∨ i < m ∨ 0 < c) :
    Ad X Y n m (i + 1) ((X / 65536 ^ i % 65536 + Y / 65536 ^ i % 65536 + c) / 65536) (out ++ [(X / 65536 ^ i % 65536 + Y / 65536 ^ i % 65536 + c) % 65536]) := by
  have h1 : X / 65536 ^ i % 65536 < 65536 := Nat.mod_lt _ (by decide)
  have h2 : Y / 65536 ^ i % 65536 < 65536 := Nat.mod_lt _ (by decide)
  have hc := h.lt
  refine ⟨by rw [List.length_append, h.len]; rfl, all_snoc h.all (Nat.mod_lt _ (by decide)), ?_, by omega, ?_⟩
  · rw [val_append, val_one, h.len, mod_succ, mod_succ, Nat.pow_succ, Nat.mul_assoc, Nat.add_assoc, ← Nat.mul_add, Nat.mod_add_div, Nat.mul_add, Nat.mul_add]
    have := h.num
    omega
  · by_cases ha : i < n
    · exact Or.inl (by have := Nat.le_max_left n m; omega)
    · by_cases hb : i < m
      · exact Or.inl (by have := Nat.le_max_right n m; omega)
      · refine Or.inr ?_
        have e1 := div_all 65536 (by decide) X i (by omega)
        have e2 := div_all 65536 (by decide) Y i (by omega)
        rw [e1, e2]
        rcases h.far with hf | ⟨hf, hc0⟩
        · constructor
          · rcases Nat.le_total n m with h' | h'
            · rw [Nat.max_eq_right h'] at hf ⊢; omega
            · rw [Nat.max_eq_left h'] at hf ⊢; omega
          · omega
        · omega
theorem ad_end {X Y n m i : Nat} {out : List Nat} (hX : (dig 65536 X).length = n) (hY : (dig 65536 Y).length = m) (h : Ad X Y n m i 0 out) (h1 : n ≤ i) (h2 : m ≤ i) : val 65536 out = X + Y := by
  have := h.num
  rw [Nat.mul_zero, mod_all 65536 (by decide) X i (by omega), mod_all 65536 (by decide) Y i (by omega)] at this
  exact this
theorem ad_num (X Y i c : Nat) (hc : c ≤ 1) : ∃ d1 d2 s r q : Nat, X / 65536 ^ i % 65536 = d1 ∧ Y / 65536 ^ i % 65536 = d2 ∧ (d1 : Int) < 65536 ∧ (d2 : Int) < 65536 ∧ (d1 : Int) + (d2 : Int) + (c : Int) = (s : Int) ∧ s = d1 + d2 + c ∧ (s : Int) ≤ 131071 ∧ (s : Int) % 65536 = (r : Int) ∧ (s : Int) / 65536 = (q : Int) ∧ s % 65536 = r ∧ s / 65536 = q := by
  have h1 : X / 65536 ^ i % 65536 < 65536 := Nat.mod_lt _ (by decide)
  have h2 : Y / 65536 ^ i % 65536 < 65536 := Nat.mod_lt _ (by decide)
  exact ⟨_, _, _, _, _, rfl, rfl, by omega, by omega, (by simp only [Int.natCast_add]), rfl, by omega, by omega, by omega, rfl, rfl⟩

set_option maxRecDepth 100000 in
set_option maxHeartbeats 2000000 in
theorem radd4_any (v1 v2 : Value) (X Y : Nat) (hl1 : (dig 65536 X).length < 549755813888) (hl2 : (dig 65536 Y).length < 549755813888) (w : World) (hr1 : Rw .i64 w v1 (dig 65536 X)) (hr2 : Rw .i64 w v2 (dig 65536 Y)) :
    Calls Try.prog 8 #[v1, v2] w (RwEnd .i64 w (dig 65536 (X + Y))) := by
  obtain ⟨i0, hi, hz0, hz1, hz2⟩ := info_parts Try.infoInt
  have R1 := Lib.hid hr1
  have R2 := Lib.hid hr2
  obtain ⟨A1, c1, rfl, _, _, _, _⟩ := hr1
  obtain ⟨A2, c2, rfl, _, _, _, _⟩ := hr2
  obtain ⟨n, hn⟩ : ∃ n, (dig 65536 X).length = n := ⟨_, rfl⟩
  obtain ⟨m, hm⟩ : ∃ m, (dig 65536 Y).length = m := ⟨_, rfl⟩
  rw [hn] at hl1 R1
  rw [hm] at hl2 R2
  have HN := Lib.hid hn
  have HM := Lib.hid hm
  have hnb : (n : Int) ≤ 549755813888 := by omega
  have hmb : (m : Int) ≤ 549755813888 := by omega
  rw [hn, hm]
  clear hn hm hl1 hl2
  go_enter Try.func8, Try.ntmps8
  go_wp2
  go_loopw [5, 6, 7] (fun o k s wr => ∃ (i c : Nat) (out : List Nat), i ≤ max n m + 1 ∧ s = .int .i64 (i : Int) ∧ k = .int .i64 (c : Int) ∧ Hid (Ow .i64 3 w.heap.size wr o out) ∧ Hid (Ad X Y n m i c out) ∧ Hid (Bl w wr)) (fun _ _ s _ => max n m + 1 - (intOf s).toNat)
  case atStart => exact ⟨0, 0, [], Nat.zero_le _, rfl, rfl, Ow.nil _ _ _ _, ad_start X Y n m, Bl.refl w⟩
  case round =>
    obtain ⟨i, c, out, hil, rfl, rfl, hown, hd, hb⟩ := hrel
    have hmx : max n m ≤ 549755813888 := Nat.max_le.2 ⟨by omega, by omega⟩
    have hib : (i : Int) ≤ 549755813889 := by omega
    by_cases hg : i < n ∨ i < m ∨ 0 < c
    · have HS := Lib.hid (ad_step HN.out HM.out hd.out hg)
      obtain ⟨d1, d2, s, r, q, e1, e2, b1, b2, r1, e3, b3, r2, r3, e4, e5⟩ := ad_num X Y i c hd.out.lt
      rw [e1, e2, ← e3, e4, e5] at HS
      have hlen : out.length < 1099511627776 := by rw [hd.out.len]; omega
      have hfar : i + 1 ≤ max n m + 1 := by
        rcases HS.out.far with h | ⟨h, _⟩ <;> omega
      have D1 := Lib.hid (fun w h => rdigit_any (.slice A1 n c1) (dig 65536 X) i (by omega) w h)
      have D2 := Lib.hid (fun w h => rdigit_any (.slice A2 m c2) (dig 65536 Y) i (by omega) w h)
      rw [dig_getD 65536 (by decide), e1] at D1
      rw [dig_getD 65536 (by decide), e2] at D2
      have q1 := Lib.hid (R1.out.bl hb.out)
      have q2 := Lib.hid (R2.out.bl hb.out)
      have cb : (c : Int) ≤ 1 := by have := hd.out.lt; omega
      have HL := Lib.hid hlen
      have HF := Lib.hid hfar
      clear hd e1 e2 e3 e4 e5 hmx hlen hfar hil
      have hg' : (decide (i < n) = true) ∨ (decide (i < n) = false ∧ decide (i < m) = true) ∨ (decide (i < n) = false ∧ decide (i < m) = false ∧ 0 < c) := by
        by_cases ha : i < n
        · exact Or.inl (decide_eq_true ha)
        · by_cases hb' : i < m
          · exact Or.inr (Or.inl ⟨decide_eq_false ha, decide_eq_true hb'⟩)
          · exact Or.inr (Or.inr ⟨decide_eq_false ha, decide_eq_false hb', by omega⟩)
      clear hg
      rcases hg' with g1 | ⟨g1, g2⟩ | ⟨g1, g2, g3⟩
      all_goals
        go_wp2_with (first
          | (go_at_call 17; (with_reducible refine (D1.out _ q1.out).mono ?_); rintro e w' ⟨rfl, rfl⟩)
          | (go_at_call 17; (with_reducible refine (D2.out _ q2.out).mono ?_); rintro e w' ⟨rfl, rfl⟩)
          | (at_builtin; refine app_one w wr .i64 28 3 i0 (.int .i64 0) 8 Try.underlying28 hi hz0 hz1 hz2 rfl (by decide) rfl _ _ rfl u5 out r rfl rfl hown.out hb.out HL.out ?_; intro v' w' hown' hbl'))
        go_roundw
        case rel => exact ⟨i + 1, q, _, HF.out, by go_num, rfl, hown', HS, hbl'⟩
        case measure => have := HF.out; simp [intOf] <;> omega
    · have hc0 : c = 0 := by omega
      have hn' : n ≤ i := by omega
      have hm' : m ≤ i := by omega
      subst hc0
      have hlen : out.length < 1099511627776 := by rw [hd.out.len]; omega
      have T := Lib.hid (fun W h => rtrim_any u5 out hd.out.all hlen W h)
      rw [ad_end HN.out HM.out hd.out hn' hm'] at T
      have HR := Lib.hid hown.out.rw
      have g1 : decide (i < n) = false := decide_eq_false (by omega)
      have g2 : decide (i < m) = false := decide_eq_false (by omega)
      clear hlen hd hg hn' hm' hmx
      go_wp2_with (go_at_call 16; (with_reducible refine (T.out _ HR.out).mono ?_); rintro e w' ⟨v', rfl, hr, hb'⟩; have HR' := Lib.hid hr; have HB' := Lib.hid hb'; clear hr hb')
      go_ret
      exact RwEnd.mk HR'.out (hb.out.trans HB'.out)
end Go.Proofs.Ytdoohlehglakfaa
