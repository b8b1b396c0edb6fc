/-
  The document's rows of digits (layer 4): Add, Sub. · The document's rows of digits (layer 4): Sub.
-/
import Derived.Test.YtfmkbeffhdphfaaPk7
import Derived.Deep.QuietTactic
import Derived.BigQuiet
namespace Go.Proofs.Ytfmkbeffhdphfaa
open Go.RowKit
set_option linter.unusedVariables false

theorem dig_getD (B : Nat) (hB : 2 ≤ B) (X i : Nat) : (dig B X).getD i 0 = X / B ^ i % B := by
  by_cases h : i < (dig B X).length
  · have e : (dig B X).getD i 0 = (dig B X)[i] := by simp [h]
    rw [e, dig_get B hB]
  · have e : (dig B X).getD i 0 = 0 := by simp [h]
    have hlt := dig_lt B hB X
    rw [e, Nat.div_eq_of_lt (Nat.lt_of_lt_of_le hlt (Nat.pow_le_pow_right (by omega) (by omega))), Nat.zero_mod]
theorem mod_succ (B X i : Nat) : X % B ^ (i + 1) = X % B ^ i + B ^ i * (X / B ^ i % B) := by rw [Nat.pow_succ, Nat.mod_mul]
theorem mod_all (B : Nat) (hB : 2 ≤ B) (X i : Nat) (h : (dig B X).length ≤ i) : X % B ^ i = X :=
  Nat.mod_eq_of_lt (Nat.lt_of_lt_of_le (dig_lt B hB X) (Nat.pow_le_pow_right (by omega) h))
theorem div_all (B : Nat) (hB : 2 ≤ B) (X i : Nat) (h : (dig B X).length ≤ i) : X / B ^ i % B = 0 := by
  rw [Nat.div_eq_of_lt (Nat.lt_of_lt_of_le (dig_lt B hB X) (Nat.pow_le_pow_right (by omega) h)), Nat.zero_mod]

/-- Behind i digits of a sum. -/
structure Ad (X Y n m i c : Nat) (out : List Nat) : Prop where
  len : out.length = i
  all : All 65536 out
  num : val 65536 out + 65536 ^ i * c = X % 65536 ^ i + Y % 65536 ^ i
  lt : c ≤ 1
  far : i ≤ max n m ∨ (i = max n m + 1 ∧ c = 0)
theorem ad_start (X Y n m : Nat) : Ad X Y n m 0 0 [] := ⟨rfl, all_nil _, by simp [val, Nat.mod_one], by omega, Or.inl (Nat.zero_le _)⟩
theorem ad_step {X Y n m i c : Nat} {out : List Nat} (hX : (dig 65536 X).length = n) (hY : (dig 65536 Y).length = m) (h : Ad X Y n m i c out) (hg : i < n ∨ i < m ∨ 0 < c) :
    Ad X Y n m (i + 1) ((X / 65536 ^ i % 65536 + Y / 65536 ^ i % 65536 + c) / 65536) (out ++ [(X / 65536 ^ i % 65536 + Y / 65536 ^ i % 65536 + c) % 65536]) := by
  have h1 : X / 65536 ^ i % 65536 < 65536 := Nat.mod_lt _ (by decide)
  have h2 : Y / 65536 ^ i % 65536 < 65536 := Nat.mod_lt _ (by decide)
  have hc := h.lt
  refine ⟨by rw [List.length_append, h.len]; rfl, all_snoc h.all (Nat.mod_lt _ (by decide)), ?_, by omega, ?_⟩
  · rw [val_append, val_one, h.len, mod_succ, mod_succ, Nat.pow_succ, Nat.mul_assoc, Nat.add_assoc, ← Nat.mul_add, Nat.mod_add_div, Nat.mul_add, Nat.mul_add]
    have := h.num
    omega
  · by_cases ha : i < n
    · exact Or.inl (by have := Nat.le_max_left n m; omega)
    · by_cases hb : i < m
      · exact Or.inl (by have := Nat.le_max_right n m; omega)
      · refine Or.inr ?_
        have e1 := div_all 65536 (by decide) X i (by omega)
        have e2 := div_all 65536 (by decide) Y i (by omega)
        rw [e1, e2]
        rcases h.far with hf | ⟨hf, hc0⟩
        · constructor
          · rcases Nat.le_total n m with h' | h'
            · rw [Nat.max_eq_right h'] at hf ⊢; omega
            · rw [Nat.max_eq_left h'] at hf ⊢; omega
          · omega
        · omega
theorem ad_end {X Y n m i : Nat} {out : List Nat} (hX : (dig 65536 X).length = n) (hY : (dig 65536 Y).length = m) (h : Ad X Y n m i 0 out) (h1 : n ≤ i) (h2 : m ≤ i) : val 65536 out = X + Y := by
  have := h.num
  rw [Nat.mul_zero, mod_all 65536 (by decide) X i (by omega), mod_all 65536 (by decide) Y i (by omega)] at this
  exact this
theorem ad_num (X Y i c : Nat) (hc : c ≤ 1) : ∃ d1 d2 s r q : Nat, X / 65536 ^ i % 65536 = d1 ∧ Y / 65536 ^ i % 65536 = d2 ∧ (d1 : Int) < 65536 ∧ (d2 : Int) < 65536 ∧ (d1 : Int) + (d2 : Int) + (c : Int) = (s : Int) ∧ s = d1 + d2 + c ∧ (s : Int) ≤ 131071 ∧ (s : Int) % 65536 = (r : Int) ∧ (s : Int) / 65536 = (q : Int) ∧ s % 65536 = r ∧ s / 65536 = q := by
  have h1 : X / 65536 ^ i % 65536 < 65536 := Nat.mod_lt _ (by decide)
  have h2 : Y / 65536 ^ i % 65536 < 65536 := Nat.mod_lt _ (by decide)
  exact ⟨_, _, _, _, _, rfl, rfl, by omega, by omega, (by simp only [Int.natCast_add]), rfl, by omega, by omega, by omega, rfl, rfl⟩

set_option maxRecDepth 100000 in
set_option maxHeartbeats 2000000 in
theorem radd4_any (v1 v2 : Value) (X Y : Nat) (hl1 : (dig 65536 X).length < 549755813888) (hl2 : (dig 65536 Y).length < 549755813888) (w : World) (hr1 : Rw .i64 w v1 (dig 65536 X)) (hr2 : Rw .i64 w v2 (dig 65536 Y)) :
    Calls Try.prog 25 #[v1, v2] w (RwEnd .i64 w (dig 65536 (X + Y))) := by
  obtain ⟨i0, hi, hz0, hz1, hz2⟩ := info_parts Try.infoInt
  have R1 := Lib.hid hr1
  have R2 := Lib.hid hr2
  obtain ⟨A1, c1, rfl, _, _, _, _⟩ := hr1
  obtain ⟨A2, c2, rfl, _, _, _, _⟩ := hr2
  obtain ⟨n, hn⟩ : ∃ n, (dig 65536 X).length = n := ⟨_, rfl⟩
  obtain ⟨m, hm⟩ : ∃ m, (dig 65536 Y).length = m := ⟨_, rfl⟩
  rw [hn] at hl1 R1
  rw [hm] at hl2 R2
  have HN := Lib.hid hn
  have HM := Lib.hid hm
  have hnb : (n : Int) ≤ 549755813888 := by omega
  have hmb : (m : Int) ≤ 549755813888 := by omega
  rw [hn, hm]
  clear hn hm hl1 hl2
  go_enter Try.func25, Try.ntmps25
  go_wp2
  go_loopw [5, 6, 7] (fun o k s wr => ∃ (i c : Nat) (out : List Nat), i ≤ max n m + 1 ∧ s = .int .i64 (i : Int) ∧ k = .int .i64 (c : Int) ∧ Hid (Ow .i64 3 w.heap.size wr o out) ∧ Hid (Ad X Y n m i c out) ∧ Hid (Bl w wr)) (fun _ _ s _ => max n m + 1 - (intOf s).toNat)
  case atStart => exact ⟨0, 0, [], Nat.zero_le _, rfl, rfl, Ow.nil _ _ _ _, ad_start X Y n m, Bl.refl w⟩
  case round =>
    obtain ⟨i, c, out, hil, rfl, rfl, hown, hd, hb⟩ := hrel
    have hmx : max n m ≤ 549755813888 := Nat.max_le.2 ⟨by omega, by omega⟩
    have hib : (i : Int) ≤ 549755813889 := by omega
    by_cases hg : i < n ∨ i < m ∨ 0 < c
    · have HS := Lib.hid (ad_step HN.out HM.out hd.out hg)
      obtain ⟨d1, d2, s, r, q, e1, e2, b1, b2, r1, e3, b3, r2, r3, e4, e5⟩ := ad_num X Y i c hd.out.lt
      rw [e1, e2, ← e3, e4, e5] at HS
      have hlen : out.length < 1099511627776 := by rw [hd.out.len]; omega
      have hfar : i + 1 ≤ max n m + 1 := by
        rcases HS.out.far with h | ⟨h, _⟩ <;> omega
      have D1 := Lib.hid (fun w h => rdigit_any (.slice A1 n c1) (dig 65536 X) i (by omega) w h)
      have D2 := Lib.hid (fun w h => rdigit_any (.slice A2 m c2) (dig 65536 Y) i (by omega) w h)
      rw [dig_getD 65536 (by decide), e1] at D1
      rw [dig_getD 65536 (by decide), e2] at D2
      have q1 := Lib.hid (R1.out.bl hb.out)
      have q2 := Lib.hid (R2.out.bl hb.out)
      have cb : (c : Int) ≤ 1 := by have := hd.out.lt; omega
      have HL := Lib.hid hlen
      have HF := Lib.hid hfar
      clear hd e1 e2 e3 e4 e5 hmx hlen hfar hil
      have hg' : (decide (i < n) = true) ∨ (decide (i < n) = false ∧ decide (i < m) = true) ∨ (decide (i < n) = false ∧ decide (i < m) = false ∧ 0 < c) := by
        by_cases ha : i < n
        · exact Or.inl (decide_eq_true ha)
        · by_cases hb' : i < m
          · exact Or.inr (Or.inl ⟨decide_eq_false ha, decide_eq_true hb'⟩)
          · exact Or.inr (Or.inr ⟨decide_eq_false ha, decide_eq_false hb', by omega⟩)
      clear hg
      rcases hg' with g1 | ⟨g1, g2⟩ | ⟨g1, g2, g3⟩
      all_goals
        go_wp2_with (first
          | (go_at_call 45; (with_reducible refine (D1.out _ q1.out).mono ?_); rintro e w' ⟨rfl, rfl⟩)
          | (go_at_call 45; (with_reducible refine (D2.out _ q2.out).mono ?_); rintro e w' ⟨rfl, rfl⟩)
          | (at_builtin; refine app_one w wr .i64 34 3 i0 (.int .i64 0) 8 Try.underlying34 hi hz0 hz1 hz2 rfl (by decide) rfl _ _ rfl u5 out r rfl rfl hown.out hb.out HL.out ?_; intro v' w' hown' hbl'))
        go_roundw
        case rel => exact ⟨i + 1, q, _, HF.out, by go_num, rfl, hown', HS, hbl'⟩
        case measure => have := HF.out; simp [intOf] <;> omega
    · have hc0 : c = 0 := by omega
      have hn' : n ≤ i := by omega
      have hm' : m ≤ i := by omega
      subst hc0
      have hlen : out.length < 1099511627776 := by rw [hd.out.len]; omega
      have T := Lib.hid (fun W h => rtrim_any u5 out hd.out.all hlen W h)
      rw [ad_end HN.out HM.out hd.out hn' hm'] at T
      have HR := Lib.hid hown.out.rw
      have g1 : decide (i < n) = false := decide_eq_false (by omega)
      have g2 : decide (i < m) = false := decide_eq_false (by omega)
      clear hlen hd hg hn' hm' hmx
      go_wp2_with (go_at_call 36; (with_reducible refine (T.out _ HR.out).mono ?_); rintro e w' ⟨v', rfl, hr, hb'⟩; have HR' := Lib.hid hr; have HB' := Lib.hid hb'; clear hr hb')
      go_ret
      exact RwEnd.mk HR'.out (hb.out.trans HB'.out)
end Go.Proofs.Ytfmkbeffhdphfaa
namespace Go.Proofs.Ytfmkbeffhdphfaa
open Go.RowKit
set_option linter.unusedVariables false

/-- Behind i digits of a difference. -/
structure Sb (X Y i c : Nat) (out : List Nat) : Prop where
  len : out.length = i
  all : All 65536 out
  num : val 65536 out + Y % 65536 ^ i = X % 65536 ^ i + 65536 ^ i * c
  lt : c ≤ 1
theorem sb_start (X Y : Nat) : Sb X Y 0 0 [] := ⟨rfl, all_nil _, by simp [val, Nat.mod_one], by omega⟩
theorem sb_step {X Y i c : Nat} {out : List Nat} (h : Sb X Y i c out) (r c' : Nat) (hr : r < 65536) (hc' : c' ≤ 1) (e : r + Y / 65536 ^ i % 65536 + c = X / 65536 ^ i % 65536 + 65536 * c') : Sb X Y (i + 1) c' (out ++ [r]) := by
  refine ⟨by rw [List.length_append, h.len]; rfl, all_snoc h.all hr, ?_, hc'⟩
  rw [val_append, val_one, h.len, mod_succ, mod_succ, Nat.pow_succ, Nat.mul_assoc]
  have h1 := h.num
  have h2 : 65536 ^ i * (r + Y / 65536 ^ i % 65536 + c) = 65536 ^ i * (X / 65536 ^ i % 65536 + 65536 * c') := by rw [e]
  simp only [Nat.mul_add] at h2
  omega
theorem sb_end {X Y n c : Nat} {out : List Nat} (hX : (dig 65536 X).length = n) (hle : Y ≤ X) (h : Sb X Y n c out) : val 65536 out = X - Y := by
  have hXl := dig_lt 65536 (by decide) X
  rw [hX] at hXl
  have e := h.num
  rw [Nat.mod_eq_of_lt hXl, Nat.mod_eq_of_lt (Nat.lt_of_le_of_lt hle hXl)] at e
  have hv := val_lt 65536 (by decide) out h.all
  rw [h.len] at hv
  have hc : c = 0 := by
    rcases Nat.eq_zero_or_pos c with h0 | h0
    · exact h0
    · have : c = 1 := by have := h.lt; omega
      rw [this, Nat.mul_one] at e
      omega
  rw [hc, Nat.mul_zero] at e
  omega
theorem sb_num (d1 d2 c : Nat) (h1 : d1 < 65536) (h2 : d2 < 65536) (hc : c ≤ 1) : ∃ t z : Int, IntKind.i64.wrap ((d1 : Int) - (d2 : Int)) = t ∧ IntKind.i64.wrap (t - (c : Int)) = z ∧ z = (d1 : Int) - (d2 : Int) - (c : Int) ∧ -65537 ≤ z ∧ z ≤ 65535 :=
  ⟨(d1 : Int) - (d2 : Int), (d1 : Int) - (d2 : Int) - (c : Int), IntWalk.i64_in _ (by omega), IntWalk.i64_in _ (by omega), rfl, by omega, by omega⟩

theorem quiet_sym {P : Program} {f : FuncId} {args : Array Value} {w : World} {v : Value} (h : Calls P f args w fun e w' => e = .returned v ∧ w = w') : Calls P f args w fun e w' => e = .returned v ∧ w' = w :=
  h.mono fun _ _ ⟨he, hw⟩ => ⟨he, hw.symm⟩
theorem quiet_left {P : Program} {f : FuncId} {args : Array Value} {w : World} {n : Nat} {v : Value} (h : Calls P f args (w.drewN n) fun e w' => e = .returned v ∧ w.drewN n = w') : Calls P f args (w.drewN n) fun e w'' => e = .returned v ∧ ∃ m, w'' = w.drewN m :=
  h.mono fun _ _ ⟨he, hm⟩ => ⟨he, n, hm.symm⟩

set_option maxRecDepth 100000 in
set_option maxHeartbeats 2000000 in
theorem rsub4_any (v1 v2 : Value) (X Y : Nat) (hle : Y ≤ X) (hl1 : (dig 65536 X).length < 549755813888) (w : World) (hr1 : Rw .i64 w v1 (dig 65536 X)) (hr2 : Rw .i64 w v2 (dig 65536 Y)) :
    Calls Try.prog 53 #[v1, v2] w (RwEnd .i64 w (dig 65536 (X - Y))) := by
  obtain ⟨i0, hi, hz0, hz1, hz2⟩ := info_parts Try.infoInt
  have R2 := Lib.hid hr2
  obtain ⟨A1, c1, rfl, _, _, _, hx1⟩ := hr1
  have H1 := Lib.hid hx1
  obtain ⟨A2, c2, rfl, _, _, _, _⟩ := hr2
  obtain ⟨n, hn⟩ : ∃ n, (dig 65536 X).length = n := ⟨_, rfl⟩
  obtain ⟨m, hm⟩ : ∃ m, (dig 65536 Y).length = m := ⟨_, rfl⟩
  rw [hn] at hl1
  rw [hm] at R2
  have HN := Lib.hid hn
  have HM := Lib.hid hm
  have HLE := Lib.hid hle
  have hnb : (n : Int) ≤ 549755813888 := by omega
  rw [hn, hm]
  clear hn hm hl1 hx1 hle
  go_enter Try.func53, Try.ntmps53
  go_wp2
  go_loopw [5, 6, 7] (fun o k s wr => ∃ (i c : Nat) (out : List Nat), i ≤ n ∧ s = .int .i64 (i : Int) ∧ k = .int .i64 (c : Int) ∧ Hid (Ow .i64 3 w.heap.size wr o out) ∧ Hid (Sb X Y i c out) ∧ Hid (Bl w wr)) (fun _ _ s _ => n - (intOf s).toNat)
  case atStart => exact ⟨0, 0, [], Nat.zero_le _, rfl, rfl, Ow.nil _ _ _ _, sb_start X Y, Bl.refl w⟩
  case round =>
    obtain ⟨i, c, out, hil, rfl, rfl, hown, hd, hb⟩ := hrel
    by_cases hlt : i < n
    · obtain ⟨ad, hA, hc⟩ := (H1.out.bl hb.out).at_ (i := i) (by rw [HN.out]; exact hlt)
      rw [dig_get 65536 (by decide)] at hc
      have hd1 : X / 65536 ^ i % 65536 < 65536 := Nat.mod_lt _ (by decide)
      have hd2 : Y / 65536 ^ i % 65536 < 65536 := Nat.mod_lt _ (by decide)
      have hcb := hd.out.lt
      have hib : i < 549755813888 := by omega
      have D2 := fun w h => rdigit_any (.slice A2 m c2) (dig 65536 Y) i (by omega) w h
      have HS := fun r c' h1 h2 h3 => sb_step hd.out r c' h1 h2 h3
      rw [dig_getD 65536 (by decide)] at D2
      obtain ⟨d1, e1⟩ : ∃ d, X / 65536 ^ i % 65536 = d := ⟨_, rfl⟩
      obtain ⟨d2, e2⟩ : ∃ d, Y / 65536 ^ i % 65536 = d := ⟨_, rfl⟩
      rw [e1] at hd1 HS hc
      rw [e2] at hd2 HS D2
      obtain ⟨t, z, r1, r2, hz, z1, z2⟩ := sb_num d1 d2 c hd1 hd2 hcb
      have hlen : out.length < 1099511627776 := by rw [hd.out.len]; omega
      have HD := Lib.hid D2
      have q2 := Lib.hid (R2.out.bl hb.out)
      have HL := Lib.hid hlen
      have b2 : (0 : Int) ≤ (i : Int) ∧ (i : Int) < (n : Int) := by omega
      have hib' : (i : Int) ≤ 549755813888 := by omega
      subst hA
      by_cases hneg : z < 0
      · obtain ⟨r, hr⟩ : ∃ r : Nat, z + 65536 = (r : Int) := ⟨(z + 65536).toNat, by omega⟩
        have HS' := Lib.hid (HS r 1 (by omega) (by omega) (by omega))
        have r3 : IntKind.i64.wrap (z + 65536) = (r : Int) := by rw [hr]; exact IntWalk.i64_in _ (by omega)
        have r4 : z + 65536 = (r : Int) := hr
        clear HS D2 hz hd1 hd2 hcb hib hlen e1 e2 hd hr
        go_wp2
        go_quiet ((go_at_call 45; exact quiet_left (HD.out _ (q2.out.bl ((Bl.refl wr).drewN _)))))
        have ho2 := Lib.hid (hown.out.bl ((Bl.refl wr).drewN nq))
        have hb2 := Lib.hid (hb.out.drewN nq)
        go_wp2_with (at_builtin; refine app_one w (wr.drewN nq) .i64 34 3 i0 (.int .i64 0) 8 Try.underlying34 hi hz0 hz1 hz2 rfl (by decide) rfl _ _ rfl u5 out r rfl rfl ho2.out hb2.out HL.out ?_; intro v' w' hown' hbl')
        go_roundw
        case rel => exact ⟨i + 1, 1, _, by omega, by go_num, rfl, hown', HS', hbl'⟩
        case measure => simp [intOf] <;> omega
      · obtain ⟨r, hr⟩ : ∃ r : Nat, z = (r : Int) := ⟨z.toNat, by omega⟩
        have HS' := Lib.hid (HS r 0 (by omega) (by omega) (by omega))
        have hneg' : ¬ ((r : Int) < 0) := by omega
        subst hr
        clear HS D2 hz hd1 hd2 hcb hib hlen e1 e2 hd hneg
        go_wp2
        go_quiet ((go_at_call 45; exact quiet_left (HD.out _ (q2.out.bl ((Bl.refl wr).drewN _)))))
        have ho2 := Lib.hid (hown.out.bl ((Bl.refl wr).drewN nq))
        have hb2 := Lib.hid (hb.out.drewN nq)
        go_wp2_with (at_builtin; refine app_one w (wr.drewN nq) .i64 34 3 i0 (.int .i64 0) 8 Try.underlying34 hi hz0 hz1 hz2 rfl (by decide) rfl _ _ rfl u5 out r rfl rfl ho2.out hb2.out HL.out ?_; intro v' w' hown' hbl')
        go_roundw
        case rel => exact ⟨i + 1, 0, _, by omega, by go_num, rfl, hown', HS', hbl'⟩
        case measure => simp [intOf] <;> omega
    · have hil2 : i = n := by omega
      have hd' := hd.out
      have hlen : out.length < 1099511627776 := by rw [hd'.len]; omega
      have T := Lib.hid (fun W h => rtrim_any u5 out hd'.all hlen W h)
      subst hil2
      rw [sb_end HN.out HLE.out hd'] at T
      have HR := Lib.hid hown.out.rw
      clear hlen hd hd'
      go_wp2_with (go_at_call 36; (with_reducible refine (T.out _ HR.out).mono ?_); rintro e w' ⟨v', rfl, hr, hb'⟩; have HR' := Lib.hid hr; have HB' := Lib.hid hb'; clear hr hb')
      go_ret
      exact RwEnd.mk HR'.out (hb.out.trans HB'.out)
end Go.Proofs.Ytfmkbeffhdphfaa
