/-
  The document's rows of digits (layer 4): Sub.
-/
import Derived.Test.YtojpfijjnocboaaPk8
import Derived.Deep.QuietTactic
import Derived.BigQuiet
namespace Go.Proofs.Ytojpfijjnocboaa
open Go.RowKit
set_option linter.unusedVariables false

/-- Behind i digits of a difference. -/
structure Sb (X Y i c : Nat) (out : List Nat) : Prop where
  len : out.length = i
  all : All 65536 out
  num : val 65536 out + Y % 65536 ^ i = X % 65536 ^ i + 65536 ^ i * c
  lt : c ≤ 1
theorem sb_start (X Y : Nat) : Sb X Y 0 0 [] := ⟨rfl, all_nil _, by simp [val, Nat.mod_one], by omega⟩
theorem sb_step {X Y i c : Nat} {out : List Nat} (h : Sb X Y i c out) (r c' : Nat) (hr : r < 65536) (hc' : c' ≤ 1) (e : r + Y / 65536 ^ i % 65536 + c = X / 65536 ^ i % 65536 + 65536 * c') : Sb X Y (i + 1) c' (out ++ [r]) := by
  refine ⟨by rw [List.length_append, h.len]; rfl, all_snoc h.all hr, ?_, hc'⟩
  rw [val_append, val_one, h.len, mod_succ, mod_succ, Nat.pow_succ, Nat.mul_assoc]
  have h1 := h.num
  have h2 : 65536 ^ i * (r + Y / 65536 ^ i % 65536 + c) = 65536 ^ i * (X / 65536 ^ i % 65536 + 65536 * c') := by rw [e]
  simp only [Nat.mul_add] at h2
  omega
theorem sb_end {X Y n c : Nat} {out : List Nat} (hX : (dig 65536 X).length = n) (hle : Y ≤ X) (h : Sb X Y n c out) : val 65536 out = X - Y := by
  have hXl := dig_lt 65536 (by decide) X
  rw [hX] at hXl
  have e := h.num
  rw [Nat.mod_eq_of_lt hXl, Nat.mod_eq_of_lt (Nat.lt_of_le_of_lt hle hXl)] at e
  have hv := val_lt 65536 (by decide) out h.all
  rw [h.len] at hv
  have hc : c = 0 := by
    rcases Nat.eq_zero_or_pos c with h0 | h0
    · exact h0
    · have : c = 1 := by have := h.lt; omega
      rw [this, Nat.mul_one] at e
      omega
  rw [hc, Nat.mul_zero] at e
  omega
theorem sb_num (d1 d2 c : Nat) (h1 : d1 < 65536) (h2 : d2 < 65536) (hc : c ≤ 1) : ∃ t z : Int, IntKind.i64.wrap ((d1 : Int) - (d2 : Int)) = t ∧ IntKind.i64.wrap (t - (c : Int)) = z ∧ z = (d1 : Int) - (d2 : Int) - (c : Int) ∧ -65537 ≤ z ∧ z ≤ 65535 :=
  ⟨(d1 : Int) - (d2 : Int), (d1 : Int) - (d2 : Int) - (c : Int), IntWalk.i64_in _ (by omega), IntWalk.i64_in _ (by omega), rfl, by omega, by omega⟩

theorem quiet_sym {P : Program} {f : FuncId} {args : Array Value} {w : World} {v : Value} (h : Calls P f args w fun e w' => e = .returned v ∧ w = w') : Calls P f args w fun e w' => e = .returned v ∧ w' = w :=
  h.mono fun _ _ ⟨he, hw⟩ => ⟨he, hw.symm⟩
theorem quiet_left {P : Program} {f : FuncId} {args : Array Value} {w : World} {n : Nat} {v : Value} (h : Calls P f args (w.drewN n) fun e w' => e = .returned v ∧ w.drewN n = w') : Calls P f args (w.drewN n) fun e w'' => e = .returned v ∧ ∃ m, w'' = w.drewN m :=
  h.mono fun _ _ ⟨he, hm⟩ => ⟨he, n, hm.symm⟩

set_option maxRecDepth 100000 in
set_option maxHeartbeats 2000000 in
theorem rsub4_any (v1 v2 : Value) (X Y : Nat) (hle : Y ≤ X) (hl1 : (dig 65536 X).length < 549755813888) (w : World) (hr1 : Rw .i64 w v1 (dig 65536 X)) (hr2 : Rw .i64 w v2 (dig 65536 Y)) :
    Calls Try.prog 31 #[v1, v2] w (RwEnd .i64 w (dig 65536 (X - Y))) := by
  obtain ⟨i0, hi, hz0, hz1, hz2⟩ := info_parts Try.infoInt
  have R2 := Lib.hid hr2
  obtain ⟨A1, c1, rfl, _, _, _, hx1⟩ := hr1
  have H1 := Lib.hid hx1
  obtain ⟨A2, c2, rfl, _, _, _, _⟩ := hr2
  obtain ⟨n, hn⟩ : ∃ n, (dig 65536 X).length = n := ⟨_, rfl⟩
  obtain ⟨m, hm⟩ : ∃ m, (dig 65536 Y).length = m := ⟨_, rfl⟩
  rw [hn] at hl1
  rw [hm] at R2
  have HN := Lib.hid hn
  have HM := Lib.hid hm
  have HLE := Lib.hid hle
  have hnb : (n : Int) ≤ 549755813888 := by omega
  rw [hn, hm]
  clear hn hm hl1 hx1 hle
  go_enter Try.func31, Try.ntmps31
  go_wp2
  go_loopw [5, 6, 7] (fun o k s wr => ∃ (i c : Nat) (out : List Nat), i ≤ n ∧ s = .int .i64 (i : Int) ∧ k = .int .i64 (c : Int) ∧ Hid (Ow .i64 3 w.heap.size wr o out) ∧ Hid (Sb X Y i c out) ∧ Hid (Bl w wr)) (fun _ _ s _ => n - (intOf s).toNat)
  case atStart => exact ⟨0, 0, [], Nat.zero_le _, rfl, rfl, Ow.nil _ _ _ _, sb_start X Y, Bl.refl w⟩
  case round =>
    obtain ⟨i, c, out, hil, rfl, rfl, hown, hd, hb⟩ := hrel
    by_cases hlt : i < n
    · obtain ⟨ad, hA, hc⟩ := (H1.out.bl hb.out).at_ (i := i) (by rw [HN.out]; exact hlt)
      rw [dig_get 65536 (by decide)] at hc
      have hd1 : X / 65536 ^ i % 65536 < 65536 := Nat.mod_lt _ (by decide)
      have hd2 : Y / 65536 ^ i % 65536 < 65536 := Nat.mod_lt _ (by decide)
      have hcb := hd.out.lt
      have hib : i < 549755813888 := by omega
      have D2 := fun w h => rdigit_any (.slice A2 m c2) (dig 65536 Y) i (by omega) w h
      have HS := fun r c' h1 h2 h3 => sb_step hd.out r c' h1 h2 h3
      rw [dig_getD 65536 (by decide)] at D2
      obtain ⟨d1, e1⟩ : ∃ d, X / 65536 ^ i % 65536 = d := ⟨_, rfl⟩
      obtain ⟨d2, e2⟩ : ∃ d, Y / 65536 ^ i % 65536 = d := ⟨_, rfl⟩
      rw [e1] at hd1 HS hc
      rw [e2] at hd2 HS D2
      obtain ⟨t, z, r1, r2, hz, z1, z2⟩ := sb_num d1 d2 c hd1 hd2 hcb
      have hlen : out.length < 1099511627776 := by rw [hd.out.len]; omega
      have HD := Lib.hid D2
      have q2 := Lib.hid (R2.out.bl hb.out)
      have HL := Lib.hid hlen
      have b2 : (0 : Int) ≤ (i : Int) ∧ (i : Int) < (n : Int) := by omega
      have hib' : (i : Int) ≤ 549755813888 := by omega
      subst hA
      by_cases hneg : z < 0
      · obtain ⟨r, hr⟩ : ∃ r : Nat, z + 65536 = (r : Int) := ⟨(z + 65536).toNat, by omega⟩
        have HS' := Lib.hid (HS r 1 (by omega) (by omega) (by omega))
        have r3 : IntKind.i64.wrap (z + 65536) = (r : Int) := by rw [hr]; exact IntWalk.i64_in _ (by omega)
        have r4 : z + 65536 = (r : Int) := hr
        clear HS D2 hz hd1 hd2 hcb hib hlen e1 e2 hd hr
        go_wp2
        go_quiet ((go_at_call 41; exact quiet_left (HD.out _ (q2.out.bl ((Bl.refl wr).drewN _)))))
        have ho2 := Lib.hid (hown.out.bl ((Bl.refl wr).drewN nq))
        have hb2 := Lib.hid (hb.out.drewN nq)
        go_wp2_with (at_builtin; refine app_one w (wr.drewN nq) .i64 28 3 i0 (.int .i64 0) 8 Try.underlying28 hi hz0 hz1 hz2 rfl (by decide) rfl _ _ rfl u5 out r rfl rfl ho2.out hb2.out HL.out ?_; intro v' w' hown' hbl')
        go_roundw
        case rel => exact ⟨i + 1, 1, _, by omega, by go_num, rfl, hown', HS', hbl'⟩
        case measure => simp [intOf] <;> omega
      · obtain ⟨r, hr⟩ : ∃ r : Nat, z = (r : Int) := ⟨z.toNat, by omega⟩
        have HS' := Lib.hid (HS r 0 (by omega) (by omega) (by omega))
        have hneg' : ¬ ((r : Int) < 0) := by omega
        subst hr
        clear HS D2 hz hd1 hd2 hcb hib hlen e1 e2 hd hneg
        go_wp2
        go_quiet ((go_at_call 41; exact quiet_left (HD.out _ (q2.out.bl ((Bl.refl wr).drewN _)))))
        have ho2 := Lib.hid (hown.out.bl ((Bl.refl wr).drewN nq))
        have hb2 := Lib.hid (hb.out.drewN nq)
        go_wp2_with (at_builtin; refine app_one w (wr.drewN nq) .i64 28 3 i0 (.int .i64 0) 8 Try.underlying28 hi hz0 hz1 hz2 rfl (by decide) rfl _ _ rfl u5 out r rfl rfl ho2.out hb2.out HL.out ?_; intro v' w' hown' hbl')
        go_roundw
        case rel => exact ⟨i + 1, 0, _, by omega, by go_num, rfl, hown', HS', hbl'⟩
        case measure => simp [intOf] <;> omega
    · have hil2 : i = n := by omega
      have hd' := hd.out
      have hlen : out.length < 1099511627776 := by rw [hd'.len]; omega
      have T := Lib.hid (fun W h => rtrim_any u5 out hd'.all hlen W h)
      subst hil2
      rw [sb_end HN.out HLE.out hd'] at T
      have HR := Lib.hid hown.out.rw
      clear hlen hd hd'
      go_wp2_with (go_at_call 32; (with_reducible refine (T.out _ HR.out).mono ?_); rintro e w' ⟨v', rfl, hr, hb'⟩; have HR' := Lib.hid hr; have HB' := Lib.hid hb'; clear hr hb')
      go_ret
      exact RwEnd.mk HR'.out (hb.out.trans HB'.out)
end Go.Proofs.Ytojpfijjnocboaa
