/-
  The document's rows of digits (layer 4): Cmp, digit, Same, Bits.
-/
import Derived.Test.YtdoohlehglakfaaChecked
import Derived.Test.YtdoohlehglakfaaNtA
import Derived.Test.YtdoohlehglakfaaNtN
import Derived.BigQuiet
namespace Go.Proofs.Ytdoohlehglakfaa
open Go.RowKit
set_option linter.unusedVariables false

/-- Which of two is above. -/
def cmpi (x y : Nat) : Int := if x < y then -1 else if y < x then 1 else 0
theorem cmpi_lt {x y : Nat} (h : x < y) : cmpi x y = -1 := by unfold cmpi; rw [if_pos h]
theorem cmpi_gt {x y : Nat} (h : y < x) : cmpi x y = 1 := by unfold cmpi; rw [if_neg (by omega), if_pos h]
theorem cmpi_eq {x y : Nat} (h : x = y) : cmpi x y = 0 := by unfold cmpi; rw [if_neg (by omega), if_neg (by omega)]
theorem len_lt {B x y : Nat} (hB : 2 ≤ B) (h : (dig B x).length < (dig B y).length) : x < y := by
  have hy : 0 < y := by
    rcases Nat.eq_zero_or_pos y with e | e
    · subst e; rw [dig_zero] at h; simp at h
    · exact e
  exact Nat.lt_of_lt_of_le (dig_lt B hB x) (Nat.le_trans (Nat.pow_le_pow_right (by omega) (by omega)) (dig_ge B hB y hy))
/-- From place j on both are the same. -/
def Ab (B x y j : Nat) : Prop := x / B ^ j = y / B ^ j
theorem ab_start {B x y n : Nat} (hB : 2 ≤ B) (hx : (dig B x).length = n) (hy : (dig B y).length = n) : Ab B x y n := by
  unfold Ab
  rw [Nat.div_eq_of_lt (hx ▸ dig_lt B hB x), Nat.div_eq_of_lt (hy ▸ dig_lt B hB y)]
theorem ab_div {B x i : Nat} : x / B ^ i = B * (x / B ^ (i + 1)) + x / B ^ i % B := by
  rw [Nat.pow_succ, ← Nat.div_div_eq_div_mul]
  exact (Nat.div_add_mod _ _).symm
theorem ab_lt {B x y i : Nat} (h : Ab B x y (i + 1)) (hd : x / B ^ i % B < y / B ^ i % B) : x < y := by
  unfold Ab at h
  have e1 := ab_div (B := B) (x := x) (i := i)
  have e2 := ab_div (B := B) (x := y) (i := i)
  rw [h] at e1
  rcases Nat.lt_or_ge x y with h' | h'
  · exact h'
  · have := Nat.div_le_div_right (c := B ^ i) h'
    omega
theorem ab_step {B x y i : Nat} (h : Ab B x y (i + 1)) (hd : x / B ^ i % B = y / B ^ i % B) : Ab B x y i := by
  unfold Ab at h ⊢
  rw [ab_div (B := B) (x := x), ab_div (B := B) (x := y), h, hd]
theorem ab_end {B x y : Nat} (h : Ab B x y 0) : x = y := by
  unfold Ab at h
  simpa using h

theorem ret_i64 {a b : Int} (h : a = b) : Ending.returned (.int .i64 a) = .returned (.int .i64 b) := by rw [h]

set_option maxRecDepth 100000 in
set_option maxHeartbeats 2000000 in
theorem rcmp_any (v1 v2 : Value) (x y : Nat) (hl1 : (dig 65536 x).length < 1099511627776) (hl2 : (dig 65536 y).length < 1099511627776) (w : World) (hr1 : Rw .i64 w v1 (dig 65536 x)) (hr2 : Rw .i64 w v2 (dig 65536 y)) :
    Calls Try.prog 10 #[v1, v2] w fun e w' => e = .returned (.int .i64 (cmpi x y)) ∧ Bl w w' := by
  obtain ⟨A1, c1, rfl, _, _, _, hx1⟩ := hr1
  obtain ⟨A2, c2, rfl, _, _, _, hx2⟩ := hr2
  have H1 := Lib.hid hx1
  have H2 := Lib.hid hx2
  obtain ⟨n, hn⟩ : ∃ n, (dig 65536 x).length = n := ⟨_, rfl⟩
  obtain ⟨m, hm⟩ : ∃ m, (dig 65536 y).length = m := ⟨_, rfl⟩
  rw [hn] at hl1
  rw [hm] at hl2
  have hnb : (n : Int) ≤ 1099511627776 := by omega
  have hmb : (m : Int) ≤ 1099511627776 := by omega
  have HN := Lib.hid hn
  have HM := Lib.hid hm
  rw [hn, hm]
  clear hx1 hx2 hl1 hl2 hn hm
  rcases Nat.lt_trichotomy n m with h | h | h
  · have HC := Lib.hid (cmpi_lt (x := x) (y := y) (len_lt (B := 65536) (by decide) (by rw [HN.out, HM.out]; exact h)))
    have r1 : ((n : Int) != (m : Int)) = true := by rw [bne_iff_ne]; omega
    have r2 : decide (n < m) = true := decide_eq_true h
    go_enter Try.func10, Try.ntmps10
    go_wp2
    go_ret
    exact ⟨ret_i64 HC.out.symm, Bl.refl w⟩
  · have r1 : ((n : Int) != (m : Int)) = false := by rw [bne_eq_false_iff_eq]; omega
    have HA := Lib.hid (ab_start (B := 65536) (by decide) (HN.out.trans h) HM.out)
    subst h
    go_enter Try.func10, Try.ntmps10
    go_wp2
    go_loopw [5] (fun s wr => ∃ (j : Nat) (z : Int), j ≤ n ∧ s = .int .i64 z ∧ Hid (z = (j : Int) - 1) ∧ Hid (Ab 65536 x y j) ∧ Hid (Bl w wr)) (fun s _ => (intOf s + 1).toNat)
    case atStart => exact ⟨n, _, Nat.le_refl _, rfl, rfl, HA.out, Bl.refl w⟩
    case round =>
      obtain ⟨j, z, hj, rfl, hz, hab, hb⟩ := hrel
      by_cases h0 : j = 0
      · have hz' : z = -1 := by have := hz.out; omega
        subst hz'
        subst h0
        have HC := Lib.hid (cmpi_eq (ab_end hab.out))
        go_wp2
        go_ret
        exact ⟨ret_i64 HC.out.symm, hb.out⟩
      · obtain ⟨i, hij⟩ : ∃ i, j = i + 1 := ⟨j - 1, by omega⟩
        have him : i < n := by omega
        have hz' : z = (i : Int) := by have := hz.out; omega
        obtain ⟨a1, hA1, hc1⟩ := (H1.out.bl hb.out).at_ (i := i) (by rw [HN.out]; exact him)
        obtain ⟨a2, hA2, hc2⟩ := (H2.out.bl hb.out).at_ (i := i) (by rw [HM.out]; exact him)
        rw [dig_get 65536 (by decide)] at hc1 hc2
        have hab' := hab.out
        rw [hij] at hab'
        have s1 := Lib.hid (ab_lt hab')
        have s2 := Lib.hid (ab_lt (B := 65536) (x := y) (y := x) (i := i) hab'.symm)
        have s3 := Lib.hid (ab_step hab')
        obtain ⟨d1, e1⟩ : ∃ d, x / 65536 ^ i % 65536 = d := ⟨_, rfl⟩
        obtain ⟨d2, e2⟩ : ∃ d, y / 65536 ^ i % 65536 = d := ⟨_, rfl⟩
        rw [e1, e2] at s1 s3
        rw [e1, e2] at s2
        rw [e1] at hc1
        rw [e2] at hc2
        have b2 : (0 : Int) ≤ (i : Int) ∧ (i : Int) < (n : Int) := by omega
        subst hz'
        subst hA1
        subst hA2
        clear hij hz h0 hj hab hab' e1 e2
        rcases Nat.lt_trichotomy d1 d2 with h | h | h
        · have t1 : decide (d1 < d2) = true := decide_eq_true h
          have HC := Lib.hid (cmpi_lt (s1.out h))
          clear h
          go_wp2
          go_quiet (fail)
          go_wp2
          go_ret
          exact ⟨ret_i64 HC.out.symm, hb.out.drewN _⟩
        · subst h
          have t1 : decide (d1 < d1) = false := decide_eq_false (Nat.lt_irrefl _)
          have HS := Lib.hid (s3.out rfl)
          go_wp2
          go_quiet (fail)
          go_wp2
          go_quiet (fail)
          go_wp2
          go_roundw
          case rel => exact ⟨i, _, by omega, rfl, rfl, HS.out, hb.out.drewN _⟩
          case measure => simp [intOf] <;> omega
        · have t1 : decide (d1 < d2) = false := decide_eq_false (by omega)
          have t2 : decide (d2 < d1) = true := decide_eq_true h
          have HC := Lib.hid (cmpi_gt (s2.out h))
          clear h
          go_wp2
          go_quiet (fail)
          go_wp2
          go_quiet (fail)
          go_wp2
          go_ret
          exact ⟨ret_i64 HC.out.symm, (hb.out.drewN _).drewN _⟩
  · have HC := Lib.hid (cmpi_gt (x := x) (y := y) (len_lt (B := 65536) (by decide) (by rw [HN.out, HM.out]; exact h)))
    have r1 : ((n : Int) != (m : Int)) = true := by rw [bne_iff_ne]; omega
    have r2 : decide (n < m) = false := decide_eq_false (by omega)
    go_enter Try.func10, Try.ntmps10
    go_wp2
    go_ret
    exact ⟨ret_i64 HC.out.symm, Bl.refl w⟩
end Go.Proofs.Ytdoohlehglakfaa
