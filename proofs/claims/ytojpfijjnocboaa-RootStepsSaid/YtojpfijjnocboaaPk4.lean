/-
  The document's rows of digits (layer 4): Cmp, digit, Same, Bits. · What package word answers, as plain functions of natural numbers; the numbers' spellings in a walk; the world of what only reads. No program in sight. · How many bits a word has at most. No walk. · The document's answer for word.Len.
-/
import Derived.Test.YtojpfijjnocboaaChecked
import Derived.Test.YtojpfijjnocboaaPk3
import Derived.BigQuiet
import Derived.WalkKit
import Derived.Laws.Bits64b
import Derived.IntWalk
import Derived.Lib.Hide
import Derived.RowKit3
import Derived.Deep.QuietTactic
import Derived.Lib.ItoaNum
import Derived.LoopTactic
namespace Go.Proofs.Ytojpfijjnocboaa
open Go.RowKit
set_option linter.unusedVariables false

/-- Which of two is above. -/
def cmpi (x y : Nat) : Int := if x < y then -1 else if y < x then 1 else 0
theorem cmpi_lt {x y : Nat} (h : x < y) : cmpi x y = -1 := by unfold cmpi; rw [if_pos h]
theorem cmpi_gt {x y : Nat} (h : y < x) : cmpi x y = 1 := by unfold cmpi; rw [if_neg (by omega), if_pos h]
theorem cmpi_eq {x y : Nat} (h : x = y) : cmpi x y = 0 := by unfold cmpi; rw [if_neg (by omega), if_neg (by omega)]
theorem len_lt {B x y : Nat} (hB : 2 ≤ B) (h : (dig B x).length < (dig B y).length) : x < y := by
  have hy : 0 < y := by
    rcases Nat.eq_zero_or_pos y with e | e
    · subst e; rw [dig_zero] at h; simp at h
    · exact e
  exact Nat.lt_of_lt_of_le (dig_lt B hB x) (Nat.le_trans (Nat.pow_le_pow_right (by omega) (by omega)) (dig_ge B hB y hy))
/-- From place j on both are the same. -/
def Ab (B x y j : Nat) : Prop := x / B ^ j = y / B ^ j
theorem ab_start {B x y n : Nat} (hB : 2 ≤ B) (hx : (dig B x).length = n) (hy : (dig B y).length = n) : Ab B x y n := by
  unfold Ab
  rw [Nat.div_eq_of_lt (hx ▸ dig_lt B hB x), Nat.div_eq_of_lt (hy ▸ dig_lt B hB y)]
theorem ab_div {B x i : Nat} : x / B ^ i = B * (x / B ^ (i + 1)) + x / B ^ i % B := by
  rw [Nat.pow_succ, ← Nat.div_div_eq_div_mul]
  exact (Nat.div_add_mod _ _).symm
theorem ab_lt {B x y i : Nat} (h : Ab B x y (i + 1)) (hd : x / B ^ i % B < y / B ^ i % B) : x < y := by
  unfold Ab at h
  have e1 := ab_div (B := B) (x := x) (i := i)
  have e2 := ab_div (B := B) (x := y) (i := i)
  rw [h] at e1
  rcases Nat.lt_or_ge x y with h' | h'
  · exact h'
  · have := Nat.div_le_div_right (c := B ^ i) h'
    omega
theorem ab_step {B x y i : Nat} (h : Ab B x y (i + 1)) (hd : x / B ^ i % B = y / B ^ i % B) : Ab B x y i := by
  unfold Ab at h ⊢
  rw [ab_div (B := B) (x := x), ab_div (B := B) (x := y), h, hd]
theorem ab_end {B x y : Nat} (h : Ab B x y 0) : x = y := by
  unfold Ab at h
  simpa using h

theorem ret_i64 {a b : Int} (h : a = b) : Ending.returned (.int .i64 a) = .returned (.int .i64 b) := by rw [h]

set_option maxRecDepth 100000 in
set_option maxHeartbeats 2000000 in
theorem rcmp_any (v1 v2 : Value) (x y : Nat) (hl1 : (dig 65536 x).length < 1099511627776) (hl2 : (dig 65536 y).length < 1099511627776) (w : World) (hr1 : Rw .i64 w v1 (dig 65536 x)) (hr2 : Rw .i64 w v2 (dig 65536 y)) :
    Calls Try.prog 24 #[v1, v2] w fun e w' => e = .returned (.int .i64 (cmpi x y)) ∧ Bl w w' := by
  obtain ⟨A1, c1, rfl, _, _, _, hx1⟩ := hr1
  obtain ⟨A2, c2, rfl, _, _, _, hx2⟩ := hr2
  have H1 := Lib.hid hx1
  have H2 := Lib.hid hx2
  obtain ⟨n, hn⟩ : ∃ n, (dig 65536 x).length = n := ⟨_, rfl⟩
  obtain ⟨m, hm⟩ : ∃ m, (dig 65536 y).length = m := ⟨_, rfl⟩
  rw [hn] at hl1
  rw [hm] at hl2
  have hnb : (n : Int) ≤ 1099511627776 := by omega
  have hmb : (m : Int) ≤ 1099511627776 := by omega
  have HN := Lib.hid hn
  have HM := Lib.hid hm
  rw [hn, hm]
  clear hx1 hx2 hl1 hl2 hn hm
  rcases Nat.lt_trichotomy n m with h | h | h
  · have HC := Lib.hid (cmpi_lt (x := x) (y := y) (len_lt (B := 65536) (by decide) (by rw [HN.out, HM.out]; exact h)))
    have r1 : ((n : Int) != (m : Int)) = true := by rw [bne_iff_ne]; omega
    have r2 : decide (n < m) = true := decide_eq_true h
    go_enter Try.func24, Try.ntmps24
    go_wp2
    go_ret
    exact ⟨ret_i64 HC.out.symm, Bl.refl w⟩
  · have r1 : ((n : Int) != (m : Int)) = false := by rw [bne_eq_false_iff_eq]; omega
    have HA := Lib.hid (ab_start (B := 65536) (by decide) (HN.out.trans h) HM.out)
    subst h
    go_enter Try.func24, Try.ntmps24
    go_wp2
    go_loopw [5] (fun s wr => ∃ (j : Nat) (z : Int), j ≤ n ∧ s = .int .i64 z ∧ Hid (z = (j : Int) - 1) ∧ Hid (Ab 65536 x y j) ∧ Hid (Bl w wr)) (fun s _ => (intOf s + 1).toNat)
    case atStart => exact ⟨n, _, Nat.le_refl _, rfl, rfl, HA.out, Bl.refl w⟩
    case round =>
      obtain ⟨j, z, hj, rfl, hz, hab, hb⟩ := hrel
      by_cases h0 : j = 0
      · have hz' : z = -1 := by have := hz.out; omega
        subst hz'
        subst h0
        have HC := Lib.hid (cmpi_eq (ab_end hab.out))
        go_wp2
        go_ret
        exact ⟨ret_i64 HC.out.symm, hb.out⟩
      · obtain ⟨i, hij⟩ : ∃ i, j = i + 1 := ⟨j - 1, by omega⟩
        have him : i < n := by omega
        have hz' : z = (i : Int) := by have := hz.out; omega
        obtain ⟨a1, hA1, hc1⟩ := (H1.out.bl hb.out).at_ (i := i) (by rw [HN.out]; exact him)
        obtain ⟨a2, hA2, hc2⟩ := (H2.out.bl hb.out).at_ (i := i) (by rw [HM.out]; exact him)
        rw [dig_get 65536 (by decide)] at hc1 hc2
        have hab' := hab.out
        rw [hij] at hab'
        have s1 := Lib.hid (ab_lt hab')
        have s2 := Lib.hid (ab_lt (B := 65536) (x := y) (y := x) (i := i) hab'.symm)
        have s3 := Lib.hid (ab_step hab')
        obtain ⟨d1, e1⟩ : ∃ d, x / 65536 ^ i % 65536 = d := ⟨_, rfl⟩
        obtain ⟨d2, e2⟩ : ∃ d, y / 65536 ^ i % 65536 = d := ⟨_, rfl⟩
        rw [e1, e2] at s1 s3
        rw [e1, e2] at s2
        rw [e1] at hc1
        rw [e2] at hc2
        have b2 : (0 : Int) ≤ (i : Int) ∧ (i : Int) < (n : Int) := by omega
        subst hz'
        subst hA1
        subst hA2
        clear hij hz h0 hj hab hab' e1 e2
        rcases Nat.lt_trichotomy d1 d2 with h | h | h
        · have t1 : decide (d1 < d2) = true := decide_eq_true h
          have HC := Lib.hid (cmpi_lt (s1.out h))
          clear h
          go_wp2
          go_quiet (fail)
          go_wp2
          go_ret
          exact ⟨ret_i64 HC.out.symm, hb.out.drewN _⟩
        · subst h
          have t1 : decide (d1 < d1) = false := decide_eq_false (Nat.lt_irrefl _)
          have HS := Lib.hid (s3.out rfl)
          go_wp2
          go_quiet (fail)
          go_wp2
          go_quiet (fail)
          go_wp2
          go_roundw
          case rel => exact ⟨i, _, by omega, rfl, rfl, HS.out, hb.out.drewN _⟩
          case measure => simp [intOf] <;> omega
        · have t1 : decide (d1 < d2) = false := decide_eq_false (by omega)
          have t2 : decide (d2 < d1) = true := decide_eq_true h
          have HC := Lib.hid (cmpi_gt (s2.out h))
          clear h
          go_wp2
          go_quiet (fail)
          go_wp2
          go_quiet (fail)
          go_wp2
          go_ret
          exact ⟨ret_i64 HC.out.symm, (hb.out.drewN _).drewN _⟩
  · have HC := Lib.hid (cmpi_gt (x := x) (y := y) (len_lt (B := 65536) (by decide) (by rw [HN.out, HM.out]; exact h)))
    have r1 : ((n : Int) != (m : Int)) = true := by rw [bne_iff_ne]; omega
    have r2 : decide (n < m) = false := decide_eq_false (by omega)
    go_enter Try.func24, Try.ntmps24
    go_wp2
    go_ret
    exact ⟨ret_i64 HC.out.symm, Bl.refl w⟩
end Go.Proofs.Ytojpfijjnocboaa
namespace Go.Proofs.Ytojpfijjnocboaa
open Go.RowKit
set_option linter.unusedVariables false

/-- What counts as a carry: 0, or 1 for any other number. -/
def un (c : Nat) : Nat := if c = 0 then 0 else 1
theorem un_le (c : Nat) : un c ≤ 1 := by unfold un; split <;> omega

theorem ret_eq {a b : Value} (h : a = b) : Ending.returned a = .returned b := by rw [h]
theorem u64_eq {a b : Int} (h : a = b) : Value.int .u64 a = .int .u64 b := by rw [h]
theorem pair_eq {a b c d : Int} (h : a = c) (h' : b = d) : Value.tuple #[.int .u64 a, .int .u64 b] = .tuple #[.int .u64 c, .int .u64 d] := by rw [h, h']

theorem int_eq {k : IntKind} {a b : Int} (h : a = b) : Ending.returned (.int k a) = .returned (.int k b) := by rw [h]

def addS (a b c : Nat) : Nat := (a + b + un c) % 18446744073709551616
def addC (a b c : Nat) : Nat := (a + b + un c) / 18446744073709551616
def subD (a b c : Nat) : Nat := (a + 18446744073709551616 - b - un c) % 18446744073709551616
def subB (a b c : Nat) : Nat := if a < b + un c then 1 else 0
def mulH (a b : Nat) : Nat := a * b / 18446744073709551616
def mulL (a b : Nat) : Nat := a * b % 18446744073709551616
def num (hi lo : Nat) : Nat := hi * 18446744073709551616 + lo
def divQ (hi lo d : Nat) : Nat := if d ≤ hi then 0 else num hi lo / d
def divR (hi lo d : Nat) : Nat := if d ≤ hi then 0 else num hi lo % d
def divE (hi d : Nat) : Nat := if d = 0 then 2 else if d ≤ hi then 1 else 0

theorem maskN (a : Nat) (ha : a < 18446744073709551616) : bits .and .u64 (a : Int) 4294967295 = ((a % 4294967296 : Nat) : Int) := by
  have h := bits_and_u64_nat a 4294967295 ha (by omega)
  have e : a &&& 4294967295 = a % 4294967296 := Nat.and_two_pow_sub_one_eq_mod a 32
  rw [e] at h
  exact h
theorem divN (a : Nat) : (a : Int) / 4294967296 = ((a / 4294967296 : Nat) : Int) := by omega
theorem modN (a : Nat) : (a : Int) % 4294967296 = ((a % 4294967296 : Nat) : Int) := by omega
theorem tdivN (a : Nat) : ((a : Int)).tdiv 4294967296 = ((a / 4294967296 : Nat) : Int) := by rw [Int.tdiv_eq_ediv_of_nonneg (by omega)]; omega
theorem tmodN (a : Nat) : ((a : Int)).tmod 4294967296 = ((a % 4294967296 : Nat) : Int) := by rw [Int.tmod_eq_emod_of_nonneg (by omega)]; omega
theorem mulN (a b : Nat) : (a : Int) * (b : Int) = ((a * b : Nat) : Int) := (Int.natCast_mul a b).symm
theorem addN (a b : Nat) : (a : Int) + (b : Int) = ((a + b : Nat) : Int) := (Int.natCast_add a b).symm
theorem wrapN (a : Nat) (ha : a < 18446744073709551616) : IntKind.u64.wrap (a : Int) = (a : Int) := by rw [IntKind.wrap_u64]; omega
theorem wrapM (a : Nat) : IntKind.u64.wrap (a : Int) = ((a % 18446744073709551616 : Nat) : Int) := by rw [IntKind.wrap_u64]; omega
theorem w64 (a : Nat) (ha : a < 18446744073709551616) : IntKind.u64.wrap (a : Int) = (a : Int) := by rw [IntKind.wrap_u64]; omega

theorem un_cases (c : Nat) : (c = 0 ∧ un c = 0) ∨ (1 ≤ c ∧ un c = 1) := by
  unfold un
  by_cases h : c = 0
  · exact Or.inl ⟨h, if_pos h⟩
  · exact Or.inr ⟨by omega, if_neg h⟩

theorem addC_le (a b c : Nat) (ha : a < 18446744073709551616) (hb : b < 18446744073709551616) : addC a b c ≤ 1 := by
  have := un_le c
  unfold addC; omega
theorem addS_lt (a b c : Nat) : addS a b c < 18446744073709551616 := Nat.mod_lt _ (by omega)
theorem back_d (a b c : Nat) (ha : a < 18446744073709551616) (hb : b < 18446744073709551616) : subD (addS a b c) b c = a := by
  have := un_le c
  unfold subD addS; omega
theorem back_b (a b c : Nat) (ha : a < 18446744073709551616) (hb : b < 18446744073709551616) : subB (addS a b c) b c = addC a b c := by
  have := un_le c
  unfold subB addS addC
  split <;> omega

theorem mulH_lt (a b : Nat) (ha : a < 18446744073709551616) (hb : b < 18446744073709551616) : mulH a b < 18446744073709551616 := by
  unfold mulH
  rw [Nat.div_lt_iff_lt_mul (by omega)]
  exact Nat.mul_lt_mul'' ha hb
theorem mulL_lt (a b : Nat) : mulL a b < 18446744073709551616 := Nat.mod_lt _ (by omega)
theorem mul_parts (a b : Nat) : mulH a b * 18446744073709551616 + mulL a b = a * b := Nat.div_add_mod' _ _
theorem mulH_comm (a b : Nat) : mulH a b = mulH b a := by unfold mulH; rw [Nat.mul_comm]
theorem mulL_comm (a b : Nat) : mulL a b = mulL b a := by unfold mulL; rw [Nat.mul_comm]

theorem add_parts (a b c : Nat) : addC a b c * 18446744073709551616 + addS a b c = a + b + un c := Nat.div_add_mod' _ _
theorem un_of_le (y : Nat) (h : y ≤ 1) : un y = y := by unfold un; split <;> omega

/-! ### The world: what only reads, in an order that is left open -/
def Q (w w' : World) : Prop := ∃ n, w' = w.drewN n
theorem Q.refl (w : World) : Q w w := ⟨0, rfl⟩
theorem Q.drewN {w w' : World} (h : Q w w') (n : Nat) : Q w (w'.drewN n) := by
  obtain ⟨m, rfl⟩ := h
  exact ⟨m + n, World.drewN_drewN _ _ _⟩
theorem Q.drew {w w' : World} (h : Q w w') : Q w w'.drew := h.drewN 1
theorem Q.trans {a b c : World} (h : Q a b) (h' : Q b c) : Q a c := by
  obtain ⟨n, rfl⟩ := h'
  exact h.drewN n
theorem Q.grown {w w' : World} (h : Q w w') : Grown w w' := by
  obtain ⟨n, rfl⟩ := h
  exact Grown.refl w
end Go.Proofs.Ytojpfijjnocboaa
namespace Go.Proofs.Ytojpfijjnocboaa
open Go.RowKit
set_option linter.unusedVariables false

theorem bl_le (x : Nat) (hx : x < 18446744073709551616) : Lib.bitLen x ≤ 64 := Lib.bitLen_le x 64 (by omega) hx

theorem bl_zero : Lib.bitLen 0 = 0 := Lib.bitLenAux_zero 64
end Go.Proofs.Ytojpfijjnocboaa
namespace Go.Proofs.Ytojpfijjnocboaa
open Go.RowKit
set_option linter.unusedVariables false

theorem rlen_any (x : Nat) (hx : x < 18446744073709551616) (w : World) :
    Calls Try.prog 60 #[.int .u64 (x : Int)] w fun e w' => e = .returned (.int .i64 ((Lib.bitLen x : Nat) : Int)) ∧ w = w' := by
  have lx := bl_le x hx
  go_enter Try.func60, Try.ntmps60
  go_wp2
  go_loop [0, 3] (fun s n => ∃ a k : Nat, a < 18446744073709551616 ∧ k + Lib.bitLen a = Lib.bitLen x ∧ s = .int .u64 (a : Int) ∧ n = .int .i64 (k : Int)) (fun s _ => (intOf s).toNat)
  case atStart => exact ⟨x, 0, hx, by omega, rfl, rfl⟩
  case round =>
    obtain ⟨a, k, ha, hk, rfl, rfl⟩ := hrel
    have hk' : k + Lib.bitLen a ≤ 64 := by omega
    have HK := Lib.hid hk
    clear hk
    by_cases h0 : 0 < a
    · go_wp2
      go_round
      case rel =>
        have hh := Lib.bitLen_half a (by omega) (by omega)
        exact ⟨a / 2, k + 1, by omega, by have := HK.out; omega, by go_num, by go_num⟩
      case measure => simp [intOf]; omega
    · have hz : a = 0 := by omega
      subst hz
      go_wp2
      go_ret
      exact ⟨int_eq (by have := HK.out; rw [bl_zero] at this; omega), rfl⟩
end Go.Proofs.Ytojpfijjnocboaa
