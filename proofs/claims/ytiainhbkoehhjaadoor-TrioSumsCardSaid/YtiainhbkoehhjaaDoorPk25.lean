/-
  What the condition on the package's variable of the three primes gives: its cells; a world in which it holds. · The document's answer for division: bit by bit. It comes to the same.
-/
import Derived.Test.YtiainhbkoehhjaaDoorPk24
import Derived.Test.YtiainhbkoehhjaaDoorRows
import Derived.ProofKit
import Derived.LaidMore
import Derived.OpenShut
import Derived.Stop.Joined
import Derived.Test.YtiainhbkoehhjaaDoorChecked
import Derived.Test.YtiainhbkoehhjaaDoorPk3
import Derived.LoopTactic
namespace Go.Proofs.YtiainhbkoehhjaaDoor
open Go.ChangeShapes Go.WideShapes Go.ChangeAt Go.WideMaps Go.WideElems Go.RowKit
set_option linter.unusedVariables false

abbrev laidP : List (String × DataW Unit) := [("tallystick/trio.primes", Rows.laid_tallystick_trio_primes)]
theorem gPrimes : Tryd.prog.globalNamed "tallystick/trio.primes" = some 0 := by kernel_rfl
theorem tPrimes : (Tryd.prog.globals[0]?).map (·.type) = some 55 := by kernel_rfl
theorem take_one {cs : Array Value} {i : Nat} {v : Value} (h : List.take 1 (List.drop (i * 1) cs.toList) = [v]) : cs[i]? = some v := by
  have h2 := congrArg (fun l : List Value => l[0]?) h
  simpa using h2
theorem of_laid {W : World} (h : laidMetH Tryd.prog laidP W) : PrW W := by
  rw [MakeChecks.laidMetH_plain _ _ _ (by kernel_rfl)] at h
  obtain ⟨ps, ⟨g0, t0, cs0, f0, p0, q0, hg0, ht0, hv0, hd0, _, _⟩, _, _⟩ := h
  obtain rfl := Option.some.inj (gPrimes.symm.trans hg0)
  obtain rfl := Option.some.inj (tPrimes.symm.trans ht0)
  obtain ⟨xs, m1, rfl, hx1, hlen, hn3, hel⟩ := DataW.trod_array Tryd.underlying55 hd0
  have c3 : Tryd.prog.cellsOf 25 = 1 := by kernel_rfl
  have h0 := hel 0 (by decide)
  have h1 := hel 1 (by decide)
  have h2 := hel 2 (by decide)
  have hcell := fun i => World.var?_cell hg0 hv0 i
  simp only [Rows.laid_tallystick_trio_primes, Prod.mk.injEq, DataW.agg.injEq] at hx1
  match xs, hn3, hx1, h0, h1, h2 with
  | [x0, x1, x2], _, hx1, h0, h1, h2 =>
    simp only [List.map_cons, List.map_nil, List.cons.injEq] at hx1
    obtain ⟨k0, e0, d0, _⟩ := DataW.trod_int Tryd.underlying25 (show DataW.trod _ Tryd.prog W 0 _ false m1 25 _ = some x0 from h0)
    obtain ⟨k1, e1, d1, _⟩ := DataW.trod_int Tryd.underlying25 (show DataW.trod _ Tryd.prog W 0 _ false m1 25 _ = some x1 from h1)
    obtain ⟨k2, e2, d2, _⟩ := DataW.trod_int Tryd.underlying25 (show DataW.trod _ Tryd.prog W 0 _ false m1 25 _ = some x2 from h2)
    have y0 : k0 = 998244353 := by rw [d0] at hx1; simpa using hx1.1.1.symm
    have y1 : k1 = 167772161 := by rw [d1] at hx1; simpa using hx1.1.2.1.symm
    have y2 : k2 = 469762049 := by rw [d2] at hx1; simpa using hx1.1.2.2.1.symm
    subst y0 y1 y2
    simp only [c3] at e0 e1 e2
    have c0 : W.cell? ⟨0, 0, none⟩ = some (.int .u32 998244353) := (hcell 0).trans (take_one e0)
    have c1 : W.cell? ⟨0, 1, none⟩ = some (.int .u32 167772161) := (hcell 1).trans (take_one e1)
    have c2 : W.cell? ⟨0, 2, none⟩ = some (.int .u32 469762049) := (hcell 2).trans (take_one e2)
    refine ⟨World.block_lt_of_cell? W _ c0, fun i hi => ?_⟩
    match i, hi with
    | 0, _ => rw [show p3 0 = 998244353 from rfl, show ((998244353 : Nat) : Int) = 998244353 from rfl]; exact c0
    | 1, _ => rw [show p3 1 = 167772161 from rfl, show ((167772161 : Nat) : Int) = 167772161 from rfl]; exact c1
    | 2, _ => rw [show p3 2 = 469762049 from rfl, show ((469762049 : Nat) : Int) = 469762049 from rfl]; exact c2

set_option maxRecDepth 100000 in
/-- The door's own heap meets the condition. -/
theorem door_met (os : Os) (args : Array Value) : laidMetH Tryd.prog laidP ((World.doorLaid Tryd.prog 14 os).forCall (fun _ _ => 0) ⟨#[], args, []⟩).memory :=
  laidMetH_of_parts3 (fuel := 8) (laidMet_of_run' 8 (by kernel_rfl) (by kernel_rfl)) (by kernel_rfl) (by kernel_rfl)
end Go.Proofs.YtiainhbkoehhjaaDoor
namespace Go.Proofs.YtiainhbkoehhjaaDoor
open Go.RowKit
set_option linter.unusedVariables false

/-! ### One round -/
/-- After i rounds: q is what has been found, r what is left of the bits that were taken, l the bits that were not, below 2^(64-i) = R; bit is R / 2. -/
def RI (hi lo d i q r l bit : Nat) : Prop := ∃ R, R = 2 ^ (64 - i) ∧ i ≤ 64 ∧ bit = R / 2 ∧ r < d ∧ l < R ∧ num hi lo = (q * d + r) * R + l

theorem ri_start (hi lo d : Nat) (h : hi < d) (hlo : lo < 18446744073709551616) : RI hi lo d 0 0 hi lo 9223372036854775808 :=
  ⟨18446744073709551616, rfl, by omega, rfl, h, hlo, by unfold num; rw [Nat.zero_mul, Nat.zero_add]⟩

theorem ri_end {hi lo d q r l bit : Nat} (h : RI hi lo d 64 q r l bit) : num hi lo / d = q ∧ num hi lo % d = r := by
  obtain ⟨R, h1, _, _, h4, h5, h6⟩ := h
  have e : R = 1 := h1
  subst e
  have : num hi lo = r + d * q := by rw [h6, Nat.mul_comm d q]; omega
  rw [this, Nat.add_mul_div_left _ _ (by omega), Nat.add_mul_mod_self_left, Nat.div_eq_of_lt h4, Nat.mod_eq_of_lt h4]
  omega

theorem ri_half {hi lo d i q r l bit : Nat} (h : RI hi lo d i q r l bit) (hi64 : i < 64) :
    1 ≤ bit ∧ bit = 2 ^ (63 - i) ∧ bit ≤ 9223372036854775808 ∧ r < d ∧ l < 2 * bit ∧ num hi lo = (q * d + r) * (2 * bit) + l := by
  obtain ⟨R, h1, h2, h3, h4, h5, h6⟩ := h
  have e : R = 2 * 2 ^ (63 - i) := by rw [h1, ← Nat.pow_succ']; congr 1; omega
  have hp := Nat.two_pow_pos (63 - i)
  have hb : bit = 2 ^ (63 - i) := by rw [h3, e]; omega
  have hl : 2 ^ (63 - i) ≤ 2 ^ 63 := Nat.pow_le_pow_right (by omega) (by omega)
  have e63 : (2 : Nat) ^ 63 = 9223372036854775808 := by decide +kernel
  rw [e63] at hl
  rw [e] at h5 h6
  rw [← hb] at h5 h6 hp hl
  exact ⟨hp, hb, hl, h4, h5, h6⟩

/-- What has been found is small enough to be doubled. -/
theorem ri_q {hi lo d i q r l bit : Nat} (h : RI hi lo d i q r l bit) (hi64 : i < 64) (hd : hi < d) (hlo : lo < 18446744073709551616) : 2 * q < 18446744073709551616 := by
  obtain ⟨p, _, _, h4, h5, h6⟩ := ri_half h hi64
  have hn : num hi lo < d * 18446744073709551616 := by unfold num; omega
  have h1 : q * d * (2 * bit) ≤ num hi lo := by
    rw [h6, Nat.add_mul]; omega
  have h2 : q * d * 2 ≤ q * d * (2 * bit) := Nat.mul_le_mul_left _ (by omega)
  have h3 : d * (2 * q) < d * 18446744073709551616 := by
    have : d * (2 * q) = q * d * 2 := by rw [Nat.mul_comm 2 q, ← Nat.mul_assoc, Nat.mul_comm d q]
    omega
  exact Nat.lt_of_mul_lt_mul_left h3

/-- The bit that is taken. -/
def rb (l bit : Nat) : Nat := if bit ≤ l then 1 else 0
theorem rb_le (l bit : Nat) : rb l bit ≤ 1 := by unfold rb; split <;> omega

theorem ri_next {hi lo d i q r l bit q' r' : Nat} (h : RI hi lo d i q r l bit) (hi64 : i < 64) (hr : r' < d) (e : 2 * (q * d) + (2 * r + rb l bit) = q' * d + r') :
    RI hi lo d (i + 1) q' r' (l - rb l bit * bit) (bit / 2) := by
  obtain ⟨p, hb, _, h4, h5, h6⟩ := ri_half h hi64
  refine ⟨bit, by rw [hb]; congr 1; omega, by omega, rfl, hr, ?_, ?_⟩
  · unfold rb; split <;> omega
  · have h7 : num hi lo = (2 * (q * d) + 2 * r) * bit + l := by
      rw [h6]
      congr 1
      rw [← Nat.mul_add, Nat.mul_comm 2 bit, ← Nat.mul_assoc, Nat.mul_right_comm, Nat.mul_comm _ 2]
    have h8 : (q' * d + r') * bit = (2 * (q * d) + 2 * r) * bit + rb l bit * bit := by
      rw [← e, ← Nat.add_assoc, Nat.add_mul]
    have h9 : rb l bit * bit ≤ l := by
      unfold rb; split
      · omega
      · omega
    rw [h7, h8]
    omega

/-- Subtracted: the figure is 1. -/
theorem ri_one {hi lo d i q r l bit : Nat} (h : RI hi lo d i q r l bit) (hi64 : i < 64) (hc : d ≤ 2 * r + rb l bit) :
    RI hi lo d (i + 1) (2 * q + 1) (2 * r + rb l bit - d) (l - rb l bit * bit) (bit / 2) := by
  have hr := (ri_half h hi64).2.2.2.1
  have := rb_le l bit
  refine ri_next h hi64 (by omega) ?_
  rw [Nat.add_mul, Nat.one_mul, Nat.mul_assoc]
  omega
/-- Not subtracted: the figure is 0. -/
theorem ri_none {hi lo d i q r l bit : Nat} (h : RI hi lo d i q r l bit) (hi64 : i < 64) (hc : 2 * r + rb l bit < d) :
    RI hi lo d (i + 1) (2 * q) (2 * r + rb l bit) (l - rb l bit * bit) (bit / 2) := by
  refine ri_next h hi64 hc ?_
  rw [Nat.mul_assoc]

/-! ### In the walk's own words -/
theorem dbl (r : Nat) : IntKind.u64.wrap ((r : Int) + (r : Int)) = ((2 * r % 18446744073709551616 : Nat) : Int) := by
  rw [IntKind.wrap_u64]; omega

/-- The numbers of one round, under names. -/
theorem ri_names {hi lo d i q r l bit : Nat} (h : RI hi lo d i q r l bit) (hi64 : i < 64) (hd : hi < d) (hdd : d < 18446744073709551616) (hlo : lo < 18446744073709551616) :
    ∃ r2 r3 r4 q2 q3 l2 b2 : Nat, IntKind.u64.wrap ((r : Int) + (r : Int)) = (r2 : Int) ∧ (bit ≤ l → IntKind.u64.wrap ((r2 : Int) + 1) = (r3 : Int)) ∧ (¬ bit ≤ l → r2 = r3) ∧
      (bit ≤ l → IntKind.u64.wrap ((l : Int) - (bit : Int)) = (l2 : Int)) ∧ (¬ bit ≤ l → l = l2) ∧ IntKind.u64.wrap ((q : Int) + (q : Int)) = (q2 : Int) ∧
      (9223372036854775808 ≤ r ∨ d ≤ r3 → IntKind.u64.wrap ((r3 : Int) - (d : Int)) = (r4 : Int)) ∧ IntKind.u64.wrap ((q2 : Int) + 1) = (q3 : Int) ∧ (bit : Int) / 2 = (b2 : Int) ∧ IntKind.u64.wrap (b2 : Int) = (b2 : Int) ∧
      Hid ((9223372036854775808 ≤ r ∨ d ≤ r3 → RI hi lo d (i + 1) q3 r4 l2 b2) ∧ (¬ 9223372036854775808 ≤ r → ¬ d ≤ r3 → RI hi lo d (i + 1) q2 r3 l2 b2)) := by
  obtain ⟨hp, _, hbl, h4, h5, _⟩ := ri_half h hi64
  have hq := ri_q h hi64 hd hlo
  have h1 := @ri_one hi lo d i q r l bit h hi64
  have h0 := @ri_none hi lo d i q r l bit h hi64
  have hrb : rb l bit = if bit ≤ l then 1 else 0 := rfl
  refine ⟨2 * r % 18446744073709551616, 2 * r % 18446744073709551616 + rb l bit, (2 * r + rb l bit) - d, 2 * q, 2 * q + 1, l - rb l bit * bit, bit / 2, dbl r, ?_, ?_, ?_, ?_, ?_, ?_, ?_, ?_, ?_, ?_, ?_⟩
  · intro hc; rw [hrb, if_pos hc, IntKind.wrap_u64]; omega
  · intro hc; rw [hrb, if_neg hc]; omega
  · intro hc; rw [hrb, if_pos hc, IntKind.wrap_u64]; omega
  · intro hc; rw [hrb, if_neg hc]; omega
  · rw [IntKind.wrap_u64]; omega
  · intro hc
    have := rb_le l bit
    rw [IntKind.wrap_u64]
    omega
  · rw [IntKind.wrap_u64]; omega
  · omega
  · exact w64 _ (by omega)
  · intro hc
    have := rb_le l bit
    exact h1 (by omega)
  · intro c1 c2
    have := rb_le l bit
    have e : 2 * r % 18446744073709551616 + rb l bit = 2 * r + rb l bit := by omega
    rw [e] at c2 ⊢
    exact h0 (by omega)

theorem dec63_t {a : Nat} (h : 9223372036854775808 ≤ a) : decide ((9223372036854775808 : Int) ≤ (a : Int)) = true := by rw [decide_eq_true_iff]; omega
theorem dec63_f {a : Nat} (h : ¬ 9223372036854775808 ≤ a) : decide ((9223372036854775808 : Int) ≤ (a : Int)) = false := by rw [decide_eq_false_iff_not]; omega

set_option maxRecDepth 100000 in
set_option maxHeartbeats 2000000 in
theorem rdiv_ok (hi lo d q0 r0 : Nat) (hd : hi < d) (hlo : lo < 18446744073709551616) (hdd : d < 18446744073709551616) (eq : num hi lo / d = q0) (er : num hi lo % d = r0) (w : World) :
    Calls Tryd.prog 43 #[.int .u64 (hi : Int), .int .u64 (lo : Int), .int .u64 (d : Int)] w
      fun e w' => e = .returned (.tuple #[.int .u64 (q0 : Int), .int .u64 (r0 : Int), .int .i64 0]) ∧ w = w' := by
  have b0 : ((d : Int) == 0) = false := by rw [beq_eq_false_iff_ne]; omega
  have ES := Lib.hid (ri_start hi lo d hd hlo)
  have HN := Lib.hid (fun (i q r l bit : Nat) (h : RI hi lo d i q r l bit) (hi64 : i < 64) => ri_names h hi64 hd hdd hlo)
  have EQ := Lib.hid eq
  have ER := Lib.hid er
  clear eq er hlo hdd
  go_enter Tryd.func43, Tryd.ntmps43
  go_wp2
  go_loop [1, 9, 10, 11, 12] (fun x9l x9 x10 x11 x12 => ∃ i q r l bit : Nat, Hid (RI hi lo d i q r l bit) ∧ i ≤ 64 ∧ x9l = .int .u64 (l : Int) ∧ x9 = .int .u64 (q : Int) ∧ x10 = .int .u64 (r : Int) ∧ x11 = .int .u64 (bit : Int) ∧ x12 = .int .i64 (i : Int)) (fun _ _ _ _ x => 64 - (intOf x).toNat)
  case atStart => exact ⟨0, 0, hi, lo, 9223372036854775808, ES, by omega, rfl, rfl, rfl, rfl, rfl⟩
  case round =>
    obtain ⟨i, q, r, l, bit, HR, hi2, rfl, rfl, rfl, rfl, rfl⟩ := hrel
    by_cases hlt : i < 64
    · obtain ⟨r2, r3, r4, q2, q3, l2, b2, e1, e2, e3, e4, e5, e6, e7, e8, e9, e10, HF⟩ := HN.out i q r l bit HR.out hlt
      by_cases c1 : bit ≤ l
      · have e2' := e2 c1
        have e4' := e4 c1
        clear e2 e3 e4 e5
        by_cases c2 : 9223372036854775808 ≤ r
        · have d2 := dec63_t c2
          have e7' := e7 (Or.inl c2)
          have C2 := Lib.hid c2
          clear e7 c2
          go_wp2
          go_round
          case rel => exact ⟨i + 1, q3, r4, l2, b2, HF.out.1 (Or.inl C2.out), by omega, rfl, rfl, rfl, rfl, by go_num⟩
          case measure => simp [intOf]; omega
        · have d2 := dec63_f c2
          have C2 := Lib.hid c2
          by_cases c3 : d ≤ r3
          · have e7' := e7 (Or.inr c3)
            clear e7 c2
            go_wp2
            go_round
            case rel => exact ⟨i + 1, q3, r4, l2, b2, HF.out.1 (Or.inr c3), by omega, rfl, rfl, rfl, rfl, by go_num⟩
            case measure => simp [intOf]; omega
          · clear e7 c2
            go_wp2
            go_round
            case rel => exact ⟨i + 1, q2, r3, l2, b2, HF.out.2 C2.out c3, by omega, rfl, rfl, rfl, rfl, by go_num⟩
            case measure => simp [intOf]; omega
      · obtain rfl := e3 c1
        obtain rfl := e5 c1
        clear e2 e3 e4 e5
        by_cases c2 : 9223372036854775808 ≤ r
        · have d2 := dec63_t c2
          have e7' := e7 (Or.inl c2)
          have C2 := Lib.hid c2
          clear e7 c2
          go_wp2
          go_round
          case rel => exact ⟨i + 1, q3, r4, l, b2, HF.out.1 (Or.inl C2.out), by omega, rfl, rfl, rfl, rfl, by go_num⟩
          case measure => simp [intOf]; omega
        · have d2 := dec63_f c2
          have C2 := Lib.hid c2
          by_cases c3 : d ≤ r2
          · have e7' := e7 (Or.inr c3)
            clear e7 c2
            go_wp2
            go_round
            case rel => exact ⟨i + 1, q3, r4, l, b2, HF.out.1 (Or.inr c3), by omega, rfl, rfl, rfl, rfl, by go_num⟩
            case measure => simp [intOf]; omega
          · clear e7 c2
            go_wp2
            go_round
            case rel => exact ⟨i + 1, q2, r2, l, b2, HF.out.2 C2.out c3, by omega, rfl, rfl, rfl, rfl, by go_num⟩
            case measure => simp [intOf]; omega
    · obtain rfl : i = 64 := by omega
      have he := ri_end HR.out
      rw [EQ.out, ER.out] at he
      obtain ⟨f1, f2⟩ := he
      subst f1
      subst f2
      go_wp2
      go_ret3
      exact ⟨rfl, rfl⟩

theorem rdiv_any (hi lo d : Nat) (hlo : lo < 18446744073709551616) (hd : d < 18446744073709551616) (w : World) :
    Calls Tryd.prog 43 #[.int .u64 (hi : Int), .int .u64 (lo : Int), .int .u64 (d : Int)] w
      fun e w' => e = .returned (.tuple #[.int .u64 ((divQ hi lo d : Nat) : Int), .int .u64 ((divR hi lo d : Nat) : Int), .int .i64 ((divE hi d : Nat) : Int)]) ∧ w = w' := by
  by_cases h0 : d = 0
  · have e1 : divQ hi lo d = 0 := by unfold divQ; rw [if_pos (by omega)]
    have e2 : divR hi lo d = 0 := by unfold divR; rw [if_pos (by omega)]
    have e3 : divE hi d = 2 := by unfold divE; rw [if_pos h0]
    rw [e1, e2, e3]
    clear e1 e2 e3
    subst h0
    go_enter Tryd.func43, Tryd.ntmps43
    go_wp2
    go_ret3
    exact ⟨rfl, rfl⟩
  · by_cases h1 : d ≤ hi
    · have b0 : ((d : Int) == 0) = false := by rw [beq_eq_false_iff_ne]; omega
      have e1 : divQ hi lo d = 0 := by unfold divQ; rw [if_pos h1]
      have e2 : divR hi lo d = 0 := by unfold divR; rw [if_pos h1]
      have e3 : divE hi d = 1 := by unfold divE; rw [if_neg h0, if_pos h1]
      rw [e1, e2, e3]
      clear e1 e2 e3
      go_enter Tryd.func43, Tryd.ntmps43
      go_wp2
      go_ret3
      exact ⟨rfl, rfl⟩
    · have e1 : divQ hi lo d = num hi lo / d := by unfold divQ; rw [if_neg h1]
      have e2 : divR hi lo d = num hi lo % d := by unfold divR; rw [if_neg h1]
      have e3 : divE hi d = 0 := by unfold divE; rw [if_neg h0, if_neg h1]
      have h := rdiv_ok hi lo d _ _ (by omega) hlo hd e1.symm e2.symm w
      rw [e3]
      exact h
end Go.Proofs.YtiainhbkoehhjaaDoor
