/-
  math/bits.Div64, for every dividend and divisor that it covers: the quotient and what is left.
-/
import Derived.Test.YtdoohlehglakfaaPk19
import Derived.Deep.QuietTactic
import Derived.BigQuiet
import Derived.Test.YtdoohlehglakfaaWordN
import Derived.Deep.DeepCutAuto
import Derived.Deep.CutBlock
import Derived.Deep.LoopGhost
namespace Go.Proofs.Ytdoohlehglakfaa
open Go.RowKit
set_option linter.unusedVariables false

/-- A round lowers the guess: the lowered one, and what is left with it, under names. -/
theorem dec_t {a : Nat} (h : 4294967296 ≤ a) : decide ((4294967296 : Int) ≤ (a : Int)) = true := by rw [decide_eq_true_iff]; omega
theorem dec_f {a : Nat} (h : ¬ 4294967296 ≤ a) : decide ((4294967296 : Int) ≤ (a : Int)) = false := by rw [decide_eq_false_iff_not]; omega

theorem k_names {u v y1 y0 q r : Nat} (h : KI u v y1 y0 q r) (hc : 4294967296 ≤ q ∨ 4294967296 * r + v < q * y0) :
    ∃ q' r' : Nat, IntKind.u64.wrap ((q : Int) - 1) = (q' : Int) ∧ IntKind.u64.wrap ((r : Int) + (y1 : Int)) = (r' : Int) ∧ Hid (q' < q ∧ (4294967296 ≤ r' → q' = kq u v y1 y0) ∧ (r' < 4294967296 → KI u v y1 y0 q' r')) :=
  ⟨q - 1, r + y1, k_less h hc, k_more h, by have := k_over h hc; omega, fun hb => k_break h hc hb, fun hb => k_next h hc hb⟩

/-- The test's two numbers, under names, where the guess is a figure. -/
theorem k_test {u v y1 y0 q r : Nat} (h : KI u v y1 y0 q r) (hq : q < 4294967296) :
    ∃ m n : Nat, IntKind.u64.wrap ((q : Int) * (y0 : Int)) = (m : Int) ∧ IntKind.u64.wrap (IntKind.u64.wrap (4294967296 * (r : Int)) + (v : Int)) = (n : Int) ∧ Hid (m = q * y0 ∧ n = 4294967296 * r + v) :=
  ⟨q * y0, 4294967296 * r + v, k_prod h hq, k_sum h, rfl, rfl⟩

set_option maxRecDepth 100000 in
set_option maxHeartbeats 2000000 in
theorem div64_core (hi lo y s Y y1 y0 u v v1 v0 a b T1 U a2 b2 T0 V q0 r0 : Nat) (HS : Hid (64 - Lib.bitLen y = s)) (hs2 : s ≤ 63) (h0 : 0 < hi) (hlt : hi < y) (hy : y < 18446744073709551616)
    (r1 : IntKind.u64.wrap ((y : Int) * 2 ^ s) = (Y : Int)) (r2 : (Y : Int) / 4294967296 = (y1 : Int)) (r3 : bits .and .u64 (Y : Int) 4294967295 = (y0 : Int))
    (r4 : bits .or .u64 (IntKind.u64.wrap ((hi : Int) * 2 ^ s)) ((lo : Int) / 2 ^ (64 - s)) = (u : Int)) (r5 : IntKind.u64.wrap ((lo : Int) * 2 ^ s) = (v : Int))
    (r6 : (v : Int) / 4294967296 = (v1 : Int)) (r7 : bits .and .u64 (v : Int) 4294967295 = (v0 : Int)) (p1 : 0 < y1)
    (r8 : (u : Int) / (y1 : Int) = (a : Int)) (ha : a < 4294967298) (r9 : IntKind.u64.wrap ((u : Int) - IntKind.u64.wrap ((a : Int) * (y1 : Int))) = (b : Int))
    (HK : Hid (KI u v1 y1 y0 a b)) (H1 : Hid (kq u v1 y1 y0 = T1))
    (g1 : IntKind.u64.wrap (IntKind.u64.wrap (IntKind.u64.wrap ((u : Int) * 4294967296) + (v1 : Int)) - IntKind.u64.wrap ((T1 : Int) * (Y : Int))) = (U : Int))
    (g2 : (U : Int) / (y1 : Int) = (a2 : Int)) (ha2 : a2 < 4294967298) (g3 : IntKind.u64.wrap ((U : Int) - IntKind.u64.wrap ((a2 : Int) * (y1 : Int))) = (b2 : Int))
    (HK2 : Hid (KI U v0 y1 y0 a2 b2)) (H0 : Hid (kq U v0 y1 y0 = T0))
    (g4 : IntKind.u64.wrap (IntKind.u64.wrap ((T1 : Int) * 4294967296) + (T0 : Int)) = (q0 : Int))
    (g5 : IntKind.u64.wrap (IntKind.u64.wrap (IntKind.u64.wrap ((U : Int) * 4294967296) + (v0 : Int)) - IntKind.u64.wrap ((T0 : Int) * (Y : Int))) = (V : Int))
    (g6 : (V : Int) / 2 ^ s = (r0 : Int)) (w : World) :
    Calls Try.prog 36 #[.int .u64 (hi : Int), .int .u64 (lo : Int), .int .u64 (y : Int)] w
      fun e w' => e = .returned (.tuple #[.int .u64 (q0 : Int), .int .u64 (r0 : Int)]) ∧ w = w' := by
  have b0 : ((y : Int) == 0) = false := by rw [beq_eq_false_iff_ne]; omega
  have b1 : ((hi : Int) == 0) = false := by rw [beq_eq_false_iff_ne]; omega
  have HL : ∀ w, Calls Try.prog 39 #[.int .u64 (y : Int)] w fun e w' => e = .returned (.int .i64 (s : Int)) ∧ w = w' := by
    intro w; rw [← HS.out]; exact lz64_any y hy w
  have HZ := Lib.hid HL
  clear HL HS
  go_enter Try.func36, Try.ntmps36
  go_upto_block 0 with (go_at_call 39; refine (HZ.out _).mono ?_; rintro e w' ⟨rfl, rfl⟩)
  go_cut [15, 16] from 67 to 85 (fun x z wx => x = .int .u64 (T1 : Int) ∧ w = wx)
  case first =>
    go_wp2_with fail
    go_loop [15, 16] (fun x z => ∃ q r : Nat, Hid (KI u v1 y1 y0 q r) ∧ x = .int .u64 (q : Int) ∧ z = .int .u64 (r : Int)) (fun x _ => (intOf x).toNat)
    case atStart => exact ⟨a, b, HK, rfl, rfl⟩
    case round =>
      obtain ⟨q, r, HI, rfl, rfl⟩ := hrel
      by_cases c1 : 4294967296 ≤ q
      · have d1 := dec_t c1
        have C1 := Lib.hid c1
        clear c1
        obtain ⟨q', r', w1, w2, HN⟩ := k_names HI.out (Or.inl C1.out)
        by_cases c3 : 4294967296 ≤ r'
        · have d3 := dec_t c3
          have C3 := Lib.hid c3
          clear c3
          go_wp2
          go_meet
          case rel => exact ⟨u64_eq (by have := HN.out.2.1 C3.out; have := H1.out; omega), rfl⟩
        · have d3 := dec_f c3
          have C3 := Lib.hid c3
          clear c3
          go_wp2
          go_round
          case rel => exact ⟨q', r', HN.out.2.2 (by have := C3.out; omega), rfl, rfl⟩
          case measure => have := HN.out.1; simp [intOf]; omega
      · have d1 := dec_f c1
        have C1 := Lib.hid c1
        clear c1
        obtain ⟨m, n, t1, t2, HT⟩ := k_test HI.out (by have := C1.out; omega)
        by_cases c2 : n < m
        · have hc := HT.out
          have HC := Lib.hid (Or.inr (by omega) : 4294967296 ≤ q ∨ 4294967296 * r + v1 < q * y0)
          clear hc
          obtain ⟨q', r', w1, w2, HN⟩ := k_names HI.out (HC.out)
          by_cases c3 : 4294967296 ≤ r'
          · have d3 := dec_t c3
            have C3 := Lib.hid c3
            clear c3
            go_wp2
            go_meet
            case rel => exact ⟨u64_eq (by have := HN.out.2.1 C3.out; have := H1.out; omega), rfl⟩
          · have d3 := dec_f c3
            have C3 := Lib.hid c3
            clear c3
            go_wp2
            go_round
            case rel => exact ⟨q', r', HN.out.2.2 (by have := C3.out; omega), rfl, rfl⟩
            case measure => have := HN.out.1; simp [intOf]; omega
        · go_wp2
          go_meet
          case rel => exact ⟨u64_eq (by have := k_done HI.out (by have := HT.out; omega); have := H1.out; omega), rfl⟩
  case rest =>
    obtain ⟨rfl, rfl⟩ := hcut
    go_upto_block 2 with (fail)
    go_cut [18, 16] from 102 to 120 (fun x z wx => x = .int .u64 (T0 : Int) ∧ w = wx)
    case first =>
      go_wp2_with fail
      go_loop [18, 16] (fun x z => ∃ q r : Nat, Hid (KI U v0 y1 y0 q r) ∧ x = .int .u64 (q : Int) ∧ z = .int .u64 (r : Int)) (fun x _ => (intOf x).toNat)
      case atStart => exact ⟨a2, b2, HK2, rfl, rfl⟩
      case round =>
        obtain ⟨q, r, HI, rfl, rfl⟩ := hrel
        by_cases c1 : 4294967296 ≤ q
        · have d1 := dec_t c1
          have C1 := Lib.hid c1
          clear c1
          obtain ⟨q', r', w1, w2, HN⟩ := k_names HI.out (Or.inl C1.out)
          by_cases c3 : 4294967296 ≤ r'
          · have d3 := dec_t c3
            have C3 := Lib.hid c3
            clear c3
            go_wp2
            go_meet
            case rel => exact ⟨u64_eq (by have := HN.out.2.1 C3.out; have := H0.out; omega), rfl⟩
          · have d3 := dec_f c3
            have C3 := Lib.hid c3
            clear c3
            go_wp2
            go_round
            case rel => exact ⟨q', r', HN.out.2.2 (by have := C3.out; omega), rfl, rfl⟩
            case measure => have := HN.out.1; simp [intOf]; omega
        · have d1 := dec_f c1
          have C1 := Lib.hid c1
          clear c1
          obtain ⟨m, n, t1, t2, HT⟩ := k_test HI.out (by have := C1.out; omega)
          by_cases c2 : n < m
          · have hc := HT.out
            have HC := Lib.hid (Or.inr (by omega) : 4294967296 ≤ q ∨ 4294967296 * r + v0 < q * y0)
            clear hc
            obtain ⟨q', r', w1, w2, HN⟩ := k_names HI.out (HC.out)
            by_cases c3 : 4294967296 ≤ r'
            · have d3 := dec_t c3
              have C3 := Lib.hid c3
              clear c3
              go_wp2
              go_meet
              case rel => exact ⟨u64_eq (by have := HN.out.2.1 C3.out; have := H0.out; omega), rfl⟩
            · have d3 := dec_f c3
              have C3 := Lib.hid c3
              clear c3
              go_wp2
              go_round
              case rel => exact ⟨q', r', HN.out.2.2 (by have := C3.out; omega), rfl, rfl⟩
              case measure => have := HN.out.1; simp [intOf]; omega
          · go_wp2
            go_meet
            case rel => exact ⟨u64_eq (by have := k_done HI.out (by have := HT.out; omega); have := H0.out; omega), rfl⟩
    case rest =>
      obtain ⟨rfl, rfl⟩ := hcut
      go_wp2
      go_ret2
      exact ⟨rfl, rfl⟩
end Go.Proofs.Ytdoohlehglakfaa
