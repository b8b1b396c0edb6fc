/-
  math/bits.Div64, for every dividend and divisor that it covers: the quotient and what is left. · math/bits.Div64 and word.Div, for every input: the quotient and what is left; the errors as the document has them. · word.Mul, and math/bits.Mul64 under it: what they answer.
-/
import Derived.Test.YtiainhbkoehhjaaDoorPk34
import Derived.Deep.QuietTactic
import Derived.BigQuiet
import Derived.Deep.DeepCutAuto
import Derived.Deep.CutBlock
import Derived.Deep.LoopGhost
import Derived.Test.YtiainhbkoehhjaaDoorChecked
import Derived.Test.YtiainhbkoehhjaaDoorPk3
import Derived.Lib.Mul64
namespace Go.Proofs.YtiainhbkoehhjaaDoor
open Go.RowKit
set_option linter.unusedVariables false

/-- A round lowers the guess: the lowered one, and what is left with it, under names. -/
theorem dec_t {a : Nat} (h : 4294967296 ≤ a) : decide ((4294967296 : Int) ≤ (a : Int)) = true := by rw [decide_eq_true_iff]; omega
theorem dec_f {a : Nat} (h : ¬ 4294967296 ≤ a) : decide ((4294967296 : Int) ≤ (a : Int)) = false := by rw [decide_eq_false_iff_not]; omega

theorem k_names {u v y1 y0 q r : Nat} (h : KI u v y1 y0 q r) (hc : 4294967296 ≤ q ∨ 4294967296 * r + v < q * y0) :
    ∃ q' r' : Nat, IntKind.u64.wrap ((q : Int) - 1) = (q' : Int) ∧ IntKind.u64.wrap ((r : Int) + (y1 : Int)) = (r' : Int) ∧ Hid (q' < q ∧ (4294967296 ≤ r' → q' = kq u v y1 y0) ∧ (r' < 4294967296 → KI u v y1 y0 q' r')) :=
  ⟨q - 1, r + y1, k_less h hc, k_more h, by have := k_over h hc; omega, fun hb => k_break h hc hb, fun hb => k_next h hc hb⟩

/-- The test's two numbers, under names, where the guess is a figure. -/
theorem k_test {u v y1 y0 q r : Nat} (h : KI u v y1 y0 q r) (hq : q < 4294967296) :
    ∃ m n : Nat, IntKind.u64.wrap ((q : Int) * (y0 : Int)) = (m : Int) ∧ IntKind.u64.wrap (IntKind.u64.wrap (4294967296 * (r : Int)) + (v : Int)) = (n : Int) ∧ Hid (m = q * y0 ∧ n = 4294967296 * r + v) :=
  ⟨q * y0, 4294967296 * r + v, k_prod h hq, k_sum h, rfl, rfl⟩

set_option maxRecDepth 100000 in
set_option maxHeartbeats 2000000 in
theorem div64_core (hi lo y s Y y1 y0 u v v1 v0 a b T1 U a2 b2 T0 V q0 r0 : Nat) (HS : Hid (64 - Lib.bitLen y = s)) (hs2 : s ≤ 63) (h0 : 0 < hi) (hlt : hi < y) (hy : y < 18446744073709551616)
    (r1 : IntKind.u64.wrap ((y : Int) * 2 ^ s) = (Y : Int)) (r2 : (Y : Int) / 4294967296 = (y1 : Int)) (r3 : bits .and .u64 (Y : Int) 4294967295 = (y0 : Int))
    (r4 : bits .or .u64 (IntKind.u64.wrap ((hi : Int) * 2 ^ s)) ((lo : Int) / 2 ^ (64 - s)) = (u : Int)) (r5 : IntKind.u64.wrap ((lo : Int) * 2 ^ s) = (v : Int))
    (r6 : (v : Int) / 4294967296 = (v1 : Int)) (r7 : bits .and .u64 (v : Int) 4294967295 = (v0 : Int)) (p1 : 0 < y1)
    (r8 : (u : Int) / (y1 : Int) = (a : Int)) (ha : a < 4294967298) (r9 : IntKind.u64.wrap ((u : Int) - IntKind.u64.wrap ((a : Int) * (y1 : Int))) = (b : Int))
    (HK : Hid (KI u v1 y1 y0 a b)) (H1 : Hid (kq u v1 y1 y0 = T1))
    (g1 : IntKind.u64.wrap (IntKind.u64.wrap (IntKind.u64.wrap ((u : Int) * 4294967296) + (v1 : Int)) - IntKind.u64.wrap ((T1 : Int) * (Y : Int))) = (U : Int))
    (g2 : (U : Int) / (y1 : Int) = (a2 : Int)) (ha2 : a2 < 4294967298) (g3 : IntKind.u64.wrap ((U : Int) - IntKind.u64.wrap ((a2 : Int) * (y1 : Int))) = (b2 : Int))
    (HK2 : Hid (KI U v0 y1 y0 a2 b2)) (H0 : Hid (kq U v0 y1 y0 = T0))
    (g4 : IntKind.u64.wrap (IntKind.u64.wrap ((T1 : Int) * 4294967296) + (T0 : Int)) = (q0 : Int))
    (g5 : IntKind.u64.wrap (IntKind.u64.wrap (IntKind.u64.wrap ((U : Int) * 4294967296) + (v0 : Int)) - IntKind.u64.wrap ((T0 : Int) * (Y : Int))) = (V : Int))
    (g6 : (V : Int) / 2 ^ s = (r0 : Int)) (w : World) :
    Calls Tryd.prog 42 #[.int .u64 (hi : Int), .int .u64 (lo : Int), .int .u64 (y : Int)] w
      fun e w' => e = .returned (.tuple #[.int .u64 (q0 : Int), .int .u64 (r0 : Int)]) ∧ w = w' := by
  have b0 : ((y : Int) == 0) = false := by rw [beq_eq_false_iff_ne]; omega
  have b1 : ((hi : Int) == 0) = false := by rw [beq_eq_false_iff_ne]; omega
  have HL : ∀ w, Calls Tryd.prog 64 #[.int .u64 (y : Int)] w fun e w' => e = .returned (.int .i64 (s : Int)) ∧ w = w' := by
    intro w; rw [← HS.out]; exact lz64_any y hy w
  have HZ := Lib.hid HL
  clear HL HS
  go_enter Tryd.func42, Tryd.ntmps42
  go_upto_block 0 with (go_at_call 64; refine (HZ.out _).mono ?_; rintro e w' ⟨rfl, rfl⟩)
  go_cut [15, 16] from 67 to 85 (fun x z wx => x = .int .u64 (T1 : Int) ∧ w = wx)
  case first =>
    go_wp2_with fail
    go_loop [15, 16] (fun x z => ∃ q r : Nat, Hid (KI u v1 y1 y0 q r) ∧ x = .int .u64 (q : Int) ∧ z = .int .u64 (r : Int)) (fun x _ => (intOf x).toNat)
    case atStart => exact ⟨a, b, HK, rfl, rfl⟩
    case round =>
      obtain ⟨q, r, HI, rfl, rfl⟩ := hrel
      by_cases c1 : 4294967296 ≤ q
      · have d1 := dec_t c1
        have C1 := Lib.hid c1
        clear c1
        obtain ⟨q', r', w1, w2, HN⟩ := k_names HI.out (Or.inl C1.out)
        by_cases c3 : 4294967296 ≤ r'
        · have d3 := dec_t c3
          have C3 := Lib.hid c3
          clear c3
          go_wp2
          go_meet
          case rel => exact ⟨u64_eq (by have := HN.out.2.1 C3.out; have := H1.out; omega), rfl⟩
        · have d3 := dec_f c3
          have C3 := Lib.hid c3
          clear c3
          go_wp2
          go_round
          case rel => exact ⟨q', r', HN.out.2.2 (by have := C3.out; omega), rfl, rfl⟩
          case measure => have := HN.out.1; simp [intOf]; omega
      · have d1 := dec_f c1
        have C1 := Lib.hid c1
        clear c1
        obtain ⟨m, n, t1, t2, HT⟩ := k_test HI.out (by have := C1.out; omega)
        by_cases c2 : n < m
        · have hc := HT.out
          have HC := Lib.hid (Or.inr (by omega) : 4294967296 ≤ q ∨ 4294967296 * r + v1 < q * y0)
          clear hc
          obtain ⟨q', r', w1, w2, HN⟩ := k_names HI.out (HC.out)
          by_cases c3 : 4294967296 ≤ r'
          · have d3 := dec_t c3
            have C3 := Lib.hid c3
            clear c3
            go_wp2
            go_meet
            case rel => exact ⟨u64_eq (by have := HN.out.2.1 C3.out; have := H1.out; omega), rfl⟩
          · have d3 := dec_f c3
            have C3 := Lib.hid c3
            clear c3
            go_wp2
            go_round
            case rel => exact ⟨q', r', HN.out.2.2 (by have := C3.out; omega), rfl, rfl⟩
            case measure => have := HN.out.1; simp [intOf]; omega
        · go_wp2
          go_meet
          case rel => exact ⟨u64_eq (by have := k_done HI.out (by have := HT.out; omega); have := H1.out; omega), rfl⟩
  case rest =>
    obtain ⟨rfl, rfl⟩ := hcut
    go_upto_block 2 with (fail)
    go_cut [18, 16] from 102 to 120 (fun x z wx => x = .int .u64 (T0 : Int) ∧ w = wx)
    case first =>
      go_wp2_with fail
      go_loop [18, 16] (fun x z => ∃ q r : Nat, Hid (KI U v0 y1 y0 q r) ∧ x = .int .u64 (q : Int) ∧ z = .int .u64 (r : Int)) (fun x _ => (intOf x).toNat)
      case atStart => exact ⟨a2, b2, HK2, rfl, rfl⟩
      case round =>
        obtain ⟨q, r, HI, rfl, rfl⟩ := hrel
        by_cases c1 : 4294967296 ≤ q
        · have d1 := dec_t c1
          have C1 := Lib.hid c1
          clear c1
          obtain ⟨q', r', w1, w2, HN⟩ := k_names HI.out (Or.inl C1.out)
          by_cases c3 : 4294967296 ≤ r'
          · have d3 := dec_t c3
            have C3 := Lib.hid c3
            clear c3
            go_wp2
            go_meet
            case rel => exact ⟨u64_eq (by have := HN.out.2.1 C3.out; have := H0.out; omega), rfl⟩
          · have d3 := dec_f c3
            have C3 := Lib.hid c3
            clear c3
            go_wp2
            go_round
            case rel => exact ⟨q', r', HN.out.2.2 (by have := C3.out; omega), rfl, rfl⟩
            case measure => have := HN.out.1; simp [intOf]; omega
        · have d1 := dec_f c1
          have C1 := Lib.hid c1
          clear c1
          obtain ⟨m, n, t1, t2, HT⟩ := k_test HI.out (by have := C1.out; omega)
          by_cases c2 : n < m
          · have hc := HT.out
            have HC := Lib.hid (Or.inr (by omega) : 4294967296 ≤ q ∨ 4294967296 * r + v0 < q * y0)
            clear hc
            obtain ⟨q', r', w1, w2, HN⟩ := k_names HI.out (HC.out)
            by_cases c3 : 4294967296 ≤ r'
            · have d3 := dec_t c3
              have C3 := Lib.hid c3
              clear c3
              go_wp2
              go_meet
              case rel => exact ⟨u64_eq (by have := HN.out.2.1 C3.out; have := H0.out; omega), rfl⟩
            · have d3 := dec_f c3
              have C3 := Lib.hid c3
              clear c3
              go_wp2
              go_round
              case rel => exact ⟨q', r', HN.out.2.2 (by have := C3.out; omega), rfl, rfl⟩
              case measure => have := HN.out.1; simp [intOf]; omega
          · go_wp2
            go_meet
            case rel => exact ⟨u64_eq (by have := k_done HI.out (by have := HT.out; omega); have := H0.out; omega), rfl⟩
    case rest =>
      obtain ⟨rfl, rfl⟩ := hcut
      go_wp2
      go_ret2
      exact ⟨rfl, rfl⟩
end Go.Proofs.YtiainhbkoehhjaaDoor
namespace Go.Proofs.YtiainhbkoehhjaaDoor
open Go.RowKit
set_option linter.unusedVariables false

theorem wrap_rest (u y1 : Nat) (hu : u < 18446744073709551616) : IntKind.u64.wrap ((u : Int) - IntKind.u64.wrap (((u / y1 : Nat) : Int) * (y1 : Int))) = ((u % y1 : Nat) : Int) := by
  have h := Nat.div_add_mod' u y1
  rw [← Int.natCast_mul]
  generalize u / y1 * y1 = p at *
  generalize u % y1 = x at *
  simp only [IntKind.wrap_u64]
  omega

theorem nat_div (u y1 a : Nat) (h : u / y1 = a) : (u : Int) / (y1 : Int) = (a : Int) := by rw [← h]; exact (Int.natCast_ediv u y1).symm

theorem g4_of (T1 T0 : Nat) (t1 : T1 < 4294967296) (t2 : T0 < 4294967296) : IntKind.u64.wrap (IntKind.u64.wrap ((T1 : Int) * 4294967296) + (T0 : Int)) = ((T1 * 4294967296 + T0 : Nat) : Int) := by
  simp only [IntKind.wrap_u64]
  omega

/-- All numbers on the way are plain variables here. -/
theorem div64_mid (hi lo y s Y y1 y0 u v v1 v0 q0 r0 : Nat) (hs : 64 - Lib.bitLen y = s) (hs2 : s ≤ 63) (h0 : 0 < hi) (hlt : hi < y) (hy : y < 18446744073709551616)
    (r1 : IntKind.u64.wrap ((y : Int) * 2 ^ s) = (Y : Int)) (r2 : (Y : Int) / 4294967296 = (y1 : Int)) (r3 : bits .and .u64 (Y : Int) 4294967295 = (y0 : Int))
    (r4 : bits .or .u64 (IntKind.u64.wrap ((hi : Int) * 2 ^ s)) ((lo : Int) / 2 ^ (64 - s)) = (u : Int)) (r5 : IntKind.u64.wrap ((lo : Int) * 2 ^ s) = (v : Int))
    (r6 : (v : Int) / 4294967296 = (v1 : Int)) (r7 : bits .and .u64 (v : Int) 4294967295 = (v0 : Int))
    (k1 : KD u v1 y1 y0) (hv0 : v0 < 4294967296) (eY : y1 * 4294967296 + y0 = Y) (hY : Y < 18446744073709551616)
    (hq : (u * 4294967296 + v1) / Y * 4294967296 + ((u * 4294967296 + v1) % Y * 4294967296 + v0) / Y = q0)
    (hr : ((((u * 4294967296 + v1) % Y * 4294967296 + v0) % Y : Nat) : Int) / 2 ^ s = (r0 : Int)) (w : World) :
    Calls Tryd.prog 42 #[.int .u64 (hi : Int), .int .u64 (lo : Int), .int .u64 (y : Int)] w
      fun e w' => e = .returned (.tuple #[.int .u64 (q0 : Int), .int .u64 (r0 : Int)]) ∧ w = w' := by
  have p1 : 0 < y1 := by have := k1.1; omega
  have hu : u < Y := by have := k1.2.2.2.2; omega
  have eT1 : kq u v1 y1 y0 = (u * 4294967296 + v1) / Y := by unfold kq; rw [eY]
  have eU : kr u v1 y1 y0 = (u * 4294967296 + v1) % Y := by unfold kr; rw [eY]
  have hU : kr u v1 y1 y0 < Y := by rw [eU]; exact Nat.mod_lt _ (by omega)
  have s1 := k_start k1
  have t1 := kq_lt k1
  have g1 := k_rest k1
  rw [eY] at g1
  rw [← eU, ← eT1] at hq
  rw [← eU] at hr
  clear eT1 eU
  generalize hT1 : kq u v1 y1 y0 = T1 at *
  generalize kr u v1 y1 y0 = U at *
  have k2 : KD U v0 y1 y0 := ⟨k1.1, k1.2.1, k1.2.2.1, hv0, by omega⟩
  have eT0 : kq U v0 y1 y0 = (U * 4294967296 + v0) / Y := by unfold kq; rw [eY]
  have eV : kr U v0 y1 y0 = (U * 4294967296 + v0) % Y := by unfold kr; rw [eY]
  have s2 := k_start k2
  have t2 := kq_lt k2
  have g5 := k_rest k2
  rw [eY] at g5
  rw [← eT0] at hq
  rw [← eV] at hr
  clear eT0 eV
  generalize hT0 : kq U v0 y1 y0 = T0 at *
  generalize kr U v0 y1 y0 = V at *
  have w1 := wrap_rest u y1 (by omega)
  have w2 := wrap_rest U y1 (by omega)
  have a1 : u / y1 < 4294967298 := by have := s1.2.2.2.1; omega
  have a2 : U / y1 < 4294967298 := by have := s2.2.2.2.1; omega
  generalize ha : u / y1 = a at *
  generalize u % y1 = b at *
  generalize ha2 : U / y1 = a' at *
  generalize U % y1 = b' at *
  have g4 := g4_of T1 T0 t1 t2
  rw [hq] at g4
  exact div64_core hi lo y s Y y1 y0 u v v1 v0 a b T1 U a' b' T0 V q0 r0 (Lib.hid hs) hs2 h0 hlt hy r1 r2 r3 r4 r5 r6 r7 p1 (nat_div u y1 a ha) a1 w1 (Lib.hid s1) (Lib.hid hT1) g1 (nat_div U y1 a' ha2) a2 w2 (Lib.hid s2) (Lib.hid hT0) g4 g5 hr w

theorem div64_great (hi lo y : Nat) (h0 : 0 < hi) (hlt : hi < y) (hy : y < 18446744073709551616) (hlo : lo < 18446744073709551616) (w : World) :
    Calls Tryd.prog 42 #[.int .u64 (hi : Int), .int .u64 (lo : Int), .int .u64 (y : Int)] w
      fun e w' => e = .returned (.tuple #[.int .u64 (((hi * 18446744073709551616 + lo) / y : Nat) : Int), .int .u64 (((hi * 18446744073709551616 + lo) % y : Nat) : Int)]) ∧ w = w' := by
  obtain ⟨Y, u, v, hs2, r1, hY1, hY2, r4, huY, r5, hv, hq, hr⟩ := norm hi lo y _ rfl hlt hy hlo
  have eY : Y / 4294967296 * 4294967296 + Y % 4294967296 = Y := Nat.div_add_mod' Y 4294967296
  have k1 : KD u (v / 4294967296) (Y / 4294967296) (Y % 4294967296) := ⟨by omega, by omega, by omega, by omega, by omega⟩
  have two := k_two u (v / 4294967296) (v % 4294967296) Y (by omega)
  have ev : v / 4294967296 * 4294967296 + v % 4294967296 = v := Nat.div_add_mod' v 4294967296
  rw [ev, hq] at two
  rw [← two.2] at hr
  exact div64_mid hi lo y _ Y _ _ u v _ _ _ _ rfl hs2 h0 hlt hy r1 (by omega) (maskN Y hY1) r4 r5 (by omega) (maskN v hv) k1 (by omega) eY hY1 two.1 hr w

set_option maxRecDepth 100000 in
theorem div64_small (lo y : Nat) (hy0 : 0 < y) (hy : y < 18446744073709551616) (hlo : lo < 18446744073709551616) (w : World) :
    Calls Tryd.prog 42 #[.int .u64 0, .int .u64 (lo : Int), .int .u64 (y : Int)] w
      fun e w' => e = .returned (.tuple #[.int .u64 ((lo / y : Nat) : Int), .int .u64 ((lo % y : Nat) : Int)]) ∧ Q w w' := by
  have b0 : ((y : Int) == 0) = false := by rw [beq_eq_false_iff_ne]; omega
  go_enter Tryd.func42, Tryd.ntmps42
  go_wp2
  go_quiet (fail)
  go_wp2
  go_ret2
  refine ⟨ret_eq (pair_eq ?_ ?_), (Q.refl _).drewN _⟩
  · rw [← Int.natCast_ediv]
    exact w64 _ (Nat.lt_of_le_of_lt (Nat.div_le_self _ _) hlo)
  · exact (Int.natCast_emod lo y).symm

/-! ### word.Div -/

end Go.Proofs.YtiainhbkoehhjaaDoor
namespace Go.Proofs.YtiainhbkoehhjaaDoor
open Go.RowKit
set_option linter.unusedVariables false

set_option maxHeartbeats 1000000 in
theorem mul64_any (x y : Nat) (hx : x < 18446744073709551616) (hy : y < 18446744073709551616) (w : World) :
    Calls Tryd.prog 33 #[.int .u64 (x : Int), .int .u64 (y : Int)] w
      fun e w' => e = .returned (.tuple #[.int .u64 ((mulH x y : Nat) : Int), .int .u64 ((mulL x y : Nat) : Int)]) ∧ w = w' := by
  obtain ⟨bd, bt, bw, hhi⟩ := Lib.mul64_hi x y hx hy
  have ba := Lib.half_mul_le (a := x / 4294967296) (b := y / 4294967296) (by omega) (by omega)
  have bb := Lib.half_mul_le (a := x / 4294967296) (b := y % 4294967296) (by omega) (by omega)
  have bc := Lib.half_mul_le (a := x % 4294967296) (b := y / 4294967296) (by omega) (by omega)
  have ba' : x / 4294967296 * (y / 4294967296) < 18446744073709551616 := by omega
  have bb' : x / 4294967296 * (y % 4294967296) < 18446744073709551616 := by omega
  have bc' : x % 4294967296 * (y / 4294967296) < 18446744073709551616 := by omega
  have bh1 : x / 4294967296 * (y / 4294967296) + (x / 4294967296 * (y % 4294967296) + x % 4294967296 * (y % 4294967296) / 4294967296) / 4294967296 < 18446744073709551616 := by omega
  have bh : x / 4294967296 * (y / 4294967296) + (x / 4294967296 * (y % 4294967296) + x % 4294967296 * (y % 4294967296) / 4294967296) / 4294967296 + ((x / 4294967296 * (y % 4294967296) + x % 4294967296 * (y % 4294967296) / 4294967296) % 4294967296 + x % 4294967296 * (y / 4294967296)) / 4294967296 < 18446744073709551616 := by omega
  have HH := Lib.hid hhi
  clear hhi
  go_enter Tryd.func33, Tryd.ntmps33
  go_wp2
  simp only [maskN x hx, maskN y hy, divN, mulN, addN, wrapN _ bd, wrapN _ bb', wrapN _ bt, maskN _ bt, wrapN _ bc', wrapN _ bw, wrapN _ ba', wrapN _ bh1, wrapN _ bh, wrapM (x * y)]
  rw [HH.out]
  go_ret2
  exact ⟨rfl, rfl⟩

end Go.Proofs.YtiainhbkoehhjaaDoor
