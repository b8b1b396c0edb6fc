/-
  math/bits.Div64 and word.Div, for every input: the quotient and what is left; the errors as the document has them.
-/
import Derived.Test.YtdoohlehglakfaaPk20
namespace Go.Proofs.Ytdoohlehglakfaa
open Go.RowKit
set_option linter.unusedVariables false

theorem wrap_rest (u y1 : Nat) (hu : u < 18446744073709551616) : IntKind.u64.wrap ((u : Int) - IntKind.u64.wrap (((u / y1 : Nat) : Int) * (y1 : Int))) = ((u % y1 : Nat) : Int) := by
  have h := Nat.div_add_mod' u y1
  rw [← Int.natCast_mul]
  generalize u / y1 * y1 = p at *
  generalize u % y1 = x at *
  simp only [IntKind.wrap_u64]
  omega

theorem nat_div (u y1 a : Nat) (h : u / y1 = a) : (u : Int) / (y1 : Int) = (a : Int) := by rw [← h]; exact (Int.natCast_ediv u y1).symm

theorem g4_of (T1 T0 : Nat) (t1 : T1 < 4294967296) (t2 : T0 < 4294967296) : IntKind.u64.wrap (IntKind.u64.wrap ((T1 : Int) * 4294967296) + (T0 : Int)) = ((T1 * 4294967296 + T0 : Nat) : Int) := by
  simp only [IntKind.wrap_u64]
  omega

/-- All numbers on the way are plain variables here. -/
theorem div64_mid (hi lo y s Y y1 y0 u v v1 v0 q0 r0 : Nat) (hs : 64 - Lib.bitLen y = s) (hs2 : s ≤ 63) (h0 : 0 < hi) (hlt : hi < y) (hy : y < 18446744073709551616)
    (r1 : IntKind.u64.wrap ((y : Int) * 2 ^ s) = (Y : Int)) (r2 : (Y : Int) / 4294967296 = (y1 : Int)) (r3 : bits .and .u64 (Y : Int) 4294967295 = (y0 : Int))
    (r4 : bits .or .u64 (IntKind.u64.wrap ((hi : Int) * 2 ^ s)) ((lo : Int) / 2 ^ (64 - s)) = (u : Int)) (r5 : IntKind.u64.wrap ((lo : Int) * 2 ^ s) = (v : Int))
    (r6 : (v : Int) / 4294967296 = (v1 : Int)) (r7 : bits .and .u64 (v : Int) 4294967295 = (v0 : Int))
    (k1 : KD u v1 y1 y0) (hv0 : v0 < 4294967296) (eY : y1 * 4294967296 + y0 = Y) (hY : Y < 18446744073709551616)
    (hq : (u * 4294967296 + v1) / Y * 4294967296 + ((u * 4294967296 + v1) % Y * 4294967296 + v0) / Y = q0)
    (hr : ((((u * 4294967296 + v1) % Y * 4294967296 + v0) % Y : Nat) : Int) / 2 ^ s = (r0 : Int)) (w : World) :
    Calls Try.prog 36 #[.int .u64 (hi : Int), .int .u64 (lo : Int), .int .u64 (y : Int)] w
      fun e w' => e = .returned (.tuple #[.int .u64 (q0 : Int), .int .u64 (r0 : Int)]) ∧ w = w' := by
  have p1 : 0 < y1 := by have := k1.1; omega
  have hu : u < Y := by have := k1.2.2.2.2; omega
  have eT1 : kq u v1 y1 y0 = (u * 4294967296 + v1) / Y := by unfold kq; rw [eY]
  have eU : kr u v1 y1 y0 = (u * 4294967296 + v1) % Y := by unfold kr; rw [eY]
  have hU : kr u v1 y1 y0 < Y := by rw [eU]; exact Nat.mod_lt _ (by omega)
  have s1 := k_start k1
  have t1 := kq_lt k1
  have g1 := k_rest k1
  rw [eY] at g1
  rw [← eU, ← eT1] at hq
  rw [← eU] at hr
  clear eT1 eU
  generalize hT1 : kq u v1 y1 y0 = T1 at *
  generalize kr u v1 y1 y0 = U at *
  have k2 : KD U v0 y1 y0 := ⟨k1.1, k1.2.1, k1.2.2.1, hv0, by omega⟩
  have eT0 : kq U v0 y1 y0 = (U * 4294967296 + v0) / Y := by unfold kq; rw [eY]
  have eV : kr U v0 y1 y0 = (U * 4294967296 + v0) % Y := by unfold kr; rw [eY]
  have s2 := k_start k2
  have t2 := kq_lt k2
  have g5 := k_rest k2
  rw [eY] at g5
  rw [← eT0] at hq
  rw [← eV] at hr
  clear eT0 eV
  generalize hT0 : kq U v0 y1 y0 = T0 at *
  generalize kr U v0 y1 y0 = V at *
  have w1 := wrap_rest u y1 (by omega)
  have w2 := wrap_rest U y1 (by omega)
  have a1 : u / y1 < 4294967298 := by have := s1.2.2.2.1; omega
  have a2 : U / y1 < 4294967298 := by have := s2.2.2.2.1; omega
  generalize ha : u / y1 = a at *
  generalize u % y1 = b at *
  generalize ha2 : U / y1 = a' at *
  generalize U % y1 = b' at *
  have g4 := g4_of T1 T0 t1 t2
  rw [hq] at g4
  exact div64_core hi lo y s Y y1 y0 u v v1 v0 a b T1 U a' b' T0 V q0 r0 (Lib.hid hs) hs2 h0 hlt hy r1 r2 r3 r4 r5 r6 r7 p1 (nat_div u y1 a ha) a1 w1 (Lib.hid s1) (Lib.hid hT1) g1 (nat_div U y1 a' ha2) a2 w2 (Lib.hid s2) (Lib.hid hT0) g4 g5 hr w

theorem div64_great (hi lo y : Nat) (h0 : 0 < hi) (hlt : hi < y) (hy : y < 18446744073709551616) (hlo : lo < 18446744073709551616) (w : World) :
    Calls Try.prog 36 #[.int .u64 (hi : Int), .int .u64 (lo : Int), .int .u64 (y : Int)] w
      fun e w' => e = .returned (.tuple #[.int .u64 (((hi * 18446744073709551616 + lo) / y : Nat) : Int), .int .u64 (((hi * 18446744073709551616 + lo) % y : Nat) : Int)]) ∧ w = w' := by
  obtain ⟨Y, u, v, hs2, r1, hY1, hY2, r4, huY, r5, hv, hq, hr⟩ := norm hi lo y _ rfl hlt hy hlo
  have eY : Y / 4294967296 * 4294967296 + Y % 4294967296 = Y := Nat.div_add_mod' Y 4294967296
  have k1 : KD u (v / 4294967296) (Y / 4294967296) (Y % 4294967296) := ⟨by omega, by omega, by omega, by omega, by omega⟩
  have two := k_two u (v / 4294967296) (v % 4294967296) Y (by omega)
  have ev : v / 4294967296 * 4294967296 + v % 4294967296 = v := Nat.div_add_mod' v 4294967296
  rw [ev, hq] at two
  rw [← two.2] at hr
  exact div64_mid hi lo y _ Y _ _ u v _ _ _ _ rfl hs2 h0 hlt hy r1 (by omega) (maskN Y hY1) r4 r5 (by omega) (maskN v hv) k1 (by omega) eY hY1 two.1 hr w

set_option maxRecDepth 100000 in
theorem div64_small (lo y : Nat) (hy0 : 0 < y) (hy : y < 18446744073709551616) (hlo : lo < 18446744073709551616) (w : World) :
    Calls Try.prog 36 #[.int .u64 0, .int .u64 (lo : Int), .int .u64 (y : Int)] w
      fun e w' => e = .returned (.tuple #[.int .u64 ((lo / y : Nat) : Int), .int .u64 ((lo % y : Nat) : Int)]) ∧ Q w w' := by
  have b0 : ((y : Int) == 0) = false := by rw [beq_eq_false_iff_ne]; omega
  go_enter Try.func36, Try.ntmps36
  go_wp2
  go_quiet (fail)
  go_wp2
  go_ret2
  refine ⟨ret_eq (pair_eq ?_ ?_), (Q.refl _).drewN _⟩
  · rw [← Int.natCast_ediv]
    exact w64 _ (Nat.lt_of_le_of_lt (Nat.div_le_self _ _) hlo)
  · exact (Int.natCast_emod lo y).symm

/-! ### word.Div -/

theorem div_any (hi lo d : Nat) (hh : hi < 18446744073709551616) (hlo : lo < 18446744073709551616) (hd : d < 18446744073709551616) (w : World) :
    Calls Try.prog 29 #[.int .u64 (hi : Int), .int .u64 (lo : Int), .int .u64 (d : Int)] w
      fun e w' => e = .returned (.tuple #[.int .u64 ((divQ hi lo d : Nat) : Int), .int .u64 ((divR hi lo d : Nat) : Int), .int .i64 ((divE hi d : Nat) : Int)]) ∧ Q w w' := by
  by_cases h0 : d = 0
  · have e1 : divQ hi lo d = 0 := by unfold divQ; rw [if_pos (by omega)]
    have e2 : divR hi lo d = 0 := by unfold divR; rw [if_pos (by omega)]
    have e3 : divE hi d = 2 := by unfold divE; rw [if_pos h0]
    rw [e1, e2, e3]
    clear e1 e2 e3
    subst h0
    go_enter Try.func29, Try.ntmps29
    go_wp2
    go_ret3
    exact ⟨rfl, Q.refl _⟩
  · have b0 : ((d : Int) == 0) = false := by rw [beq_eq_false_iff_ne]; omega
    by_cases h1 : d ≤ hi
    · have e1 : divQ hi lo d = 0 := by unfold divQ; rw [if_pos h1]
      have e2 : divR hi lo d = 0 := by unfold divR; rw [if_pos h1]
      have e3 : divE hi d = 1 := by unfold divE; rw [if_neg h0, if_pos h1]
      rw [e1, e2, e3]
      clear e1 e2 e3
      go_enter Try.func29, Try.ntmps29
      go_wp2
      go_ret3
      exact ⟨rfl, Q.refl _⟩
    · have e1 : divQ hi lo d = num hi lo / d := by unfold divQ; rw [if_neg h1]
      have e2 : divR hi lo d = num hi lo % d := by unfold divR; rw [if_neg h1]
      have e3 : divE hi d = 0 := by unfold divE; rw [if_neg h0, if_neg h1]
      rw [e1, e2, e3]
      clear e1 e2 e3
      have hc : ∀ w, Calls Try.prog 36 #[.int .u64 (hi : Int), .int .u64 (lo : Int), .int .u64 (d : Int)] w
          fun e w' => e = .returned (.tuple #[.int .u64 ((num hi lo / d : Nat) : Int), .int .u64 ((num hi lo % d : Nat) : Int)]) ∧ Q w w' := by
        intro w
        by_cases hz : hi = 0
        · subst hz
          have e : num 0 lo = lo := by unfold num; omega
          rw [e]
          exact div64_small lo d (by omega) hd hlo w
        · exact (div64_great hi lo d (by omega) (by omega) hd hlo w).mono fun _ _ ⟨he, hw⟩ => ⟨he, hw ▸ Q.refl _⟩
      have HC := Lib.hid hc
      clear hc hh hlo hd
      go_enter Try.func29, Try.ntmps29
      go_wp2_with (go_at_call 36; refine (HC.out _).mono ?_; rintro e w' ⟨rfl, hq⟩)
      go_ret3
      exact ⟨rfl, hq⟩
end Go.Proofs.Ytdoohlehglakfaa
