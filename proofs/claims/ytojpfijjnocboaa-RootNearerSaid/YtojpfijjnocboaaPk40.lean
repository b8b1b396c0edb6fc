/-
  Package root: Sqrt, Whole, over numbers. · Package quot: Guess, over numbers. · Package quot: tooLong, Pow, over numbers. · The document's answers of layer 6 over numbers: Div, Guess, Gcd, Pow.
-/
import Derived.Test.YtojpfijjnocboaaPk39
import Derived.Test.YtojpfijjnocboaaPk33
import Derived.Test.YtojpfijjnocboaaPk35
import Derived.Test.YtojpfijjnocboaaPk37
import Derived.Test.YtojpfijjnocboaaPk34
import Derived.Test.YtojpfijjnocboaaPk36
import Derived.Test.YtojpfijjnocboaaPk38
namespace Go.Proofs.Ytojpfijjnocboaa
open Go.RowKit
set_option linter.unusedVariables false
set_option linter.unusedSimpArgs false

/-- The number in a box (a loop's measure). -/
noncomputable def boxNu (w : World) (b : Nat) : Nat := match w.cell? ⟨b, 0, none⟩ with
  | some v => nuOf .u64 18446744073709551616 w v
  | none => 0
theorem boxNu_eq {w : World} {b X : Nat} {v : Value} (hc : w.cell? ⟨b, 0, none⟩ = some v) (h : Rw .u64 w v (dig 18446744073709551616 X)) : boxNu w b = X := by
  unfold boxNu
  rw [hc]
  exact nuOf_eq (by decide) h

/-- Between two steps: the box holds a number that is not below the root; all else is as it was. -/
structure SqB (W : World) (pa px A j : Nat) (va : Value) (X : Nat) (vx : Value) (w : World) : Prop where
  bl : Bl W w
  ba : Boxed w pa 22 va
  bx : Boxed w px 22 vx
  hx : Rw .u64 w vx (dig 18446744073709551616 X)
  ge : isq A ≤ X
  sz : Sz (j + 1) X

theorem SqB.mono {W w w' : World} {pa px A j X : Nat} {va vx : Value} (h : SqB W pa px A j va X vx w) (g : Bl w w') : SqB W pa px A j va X vx w' :=
  ⟨h.bl.trans g, (g.block _ h.ba.lt).trans h.ba, (g.block _ h.bx.lt).trans h.bx, h.hx.bl g, h.ge, h.sz⟩
theorem SqB.drew {W w : World} {pa px A j X : Nat} {va vx : Value} (h : SqB W pa px A j va X vx w) : SqB W pa px A j va X vx w.drew := h.mono (Bl.refl w).drew
theorem SqB.step {W w w' : World} {pa px A j X Y : Nat} {va vx vy : Value} (h : SqB W pa px A j va X vx w) (g : Bl w w') (hy : Rw .u64 w' vy (dig 18446744073709551616 Y)) (hne : pa ≠ px) (hp : W.heap.size ≤ px) (hv : ∀ z, vx ≠ .int .u64 z) (hge : isq A ≤ Y) (hsz : Sz (j + 1) Y) :
    SqB W pa px A j va Y vy (w'.setCell ⟨px, 0, none⟩ vy) := by
  have h' := h.mono g
  exact ⟨h'.bl.setCell (p := ⟨px, 0, none⟩) hp vy, boxed_other h'.ba px 0 vy (Ne.symm hne), h'.bx.set vy, rw_boxq hy h'.bx hv vy, hge, hsz⟩

set_option maxRecDepth 100000 in
set_option maxHeartbeats 8000000 in
theorem pSqrt_of (W : World) (va : Value) (A j : Nat) (ha : Nu W va A) (hs : Sz j A) (hj : j ≤ 400000)
    (KAb : ∀ W' v', Nu W' v' A → Calls Try.prog 25 #[v'] W' (RwEnd .u64 W' (dig 18446744073709551616 (abv A)))) :
    Calls Try.prog 11 #[va] W (RwEnd2 .u64 W (dig 18446744073709551616 (isq A)) (dig 18446744073709551616 (A - isq A * isq A))) := by
  have HA := Lib.hid ha
  have KB := Lib.hid (fun W' (g : Bl W W') => KAb W' va (ha.bl g))
  have S1 := Lib.hid (hs.abv)
  have G1 := Lib.hid (abv_gt A)
  obtain ⟨X0, e0⟩ : ∃ y, abv A = y := ⟨_, rfl⟩
  rw [e0] at KB S1 G1
  have KST := Lib.hid (fun W' v' X (g : Bl W W') (h : Rw .u64 W' v' (dig 18446744073709551616 X)) (h' : Sz (j + 1) X) (hp : 0 < X) => pStep W' v' va A X (j + 1) (Nu.dig h h' (by omega)) (ha.bl g) h' (hs.mono (by omega)) (by omega) hp)
  have KSZ := Lib.hid (fun W' v' (g : Bl W W') (h : Rw .u64 W' v' (dig 18446744073709551616 0)) => pStep0 W' v' va A (by have := Nu.dig (k := 0) h (by unfold Sz; decide) (by decide); exact this) (ha.bl g))
  have KC := Lib.hid (fun W' v' u' X Y (h : Rw .u64 W' v' (dig 18446744073709551616 X)) (h' : Rw .u64 W' u' (dig 18446744073709551616 Y)) (hx : Sz (j + 1) X) (hy : Sz (j + 1) Y) => pCmp W' v' u' X Y (Nu.dig h hx (by omega)) (Nu.dig h' hy (by omega)))
  have KCL := Lib.hid (fun W' pa px v' (h : SqB W pa px A j va (isq A) v' W') => psqrtc_any W W' pa px va v' A (isq A) (j + 1) (ha.bl h.bl) (Nu.dig h.hx h.sz (by omega)) h.ba h.bx h.sz (by omega) (isq_le A))
  have HSA := Lib.hid hs
  obtain ⟨la, ⟨B1, c1, rfl, _⟩, -⟩ := ha
  clear hs hj KAb e0
  go_enter Try.func11, Try.ntmps11
  go_wp2
  go_step3
  go_wp2_with (go_at_call 25; (with_reducible refine (KB.out _ ((Bl.refl W).alloc _)).mono ?_); rintro e w2 ⟨v2, rfl, hr, hb'⟩; obtain ⟨n2, hn2⟩ : ∃ n, (dig 18446744073709551616 X0).length = n := ⟨_, rfl⟩; obtain ⟨A2, k2, e2⟩ := rw_shape hr hn2; subst e2; have R2 := Lib.hid hr; have L2 := Lib.hid hb'; clear hr hb' hn2)
  go_step3
  go_wp2
  have I0 : Hid (SqB W W.heap.size w2.heap.size A j (.slice B1 la.length c1) X0 (.slice A2 n2 k2) (w2.alloc (.cells #[.slice A2 n2 k2] 22))) :=
    ⟨((Bl.refl W).alloc _).trans (L2.out.alloc _), Boxed.alloc ((L2.out.block _ (by simp)).trans (Boxed.new W _ _)) _, Boxed.new w2 _ _, R2.out.bl ((Bl.refl w2).alloc _), Nat.le_of_lt G1.out, S1.out⟩
  have hsz : W.heap.size < w2.heap.size := by have := L2.out.size; simp at this; omega
  obtain ⟨px, hpx⟩ : ∃ n, w2.heap.size = n := ⟨_, rfl⟩
  rw [hpx] at I0 hsz ⊢
  obtain ⟨pa, hpa⟩ : ∃ n, W.heap.size = n := ⟨_, rfl⟩
  rw [hpa] at I0 hsz ⊢
  have HPA := Lib.hid hpa
  have HSZ := Lib.hid hsz
  obtain ⟨la', hla⟩ : ∃ n, la.length = n := ⟨_, rfl⟩
  rw [hla] at I0 KCL KST KSZ ⊢
  clear hpx hpa hsz L2 R2 KB hla
  go_loopw [] (fun wr => ∃ (X : Nat) (vx : Value), Hid (SqB W pa px A j (.slice B1 la' c1) X vx wr)) (fun wr => boxNu wr px)
  case atStart => exact ⟨_, _, I0⟩
  case round =>
    clear I0
    obtain ⟨X, vx, hI⟩ := hrel
    have hl := hI.out.hx
    obtain ⟨n3, hn3⟩ : ∃ n, (dig 18446744073709551616 X).length = n := ⟨_, rfl⟩
    obtain ⟨A3, k3, e3⟩ := rw_shape hl hn3
    subst e3
    have q1 := hI.out.ba.cell
    have q2 := hI.out.bx.cell
    clear hl hn3
    by_cases h0 : X = 0
    · subst h0
      have hz : isq A = 0 := Nat.le_zero.1 hI.out.ge
      have K1 := Lib.hid (KSZ.out _ _ hI.out.bl hI.out.hx)
      have IN : Hid (SqB W pa px A j (.slice B1 la' c1) (isq A) (.slice A3 n3 k3) wr) := by rw [hz]; exact hI.out
      clear hz
      go_wp2_with (go_at_call 18; (with_reducible refine K1.out.mono ?_); rintro e w5 ⟨v5, rfl, hr5, hb5⟩; have IN1 := Lib.hid (IN.out.mono hb5); have c5 := IN1.out.bx.cell; clear hr5 hb5)
      go_region_with (go_at_call 26; (with_reducible refine (KCL.out _ _ _ _ (SqB.drew IN1.out)).mono ?_); rintro e w6 ⟨v6, rfl, hr6, hb6⟩; have R6 := Lib.hid hr6; have I6 := Lib.hid (IN1.out.drew.mono hb6); have c6 := I6.out.bx.cell; clear hr6 hb6)
      all_goals (try go_wp2)
      all_goals (try rw [Exit.noGoto_ret])
      all_goals go_ret2
      all_goals exact RwEnd2.mk I6.out.hx R6.out I6.out.bl
    · have hp : 0 < X := Nat.pos_of_ne_zero h0
      have K1 := Lib.hid (KST.out _ _ X hI.out.bl hI.out.hx hI.out.sz hp)
      have hge := nwt_ge (a := A) hp
      have hlt := fun h => nwt_lt (a := A) (x := X) h
      have hend := nwt_end (a := A) (x := X) hI.out.ge
      have hsN : Sz (j + 1) (nwt A X) := by
        have h1 := hI.out.sz
        have h2 : Sz (j + 1) (A / X) := (HSA.out.le (Nat.div_le_self _ _)).mono (by omega)
        unfold Sz at *
        unfold nwt
        omega
      obtain ⟨N, eN⟩ : ∃ y, nwt A X = y := ⟨_, rfl⟩
      rw [eN] at K1 hge hlt hend hsN
      have KC1 := Lib.hid (fun W' v' u' (h : Rw .u64 W' v' (dig 18446744073709551616 N)) (h' : Rw .u64 W' u' (dig 18446744073709551616 X)) => KC.out W' v' u' N X h h' hsN hI.out.sz)
      obtain ⟨n5, hn5⟩ : ∃ n, (dig 18446744073709551616 N).length = n := ⟨_, rfl⟩
      have HN5 := Lib.hid hn5
      obtain ⟨z, ez⟩ : ∃ z, cmpi N X = z := ⟨_, rfl⟩
      rw [ez] at KC1
      have HX := Lib.hid (show boxNu wr px = X from boxNu_eq hI.out.bx.cell hI.out.hx)
      by_cases hle : X ≤ N
      · have hx := hend hle
        subst hx
        have z0 : decide ((0 : Int) ≤ z) = true := decide_eq_true (by rw [← ez]; unfold cmpi; split <;> (try split) <;> omega)
        have IN := Lib.hid hI.out
        clear hle hend hlt hge hsN eN hp h0 hn5 ez hI
        go_wp2_with (first
          | (go_at_call 18; (with_reducible refine K1.out.mono ?_); rintro e w5 ⟨v5, rfl, hr5, hb5⟩; obtain ⟨A5, k5, e5⟩ := rw_shape hr5 HN5.out; subst e5; have I5 := Lib.hid (IN.out.mono hb5); have c5 := I5.out.bx.cell; have R5 := Lib.hid hr5; clear hr5 hb5)
          | (go_at_call 29; (with_reducible refine (KC1.out _ _ _ R5.out I5.out.hx).mono ?_); rintro e w7 ⟨rfl, hb7⟩; have IN1 := Lib.hid (I5.out.mono hb7); have R7 := Lib.hid (R5.out.bl hb7); have c7 := IN1.out.bx.cell; have f7 := IN1.out.bx.frozen; clear hb7))
        go_region_with (go_at_call 26; (with_reducible refine (KCL.out _ _ _ _ (SqB.drew IN1.out)).mono ?_); rintro e w6 ⟨v6, rfl, hr6, hb6⟩; have R6 := Lib.hid hr6; have I6 := Lib.hid (IN1.out.drew.mono hb6); have c6 := I6.out.bx.cell; clear hr6 hb6)
        all_goals (try go_wp2)
        all_goals (try rw [Exit.noGoto_ret])
        all_goals go_ret2
        all_goals exact RwEnd2.mk I6.out.hx R6.out I6.out.bl
      · have hNX : N < X := Nat.lt_of_not_le hle
        have z0 : decide ((0 : Int) ≤ z) = false := decide_eq_false (by rw [← ez]; unfold cmpi; split <;> (try split) <;> omega)
        have IN := Lib.hid hI.out
        have HLT := Lib.hid hNX
        have HGE := Lib.hid hge
        have HSN := Lib.hid hsN
        clear hle hend hlt hge hsN eN hp h0 hn5 ez hI hNX
        go_wp2_with (first
          | (go_at_call 18; (with_reducible refine K1.out.mono ?_); rintro e w5 ⟨v5, rfl, hr5, hb5⟩; obtain ⟨A5, k5, e5⟩ := rw_shape hr5 HN5.out; subst e5; have I5 := Lib.hid (IN.out.mono hb5); have c5 := I5.out.bx.cell; have R5 := Lib.hid hr5; clear hr5 hb5)
          | (go_at_call 29; (with_reducible refine (KC1.out _ _ _ R5.out I5.out.hx).mono ?_); rintro e w7 ⟨rfl, hb7⟩; have IN1 := Lib.hid (I5.out.mono hb7); have R7 := Lib.hid (R5.out.bl hb7); have c7 := IN1.out.bx.cell; have f7 := IN1.out.bx.frozen; clear hb7))
        have INS := Lib.hid (IN1.out.step (Bl.refl _) R7.out (Nat.ne_of_lt HSZ.out) (by have := HSZ.out; rw [HPA.out]; omega) (fun z h => by cases h) HGE.out HSN.out)
        go_roundw
        case rel => exact ⟨N, _, INS⟩
        case measure =>
          rw [HX.out, boxNu_eq INS.out.bx.cell INS.out.hx]
          exact HLT.out

/-- Sqrt, for numbers of so many bits at most. -/
theorem pSqrt_bits (n : Nat) : ∀ (W : World) (va : Value) (A j : Nat), blen A ≤ n → Nu W va A → Sz j A → j ≤ 400000 →
    Calls Try.prog 11 #[va] W (RwEnd2 .u64 W (dig 18446744073709551616 (isq A)) (dig 18446744073709551616 (A - isq A * isq A))) := by
  induction n with
  | zero => exact fun W va A j hb ha hs hj => pSqrt_of W va A j ha hs hj (fun W' v' h => pabove_of W' v' A j h hs hj (fun B hB => absurd hB (by omega)))
  | succ n ih => exact fun W va A j hb ha hs hj => pSqrt_of W va A j ha hs hj (fun W' v' h => pabove_of W' v' A j h hs hj (fun B hB hsB W2 v2 h2 => ih W2 v2 B j (by omega) h2 hsB hj))
theorem pSqrt (W : World) (va : Value) (A j : Nat) (ha : Nu W va A) (hs : Sz j A) (hj : j ≤ 400000) :
    Calls Try.prog 11 #[va] W (RwEnd2 .u64 W (dig 18446744073709551616 (isq A)) (dig 18446744073709551616 (A - isq A * isq A))) := pSqrt_bits _ W va A j (Nat.le_refl _) ha hs hj

set_option maxRecDepth 100000 in
theorem pWhole (W : World) (va : Value) (A j : Nat) (ha : Nu W va A) (hs : Sz j A) (hj : j ≤ 400000) :
    Calls Try.prog 17 #[va] W fun e w => e = .returned (.bool (decide (A - isq A * isq A = 0))) ∧ Bl W w := by
  have KQ := Lib.hid (pSqrt W va A j ha hs hj)
  have h1 : Sz j (A - isq A * isq A) := hs.le (Nat.sub_le _ _)
  have hl := dig_len_of_lt 18446744073709551616 (by decide) _ j h1
  obtain ⟨R, eR⟩ : ∃ y, A - isq A * isq A = y := ⟨_, rfl⟩
  rw [eR] at KQ hl ⊢
  obtain ⟨n, hn⟩ : ∃ n, (dig 18446744073709551616 R).length = n := ⟨_, rfl⟩
  have HN := Lib.hid hn
  have d0 : ((n : Int) == 0) = decide (R = 0) := by
    rw [← hn]
    by_cases h0 : R = 0
    · subst h0; rw [dig_zero]; rfl
    · have := dig_len_pos 18446744073709551616 (by decide) R (by omega)
      rw [decide_eq_false h0, beq_eq_false_iff_ne]; omega
  obtain ⟨t, ht⟩ : ∃ t, decide (R = 0) = t := ⟨_, rfl⟩
  rw [ht] at d0 ⊢
  have nb : (n : Int) ≤ 1048576 := by omega
  clear ha hs hj h1 hl eR hn ht
  go_enter Try.func17, Try.ntmps17
  go_wp2_with (go_at_call 11; (with_reducible refine KQ.out.mono ?_); rintro e w1 ⟨v1, v2, rfl, hr, hs, hb'⟩; obtain ⟨A2, k2, e2⟩ := rw_shape hs HN.out; subst e2; have G1 := Lib.hid hb'; clear hr hs hb')
  go_ret
  exact ⟨by first | rfl | rw [d0] | simp [d0], G1.out⟩
end Go.Proofs.Ytojpfijjnocboaa
namespace Go.Proofs.Ytojpfijjnocboaa
open Go.RowKit
set_option linter.unusedVariables false
set_option linter.unusedSimpArgs false

/-- A quotient of one figure. -/
def gsN (A D : Nat) : Nat := if D = 0 then 0 else if D * 18446744073709551616 ≤ A then 18446744073709551615 else A / D

end Go.Proofs.Ytojpfijjnocboaa
namespace Go.Proofs.Ytojpfijjnocboaa
open Go.RowKit
set_option linter.unusedVariables false
set_option linter.unusedSimpArgs false

theorem pow_size' {A n m K : Nat} (hK : 262144 < 64 * K) (h : blen A * n ≤ 262144) (hm : m ≤ n) : Sz K (A ^ m) := by
  have h1 : A ≤ 2 ^ blen A := by
    unfold blen
    split
    · omega
    · exact Nat.le_of_lt ((Nat.log2_lt (by omega)).1 (by omega))
  have h2 : A ^ m ≤ 2 ^ (blen A * m) := by rw [Nat.pow_mul]; exact Nat.pow_le_pow_left h1 m
  have h3 : blen A * m < 64 * K := Nat.lt_of_le_of_lt (Nat.le_trans (Nat.mul_le_mul_left _ hm) h) hK
  unfold Sz
  have e : (18446744073709551616 : Nat) = 2 ^ 64 := by decide
  rw [e, ← Nat.pow_mul]
  exact Nat.lt_of_le_of_lt h2 (Nat.pow_lt_pow_right (by decide) h3)
theorem pow_size {A n m : Nat} (h : blen A * n ≤ 262144) (hm : m ≤ n) : Sz 4097 (A ^ m) := pow_size' (by decide) h hm
theorem half_step (n s : Nat) : n / 2 ^ s = 2 * (n / 2 ^ (s + 1)) + n / 2 ^ s % 2 := by
  rw [Nat.pow_succ, ← Nat.div_div_eq_div_mul]
  omega
theorem and_one_i64 (x : Nat) (hx : x < 9223372036854775808) : bits .and .i64 (x : Int) 1 = ((x % 2 : Nat) : Int) := by
  have two63 : (2 : Int) ^ 63 = 9223372036854775808 := by decide
  have h := bits_mask .i64 63 (by decide) (fun n h0 h1 => by rw [two63] at h1; rw [IntKind.wrap_i64]; omega) 1 (by decide) (x : Int) (by omega) (by rw [two63]; omega)
  have e : ((2 : Int) ^ 1 - 1) = 1 := by decide
  rw [e] at h
  rw [h]
  omega

end Go.Proofs.Ytojpfijjnocboaa
namespace Go.Proofs.Ytojpfijjnocboaa
open Go.RowKit
set_option linter.unusedVariables false
set_option linter.unusedSimpArgs false

end Go.Proofs.Ytojpfijjnocboaa
