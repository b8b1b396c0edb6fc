/-
  The document's answers of layer 12 over numbers: root, Sqrt, First, Step.
-/
import Derived.Test.YtojpfijjnocboaaPk6
import Derived.Test.YtojpfijjnocboaaPk38
import Derived.Test.YtojpfijjnocboaaPk40
namespace Go.Proofs.Ytojpfijjnocboaa
open Go.RowKit
set_option linter.unusedVariables false
set_option linter.unusedSimpArgs false

theorem kTrim (X : Nat) (hs : Sd X) (W : World) (v : Value) (h : De W v X) : Calls Try.prog 32 #[v] W (RwEnd .i64 W (dig 65536 X)) := by
  have c := rtrim_any v (dig 65536 X) (all_dig _ (by decide) X) (by have := hs.len; omega) W h
  rw [val_dig _ (by decide)] at c
  exact c
theorem kSub (X Y : Nat) (hle : Y ≤ X) (hs : Sd X) (W : World) (v u : Value) (h : De W v X) (h' : De W u Y) : Calls Try.prog 31 #[v, u] W (RwEnd .i64 W (dig 65536 (X - Y))) :=
  rsub4_any v u X Y hle (by have := hs.len; omega) W h h'
theorem isq_self' (A : Nat) : isq A ≤ A := sq_le_self (isq_le A)

set_option maxRecDepth 100000 in
set_option maxHeartbeats 4000000 in
theorem r12root_any (W : World) (va : Value) (A : Nat) (ha : De W va A) (hs : Sz 40 A) :
    Calls Try.prog 30 #[va] W (RwEnd .i64 W (dig 65536 (isq A))) := by
  have KB := Lib.hid (kBits A (hs.sd (by decide)) W va ha)
  have HE := hib_end A
  have hbb := blen_sz hs
  obtain ⟨b, eb⟩ : ∃ b, blen A = b := ⟨_, rfl⟩
  obtain ⟨T, eT⟩ : ∃ t, b / 2 + 2 = t := ⟨_, rfl⟩
  have H0 : Hid (hib A T = 0) := hib_start (by rw [eb]; omega)
  rw [eb] at KB hbb
  have HS : Hid (∀ s, s < T → Sd (hib A (s + 1)) ∧ Sd (2 ^ s) ∧ Sd (hib A (s + 1) + 2 ^ s) ∧ Sd ((hib A (s + 1) + 2 ^ s) * (hib A (s + 1) + 2 ^ s)) ∧ s ≤ 3000 ∧ hib A s = if (hib A (s + 1) + 2 ^ s) * (hib A (s + 1) + 2 ^ s) ≤ A then hib A (s + 1) + 2 ^ s else hib A (s + 1)) := fun s h => by
    have h1 : Sz 47 (hib A (s + 1)) := (hs.le (Nat.le_trans (hib_le A _) (isq_self' A))).mono (by decide)
    have h2 : Sz 47 (2 ^ s) := sz_pow s (by omega)
    have h3 := h1.add h2
    exact ⟨h1.sd (by decide), h2.sd (by decide), h3.sd (by decide), sd_mul h3 h3 (by decide), by omega, hib_step A s⟩
  have HA := Lib.hid ha
  have hsA := Lib.hid (hs.sd (by decide))
  obtain ⟨r, hr⟩ : ∃ r, isq A = r := ⟨_, rfl⟩
  rw [hr] at HE ⊢
  have HEE := Lib.hid HE
  have r1 : (b : Int) / 2 + 1 = (T : Int) - 1 := by omega
  have bb : (b : Int) ≤ 2560 := by omega
  have HT := Lib.hid eT
  have tb : (T : Int) ≤ 2562 := by omega
  obtain ⟨B1, n1, c1, e1⟩ : ∃ A n c, va = .slice A n c := by obtain ⟨A, c, h, _⟩ := ha; exact ⟨_, _, _, h⟩
  subst e1
  clear ha hs HE eb eT hr hbb
  go_enter Try.func30, Try.ntmps30
  go_wp2_with (go_at_call 40; (with_reducible refine KB.out.mono ?_); rintro e w' ⟨rfl, rfl⟩)
  go_loopw [3, 4] (fun x i wr => ∃ (t : Nat) (z : Int), t ≤ T ∧ i = .int .i64 z ∧ z = (t : Int) - 1 ∧ Hid (Rw .i64 wr x (dig 65536 (hib A t))) ∧ Hid (Bl W wr)) (fun _ i _ => (intOf i + 1).toNat)
  case atStart => exact ⟨T, _, Nat.le_refl _, rfl, rfl, by rw [H0.out, dig_zero]; exact Rw.nil _ _, Bl.refl _⟩
  case round =>
    obtain ⟨t, z, ht, rfl, hz, hx, hb⟩ := hrel
    by_cases h0 : t = 0
    · subst h0
      obtain rfl : z = -1 := by omega
      have hx0 := hx.out
      rw [HEE.out] at hx0
      have HX0 := Lib.hid hx0
      clear hx hx0 hz ht
      go_wp2
      go_ret
      exact RwEnd.mk HX0.out hb.out
    · obtain ⟨s, rfl⟩ : ∃ s, t = s + 1 := ⟨t - 1, by omega⟩
      obtain rfl : z = (s : Int) := by omega
      obtain ⟨s1, s2, s3, s4, s5, en⟩ := HS.out s (by omega)
      have HP := Lib.hid (kPower s s5)
      obtain ⟨X, eX⟩ : ∃ y, hib A (s + 1) = y := ⟨_, rfl⟩
      rw [eX] at hx s1 s3 s4 en
      obtain ⟨P, eP⟩ : ∃ y, 2 ^ s = y := ⟨_, rfl⟩
      rw [eP] at HP s2 s3 s4 en
      have KT := Lib.hid (kTrim P s2)
      have KA := Lib.hid (kAdd X P s1 s2)
      obtain ⟨Y, eY⟩ : ∃ y, X + P = y := ⟨_, rfl⟩
      rw [eY] at KA s3 s4 en
      have KM := Lib.hid (kMul Y Y s3 s3)
      obtain ⟨Z, eZ⟩ : ∃ y, Y * Y = y := ⟨_, rfl⟩
      rw [eZ] at KM s4 en
      have KC := Lib.hid (kCmp Z A s4 hsA.out)
      obtain ⟨q, eq⟩ : ∃ q, cmpi Z A = q := ⟨_, rfl⟩
      rw [eq] at KC
      have sb : (s : Int) ≤ 2562 := by omega
      have s0 : decide ((0 : Int) ≤ (s : Int)) = true := decide_eq_true (by omega)
      have HSS : Hid (s ≤ T) := by show s ≤ T; omega
      by_cases hle : Z ≤ A
      · rw [if_pos hle] at en
        have EN := Lib.hid en
        have q0 : decide (q ≤ 0) = true := decide_eq_true (by rw [← eq]; unfold cmpi; split <;> (try split) <;> omega)
        clear s1 s2 s3 s4 s5 en eX eP eY eZ eq hle hz ht h0
        go_wp2_with (first
          | (go_at_call 39; (with_reducible refine (HP.out _).mono ?_); rintro e w2 ⟨v2, rfl, hr, hb'⟩; have R2 := Lib.hid hr; have G2 := Lib.hid (hb.out.trans hb'); have X2 := Lib.hid (hx.out.bl hb'); clear hr hb')
          | (go_at_call 32; (with_reducible refine (KT.out _ _ R2.out).mono ?_); rintro e w3 ⟨v3, rfl, hr, hb'⟩; have R3 := Lib.hid hr; have G3 := Lib.hid (G2.out.trans hb'); have X3 := Lib.hid (X2.out.bl hb'); clear hr hb')
          | (go_at_call 23; (with_reducible refine (KA.out _ _ _ X3.out R3.out).mono ?_); rintro e w4 ⟨v4, rfl, hr, hb'⟩; have R4 := Lib.hid hr; have G4 := Lib.hid (G3.out.trans hb'); clear hr hb')
          | (go_at_call 22; (with_reducible refine (KM.out _ _ _ R4.out R4.out).mono ?_); rintro e w5 ⟨v5, rfl, hr, hb'⟩; have R5 := Lib.hid hr; have G5 := Lib.hid (G4.out.trans hb'); have Y5 := Lib.hid (R4.out.bl hb'); clear hr hb')
          | (go_at_call 24; (with_reducible refine (KC.out _ _ _ R5.out (HA.out.bl G5.out)).mono ?_); rintro e w6 ⟨rfl, hb'⟩; have G6 := Lib.hid (G5.out.trans hb'); have Y6 := Lib.hid (Y5.out.bl hb'); clear hb'))
        go_roundw
        case rel => exact ⟨s, _, HSS.out, rfl, rfl, by rw [EN.out]; exact Y6, G6⟩
        case measure => simp [intOf] <;> omega
      · rw [if_neg hle] at en
        have EN := Lib.hid en
        have q0 : decide (q ≤ 0) = false := decide_eq_false (by rw [← eq]; unfold cmpi; split <;> (try split) <;> omega)
        clear s1 s2 s3 s4 s5 en eX eP eY eZ eq hle hz ht h0
        go_wp2_with (first
          | (go_at_call 39; (with_reducible refine (HP.out _).mono ?_); rintro e w2 ⟨v2, rfl, hr, hb'⟩; have R2 := Lib.hid hr; have G2 := Lib.hid (hb.out.trans hb'); have X2 := Lib.hid (hx.out.bl hb'); clear hr hb')
          | (go_at_call 32; (with_reducible refine (KT.out _ _ R2.out).mono ?_); rintro e w3 ⟨v3, rfl, hr, hb'⟩; have R3 := Lib.hid hr; have G3 := Lib.hid (G2.out.trans hb'); have X3 := Lib.hid (X2.out.bl hb'); clear hr hb')
          | (go_at_call 23; (with_reducible refine (KA.out _ _ _ X3.out R3.out).mono ?_); rintro e w4 ⟨v4, rfl, hr, hb'⟩; have R4 := Lib.hid hr; have X4 := Lib.hid (X3.out.bl hb'); have G4 := Lib.hid (G3.out.trans hb'); clear hr hb')
          | (go_at_call 22; (with_reducible refine (KM.out _ _ _ R4.out R4.out).mono ?_); rintro e w5 ⟨v5, rfl, hr, hb'⟩; have R5 := Lib.hid hr; have G5 := Lib.hid (G4.out.trans hb'); have Y5 := Lib.hid (X4.out.bl hb'); clear hr hb')
          | (go_at_call 24; (with_reducible refine (KC.out _ _ _ R5.out (HA.out.bl G5.out)).mono ?_); rintro e w6 ⟨rfl, hb'⟩; have G6 := Lib.hid (G5.out.trans hb'); have Y6 := Lib.hid (Y5.out.bl hb'); clear hb'))
        go_roundw
        case rel => exact ⟨s, _, HSS.out, rfl, rfl, by rw [EN.out]; exact Y6, G6⟩
        case measure => simp [intOf] <;> omega

set_option maxRecDepth 100000 in
set_option maxHeartbeats 2000000 in
theorem r12sqrt_any (W : World) (va : Value) (A : Nat) (ha : Nu W va A) (hs : Sz 40 A) :
    Calls Try.prog 12 #[va] W (RwEnd2 .u64 W (dig 18446744073709551616 (isq A)) (dig 18446744073709551616 (A - isq A * isq A))) := by
  have KD := Lib.hid (kDg ha)
  have KR := Lib.hid (fun W' v' h => r12root_any W' v' A h hs)
  have hle := isq_le A
  have sx : Sz 40 (isq A) := hs.le (isq_self' A)
  obtain ⟨X, eX⟩ : ∃ y, isq A = y := ⟨_, rfl⟩
  rw [eX] at KR hle sx ⊢
  have KW := Lib.hid (kWords X (sx.sd (by decide)))
  have KM := Lib.hid (kMul X X (sx.sd (by decide)) (sx.sd (by decide)))
  obtain ⟨Q, eQ⟩ : ∃ y, X * X = y := ⟨_, rfl⟩
  rw [eQ] at KM hle ⊢
  have KS := Lib.hid (kSub A Q hle (hs.sd (by decide)))
  have KV := Lib.hid (kWords (A - Q) ((hs.le (Nat.sub_le _ _)).sd (by decide)))
  clear ha hs hle sx eX eQ
  go_enter Try.func12, Try.ntmps12
  go_wp2_with (first
    | (go_at_call 14; (with_reducible refine KD.out.mono ?_); rintro e w1 ⟨v1, rfl, hr, hb'⟩; have R1 := Lib.hid hr; have G1 := Lib.hid hb'; clear hr hb')
    | (go_at_call 30; (with_reducible refine (KR.out _ _ R1.out).mono ?_); rintro e w2 ⟨v2, rfl, hr, hb'⟩; have R2 := Lib.hid hr; have R1' := Lib.hid (R1.out.bl hb'); have G2 := Lib.hid (G1.out.trans hb'); clear hr hb')
    | (go_at_call 13; (with_reducible refine (KW.out _ _ R2.out).mono ?_); rintro e w3 ⟨v3, rfl, hr, hb'⟩; have R3 := Lib.hid hr; have R12 := Lib.hid (R1'.out.bl hb'); have R22 := Lib.hid (R2.out.bl hb'); have G3 := Lib.hid (G2.out.trans hb'); clear hr hb')
    | (go_at_call 22; (with_reducible refine (KM.out _ _ _ R22.out R22.out).mono ?_); rintro e w4 ⟨v4, rfl, hr, hb'⟩; have R4 := Lib.hid hr; have R13 := Lib.hid (R12.out.bl hb'); have R33 := Lib.hid (R3.out.bl hb'); have G4 := Lib.hid (G3.out.trans hb'); clear hr hb')
    | (go_at_call 31; (with_reducible refine (KS.out _ _ _ R13.out R4.out).mono ?_); rintro e w5 ⟨v5, rfl, hr, hb'⟩; have R5 := Lib.hid hr; have R34 := Lib.hid (R33.out.bl hb'); have G5 := Lib.hid (G4.out.trans hb'); clear hr hb')
    | (go_at_call 13; (with_reducible refine (KV.out _ _ R5.out).mono ?_); rintro e w6 ⟨v6, rfl, hr, hb'⟩; have R6 := Lib.hid hr; have R35 := Lib.hid (R34.out.bl hb'); have G6 := Lib.hid (G5.out.trans hb'); clear hr hb'))
  go_ret2
  exact RwEnd2.mk R35.out R6.out G6.out

set_option maxRecDepth 100000 in
set_option maxHeartbeats 2000000 in
theorem r12first_any (W : World) (va : Value) (A : Nat) (ha : Nu W va A) (hs : Sz 40 A) :
    Calls Try.prog 21 #[va] W (RwEnd .u64 W (dig 18446744073709551616 (fst A))) := by
  have KD := Lib.hid (kDg ha)
  have KB := Lib.hid (kBits A (hs.sd (by decide)))
  have hb := blen_sz hs
  have e0 : fst A = 2 ^ ((blen A + 1) / 2) := rfl
  obtain ⟨b, eb⟩ : ∃ b, blen A = b := ⟨_, rfl⟩
  rw [eb] at KB hb e0
  obtain ⟨c, ec⟩ : ∃ c, (b + 1) / 2 = c := ⟨_, rfl⟩
  rw [ec] at e0
  have r1 : ((b : Int) + 1) / 2 = (c : Int) := by omega
  have KP := Lib.hid (kPower c (by omega))
  have KW := Lib.hid (kWords (2 ^ c) ((sz_pow c (by omega)).sd (by decide)))
  rw [← e0] at KP KW
  have bb : (b : Int) ≤ 2560 := by omega
  clear ha hs hb e0 eb ec
  go_enter Try.func21, Try.ntmps21
  go_wp2_with (first
    | (go_at_call 14; (with_reducible refine KD.out.mono ?_); rintro e w1 ⟨v1, rfl, hr, hb'⟩; have R1 := Lib.hid hr; have G1 := Lib.hid hb'; clear hr hb')
    | (go_at_call 40; (with_reducible refine (KB.out _ _ R1.out).mono ?_); rintro e w' ⟨rfl, rfl⟩)
    | (go_at_call 39; (with_reducible refine (KP.out _).mono ?_); rintro e w2 ⟨v2, rfl, hr, hb'⟩; have R2 := Lib.hid hr; have G2 := Lib.hid (G1.out.trans hb'); clear hr hb')
    | (go_at_call 13; (with_reducible refine (KW.out _ _ R2.out).mono ?_); rintro e w3 ⟨v3, rfl, hr, hb'⟩; have R3 := Lib.hid hr; have G3 := Lib.hid (G2.out.trans hb'); clear hr hb'))
  go_ret
  exact RwEnd.mk R3.out G3.out

set_option maxRecDepth 100000 in
set_option maxHeartbeats 2000000 in
theorem r12step_any (W : World) (vx va : Value) (A X : Nat) (hx : Nu W vx X) (ha : Nu W va A) (hsx : Sz 40 X) (hs : Sz 40 A) (hp : 0 < X) :
    Calls Try.prog 19 #[vx, va] W (RwErr .u64 W (dig 18446744073709551616 (nwt A X)) 0) := by
  have KD := Lib.hid (kDg hx)
  have KA := Lib.hid (fun W' (g : Bl W W') => kDg (ha.bl g))
  have e0 : nwt A X = (X + A / X) / 2 := rfl
  rw [e0]
  have KV := Lib.hid (kDiv A X hp (hs.sd (by decide)) (hsx.sd (by decide)))
  have sq : Sz 40 (A / X) := hs.le (Nat.div_le_self _ _)
  obtain ⟨q, eq⟩ : ∃ y, A / X = y := ⟨_, rfl⟩
  obtain ⟨r, er⟩ : ∃ y, A % X = y := ⟨_, rfl⟩
  rw [eq, er] at KV
  rw [eq] at sq ⊢
  have KS := Lib.hid (kAdd X q (hsx.sd (by decide)) (sq.sd (by decide)))
  have s1 := hsx.add sq
  obtain ⟨s, es⟩ : ∃ y, X + q = y := ⟨_, rfl⟩
  rw [es] at KS s1 ⊢
  have s2 : Sd 2 := (show Sz 1 2 by unfold Sz; decide).sd (by decide)
  have KH := Lib.hid (kDiv s 2 (by decide) (s1.sd (by decide)) s2)
  have s3 : Sd (s / 2) := (s1.le (Nat.div_le_self _ _)).sd (by decide)
  obtain ⟨h, eh⟩ : ∃ y, s / 2 = y := ⟨_, rfl⟩
  obtain ⟨g, eg⟩ : ∃ y, s % 2 = y := ⟨_, rfl⟩
  rw [eh, eg] at KH
  rw [eh] at s3 ⊢
  have KW := Lib.hid (kWords h s3)
  have L2 : Hid (∀ (w : World) (b : Nat), b = w.heap.size → De (w.alloc (.cells #[.int .i64 2] 3)) (.slice (some ⟨b, 0, none⟩) 1 1) 2) := fun w b hb => by
    have e : dig 65536 2 = [2] := by decide +kernel
    show Rw _ _ _ _
    rw [e]
    exact lit_at hb
  have hl := dig_len_pos 65536 (by decide) X hp
  have hl2 := (hsx.sd (by decide)).len
  obtain ⟨n, hn⟩ : ∃ n, (dig 65536 X).length = n := ⟨_, rfl⟩
  have n0 : ((n : Int) == 0) = false := by rw [beq_eq_false_iff_ne]; omega
  have nb : (n : Int) ≤ 800 := by omega
  have HN := Lib.hid hn
  clear hx ha hsx hs hp e0 sq eq er s1 es s2 s3 eh eg hl hl2 hn
  go_enter Try.func19, Try.ntmps19
  go_wp2_with (first
    | (go_at_call 14; (with_reducible refine KD.out.mono ?_); rintro e w1 ⟨v1, rfl, hr, hb'⟩; obtain ⟨A1, k1, e1⟩ := rw_shape hr HN.out; subst e1; have R1 := Lib.hid hr; have G1 := Lib.hid hb'; clear hr hb')
    | (go_at_call 14; (with_reducible refine (KA.out _ G1.out).mono ?_); rintro e w2 ⟨v2, rfl, hr, hb'⟩; have R2 := Lib.hid hr; have R1' := Lib.hid (R1.out.bl hb'); have G2 := Lib.hid (G1.out.trans hb'); clear hr hb')
    | (go_at_call 36; (with_reducible refine (KV.out _ _ _ R2.out R1'.out).mono ?_); rintro e w3 ⟨v3, v4, rfl, hr, hs, hb'⟩; have R3 := Lib.hid hr; have R12 := Lib.hid (R1'.out.bl hb'); have G3 := Lib.hid (G2.out.trans hb'); clear hr hs hb')
    | (go_at_call 23; (with_reducible refine (KS.out _ _ _ R12.out R3.out).mono ?_); rintro e w4 ⟨v5, rfl, hr, hb'⟩; have R4 := Lib.hid hr; have G4 := Lib.hid (G3.out.trans hb'); clear hr hb')
    | (go_at_call 36; (with_reducible refine (KH.out _ _ _ (R4.out.bl ((Bl.refl _).alloc _)) (L2.out _ _ rfl)).mono ?_); rintro e w5 ⟨v6, v7, rfl, hr, hs, hb'⟩; have R5 := Lib.hid hr; have G5 := Lib.hid ((G4.out.alloc _).trans hb'); clear hr hs hb')
    | (go_at_call 13; (with_reducible refine (KW.out _ _ R5.out).mono ?_); rintro e w6 ⟨v8, rfl, hr, hb'⟩; have R6 := Lib.hid hr; have G6 := Lib.hid (G5.out.trans hb'); clear hr hb'))
  go_ret2
  exact RwErr.mk R6.out G6.out
set_option maxRecDepth 100000 in
theorem r12step0_any (W : World) (vx va : Value) (hx : Nu W vx 0) :
    Calls Try.prog 19 #[vx, va] W (RwErr .u64 W [] 2) := by
  have KD := Lib.hid (kDg hx)
  rw [dig_zero] at KD
  clear hx
  go_enter Try.func19, Try.ntmps19
  go_wp2_with (go_at_call 14; (with_reducible refine KD.out.mono ?_); rintro e w1 ⟨v1, rfl, hr, hb'⟩; obtain ⟨A1, k1, e1⟩ := row0 hr; subst e1; have G1 := Lib.hid hb'; clear hr hb')
  go_ret2
  exact RwErr.mk (Rw.nil _ _) G1.out
end Go.Proofs.Ytojpfijjnocboaa
