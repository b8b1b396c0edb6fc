/-
  The walk of ProdMacs.
-/
import Derived.Test.YteoeaogfeblokaaProdS
import Derived.Test.YteoeaogfeblokaaProdD
namespace Go.Proofs.Yteoeaogfeblokaa
open Go.RowKit
set_option linter.unusedVariables false
set_option linter.unusedSimpArgs false

theorem macs_step (A : Nat) (l : List Nat) (i : Nat) (h : i < l.length) : A * val 18446744073709551616 (l.take i) + A * l[i] * 18446744073709551616 ^ i = A * val 18446744073709551616 (l.take (i + 1)) := by
  rw [val_take_succ _ _ _ h, Nat.mul_add, Nat.mul_assoc, Nat.mul_comm l[i]]
theorem nu_nil (W : World) : Nu W (.slice none 0 0) 0 := ⟨[], Rw.nil _ _, all_nil _, by simp, rfl⟩

set_option maxRecDepth 100000 in
set_option maxHeartbeats 8000000 in
theorem prodMacs_walk (va : Value) (la : List Nat) (vb : Value) (lb : List Nat) (ha : All 18446744073709551616 la) (hb : All 18446744073709551616 lb) (w : World) (ra : Rw .u64 w va la) (rb : Rw .u64 w vb lb) :
    Calls Try.prog 9 #[va, vb] w fun e w' => e = .returned (.bool true) ∧ Bl w w' := by
  by_cases hf : la.length ≤ 40 ∧ lb.length ≤ 40
  · skip
    have FE := Lib.hid (fun W h1 h2 => few5_yes va vb la lb hf.1 hf.2 W h1 h2)
    have Na : Hid (Nu w va (val 18446744073709551616 la)) := Nu.mk ra ha (by omega)
    have sa := Lib.hid (Sz.of_val ha (k := 40) (by omega))
    have Qa := Lib.hid ra
    obtain ⟨A, eA⟩ : ∃ x, val 18446744073709551616 la = x := ⟨_, rfl⟩
    rw [eA] at Na sa
    have Nb : Hid (Nu w vb (val 18446744073709551616 lb)) := Nu.mk rb hb (by omega)
    have sb := Lib.hid (Sz.of_val hb (k := 40) (by omega))
    have Qb := Lib.hid rb
    obtain ⟨B, eB⟩ : ∃ x, val 18446744073709551616 lb = x := ⟨_, rfl⟩
    rw [eB] at Nb sb
    obtain ⟨P, eP⟩ : ∃ x, A * B = x := ⟨_, rfl⟩
    have sP : Hid (Sz 80 P) := (by rw [← eP]; exact szmul sa.out sb.out)
    have sA := sa
    have sB := sb
    have K1 : Hid (∀ W v u, Nu W v A → Nu W u B → Calls Try.prog 14 #[v, u] W (RwEnd .u64 W (dig 18446744073709551616 P))) := fun W v u h0 h1 => by
      have c := pSchool W v u A B 40 40 h0 h1 sA.out sB.out (by decide)
      rw [eP] at c
      exact c
    have D1 : Hid (∀ W v, Nu W v P → Calls Try.prog 23 #[v] W (RwEnd .i64 W (dig 65536 P))) := fun W v h0 => by
      have c := kDg h0
      exact c
    have D2 : Hid (∀ W v, De W v P → Calls Try.prog 21 #[v] W (RwEnd .u64 W (dig 18446744073709551616 P))) := fun W v h0 => by
      have c := kWords P (sP.out.sd (by decide)) W v h0
      exact c
    have E1 := Lib.hid (kSame P (sP.out.sd (by decide)))
    have SZ : Hid (∀ i, Sz 80 (A * val 18446744073709551616 (lb.take i))) := fun i => (szmul sa.out (Sz.of_val (all_take hb i) (k := 40) (by rw [List.length_take]; omega)))
    have KM : Hid (∀ W v u i (h : i < lb.length), Nu W v (A * val 18446744073709551616 (lb.take i)) → Nu W u A → Calls Try.prog 17 #[v, u, .int .u64 ((lb[i] : Nat) : Int), .int .i64 (i : Int)] W (RwEnd .u64 W (dig 18446744073709551616 (A * val 18446744073709551616 (lb.take (i + 1)))))) := fun W v u i h h0 h1 => by
      have c := pMac W v u _ A lb[i] 40 (i : Int) h0 h1 (hb i h) sa.out (by decide) (by omega) (by omega)
      rw [Int.toNat_natCast, macs_step] at c
      exact c
    have HE : Hid (A * val 18446744073709551616 (lb.take lb.length) = P) := by show A * val 18446744073709551616 (lb.take lb.length) = P; rw [List.take_length, eB, eP]
    obtain ⟨Bv, cb, rfl, _, _, _, hxb⟩ := id rb
    have HXB := Lib.hid hxb
    obtain ⟨k, ek⟩ : ∃ k, lb.length = k := ⟨_, rfl⟩
    rw [ek] at HE Qb Nb FE ⊢
    have HK := Lib.hid ek
    have hkb : (k : Int) ≤ 40 := by omega
    clear ha hb ra rb eA eB eP hf sA sB hxb ek
    go_enter Try.func9, Try.ntmps9
    go_wp2_with (first
      | (go_at_call 10; (with_reducible refine (shown5_any _).mono ?_); rintro e w1 ⟨rfl, hb'⟩; have G1 := Lib.hid hb'; clear hb')
      | (go_at_call 11; (with_reducible refine (FE.out _ (Qa.out.bl G1.out) (Qb.out.bl G1.out)).mono ?_); rintro e w' ⟨rfl, rfl⟩))
    go_loopw [7, 8] (fun s c wr => ∃ i : Nat, i ≤ k ∧ c = .int .i64 (i : Int) ∧ Hid (Nu wr s (A * val 18446744073709551616 (lb.take i))) ∧ Hid (Bl w wr)) (fun _ c _ => k - (intOf c).toNat)
    case atStart => exact ⟨0, Nat.zero_le _, rfl, nu_nil _, G1⟩
    case round =>
      obtain ⟨i, hik, rfl, hN, hB⟩ := hrel
      clear G1
      by_cases hlt : i < k
      · have him : i < lb.length := by rw [HK.out]; exact hlt
        obtain ⟨ad, hA, hca⟩ := (HXB.out.bl hB.out).at_ (i := i) him
        have KM1 := Lib.hid (fun W v u h0 h1 => KM.out W v u i him h0 h1)
        have sz1 := Lib.hid (SZ.out (i + 1))
        obtain ⟨y, ey⟩ : ∃ y, lb[i] = y := ⟨_, rfl⟩
        rw [ey] at hca KM1
        have b1 : (0 : Int) ≤ (i : Int) ∧ (i : Int) < (k : Int) := by omega
        have hi1 : Hid (i + 1 ≤ k) := hlt
        subst hA
        clear ey him
        go_wp2_with (go_at_call 17; (with_reducible refine (KM1.out _ _ _ hN.out (Na.out.bl hB.out)).mono ?_); rintro e w2 ⟨v2, rfl, hr, hb'⟩; have N2 := Lib.hid (Nu.dig hr sz1.out (by decide)); have G2 := Lib.hid (hB.out.trans hb'); clear hr hb')
        go_roundw
        case rel => exact ⟨i + 1, hi1.out, by go_num, N2, G2⟩
        case measure => have := hi1.out; simp [intOf] <;> omega
      · have hin : i = k := by omega
        subst hin
        rw [HE.out] at hN
        have Na' := Lib.hid (Na.out.bl hB.out)
        have Nb' := Lib.hid (Nb.out.bl hB.out)
        clear KM SZ Na Nb hlt hik
        go_wp2_with (first
          | (go_at_call 23; (with_reducible refine (D1.out _ _ hN.out).mono ?_); rintro e w1 ⟨d1, rfl, hr, hb'⟩; have G_1 := Lib.hid (hr); have G1 := Lib.hid hb'; clear hr hb')
          | (go_at_call 21; (with_reducible refine (D2.out _ _ G_1.out).mono ?_); rintro e w2 ⟨v1, rfl, hr, hb'⟩; have R1 := Lib.hid (hr); have G2 := Lib.hid hb'; clear hr hb')
          | (go_at_call 14; (with_reducible refine (K1.out _ _ _ (Na'.out.bl (G1.out.trans G2.out)) (Nb'.out.bl (G1.out.trans G2.out))).mono ?_); rintro e w3 ⟨v2, rfl, hr, hb'⟩; have R2 := Lib.hid (hr); have G3 := Lib.hid hb'; clear hr hb')
          | (go_at_call 13; (with_reducible refine (E1.out _ _ _ (R1.out.bl G3.out) R2.out).mono ?_); rintro e w4 ⟨rfl, hb'⟩; have G4 := Lib.hid hb'; clear hb'))
        go_ret
        exact ⟨rfl, hB.out.trans (G1.out.trans (G2.out.trans (G3.out.trans G4.out)))⟩
  · skip
    have FE := Lib.hid (fun W h1 h2 => few5_no va vb la lb hf (rw_len ra) (rw_len rb) W h1 h2)
    have Qa := Lib.hid ra
    have Qb := Lib.hid rb
    clear ha hb ra rb hf
    go_enter Try.func9, Try.ntmps9
    go_wp2_with (first
      | (go_at_call 10; (with_reducible refine (shown5_any _).mono ?_); rintro e w1 ⟨rfl, hb'⟩; have G1 := Lib.hid hb'; clear hb')
      | (go_at_call 11; (with_reducible refine (FE.out _ (Qa.out.bl G1.out) (Qb.out.bl G1.out)).mono ?_); rintro e w' ⟨rfl, rfl⟩))
    go_ret
    exact ⟨rfl, G1.out⟩
end Go.Proofs.Yteoeaogfeblokaa
