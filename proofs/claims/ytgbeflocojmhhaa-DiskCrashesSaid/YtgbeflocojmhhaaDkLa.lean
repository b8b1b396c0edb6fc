/-
  The walk of DiskCrashes.
-/
import Derived.Test.YtgbeflocojmhhaaDkV
import Derived.Test.YtgbeflocojmhhaaDkS
import Derived.Test.YtgbeflocojmhhaaDkT
import Derived.Test.YtgbeflocojmhhaaDkI
namespace Go.Proofs.Ytgbeflocojmhhaa
open Go.RowKit
set_option linter.unusedVariables false
set_option linter.unusedSimpArgs false

theorem dkEq_self (room : Int) (l : List Fl) : dkEq room room l l = true := by unfold dkEq; rw [fsEq_iff.2 rfl]; simp
set_option maxRecDepth 100000 in
set_option maxHeartbeats 8000000 in
theorem crashes_core (room : Int) (u : Value) (l : List Fl) (hz : Szs l) (vm : Value) (ms : List Nat) (ha : All 18446744073709551616 ms) (a r' : Int) (hr' : (a < 0 ∧ r' = 0) ∨ (0 ≤ a ∧ r' = a)) (w : World) (hf : Fw w u l) (hm : Rw .u64 w vm ms)
    (KN : ∀ W, Calls Try.prog 11 #[.int .i64 a] W fun e w' => e = .returned (.agg #[.int .i64 r', .slice none 0 0]) ∧ Bl W w') :
    Calls Try.prog 3 #[.agg #[.int .i64 room, u], vm, .int .i64 a] w fun e w' => e = .returned (.bool true) ∧ Bl w w' := by
  have KS := Lib.hid (fun W => shown15 W)
  have KN := Lib.hid KN
  have KR := Lib.hid (fun W (g : Bl w W) => rRight_any room u l W (hf.bl g) hz)
  have KE := Lib.hid (fun W va vb (h1 : Fw W va (cr l ms)) (h2 : Fw W vb (cr l ms)) => rSame_any room room va vb _ _ W h1 h2)
  rw [dkEq_self] at KE
  have t0 : ¬ r' < 0 := by omega
  cases hrt : rtB room l with
  | false =>
    rw [hrt] at KR
    obtain ⟨N, hN⟩ : ∃ N, l.length = N := ⟨_, rfl⟩
    obtain ⟨A, c, rfl, -⟩ := fw_open hf hN
    obtain ⟨A2, c2, rfl, _⟩ := hm
    have B0 := Lib.hid (Bq.new w 24 [.int .i64 room, .slice A N c])
    clear hf hz hrt KE ha hN
    rcases hr' with ⟨h1, rfl⟩ | ⟨h1, rfl⟩
    · go_enter Try.func3, Try.ntmps3
      go_wp2_with (first
        | (go_at_call 9; (with_reducible refine (KS.out _).mono ?_); rintro e w1 ⟨rfl, hb⟩; have G1 := Lib.hid (((Bl.refl w).alloc (.cells #[.int .i64 room, .slice A N c] 24)).trans hb); have BD1 := Lib.hid (B0.out.bl hb); have cD0_1 := BD1.out.cell 0 rfl; have cD1_1 := BD1.out.cell 1 rfl; clear hb)
        | (go_at_call 10; (with_reducible refine (KR.out _ G1.out).mono ?_); rintro e w2 ⟨rfl, hb⟩; have G2 := Lib.hid (G1.out.trans hb); have BD2 := Lib.hid (BD1.out.bl hb); have cD0_2 := BD2.out.cell 0 rfl; have cD1_2 := BD2.out.cell 1 rfl; clear hb)
        | (go_at_call 11; (with_reducible refine (KN.out _).mono ?_); rintro e w3 ⟨rfl, hb⟩; have G3 := Lib.hid (G2.out.trans hb); have BD3 := Lib.hid (BD2.out.bl hb); have G3' := Lib.hid (G3.out.alloc (.cells #[.int .i64 0, .slice none 0 0] 24)); have BD3' := Lib.hid (BD3.out.alloc (.cells #[.int .i64 0, .slice none 0 0] 24)); have BN3' := Lib.hid (Bq.new w3 24 [.int .i64 0, .slice none 0 0]); have cD0_3 := BD3'.out.cell 0 rfl; have cD1_3 := BD3'.out.cell 1 rfl; have cN0_3 := BN3'.out.cell 0 rfl; have cN1_3 := BN3'.out.cell 1 rfl; clear hb))
      go_quiet (fail)
      go_wp2
      go_ret
      exact ⟨rfl, G3'.out.drewN _⟩
    · go_enter Try.func3, Try.ntmps3
      go_wp2_with (first
        | (go_at_call 9; (with_reducible refine (KS.out _).mono ?_); rintro e w1 ⟨rfl, hb⟩; have G1 := Lib.hid (((Bl.refl w).alloc (.cells #[.int .i64 room, .slice A N c] 24)).trans hb); have BD1 := Lib.hid (B0.out.bl hb); have cD0_1 := BD1.out.cell 0 rfl; have cD1_1 := BD1.out.cell 1 rfl; clear hb)
        | (go_at_call 10; (with_reducible refine (KR.out _ G1.out).mono ?_); rintro e w2 ⟨rfl, hb⟩; have G2 := Lib.hid (G1.out.trans hb); have BD2 := Lib.hid (BD1.out.bl hb); have cD0_2 := BD2.out.cell 0 rfl; have cD1_2 := BD2.out.cell 1 rfl; clear hb)
        | (go_at_call 11; (with_reducible refine (KN.out _).mono ?_); rintro e w3 ⟨rfl, hb⟩; have G3 := Lib.hid (G2.out.trans hb); have BD3 := Lib.hid (BD2.out.bl hb); have G3' := Lib.hid (G3.out.alloc (.cells #[.int .i64 r', .slice none 0 0] 24)); have BD3' := Lib.hid (BD3.out.alloc (.cells #[.int .i64 r', .slice none 0 0] 24)); have BN3' := Lib.hid (Bq.new w3 24 [.int .i64 r', .slice none 0 0]); have cD0_3 := BD3'.out.cell 0 rfl; have cD1_3 := BD3'.out.cell 1 rfl; have cN0_3 := BN3'.out.cell 0 rfl; have cN1_3 := BN3'.out.cell 1 rfl; clear hb))
      go_quiet (fail)
      go_wp2
      go_ret
      exact ⟨rfl, G3'.out.drewN _⟩
  | true =>
    rw [hrt] at KR
    have hrr := rtB_iff.1 hrt
    have hl : l.length < 1000 := by have := hrr.2.1; omega
    have KC := Lib.hid (fun W (g : Bl w W) => pCrash_any room u vm l ms W (hf.bl g) (hm.bl g) ha hl hz)
    have KX := Lib.hid (fun W (g : Bl w W) => rCrash_any room u vm l ms W (hf.bl g) (hm.bl g) ha hl hz)
    obtain ⟨N, hN⟩ : ∃ N, l.length = N := ⟨_, rfl⟩
    obtain ⟨A, c, rfl, -⟩ := fw_open hf hN
    obtain ⟨A2, c2, rfl, _⟩ := hm
    have B0 := Lib.hid (Bq.new w 24 [.int .i64 room, .slice A N c])
    clear hf hz hrt ha hN hl hrr
    rcases hr' with ⟨h1, rfl⟩ | ⟨h1, rfl⟩
    · go_enter Try.func3, Try.ntmps3
      go_wp2_with (first
        | (go_at_call 9; (with_reducible refine (KS.out _).mono ?_); rintro e w1 ⟨rfl, hb⟩; have G1 := Lib.hid (((Bl.refl w).alloc (.cells #[.int .i64 room, .slice A N c] 24)).trans hb); have BD1 := Lib.hid (B0.out.bl hb); have cD0_1 := BD1.out.cell 0 rfl; have cD1_1 := BD1.out.cell 1 rfl; clear hb)
        | (go_at_call 10; (with_reducible refine (KR.out _ G1.out).mono ?_); rintro e w2 ⟨rfl, hb⟩; have G2 := Lib.hid (G1.out.trans hb); have BD2 := Lib.hid (BD1.out.bl hb); have cD0_2 := BD2.out.cell 0 rfl; have cD1_2 := BD2.out.cell 1 rfl; clear hb)
        | (go_at_call 11; (with_reducible refine (KN.out _).mono ?_); rintro e w3 ⟨rfl, hb⟩; have G3 := Lib.hid (G2.out.trans hb); have BD3 := Lib.hid (BD2.out.bl hb); have G3' := Lib.hid (G3.out.alloc (.cells #[.int .i64 0, .slice none 0 0] 24)); have BD3' := Lib.hid (BD3.out.alloc (.cells #[.int .i64 0, .slice none 0 0] 24)); have BN3' := Lib.hid (Bq.new w3 24 [.int .i64 0, .slice none 0 0]); have cD0_3 := BD3'.out.cell 0 rfl; have cD1_3 := BD3'.out.cell 1 rfl; have cN0_3 := BN3'.out.cell 0 rfl; have cN1_3 := BN3'.out.cell 1 rfl; clear hb))
      have G4 := Lib.hid (G3'.out.drew)
      have BD4 := Lib.hid (BD3'.out.drew)
      have BN4 := Lib.hid (BN3'.out.drew)
      go_region_with (first
        | (go_at_call 13; (with_reducible refine (KC.out _ G4.out).mono ?_); rintro e w5 ⟨v, rfl, hv, hb⟩; obtain ⟨A5, c5, rfl⟩ := fw_shape hv; have G5 := Lib.hid (G4.out.trans hb); have BD5 := Lib.hid (BD4.out.bl hb); have BN5 := Lib.hid (BN4.out.bl hb); have Rc5 := Lib.hid (hv); have cD0_5 := BD5.out.cell 0 rfl; have cD1_5 := BD5.out.cell 1 rfl; have cN0_5 := BN5.out.cell 0 rfl; have cN1_5 := BN5.out.cell 1 rfl; clear hb)
        | (go_at_call 14; (with_reducible refine (KX.out _ G5.out).mono ?_); rintro e w6 ⟨v, rfl, hv, hb⟩; obtain ⟨A6, c6, rfl⟩ := fw_shape hv; have G6 := Lib.hid (G5.out.trans hb); have BD6 := Lib.hid (BD5.out.bl hb); have BN6 := Lib.hid (BN5.out.bl hb); have Rc6 := Lib.hid (Rc5.out.bl hb); have Rx6 := Lib.hid (hv); have cD0_6 := BD6.out.cell 0 rfl; have cD1_6 := BD6.out.cell 1 rfl; have cN0_6 := BN6.out.cell 0 rfl; have cN1_6 := BN6.out.cell 1 rfl; clear hb)
        | (go_at_call 12; (with_reducible refine (KE.out _ _ _ Rc6.out Rx6.out).mono ?_); rintro e w7 ⟨rfl, hb⟩; have G7 := Lib.hid (G6.out.trans hb); have BD7 := Lib.hid (BD6.out.bl hb); have BN7 := Lib.hid (BN6.out.bl hb); have Rc7 := Lib.hid (Rc6.out.bl hb); have Rx7 := Lib.hid (Rx6.out.bl hb); have cD0_7 := BD7.out.cell 0 rfl; have cD1_7 := BD7.out.cell 1 rfl; have cN0_7 := BN7.out.cell 0 rfl; have cN1_7 := BN7.out.cell 1 rfl; clear hb))
      all_goals go_wp2
      all_goals go_ret
      all_goals exact ⟨rfl, G7.out⟩
    · go_enter Try.func3, Try.ntmps3
      go_wp2_with (first
        | (go_at_call 9; (with_reducible refine (KS.out _).mono ?_); rintro e w1 ⟨rfl, hb⟩; have G1 := Lib.hid (((Bl.refl w).alloc (.cells #[.int .i64 room, .slice A N c] 24)).trans hb); have BD1 := Lib.hid (B0.out.bl hb); have cD0_1 := BD1.out.cell 0 rfl; have cD1_1 := BD1.out.cell 1 rfl; clear hb)
        | (go_at_call 10; (with_reducible refine (KR.out _ G1.out).mono ?_); rintro e w2 ⟨rfl, hb⟩; have G2 := Lib.hid (G1.out.trans hb); have BD2 := Lib.hid (BD1.out.bl hb); have cD0_2 := BD2.out.cell 0 rfl; have cD1_2 := BD2.out.cell 1 rfl; clear hb)
        | (go_at_call 11; (with_reducible refine (KN.out _).mono ?_); rintro e w3 ⟨rfl, hb⟩; have G3 := Lib.hid (G2.out.trans hb); have BD3 := Lib.hid (BD2.out.bl hb); have G3' := Lib.hid (G3.out.alloc (.cells #[.int .i64 r', .slice none 0 0] 24)); have BD3' := Lib.hid (BD3.out.alloc (.cells #[.int .i64 r', .slice none 0 0] 24)); have BN3' := Lib.hid (Bq.new w3 24 [.int .i64 r', .slice none 0 0]); have cD0_3 := BD3'.out.cell 0 rfl; have cD1_3 := BD3'.out.cell 1 rfl; have cN0_3 := BN3'.out.cell 0 rfl; have cN1_3 := BN3'.out.cell 1 rfl; clear hb))
      have G4 := Lib.hid (G3'.out.drew)
      have BD4 := Lib.hid (BD3'.out.drew)
      have BN4 := Lib.hid (BN3'.out.drew)
      go_region_with (first
        | (go_at_call 13; (with_reducible refine (KC.out _ G4.out).mono ?_); rintro e w5 ⟨v, rfl, hv, hb⟩; obtain ⟨A5, c5, rfl⟩ := fw_shape hv; have G5 := Lib.hid (G4.out.trans hb); have BD5 := Lib.hid (BD4.out.bl hb); have BN5 := Lib.hid (BN4.out.bl hb); have Rc5 := Lib.hid (hv); have cD0_5 := BD5.out.cell 0 rfl; have cD1_5 := BD5.out.cell 1 rfl; have cN0_5 := BN5.out.cell 0 rfl; have cN1_5 := BN5.out.cell 1 rfl; clear hb)
        | (go_at_call 14; (with_reducible refine (KX.out _ G5.out).mono ?_); rintro e w6 ⟨v, rfl, hv, hb⟩; obtain ⟨A6, c6, rfl⟩ := fw_shape hv; have G6 := Lib.hid (G5.out.trans hb); have BD6 := Lib.hid (BD5.out.bl hb); have BN6 := Lib.hid (BN5.out.bl hb); have Rc6 := Lib.hid (Rc5.out.bl hb); have Rx6 := Lib.hid (hv); have cD0_6 := BD6.out.cell 0 rfl; have cD1_6 := BD6.out.cell 1 rfl; have cN0_6 := BN6.out.cell 0 rfl; have cN1_6 := BN6.out.cell 1 rfl; clear hb)
        | (go_at_call 12; (with_reducible refine (KE.out _ _ _ Rc6.out Rx6.out).mono ?_); rintro e w7 ⟨rfl, hb⟩; have G7 := Lib.hid (G6.out.trans hb); have BD7 := Lib.hid (BD6.out.bl hb); have BN7 := Lib.hid (BN6.out.bl hb); have Rc7 := Lib.hid (Rc6.out.bl hb); have Rx7 := Lib.hid (Rx6.out.bl hb); have cD0_7 := BD7.out.cell 0 rfl; have cD1_7 := BD7.out.cell 1 rfl; have cN0_7 := BN7.out.cell 0 rfl; have cN1_7 := BN7.out.cell 1 rfl; clear hb))
      all_goals go_wp2
      all_goals go_ret
      all_goals exact ⟨rfl, G7.out⟩
theorem diskCrashes_walk (room : Int) (u : Value) (l : List Fl) (hb : -9223372036854775808 ≤ room ∧ room ≤ 9223372036854775807) (hz : Szs l) (vm : Value) (ms : List Nat) (ha : All 18446744073709551616 ms) (a : Int) (hba : -9223372036854775808 ≤ a ∧ a ≤ 9223372036854775807) (w : World) (hf : Fw w u l) (hm : Rw .u64 w vm ms) :
    Calls Try.prog 3 #[.agg #[.int .i64 room, u], vm, .int .i64 a] w fun e w' => e = .returned (.bool true) ∧ Bl w w' := by
  by_cases h : a < 0
  · refine crashes_core room u l hz vm ms ha a 0 (.inl ⟨h, rfl⟩) w hf hm (fun W => ?_)
    have := pNew_any a hba W
    rwa [if_pos h] at this
  · refine crashes_core room u l hz vm ms ha a a (.inr ⟨by omega, rfl⟩) w hf hm (fun W => ?_)
    have := pNew_any a hba W
    rwa [if_neg h] at this
end Go.Proofs.Ytgbeflocojmhhaa
