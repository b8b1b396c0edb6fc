/-
  The document's answer for prod.Mac, over numbers.
-/
import Derived.Test.YteoeaogfeblokaaProdR
import Derived.Test.YteoeaogfeblokaaReg
import Derived.Test.YteoeaogfeblokaaNtZ
import Derived.Test.YteoeaogfeblokaaNatSa
import Derived.Test.YteoeaogfeblokaaNatPa
namespace Go.Proofs.Yteoeaogfeblokaa
open Go.RowKit
set_option linter.unusedVariables false
set_option linter.unusedSimpArgs false

/-- A word appended to a row that has no room: a new row, all old ones as they were. -/
theorem app_full {P : Program} (w : World) (t ty e : TypeId) (i : TypeInfo) (ht : P.underlying t = some (.slice e)) (hi : P.info? e = some i) (hz : i.zero = some (.int .u64 0)) (hs : i.size = 1) (hb8 : i.bytes ≤ 8)
    (g n u : Nat) (x : Value) (l : List Nat) (hl : l.length = n) (hk : Bk .u64 e w g l) (hx : Rw .u64 w x [u]) (hn : n < 1048576) :
    ∃ v' w', (Builtin.append_ #[t, t] ty #[.slice (some ⟨g, 0, none⟩) n n, x]).run P w = .ok v' w' ∧ Rw .u64 w' v' (l ++ [u]) ∧ Bl w w' := by
  obtain ⟨ad, c, rfl, hb, hc⟩ := row1 hx
  have hbb : (n + 1) * i.bytes ≤ (n + 1) * 8 := Nat.mul_le_mul_left _ hb8
  have hr := run_append_grow (P := P) w t ty e i (.int .u64 0) ht hi hz ⟨g, 0, none⟩ n n (vs .u64 l) (by rw [vs_length, hs, Nat.mul_one, hl])
    (by intro j v hj; have hjl : j < l.length := (by have := (List.getElem?_eq_some_iff.1 hj).1; rwa [vs_length] at this); rw [add_none, Nat.zero_add, hk.cell j hjl]; simp [vs, hjl] at hj; rw [hj])
    ad 1 c [.int .u64 (u : Int)] (by rw [hs]; rfl) (by intro j v hj; match j, hj with | 0, hj => (simp at hj; subst hj; exact hc)) (by omega) (by omega) (growslice_fits (by omega) (by omega))
  refine ⟨_, _, hr, ?_, (Bl.refl w).drew.alloc _⟩
  have hge := grownCap_ge w (n + 1) n e
  have hcm : grownCap w (n + 1) n e ≤ maxLen := grownCap_le_maxLen w (n + 1) n e (by unfold maxLen; omega)
  refine Src.rw ?_ (by simp [hl]) hge hcm (fun h => by cases h)
  intro _
  refine ⟨_, rfl, by simp, fun j hj => ?_⟩
  rw [add_none, Nat.zero_add]
  have hj' : j < (vs .u64 (l ++ [u])).length := by rw [vs_length]; exact hj
  have e1 : ((vs .u64 l).toArray ++ ([.int .u64 (u : Int)] : List Value).toArray ++ Builtin.zeroCells (Value.int .u64 0).cells (grownCap w (n + 1) n e - (n + 1)))[j]? = some (.int .u64 (((l ++ [u])[j] : Nat) : Int)) := by
    have e2 : (vs .u64 l).toArray ++ ([.int .u64 (u : Int)] : List Value).toArray = (vs .u64 (l ++ [u])).toArray := by simp [vs]
    rw [e2, Array.getElem?_append_left (by simpa using hj')]
    simp only [List.getElem?_toArray, vs, List.getElem?_map, List.getElem?_eq_getElem hj, Option.map_some]
  simp only [World.cell?, World.alloc, World.drew, Array.getElem?_push_size]
  exact e1

theorem val_one_up (n : Nat) : val 18446744073709551616 (List.replicate n 0 ++ [1]) = 18446744073709551616 ^ n := by
  have vz : ∀ k, val 18446744073709551616 (List.replicate k 0) = 0 := by
    intro k
    induction k with
    | zero => rfl
    | succ k ih => show 0 + 18446744073709551616 * val 18446744073709551616 (List.replicate k 0) = 0; rw [ih]
  rw [val_append, vz, val_one, List.length_replicate, Nat.zero_add, Nat.mul_one]

set_option maxRecDepth 100000 in
set_option maxHeartbeats 4000000 in
theorem rmac_any (W : World) (va v : Value) (C X y j k : Nat) (t : Int) (hc : Nu W va C) (hv : Nu W v X) (hx : Sz j X) (hcz : Sz k C) (hy : y < 18446744073709551616) (hj : j ≤ 60) (hk : k ≤ 60) (ht1 : t ≤ 40) (ht2 : -9223372036854775808 ≤ t) :
    Calls Try.prog 18 #[va, v, .int .u64 (y : Int), .int .i64 t] W (RwEnd .u64 W (dig 18446744073709551616 (C + X * y * 18446744073709551616 ^ t.toNat))) := by
  obtain ⟨i0, hi0, hz0, hz1, hz2⟩ := info_parts infoW
  obtain ⟨n, en⟩ : ∃ n, t.toNat = n := ⟨_, rfl⟩
  have hn : n ≤ 40 := by omega
  have hnb : n < 1048576 := by omega
  rw [en]
  have hmk := fun W => run_mk (P := Try.prog) .u64 22 29 i0 Try.underlying22 hi0 hz0 hz1 (by omega) n (by omega) W
  have s1 := hx.word hy
  have s2 : Sz (j + 1 + n) (X * y * 18446744073709551616 ^ n) := by unfold Sz at *; rw [Nat.pow_add]; exact Nat.mul_lt_mul_of_pos_right s1 (Nat.pow_pos (by decide))
  have KT := Lib.hid (fun W' u' (g : Bl W W') (h : Rw .u64 W' u' [y]) => rtimes_any W' v u' X y j 1 (hv.bl g) ⟨_, h, all_cons hy (all_nil _), by simp, val_one _ y⟩ hx (by unfold Sz; rw [Nat.pow_one]; exact hy) (by omega))
  have KT2 := Lib.hid (fun W' v' u' (h : Rw .u64 W' v' (dig 18446744073709551616 (X * y))) (h' : Rw .u64 W' u' (List.replicate n 0 ++ [1])) => rtimes_any W' v' u' (X * y) (18446744073709551616 ^ n) (j + 1) (n + 1) (Nu.dig h s1 (by omega)) ⟨_, h', all_append (fun i hi => by simp) (all_cons (by decide) (all_nil _)), by simp; omega, val_one_up n⟩ s1 (sz_pw n) (by omega))
  have K1 := Lib.hid (fun W' (g : Bl W W') => kDg (hc.bl g))
  have K2 := Lib.hid (fun W' v' (h : Rw .u64 W' v' (dig 18446744073709551616 (X * y * 18446744073709551616 ^ n))) => kDg (Nu.dig h s2 (by omega)))
  have s3 := (hcz.mono (j := j + 1 + n + 60) (by omega)).add (s2.mono (j := j + 1 + n + 60) (by omega))
  have K3 := Lib.hid (kAdd C (X * y * 18446744073709551616 ^ n) (hcz.sd (by omega)) (s2.sd (by omega)))
  have K4 := Lib.hid (kWords (C + X * y * 18446744073709551616 ^ n) (s3.sd (by omega)))
  clear s1 s2 s3 hx hcz hj hk hn hc hv
  by_cases h0 : t < 0
  · have hn0 : n = 0 := by omega
    subst hn0
    clear en
    go_enter Try.func18, Try.ntmps18
    go_wp2_with (fail)
    refine Code.wp_mono (Q := fun e a w => match e with
      | .normal => ∃ x12 x13 x14 x15 x16 x17 x18 x19 x20 x9, a = { tmps := #[va, v, .int .u64 (y : Int), .int .i64 0, undef, undef, undef, undef, .slice none 0 0, x9, .int .i64 t, .bool true, x12, x13, x14, x15, x16, x17, x18, x19, x20, undef, undef, undef, undef, undef, undef], defers := [] } ∧ Hid (Rw .u64 w x9 (dig 18446744073709551616 (X * y * 18446744073709551616 ^ 0))) ∧ Hid (Bl W w)
      | _ => False) ?_ ?_
    rotate_left
    · refine wp_region_inv (fun l a w => ∃ x12 x13 x14 x15 x16 x17 x18 x19 x20 x9, a = { tmps := #[va, v, .int .u64 (y : Int), .int .i64 0, undef, undef, undef, undef, .slice none 0 0, x9, .int .i64 t, .bool true, x12, x13, x14, x15, x16, x17, x18, x19, x20, undef, undef, undef, undef, undef, undef], defers := [] } ∧ Bl W w ∧ (On l 0 → x12 = v) ∧ (On l 1 → x13 = .int .u64 (y : Int)) ∧ (On l 2 → Rw .u64 w x14 [y]) ∧ (On l 3 → Rw .u64 w x15 (dig 18446744073709551616 (X * y))) ∧ (On l 4 → x16 = .int .i64 0) ∧ (On l 5 → ∃ g, x17 = .slice (some ⟨g, 0, none⟩) 0 0 ∧ Bk .u64 29 w g (List.replicate 0 0)) ∧ (On l 6 → Rw .u64 w x18 [1]) ∧ (On l 7 → Rw .u64 w x19 (List.replicate 0 0 ++ [1])) ∧ (On l 8 → Rw .u64 w x20 (dig 18446744073709551616 (X * y * 18446744073709551616 ^ 0))) ∧ (On l 9 → Rw .u64 w x9 (dig 18446744073709551616 (X * y * 18446744073709551616 ^ 0)))) (by kernel_rfl) ?_ ?_ ?_ (fun l hl hr => all_done (by kernel_rfl) l hl hr)
      · exact ⟨_, _, _, _, _, _, _, _, _, _, rfl, (Bl.refl _).drew, (fun h => absurd h (by simp [On])), (fun h => absurd h (by simp [On])), (fun h => absurd h (by simp [On])), (fun h => absurd h (by simp [On])), (fun h => absurd h (by simp [On])), (fun h => absurd h (by simp [On])), (fun h => absurd h (by simp [On])), (fun h => absurd h (by simp [On])), (fun h => absurd h (by simp [On])), (fun h => absurd h (by simp [On]))⟩
      · intro l a w i hI hi hdep
        obtain ⟨x12, x13, x14, x15, x16, x17, x18, x19, x20, x9, rfl, hB, f0, f1, f2, f3, f4, f5, f6, f7, f8, f9⟩ := hI
        have hi' : i < 10 := hi
        have h10 : i = 0 ∨ i = 1 ∨ i = 2 ∨ i = 3 ∨ i = 4 ∨ i = 5 ∨ i = 6 ∨ i = 7 ∨ i = 8 ∨ i = 9 := by omega
        rcases h10 with rfl | rfl | rfl | rfl | rfl | rfl | rfl | rfl | rfl | rfl
        · refine wpOp_intro rfl rfl fun K' hK => ?_
          go_simp
          exact hK.out _ _ ⟨_, _, _, _, _, _, _, _, _, _, rfl, hB, fun _ => rfl, fun h => f1 (h.of_set (by decide)), fun h => f2 (h.of_set (by decide)), fun h => f3 (h.of_set (by decide)), fun h => f4 (h.of_set (by decide)), fun h => f5 (h.of_set (by decide)), fun h => f6 (h.of_set (by decide)), fun h => f7 (h.of_set (by decide)), fun h => f8 (h.of_set (by decide)), fun h => f9 (h.of_set (by decide))⟩
        · refine wpOp_intro rfl rfl fun K' hK => ?_
          go_simp
          exact hK.out _ _ ⟨_, _, _, _, _, _, _, _, _, _, rfl, hB, fun h => f0 (h.of_set (by decide)), fun _ => rfl, fun h => f2 (h.of_set (by decide)), fun h => f3 (h.of_set (by decide)), fun h => f4 (h.of_set (by decide)), fun h => f5 (h.of_set (by decide)), fun h => f6 (h.of_set (by decide)), fun h => f7 (h.of_set (by decide)), fun h => f8 (h.of_set (by decide)), fun h => f9 (h.of_set (by decide))⟩
        · refine wpOp_intro rfl rfl fun K' hK => ?_
          simp [Region.binds] at hdep
          have d1 : On l 1 := hdep
          obtain rfl := f1 d1
          go_simp
          exact hK.out _ _ ⟨_, _, _, _, _, _, _, _, _, _, rfl, hB.trans ((Bl.refl _).alloc _), fun h => f0 (h.of_set (by decide)), fun h => f1 (h.of_set (by decide)), fun _ => lit_at rfl, fun h => (f3 (h.of_set (by decide))).bl ((Bl.refl _).alloc _), fun h => f4 (h.of_set (by decide)), fun h => (f5 (h.of_set (by decide))).imp fun _ p => ⟨p.1, p.2.bl ((Bl.refl _).alloc _)⟩, fun h => (f6 (h.of_set (by decide))).bl ((Bl.refl _).alloc _), fun h => (f7 (h.of_set (by decide))).bl ((Bl.refl _).alloc _), fun h => (f8 (h.of_set (by decide))).bl ((Bl.refl _).alloc _), fun h => (f9 (h.of_set (by decide))).bl ((Bl.refl _).alloc _)⟩
        · refine wpOp_intro rfl rfl fun K' hK => ?_
          simp [Region.binds] at hdep
          obtain ⟨d0, d2⟩ := hdep
          obtain rfl := f0 d0
          have R14 := f2 d2
          go_simp
          refine (KT.out _ _ hB R14).mono ?_
          rintro e w' ⟨v', rfl, hr, hb⟩
          exact hK.out _ _ ⟨_, _, _, _, _, _, _, _, _, _, rfl, hB.trans hb, fun h => f0 (h.of_set (by decide)), fun h => f1 (h.of_set (by decide)), fun h => (f2 (h.of_set (by decide))).bl hb, fun _ => hr, fun h => f4 (h.of_set (by decide)), fun h => (f5 (h.of_set (by decide))).imp fun _ p => ⟨p.1, p.2.bl hb⟩, fun h => (f6 (h.of_set (by decide))).bl hb, fun h => (f7 (h.of_set (by decide))).bl hb, fun h => (f8 (h.of_set (by decide))).bl hb, fun h => (f9 (h.of_set (by decide))).bl hb⟩
        · refine wpOp_intro rfl rfl fun K' hK => ?_
          go_simp
          exact hK.out _ _ ⟨_, _, _, _, _, _, _, _, _, _, rfl, hB, fun h => f0 (h.of_set (by decide)), fun h => f1 (h.of_set (by decide)), fun h => f2 (h.of_set (by decide)), fun h => f3 (h.of_set (by decide)), fun _ => rfl, fun h => f5 (h.of_set (by decide)), fun h => f6 (h.of_set (by decide)), fun h => f7 (h.of_set (by decide)), fun h => f8 (h.of_set (by decide)), fun h => f9 (h.of_set (by decide))⟩
        · refine wpOp_intro rfl rfl fun K' hK => ?_
          simp [Region.binds] at hdep
          have d4 : On l 4 := hdep
          obtain rfl := f4 d4
          have hmk' := hmk w
          rw [show ((0 : Nat) : Int) = 0 from rfl] at hmk'
          go_simp
          exact hK.out _ _ ⟨_, _, _, _, _, _, _, _, _, _, rfl, hB.trans ((Bl.refl _).alloc _), fun h => f0 (h.of_set (by decide)), fun h => f1 (h.of_set (by decide)), fun h => (f2 (h.of_set (by decide))).bl ((Bl.refl _).alloc _), fun h => (f3 (h.of_set (by decide))).bl ((Bl.refl _).alloc _), fun h => f4 (h.of_set (by decide)), fun _ => ⟨_, rfl, Bk.made .u64 29 w 0⟩, fun h => (f6 (h.of_set (by decide))).bl ((Bl.refl _).alloc _), fun h => (f7 (h.of_set (by decide))).bl ((Bl.refl _).alloc _), fun h => (f8 (h.of_set (by decide))).bl ((Bl.refl _).alloc _), fun h => (f9 (h.of_set (by decide))).bl ((Bl.refl _).alloc _)⟩
        · refine wpOp_intro rfl rfl fun K' hK => ?_
          go_simp
          exact hK.out _ _ ⟨_, _, _, _, _, _, _, _, _, _, rfl, hB.trans ((Bl.refl _).alloc _), fun h => f0 (h.of_set (by decide)), fun h => f1 (h.of_set (by decide)), fun h => (f2 (h.of_set (by decide))).bl ((Bl.refl _).alloc _), fun h => (f3 (h.of_set (by decide))).bl ((Bl.refl _).alloc _), fun h => f4 (h.of_set (by decide)), fun h => (f5 (h.of_set (by decide))).imp fun _ p => ⟨p.1, p.2.bl ((Bl.refl _).alloc _)⟩, fun _ => lit_at rfl, fun h => (f7 (h.of_set (by decide))).bl ((Bl.refl _).alloc _), fun h => (f8 (h.of_set (by decide))).bl ((Bl.refl _).alloc _), fun h => (f9 (h.of_set (by decide))).bl ((Bl.refl _).alloc _)⟩
        · refine wpOp_intro rfl rfl fun K' hK => ?_
          simp [Region.binds] at hdep
          obtain ⟨d5, d6, d3⟩ := hdep
          obtain ⟨g, rfl, hk⟩ := f5 d5
          obtain ⟨v', w', hr, hR, hb⟩ := app_full (P := Try.prog) w 22 _ 29 i0 Try.underlying22 hi0 hz0 hz1 (by omega) g 0 1 x18 (List.replicate 0 0) (by simp) hk (f6 d6) hnb
          refine Lib.wp_append_run w (.tmp 17) (.tmp 18) 22 22 rfl _ _ rfl rfl _ _ hr ?_
          exact hK.out _ _ ⟨_, _, _, _, _, _, _, _, _, _, rfl, hB.trans hb, fun h => f0 (h.of_set (by decide)), fun h => f1 (h.of_set (by decide)), fun h => (f2 (h.of_set (by decide))).bl hb, fun h => (f3 (h.of_set (by decide))).bl hb, fun h => f4 (h.of_set (by decide)), fun h => (f5 (h.of_set (by decide))).imp fun _ p => ⟨p.1, p.2.bl hb⟩, fun h => (f6 (h.of_set (by decide))).bl hb, fun _ => hR, fun h => (f8 (h.of_set (by decide))).bl hb, fun h => (f9 (h.of_set (by decide))).bl hb⟩
        · refine wpOp_intro rfl rfl fun K' hK => ?_
          simp [Region.binds] at hdep
          obtain ⟨d3, d7⟩ := hdep
          have R15 := f3 d3
          have R19 := f7 d7
          go_simp
          refine (KT2.out _ _ _ R15 R19).mono ?_
          rintro e w' ⟨v', rfl, hr, hb⟩
          exact hK.out _ _ ⟨_, _, _, _, _, _, _, _, _, _, rfl, hB.trans hb, fun h => f0 (h.of_set (by decide)), fun h => f1 (h.of_set (by decide)), fun h => (f2 (h.of_set (by decide))).bl hb, fun h => (f3 (h.of_set (by decide))).bl hb, fun h => f4 (h.of_set (by decide)), fun h => (f5 (h.of_set (by decide))).imp fun _ p => ⟨p.1, p.2.bl hb⟩, fun h => (f6 (h.of_set (by decide))).bl hb, fun h => (f7 (h.of_set (by decide))).bl hb, fun _ => hr, fun h => (f9 (h.of_set (by decide))).bl hb⟩
        · refine wpOp_intro rfl rfl fun K' hK => ?_
          simp [Region.binds] at hdep
          have d8 : On l 8 := hdep.1
          have R20 := f8 d8
          go_simp
          exact hK.out _ _ ⟨_, _, _, _, _, _, _, _, _, _, rfl, hB, fun h => f0 (h.of_set (by decide)), fun h => f1 (h.of_set (by decide)), fun h => f2 (h.of_set (by decide)), fun h => f3 (h.of_set (by decide)), fun h => f4 (h.of_set (by decide)), fun h => f5 (h.of_set (by decide)), fun h => f6 (h.of_set (by decide)), fun h => f7 (h.of_set (by decide)), fun h => f8 (h.of_set (by decide)), fun _ => R20⟩
      · intro l a w hI hall
        obtain ⟨x12, x13, x14, x15, x16, x17, x18, x19, x20, x9, rfl, hB, f0, f1, f2, f3, f4, f5, f6, f7, f8, f9⟩ := hI
        exact ⟨_, _, _, _, _, _, _, _, _, _, rfl, f9 (hall 9 (by decide)), hB⟩
    intro e a w h
    cases e <;> first | exact h.elim | skip
    obtain ⟨x12, x13, x14, x15, x16, x17, x18, x19, x20, x9, rfl, R9, B9⟩ := h
    try dsimp only
    clear KT KT2 hmk
    go_wp2_with (first
      | (go_at_call 23; (with_reducible refine (K1.out _ B9.out).mono ?_); rintro e w1 ⟨v1, rfl, hr, hb'⟩; have D1 := Lib.hid hr; have R9' := Lib.hid (R9.out.bl hb'); have G1 := Lib.hid (B9.out.trans hb'); clear hr hb')
      | (go_at_call 23; (with_reducible refine (K2.out _ _ R9'.out).mono ?_); rintro e w2 ⟨v2, rfl, hr, hb'⟩; have D2 := Lib.hid hr; have D1' := Lib.hid (D1.out.bl hb'); have G2 := Lib.hid (G1.out.trans hb'); clear hr hb')
      | (go_at_call 22; (with_reducible refine (K3.out _ _ _ D1'.out D2.out).mono ?_); rintro e w3 ⟨v3, rfl, hr, hb'⟩; have D3 := Lib.hid hr; have G3 := Lib.hid (G2.out.trans hb'); clear hr hb')
      | (go_at_call 21; (with_reducible refine (K4.out _ _ D3.out).mono ?_); rintro e w4 ⟨v4, rfl, hr, hb'⟩; have D4 := Lib.hid hr; have G4 := Lib.hid (G3.out.trans hb'); clear hr hb'))
    go_ret
    exact RwEnd.mk D4.out G4.out
  · obtain rfl : t = (n : Int) := by omega
    clear en
    go_enter Try.func18, Try.ntmps18
    go_wp2_with (fail)
    refine Code.wp_mono (Q := fun e a w => match e with
      | .normal => ∃ x12 x13 x14 x15 x16 x17 x18 x19 x20 x9, a = { tmps := #[va, v, .int .u64 (y : Int), .int .i64 (n : Int), undef, undef, undef, undef, .slice none 0 0, x9, .int .i64 (n : Int), .bool false, x12, x13, x14, x15, x16, x17, x18, x19, x20, undef, undef, undef, undef, undef, undef], defers := [] } ∧ Hid (Rw .u64 w x9 (dig 18446744073709551616 (X * y * 18446744073709551616 ^ n))) ∧ Hid (Bl W w)
      | _ => False) ?_ ?_
    rotate_left
    · refine wp_region_inv (fun l a w => ∃ x12 x13 x14 x15 x16 x17 x18 x19 x20 x9, a = { tmps := #[va, v, .int .u64 (y : Int), .int .i64 (n : Int), undef, undef, undef, undef, .slice none 0 0, x9, .int .i64 (n : Int), .bool false, x12, x13, x14, x15, x16, x17, x18, x19, x20, undef, undef, undef, undef, undef, undef], defers := [] } ∧ Bl W w ∧ (On l 0 → x12 = v) ∧ (On l 1 → x13 = .int .u64 (y : Int)) ∧ (On l 2 → Rw .u64 w x14 [y]) ∧ (On l 3 → Rw .u64 w x15 (dig 18446744073709551616 (X * y))) ∧ (On l 4 → x16 = .int .i64 (n : Int)) ∧ (On l 5 → ∃ g, x17 = .slice (some ⟨g, 0, none⟩) n n ∧ Bk .u64 29 w g (List.replicate n 0)) ∧ (On l 6 → Rw .u64 w x18 [1]) ∧ (On l 7 → Rw .u64 w x19 (List.replicate n 0 ++ [1])) ∧ (On l 8 → Rw .u64 w x20 (dig 18446744073709551616 (X * y * 18446744073709551616 ^ n))) ∧ (On l 9 → Rw .u64 w x9 (dig 18446744073709551616 (X * y * 18446744073709551616 ^ n)))) (by kernel_rfl) ?_ ?_ ?_ (fun l hl hr => all_done (by kernel_rfl) l hl hr)
      · exact ⟨_, _, _, _, _, _, _, _, _, _, rfl, (Bl.refl _).drew, (fun h => absurd h (by simp [On])), (fun h => absurd h (by simp [On])), (fun h => absurd h (by simp [On])), (fun h => absurd h (by simp [On])), (fun h => absurd h (by simp [On])), (fun h => absurd h (by simp [On])), (fun h => absurd h (by simp [On])), (fun h => absurd h (by simp [On])), (fun h => absurd h (by simp [On])), (fun h => absurd h (by simp [On]))⟩
      · intro l a w i hI hi hdep
        obtain ⟨x12, x13, x14, x15, x16, x17, x18, x19, x20, x9, rfl, hB, f0, f1, f2, f3, f4, f5, f6, f7, f8, f9⟩ := hI
        have hi' : i < 10 := hi
        have h10 : i = 0 ∨ i = 1 ∨ i = 2 ∨ i = 3 ∨ i = 4 ∨ i = 5 ∨ i = 6 ∨ i = 7 ∨ i = 8 ∨ i = 9 := by omega
        rcases h10 with rfl | rfl | rfl | rfl | rfl | rfl | rfl | rfl | rfl | rfl
        · refine wpOp_intro rfl rfl fun K' hK => ?_
          go_simp
          exact hK.out _ _ ⟨_, _, _, _, _, _, _, _, _, _, rfl, hB, fun _ => rfl, fun h => f1 (h.of_set (by decide)), fun h => f2 (h.of_set (by decide)), fun h => f3 (h.of_set (by decide)), fun h => f4 (h.of_set (by decide)), fun h => f5 (h.of_set (by decide)), fun h => f6 (h.of_set (by decide)), fun h => f7 (h.of_set (by decide)), fun h => f8 (h.of_set (by decide)), fun h => f9 (h.of_set (by decide))⟩
        · refine wpOp_intro rfl rfl fun K' hK => ?_
          go_simp
          exact hK.out _ _ ⟨_, _, _, _, _, _, _, _, _, _, rfl, hB, fun h => f0 (h.of_set (by decide)), fun _ => rfl, fun h => f2 (h.of_set (by decide)), fun h => f3 (h.of_set (by decide)), fun h => f4 (h.of_set (by decide)), fun h => f5 (h.of_set (by decide)), fun h => f6 (h.of_set (by decide)), fun h => f7 (h.of_set (by decide)), fun h => f8 (h.of_set (by decide)), fun h => f9 (h.of_set (by decide))⟩
        · refine wpOp_intro rfl rfl fun K' hK => ?_
          simp [Region.binds] at hdep
          have d1 : On l 1 := hdep
          obtain rfl := f1 d1
          go_simp
          exact hK.out _ _ ⟨_, _, _, _, _, _, _, _, _, _, rfl, hB.trans ((Bl.refl _).alloc _), fun h => f0 (h.of_set (by decide)), fun h => f1 (h.of_set (by decide)), fun _ => lit_at rfl, fun h => (f3 (h.of_set (by decide))).bl ((Bl.refl _).alloc _), fun h => f4 (h.of_set (by decide)), fun h => (f5 (h.of_set (by decide))).imp fun _ p => ⟨p.1, p.2.bl ((Bl.refl _).alloc _)⟩, fun h => (f6 (h.of_set (by decide))).bl ((Bl.refl _).alloc _), fun h => (f7 (h.of_set (by decide))).bl ((Bl.refl _).alloc _), fun h => (f8 (h.of_set (by decide))).bl ((Bl.refl _).alloc _), fun h => (f9 (h.of_set (by decide))).bl ((Bl.refl _).alloc _)⟩
        · refine wpOp_intro rfl rfl fun K' hK => ?_
          simp [Region.binds] at hdep
          obtain ⟨d0, d2⟩ := hdep
          obtain rfl := f0 d0
          have R14 := f2 d2
          go_simp
          refine (KT.out _ _ hB R14).mono ?_
          rintro e w' ⟨v', rfl, hr, hb⟩
          exact hK.out _ _ ⟨_, _, _, _, _, _, _, _, _, _, rfl, hB.trans hb, fun h => f0 (h.of_set (by decide)), fun h => f1 (h.of_set (by decide)), fun h => (f2 (h.of_set (by decide))).bl hb, fun _ => hr, fun h => f4 (h.of_set (by decide)), fun h => (f5 (h.of_set (by decide))).imp fun _ p => ⟨p.1, p.2.bl hb⟩, fun h => (f6 (h.of_set (by decide))).bl hb, fun h => (f7 (h.of_set (by decide))).bl hb, fun h => (f8 (h.of_set (by decide))).bl hb, fun h => (f9 (h.of_set (by decide))).bl hb⟩
        · refine wpOp_intro rfl rfl fun K' hK => ?_
          go_simp
          exact hK.out _ _ ⟨_, _, _, _, _, _, _, _, _, _, rfl, hB, fun h => f0 (h.of_set (by decide)), fun h => f1 (h.of_set (by decide)), fun h => f2 (h.of_set (by decide)), fun h => f3 (h.of_set (by decide)), fun _ => rfl, fun h => f5 (h.of_set (by decide)), fun h => f6 (h.of_set (by decide)), fun h => f7 (h.of_set (by decide)), fun h => f8 (h.of_set (by decide)), fun h => f9 (h.of_set (by decide))⟩
        · refine wpOp_intro rfl rfl fun K' hK => ?_
          simp [Region.binds] at hdep
          have d4 : On l 4 := hdep
          obtain rfl := f4 d4
          have hmk' := hmk w
          go_simp
          exact hK.out _ _ ⟨_, _, _, _, _, _, _, _, _, _, rfl, hB.trans ((Bl.refl _).alloc _), fun h => f0 (h.of_set (by decide)), fun h => f1 (h.of_set (by decide)), fun h => (f2 (h.of_set (by decide))).bl ((Bl.refl _).alloc _), fun h => (f3 (h.of_set (by decide))).bl ((Bl.refl _).alloc _), fun h => f4 (h.of_set (by decide)), fun _ => ⟨_, rfl, Bk.made .u64 29 w n⟩, fun h => (f6 (h.of_set (by decide))).bl ((Bl.refl _).alloc _), fun h => (f7 (h.of_set (by decide))).bl ((Bl.refl _).alloc _), fun h => (f8 (h.of_set (by decide))).bl ((Bl.refl _).alloc _), fun h => (f9 (h.of_set (by decide))).bl ((Bl.refl _).alloc _)⟩
        · refine wpOp_intro rfl rfl fun K' hK => ?_
          go_simp
          exact hK.out _ _ ⟨_, _, _, _, _, _, _, _, _, _, rfl, hB.trans ((Bl.refl _).alloc _), fun h => f0 (h.of_set (by decide)), fun h => f1 (h.of_set (by decide)), fun h => (f2 (h.of_set (by decide))).bl ((Bl.refl _).alloc _), fun h => (f3 (h.of_set (by decide))).bl ((Bl.refl _).alloc _), fun h => f4 (h.of_set (by decide)), fun h => (f5 (h.of_set (by decide))).imp fun _ p => ⟨p.1, p.2.bl ((Bl.refl _).alloc _)⟩, fun _ => lit_at rfl, fun h => (f7 (h.of_set (by decide))).bl ((Bl.refl _).alloc _), fun h => (f8 (h.of_set (by decide))).bl ((Bl.refl _).alloc _), fun h => (f9 (h.of_set (by decide))).bl ((Bl.refl _).alloc _)⟩
        · refine wpOp_intro rfl rfl fun K' hK => ?_
          simp [Region.binds] at hdep
          obtain ⟨d5, d6, d3⟩ := hdep
          obtain ⟨g, rfl, hk⟩ := f5 d5
          obtain ⟨v', w', hr, hR, hb⟩ := app_full (P := Try.prog) w 22 _ 29 i0 Try.underlying22 hi0 hz0 hz1 (by omega) g n 1 x18 (List.replicate n 0) (by simp) hk (f6 d6) hnb
          refine Lib.wp_append_run w (.tmp 17) (.tmp 18) 22 22 rfl _ _ rfl rfl _ _ hr ?_
          exact hK.out _ _ ⟨_, _, _, _, _, _, _, _, _, _, rfl, hB.trans hb, fun h => f0 (h.of_set (by decide)), fun h => f1 (h.of_set (by decide)), fun h => (f2 (h.of_set (by decide))).bl hb, fun h => (f3 (h.of_set (by decide))).bl hb, fun h => f4 (h.of_set (by decide)), fun h => (f5 (h.of_set (by decide))).imp fun _ p => ⟨p.1, p.2.bl hb⟩, fun h => (f6 (h.of_set (by decide))).bl hb, fun _ => hR, fun h => (f8 (h.of_set (by decide))).bl hb, fun h => (f9 (h.of_set (by decide))).bl hb⟩
        · refine wpOp_intro rfl rfl fun K' hK => ?_
          simp [Region.binds] at hdep
          obtain ⟨d3, d7⟩ := hdep
          have R15 := f3 d3
          have R19 := f7 d7
          go_simp
          refine (KT2.out _ _ _ R15 R19).mono ?_
          rintro e w' ⟨v', rfl, hr, hb⟩
          exact hK.out _ _ ⟨_, _, _, _, _, _, _, _, _, _, rfl, hB.trans hb, fun h => f0 (h.of_set (by decide)), fun h => f1 (h.of_set (by decide)), fun h => (f2 (h.of_set (by decide))).bl hb, fun h => (f3 (h.of_set (by decide))).bl hb, fun h => f4 (h.of_set (by decide)), fun h => (f5 (h.of_set (by decide))).imp fun _ p => ⟨p.1, p.2.bl hb⟩, fun h => (f6 (h.of_set (by decide))).bl hb, fun h => (f7 (h.of_set (by decide))).bl hb, fun _ => hr, fun h => (f9 (h.of_set (by decide))).bl hb⟩
        · refine wpOp_intro rfl rfl fun K' hK => ?_
          simp [Region.binds] at hdep
          have d8 : On l 8 := hdep.1
          have R20 := f8 d8
          go_simp
          exact hK.out _ _ ⟨_, _, _, _, _, _, _, _, _, _, rfl, hB, fun h => f0 (h.of_set (by decide)), fun h => f1 (h.of_set (by decide)), fun h => f2 (h.of_set (by decide)), fun h => f3 (h.of_set (by decide)), fun h => f4 (h.of_set (by decide)), fun h => f5 (h.of_set (by decide)), fun h => f6 (h.of_set (by decide)), fun h => f7 (h.of_set (by decide)), fun h => f8 (h.of_set (by decide)), fun _ => R20⟩
      · intro l a w hI hall
        obtain ⟨x12, x13, x14, x15, x16, x17, x18, x19, x20, x9, rfl, hB, f0, f1, f2, f3, f4, f5, f6, f7, f8, f9⟩ := hI
        exact ⟨_, _, _, _, _, _, _, _, _, _, rfl, f9 (hall 9 (by decide)), hB⟩
    intro e a w h
    cases e <;> first | exact h.elim | skip
    obtain ⟨x12, x13, x14, x15, x16, x17, x18, x19, x20, x9, rfl, R9, B9⟩ := h
    try dsimp only
    clear KT KT2 hmk
    go_wp2_with (first
      | (go_at_call 23; (with_reducible refine (K1.out _ B9.out).mono ?_); rintro e w1 ⟨v1, rfl, hr, hb'⟩; have D1 := Lib.hid hr; have R9' := Lib.hid (R9.out.bl hb'); have G1 := Lib.hid (B9.out.trans hb'); clear hr hb')
      | (go_at_call 23; (with_reducible refine (K2.out _ _ R9'.out).mono ?_); rintro e w2 ⟨v2, rfl, hr, hb'⟩; have D2 := Lib.hid hr; have D1' := Lib.hid (D1.out.bl hb'); have G2 := Lib.hid (G1.out.trans hb'); clear hr hb')
      | (go_at_call 22; (with_reducible refine (K3.out _ _ _ D1'.out D2.out).mono ?_); rintro e w3 ⟨v3, rfl, hr, hb'⟩; have D3 := Lib.hid hr; have G3 := Lib.hid (G2.out.trans hb'); clear hr hb')
      | (go_at_call 21; (with_reducible refine (K4.out _ _ D3.out).mono ?_); rintro e w4 ⟨v4, rfl, hr, hb'⟩; have D4 := Lib.hid hr; have G4 := Lib.hid (G3.out.trans hb'); clear hr hb'))
    go_ret
    exact RwEnd.mk D4.out G4.out
end Go.Proofs.Yteoeaogfeblokaa
