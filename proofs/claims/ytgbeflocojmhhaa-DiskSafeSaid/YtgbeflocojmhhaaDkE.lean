/-
  Package disk: Rename.
-/
import Derived.Test.YtgbeflocojmhhaaDkD
namespace Go.Proofs.Ytgbeflocojmhhaa
open Go.RowKit
set_option linter.unusedVariables false
set_option linter.unusedSimpArgs false

/-- A store into another block. -/
theorem fw_other {w : World} {v : Value} {l : List Fl} (h : Fw w v l) {g : Nat} (hg : 0 < l.length → v.ownBlock ≠ some g) (i : Nat) (u : Value) : Fw (w.setCell ⟨g, i, none⟩ u) v l := by
  obtain ⟨A, c, rfl, h1, h2, h3, h4⟩ := h
  refine ⟨A, c, rfl, h1, h2, h3, fun hl => ?_⟩
  obtain ⟨b, o, rfl, hb, hx⟩ := h4 hl
  have hne : b ≠ g := fun e => hg hl (by rw [e]; rfl)
  have key : ∀ (k : Nat), (w.setCell ⟨g, i, none⟩ u).cell? ⟨b, k, none⟩ = w.cell? ⟨b, k, none⟩ := fun k => by
    rw [World.cell?_setCell_other w _ _ u]
    intro e
    exact hne (congrArg Addr.block e).symm
  exact ⟨b, o, rfl, by show _ < (w.heap.modify _ _).size; rw [Array.size_modify]; exact hb, fun j hj => ⟨(key _).trans (hx j hj).1, (key _).trans (hx j hj).2.1, (key _).trans (hx j hj).2.2⟩⟩
theorem fw_block {w : World} {v : Value} {l : List Fl} (h : Fw w v l) (hl : 0 < l.length) {b : Nat} (e : v.ownBlock = some b) : b < w.heap.size := by
  obtain ⟨A, c, rfl, h1, h2, h3, h4⟩ := h
  obtain ⟨b', o, rfl, hb, hx⟩ := h4 hl
  have : some b' = some b := e
  rw [← Option.some.inj this]
  exact hb
/-- What Rename answers. -/
def rnR (l : List Fl) (s to : ByteArray) : List Fl := if fnd l s < l.length then (if mayN to = true then rnL l s to else l) else l
def rnE (l : List Fl) (s to : ByteArray) : Int := if fnd l s < l.length then (if mayN to = true then 0 else 1) else 9
set_option maxRecDepth 100000 in
set_option maxHeartbeats 4000000 in
theorem pRename_any (room : Int) (v : Value) (l : List Fl) (s to : ByteArray) (hto : to.size ≤ 140737488355328) (w : World) (hv : Fw w v l) (hl : l.length < 1000000) :
    Calls Try.prog 21 #[.agg #[.int .i64 room, v], .string s, .string to] w (DkEnd w room (rnR l s to) (rnE l s to)) := by
  have K1 := Lib.hid (fun W (g : Bl w W) => ptaken_any v l s W (hv.bl g) hl)
  have KH := Lib.hid (fun A n c B m k W => pholding_any room A B n c m k W)
  have KN := Lib.hid (fun W => pnameable_any to hto W)
  have HV := Lib.hid hv
  by_cases h : fnd l s < l.length
  · have e1 : tkB l s = true := decide_eq_true h
    unfold TkEnd at K1
    rw [e1] at K1
    have hll : (tkL l s).length < 1000000 := Nat.lt_of_le_of_lt (tk_len l s) hl
    by_cases hm : mayN to = true
    · have e2 : rnE l s to = 0 := by unfold rnE; rw [if_pos h, if_pos hm]
      have e3 : rnR l s to = ins (tkL (tkL l s) to) ⟨to, (tkF l s).d, (tkF l s).s⟩ := by unfold rnR rnL; rw [if_pos h, if_pos hm]
      rw [e2, e3]
      rw [hm] at KN
      obtain ⟨⟨fn, fd, fs⟩, ef⟩ : ∃ f, tkF l s = f := ⟨_, rfl⟩
      obtain ⟨L, eL⟩ : ∃ L, tkL l s = L := ⟨_, rfl⟩
      rw [ef, eL] at K1
      rw [eL] at hll
      rw [ef, eL]
      dsimp only at K1 ⊢
      have K2 := Lib.hid (fun u W (h : Fw W u L) => ptaken_any u L to W h hll)
      have hL2 := Lib.hid (tk_len L to)
      have hll2 : (tkL L to).length < 1000000 := Nat.lt_of_le_of_lt (tk_len L to) hll
      obtain ⟨⟨gn, gd, gs⟩, eg⟩ : ∃ f, tkF L to = f := ⟨_, rfl⟩
      obtain ⟨qb, eqb⟩ : ∃ q, tkB L to = q := ⟨_, rfl⟩
      unfold TkEnd at K2
      rw [eg, eqb] at K2
      dsimp only at K2
      obtain ⟨L2, eL2⟩ : ∃ L2, tkL L to = L2 := ⟨_, rfl⟩
      rw [eL2] at K2 hL2 hll2 ⊢
      have KP := Lib.hid (fun u W (h : Fw W u L2) => pput_any u L2 to fd fs W h hll2)
      obtain ⟨A, c, rfl⟩ := fw_shape hv
      have B0 := Lib.hid (two_at w 24 24 [.int .i64 room, .slice A l.length c] [.int .i64 0, .slice none 0 0])
      clear hv h e1 e2 e3 hl ef eL hll hm hto eg eqb eL2 hll2
      go_enter Try.func21, Try.ntmps21
      go_wp2_with (first
        | (go_at_call 29; (with_reducible refine (K1.out _ (((Bl.refl w).alloc _).alloc _)).mono ?_); rintro e w1 ⟨u, rfl, hr, hb1, -⟩; obtain ⟨A1, c1, rfl⟩ := fw_shape hr; have R1 := Lib.hid hr; have G1 := Lib.hid ((((Bl.refl w).alloc _).alloc _).trans hb1); have Q1 := Lib.hid (B0.out.1.bl hb1); have P1 := Lib.hid (B0.out.2.bl hb1); have R1' := Lib.hid (hr.bl ((Bl.refl w1).alloc (.cells #[.string fn, .string fd, .string fs] 49))); have F1 := Lib.hid (Bq.new w1 49 [.string fn, .string fd, .string fs]); clear hb1 hr)
        | (go_at_call 35; (with_reducible refine (KN.out _).mono ?_); rintro e w' ⟨rfl, rfl⟩)
        | (go_at_call 29; (with_reducible refine (K2.out _ _ R1'.out).mono ?_); rintro e w2 ⟨u2, rfl, hr, hb2, ho2⟩; obtain ⟨A2, c2, rfl⟩ := fw_shape hr; have R2 := Lib.hid hr; have G2 := Lib.hid ((G1.out.alloc _).trans hb2); have Q2 := Lib.hid ((Q1.out.alloc _).bl hb2); have P2 := Lib.hid ((P1.out.alloc _).bl hb2); have F2 := Lib.hid (F1.out.bl hb2); have k0 := F2.out.cell 0 rfl; have f0 := F2.out.free 0; have O2 := Lib.hid ho2; clear hb2 hr ho2))
      have hne1 : w1.heap.size ≠ w.heap.size := Nat.ne_of_gt Q1.out.lt
      have hne2 : w1.heap.size ≠ w.heap.size + 1 := Nat.ne_of_gt P1.out.lt
      have hge : w.heap.size ≤ w1.heap.size := Nat.le_of_lt Q1.out.lt
      have hown : 0 < L2.length → (Value.slice A2 L2.length c2).ownBlock ≠ some w1.heap.size := by
        intro h0 e
        rcases O2.out with h1 | h1
        · rw [h1] at e
          exact Nat.lt_irrefl _ (fw_block R1.out (Nat.lt_of_lt_of_le h0 hL2.out) e)
        · have := h1 _ e
          rw [World.size_alloc] at this
          omega
      have Q3 := Lib.hid ((Q2.out.oth 0 (.string to) hne1).drew)
      have P3 := Lib.hid ((P2.out.oth 0 (.string to) hne2).drew)
      have F3 : Hid (Bq (w2.setCell ⟨w1.heap.size, 0, none⟩ (.string to)).drew w1.heap.size 49 [.string to, .string fd, .string fs]) := (F2.out.set 0 (.string to)).drew
      have R3 := Lib.hid ((fw_other R2.out hown 0 (.string to)).bl (Bl.refl _).drew)
      have G3 := Lib.hid ((G2.out.setCell (p := ⟨w1.heap.size, 0, none⟩) hge (.string to)).drew)
      clear hown hne1 hne2 hge k0 f0
      have k0 := Q3.out.cell 0 rfl
      have k1 := Q3.out.cell 1 rfl
      have k2 := F3.out.cell 0 rfl
      have k3 := F3.out.cell 1 rfl
      have k4 := F3.out.cell 2 rfl
      go_region_with (first
        | (go_at_call 30; (with_reducible refine (KP.out _ _ R3.out).mono ?_); rintro e w3 ⟨u3, rfl, ho, hb3⟩; have hf3 := ho.fw; obtain ⟨A3, c3, rfl⟩ := fw_shape hf3; have R4 := Lib.hid hf3; have G4 := Lib.hid (G3.out.trans hb3); have P4 := Lib.hid (P3.out.bl hb3); have q0 := (Q3.out.bl hb3).cell 0 rfl; have q1 := (Q3.out.bl hb3).cell 1 rfl)
        | (go_at_call 27; (with_reducible refine (KH.out _ _ _ _ _ _ _).mono ?_); rintro e w4 ⟨rfl, hb4⟩; have G5 := Lib.hid (G4.out.trans hb4); have R5 := Lib.hid (R4.out.bl hb4); have P5 := Lib.hid (P4.out.bl hb4); have m0 := P5.out.cell 0 rfl; have m1 := P5.out.cell 1 rfl; have f0 := P5.out.free 0; have f1 := P5.out.free 1))
      all_goals
        go_wp2
        exact ret_dk rfl rfl rfl P5.out R5.out G5.out (Nat.le_succ _)
    · have hm' : mayN to = false := by simpa using hm
      have e2 : rnE l s to = 1 := by unfold rnE; rw [if_pos h, if_neg hm]
      have e3 : rnR l s to = l := by unfold rnR; rw [if_pos h, if_neg hm]
      rw [e2, e3]
      rw [hm'] at KN
      obtain ⟨⟨fn, fd, fs⟩, ef⟩ : ∃ f, tkF l s = f := ⟨_, rfl⟩
      obtain ⟨L, eL⟩ : ∃ L, tkL l s = L := ⟨_, rfl⟩
      rw [ef, eL] at K1
      dsimp only at K1
      obtain ⟨A, c, rfl⟩ := fw_shape hv
      have B0 := Lib.hid (two_at w 24 24 [.int .i64 room, .slice A l.length c] [.int .i64 0, .slice none 0 0])
      clear hv h e1 e2 e3 hl ef eL hll hm hm' hto
      go_enter Try.func21, Try.ntmps21
      go_wp2_with (first
        | (go_at_call 29; (with_reducible refine (K1.out _ (((Bl.refl w).alloc _).alloc _)).mono ?_); rintro e w1 ⟨u, rfl, hr, hb1, -⟩; obtain ⟨A1, c1, rfl⟩ := fw_shape hr; have G1 := Lib.hid ((((Bl.refl w).alloc _).alloc _).trans hb1); have Q1 := Lib.hid (B0.out.1.bl hb1); have P1 := Lib.hid ((B0.out.2.bl hb1).alloc (.cells #[.string fn, .string fd, .string fs] 49)); have k0 := (Q1.out.alloc (.cells #[.string fn, .string fd, .string fs] 49)).cell 0 rfl; have k1 := (Q1.out.alloc (.cells #[.string fn, .string fd, .string fs] 49)).cell 1 rfl; have m0 := P1.out.cell 0 rfl; have m1 := P1.out.cell 1 rfl; have f0 := P1.out.free 0; have f1 := P1.out.free 1; clear hb1 hr)
        | (go_at_call 35; (with_reducible refine (KN.out _).mono ?_); rintro e w' ⟨rfl, rfl⟩))
      exact ret_dk rfl rfl rfl P1.out (HV.out.bl (G1.out.alloc _)) (G1.out.alloc _) (Nat.le_succ _)
  · have e1 : tkB l s = false := decide_eq_false h
    have e2 : rnE l s to = 9 := by unfold rnE; rw [if_neg h]
    have e3 : rnR l s to = l := by unfold rnR; rw [if_neg h]
    rw [e2, e3]
    unfold TkEnd at K1
    rw [e1] at K1
    obtain ⟨⟨fn, fd, fs⟩, ef⟩ : ∃ f, tkF l s = f := ⟨_, rfl⟩
    obtain ⟨L, eL⟩ : ∃ L, tkL l s = L := ⟨_, rfl⟩
    rw [ef, eL] at K1
    dsimp only at K1
    obtain ⟨A, c, rfl⟩ := fw_shape hv
    have B0 := Lib.hid (two_at w 24 24 [.int .i64 room, .slice A l.length c] [.int .i64 0, .slice none 0 0])
    clear hv h e1 e2 e3 hl ef eL hto
    go_enter Try.func21, Try.ntmps21
    go_wp2_with (go_at_call 29; (with_reducible refine (K1.out _ (((Bl.refl w).alloc _).alloc _)).mono ?_); rintro e w1 ⟨u, rfl, hr, hb1, -⟩; obtain ⟨A1, c1, rfl⟩ := fw_shape hr; have G1 := Lib.hid ((((Bl.refl w).alloc _).alloc _).trans hb1); have Q1 := Lib.hid (B0.out.1.bl hb1); have P1 := Lib.hid ((B0.out.2.bl hb1).alloc (.cells #[.string fn, .string fd, .string fs] 49)); have k0 := (Q1.out.alloc (.cells #[.string fn, .string fd, .string fs] 49)).cell 0 rfl; have k1 := (Q1.out.alloc (.cells #[.string fn, .string fd, .string fs] 49)).cell 1 rfl; have m0 := P1.out.cell 0 rfl; have m1 := P1.out.cell 1 rfl; have f0 := P1.out.free 0; have f1 := P1.out.free 1; clear hb1 hr)
    exact ret_dk rfl rfl rfl P1.out (HV.out.bl (G1.out.alloc _)) (G1.out.alloc _) (Nat.le_succ _)
end Go.Proofs.Ytgbeflocojmhhaa
