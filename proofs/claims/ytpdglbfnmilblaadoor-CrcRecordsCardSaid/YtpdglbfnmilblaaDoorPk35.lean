/-
  Package crc: valid.
-/
import Derived.Test.YtpdglbfnmilblaaDoorPk31
namespace Go.Proofs.YtpdglbfnmilblaaDoor
open Go.RowKit
set_option linter.unusedVariables false
set_option linter.unusedSimpArgs false

theorem may_bool2 (r : Rc) : decide r.May = (inAll 255 [r.con] && inAll 2147483647 [r.dgs, r.gua, r.frm, r.til] && decide (Okr r.p) && decide (Okr r.q) && decide (Okr r.t)) := by
  rw [Bool.eq_iff_iff]
  unfold Rc.May Sm inAll
  simp only [Bool.and_eq_true, decide_eq_true_eq, List.all_cons, List.all_nil, and_assoc, Bool.and_true]
  constructor
  · rintro ⟨h1, h2, h3, h4, h5, h6, h7, h8, h9, h10, h11, h12, h13⟩; exact ⟨h12, h13, h1, h2, h3, h4, h5, h6, h7, h8, h9, h10, h11⟩
  · rintro ⟨h12, h13, h1, h2, h3, h4, h5, h6, h7, h8, h9, h10, h11⟩; exact ⟨h1, h2, h3, h4, h5, h6, h7, h8, h9, h10, h11, h12, h13⟩
theorem zs_new {W : World} {b : Nat} {t : TypeId} (zs : List Int) (hb : b = W.heap.size) : Zs (W.alloc (.cells (zs.map (Value.int .i64)).toArray t)) b zs := by
  subst hb
  intro i hi
  exact (Bq.new W t (zs.map (Value.int .i64))).cell i (by rw [List.getElem?_map, List.getElem?_eq_getElem hi]; rfl)
theorem five_ways : ∀ b1 b2 b3 b4 b5 : Bool, b1 = false ∨ (b1 = true ∧ b2 = false) ∨ (b1 = true ∧ b2 = true ∧ b3 = false) ∨ (b1 = true ∧ b2 = true ∧ b3 = true ∧ b4 = false) ∨ (b1 = true ∧ b2 = true ∧ b3 = true ∧ b4 = true ∧ b5 = false) ∨ (b1 = true ∧ b2 = true ∧ b3 = true ∧ b4 = true ∧ b5 = true) := by decide

set_option maxRecDepth 100000 in
set_option maxHeartbeats 4000000 in
theorem pvalid_any (r : Rc) (vp vq vt : Value) (hw : r.Wd) (w : World) (hp : Rw .u64 w vp r.p) (hq : Rw .u64 w vq r.q) (ht : Rw .u64 w vt r.t) :
    Calls Tryd.prog 20 #[recV r vp vq vt] w fun e w' => e = .returned (.bool (decide r.May)) ∧ Bl w w' := by
  rw [may_bool2]
  unfold recV
  obtain ⟨con, dgs, gua, frm, til, p, q, t, minus⟩ := r
  obtain ⟨w1, w2, w3⟩ := hw
  dsimp only at hp hq ht w1 w2 w3 ⊢
  have K1 : Hid (∀ (W : World) (b : Nat), b = W.heap.size → Calls Tryd.prog 32 #[.int .i64 255, .slice (some ⟨b, 0, none⟩) 1 1] (W.alloc (.cells #[.int .i64 con] 3)) fun e w' => e = .returned (.bool (inAll 255 [con])) ∧ W.alloc (.cells #[.int .i64 con] 3) = w') :=
    fun W b hb => pwithin_any 255 b 1 [con] rfl (by decide) _ (zs_new [con] hb)
  have K2 : Hid (∀ (W : World) (b : Nat), b = W.heap.size → Calls Tryd.prog 32 #[.int .i64 2147483647, .slice (some ⟨b, 0, none⟩) 4 4] (W.alloc (.cells #[.int .i64 dgs, .int .i64 gua, .int .i64 frm, .int .i64 til] 3)) fun e w' => e = .returned (.bool (inAll 2147483647 [dgs, gua, frm, til])) ∧ W.alloc (.cells #[.int .i64 dgs, .int .i64 gua, .int .i64 frm, .int .i64 til] 3) = w') :=
    fun W b hb => pwithin_any 2147483647 b 4 [dgs, gua, frm, til] rfl (by decide) _ (zs_new [dgs, gua, frm, til] hb)
  have K5 := Lib.hid (fun w' (g : Bl w w') => pstorable_any vp p w1 w' (hp.bl g))
  have K6 := Lib.hid (fun w' (g : Bl w w') => pstorable_any vq q w2 w' (hq.bl g))
  have K7 := Lib.hid (fun w' (g : Bl w w') => pstorable_any vt t w3 w' (ht.bl g))
  obtain ⟨b1, e1⟩ : ∃ b, inAll 255 [con] = b := ⟨_, rfl⟩
  obtain ⟨b2, e2⟩ : ∃ b, inAll 2147483647 [dgs, gua, frm, til] = b := ⟨_, rfl⟩
  obtain ⟨b5, e5⟩ : ∃ b, decide (Okr p) = b := ⟨_, rfl⟩
  obtain ⟨b6, e6⟩ : ∃ b, decide (Okr q) = b := ⟨_, rfl⟩
  obtain ⟨b7, e7⟩ : ∃ b, decide (Okr t) = b := ⟨_, rfl⟩
  rw [e1] at K1 ⊢
  rw [e2] at K2 ⊢
  rw [e5] at K5 ⊢
  rw [e6] at K6 ⊢
  rw [e7] at K7 ⊢
  obtain ⟨B1, c1, rfl, _⟩ := hp
  obtain ⟨B2, c2, rfl, _⟩ := hq
  obtain ⟨B3, c3, rfl, _⟩ := ht
  clear e1 e2 e5 e6 e7 w1 w2 w3
  have G0 := Lib.hid ((Bl.refl w).alloc (.cells #[.int .i64 con, .int .i64 dgs, .int .i64 gua, .int .i64 frm, .int .i64 til, .slice B1 p.length c1, .slice B2 q.length c2, .slice B3 t.length c3, .bool minus] 30))
  have G1 := Lib.hid (G0.out.alloc (.cells #[.int .i64 con] 3))
  have G2 := Lib.hid (G1.out.alloc (.cells #[.int .i64 dgs, .int .i64 gua, .int .i64 frm, .int .i64 til] 3))
  have B0 := Lib.hid ((((Bq.new w 30 (recC con dgs gua frm til (.slice B1 p.length c1) (.slice B2 q.length c2) (.slice B3 t.length c3) minus)).alloc (.cells #[.int .i64 con] 3)).alloc (.cells #[.int .i64 dgs, .int .i64 gua, .int .i64 frm, .int .i64 til] 3)))
  rcases five_ways b1 b2 b5 b6 b7 with rfl | ⟨rfl, rfl⟩ | ⟨rfl, rfl, rfl⟩ | ⟨rfl, rfl, rfl, rfl⟩ | ⟨rfl, rfl, rfl, rfl, rfl⟩ | ⟨rfl, rfl, rfl, rfl, rfl⟩
  all_goals
    go_enter Tryd.func20, Tryd.ntmps20
    go_wp2_with (first
      | (go_at_call 32; (with_reducible refine (K1.out _ _ (by simp)).mono ?_); rintro e w' ⟨rfl, rfl⟩)
      | (go_at_call 32; (with_reducible refine (K2.out _ _ (by simp)).mono ?_); rintro e w' ⟨rfl, rfl⟩)
      | (go_at_call 33; (with_reducible refine (K5.out _ G2.out).mono ?_); rintro e w5 ⟨rfl, hb5⟩; have G5 := Lib.hid (G2.out.trans hb5); have B5 := Lib.hid (B0.out.bl hb5); have q5 := B5.out.cell 6 rfl; clear hb5)
      | (go_at_call 33; (with_reducible refine (K6.out _ G5.out).mono ?_); rintro e w6 ⟨rfl, hb6⟩; have G6 := Lib.hid (G5.out.trans hb6); have B6 := Lib.hid (B5.out.bl hb6); have q6 := B6.out.cell 7 rfl; clear hb6)
      | (go_at_call 33; (with_reducible refine (K7.out _ G6.out).mono ?_); rintro e w7 ⟨rfl, hb7⟩; have G7 := Lib.hid (G6.out.trans hb7); clear hb7))
    all_goals go_ret
    all_goals exact ⟨by simp, by first | exact G7.out | exact G6.out | exact G5.out | exact G2.out | exact G1.out⟩
end Go.Proofs.YtpdglbfnmilblaaDoor
