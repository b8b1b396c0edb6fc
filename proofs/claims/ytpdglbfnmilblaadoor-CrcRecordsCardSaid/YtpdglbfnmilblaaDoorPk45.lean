/-
  crc.Same. · What counts as the same record (printed by gen/cst.py)
-/
import Derived.Test.YtpdglbfnmilblaaDoorPk43
namespace Go.Proofs.YtpdglbfnmilblaaDoor
open Go.RowKit
set_option linter.unusedVariables false
set_option linter.unusedSimpArgs false

theorem same_turn (r u : Rc) : (((((sameJ r u && (r.frm == u.frm && r.til == u.til)) && (r.minus == u.minus)) && decide (r.p = u.p)) && decide (r.q = u.q)) && decide (r.t = u.t)) = (sameP r u && sameJ r u) := by
  unfold sameP
  cases sameJ r u <;> cases (r.frm == u.frm && r.til == u.til) <;> cases (r.minus == u.minus) <;> cases decide (r.p = u.p) <;> cases decide (r.q = u.q) <;> cases decide (r.t = u.t) <;> rfl
theorem six_ways : ∀ b1 b2 b3 b4 b5 b6 : Bool, b1 = false ∨ (b1 = true ∧ b2 = false) ∨ (b1 = true ∧ b2 = true ∧ b3 = false) ∨ (b1 = true ∧ b2 = true ∧ b3 = true ∧ b4 = false) ∨ (b1 = true ∧ b2 = true ∧ b3 = true ∧ b4 = true ∧ b5 = false) ∨ (b1 = true ∧ b2 = true ∧ b3 = true ∧ b4 = true ∧ b5 = true ∧ b6 = false) ∨ (b1 = true ∧ b2 = true ∧ b3 = true ∧ b4 = true ∧ b5 = true ∧ b6 = true) := by
  intro b1 b2 b3 b4 b5 b6
  cases b1 <;> cases b2 <;> cases b3 <;> cases b4 <;> cases b5 <;> cases b6 <;> simp
theorem four_at {w : World} (c0 c1 c2 c3 : List Value) {t0 t1 t2 t3 : TypeId} :
    Bq ((((w.alloc (.cells c0.toArray t0)).alloc (.cells c1.toArray t1)).alloc (.cells c2.toArray t2)).alloc (.cells c3.toArray t3)).drew (w.heap.size + 1 + 1) t2 c2 ∧
    Bq ((((w.alloc (.cells c0.toArray t0)).alloc (.cells c1.toArray t1)).alloc (.cells c2.toArray t2)).alloc (.cells c3.toArray t3)).drew (w.heap.size + 1 + 1 + 1) t3 c3 := by
  have e : ∀ (W : World) (o : Obj), (W.alloc o).heap.size = W.heap.size + 1 := fun W o => by show (W.heap.push o).size = _; simp
  have k2 := Bq.new ((w.alloc (.cells c0.toArray t0)).alloc (.cells c1.toArray t1)) t2 c2
  have k3 := Bq.new (((w.alloc (.cells c0.toArray t0)).alloc (.cells c1.toArray t1)).alloc (.cells c2.toArray t2)) t3 c3
  rw [e, e] at k2
  rw [e, e, e] at k3
  exact ⟨(k2.alloc _).drew, k3.drew⟩
set_option maxRecDepth 100000 in
set_option maxHeartbeats 4000000 in
theorem psame_any (r u : Rc) (vp vq vt up uq ut : Value) (w : World) (hp : Rw .u64 w vp r.p) (hq : Rw .u64 w vq r.q) (ht : Rw .u64 w vt r.t) (kp : Rw .u64 w up u.p) (kq : Rw .u64 w uq u.q) (kt : Rw .u64 w ut u.t) :
    Calls Tryd.prog 19 #[recV r vp vq vt, recV u up uq ut] w fun e w' => e = .returned (.bool (sameP r u && sameJ r u)) ∧ Bl w w' := by
  rw [← same_turn]
  have K1 := Lib.hid (fun W (g : Bl w W) => pequal_big vp up r.p u.p W (hp.bl g) (kp.bl g))
  have K2 := Lib.hid (fun W (g : Bl w W) => pequal_big vq uq r.q u.q W (hq.bl g) (kq.bl g))
  have K3 := Lib.hid (fun W (g : Bl w W) => pequal_big vt ut r.t u.t W (ht.bl g) (kt.bl g))
  have x4 := fun W => eql_range r.frm r.til u.frm u.til W
  have x5 := fun W => eql_bool r.minus u.minus W
  have x6 := fun W => eql_job r.con r.dgs r.gua u.con u.dgs u.gua W
  obtain ⟨b1, e1⟩ : ∃ b, decide (r.p = u.p) = b := ⟨_, rfl⟩
  obtain ⟨b2, e2⟩ : ∃ b, decide (r.q = u.q) = b := ⟨_, rfl⟩
  obtain ⟨b3, e3⟩ : ∃ b, decide (r.t = u.t) = b := ⟨_, rfl⟩
  obtain ⟨b4, e4⟩ : ∃ b, (r.frm == u.frm && r.til == u.til) = b := ⟨_, rfl⟩
  obtain ⟨b5, e5⟩ : ∃ b, (r.minus == u.minus) = b := ⟨_, rfl⟩
  obtain ⟨b6, e6⟩ : ∃ b, sameJ r u = b := ⟨_, rfl⟩
  rw [e1] at K1 ⊢
  rw [e2] at K2 ⊢
  rw [e3] at K3 ⊢
  simp only [e4] at x4
  simp only [e5] at x5
  rw [e4, e5, e6]
  unfold sameJ at e6
  simp only [e6] at x6
  clear e1 e2 e3 e4 e5 e6
  unfold recV
  obtain ⟨con, dgs, gua, frm, til, p, q, t, m⟩ := r
  obtain ⟨con', dgs', gua', frm', til', p', q', t', m'⟩ := u
  dsimp only at hp hq ht kp kq kt x4 x5 x6 ⊢
  obtain ⟨A1, c1, rfl, _⟩ := hp
  obtain ⟨A2, c2, rfl, _⟩ := hq
  obtain ⟨A3, c3, rfl, _⟩ := ht
  obtain ⟨A4, c4, rfl, _⟩ := kp
  obtain ⟨A5, c5, rfl, _⟩ := kq
  obtain ⟨A6, c6, rfl, _⟩ := kt
  go_enter Tryd.func19, Tryd.ntmps19
  go_wp2
  go_region
  · have F0 := (four_at (w := w) (t0 := 30) (t1 := 30) (t2 := 28) (t3 := 28) (recC con dgs gua frm til (.slice A1 p.length c1) (.slice A2 q.length c2) (.slice A3 t.length c3) m) (recC con' dgs' gua' frm' til' (.slice A4 p'.length c4) (.slice A5 q'.length c5) (.slice A6 t'.length c6) m') (parC frm til (.slice A1 p.length c1) (.slice A2 q.length c2) (.slice A3 t.length c3) m) (parC frm' til' (.slice A4 p'.length c4) (.slice A5 q'.length c5) (.slice A6 t'.length c6) m'))
    have PA0 := Lib.hid F0.1
    have PB0 := Lib.hid F0.2
    clear F0
    rcases six_ways b6 b4 b5 b1 b2 b3 with rfl | ⟨rfl, rfl⟩ | ⟨rfl, rfl, rfl⟩ | ⟨rfl, rfl, rfl, rfl⟩ | ⟨rfl, rfl, rfl, rfl, rfl⟩ | ⟨rfl, rfl, rfl, rfl, rfl, rfl⟩ | ⟨rfl, rfl, rfl, rfl, rfl, rfl⟩
    all_goals
      go_wp2_with (first
        | (go_at_call 31; (with_reducible refine (K1.out _ (((((Bl.refl w).alloc _).alloc _).alloc _).alloc _).drew).mono ?_); rintro e w1 ⟨rfl, hb⟩; have G1 := Lib.hid ((((((Bl.refl w).alloc _).alloc _).alloc _).alloc _).drew.trans hb); have PA1 := Lib.hid (PA0.out.bl hb); have PB1 := Lib.hid (PB0.out.bl hb); have cPA12 := PA1.out.cell 2 rfl; have cPA13 := PA1.out.cell 3 rfl; have cPA14 := PA1.out.cell 4 rfl; have cPB12 := PB1.out.cell 2 rfl; have cPB13 := PB1.out.cell 3 rfl; have cPB14 := PB1.out.cell 4 rfl; clear hb)
        | (go_at_call 31; (with_reducible refine (K2.out _ G1.out).mono ?_); rintro e w2 ⟨rfl, hb⟩; have G2 := Lib.hid (G1.out.trans hb); have PA2 := Lib.hid (PA1.out.bl hb); have PB2 := Lib.hid (PB1.out.bl hb); have cPA22 := PA2.out.cell 2 rfl; have cPA23 := PA2.out.cell 3 rfl; have cPA24 := PA2.out.cell 4 rfl; have cPB22 := PB2.out.cell 2 rfl; have cPB23 := PB2.out.cell 3 rfl; have cPB24 := PB2.out.cell 4 rfl; clear hb)
        | (go_at_call 31; (with_reducible refine (K3.out _ G2.out).mono ?_); rintro e w3 ⟨rfl, hb⟩; have G3 := Lib.hid (G2.out.trans hb); clear hb))
      all_goals go_ret
      all_goals exact ⟨by simp, by first | exact G3.out | exact G2.out | exact G1.out | exact (((((Bl.refl w).alloc _).alloc _).alloc _).alloc _).drew⟩
  · have F0 := (four_at (w := w) (t0 := 30) (t1 := 30) (t2 := 28) (t3 := 28) (recC con dgs gua frm til (.slice A1 p.length c1) (.slice A2 q.length c2) (.slice A3 t.length c3) m) (recC con' dgs' gua' frm' til' (.slice A4 p'.length c4) (.slice A5 q'.length c5) (.slice A6 t'.length c6) m') (parC frm' til' (.slice A4 p'.length c4) (.slice A5 q'.length c5) (.slice A6 t'.length c6) m') (parC frm til (.slice A1 p.length c1) (.slice A2 q.length c2) (.slice A3 t.length c3) m))
    have PA0 := Lib.hid F0.2
    have PB0 := Lib.hid F0.1
    clear F0
    rcases six_ways b6 b4 b5 b1 b2 b3 with rfl | ⟨rfl, rfl⟩ | ⟨rfl, rfl, rfl⟩ | ⟨rfl, rfl, rfl, rfl⟩ | ⟨rfl, rfl, rfl, rfl, rfl⟩ | ⟨rfl, rfl, rfl, rfl, rfl, rfl⟩ | ⟨rfl, rfl, rfl, rfl, rfl, rfl⟩
    all_goals
      go_wp2_with (first
        | (go_at_call 31; (with_reducible refine (K1.out _ (((((Bl.refl w).alloc _).alloc _).alloc _).alloc _).drew).mono ?_); rintro e w1 ⟨rfl, hb⟩; have G1 := Lib.hid ((((((Bl.refl w).alloc _).alloc _).alloc _).alloc _).drew.trans hb); have PA1 := Lib.hid (PA0.out.bl hb); have PB1 := Lib.hid (PB0.out.bl hb); have cPA12 := PA1.out.cell 2 rfl; have cPA13 := PA1.out.cell 3 rfl; have cPA14 := PA1.out.cell 4 rfl; have cPB12 := PB1.out.cell 2 rfl; have cPB13 := PB1.out.cell 3 rfl; have cPB14 := PB1.out.cell 4 rfl; clear hb)
        | (go_at_call 31; (with_reducible refine (K2.out _ G1.out).mono ?_); rintro e w2 ⟨rfl, hb⟩; have G2 := Lib.hid (G1.out.trans hb); have PA2 := Lib.hid (PA1.out.bl hb); have PB2 := Lib.hid (PB1.out.bl hb); have cPA22 := PA2.out.cell 2 rfl; have cPA23 := PA2.out.cell 3 rfl; have cPA24 := PA2.out.cell 4 rfl; have cPB22 := PB2.out.cell 2 rfl; have cPB23 := PB2.out.cell 3 rfl; have cPB24 := PB2.out.cell 4 rfl; clear hb)
        | (go_at_call 31; (with_reducible refine (K3.out _ G2.out).mono ?_); rintro e w3 ⟨rfl, hb⟩; have G3 := Lib.hid (G2.out.trans hb); clear hb))
      all_goals go_ret
      all_goals exact ⟨by simp, by first | exact G3.out | exact G2.out | exact G1.out | exact (((((Bl.refl w).alloc _).alloc _).alloc _).alloc _).drew⟩
end Go.Proofs.YtpdglbfnmilblaaDoor
namespace Go.Proofs.YtpdglbfnmilblaaDoor
open Go.RowKit
set_option linter.unusedVariables false
set_option linter.unusedSimpArgs false

theorem same_eq {r u : Rc} (h : (sameP r u && sameJ r u) = true) : r = u := by
  unfold sameP sameJ at h
  simp only [Bool.and_eq_true, decide_eq_true_eq, beq_iff_eq] at h
  obtain ⟨⟨⟨⟨⟨hp, hq⟩, ht⟩, hf, hl⟩, hm⟩, ⟨hc, hd⟩, hg⟩ := h
  obtain ⟨a, b, c, d, e, p, q, t, m⟩ := r
  obtain ⟨a', b', c', d', e', p', q', t', m'⟩ := u
  dsimp only at *
  subst hp; subst hq; subst ht; subst hf; subst hl; subst hm; subst hc; subst hd; subst hg
  rfl
theorem same_no {r u : Rc} (h : r ≠ u) : (sameP r u && sameJ r u) = false := by
  cases e : (sameP r u && sameJ r u)
  · rfl
  · exact absurd (same_eq e) h
theorem same_self (r : Rc) : sameP r r = true ∧ sameJ r r = true := by
  unfold sameP sameJ
  simp
end Go.Proofs.YtpdglbfnmilblaaDoor
