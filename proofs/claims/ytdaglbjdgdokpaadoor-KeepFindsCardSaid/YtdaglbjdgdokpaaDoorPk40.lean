/-
  Of: package crc's and the document's (printed by gen/csm.py).
-/
import Derived.Test.YtdaglbjdgdokpaaDoorPk32
import Derived.Test.YtdaglbjdgdokpaaDoorPk36
namespace Go.Proofs.YtdaglbjdgdokpaaDoor
open Go.RowKit
set_option linter.unusedVariables false
set_option linter.unusedSimpArgs false

/-- A job's part. -/
def ofE (jc jd jg : Int) (x : Nat × Rc) : Nat × Rc := if x.1 ≠ 0 then (x.1, rc0) else if (x.2.con == jc && x.2.dgs == jd && x.2.gua == jg) then (0, x.2) else (11, rc0)
/-- What a call answers that hands back a part and an error. -/
def ParEnd (W : World) (x : Nat × Rc) (e : Ending) (w : World) : Prop := ∃ vp vq vt, e = .returned (.tuple #[parV x.2 vp vq vt, .int .i64 (x.1 : Int)]) ∧ Rw .u64 w vp x.2.p ∧ Rw .u64 w vq x.2.q ∧ Rw .u64 w vt x.2.t ∧ Bl W w
def nilP : List Value := parC 0 0 (.slice none 0 0) (.slice none 0 0) (.slice none 0 0) false
theorem ret_par {fn : Func} {p u : Tmp} {w : World} {b : Nat} {tmps : Array Value} {v : Value} {frm til : Int} {vp vq vt : Value} {minus : Bool} (h : fn.results = #[.cell p 43, .tmp u]) (hp : tmps.getD p undef = .pointer (some ⟨b, 0, none⟩)) (hu : tmps.getD u undef = v)
    (hb : Bq w b 43 (parC frm til vp vq vt minus)) : (results fn tmps).run Tryd.prog w = .ok (.tuple #[.agg #[.int .i64 frm, .int .i64 til, vp, vq, vt, .bool minus], v]) w := by
  refine ret_cell9 h hp hu ?_
  have c0 := hb.cell 0 rfl
  have c1 := hb.cell 1 rfl
  have c2 := hb.cell 2 rfl
  have c3 := hb.cell 3 rfl
  have c4 := hb.cell 4 rfl
  have c5 := hb.cell 5 rfl
  clear hb hp hu h
  go_simp
def set6 (w : World) (b : Nat) (cs : List Value) : World := (((((w.setCell ⟨b, 0, none⟩ (cs.getD 0 undef)).setCell ⟨b, 1, none⟩ (cs.getD 1 undef)).setCell ⟨b, 2, none⟩ (cs.getD 2 undef)).setCell ⟨b, 3, none⟩ (cs.getD 3 undef)).setCell ⟨b, 4, none⟩ (cs.getD 4 undef)).setCell ⟨b, 5, none⟩ (cs.getD 5 undef)
theorem bl_set6 {W w : World} {b : Nat} (h : Bl W w) (hb : W.heap.size ≤ b) (cs : List Value) : Bl W (set6 w b cs) :=
  (((((h.setCell (p := ⟨b, 0, none⟩) hb _).setCell (p := ⟨b, 1, none⟩) hb _).setCell (p := ⟨b, 2, none⟩) hb _).setCell (p := ⟨b, 3, none⟩) hb _).setCell (p := ⟨b, 4, none⟩) hb _).setCell (p := ⟨b, 5, none⟩) hb _
theorem par_set {w : World} {b : Nat} (h : Bq w b 43 nilP) (frm til : Int) (vp vq vt : Value) (minus : Bool) : Bq (set6 w b (parC frm til vp vq vt minus)) b 43 (parC frm til vp vq vt minus) :=
  (((((h.set 0 _).set 1 _).set 2 _).set 3 _).set 4 _).set 5 _
theorem rw_set6 {w : World} {b : Nat} {v : Value} {l : List Nat} (h : Rw .u64 w v l) (hb : Bq w b 43 nilP) (cs : List Value) : Rw .u64 (set6 w b cs) v l := by
  have h0 := hb
  have r0 := rw_cellq h (h0.cell 0 rfl) (fun z e => by cases e) (cs.getD 0 undef)
  have h1 := h0.set 0 (cs.getD 0 undef)
  have r1 := rw_cellq r0 (h1.cell 1 rfl) (fun z e => by cases e) (cs.getD 1 undef)
  have h2 := h1.set 1 (cs.getD 1 undef)
  have r2 := rw_cellq r1 (h2.cell 2 rfl) (fun z e => by cases e) (cs.getD 2 undef)
  have h3 := h2.set 2 (cs.getD 2 undef)
  have r3 := rw_cellq r2 (h3.cell 3 rfl) (fun z e => by cases e) (cs.getD 3 undef)
  have h4 := h3.set 3 (cs.getD 3 undef)
  have r4 := rw_cellq r3 (h4.cell 4 rfl) (fun z e => by cases e) (cs.getD 4 undef)
  have h5 := h4.set 4 (cs.getD 4 undef)
  exact rw_cellq r4 (h5.cell 5 rfl) (fun z e => by cases e) (cs.getD 5 undef)
theorem post_par {W w0 w' : World} {fn : Func} {p u : Tmp} {b : Nat} {a : Act} {x : Nat × Rc} (n : Nat) (frm til : Int) (vp vq vt : Value) (minus : Bool) (lp lq lt : List Nat) (h : fn.results = #[.cell p 43, .tmp u]) (hp : a.tmps.getD p undef = .pointer (some ⟨b, 0, none⟩)) (hu : a.tmps.getD u undef = .int .i64 (n : Int)) (hd : a.defers = [])
    (hb : Bq w0 b 43 nilP) (con dgs gua : Int) (hx : x = (n, ⟨con, dgs, gua, frm, til, lp, lq, lt, minus⟩)) (rp : Rw .u64 w0 vp lp) (rq : Rw .u64 w0 vq lq) (rt : Rw .u64 w0 vt lt) (hg : Bl W w0) (hbb : W.heap.size ≤ b)
    (hw : w' = set6 w0 b (parC frm til vp vq vt minus)) : bodyPost Tryd.prog fn (ParEnd W x) .ret a w' := by
  subst hw; subst hx
  exact bodyPost_ret (ret_par h hp hu (par_set hb frm til vp vq vt minus)) hd ⟨vp, vq, vt, rfl, rw_set6 rp hb _, rw_set6 rq hb _, rw_set6 rt hb _, bl_set6 hg hbb _⟩

set_option maxRecDepth 100000 in
set_option maxHeartbeats 2000000 in
theorem pof_any (s : List Nat) (jc jd jg : Int) (ha : All 256 s) (hl : s.length ≤ 140737488355328) (w : World) (hE : ErrT w) :
    Calls Tryd.prog 15 #[.string (bs s), .agg #[.int .i64 jc, .int .i64 jd, .int .i64 jg]] w (ParEnd w (ofE jc jd jg (decB s))) := by
  have KT : Hid (∀ W, Bl w W → Calls Tryd.prog 24 #[.string (bs s)] W (RecEnd W (decB s))) := fun W g => ptake_any s ha (by omega) W (hE.bl g)
  have hbad := dec_bad s
  obtain ⟨X, eX⟩ : ∃ X, decB s = X := ⟨_, rfl⟩
  obtain ⟨S, eS⟩ : ∃ S, bs s = S := ⟨_, rfl⟩
  rw [eX] at KT hbad ⊢
  rw [eS] at KT ⊢
  clear eX eS ha hl hE
  obtain ⟨n, con, dgs, gua, frm, til, lp, lq, lt, mb⟩ := X
  dsimp only at hbad
  have xn := fun W => neq_job con dgs gua jc jd jg W
  obtain ⟨same, es⟩ : ∃ b, (con == jc && dgs == jd && gua == jg) = b := ⟨_, rfl⟩
  simp only [es] at xn
  have HX0 : Hid (n ≠ 0 → ofE jc jd jg (n, ⟨con, dgs, gua, frm, til, lp, lq, lt, mb⟩) = (n, rc0)) := fun h => by unfold ofE; rw [if_pos h]
  have HX1 : Hid (n = 0 → same = false → ofE jc jd jg (n, ⟨con, dgs, gua, frm, til, lp, lq, lt, mb⟩) = (11, rc0)) := fun h h' => by unfold ofE; rw [if_neg (by simp [h])]; dsimp only; rw [es, h']; rfl
  have HX2 : Hid (n = 0 → same = true → ofE jc jd jg (n, ⟨con, dgs, gua, frm, til, lp, lq, lt, mb⟩) = (0, ⟨con, dgs, gua, frm, til, lp, lq, lt, mb⟩)) := fun h h' => by unfold ofE; rw [if_neg (by simp [h])]; dsimp only; rw [es, h']; rfl
  obtain ⟨Y, eY⟩ : ∃ Y, ofE jc jd jg (n, ⟨con, dgs, gua, frm, til, lp, lq, lt, mb⟩) = Y := ⟨_, rfl⟩
  rw [eY] at HX0 HX1 HX2 ⊢
  clear eY es hbad
  have J0 := Lib.hid ((Bq.new w 26 [.int .i64 jc, .int .i64 jd, .int .i64 jg]).alloc (.cells nilP.toArray 43))
  have Z0 : Hid (Bq ((w.alloc (.cells #[.int .i64 jc, .int .i64 jd, .int .i64 jg] 26)).alloc (.cells nilP.toArray 43)) (w.heap.size + 1) 43 nilP) := by
    have := Bq.new (w.alloc (.cells #[.int .i64 jc, .int .i64 jd, .int .i64 jg] 26)) 43 nilP
    rwa [show (w.alloc (.cells #[.int .i64 jc, .int .i64 jd, .int .i64 jg] 26)).heap.size = w.heap.size + 1 by simp] at this
  have G0 : Hid (Bl w ((w.alloc (.cells #[.int .i64 jc, .int .i64 jd, .int .i64 jg] 26)).alloc (.cells nilP.toArray 43))) := ((Bl.refl w).alloc _).alloc _
  have LB : Hid (w.heap.size ≤ w.heap.size + 1) := Nat.le_succ _
  have hways : (n ≠ 0) ∨ (n = 0 ∧ same = false) ∨ (n = 0 ∧ same = true) := by
    by_cases h : n = 0
    · cases same
      · exact Or.inr (Or.inl ⟨h, rfl⟩)
      · exact Or.inr (Or.inr ⟨h, rfl⟩)
    · exact Or.inl h
  rcases hways with hn | ⟨rfl, rfl⟩ | ⟨rfl, rfl⟩
  · have t0 : ((n : Int) != 0) = true := by rw [bne_iff_ne]; omega
    have HX := Lib.hid (HX0.out hn)
    clear HX0 HX1 HX2 hn
    go_enter Tryd.func15, Tryd.ntmps15
    go_wp2_with (go_at_call 24; (with_reducible refine (KT.out _ (((Bl.refl w).alloc _).alloc _)).mono ?_); rintro e w1 ⟨vp, vq, vt, rfl, hp, hq, ht, hb⟩; obtain ⟨Ap, cp, ep⟩ := rw_open hp rfl; obtain ⟨Aq, cq, eq⟩ := rw_open hq rfl; obtain ⟨At, ct, et⟩ := rw_open ht rfl; dsimp only at ep eq et hp hq ht; subst ep; subst eq; subst et; have Z3 := Lib.hid ((Z0.out.bl hb).alloc (.cells #[.int .i64 con, .int .i64 dgs, .int .i64 gua, .int .i64 frm, .int .i64 til, .slice Ap lp.length cp, .slice Aq lq.length cq, .slice At lt.length ct, .bool mb] 62)); have J3 := Lib.hid ((J0.out.bl hb).alloc (.cells #[.int .i64 con, .int .i64 dgs, .int .i64 gua, .int .i64 frm, .int .i64 til, .slice Ap lp.length cp, .slice Aq lq.length cq, .slice At lt.length ct, .bool mb] 62)); have G3 := Lib.hid ((G0.out.trans hb).alloc (.cells #[.int .i64 con, .int .i64 dgs, .int .i64 gua, .int .i64 frm, .int .i64 til, .slice Ap lp.length cp, .slice Aq lq.length cq, .slice At lt.length ct, .bool mb] 62)); have zf := Z3.out.free; have z0 := Z3.out.cell 0 rfl; have z1 := Z3.out.cell 1 rfl; have z2 := Z3.out.cell 2 rfl; have z3 := Z3.out.cell 3 rfl; have z4 := Z3.out.cell 4 rfl; have z5 := Z3.out.cell 5 rfl; have zf := Z3.out.free; have j0 := J3.out.cell 0 rfl; have j1 := J3.out.cell 1 rfl; have j2 := J3.out.cell 2 rfl; clear hp hq ht hb; (try dsimp only [recV]))
    (try simp only [Exit.inBlock, Exit.then])
    exact post_par n 0 0 (.slice none 0 0) (.slice none 0 0) (.slice none 0 0) false [] [] [] rfl rfl rfl rfl Z3.out 0 0 0 HX.out (Rw.nil _ _) (Rw.nil _ _) (Rw.nil _ _) G3.out LB.out rfl
  · have HX := Lib.hid (HX1.out rfl rfl)
    clear HX0 HX1 HX2
    go_enter Tryd.func15, Tryd.ntmps15
    go_wp2_with (go_at_call 24; (with_reducible refine (KT.out _ (((Bl.refl w).alloc _).alloc _)).mono ?_); rintro e w1 ⟨vp, vq, vt, rfl, hp, hq, ht, hb⟩; obtain ⟨Ap, cp, ep⟩ := rw_open hp rfl; obtain ⟨Aq, cq, eq⟩ := rw_open hq rfl; obtain ⟨At, ct, et⟩ := rw_open ht rfl; dsimp only at ep eq et hp hq ht; subst ep; subst eq; subst et; have Z3 := Lib.hid ((Z0.out.bl hb).alloc (.cells #[.int .i64 con, .int .i64 dgs, .int .i64 gua, .int .i64 frm, .int .i64 til, .slice Ap lp.length cp, .slice Aq lq.length cq, .slice At lt.length ct, .bool mb] 62)); have J3 := Lib.hid ((J0.out.bl hb).alloc (.cells #[.int .i64 con, .int .i64 dgs, .int .i64 gua, .int .i64 frm, .int .i64 til, .slice Ap lp.length cp, .slice Aq lq.length cq, .slice At lt.length ct, .bool mb] 62)); have G3 := Lib.hid ((G0.out.trans hb).alloc (.cells #[.int .i64 con, .int .i64 dgs, .int .i64 gua, .int .i64 frm, .int .i64 til, .slice Ap lp.length cp, .slice Aq lq.length cq, .slice At lt.length ct, .bool mb] 62)); have zf := Z3.out.free; have z0 := Z3.out.cell 0 rfl; have z1 := Z3.out.cell 1 rfl; have z2 := Z3.out.cell 2 rfl; have z3 := Z3.out.cell 3 rfl; have z4 := Z3.out.cell 4 rfl; have z5 := Z3.out.cell 5 rfl; have zf := Z3.out.free; have j0 := J3.out.cell 0 rfl; have j1 := J3.out.cell 1 rfl; have j2 := J3.out.cell 2 rfl; clear hp hq ht hb; (try dsimp only [recV]))
    (try simp only [Exit.inBlock, Exit.then])
    exact post_par 11 0 0 (.slice none 0 0) (.slice none 0 0) (.slice none 0 0) false [] [] [] rfl rfl rfl rfl Z3.out 0 0 0 HX.out (Rw.nil _ _) (Rw.nil _ _) (Rw.nil _ _) G3.out LB.out rfl
  · have HX := Lib.hid (HX2.out rfl rfl)
    clear HX0 HX1 HX2
    go_enter Tryd.func15, Tryd.ntmps15
    go_wp2_with (go_at_call 24; (with_reducible refine (KT.out _ (((Bl.refl w).alloc _).alloc _)).mono ?_); rintro e w1 ⟨vp, vq, vt, rfl, hp, hq, ht, hb⟩; obtain ⟨Ap, cp, ep⟩ := rw_open hp rfl; obtain ⟨Aq, cq, eq⟩ := rw_open hq rfl; obtain ⟨At, ct, et⟩ := rw_open ht rfl; dsimp only at ep eq et hp hq ht; subst ep; subst eq; subst et; have Z3 := Lib.hid ((Z0.out.bl hb).alloc (.cells #[.int .i64 con, .int .i64 dgs, .int .i64 gua, .int .i64 frm, .int .i64 til, .slice Ap lp.length cp, .slice Aq lq.length cq, .slice At lt.length ct, .bool mb] 62)); have J3 := Lib.hid ((J0.out.bl hb).alloc (.cells #[.int .i64 con, .int .i64 dgs, .int .i64 gua, .int .i64 frm, .int .i64 til, .slice Ap lp.length cp, .slice Aq lq.length cq, .slice At lt.length ct, .bool mb] 62)); have G3 := Lib.hid ((G0.out.trans hb).alloc (.cells #[.int .i64 con, .int .i64 dgs, .int .i64 gua, .int .i64 frm, .int .i64 til, .slice Ap lp.length cp, .slice Aq lq.length cq, .slice At lt.length ct, .bool mb] 62)); have HP := Lib.hid (hp.bl ((Bl.refl _).alloc (.cells #[.int .i64 con, .int .i64 dgs, .int .i64 gua, .int .i64 frm, .int .i64 til, .slice Ap lp.length cp, .slice Aq lq.length cq, .slice At lt.length ct, .bool mb] 62))); have HQ := Lib.hid (hq.bl ((Bl.refl _).alloc (.cells #[.int .i64 con, .int .i64 dgs, .int .i64 gua, .int .i64 frm, .int .i64 til, .slice Ap lp.length cp, .slice Aq lq.length cq, .slice At lt.length ct, .bool mb] 62))); have HT := Lib.hid (ht.bl ((Bl.refl _).alloc (.cells #[.int .i64 con, .int .i64 dgs, .int .i64 gua, .int .i64 frm, .int .i64 til, .slice Ap lp.length cp, .slice Aq lq.length cq, .slice At lt.length ct, .bool mb] 62))); have z0 := Z3.out.cell 0 rfl; have z1 := Z3.out.cell 1 rfl; have z2 := Z3.out.cell 2 rfl; have z3 := Z3.out.cell 3 rfl; have z4 := Z3.out.cell 4 rfl; have z5 := Z3.out.cell 5 rfl; have zf := Z3.out.free; have j0 := J3.out.cell 0 rfl; have j1 := J3.out.cell 1 rfl; have j2 := J3.out.cell 2 rfl; clear hp hq ht hb; (try dsimp only [recV]))
    (try simp only [Exit.inBlock, Exit.then])
    exact post_par 0 frm til (.slice Ap lp.length cp) (.slice Aq lq.length cq) (.slice At lt.length ct) mb lp lq lt rfl rfl rfl rfl Z3.out con dgs gua HX.out HP.out HQ.out HT.out G3.out LB.out rfl

set_option maxRecDepth 100000 in
set_option maxHeartbeats 2000000 in
theorem rof_any (s : List Nat) (jc jd jg : Int) (ha : All 256 s) (hl : s.length ≤ 140737488355328) (w : World) :
    Calls Tryd.prog 16 #[.string (bs s), .agg #[.int .i64 jc, .int .i64 jd, .int .i64 jg]] w (ParEnd w (ofE jc jd jg (decB s))) := by
  have KT : Hid (∀ W, Bl w W → Calls Tryd.prog 25 #[.string (bs s)] W (RecEnd W (decB s))) := fun W g => rtake_any s ha hl W
  have hbad := dec_bad s
  obtain ⟨X, eX⟩ : ∃ X, decB s = X := ⟨_, rfl⟩
  obtain ⟨S, eS⟩ : ∃ S, bs s = S := ⟨_, rfl⟩
  rw [eX] at KT hbad ⊢
  rw [eS] at KT ⊢
  clear eX eS ha hl
  obtain ⟨n, con, dgs, gua, frm, til, lp, lq, lt, mb⟩ := X
  dsimp only at hbad
  have xn := fun W => neq_job con dgs gua jc jd jg W
  obtain ⟨same, es⟩ : ∃ b, (con == jc && dgs == jd && gua == jg) = b := ⟨_, rfl⟩
  simp only [es] at xn
  have HX0 : Hid (n ≠ 0 → ofE jc jd jg (n, ⟨con, dgs, gua, frm, til, lp, lq, lt, mb⟩) = (n, rc0)) := fun h => by unfold ofE; rw [if_pos h]
  have HX1 : Hid (n = 0 → same = false → ofE jc jd jg (n, ⟨con, dgs, gua, frm, til, lp, lq, lt, mb⟩) = (11, rc0)) := fun h h' => by unfold ofE; rw [if_neg (by simp [h])]; dsimp only; rw [es, h']; rfl
  have HX2 : Hid (n = 0 → same = true → ofE jc jd jg (n, ⟨con, dgs, gua, frm, til, lp, lq, lt, mb⟩) = (0, ⟨con, dgs, gua, frm, til, lp, lq, lt, mb⟩)) := fun h h' => by unfold ofE; rw [if_neg (by simp [h])]; dsimp only; rw [es, h']; rfl
  obtain ⟨Y, eY⟩ : ∃ Y, ofE jc jd jg (n, ⟨con, dgs, gua, frm, til, lp, lq, lt, mb⟩) = Y := ⟨_, rfl⟩
  rw [eY] at HX0 HX1 HX2 ⊢
  clear eY es hbad
  have J0 := Lib.hid ((Bq.new w 26 [.int .i64 jc, .int .i64 jd, .int .i64 jg]).alloc (.cells nilP.toArray 43))
  have Z0 : Hid (Bq ((w.alloc (.cells #[.int .i64 jc, .int .i64 jd, .int .i64 jg] 26)).alloc (.cells nilP.toArray 43)) (w.heap.size + 1) 43 nilP) := by
    have := Bq.new (w.alloc (.cells #[.int .i64 jc, .int .i64 jd, .int .i64 jg] 26)) 43 nilP
    rwa [show (w.alloc (.cells #[.int .i64 jc, .int .i64 jd, .int .i64 jg] 26)).heap.size = w.heap.size + 1 by simp] at this
  have G0 : Hid (Bl w ((w.alloc (.cells #[.int .i64 jc, .int .i64 jd, .int .i64 jg] 26)).alloc (.cells nilP.toArray 43))) := ((Bl.refl w).alloc _).alloc _
  have LB : Hid (w.heap.size ≤ w.heap.size + 1) := Nat.le_succ _
  have hways : (n ≠ 0) ∨ (n = 0 ∧ same = false) ∨ (n = 0 ∧ same = true) := by
    by_cases h : n = 0
    · cases same
      · exact Or.inr (Or.inl ⟨h, rfl⟩)
      · exact Or.inr (Or.inr ⟨h, rfl⟩)
    · exact Or.inl h
  rcases hways with hn | ⟨rfl, rfl⟩ | ⟨rfl, rfl⟩
  · have t0 : ((n : Int) != 0) = true := by rw [bne_iff_ne]; omega
    have HX := Lib.hid (HX0.out hn)
    clear HX0 HX1 HX2 hn
    go_enter Tryd.func16, Tryd.ntmps16
    go_wp2_with (go_at_call 25; (with_reducible refine (KT.out _ (((Bl.refl w).alloc _).alloc _)).mono ?_); rintro e w1 ⟨vp, vq, vt, rfl, hp, hq, ht, hb⟩; obtain ⟨Ap, cp, ep⟩ := rw_open hp rfl; obtain ⟨Aq, cq, eq⟩ := rw_open hq rfl; obtain ⟨At, ct, et⟩ := rw_open ht rfl; dsimp only at ep eq et hp hq ht; subst ep; subst eq; subst et; have Z3 := Lib.hid ((Z0.out.bl hb).alloc (.cells #[.int .i64 con, .int .i64 dgs, .int .i64 gua, .int .i64 frm, .int .i64 til, .slice Ap lp.length cp, .slice Aq lq.length cq, .slice At lt.length ct, .bool mb] 62)); have J3 := Lib.hid ((J0.out.bl hb).alloc (.cells #[.int .i64 con, .int .i64 dgs, .int .i64 gua, .int .i64 frm, .int .i64 til, .slice Ap lp.length cp, .slice Aq lq.length cq, .slice At lt.length ct, .bool mb] 62)); have G3 := Lib.hid ((G0.out.trans hb).alloc (.cells #[.int .i64 con, .int .i64 dgs, .int .i64 gua, .int .i64 frm, .int .i64 til, .slice Ap lp.length cp, .slice Aq lq.length cq, .slice At lt.length ct, .bool mb] 62)); have zf := Z3.out.free; have z0 := Z3.out.cell 0 rfl; have z1 := Z3.out.cell 1 rfl; have z2 := Z3.out.cell 2 rfl; have z3 := Z3.out.cell 3 rfl; have z4 := Z3.out.cell 4 rfl; have z5 := Z3.out.cell 5 rfl; have zf := Z3.out.free; have j0 := J3.out.cell 0 rfl; have j1 := J3.out.cell 1 rfl; have j2 := J3.out.cell 2 rfl; clear hp hq ht hb; (try dsimp only [recV]))
    (try simp only [Exit.inBlock, Exit.then])
    exact post_par n 0 0 (.slice none 0 0) (.slice none 0 0) (.slice none 0 0) false [] [] [] rfl rfl rfl rfl Z3.out 0 0 0 HX.out (Rw.nil _ _) (Rw.nil _ _) (Rw.nil _ _) G3.out LB.out rfl
  · have HX := Lib.hid (HX1.out rfl rfl)
    clear HX0 HX1 HX2
    go_enter Tryd.func16, Tryd.ntmps16
    go_wp2_with (go_at_call 25; (with_reducible refine (KT.out _ (((Bl.refl w).alloc _).alloc _)).mono ?_); rintro e w1 ⟨vp, vq, vt, rfl, hp, hq, ht, hb⟩; obtain ⟨Ap, cp, ep⟩ := rw_open hp rfl; obtain ⟨Aq, cq, eq⟩ := rw_open hq rfl; obtain ⟨At, ct, et⟩ := rw_open ht rfl; dsimp only at ep eq et hp hq ht; subst ep; subst eq; subst et; have Z3 := Lib.hid ((Z0.out.bl hb).alloc (.cells #[.int .i64 con, .int .i64 dgs, .int .i64 gua, .int .i64 frm, .int .i64 til, .slice Ap lp.length cp, .slice Aq lq.length cq, .slice At lt.length ct, .bool mb] 62)); have J3 := Lib.hid ((J0.out.bl hb).alloc (.cells #[.int .i64 con, .int .i64 dgs, .int .i64 gua, .int .i64 frm, .int .i64 til, .slice Ap lp.length cp, .slice Aq lq.length cq, .slice At lt.length ct, .bool mb] 62)); have G3 := Lib.hid ((G0.out.trans hb).alloc (.cells #[.int .i64 con, .int .i64 dgs, .int .i64 gua, .int .i64 frm, .int .i64 til, .slice Ap lp.length cp, .slice Aq lq.length cq, .slice At lt.length ct, .bool mb] 62)); have zf := Z3.out.free; have z0 := Z3.out.cell 0 rfl; have z1 := Z3.out.cell 1 rfl; have z2 := Z3.out.cell 2 rfl; have z3 := Z3.out.cell 3 rfl; have z4 := Z3.out.cell 4 rfl; have z5 := Z3.out.cell 5 rfl; have zf := Z3.out.free; have j0 := J3.out.cell 0 rfl; have j1 := J3.out.cell 1 rfl; have j2 := J3.out.cell 2 rfl; clear hp hq ht hb; (try dsimp only [recV]))
    (try simp only [Exit.inBlock, Exit.then])
    exact post_par 11 0 0 (.slice none 0 0) (.slice none 0 0) (.slice none 0 0) false [] [] [] rfl rfl rfl rfl Z3.out 0 0 0 HX.out (Rw.nil _ _) (Rw.nil _ _) (Rw.nil _ _) G3.out LB.out rfl
  · have HX := Lib.hid (HX2.out rfl rfl)
    clear HX0 HX1 HX2
    go_enter Tryd.func16, Tryd.ntmps16
    go_wp2_with (go_at_call 25; (with_reducible refine (KT.out _ (((Bl.refl w).alloc _).alloc _)).mono ?_); rintro e w1 ⟨vp, vq, vt, rfl, hp, hq, ht, hb⟩; obtain ⟨Ap, cp, ep⟩ := rw_open hp rfl; obtain ⟨Aq, cq, eq⟩ := rw_open hq rfl; obtain ⟨At, ct, et⟩ := rw_open ht rfl; dsimp only at ep eq et hp hq ht; subst ep; subst eq; subst et; have Z3 := Lib.hid ((Z0.out.bl hb).alloc (.cells #[.int .i64 con, .int .i64 dgs, .int .i64 gua, .int .i64 frm, .int .i64 til, .slice Ap lp.length cp, .slice Aq lq.length cq, .slice At lt.length ct, .bool mb] 62)); have J3 := Lib.hid ((J0.out.bl hb).alloc (.cells #[.int .i64 con, .int .i64 dgs, .int .i64 gua, .int .i64 frm, .int .i64 til, .slice Ap lp.length cp, .slice Aq lq.length cq, .slice At lt.length ct, .bool mb] 62)); have G3 := Lib.hid ((G0.out.trans hb).alloc (.cells #[.int .i64 con, .int .i64 dgs, .int .i64 gua, .int .i64 frm, .int .i64 til, .slice Ap lp.length cp, .slice Aq lq.length cq, .slice At lt.length ct, .bool mb] 62)); have HP := Lib.hid (hp.bl ((Bl.refl _).alloc (.cells #[.int .i64 con, .int .i64 dgs, .int .i64 gua, .int .i64 frm, .int .i64 til, .slice Ap lp.length cp, .slice Aq lq.length cq, .slice At lt.length ct, .bool mb] 62))); have HQ := Lib.hid (hq.bl ((Bl.refl _).alloc (.cells #[.int .i64 con, .int .i64 dgs, .int .i64 gua, .int .i64 frm, .int .i64 til, .slice Ap lp.length cp, .slice Aq lq.length cq, .slice At lt.length ct, .bool mb] 62))); have HT := Lib.hid (ht.bl ((Bl.refl _).alloc (.cells #[.int .i64 con, .int .i64 dgs, .int .i64 gua, .int .i64 frm, .int .i64 til, .slice Ap lp.length cp, .slice Aq lq.length cq, .slice At lt.length ct, .bool mb] 62))); have z0 := Z3.out.cell 0 rfl; have z1 := Z3.out.cell 1 rfl; have z2 := Z3.out.cell 2 rfl; have z3 := Z3.out.cell 3 rfl; have z4 := Z3.out.cell 4 rfl; have z5 := Z3.out.cell 5 rfl; have zf := Z3.out.free; have j0 := J3.out.cell 0 rfl; have j1 := J3.out.cell 1 rfl; have j2 := J3.out.cell 2 rfl; clear hp hq ht hb; (try dsimp only [recV]))
    (try simp only [Exit.inBlock, Exit.then])
    exact post_par 0 frm til (.slice Ap lp.length cp) (.slice Aq lq.length cq) (.slice At lt.length ct) mb lp lq lt rfl rfl rfl rfl Z3.out con dgs gua HX.out HP.out HQ.out HT.out G3.out LB.out rfl
end Go.Proofs.YtdaglbjdgdokpaaDoor
