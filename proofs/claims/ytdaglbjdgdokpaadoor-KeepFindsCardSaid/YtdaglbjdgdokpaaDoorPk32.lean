/-
  Package crc: Take.
-/
import Derived.Test.YtdaglbjdgdokpaaDoorPk30
import Derived.Test.YtdaglbjdgdokpaaDoorPk31
namespace Go.Proofs.YtdaglbjdgdokpaaDoor
open Go.RowKit
set_option linter.unusedVariables false
set_option linter.unusedSimpArgs false

/-- The package's variable of reflectlite's handle on error holds it. -/
def ErrT (w : World) : Prop := w.cell? ⟨0, 0, none⟩ = some (.iface 119 (hnd 72))
theorem ErrT.bl {w w' : World} (h : ErrT w) (g : Bl w w') : ErrT w' := (g.cell (p := ⟨0, 0, none⟩) (World.block_lt_of_cell? w _ h)).trans h
theorem ErV.none {n : Nat} {v : Value} (h : ErV n v) (hn : n = 0) : v = .nilIface := by
  rcases h with ⟨_, h⟩ | ⟨h, _⟩
  · exact h
  · exact absurd hn h
theorem ErV.some {n : Nat} {v : Value} (h : ErV n v) (hn : n ≠ 0) : ∃ s : ByteArray, v = .iface 93 (.agg #[.string s, .iface 75 (.int .i64 (n : Int))]) := by
  rcases h with ⟨h, _⟩ | ⟨_, h⟩
  · exact absurd h hn
  · exact h
theorem bq_at {W : World} {b : Nat} {t : TypeId} {cs : List Value} (hb : b = W.heap.size) : Bq (W.alloc (.cells cs.toArray t)) b t cs := by subst hb; exact Bq.new W t cs
theorem RecEnd.some {W w : World} {x : Nat × Rc} {con dgs gua frm til : Int} {vp vq vt : Value} {minus : Bool} {lp lq lt : List Nat} (h0 : x.1 = 0) (hx : x.1 = 0 → (⟨con, dgs, gua, frm, til, lp, lq, lt, minus⟩ : Rc) = x.2) (rp : Rw .u64 w vp lp) (rq : Rw .u64 w vq lq) (rt : Rw .u64 w vt lt) (hg : Bl W w) :
    RecEnd W x (.returned (.tuple #[.agg #[.int .i64 con, .int .i64 dgs, .int .i64 gua, .int .i64 frm, .int .i64 til, vp, vq, vt, .bool minus], .int .i64 0])) w := by
  obtain ⟨n, r⟩ := x
  dsimp only at h0 hx
  subst h0
  obtain rfl := hx rfl
  exact ⟨vp, vq, vt, rfl, rp, rq, rt, hg⟩
theorem post_rec0 {W w0 w' : World} {fn : Func} {p u : Tmp} {b : Nat} {a : Act} {x : Nat × Rc} (con dgs gua frm til : Int) (vp vq vt : Value) (minus : Bool) (lp lq lt : List Nat) (h : fn.results = #[.cell p 62, .tmp u]) (hp : a.tmps.getD p undef = .pointer (some ⟨b, 0, none⟩)) (hu : a.tmps.getD u undef = .int .i64 0) (hd : a.defers = [])
    (hb : Bq w0 b 62 nilC) (h0 : x.1 = 0) (hx : x.1 = 0 → (⟨con, dgs, gua, frm, til, lp, lq, lt, minus⟩ : Rc) = x.2) (rp : Rw .u64 w0 vp lp) (rq : Rw .u64 w0 vq lq) (rt : Rw .u64 w0 vt lt) (hg : Bl W w0) (hbb : W.heap.size ≤ b)
    (hw : w' = set9 w0 b (recC con dgs gua frm til vp vq vt minus)) : bodyPost Tryd.prog fn (RecEnd W x) .ret a w' := by
  subst hw
  exact bodyPost_ret (ret_rec h hp hu (rec_set hb con dgs gua frm til vp vq vt minus)) hd (RecEnd.some h0 hx (rw_set9 rp hb _) (rw_set9 rq hb _) (rw_set9 rt hb _) (bl_set9 hg hbb _))
theorem post_nd {W w w' : World} {fn : Func} {p u : Tmp} {b : Nat} {a : Act} {x : Nat × Rc} {n : Nat} (h : fn.results = #[.cell p 62, .tmp u]) (hx : x = (n, rc0)) (hp : a.tmps.getD p undef = .pointer (some ⟨b, 0, none⟩)) (hu : a.tmps.getD u undef = .int .i64 (n : Int)) (hd : a.defers = [])
    (hb : Bq w b 62 nilC) (hg : Bl W w) (hbb : W.heap.size ≤ b) (hw : w' = (set9 w b nilC).drew) : bodyPost Tryd.prog fn (RecEnd W x) .ret a w' := by
  subst hw
  exact bodyPost_ret (ret_rec h hp hu (nilC_set hb).drew) hd (RecEnd.none hx (bl_set9 hg hbb _).drew)
set_option maxRecDepth 100000 in
set_option maxHeartbeats 1000000 in
theorem ptake_any (s : List Nat) (ha : All 256 s) (hl : s.length ≤ 281474976710656) (w : World) (hE : ErrT w) :
    Calls Tryd.prog 24 #[.string (bs s)] w (RecEnd w (decB s)) := by
  have KO := Lib.hid (fun W => popened_any s ha hl W)
  have hbad := dec_bad s
  obtain ⟨X, eX⟩ : ∃ X, decB s = X := ⟨_, rfl⟩
  obtain ⟨S, eS⟩ : ∃ S, bs s = S := ⟨_, rfl⟩
  rw [eX] at KO hbad ⊢
  rw [eS] at KO ⊢
  have HE := Lib.hid hE
  clear eX eS hE ha hl
  by_cases h0 : X.1 = 0
  · have H0 := Lib.hid h0
    clear h0 hbad
    go_enter Tryd.func24, Tryd.ntmps24
    go_wp2_with (first
      | (go_at_call 33; (with_reducible refine (KO.out _).mono ?_); rintro e w1 ⟨⟨con, dgs, gua, frm, til, lp, lq, lt, mb⟩, vp, vq, vt, ve, rfl, hev, hx, hp, hq, ht, hb⟩; obtain rfl := hev.none H0.out; obtain ⟨Ap, cp, ep⟩ := rw_open hp rfl; obtain ⟨Aq, cq, eq⟩ := rw_open hq rfl; obtain ⟨At, ct, et⟩ := rw_open ht rfl; dsimp only at ep eq et hp hq ht; subst ep; subst eq; subst et; have HXX := Lib.hid hx; have HP := Lib.hid hp; have HQ := Lib.hid hq; have HT := Lib.hid ht; have G1 := Lib.hid (((Bl.refl w).alloc _).trans hb); have Q1 := Lib.hid ((Bq.new w 62 nilC).bl hb); have Q3 := Lib.hid ((Q1.out.alloc (.cells #[.int .i64 con, .int .i64 dgs, .int .i64 gua, .int .i64 frm, .int .i64 til, .slice Ap lp.length cp, .slice Aq lq.length cq, .slice At lt.length ct, .bool mb] 62)).alloc (.cells #[.int .i64 0] 75)); have G3 := Lib.hid ((G1.out.alloc (.cells #[.int .i64 con, .int .i64 dgs, .int .i64 gua, .int .i64 frm, .int .i64 til, .slice Ap lp.length cp, .slice Aq lq.length cq, .slice At lt.length ct, .bool mb] 62)).alloc (.cells #[.int .i64 0] 75)); have q0 := Q3.out.cell 0 rfl; have q1 := Q3.out.cell 1 rfl; have q2 := Q3.out.cell 2 rfl; have q3 := Q3.out.cell 3 rfl; have q4 := Q3.out.cell 4 rfl; have q5 := Q3.out.cell 5 rfl; have q6 := Q3.out.cell 6 rfl; have q7 := Q3.out.cell 7 rfl; have q8 := Q3.out.cell 8 rfl; have qf := Q3.out.free; clear hev hx hp hq ht hb; (try dsimp only [recV]))
      | (go_at_call 34; (with_reducible refine (pas_nil _ _).mono ?_); rintro e w2 ⟨rfl, rfl⟩))
    (try simp only [Exit.inBlock, Exit.then])
    exact post_rec0 con dgs gua frm til (.slice Ap lp.length cp) (.slice Aq lq.length cq) (.slice At lt.length ct) mb lp lq lt rfl rfl rfl rfl Q3.out H0.out HXX.out ((HP.out.bl ((Bl.refl _).alloc _)).bl ((Bl.refl _).alloc _)) ((HQ.out.bl ((Bl.refl _).alloc _)).bl ((Bl.refl _).alloc _)) ((HT.out.bl ((Bl.refl _).alloc _)).bl ((Bl.refl _).alloc _)) G3.out (Nat.le_refl _) rfl
  · have H0 := Lib.hid h0
    have HX : Hid (X = (X.1, rc0)) := Prod.ext rfl (hbad h0)
    clear h0 hbad
    obtain ⟨n, en⟩ : ∃ n, X.1 = n := ⟨_, rfl⟩
    rw [en] at H0 HX
    have HN := Lib.hid en
    clear en
    go_enter Tryd.func24, Tryd.ntmps24
    go_wp2_with (first
      | (go_at_call 33; (with_reducible refine (KO.out _).mono ?_); rintro e w1 ⟨⟨con, dgs, gua, frm, til, lp, lq, lt, mb⟩, vp, vq, vt, ve, rfl, hev, hx, hp, hq, ht, hb⟩; rw [HN.out] at hev; obtain ⟨sf, rfl⟩ := hev.some H0.out; obtain ⟨Ap, cp, ep⟩ := rw_open hp rfl; obtain ⟨Aq, cq, eq⟩ := rw_open hq rfl; obtain ⟨At, ct, et⟩ := rw_open ht rfl; dsimp only at ep eq et hp hq ht; subst ep; subst eq; subst et; have G1 := Lib.hid (((Bl.refl w).alloc _).trans hb); have Q1 := Lib.hid ((Bq.new w 62 nilC).bl hb); have Q3 := Lib.hid ((Q1.out.alloc (.cells #[.int .i64 con, .int .i64 dgs, .int .i64 gua, .int .i64 frm, .int .i64 til, .slice Ap lp.length cp, .slice Aq lq.length cq, .slice At lt.length ct, .bool mb] 62)).alloc (.cells #[.int .i64 0] 75)); have G3 := Lib.hid ((G1.out.alloc (.cells #[.int .i64 con, .int .i64 dgs, .int .i64 gua, .int .i64 frm, .int .i64 til, .slice Ap lp.length cp, .slice Aq lq.length cq, .slice At lt.length ct, .bool mb] 62)).alloc (.cells #[.int .i64 0] 75)); have NB : Hid (w.heap.size ≠ w1.heap.size + 1) := Nat.ne_of_lt (by have h1 := Q1.out.lt; omega); have LB : Hid (w.heap.size ≤ w1.heap.size + 1) := Nat.le_of_lt (by have h1 := Q1.out.lt; omega); clear hev hx hp hq ht hb; (try dsimp only [recV]))
      | (go_at_call 34; (with_reducible refine (pas_hit _ _ _ _ ?_ ?_).mono ?_); exact HE.out.bl G3.out; exact bq_at (cs := [.int .i64 0]) (by simp); rintro e w5 ⟨rfl, hx5, hT5⟩; have Q5 := Lib.hid (Q3.out.ex hx5 NB.out NB.out); have G5 := Lib.hid (hx5.bl G3.out LB.out LB.out); have T5 := hT5.cell 0 rfl; have T9 := (((((((((hT5.oth 0 (.int .i64 0) NB.out).oth 1 (.int .i64 0) NB.out).oth 2 (.int .i64 0) NB.out).oth 3 (.int .i64 0) NB.out).oth 4 (.int .i64 0) NB.out).oth 5 (.slice none 0 0) NB.out).oth 6 (.slice none 0 0) NB.out).oth 7 (.slice none 0 0) NB.out).oth 8 (.bool false) NB.out).cell 0 rfl; have q0 := Q5.out.cell 0 rfl; have q1 := Q5.out.cell 1 rfl; have q2 := Q5.out.cell 2 rfl; have q3 := Q5.out.cell 3 rfl; have q4 := Q5.out.cell 4 rfl; have q5 := Q5.out.cell 5 rfl; have q6 := Q5.out.cell 6 rfl; have q7 := Q5.out.cell 7 rfl; have q8 := Q5.out.cell 8 rfl; have qf := Q5.out.free; clear hx5 hT5))
    go_region
    all_goals (try go_wp2)
    all_goals (try simp only [Exit.inBlock, Exit.then])
    all_goals exact post_nd rfl HX.out rfl rfl rfl Q5.out G5.out (Nat.le_refl _) rfl
end Go.Proofs.YtdaglbjdgdokpaaDoor
