/-
  The document's Take of layer 14.
-/
import Derived.Test.YtdaglbjdgdokpaaDoorPk16
import Derived.BigQuiet
import Derived.StillTailTactics
import Derived.Test.YtdaglbjdgdokpaaDoorPk10
import Derived.Test.YtdaglbjdgdokpaaDoorPk19
namespace Go.Proofs.YtdaglbjdgdokpaaDoor
open Go.RowKit
set_option linter.unusedVariables false
set_option linter.unusedSimpArgs false

/-- What a call answers that hands back a record and an error. -/
def RecEnd (W : World) (x : Nat × Rc) (e : Ending) (w : World) : Prop := ∃ vp vq vt, e = .returned (.tuple #[recV x.2 vp vq vt, .int .i64 (x.1 : Int)]) ∧ Rw .u64 w vp x.2.p ∧ Rw .u64 w vq x.2.q ∧ Rw .u64 w vt x.2.t ∧ Bl W w
theorem RecEnd.none {W w : World} {x : Nat × Rc} {n : Nat} (hx : x = (n, rc0)) (g : Bl W w) : RecEnd W x (.returned (.tuple #[.agg #[.int .i64 0, .int .i64 0, .int .i64 0, .int .i64 0, .int .i64 0, .slice none 0 0, .slice none 0 0, .slice none 0 0, .bool false], .int .i64 (n : Int)])) w := by
  subst hx; exact ⟨_, _, _, rfl, Rw.nil _ _, Rw.nil _ _, Rw.nil _ _, g⟩

theorem ret_rec {fn : Func} {p u : Tmp} {w : World} {b : Nat} {tmps : Array Value} {v : Value} {con dgs gua frm til : Int} {vp vq vt : Value} {minus : Bool} (h : fn.results = #[.cell p 62, .tmp u]) (hp : tmps.getD p undef = .pointer (some ⟨b, 0, none⟩)) (hu : tmps.getD u undef = v)
    (hb : Bq w b 62 (recC con dgs gua frm til vp vq vt minus)) : (results fn tmps).run Tryd.prog w = .ok (.tuple #[.agg #[.int .i64 con, .int .i64 dgs, .int .i64 gua, .int .i64 frm, .int .i64 til, vp, vq, vt, .bool minus], v]) w := by
  refine ret_cell9 h hp hu ?_
  have c0 := hb.cell 0 rfl
  have c1 := hb.cell 1 rfl
  have c2 := hb.cell 2 rfl
  have c3 := hb.cell 3 rfl
  have c4 := hb.cell 4 rfl
  have c5 := hb.cell 5 rfl
  have c6 := hb.cell 6 rfl
  have c7 := hb.cell 7 rfl
  have c8 := hb.cell 8 rfl
  clear hb hp hu h
  go_simp
/-- What stands in the result's cells if there is an error. -/
def nilC : List Value := recC 0 0 0 0 0 (.slice none 0 0) (.slice none 0 0) (.slice none 0 0) false
theorem nilC_set {w : World} {b : Nat} (h : Bq w b 62 nilC) : Bq (((((((((w.setCell ⟨b, 0, none⟩ (.int .i64 0)).setCell ⟨b, 1, none⟩ (.int .i64 0)).setCell ⟨b, 2, none⟩ (.int .i64 0)).setCell ⟨b, 3, none⟩ (.int .i64 0)).setCell ⟨b, 4, none⟩ (.int .i64 0)).setCell ⟨b, 5, none⟩ (.slice none 0 0)).setCell ⟨b, 6, none⟩ (.slice none 0 0)).setCell ⟨b, 7, none⟩ (.slice none 0 0)).setCell ⟨b, 8, none⟩ (.bool false)) b 62 nilC :=
  ((((((((h.set 0 _).set 1 _).set 2 _).set 3 _).set 4 _).set 5 _).set 6 _).set 7 _).set 8 _
/-- All nine cells are written. -/
def set9 (w : World) (b : Nat) (cs : List Value) : World := (((((((((w.setCell ⟨b, 0, none⟩ (cs.getD 0 undef)).setCell ⟨b, 1, none⟩ (cs.getD 1 undef)).setCell ⟨b, 2, none⟩ (cs.getD 2 undef)).setCell ⟨b, 3, none⟩ (cs.getD 3 undef)).setCell ⟨b, 4, none⟩ (cs.getD 4 undef)).setCell ⟨b, 5, none⟩ (cs.getD 5 undef)).setCell ⟨b, 6, none⟩ (cs.getD 6 undef)).setCell ⟨b, 7, none⟩ (cs.getD 7 undef)).setCell ⟨b, 8, none⟩ (cs.getD 8 undef))
theorem bl_set9 {W w : World} {b : Nat} (h : Bl W w) (hb : W.heap.size ≤ b) (cs : List Value) : Bl W (set9 w b cs) :=
  ((((((((h.setCell (p := ⟨b, 0, none⟩) hb _).setCell (p := ⟨b, 1, none⟩) hb _).setCell (p := ⟨b, 2, none⟩) hb _).setCell (p := ⟨b, 3, none⟩) hb _).setCell (p := ⟨b, 4, none⟩) hb _).setCell (p := ⟨b, 5, none⟩) hb _).setCell (p := ⟨b, 6, none⟩) hb _).setCell (p := ⟨b, 7, none⟩) hb _).setCell (p := ⟨b, 8, none⟩) hb _
/-- The way out with an error: nothing but the result's cells has been written. -/
theorem ret_none {W w w' : World} {fn : Func} {p u : Tmp} {b : Nat} {tmps : Array Value} {x : Nat × Rc} {n : Nat} (h : fn.results = #[.cell p 62, .tmp u]) (hx : x = (n, rc0)) (hp : tmps.getD p undef = .pointer (some ⟨b, 0, none⟩)) (hu : tmps.getD u undef = .int .i64 (n : Int))
    (hb : Bq w b 62 nilC) (hg : Bl W w) (hbb : W.heap.size ≤ b) (hw : w' = w ∨ w' = set9 w b nilC) : ∃ v, (results fn tmps).run Tryd.prog w' = .ok v w' ∧ RecEnd W x (.returned v) w' := by
  rcases hw with rfl | rfl
  · exact ⟨_, ret_rec h hp hu hb, RecEnd.none hx hg⟩
  · exact ⟨_, ret_rec h hp hu (nilC_set hb), RecEnd.none hx (bl_set9 hg hbb _)⟩

theorem rec_set {w : World} {b : Nat} (h : Bq w b 62 nilC) (con dgs gua frm til : Int) (vp vq vt : Value) (minus : Bool) : Bq (set9 w b (recC con dgs gua frm til vp vq vt minus)) b 62 (recC con dgs gua frm til vp vq vt minus) :=
  ((((((((h.set 0 _).set 1 _).set 2 _).set 3 _).set 4 _).set 5 _).set 6 _).set 7 _).set 8 _
theorem rw_set9 {w : World} {b : Nat} {v : Value} {l : List Nat} (h : Rw .u64 w v l) (hb : Bq w b 62 nilC) (cs : List Value) : Rw .u64 (set9 w b cs) v l := by
  have h0 := hb
  have r0 := rw_cellq h (h0.cell 0 rfl) (fun z e => by cases e) (cs.getD 0 undef)
  have h1 := h0.set 0 (cs.getD 0 undef)
  have r1 := rw_cellq r0 (h1.cell 1 rfl) (fun z e => by cases e) (cs.getD 1 undef)
  have h2 := h1.set 1 (cs.getD 1 undef)
  have r2 := rw_cellq r1 (h2.cell 2 rfl) (fun z e => by cases e) (cs.getD 2 undef)
  have h3 := h2.set 2 (cs.getD 2 undef)
  have r3 := rw_cellq r2 (h3.cell 3 rfl) (fun z e => by cases e) (cs.getD 3 undef)
  have h4 := h3.set 3 (cs.getD 3 undef)
  have r4 := rw_cellq r3 (h4.cell 4 rfl) (fun z e => by cases e) (cs.getD 4 undef)
  have h5 := h4.set 4 (cs.getD 4 undef)
  have r5 := rw_cellq r4 (h5.cell 5 rfl) (fun z e => by cases e) (cs.getD 5 undef)
  have h6 := h5.set 5 (cs.getD 5 undef)
  have r6 := rw_cellq r5 (h6.cell 6 rfl) (fun z e => by cases e) (cs.getD 6 undef)
  have h7 := h6.set 6 (cs.getD 6 undef)
  have r7 := rw_cellq r6 (h7.cell 7 rfl) (fun z e => by cases e) (cs.getD 7 undef)
  have h8 := h7.set 7 (cs.getD 7 undef)
  exact rw_cellq r7 (h8.cell 8 rfl) (fun z e => by cases e) (cs.getD 8 undef)
/-- The three rows are laid into the record. -/
abbrev set3 (w : World) (b : Nat) (v1 v2 v3 : Value) : World := ((w.setCell ⟨b, 5, none⟩ v1).setCell ⟨b, 6, none⟩ v2).setCell ⟨b, 7, none⟩ v3
theorem rw_set3 {w : World} {b : Nat} {v : Value} {l : List Nat} {con dgs gua frm til : Int} {minus : Bool} (h : Rw .u64 w v l) (hb : Bq w b 62 (recC con dgs gua frm til (.slice none 0 0) (.slice none 0 0) (.slice none 0 0) minus)) (v1 v2 v3 : Value) : Rw .u64 (set3 w b v1 v2 v3) v l := by
  have r0 := rw_cellq h (hb.cell 5 rfl) (fun z e => by cases e) v1
  have h1 := hb.set 5 v1
  have r1 := rw_cellq r0 (h1.cell 6 rfl) (fun z e => by cases e) v2
  have h2 := h1.set 6 v2
  exact rw_cellq r1 (h2.cell 7 rfl) (fun z e => by cases e) v3
theorem rec_set3 {w : World} {b : Nat} {con dgs gua frm til : Int} {minus : Bool} (hb : Bq w b 62 (recC con dgs gua frm til (.slice none 0 0) (.slice none 0 0) (.slice none 0 0) minus)) (v1 v2 v3 : Value) : Bq (set3 w b v1 v2 v3) b 62 (recC con dgs gua frm til v1 v2 v3 minus) :=
  ((hb.set 5 _).set 6 _).set 7 _
theorem oth_set3 {w : World} {b g : Nat} {t : TypeId} {cs : List Value} (h : Bq w g t cs) (hne : b ≠ g) (v1 v2 v3 : Value) : Bq (set3 w b v1 v2 v3) g t cs := ((h.oth _ _ hne).oth _ _ hne).oth _ _ hne
theorem bl_set3 {W w : World} {b : Nat} (h : Bl W w) (hb : W.heap.size ≤ b) (v1 v2 v3 : Value) : Bl W (set3 w b v1 v2 v3) :=
  ((h.setCell (p := ⟨b, 5, none⟩) hb _).setCell (p := ⟨b, 6, none⟩) hb _).setCell (p := ⟨b, 7, none⟩) hb _

/-- What tkBody gives, way by way. -/
theorem tkb_minus {b : List Nat} (h : ¬ b.length < 18) (hm : 1 < b.getD 17 0) : tkBody b = (6, rc0) := by unfold tkBody; rw [if_neg h, if_pos hm]
theorem tkb_one {b l1 r1 : List Nat} {e1 : Nat} (h : ¬ b.length < 18) (hm : ¬ 1 < b.getD 17 0) (x1 : tkRow (b.drop 18) = (e1, l1, r1)) (he : e1 ≠ 0) : tkBody b = (e1, rc0) := by
  unfold tkBody; rw [if_neg h, if_neg hm, x1]; dsimp only; rw [if_pos he]
theorem tkb_two {b l1 r1 l2 r2 : List Nat} {e2 : Nat} (h : ¬ b.length < 18) (hm : ¬ 1 < b.getD 17 0) (x1 : tkRow (b.drop 18) = (0, l1, r1)) (x2 : tkRow r1 = (e2, l2, r2)) (he : e2 ≠ 0) : tkBody b = (e2, rc0) := by
  unfold tkBody; rw [if_neg h, if_neg hm, x1]; dsimp only; rw [if_neg (by decide), x2]; dsimp only; rw [if_pos he]
theorem tkb_three {b l1 r1 l2 r2 l3 r3 : List Nat} {e3 : Nat} (h : ¬ b.length < 18) (hm : ¬ 1 < b.getD 17 0) (x1 : tkRow (b.drop 18) = (0, l1, r1)) (x2 : tkRow r1 = (0, l2, r2)) (x3 : tkRow r2 = (e3, l3, r3)) (he : e3 ≠ 0) : tkBody b = (e3, rc0) := by
  unfold tkBody; rw [if_neg h, if_neg hm, x1]; dsimp only; rw [if_neg (by decide), x2]; dsimp only; rw [if_neg (by decide), x3]; dsimp only; rw [if_pos he]
theorem tkb_left {b l1 r1 l2 r2 l3 r3 : List Nat} (h : ¬ b.length < 18) (hm : ¬ 1 < b.getD 17 0) (x1 : tkRow (b.drop 18) = (0, l1, r1)) (x2 : tkRow r1 = (0, l2, r2)) (x3 : tkRow r2 = (0, l3, r3)) (hr : 0 < r3.length) : tkBody b = (6, rc0) := by
  unfold tkBody; rw [if_neg h, if_neg hm, x1]; dsimp only; rw [if_neg (by decide), x2]; dsimp only; rw [if_neg (by decide), x3]; dsimp only; rw [if_neg (by decide), if_pos hr]
theorem tkb_end {b l1 r1 l2 r2 l3 r3 : List Nat} {c d g f t m : Nat} (h : ¬ b.length < 18) (hm : ¬ 1 < b.getD 17 0) (x1 : tkRow (b.drop 18) = (0, l1, r1)) (x2 : tkRow r1 = (0, l2, r2)) (x3 : tkRow r2 = (0, l3, r3)) (hr : ¬ 0 < r3.length)
    (hc : b.getD 0 0 = c) (hd : bnum (seg b 1 5) = d) (hg : bnum (seg b 5 9) = g) (hf : bnum (seg b 9 13) = f) (ht : bnum (seg b 13 17) = t) (hmm : b.getD 17 0 = m) :
    tkBody b = if (⟨(c : Int), (d : Int), (g : Int), (f : Int), (t : Int), l1, l2, l3, decide (m = 1)⟩ : Rc).May then (0, ⟨(c : Int), (d : Int), (g : Int), (f : Int), (t : Int), l1, l2, l3, decide (m = 1)⟩) else (1, rc0) := by
  subst hc; subst hd; subst hg; subst hf; subst ht; subst hmm
  unfold tkBody; rw [if_neg h, if_neg hm, x1]; dsimp only; rw [if_neg (by decide), x2]; dsimp only; rw [if_neg (by decide), x3]; dsimp only; rw [if_neg (by decide), if_neg hr]
theorem tkr_all {s l r : List Nat} (ha : All 256 s) (h : tkRow s = (0, l, r)) : All 256 r ∧ r.length ≤ s.length := by
  obtain ⟨e, _, _⟩ := tkRow_of ha h
  have h1 := all_dropc ha (rowB l).length
  rw [e, drop_at rfl] at h1
  refine ⟨h1, ?_⟩
  rw [e, List.length_append]; omega
theorem taly_beq {l : List Nat} (h : All 256 l) : ((bs l).toList == ([84, 65, 76, 89] : List UInt8)) = decide (l = taly) := by
  have e := bs_beq h taly_all
  rw [bs_list taly] at e
  exact e
theorem post_none {W w w' : World} {fn : Func} {p u : Tmp} {b : Nat} {a : Act} {x : Nat × Rc} {n : Nat} (h : fn.results = #[.cell p 62, .tmp u]) (hx : x = (n, rc0)) (hp : a.tmps.getD p undef = .pointer (some ⟨b, 0, none⟩)) (hu : a.tmps.getD u undef = .int .i64 (n : Int)) (hd : a.defers = [])
    (hb : Bq w b 62 nilC) (hg : Bl W w) (hbb : W.heap.size ≤ b) (hw : w' = w ∨ w' = set9 w b nilC) : bodyPost Tryd.prog fn (RecEnd W x) .ret a w' := by
  obtain ⟨v, h1, h2⟩ := ret_none h hx hp hu hb hg hbb hw
  exact bodyPost_ret h1 hd h2
set_option maxRecDepth 100000 in
set_option maxHeartbeats 4000000 in
theorem rtake_any (s : List Nat) (ha : All 256 s) (hl : s.length ≤ 140737488355328) (w : World) :
    Calls Tryd.prog 25 #[.string (bs s)] w (RecEnd w (decB s)) := by
  have hz := bs_size s
  have hsl : ((bs s).size : Int) ≤ 140737488355328 := by omega
  by_cases h8 : s.length < 8
  · have HE : Hid (decB s = (5, rc0)) := by show _ = _; unfold decB; rw [if_pos h8]
    have d0 : decide (((bs s).size : Int) < 8) = true := decide_eq_true (by omega)
    have d1 : decide ((bs s).size < 8) = true := decide_eq_true (by omega)
    obtain ⟨S, hS⟩ : ∃ S, bs s = S := ⟨_, rfl⟩
    rw [hS] at d0 d1 hsl ⊢
    clear hz h8 hS
    go_enter Tryd.func25, Tryd.ntmps25
    go_wp2
    (try simp only [Exit.inBlock, Exit.then])
    exact post_none rfl HE.out rfl rfl rfl (Bq.new w 62 nilC) ((Bl.refl _).alloc _) (Nat.le_refl _) (Or.inl rfl)
  · have d0 : decide (((bs s).size : Int) < 8) = false := decide_eq_false (by omega)
    have d1 : decide ((bs s).size < 8) = false := decide_eq_false (by omega)
    obtain ⟨n, hn⟩ : ∃ n, s.length - 4 = n := ⟨_, rfl⟩
    have x1 : (bs s).extract n (bs s).size = bs (s.drop n) := by rw [bs_extract, hz]; unfold seg; rw [List.take_length]
    have x2 : (bs s).extract 0 n = bs (s.take n) := by rw [bs_extract]; rfl
    have b1 : (0 : Int) ≤ (n : Int) ∧ (n : Int) ≤ ((bs s).size : Int) := by omega
    have r1 : ((bs s).size : Int) - 4 = (n : Int) := by omega
    have K1 := Lib.hid (fun w => rnumber_any (s.drop n) (all_dropc ha n) (by rw [List.length_drop]; omega) w)
    have K2 := Lib.hid (fun w => rsum_any (s.take n) (all_take ha n) (by rw [List.length_take]; omega) w)
    have hb1 := bnum_lt8 (all_dropc ha n) (by rw [List.length_drop]; omega)
    have hb2 := crSum_lt (s.take n)
    have HE : Hid (decB s = if bnum (s.drop n) ≠ crSum (s.take n) then (7, rc0) else if s.take 4 ≠ taly then (6, rc0) else tkBody (seg s 4 n)) := by show _ = _; unfold decB; rw [if_neg h8, hn]
    obtain ⟨x, hx⟩ : ∃ x, bnum (s.drop n) = x := ⟨_, rfl⟩
    obtain ⟨y, hy⟩ : ∃ x, crSum (s.take n) = x := ⟨_, rfl⟩
    rw [hx] at K1 hb1 HE
    rw [hy] at K2 hb2 HE
    have w1 : IntKind.u64.wrap (y : Int) = (y : Int) := wrapN _ (by omega)
    obtain ⟨X, hX⟩ : ∃ X, decB s = X := ⟨_, rfl⟩
    rw [hX] at HE ⊢
    obtain ⟨S, hS⟩ : ∃ S, bs s = S := ⟨_, rfl⟩
    obtain ⟨T1, hT1⟩ : ∃ S, bs (s.drop n) = S := ⟨_, rfl⟩
    obtain ⟨T2, hT2⟩ : ∃ S, bs (s.take n) = S := ⟨_, rfl⟩
    rw [hT1] at K1 x1
    rw [hT2] at K2 x2
    have HS := Lib.hid hS
    rw [hS] at d0 d1 hsl x1 x2 b1 r1 ⊢
    have nb : (n : Int) ≤ 140737488355328 := by omega
    by_cases hne : x = y
    · have t0 : ((x : Int) != (y : Int)) = false := by rw [bne_eq_false_iff_eq]; omega
      rw [if_neg (by omega)] at HE
      have x4 : S.extract 0 4 = bs (s.take 4) := by rw [← hS, bs_extract]; rfl
      have b4 : (0 : Int) ≤ 4 ∧ (4 : Int) ≤ (S.size : Int) := by rw [← hS]; omega
      have q4 : ((bs (s.take 4)).toList == ([84, 65, 76, 89] : List UInt8)) = decide (s.take 4 = taly) := taly_beq (all_take ha 4)
      obtain ⟨T4, hT4⟩ : ∃ S, bs (s.take 4) = S := ⟨_, rfl⟩
      rw [hT4] at x4 q4
      by_cases htl : s.take 4 = taly
      · rw [decide_eq_true htl] at q4
        rw [if_neg (by rw [htl]; simp)] at HE
        have hsa := seg_all ha 4 n
        have hsn : (seg s 4 n).length = n - 4 := seg_len (by omega)
        have hzb := bs_size (seg s 4 n)
        have x5 : S.extract 4 n = bs (seg s 4 n) := by rw [← hS, bs_extract]
        have b5 : (0 : Int) ≤ 4 ∧ (4 : Int) ≤ (n : Int) := by omega
        have b6 : (4 : Int) ≤ (n : Int) := by omega
        have b7 : (n : Int) ≤ (S.size : Int) := b1.2
        obtain ⟨b, hb⟩ : ∃ b, seg s 4 n = b := ⟨_, rfl⟩
        rw [hb] at hsa hsn hzb x5 HE
        by_cases h18 : b.length < 18
        · have HF : Hid (X = (5, rc0)) := by show _ = _; rw [HE.out]; unfold tkBody; rw [if_pos h18]
          have d18 : decide (((bs b).size : Int) < 18) = true := decide_eq_true (by omega)
          have e18 : decide ((bs b).size < 18) = true := decide_eq_true (by omega)
          have bb : ((bs b).size : Int) ≤ 140737488355328 := by rw [hzb]; omega
          obtain ⟨B, hB⟩ : ∃ B, bs b = B := ⟨_, rfl⟩
          rw [hB] at x5 d18 e18 bb
          clear hz h8 hS hx hy hX hT1 hT2 hb1 hb2 hne hn ha hl hT4 htl hsa hsn hzb hb hB h18
          go_enter Tryd.func25, Tryd.ntmps25
          go_wp2
          go_quiet (first
            | (go_at_call 35; exact quiet_left (K1.out _))
            | (go_at_call 36; exact quiet_left (K2.out _)))
          go_wp2
          (try simp only [Exit.inBlock, Exit.then])
          exact post_none rfl HF.out rfl rfl rfl ((Bq.new w 62 nilC).drewN nq) (((Bl.refl _).alloc _).drewN _) (Nat.le_refl _) (Or.inr rfl)
        · have d18 : decide (((bs b).size : Int) < 18) = false := decide_eq_false (by omega)
          have e18 : decide ((bs b).size < 18) = false := decide_eq_false (by omega)
          have bb : ((bs b).size : Int) ≤ 140737488355328 := by rw [hzb]; omega
          obtain ⟨B, hB⟩ : ∃ B, bs b = B := ⟨_, rfl⟩
          rw [hB] at x5 d18 e18 bb
          clear hz h8 hS hx hy hX hT1 hT2 hb1 hb2 hne hn ha hl hT4 htl hb
          have g0 := fun h' => bs_get hsa 0 (by omega) h'
          have hc0 := hsa 0 (by omega)
          have i0 : (0 : Int) < (B.size : Int) := by rw [← hB]; omega
          have i0n : 0 < B.size := by omega
          have y1 : B.extract 1 5 = bs (seg b 1 5) := by rw [← hB, bs_extract]
          have y2 : B.extract 5 9 = bs (seg b 5 9) := by rw [← hB, bs_extract]
          have z1 : (5 : Int) ≤ (B.size : Int) := by rw [← hB]; omega
          have z2 : (9 : Int) ≤ (B.size : Int) := by rw [← hB]; omega
          have N1 := Lib.hid (fun w => rnumber_any (seg b 1 5) (seg_all hsa 1 5) (by rw [seg_len (by omega)]; decide) w)
          have N2 := Lib.hid (fun w => rnumber_any (seg b 5 9) (seg_all hsa 5 9) (by rw [seg_len (by omega)]; decide) w)
          have l1 := bnum_lt (seg_all hsa 1 5)
          have l2 := bnum_lt (seg_all hsa 5 9)
          rw [seg_len (by omega), show 256 ^ (5 - 1) = 4294967296 by decide] at l1
          rw [seg_len (by omega), show 256 ^ (9 - 5) = 4294967296 by decide] at l2
          have HC : Hid (b.getD 0 0 = b[0]'(by omega)) := by show _ = _; simp [show 0 < b.length by omega]
          rw [hB] at g0
          obtain ⟨c, hc⟩ : ∃ c, b[0]'(by omega) = c := ⟨_, rfl⟩
          rw [hc] at g0 hc0 HC
          obtain ⟨d, hd⟩ : ∃ c, bnum (seg b 1 5) = c := ⟨_, rfl⟩
          obtain ⟨g, hg⟩ : ∃ c, bnum (seg b 5 9) = c := ⟨_, rfl⟩
          rw [hd] at N1 l1
          rw [hg] at N2 l2
          have HD := Lib.hid hd
          have HG := Lib.hid hg
          obtain ⟨B1, hB1⟩ : ∃ c, bs (seg b 1 5) = c := ⟨_, rfl⟩
          obtain ⟨B2, hB2⟩ : ∃ c, bs (seg b 5 9) = c := ⟨_, rfl⟩
          rw [hB1] at N1 y1
          rw [hB2] at N2 y2
          have cb : (c : Int) ≤ 255 := by omega
          have db : (d : Int) ≤ 4294967295 := by omega
          have gb : (g : Int) ≤ 4294967295 := by omega
          have v1 : IntKind.i64.wrap (c : Int) = (c : Int) := IntWalk.i64_in _ (by omega)
          have v2 : IntKind.i64.wrap (d : Int) = (d : Int) := IntWalk.i64_in _ (by omega)
          have v3 : IntKind.i64.wrap (g : Int) = (g : Int) := IntWalk.i64_in _ (by omega)
          have y3 : B.extract 9 13 = bs (seg b 9 13) := by rw [← hB, bs_extract]
          have y4 : B.extract 13 17 = bs (seg b 13 17) := by rw [← hB, bs_extract]
          have z3 : (13 : Int) ≤ (B.size : Int) := by rw [← hB]; omega
          have z4 : (17 : Int) ≤ (B.size : Int) := by rw [← hB]; omega
          have N3 := Lib.hid (fun w => rnumber_any (seg b 9 13) (seg_all hsa 9 13) (by rw [seg_len (by omega)]; decide) w)
          have N4 := Lib.hid (fun w => rnumber_any (seg b 13 17) (seg_all hsa 13 17) (by rw [seg_len (by omega)]; decide) w)
          have l3 := bnum_lt (seg_all hsa 9 13)
          have l4 := bnum_lt (seg_all hsa 13 17)
          rw [seg_len (by omega), show 256 ^ (13 - 9) = 4294967296 by decide] at l3
          rw [seg_len (by omega), show 256 ^ (17 - 13) = 4294967296 by decide] at l4
          obtain ⟨f, hf⟩ : ∃ c, bnum (seg b 9 13) = c := ⟨_, rfl⟩
          obtain ⟨t, ht⟩ : ∃ c, bnum (seg b 13 17) = c := ⟨_, rfl⟩
          rw [hf] at N3 l3
          rw [ht] at N4 l4
          have HF := Lib.hid hf
          have HT := Lib.hid ht
          obtain ⟨B3, hB3⟩ : ∃ c, bs (seg b 9 13) = c := ⟨_, rfl⟩
          obtain ⟨B4, hB4⟩ : ∃ c, bs (seg b 13 17) = c := ⟨_, rfl⟩
          rw [hB3] at N3 y3
          rw [hB4] at N4 y4
          have fb : (f : Int) ≤ 4294967295 := by omega
          have tb : (t : Int) ≤ 4294967295 := by omega
          have v4 : IntKind.i64.wrap (f : Int) = (f : Int) := IntWalk.i64_in _ (by omega)
          have v5 : IntKind.i64.wrap (t : Int) = (t : Int) := IntWalk.i64_in _ (by omega)
          have g17 := fun h' => bs_get hsa 17 (by omega) h'
          rw [hB] at g17
          have hm0 := hsa 17 (by omega)
          have HM : Hid (b.getD 17 0 = b[17]'(by omega)) := by show _ = _; simp [show 17 < b.length by omega]
          obtain ⟨m, hm⟩ : ∃ c, b[17]'(by omega) = c := ⟨_, rfl⟩
          rw [hm] at g17 hm0 HM
          have mb : (m : Int) ≤ 255 := by omega
          have i17 : (17 : Int) < (B.size : Int) := by rw [← hB]; omega
          have i17n : 17 < B.size := by omega
          clear hf ht hB3 hB4 l3 l4 hm hm0
          have HB := Lib.hid hB
          have HBL := Lib.hid (show ¬ b.length < 18 from h18)
          have HSA := Lib.hid hsa
          clear hc hd hg hB1 hB2 hB l1 l2 hc0 hsa hsn hzb h18
          go_enter Tryd.func25, Tryd.ntmps25
          go_wp2
          go_quiet (first
            | (go_at_call 35; exact quiet_left (K1.out _))
            | (go_at_call 36; exact quiet_left (K2.out _)))
          go_wp2
          obtain ⟨W1, hW1⟩ : ∃ W1, (w.alloc (.cells #[.int .i64 0, .int .i64 0, .int .i64 0, .int .i64 0, .int .i64 0, .slice none 0 0, .slice none 0 0, .slice none 0 0, .bool false] 62)).drewN nq = W1 := ⟨_, rfl⟩
          have Q1 : Hid (Bq W1 w.heap.size 62 nilC) := by rw [← hW1]; exact (Bq.new w 62 nilC).drewN nq
          have G1 : Hid (Bl w W1) := by rw [← hW1]; exact ((Bl.refl _).alloc _).drewN _
          obtain ⟨b0, hb0⟩ : ∃ b0, w.heap.size = b0 := ⟨_, rfl⟩
          rw [hW1]
          rw [hb0] at Q1 ⊢
          clear hW1 K1 K2 x1 x2 x4 x5 b1 b4 b5 b6 b7 d0 d1 t0 q4 w1 r1 d18 e18
          --@REGION11
          refine Code.wp_mono (Q := fun e a w => match e with
            | .normal => a = { tmps := #[.string S, undef, .pointer (some ⟨b0, 0, none⟩), .int .i64 0, .int .i64 (n : Int), .string B, .pointer (some ⟨W1.heap.size, 0, none⟩), undef, undef, undef, undef, undef, undef, undef, undef, undef, undef, .string S, .int .i64 (S.size : Int), .bool false, undef, .string S, .int .i64 (S.size : Int), .int .i64 (n : Int), .string S, .int .i64 (n : Int), .string T1, .int .u64 (x : Int), .string S, .int .i64 (n : Int), .string T2, .int .u32 (y : Int), .int .u64 (y : Int), .bool false, undef, .string S, .string T4, .bool false, undef, .string S, .int .i64 (n : Int), .string B, .string B, .int .i64 (B.size : Int), .bool false, undef, .string B, .int .u8 (c : Int), .int .i64 (c : Int), .string B, .string B1, .int .u64 (d : Int), .int .i64 (d : Int), .string B, .string B2, .int .u64 (g : Int), .int .i64 (g : Int), .agg #[.int .i64 (c : Int), .int .i64 (d : Int), .int .i64 (g : Int)], .agg #[.int .i64 (c : Int), .int .i64 (d : Int), .int .i64 (g : Int), .int .i64 0, .int .i64 0, .slice none 0 0, .slice none 0 0, .slice none 0 0, .bool false], undef, undef, undef, undef, undef, undef, undef, undef, undef, undef, undef, undef, undef, undef, undef, undef, undef, undef, undef, undef, undef, undef, undef, undef, undef, undef, undef, undef, undef, undef, undef, undef, undef, undef, undef, undef, undef, undef, undef, undef, undef, undef, undef, undef, undef, undef, undef, undef, undef, undef, undef, undef, undef, undef, undef, undef, undef, undef, undef, undef, undef, undef, undef, undef, undef, undef, undef, undef, undef, undef], defers := [] } ∧ Hid (w = W1.drew.alloc (.cells #[.int .i64 (c : Int), .int .i64 (d : Int), .int .i64 (g : Int), .int .i64 0, .int .i64 0, .slice none 0 0, .slice none 0 0, .slice none 0 0, .bool false] 62))
            | _ => False) ?_ ?_
          rotate_left
          · refine wp_region_inv2 (fun l a w => ∃ x46 x47 x48 x49 x50 x51 x52 x53 x54 x55 x56 x57 x58 x6, a = { tmps := #[.string S, undef, .pointer (some ⟨b0, 0, none⟩), .int .i64 0, .int .i64 (n : Int), .string B, x6, undef, undef, undef, undef, undef, undef, undef, undef, undef, undef, .string S, .int .i64 (S.size : Int), .bool false, undef, .string S, .int .i64 (S.size : Int), .int .i64 (n : Int), .string S, .int .i64 (n : Int), .string T1, .int .u64 (x : Int), .string S, .int .i64 (n : Int), .string T2, .int .u32 (y : Int), .int .u64 (y : Int), .bool false, undef, .string S, .string T4, .bool false, undef, .string S, .int .i64 (n : Int), .string B, .string B, .int .i64 (B.size : Int), .bool false, undef, x46, x47, x48, x49, x50, x51, x52, x53, x54, x55, x56, x57, x58, undef, undef, undef, undef, undef, undef, undef, undef, undef, undef, undef, undef, undef, undef, undef, undef, undef, undef, undef, undef, undef, undef, undef, undef, undef, undef, undef, undef, undef, undef, undef, undef, undef, undef, undef, undef, undef, undef, undef, undef, undef, undef, undef, undef, undef, undef, undef, undef, undef, undef, undef, undef, undef, undef, undef, undef, undef, undef, undef, undef, undef, undef, undef, undef, undef, undef, undef, undef, undef, undef], defers := [] } ∧ l.size = 15 ∧ (¬ On l 13 → w = W1.drew) ∧ (On l 13 → ¬ On l 14 → w = W1.drew.alloc (.cells #[.int .i64 0, .int .i64 0, .int .i64 0, .int .i64 0, .int .i64 0, .slice none 0 0, .slice none 0 0, .slice none 0 0, .bool false] 62)) ∧ (On l 14 → w = W1.drew.alloc (.cells #[.int .i64 (c : Int), .int .i64 (d : Int), .int .i64 (g : Int), .int .i64 0, .int .i64 0, .slice none 0 0, .slice none 0 0, .slice none 0 0, .bool false] 62)) ∧ (On l 14 → On l 13) ∧ (On l 0 → x46 = .string B) ∧ (On l 1 → x47 = .int .u8 (c : Int)) ∧ (On l 2 → x48 = .int .i64 (c : Int)) ∧ (On l 3 → x49 = .string B) ∧ (On l 4 → x50 = .string B1) ∧ (On l 5 → x51 = .int .u64 (d : Int)) ∧ (On l 6 → x52 = .int .i64 (d : Int)) ∧ (On l 7 → x53 = .string B) ∧ (On l 8 → x54 = .string B2) ∧ (On l 9 → x55 = .int .u64 (g : Int)) ∧ (On l 10 → x56 = .int .i64 (g : Int)) ∧ (On l 11 → x57 = .agg #[.int .i64 (c : Int), .int .i64 (d : Int), .int .i64 (g : Int)]) ∧ (On l 12 → x58 = .agg #[.int .i64 (c : Int), .int .i64 (d : Int), .int .i64 (g : Int), .int .i64 0, .int .i64 0, .slice none 0 0, .slice none 0 0, .slice none 0 0, .bool false]) ∧ (On l 13 → x6 = .pointer (some ⟨W1.heap.size, 0, none⟩))) (by kernel_rfl) ?_ ?_ ?_ (fun l hl hr => all_done (by kernel_rfl) l hl hr)
            · exact ⟨_, _, _, _, _, _, _, _, _, _, _, _, _, _, rfl, (by simp), (fun _ => rfl), (fun h => absurd h (by simp [On])), (fun h => absurd h (by simp [On])), (fun h => absurd h (by simp [On])), (fun h => absurd h (by simp [On])), (fun h => absurd h (by simp [On])), (fun h => absurd h (by simp [On])), (fun h => absurd h (by simp [On])), (fun h => absurd h (by simp [On])), (fun h => absurd h (by simp [On])), (fun h => absurd h (by simp [On])), (fun h => absurd h (by simp [On])), (fun h => absurd h (by simp [On])), (fun h => absurd h (by simp [On])), (fun h => absurd h (by simp [On])), (fun h => absurd h (by simp [On])), (fun h => absurd h (by simp [On])), (fun h => absurd h (by simp [On]))⟩
            · intro l a w i hI hno hi hdep
              obtain ⟨x46, x47, x48, x49, x50, x51, x52, x53, x54, x55, x56, x57, x58, x6, rfl, hl, hW0, hW1, hW2, hO0, f0, f1, f2, f3, f4, f5, f6, f7, f8, f9, f10, f11, f12, f13⟩ := hI
              have hi' : i < 15 := hi
              have hways : i = 0 ∨ i = 1 ∨ i = 2 ∨ i = 3 ∨ i = 4 ∨ i = 5 ∨ i = 6 ∨ i = 7 ∨ i = 8 ∨ i = 9 ∨ i = 10 ∨ i = 11 ∨ i = 12 ∨ i = 13 ∨ i = 14 := by omega
              rcases hways with rfl | rfl | rfl | rfl | rfl | rfl | rfl | rfl | rfl | rfl | rfl | rfl | rfl | rfl | rfl
              · refine wpOp_intro rfl rfl fun K' hK => ?_
                go_simp
                exact hK.out _ _ ⟨_, _, _, _, _, _, _, _, _, _, _, _, _, _, rfl, ((Array.size_setIfInBounds ..).trans hl), (fun hq2 => hW0 (fun h => hq2 h.keep)), (fun hq hq2 => hW1 (hq.of_set (by decide)) (fun h => hq2 h.keep)), (fun hq => hW2 (hq.of_set (by decide))), (fun h => (hO0 (h.of_set (by decide))).keep), fun _ => rfl, fun h => f1 (h.of_set (by decide)), fun h => f2 (h.of_set (by decide)), fun h => f3 (h.of_set (by decide)), fun h => f4 (h.of_set (by decide)), fun h => f5 (h.of_set (by decide)), fun h => f6 (h.of_set (by decide)), fun h => f7 (h.of_set (by decide)), fun h => f8 (h.of_set (by decide)), fun h => f9 (h.of_set (by decide)), fun h => f10 (h.of_set (by decide)), fun h => f11 (h.of_set (by decide)), fun h => f12 (h.of_set (by decide)), fun h => f13 (h.of_set (by decide))⟩
              · refine wpOp_intro rfl rfl fun K' hK => ?_
                have d0 : On l 0 := on_dep hdep 0 (by kernel_rfl)
                obtain rfl := f0 d0
                go_simp
                exact hK.out _ _ ⟨_, _, _, _, _, _, _, _, _, _, _, _, _, _, rfl, ((Array.size_setIfInBounds ..).trans hl), (fun hq2 => hW0 (fun h => hq2 h.keep)), (fun hq hq2 => hW1 (hq.of_set (by decide)) (fun h => hq2 h.keep)), (fun hq => hW2 (hq.of_set (by decide))), (fun h => (hO0 (h.of_set (by decide))).keep), fun h => f0 (h.of_set (by decide)), fun _ => rfl, fun h => f2 (h.of_set (by decide)), fun h => f3 (h.of_set (by decide)), fun h => f4 (h.of_set (by decide)), fun h => f5 (h.of_set (by decide)), fun h => f6 (h.of_set (by decide)), fun h => f7 (h.of_set (by decide)), fun h => f8 (h.of_set (by decide)), fun h => f9 (h.of_set (by decide)), fun h => f10 (h.of_set (by decide)), fun h => f11 (h.of_set (by decide)), fun h => f12 (h.of_set (by decide)), fun h => f13 (h.of_set (by decide))⟩
              · refine wpOp_intro rfl rfl fun K' hK => ?_
                have d1 : On l 1 := on_dep hdep 1 (by kernel_rfl)
                obtain rfl := f1 d1
                go_simp
                exact hK.out _ _ ⟨_, _, _, _, _, _, _, _, _, _, _, _, _, _, rfl, ((Array.size_setIfInBounds ..).trans hl), (fun hq2 => hW0 (fun h => hq2 h.keep)), (fun hq hq2 => hW1 (hq.of_set (by decide)) (fun h => hq2 h.keep)), (fun hq => hW2 (hq.of_set (by decide))), (fun h => (hO0 (h.of_set (by decide))).keep), fun h => f0 (h.of_set (by decide)), fun h => f1 (h.of_set (by decide)), fun _ => rfl, fun h => f3 (h.of_set (by decide)), fun h => f4 (h.of_set (by decide)), fun h => f5 (h.of_set (by decide)), fun h => f6 (h.of_set (by decide)), fun h => f7 (h.of_set (by decide)), fun h => f8 (h.of_set (by decide)), fun h => f9 (h.of_set (by decide)), fun h => f10 (h.of_set (by decide)), fun h => f11 (h.of_set (by decide)), fun h => f12 (h.of_set (by decide)), fun h => f13 (h.of_set (by decide))⟩
              · refine wpOp_intro rfl rfl fun K' hK => ?_
                go_simp
                exact hK.out _ _ ⟨_, _, _, _, _, _, _, _, _, _, _, _, _, _, rfl, ((Array.size_setIfInBounds ..).trans hl), (fun hq2 => hW0 (fun h => hq2 h.keep)), (fun hq hq2 => hW1 (hq.of_set (by decide)) (fun h => hq2 h.keep)), (fun hq => hW2 (hq.of_set (by decide))), (fun h => (hO0 (h.of_set (by decide))).keep), fun h => f0 (h.of_set (by decide)), fun h => f1 (h.of_set (by decide)), fun h => f2 (h.of_set (by decide)), fun _ => rfl, fun h => f4 (h.of_set (by decide)), fun h => f5 (h.of_set (by decide)), fun h => f6 (h.of_set (by decide)), fun h => f7 (h.of_set (by decide)), fun h => f8 (h.of_set (by decide)), fun h => f9 (h.of_set (by decide)), fun h => f10 (h.of_set (by decide)), fun h => f11 (h.of_set (by decide)), fun h => f12 (h.of_set (by decide)), fun h => f13 (h.of_set (by decide))⟩
              · refine wpOp_intro rfl rfl fun K' hK => ?_
                have d3 : On l 3 := on_dep hdep 3 (by kernel_rfl)
                obtain rfl := f3 d3
                go_simp
                exact hK.out _ _ ⟨_, _, _, _, _, _, _, _, _, _, _, _, _, _, rfl, ((Array.size_setIfInBounds ..).trans hl), (fun hq2 => hW0 (fun h => hq2 h.keep)), (fun hq hq2 => hW1 (hq.of_set (by decide)) (fun h => hq2 h.keep)), (fun hq => hW2 (hq.of_set (by decide))), (fun h => (hO0 (h.of_set (by decide))).keep), fun h => f0 (h.of_set (by decide)), fun h => f1 (h.of_set (by decide)), fun h => f2 (h.of_set (by decide)), fun h => f3 (h.of_set (by decide)), fun _ => rfl, fun h => f5 (h.of_set (by decide)), fun h => f6 (h.of_set (by decide)), fun h => f7 (h.of_set (by decide)), fun h => f8 (h.of_set (by decide)), fun h => f9 (h.of_set (by decide)), fun h => f10 (h.of_set (by decide)), fun h => f11 (h.of_set (by decide)), fun h => f12 (h.of_set (by decide)), fun h => f13 (h.of_set (by decide))⟩
              · refine wpOp_intro rfl rfl fun K' hK => ?_
                have d4 : On l 4 := on_dep hdep 4 (by kernel_rfl)
                obtain rfl := f4 d4
                go_simp
                refine (N1.out _).mono ?_
                rintro e w2 ⟨rfl, rfl⟩
                exact hK.out _ _ ⟨_, _, _, _, _, _, _, _, _, _, _, _, _, _, rfl, ((Array.size_setIfInBounds ..).trans hl), (fun hq2 => hW0 (fun h => hq2 h.keep)), (fun hq hq2 => hW1 (hq.of_set (by decide)) (fun h => hq2 h.keep)), (fun hq => hW2 (hq.of_set (by decide))), (fun h => (hO0 (h.of_set (by decide))).keep), fun h => f0 (h.of_set (by decide)), fun h => f1 (h.of_set (by decide)), fun h => f2 (h.of_set (by decide)), fun h => f3 (h.of_set (by decide)), fun h => f4 (h.of_set (by decide)), fun _ => rfl, fun h => f6 (h.of_set (by decide)), fun h => f7 (h.of_set (by decide)), fun h => f8 (h.of_set (by decide)), fun h => f9 (h.of_set (by decide)), fun h => f10 (h.of_set (by decide)), fun h => f11 (h.of_set (by decide)), fun h => f12 (h.of_set (by decide)), fun h => f13 (h.of_set (by decide))⟩
              · refine wpOp_intro rfl rfl fun K' hK => ?_
                have d5 : On l 5 := on_dep hdep 5 (by kernel_rfl)
                obtain rfl := f5 d5
                go_simp
                exact hK.out _ _ ⟨_, _, _, _, _, _, _, _, _, _, _, _, _, _, rfl, ((Array.size_setIfInBounds ..).trans hl), (fun hq2 => hW0 (fun h => hq2 h.keep)), (fun hq hq2 => hW1 (hq.of_set (by decide)) (fun h => hq2 h.keep)), (fun hq => hW2 (hq.of_set (by decide))), (fun h => (hO0 (h.of_set (by decide))).keep), fun h => f0 (h.of_set (by decide)), fun h => f1 (h.of_set (by decide)), fun h => f2 (h.of_set (by decide)), fun h => f3 (h.of_set (by decide)), fun h => f4 (h.of_set (by decide)), fun h => f5 (h.of_set (by decide)), fun _ => rfl, fun h => f7 (h.of_set (by decide)), fun h => f8 (h.of_set (by decide)), fun h => f9 (h.of_set (by decide)), fun h => f10 (h.of_set (by decide)), fun h => f11 (h.of_set (by decide)), fun h => f12 (h.of_set (by decide)), fun h => f13 (h.of_set (by decide))⟩
              · refine wpOp_intro rfl rfl fun K' hK => ?_
                go_simp
                exact hK.out _ _ ⟨_, _, _, _, _, _, _, _, _, _, _, _, _, _, rfl, ((Array.size_setIfInBounds ..).trans hl), (fun hq2 => hW0 (fun h => hq2 h.keep)), (fun hq hq2 => hW1 (hq.of_set (by decide)) (fun h => hq2 h.keep)), (fun hq => hW2 (hq.of_set (by decide))), (fun h => (hO0 (h.of_set (by decide))).keep), fun h => f0 (h.of_set (by decide)), fun h => f1 (h.of_set (by decide)), fun h => f2 (h.of_set (by decide)), fun h => f3 (h.of_set (by decide)), fun h => f4 (h.of_set (by decide)), fun h => f5 (h.of_set (by decide)), fun h => f6 (h.of_set (by decide)), fun _ => rfl, fun h => f8 (h.of_set (by decide)), fun h => f9 (h.of_set (by decide)), fun h => f10 (h.of_set (by decide)), fun h => f11 (h.of_set (by decide)), fun h => f12 (h.of_set (by decide)), fun h => f13 (h.of_set (by decide))⟩
              · refine wpOp_intro rfl rfl fun K' hK => ?_
                have d7 : On l 7 := on_dep hdep 7 (by kernel_rfl)
                obtain rfl := f7 d7
                go_simp
                exact hK.out _ _ ⟨_, _, _, _, _, _, _, _, _, _, _, _, _, _, rfl, ((Array.size_setIfInBounds ..).trans hl), (fun hq2 => hW0 (fun h => hq2 h.keep)), (fun hq hq2 => hW1 (hq.of_set (by decide)) (fun h => hq2 h.keep)), (fun hq => hW2 (hq.of_set (by decide))), (fun h => (hO0 (h.of_set (by decide))).keep), fun h => f0 (h.of_set (by decide)), fun h => f1 (h.of_set (by decide)), fun h => f2 (h.of_set (by decide)), fun h => f3 (h.of_set (by decide)), fun h => f4 (h.of_set (by decide)), fun h => f5 (h.of_set (by decide)), fun h => f6 (h.of_set (by decide)), fun h => f7 (h.of_set (by decide)), fun _ => rfl, fun h => f9 (h.of_set (by decide)), fun h => f10 (h.of_set (by decide)), fun h => f11 (h.of_set (by decide)), fun h => f12 (h.of_set (by decide)), fun h => f13 (h.of_set (by decide))⟩
              · refine wpOp_intro rfl rfl fun K' hK => ?_
                have d8 : On l 8 := on_dep hdep 8 (by kernel_rfl)
                obtain rfl := f8 d8
                go_simp
                refine (N2.out _).mono ?_
                rintro e w2 ⟨rfl, rfl⟩
                exact hK.out _ _ ⟨_, _, _, _, _, _, _, _, _, _, _, _, _, _, rfl, ((Array.size_setIfInBounds ..).trans hl), (fun hq2 => hW0 (fun h => hq2 h.keep)), (fun hq hq2 => hW1 (hq.of_set (by decide)) (fun h => hq2 h.keep)), (fun hq => hW2 (hq.of_set (by decide))), (fun h => (hO0 (h.of_set (by decide))).keep), fun h => f0 (h.of_set (by decide)), fun h => f1 (h.of_set (by decide)), fun h => f2 (h.of_set (by decide)), fun h => f3 (h.of_set (by decide)), fun h => f4 (h.of_set (by decide)), fun h => f5 (h.of_set (by decide)), fun h => f6 (h.of_set (by decide)), fun h => f7 (h.of_set (by decide)), fun h => f8 (h.of_set (by decide)), fun _ => rfl, fun h => f10 (h.of_set (by decide)), fun h => f11 (h.of_set (by decide)), fun h => f12 (h.of_set (by decide)), fun h => f13 (h.of_set (by decide))⟩
              · refine wpOp_intro rfl rfl fun K' hK => ?_
                have d9 : On l 9 := on_dep hdep 9 (by kernel_rfl)
                obtain rfl := f9 d9
                go_simp
                exact hK.out _ _ ⟨_, _, _, _, _, _, _, _, _, _, _, _, _, _, rfl, ((Array.size_setIfInBounds ..).trans hl), (fun hq2 => hW0 (fun h => hq2 h.keep)), (fun hq hq2 => hW1 (hq.of_set (by decide)) (fun h => hq2 h.keep)), (fun hq => hW2 (hq.of_set (by decide))), (fun h => (hO0 (h.of_set (by decide))).keep), fun h => f0 (h.of_set (by decide)), fun h => f1 (h.of_set (by decide)), fun h => f2 (h.of_set (by decide)), fun h => f3 (h.of_set (by decide)), fun h => f4 (h.of_set (by decide)), fun h => f5 (h.of_set (by decide)), fun h => f6 (h.of_set (by decide)), fun h => f7 (h.of_set (by decide)), fun h => f8 (h.of_set (by decide)), fun h => f9 (h.of_set (by decide)), fun _ => rfl, fun h => f11 (h.of_set (by decide)), fun h => f12 (h.of_set (by decide)), fun h => f13 (h.of_set (by decide))⟩
              · refine wpOp_intro rfl rfl fun K' hK => ?_
                have d2 : On l 2 := on_dep hdep 2 (by kernel_rfl)
                obtain rfl := f2 d2
                have d6 : On l 6 := on_dep hdep 6 (by kernel_rfl)
                obtain rfl := f6 d6
                have d10 : On l 10 := on_dep hdep 10 (by kernel_rfl)
                obtain rfl := f10 d10
                go_simp
                exact hK.out _ _ ⟨_, _, _, _, _, _, _, _, _, _, _, _, _, _, rfl, ((Array.size_setIfInBounds ..).trans hl), (fun hq2 => hW0 (fun h => hq2 h.keep)), (fun hq hq2 => hW1 (hq.of_set (by decide)) (fun h => hq2 h.keep)), (fun hq => hW2 (hq.of_set (by decide))), (fun h => (hO0 (h.of_set (by decide))).keep), fun h => f0 (h.of_set (by decide)), fun h => f1 (h.of_set (by decide)), fun h => f2 (h.of_set (by decide)), fun h => f3 (h.of_set (by decide)), fun h => f4 (h.of_set (by decide)), fun h => f5 (h.of_set (by decide)), fun h => f6 (h.of_set (by decide)), fun h => f7 (h.of_set (by decide)), fun h => f8 (h.of_set (by decide)), fun h => f9 (h.of_set (by decide)), fun h => f10 (h.of_set (by decide)), fun _ => rfl, fun h => f12 (h.of_set (by decide)), fun h => f13 (h.of_set (by decide))⟩
              · refine wpOp_intro rfl rfl fun K' hK => ?_
                have d11 : On l 11 := on_dep hdep 11 (by kernel_rfl)
                obtain rfl := f11 d11
                go_simp
                exact hK.out _ _ ⟨_, _, _, _, _, _, _, _, _, _, _, _, _, _, rfl, ((Array.size_setIfInBounds ..).trans hl), (fun hq2 => hW0 (fun h => hq2 h.keep)), (fun hq hq2 => hW1 (hq.of_set (by decide)) (fun h => hq2 h.keep)), (fun hq => hW2 (hq.of_set (by decide))), (fun h => (hO0 (h.of_set (by decide))).keep), fun h => f0 (h.of_set (by decide)), fun h => f1 (h.of_set (by decide)), fun h => f2 (h.of_set (by decide)), fun h => f3 (h.of_set (by decide)), fun h => f4 (h.of_set (by decide)), fun h => f5 (h.of_set (by decide)), fun h => f6 (h.of_set (by decide)), fun h => f7 (h.of_set (by decide)), fun h => f8 (h.of_set (by decide)), fun h => f9 (h.of_set (by decide)), fun h => f10 (h.of_set (by decide)), fun h => f11 (h.of_set (by decide)), fun _ => rfl, fun h => f13 (h.of_set (by decide))⟩
              · refine wpOp_intro rfl rfl fun K' hK => ?_
                obtain rfl := hW0 hno
                go_simp
                exact hK.out _ _ ⟨_, _, _, _, _, _, _, _, _, _, _, _, _, _, rfl, ((Array.size_setIfInBounds ..).trans hl), (fun h => absurd (on_self hi' hl) h), (fun _ _ => rfl), fun hq => absurd (hO0 (hq.of_set (by decide))) hno, (fun h => (hO0 (h.of_set (by decide))).keep), fun h => f0 (h.of_set (by decide)), fun h => f1 (h.of_set (by decide)), fun h => f2 (h.of_set (by decide)), fun h => f3 (h.of_set (by decide)), fun h => f4 (h.of_set (by decide)), fun h => f5 (h.of_set (by decide)), fun h => f6 (h.of_set (by decide)), fun h => f7 (h.of_set (by decide)), fun h => f8 (h.of_set (by decide)), fun h => f9 (h.of_set (by decide)), fun h => f10 (h.of_set (by decide)), fun h => f11 (h.of_set (by decide)), fun h => f12 (h.of_set (by decide)), fun _ => rfl⟩
              · refine wpOp_intro rfl rfl fun K' hK => ?_
                have d13 : On l 13 := on_dep hdep 13 (by kernel_rfl)
                obtain rfl := f13 d13
                have d12 : On l 12 := on_dep hdep 12 (by kernel_rfl)
                obtain rfl := f12 d12
                obtain rfl := hW1 d13 hno
                go_simp
                exact hK.out _ _ ⟨_, _, _, _, _, _, _, _, _, _, _, _, _, _, rfl, ((Array.size_setIfInBounds ..).trans hl), fun h => absurd (d13).keep h, (fun _ h => absurd (on_self hi' hl) h), (fun _ => rfl), (fun _ => d13.keep), fun h => f0 (h.of_set (by decide)), fun h => f1 (h.of_set (by decide)), fun h => f2 (h.of_set (by decide)), fun h => f3 (h.of_set (by decide)), fun h => f4 (h.of_set (by decide)), fun h => f5 (h.of_set (by decide)), fun h => f6 (h.of_set (by decide)), fun h => f7 (h.of_set (by decide)), fun h => f8 (h.of_set (by decide)), fun h => f9 (h.of_set (by decide)), fun h => f10 (h.of_set (by decide)), fun h => f11 (h.of_set (by decide)), fun h => f12 (h.of_set (by decide)), fun h => f13 (h.of_set (by decide))⟩
            · intro l a w hI hall
              obtain ⟨x46, x47, x48, x49, x50, x51, x52, x53, x54, x55, x56, x57, x58, x6, rfl, hl, hW0, hW1, hW2, hO0, f0, f1, f2, f3, f4, f5, f6, f7, f8, f9, f10, f11, f12, f13⟩ := hI
              obtain rfl := f0 (hall 0 (by decide))
              obtain rfl := f1 (hall 1 (by decide))
              obtain rfl := f2 (hall 2 (by decide))
              obtain rfl := f3 (hall 3 (by decide))
              obtain rfl := f4 (hall 4 (by decide))
              obtain rfl := f5 (hall 5 (by decide))
              obtain rfl := f6 (hall 6 (by decide))
              obtain rfl := f7 (hall 7 (by decide))
              obtain rfl := f8 (hall 8 (by decide))
              obtain rfl := f9 (hall 9 (by decide))
              obtain rfl := f10 (hall 10 (by decide))
              obtain rfl := f11 (hall 11 (by decide))
              obtain rfl := f12 (hall 12 (by decide))
              obtain rfl := f13 (hall 13 (by decide))
              exact ⟨rfl, hW2 (hall 14 (by decide))⟩
          intro e a W2 h
          cases e <;> first | exact h.elim | skip
          obtain ⟨rfl, hWE⟩ := h
          try dsimp only
          --@ENDREGION11
          clear g0 y1 y2 N1 N2 v1 v2 v3
          obtain ⟨r6, hr6⟩ : ∃ r6, W1.heap.size = r6 := ⟨_, rfl⟩
          have HNE : Hid (b0 < r6) := by show b0 < r6; rw [← hr6]; exact Q1.out.lt
          have Q2 : Hid (Bq W2 b0 62 nilC) := by show Bq _ _ _ _; rw [hWE.out]; exact Q1.out.drew.alloc _
          have R2 : Hid (Bq W2 r6 62 (recC (c : Int) (d : Int) (g : Int) 0 0 (.slice none 0 0) (.slice none 0 0) (.slice none 0 0) false)) := by show Bq _ _ _ _; rw [hWE.out, ← hr6]; exact Bq.new W1.drew _ _
          have G2 : Hid (Bl w W2) := by show Bl _ _; rw [hWE.out]; exact G1.out.drew.alloc _
          rw [hr6]
          have HB0 := Lib.hid hb0
          clear hWE Q1 G1 hr6 hb0
          have k3 := R2.out.cell 3 rfl
          have k4 := R2.out.cell 4 rfl
          have fz := fun i => R2.out.free i
          go_wp2
          --@REGION12
          refine Code.wp_mono (Q := fun e a w => match e with
            | .normal => a = { tmps := #[.string S, undef, .pointer (some ⟨b0, 0, none⟩), .int .i64 0, .int .i64 (n : Int), .string B, .pointer (some ⟨r6, 0, none⟩), undef, undef, undef, undef, undef, undef, undef, undef, undef, undef, .string S, .int .i64 (S.size : Int), .bool false, undef, .string S, .int .i64 (S.size : Int), .int .i64 (n : Int), .string S, .int .i64 (n : Int), .string T1, .int .u64 (x : Int), .string S, .int .i64 (n : Int), .string T2, .int .u32 (y : Int), .int .u64 (y : Int), .bool false, undef, .string S, .string T4, .bool false, undef, .string S, .int .i64 (n : Int), .string B, .string B, .int .i64 (B.size : Int), .bool false, undef, .string B, .int .u8 (c : Int), .int .i64 (c : Int), .string B, .string B1, .int .u64 (d : Int), .int .i64 (d : Int), .string B, .string B2, .int .u64 (g : Int), .int .i64 (g : Int), .agg #[.int .i64 (c : Int), .int .i64 (d : Int), .int .i64 (g : Int)], .agg #[.int .i64 (c : Int), .int .i64 (d : Int), .int .i64 (g : Int), .int .i64 0, .int .i64 0, .slice none 0 0, .slice none 0 0, .slice none 0 0, .bool false], .string B, .string B3, .int .u64 (f : Int), .int .i64 (f : Int), .string B, .string B4, .int .u64 (t : Int), .int .i64 (t : Int), .agg #[.int .i64 (f : Int), .int .i64 (t : Int)], .pointer (some ⟨r6, 3, none⟩), .pointer (some ⟨r6, 3, none⟩), undef, undef, undef, undef, undef, undef, undef, undef, undef, undef, undef, undef, undef, undef, undef, undef, undef, undef, undef, undef, undef, undef, undef, undef, undef, undef, undef, undef, undef, undef, undef, undef, undef, undef, undef, undef, undef, undef, undef, undef, undef, undef, undef, undef, undef, undef, undef, undef, undef, undef, undef, undef, undef, undef, undef, undef, undef, undef, undef], defers := [] } ∧ Hid (w = (W2.drew.setCell ⟨r6, 3, none⟩ (.int .i64 (f : Int))).setCell ⟨r6, 4, none⟩ (.int .i64 (t : Int)))
            | _ => False) ?_ ?_
          rotate_left
          · refine wp_region_inv2 (fun l a w => ∃ x59 x60 x61 x62 x63 x64 x65 x66 x67 x68 x69, a = { tmps := #[.string S, undef, .pointer (some ⟨b0, 0, none⟩), .int .i64 0, .int .i64 (n : Int), .string B, .pointer (some ⟨r6, 0, none⟩), undef, undef, undef, undef, undef, undef, undef, undef, undef, undef, .string S, .int .i64 (S.size : Int), .bool false, undef, .string S, .int .i64 (S.size : Int), .int .i64 (n : Int), .string S, .int .i64 (n : Int), .string T1, .int .u64 (x : Int), .string S, .int .i64 (n : Int), .string T2, .int .u32 (y : Int), .int .u64 (y : Int), .bool false, undef, .string S, .string T4, .bool false, undef, .string S, .int .i64 (n : Int), .string B, .string B, .int .i64 (B.size : Int), .bool false, undef, .string B, .int .u8 (c : Int), .int .i64 (c : Int), .string B, .string B1, .int .u64 (d : Int), .int .i64 (d : Int), .string B, .string B2, .int .u64 (g : Int), .int .i64 (g : Int), .agg #[.int .i64 (c : Int), .int .i64 (d : Int), .int .i64 (g : Int)], .agg #[.int .i64 (c : Int), .int .i64 (d : Int), .int .i64 (g : Int), .int .i64 0, .int .i64 0, .slice none 0 0, .slice none 0 0, .slice none 0 0, .bool false], x59, x60, x61, x62, x63, x64, x65, x66, x67, x68, x69, undef, undef, undef, undef, undef, undef, undef, undef, undef, undef, undef, undef, undef, undef, undef, undef, undef, undef, undef, undef, undef, undef, undef, undef, undef, undef, undef, undef, undef, undef, undef, undef, undef, undef, undef, undef, undef, undef, undef, undef, undef, undef, undef, undef, undef, undef, undef, undef, undef, undef, undef, undef, undef, undef, undef, undef, undef, undef, undef], defers := [] } ∧ l.size = 12 ∧ (¬ On l 11 → w = W2.drew) ∧ (On l 11 → w = (W2.drew.setCell ⟨r6, 3, none⟩ (.int .i64 (f : Int))).setCell ⟨r6, 4, none⟩ (.int .i64 (t : Int))) ∧ (On l 0 → x59 = .string B) ∧ (On l 1 → x60 = .string B3) ∧ (On l 2 → x61 = .int .u64 (f : Int)) ∧ (On l 3 → x62 = .int .i64 (f : Int)) ∧ (On l 4 → x63 = .string B) ∧ (On l 5 → x64 = .string B4) ∧ (On l 6 → x65 = .int .u64 (t : Int)) ∧ (On l 7 → x66 = .int .i64 (t : Int)) ∧ (On l 8 → x67 = .agg #[.int .i64 (f : Int), .int .i64 (t : Int)]) ∧ (On l 9 → x68 = .pointer (some ⟨r6, 3, none⟩)) ∧ (On l 10 → x69 = .pointer (some ⟨r6, 3, none⟩))) (by kernel_rfl) ?_ ?_ ?_ (fun l hl hr => all_done (by kernel_rfl) l hl hr)
            · exact ⟨_, _, _, _, _, _, _, _, _, _, _, rfl, (by simp), (fun _ => rfl), (fun h => absurd h (by simp [On])), (fun h => absurd h (by simp [On])), (fun h => absurd h (by simp [On])), (fun h => absurd h (by simp [On])), (fun h => absurd h (by simp [On])), (fun h => absurd h (by simp [On])), (fun h => absurd h (by simp [On])), (fun h => absurd h (by simp [On])), (fun h => absurd h (by simp [On])), (fun h => absurd h (by simp [On])), (fun h => absurd h (by simp [On])), (fun h => absurd h (by simp [On]))⟩
            · intro l a w i hI hno hi hdep
              obtain ⟨x59, x60, x61, x62, x63, x64, x65, x66, x67, x68, x69, rfl, hl, hW0, hW1, f0, f1, f2, f3, f4, f5, f6, f7, f8, f9, f10⟩ := hI
              have hi' : i < 12 := hi
              have hways : i = 0 ∨ i = 1 ∨ i = 2 ∨ i = 3 ∨ i = 4 ∨ i = 5 ∨ i = 6 ∨ i = 7 ∨ i = 8 ∨ i = 9 ∨ i = 10 ∨ i = 11 := by omega
              rcases hways with rfl | rfl | rfl | rfl | rfl | rfl | rfl | rfl | rfl | rfl | rfl | rfl
              · refine wpOp_intro rfl rfl fun K' hK => ?_
                go_simp
                exact hK.out _ _ ⟨_, _, _, _, _, _, _, _, _, _, _, rfl, ((Array.size_setIfInBounds ..).trans hl), (fun hq2 => hW0 (fun h => hq2 h.keep)), (fun hq => hW1 (hq.of_set (by decide))), fun _ => rfl, fun h => f1 (h.of_set (by decide)), fun h => f2 (h.of_set (by decide)), fun h => f3 (h.of_set (by decide)), fun h => f4 (h.of_set (by decide)), fun h => f5 (h.of_set (by decide)), fun h => f6 (h.of_set (by decide)), fun h => f7 (h.of_set (by decide)), fun h => f8 (h.of_set (by decide)), fun h => f9 (h.of_set (by decide)), fun h => f10 (h.of_set (by decide))⟩
              · refine wpOp_intro rfl rfl fun K' hK => ?_
                have d0 : On l 0 := on_dep hdep 0 (by kernel_rfl)
                obtain rfl := f0 d0
                go_simp
                exact hK.out _ _ ⟨_, _, _, _, _, _, _, _, _, _, _, rfl, ((Array.size_setIfInBounds ..).trans hl), (fun hq2 => hW0 (fun h => hq2 h.keep)), (fun hq => hW1 (hq.of_set (by decide))), fun h => f0 (h.of_set (by decide)), fun _ => rfl, fun h => f2 (h.of_set (by decide)), fun h => f3 (h.of_set (by decide)), fun h => f4 (h.of_set (by decide)), fun h => f5 (h.of_set (by decide)), fun h => f6 (h.of_set (by decide)), fun h => f7 (h.of_set (by decide)), fun h => f8 (h.of_set (by decide)), fun h => f9 (h.of_set (by decide)), fun h => f10 (h.of_set (by decide))⟩
              · refine wpOp_intro rfl rfl fun K' hK => ?_
                have d1 : On l 1 := on_dep hdep 1 (by kernel_rfl)
                obtain rfl := f1 d1
                go_simp
                refine (N3.out _).mono ?_
                rintro e w2 ⟨rfl, rfl⟩
                exact hK.out _ _ ⟨_, _, _, _, _, _, _, _, _, _, _, rfl, ((Array.size_setIfInBounds ..).trans hl), (fun hq2 => hW0 (fun h => hq2 h.keep)), (fun hq => hW1 (hq.of_set (by decide))), fun h => f0 (h.of_set (by decide)), fun h => f1 (h.of_set (by decide)), fun _ => rfl, fun h => f3 (h.of_set (by decide)), fun h => f4 (h.of_set (by decide)), fun h => f5 (h.of_set (by decide)), fun h => f6 (h.of_set (by decide)), fun h => f7 (h.of_set (by decide)), fun h => f8 (h.of_set (by decide)), fun h => f9 (h.of_set (by decide)), fun h => f10 (h.of_set (by decide))⟩
              · refine wpOp_intro rfl rfl fun K' hK => ?_
                have d2 : On l 2 := on_dep hdep 2 (by kernel_rfl)
                obtain rfl := f2 d2
                go_simp
                exact hK.out _ _ ⟨_, _, _, _, _, _, _, _, _, _, _, rfl, ((Array.size_setIfInBounds ..).trans hl), (fun hq2 => hW0 (fun h => hq2 h.keep)), (fun hq => hW1 (hq.of_set (by decide))), fun h => f0 (h.of_set (by decide)), fun h => f1 (h.of_set (by decide)), fun h => f2 (h.of_set (by decide)), fun _ => rfl, fun h => f4 (h.of_set (by decide)), fun h => f5 (h.of_set (by decide)), fun h => f6 (h.of_set (by decide)), fun h => f7 (h.of_set (by decide)), fun h => f8 (h.of_set (by decide)), fun h => f9 (h.of_set (by decide)), fun h => f10 (h.of_set (by decide))⟩
              · refine wpOp_intro rfl rfl fun K' hK => ?_
                go_simp
                exact hK.out _ _ ⟨_, _, _, _, _, _, _, _, _, _, _, rfl, ((Array.size_setIfInBounds ..).trans hl), (fun hq2 => hW0 (fun h => hq2 h.keep)), (fun hq => hW1 (hq.of_set (by decide))), fun h => f0 (h.of_set (by decide)), fun h => f1 (h.of_set (by decide)), fun h => f2 (h.of_set (by decide)), fun h => f3 (h.of_set (by decide)), fun _ => rfl, fun h => f5 (h.of_set (by decide)), fun h => f6 (h.of_set (by decide)), fun h => f7 (h.of_set (by decide)), fun h => f8 (h.of_set (by decide)), fun h => f9 (h.of_set (by decide)), fun h => f10 (h.of_set (by decide))⟩
              · refine wpOp_intro rfl rfl fun K' hK => ?_
                have d4 : On l 4 := on_dep hdep 4 (by kernel_rfl)
                obtain rfl := f4 d4
                go_simp
                exact hK.out _ _ ⟨_, _, _, _, _, _, _, _, _, _, _, rfl, ((Array.size_setIfInBounds ..).trans hl), (fun hq2 => hW0 (fun h => hq2 h.keep)), (fun hq => hW1 (hq.of_set (by decide))), fun h => f0 (h.of_set (by decide)), fun h => f1 (h.of_set (by decide)), fun h => f2 (h.of_set (by decide)), fun h => f3 (h.of_set (by decide)), fun h => f4 (h.of_set (by decide)), fun _ => rfl, fun h => f6 (h.of_set (by decide)), fun h => f7 (h.of_set (by decide)), fun h => f8 (h.of_set (by decide)), fun h => f9 (h.of_set (by decide)), fun h => f10 (h.of_set (by decide))⟩
              · refine wpOp_intro rfl rfl fun K' hK => ?_
                have d5 : On l 5 := on_dep hdep 5 (by kernel_rfl)
                obtain rfl := f5 d5
                go_simp
                refine (N4.out _).mono ?_
                rintro e w2 ⟨rfl, rfl⟩
                exact hK.out _ _ ⟨_, _, _, _, _, _, _, _, _, _, _, rfl, ((Array.size_setIfInBounds ..).trans hl), (fun hq2 => hW0 (fun h => hq2 h.keep)), (fun hq => hW1 (hq.of_set (by decide))), fun h => f0 (h.of_set (by decide)), fun h => f1 (h.of_set (by decide)), fun h => f2 (h.of_set (by decide)), fun h => f3 (h.of_set (by decide)), fun h => f4 (h.of_set (by decide)), fun h => f5 (h.of_set (by decide)), fun _ => rfl, fun h => f7 (h.of_set (by decide)), fun h => f8 (h.of_set (by decide)), fun h => f9 (h.of_set (by decide)), fun h => f10 (h.of_set (by decide))⟩
              · refine wpOp_intro rfl rfl fun K' hK => ?_
                have d6 : On l 6 := on_dep hdep 6 (by kernel_rfl)
                obtain rfl := f6 d6
                go_simp
                exact hK.out _ _ ⟨_, _, _, _, _, _, _, _, _, _, _, rfl, ((Array.size_setIfInBounds ..).trans hl), (fun hq2 => hW0 (fun h => hq2 h.keep)), (fun hq => hW1 (hq.of_set (by decide))), fun h => f0 (h.of_set (by decide)), fun h => f1 (h.of_set (by decide)), fun h => f2 (h.of_set (by decide)), fun h => f3 (h.of_set (by decide)), fun h => f4 (h.of_set (by decide)), fun h => f5 (h.of_set (by decide)), fun h => f6 (h.of_set (by decide)), fun _ => rfl, fun h => f8 (h.of_set (by decide)), fun h => f9 (h.of_set (by decide)), fun h => f10 (h.of_set (by decide))⟩
              · refine wpOp_intro rfl rfl fun K' hK => ?_
                have d3 : On l 3 := on_dep hdep 3 (by kernel_rfl)
                obtain rfl := f3 d3
                have d7 : On l 7 := on_dep hdep 7 (by kernel_rfl)
                obtain rfl := f7 d7
                go_simp
                exact hK.out _ _ ⟨_, _, _, _, _, _, _, _, _, _, _, rfl, ((Array.size_setIfInBounds ..).trans hl), (fun hq2 => hW0 (fun h => hq2 h.keep)), (fun hq => hW1 (hq.of_set (by decide))), fun h => f0 (h.of_set (by decide)), fun h => f1 (h.of_set (by decide)), fun h => f2 (h.of_set (by decide)), fun h => f3 (h.of_set (by decide)), fun h => f4 (h.of_set (by decide)), fun h => f5 (h.of_set (by decide)), fun h => f6 (h.of_set (by decide)), fun h => f7 (h.of_set (by decide)), fun _ => rfl, fun h => f9 (h.of_set (by decide)), fun h => f10 (h.of_set (by decide))⟩
              · refine wpOp_intro rfl rfl fun K' hK => ?_
                go_simp
                exact hK.out _ _ ⟨_, _, _, _, _, _, _, _, _, _, _, rfl, ((Array.size_setIfInBounds ..).trans hl), (fun hq2 => hW0 (fun h => hq2 h.keep)), (fun hq => hW1 (hq.of_set (by decide))), fun h => f0 (h.of_set (by decide)), fun h => f1 (h.of_set (by decide)), fun h => f2 (h.of_set (by decide)), fun h => f3 (h.of_set (by decide)), fun h => f4 (h.of_set (by decide)), fun h => f5 (h.of_set (by decide)), fun h => f6 (h.of_set (by decide)), fun h => f7 (h.of_set (by decide)), fun h => f8 (h.of_set (by decide)), fun _ => rfl, fun h => f10 (h.of_set (by decide))⟩
              · refine wpOp_intro rfl rfl fun K' hK => ?_
                have d9 : On l 9 := on_dep hdep 9 (by kernel_rfl)
                obtain rfl := f9 d9
                go_simp
                exact hK.out _ _ ⟨_, _, _, _, _, _, _, _, _, _, _, rfl, ((Array.size_setIfInBounds ..).trans hl), (fun hq2 => hW0 (fun h => hq2 h.keep)), (fun hq => hW1 (hq.of_set (by decide))), fun h => f0 (h.of_set (by decide)), fun h => f1 (h.of_set (by decide)), fun h => f2 (h.of_set (by decide)), fun h => f3 (h.of_set (by decide)), fun h => f4 (h.of_set (by decide)), fun h => f5 (h.of_set (by decide)), fun h => f6 (h.of_set (by decide)), fun h => f7 (h.of_set (by decide)), fun h => f8 (h.of_set (by decide)), fun h => f9 (h.of_set (by decide)), fun _ => rfl⟩
              · refine wpOp_intro rfl rfl fun K' hK => ?_
                have d10 : On l 10 := on_dep hdep 10 (by kernel_rfl)
                obtain rfl := f10 d10
                have d8 : On l 8 := on_dep hdep 8 (by kernel_rfl)
                obtain rfl := f8 d8
                obtain rfl := hW0 hno
                go_simp
                exact hK.out _ _ ⟨_, _, _, _, _, _, _, _, _, _, _, rfl, ((Array.size_setIfInBounds ..).trans hl), (fun h => absurd (on_self hi' hl) h), (fun _ => rfl), fun h => f0 (h.of_set (by decide)), fun h => f1 (h.of_set (by decide)), fun h => f2 (h.of_set (by decide)), fun h => f3 (h.of_set (by decide)), fun h => f4 (h.of_set (by decide)), fun h => f5 (h.of_set (by decide)), fun h => f6 (h.of_set (by decide)), fun h => f7 (h.of_set (by decide)), fun h => f8 (h.of_set (by decide)), fun h => f9 (h.of_set (by decide)), fun h => f10 (h.of_set (by decide))⟩
            · intro l a w hI hall
              obtain ⟨x59, x60, x61, x62, x63, x64, x65, x66, x67, x68, x69, rfl, hl, hW0, hW1, f0, f1, f2, f3, f4, f5, f6, f7, f8, f9, f10⟩ := hI
              obtain rfl := f0 (hall 0 (by decide))
              obtain rfl := f1 (hall 1 (by decide))
              obtain rfl := f2 (hall 2 (by decide))
              obtain rfl := f3 (hall 3 (by decide))
              obtain rfl := f4 (hall 4 (by decide))
              obtain rfl := f5 (hall 5 (by decide))
              obtain rfl := f6 (hall 6 (by decide))
              obtain rfl := f7 (hall 7 (by decide))
              obtain rfl := f8 (hall 8 (by decide))
              obtain rfl := f9 (hall 9 (by decide))
              obtain rfl := f10 (hall 10 (by decide))
              exact ⟨rfl, hW1 (hall 11 (by decide))⟩
          intro e a W3 h
          cases e <;> first | exact h.elim | skip
          obtain ⟨rfl, hWE⟩ := h
          try dsimp only
          --@ENDREGION12
          have HWB : Hid (w.heap.size ≤ r6) := by show _ ≤ _; rw [HB0.out]; exact Nat.le_of_lt HNE.out
          have Q3 : Hid (Bq W3 b0 62 nilC) := by show Bq _ _ _ _; rw [hWE.out]; exact (Q2.out.drew.oth _ _ (Nat.ne_of_gt HNE.out)).oth _ _ (Nat.ne_of_gt HNE.out)
          have R3 : Hid (Bq W3 r6 62 (recC (c : Int) (d : Int) (g : Int) (f : Int) (t : Int) (.slice none 0 0) (.slice none 0 0) (.slice none 0 0) false)) := by show Bq _ _ _ _; rw [hWE.out]; exact (R2.out.drew.set 3 _).set 4 _
          have G3 : Hid (Bl w W3) := by show Bl _ _; rw [hWE.out]; exact (G2.out.drew.setCell (p := ⟨r6, 3, none⟩) HWB.out _).setCell (p := ⟨r6, 4, none⟩) HWB.out _
          clear hWE Q2 R2 G2 k3 k4 fz y3 y4 N3 N4 v4 v5 HS hsl
          have c30 := Q3.out.cell 0 rfl
          have c31 := Q3.out.cell 1 rfl
          have c32 := Q3.out.cell 2 rfl
          have c33 := Q3.out.cell 3 rfl
          have c34 := Q3.out.cell 4 rfl
          have c35 := Q3.out.cell 5 rfl
          have c36 := Q3.out.cell 6 rfl
          have c37 := Q3.out.cell 7 rfl
          have c38 := Q3.out.cell 8 rfl
          have c3z := fun i => Q3.out.free i
          have u30 := R3.out.cell 0 rfl
          have u31 := R3.out.cell 1 rfl
          have u32 := R3.out.cell 2 rfl
          have u33 := R3.out.cell 3 rfl
          have u34 := R3.out.cell 4 rfl
          have u35 := R3.out.cell 5 rfl
          have u36 := R3.out.cell 6 rfl
          have u37 := R3.out.cell 7 rfl
          have u38 := R3.out.cell 8 rfl
          have u3z := fun i => R3.out.free i
          have hmm := HM.out
          by_cases h17 : 1 < m
          · have HX : Hid (X = (6, rc0)) := by show _ = _; rw [HE.out]; exact tkb_minus HBL.out (by rw [hmm]; exact h17)
            have d17 : decide ((1 : Int) < (m : Int)) = true := decide_eq_true (by omega)
            have e17 : decide (1 < m) = true := decide_eq_true h17
            clear hmm h17
            go_wp2
            (try simp only [Exit.inBlock, Exit.then])
            exact post_none rfl HX.out rfl rfl rfl Q3.out G3.out (Nat.le_of_eq HB0.out) (Or.inr rfl)
          · have hm17 : ¬ 1 < b.getD 17 0 := by rw [hmm]; exact h17
            have d17 : decide ((1 : Int) < (m : Int)) = false := decide_eq_false (by omega)
            have e17 : decide (1 < m) = false := decide_eq_false h17
            have hbl := HBL.out
            have hsa := HSA.out
            have hBs : B.size = b.length := by rw [← HB.out]; exact bs_size b
            have y18 : B.extract 18 B.size = bs (b.drop 18) := by rw [← HB.out, bs_extract, bs_size]; unfold seg; rw [List.take_length]
            have z18 : (0 : Int) ≤ 18 ∧ (18 : Int) ≤ (B.size : Int) := by omega
            have z18' : (18 : Int) ≤ (B.size : Int) := by omega
            obtain ⟨μ, hμ⟩ : ∃ μ, decide (m = 1) = μ := ⟨_, rfl⟩
            have t17 : ((m : Int) == 1) = μ := by
              rw [← hμ]
              by_cases h : m = 1
              · subst h; rfl
              · rw [decide_eq_false h, beq_eq_false_iff_ne]; omega
            have hbb : b.length ≤ 140737488355328 := by omega
            rcases hx1 : tkRow (b.drop 18) with ⟨e1, l1, r1⟩
            have KT1 : Hid (∀ W, Calls Tryd.prog 37 #[.string (bs (b.drop 18))] W (fun e w => ∃ v, e = .returned (.tuple #[v, .string (bs r1), .int .i64 (e1 : Int)]) ∧ Rw .u64 w v l1 ∧ Bl W w)) := fun W => by have h := rtakeRow_any _ (all_dropc hsa 18) (by rw [List.length_drop]; omega) W; rw [hx1] at h; exact h
            obtain ⟨C1, hC1⟩ : ∃ C, bs (b.drop 18) = C := ⟨_, rfl⟩
            rw [hC1] at KT1 y18
            obtain ⟨m1, hm1⟩ : ∃ m, l1.length = m := ⟨_, rfl⟩
            have LN1 := Lib.hid hm1
            clear hC1 hm1 hBs
            by_cases he1 : e1 = 0
            · subst he1
              obtain ⟨ha1, hs1⟩ := tkr_all (all_dropc hsa 18) hx1
              rw [List.length_drop] at hs1
              rcases hx2 : tkRow r1 with ⟨e2, l2, r2⟩
              have KT2 : Hid (∀ W, Calls Tryd.prog 37 #[.string (bs r1)] W (fun e w => ∃ v, e = .returned (.tuple #[v, .string (bs r2), .int .i64 (e2 : Int)]) ∧ Rw .u64 w v l2 ∧ Bl W w)) := fun W => by have h := rtakeRow_any _ ha1 (by omega) W; rw [hx2] at h; exact h
              obtain ⟨m2, hm2⟩ : ∃ m, l2.length = m := ⟨_, rfl⟩
              have LN2 := Lib.hid hm2
              clear hm2
              by_cases he2 : e2 = 0
              · subst he2
                obtain ⟨ha2, hs2⟩ := tkr_all ha1 hx2
                rcases hx3 : tkRow r2 with ⟨e3, l3, r3⟩
                have KT3 : Hid (∀ W, Calls Tryd.prog 37 #[.string (bs r2)] W (fun e w => ∃ v, e = .returned (.tuple #[v, .string (bs r3), .int .i64 (e3 : Int)]) ∧ Rw .u64 w v l3 ∧ Bl W w)) := fun W => by have h := rtakeRow_any _ ha2 (by omega) W; rw [hx3] at h; exact h
                obtain ⟨m3, hm3⟩ : ∃ m, l3.length = m := ⟨_, rfl⟩
                have LN3 := Lib.hid hm3
                clear hm3
                by_cases he3 : e3 = 0
                · subst he3
                  obtain ⟨ha3, hs3⟩ := tkr_all ha2 hx3
                  have hz3 := bs_size r3
                  have rb3 : ((bs r3).size : Int) ≤ 140737488355328 := by omega
                  by_cases hr3 : 0 < r3.length
                  · have HX : Hid (X = (6, rc0)) := by show _ = _; rw [HE.out]; exact tkb_left hbl hm17 hx1 hx2 hx3 hr3
                    have d3 : decide ((0 : Int) < ((bs r3).size : Int)) = true := decide_eq_true (by omega)
                    have e3 : decide (0 < (bs r3).size) = true := decide_eq_true (by omega)
                    obtain ⟨C3, hC3⟩ : ∃ C, bs r3 = C := ⟨_, rfl⟩
                    clear hmm h17 hm17 hbl hsa hμ hbb hx1 hx2 hx3 ha1 ha2 ha3 hs1 hs2 hs3 hz3 hr3 hC3
                    go_wp2_with (first
                      | (go_at_call 37; (with_reducible refine (KT1.out _).mono ?_); rintro e W4 ⟨v1, rfl, hr1, hb1⟩; obtain ⟨Z1, k1', e1'⟩ := rw_open hr1 LN1.out; subst e1'; have V11 := Lib.hid hr1; have Q4 := Lib.hid ((Q3.out.oth _ _ (Nat.ne_of_gt HNE.out)).bl hb1); have R4 := Lib.hid ((R3.out.set 8 _).bl hb1); have G4 := Lib.hid ((G3.out.setCell (p := ⟨r6, 8, none⟩) HWB.out _).trans hb1); have c40 := Q4.out.cell 0 rfl; have c41 := Q4.out.cell 1 rfl; have c42 := Q4.out.cell 2 rfl; have c43 := Q4.out.cell 3 rfl; have c44 := Q4.out.cell 4 rfl; have c45 := Q4.out.cell 5 rfl; have c46 := Q4.out.cell 6 rfl; have c47 := Q4.out.cell 7 rfl; have c48 := Q4.out.cell 8 rfl; have c4z := fun i => Q4.out.free i; have u40 := R4.out.cell 0 rfl; have u41 := R4.out.cell 1 rfl; have u42 := R4.out.cell 2 rfl; have u43 := R4.out.cell 3 rfl; have u44 := R4.out.cell 4 rfl; have u45 := R4.out.cell 5 rfl; have u46 := R4.out.cell 6 rfl; have u47 := R4.out.cell 7 rfl; have u48 := R4.out.cell 8 rfl; have u4z := fun i => R4.out.free i; clear hr1 hb1)
                      | (go_at_call 37; (with_reducible refine (KT2.out _).mono ?_); rintro e W5 ⟨v2, rfl, hr2, hb2⟩; obtain ⟨Z2, k2', e2'⟩ := rw_open hr2 LN2.out; subst e2'; have V22 := Lib.hid hr2; have V12 := Lib.hid (V11.out.bl hb2); have Q5 := Lib.hid ((Q4.out).bl hb2); have R5 := Lib.hid ((R4.out).bl hb2); have G5 := Lib.hid ((G4.out).trans hb2); have c50 := Q5.out.cell 0 rfl; have c51 := Q5.out.cell 1 rfl; have c52 := Q5.out.cell 2 rfl; have c53 := Q5.out.cell 3 rfl; have c54 := Q5.out.cell 4 rfl; have c55 := Q5.out.cell 5 rfl; have c56 := Q5.out.cell 6 rfl; have c57 := Q5.out.cell 7 rfl; have c58 := Q5.out.cell 8 rfl; have c5z := fun i => Q5.out.free i; have u50 := R5.out.cell 0 rfl; have u51 := R5.out.cell 1 rfl; have u52 := R5.out.cell 2 rfl; have u53 := R5.out.cell 3 rfl; have u54 := R5.out.cell 4 rfl; have u55 := R5.out.cell 5 rfl; have u56 := R5.out.cell 6 rfl; have u57 := R5.out.cell 7 rfl; have u58 := R5.out.cell 8 rfl; have u5z := fun i => R5.out.free i; clear hr2 hb2)
                      | (go_at_call 37; (with_reducible refine (KT3.out _).mono ?_); rintro e W6 ⟨v3, rfl, hr3, hb3⟩; obtain ⟨Z3, k3', e3'⟩ := rw_open hr3 LN3.out; subst e3'; have V33 := Lib.hid hr3; have V13 := Lib.hid (V12.out.bl hb3); have V23 := Lib.hid (V22.out.bl hb3); have Q6 := Lib.hid ((Q5.out).bl hb3); have R6 := Lib.hid ((R5.out).bl hb3); have G6 := Lib.hid ((G5.out).trans hb3); have c60 := Q6.out.cell 0 rfl; have c61 := Q6.out.cell 1 rfl; have c62 := Q6.out.cell 2 rfl; have c63 := Q6.out.cell 3 rfl; have c64 := Q6.out.cell 4 rfl; have c65 := Q6.out.cell 5 rfl; have c66 := Q6.out.cell 6 rfl; have c67 := Q6.out.cell 7 rfl; have c68 := Q6.out.cell 8 rfl; have c6z := fun i => Q6.out.free i; have u60 := R6.out.cell 0 rfl; have u61 := R6.out.cell 1 rfl; have u62 := R6.out.cell 2 rfl; have u63 := R6.out.cell 3 rfl; have u64 := R6.out.cell 4 rfl; have u65 := R6.out.cell 5 rfl; have u66 := R6.out.cell 6 rfl; have u67 := R6.out.cell 7 rfl; have u68 := R6.out.cell 8 rfl; have u6z := fun i => R6.out.free i; clear hr3 hb3))
                    (try simp only [Exit.inBlock, Exit.then])
                    exact post_none rfl HX.out rfl rfl rfl Q6.out G6.out (Nat.le_of_eq HB0.out) (Or.inr rfl)

                  · have hend := tkb_end hbl hm17 hx1 hx2 hx3 hr3 HC.out HD.out HG.out HF.out HT.out HM.out
                    rw [hμ] at hend
                    have d3 : decide ((0 : Int) < ((bs r3).size : Int)) = false := decide_eq_false (by omega)
                    have e3 : decide (0 < (bs r3).size) = false := decide_eq_false (by omega)
                    have KM : Hid (∀ W vp vq vt, Rw .u64 W vp l1 → Rw .u64 W vq l2 → Rw .u64 W vt l3 → Calls Tryd.prog 38 #[.agg #[.int .i64 (c : Int), .int .i64 (d : Int), .int .i64 (g : Int), .int .i64 (f : Int), .int .i64 (t : Int), vp, vq, vt, .bool μ]] W fun e w' => e = .returned (.bool (decide (⟨(c : Int), (d : Int), (g : Int), (f : Int), (t : Int), l1, l2, l3, μ⟩ : Rc).May)) ∧ Bl W w') := fun W vp vq vt h1 h2 h3 => rmay_any (⟨(c : Int), (d : Int), (g : Int), (f : Int), (t : Int), l1, l2, l3, μ⟩ : Rc) vp vq vt W h1 h2 h3
                    obtain ⟨C3, hC3⟩ : ∃ C, bs r3 = C := ⟨_, rfl⟩
                    by_cases hmay : (⟨(c : Int), (d : Int), (g : Int), (f : Int), (t : Int), l1, l2, l3, μ⟩ : Rc).May
                    · rw [if_pos hmay] at hend
                      rw [decide_eq_true hmay] at KM
                      have HX : Hid (X = (0, (⟨(c : Int), (d : Int), (g : Int), (f : Int), (t : Int), l1, l2, l3, μ⟩ : Rc))) := by show _ = _; rw [HE.out]; exact hend
                      clear hmm h17 hm17 hbl hsa hμ hbb hx1 hx2 hx3 ha1 ha2 ha3 hs1 hs2 hs3 hz3 hr3 hC3 hend hmay
                      go_wp2_with (first
                        | (go_at_call 37; (with_reducible refine (KT1.out _).mono ?_); rintro e W4 ⟨v1, rfl, hr1, hb1⟩; obtain ⟨Z1, k1', e1'⟩ := rw_open hr1 LN1.out; subst e1'; have V11 := Lib.hid hr1; have Q4 := Lib.hid ((Q3.out.oth _ _ (Nat.ne_of_gt HNE.out)).bl hb1); have R4 := Lib.hid ((R3.out.set 8 _).bl hb1); have G4 := Lib.hid ((G3.out.setCell (p := ⟨r6, 8, none⟩) HWB.out _).trans hb1); have c40 := Q4.out.cell 0 rfl; have c41 := Q4.out.cell 1 rfl; have c42 := Q4.out.cell 2 rfl; have c43 := Q4.out.cell 3 rfl; have c44 := Q4.out.cell 4 rfl; have c45 := Q4.out.cell 5 rfl; have c46 := Q4.out.cell 6 rfl; have c47 := Q4.out.cell 7 rfl; have c48 := Q4.out.cell 8 rfl; have c4z := fun i => Q4.out.free i; have u40 := R4.out.cell 0 rfl; have u41 := R4.out.cell 1 rfl; have u42 := R4.out.cell 2 rfl; have u43 := R4.out.cell 3 rfl; have u44 := R4.out.cell 4 rfl; have u45 := R4.out.cell 5 rfl; have u46 := R4.out.cell 6 rfl; have u47 := R4.out.cell 7 rfl; have u48 := R4.out.cell 8 rfl; have u4z := fun i => R4.out.free i; clear hr1 hb1)
                        | (go_at_call 37; (with_reducible refine (KT2.out _).mono ?_); rintro e W5 ⟨v2, rfl, hr2, hb2⟩; obtain ⟨Z2, k2', e2'⟩ := rw_open hr2 LN2.out; subst e2'; have V22 := Lib.hid hr2; have V12 := Lib.hid (V11.out.bl hb2); have Q5 := Lib.hid ((Q4.out).bl hb2); have R5 := Lib.hid ((R4.out).bl hb2); have G5 := Lib.hid ((G4.out).trans hb2); have c50 := Q5.out.cell 0 rfl; have c51 := Q5.out.cell 1 rfl; have c52 := Q5.out.cell 2 rfl; have c53 := Q5.out.cell 3 rfl; have c54 := Q5.out.cell 4 rfl; have c55 := Q5.out.cell 5 rfl; have c56 := Q5.out.cell 6 rfl; have c57 := Q5.out.cell 7 rfl; have c58 := Q5.out.cell 8 rfl; have c5z := fun i => Q5.out.free i; have u50 := R5.out.cell 0 rfl; have u51 := R5.out.cell 1 rfl; have u52 := R5.out.cell 2 rfl; have u53 := R5.out.cell 3 rfl; have u54 := R5.out.cell 4 rfl; have u55 := R5.out.cell 5 rfl; have u56 := R5.out.cell 6 rfl; have u57 := R5.out.cell 7 rfl; have u58 := R5.out.cell 8 rfl; have u5z := fun i => R5.out.free i; clear hr2 hb2)
                        | (go_at_call 37; (with_reducible refine (KT3.out _).mono ?_); rintro e W6 ⟨v3, rfl, hr3, hb3⟩; obtain ⟨Z3, k3', e3'⟩ := rw_open hr3 LN3.out; subst e3'; have V33 := Lib.hid hr3; have V13 := Lib.hid (V12.out.bl hb3); have V23 := Lib.hid (V22.out.bl hb3); have Q6 := Lib.hid ((Q5.out).bl hb3); have R6 := Lib.hid ((R5.out).bl hb3); have G6 := Lib.hid ((G5.out).trans hb3); have c60 := Q6.out.cell 0 rfl; have c61 := Q6.out.cell 1 rfl; have c62 := Q6.out.cell 2 rfl; have c63 := Q6.out.cell 3 rfl; have c64 := Q6.out.cell 4 rfl; have c65 := Q6.out.cell 5 rfl; have c66 := Q6.out.cell 6 rfl; have c67 := Q6.out.cell 7 rfl; have c68 := Q6.out.cell 8 rfl; have c6z := fun i => Q6.out.free i; have u60 := R6.out.cell 0 rfl; have u61 := R6.out.cell 1 rfl; have u62 := R6.out.cell 2 rfl; have u63 := R6.out.cell 3 rfl; have u64 := R6.out.cell 4 rfl; have u65 := R6.out.cell 5 rfl; have u66 := R6.out.cell 6 rfl; have u67 := R6.out.cell 7 rfl; have u68 := R6.out.cell 8 rfl; have u6z := fun i => R6.out.free i; have V13' := Lib.hid (rw_set3 V13.out R6.out (.slice Z1 m1 k1') (.slice Z2 m2 k2') (.slice Z3 m3 k3')); have V23' := Lib.hid (rw_set3 V23.out R6.out (.slice Z1 m1 k1') (.slice Z2 m2 k2') (.slice Z3 m3 k3')); have V33' := Lib.hid (rw_set3 V33.out R6.out (.slice Z1 m1 k1') (.slice Z2 m2 k2') (.slice Z3 m3 k3')); clear hr3 hb3)
                        | (go_at_call 38; (with_reducible refine (KM.out _ _ _ _ V13'.out V23'.out V33'.out).mono ?_); rintro e W7 ⟨rfl, hb7⟩; have Q7 := Lib.hid ((oth_set3 Q6.out (Nat.ne_of_gt HNE.out) (.slice Z1 m1 k1') (.slice Z2 m2 k2') (.slice Z3 m3 k3')).bl hb7); have R7 := Lib.hid ((rec_set3 R6.out (.slice Z1 m1 k1') (.slice Z2 m2 k2') (.slice Z3 m3 k3')).bl hb7); have G7 := Lib.hid ((bl_set3 G6.out HWB.out (.slice Z1 m1 k1') (.slice Z2 m2 k2') (.slice Z3 m3 k3')).trans hb7); have V17 := Lib.hid (V13'.out.bl hb7); have V27 := Lib.hid (V23'.out.bl hb7); have V37 := Lib.hid (V33'.out.bl hb7); have c70 := Q7.out.cell 0 rfl; have c71 := Q7.out.cell 1 rfl; have c72 := Q7.out.cell 2 rfl; have c73 := Q7.out.cell 3 rfl; have c74 := Q7.out.cell 4 rfl; have c75 := Q7.out.cell 5 rfl; have c76 := Q7.out.cell 6 rfl; have c77 := Q7.out.cell 7 rfl; have c78 := Q7.out.cell 8 rfl; have c7z := fun i => Q7.out.free i; have u70 := R7.out.cell 0 rfl; have u71 := R7.out.cell 1 rfl; have u72 := R7.out.cell 2 rfl; have u73 := R7.out.cell 3 rfl; have u74 := R7.out.cell 4 rfl; have u75 := R7.out.cell 5 rfl; have u76 := R7.out.cell 6 rfl; have u77 := R7.out.cell 7 rfl; have u78 := R7.out.cell 8 rfl; have u7z := fun i => R7.out.free i; clear hb7))
                      (try simp only [Exit.inBlock, Exit.then])
                      have HZ : Hid (RecEnd w X (.returned (.tuple #[.agg #[.int .i64 (c : Int), .int .i64 (d : Int), .int .i64 (g : Int), .int .i64 (f : Int), .int .i64 (t : Int), .slice Z1 m1 k1', .slice Z2 m2 k2', .slice Z3 m3 k3', .bool μ], .int .i64 0])) (set9 W7 b0 (recC (c : Int) (d : Int) (g : Int) (f : Int) (t : Int) (.slice Z1 m1 k1') (.slice Z2 m2 k2') (.slice Z3 m3 k3') μ))) := by
                        show RecEnd _ _ _ _
                        rw [HX.out]
                        exact ⟨_, _, _, rfl, rw_set9 V17.out Q7.out _, rw_set9 V27.out Q7.out _, rw_set9 V37.out Q7.out _, bl_set9 G7.out (Nat.le_of_eq HB0.out) _⟩
                      exact bodyPost_ret (ret_rec rfl rfl rfl (rec_set Q7.out (c : Int) (d : Int) (g : Int) (f : Int) (t : Int) (.slice Z1 m1 k1') (.slice Z2 m2 k2') (.slice Z3 m3 k3') μ)) rfl HZ.out
                    · rw [if_neg hmay] at hend
                      rw [decide_eq_false hmay] at KM
                      have HX : Hid (X = (1, rc0)) := by show _ = _; rw [HE.out]; exact hend
                      clear hmm h17 hm17 hbl hsa hμ hbb hx1 hx2 hx3 ha1 ha2 ha3 hs1 hs2 hs3 hz3 hr3 hC3 hend hmay
                      go_wp2_with (first
                        | (go_at_call 37; (with_reducible refine (KT1.out _).mono ?_); rintro e W4 ⟨v1, rfl, hr1, hb1⟩; obtain ⟨Z1, k1', e1'⟩ := rw_open hr1 LN1.out; subst e1'; have V11 := Lib.hid hr1; have Q4 := Lib.hid ((Q3.out.oth _ _ (Nat.ne_of_gt HNE.out)).bl hb1); have R4 := Lib.hid ((R3.out.set 8 _).bl hb1); have G4 := Lib.hid ((G3.out.setCell (p := ⟨r6, 8, none⟩) HWB.out _).trans hb1); have c40 := Q4.out.cell 0 rfl; have c41 := Q4.out.cell 1 rfl; have c42 := Q4.out.cell 2 rfl; have c43 := Q4.out.cell 3 rfl; have c44 := Q4.out.cell 4 rfl; have c45 := Q4.out.cell 5 rfl; have c46 := Q4.out.cell 6 rfl; have c47 := Q4.out.cell 7 rfl; have c48 := Q4.out.cell 8 rfl; have c4z := fun i => Q4.out.free i; have u40 := R4.out.cell 0 rfl; have u41 := R4.out.cell 1 rfl; have u42 := R4.out.cell 2 rfl; have u43 := R4.out.cell 3 rfl; have u44 := R4.out.cell 4 rfl; have u45 := R4.out.cell 5 rfl; have u46 := R4.out.cell 6 rfl; have u47 := R4.out.cell 7 rfl; have u48 := R4.out.cell 8 rfl; have u4z := fun i => R4.out.free i; clear hr1 hb1)
                        | (go_at_call 37; (with_reducible refine (KT2.out _).mono ?_); rintro e W5 ⟨v2, rfl, hr2, hb2⟩; obtain ⟨Z2, k2', e2'⟩ := rw_open hr2 LN2.out; subst e2'; have V22 := Lib.hid hr2; have V12 := Lib.hid (V11.out.bl hb2); have Q5 := Lib.hid ((Q4.out).bl hb2); have R5 := Lib.hid ((R4.out).bl hb2); have G5 := Lib.hid ((G4.out).trans hb2); have c50 := Q5.out.cell 0 rfl; have c51 := Q5.out.cell 1 rfl; have c52 := Q5.out.cell 2 rfl; have c53 := Q5.out.cell 3 rfl; have c54 := Q5.out.cell 4 rfl; have c55 := Q5.out.cell 5 rfl; have c56 := Q5.out.cell 6 rfl; have c57 := Q5.out.cell 7 rfl; have c58 := Q5.out.cell 8 rfl; have c5z := fun i => Q5.out.free i; have u50 := R5.out.cell 0 rfl; have u51 := R5.out.cell 1 rfl; have u52 := R5.out.cell 2 rfl; have u53 := R5.out.cell 3 rfl; have u54 := R5.out.cell 4 rfl; have u55 := R5.out.cell 5 rfl; have u56 := R5.out.cell 6 rfl; have u57 := R5.out.cell 7 rfl; have u58 := R5.out.cell 8 rfl; have u5z := fun i => R5.out.free i; clear hr2 hb2)
                        | (go_at_call 37; (with_reducible refine (KT3.out _).mono ?_); rintro e W6 ⟨v3, rfl, hr3, hb3⟩; obtain ⟨Z3, k3', e3'⟩ := rw_open hr3 LN3.out; subst e3'; have V33 := Lib.hid hr3; have V13 := Lib.hid (V12.out.bl hb3); have V23 := Lib.hid (V22.out.bl hb3); have Q6 := Lib.hid ((Q5.out).bl hb3); have R6 := Lib.hid ((R5.out).bl hb3); have G6 := Lib.hid ((G5.out).trans hb3); have c60 := Q6.out.cell 0 rfl; have c61 := Q6.out.cell 1 rfl; have c62 := Q6.out.cell 2 rfl; have c63 := Q6.out.cell 3 rfl; have c64 := Q6.out.cell 4 rfl; have c65 := Q6.out.cell 5 rfl; have c66 := Q6.out.cell 6 rfl; have c67 := Q6.out.cell 7 rfl; have c68 := Q6.out.cell 8 rfl; have c6z := fun i => Q6.out.free i; have u60 := R6.out.cell 0 rfl; have u61 := R6.out.cell 1 rfl; have u62 := R6.out.cell 2 rfl; have u63 := R6.out.cell 3 rfl; have u64 := R6.out.cell 4 rfl; have u65 := R6.out.cell 5 rfl; have u66 := R6.out.cell 6 rfl; have u67 := R6.out.cell 7 rfl; have u68 := R6.out.cell 8 rfl; have u6z := fun i => R6.out.free i; have V13' := Lib.hid (rw_set3 V13.out R6.out (.slice Z1 m1 k1') (.slice Z2 m2 k2') (.slice Z3 m3 k3')); have V23' := Lib.hid (rw_set3 V23.out R6.out (.slice Z1 m1 k1') (.slice Z2 m2 k2') (.slice Z3 m3 k3')); have V33' := Lib.hid (rw_set3 V33.out R6.out (.slice Z1 m1 k1') (.slice Z2 m2 k2') (.slice Z3 m3 k3')); clear hr3 hb3)
                        | (go_at_call 38; (with_reducible refine (KM.out _ _ _ _ V13'.out V23'.out V33'.out).mono ?_); rintro e W7 ⟨rfl, hb7⟩; have Q7 := Lib.hid ((oth_set3 Q6.out (Nat.ne_of_gt HNE.out) (.slice Z1 m1 k1') (.slice Z2 m2 k2') (.slice Z3 m3 k3')).bl hb7); have R7 := Lib.hid ((rec_set3 R6.out (.slice Z1 m1 k1') (.slice Z2 m2 k2') (.slice Z3 m3 k3')).bl hb7); have G7 := Lib.hid ((bl_set3 G6.out HWB.out (.slice Z1 m1 k1') (.slice Z2 m2 k2') (.slice Z3 m3 k3')).trans hb7); have V17 := Lib.hid (V13'.out.bl hb7); have V27 := Lib.hid (V23'.out.bl hb7); have V37 := Lib.hid (V33'.out.bl hb7); have c70 := Q7.out.cell 0 rfl; have c71 := Q7.out.cell 1 rfl; have c72 := Q7.out.cell 2 rfl; have c73 := Q7.out.cell 3 rfl; have c74 := Q7.out.cell 4 rfl; have c75 := Q7.out.cell 5 rfl; have c76 := Q7.out.cell 6 rfl; have c77 := Q7.out.cell 7 rfl; have c78 := Q7.out.cell 8 rfl; have c7z := fun i => Q7.out.free i; have u70 := R7.out.cell 0 rfl; have u71 := R7.out.cell 1 rfl; have u72 := R7.out.cell 2 rfl; have u73 := R7.out.cell 3 rfl; have u74 := R7.out.cell 4 rfl; have u75 := R7.out.cell 5 rfl; have u76 := R7.out.cell 6 rfl; have u77 := R7.out.cell 7 rfl; have u78 := R7.out.cell 8 rfl; have u7z := fun i => R7.out.free i; clear hb7))
                      (try simp only [Exit.inBlock, Exit.then])
                      exact post_none rfl HX.out rfl rfl rfl Q7.out G7.out (Nat.le_of_eq HB0.out) (Or.inr rfl)
                · have HX : Hid (X = (e3, rc0)) := by show _ = _; rw [HE.out]; exact tkb_three hbl hm17 hx1 hx2 hx3 he3
                  have n3 : ((e3 : Int) != 0) = true := by rw [bne_iff_ne]; omega
                  clear hmm h17 hm17 hbl hsa hμ hbb hx1 hx2 hx3 ha1 ha2 hs1 hs2 he3
                  go_wp2_with (first
                    | (go_at_call 37; (with_reducible refine (KT1.out _).mono ?_); rintro e W4 ⟨v1, rfl, hr1, hb1⟩; obtain ⟨Z1, k1', e1'⟩ := rw_open hr1 LN1.out; subst e1'; have V11 := Lib.hid hr1; have Q4 := Lib.hid ((Q3.out.oth _ _ (Nat.ne_of_gt HNE.out)).bl hb1); have R4 := Lib.hid ((R3.out.set 8 _).bl hb1); have G4 := Lib.hid ((G3.out.setCell (p := ⟨r6, 8, none⟩) HWB.out _).trans hb1); have c40 := Q4.out.cell 0 rfl; have c41 := Q4.out.cell 1 rfl; have c42 := Q4.out.cell 2 rfl; have c43 := Q4.out.cell 3 rfl; have c44 := Q4.out.cell 4 rfl; have c45 := Q4.out.cell 5 rfl; have c46 := Q4.out.cell 6 rfl; have c47 := Q4.out.cell 7 rfl; have c48 := Q4.out.cell 8 rfl; have c4z := fun i => Q4.out.free i; have u40 := R4.out.cell 0 rfl; have u41 := R4.out.cell 1 rfl; have u42 := R4.out.cell 2 rfl; have u43 := R4.out.cell 3 rfl; have u44 := R4.out.cell 4 rfl; have u45 := R4.out.cell 5 rfl; have u46 := R4.out.cell 6 rfl; have u47 := R4.out.cell 7 rfl; have u48 := R4.out.cell 8 rfl; have u4z := fun i => R4.out.free i; clear hr1 hb1)
                    | (go_at_call 37; (with_reducible refine (KT2.out _).mono ?_); rintro e W5 ⟨v2, rfl, hr2, hb2⟩; obtain ⟨Z2, k2', e2'⟩ := rw_open hr2 LN2.out; subst e2'; have V22 := Lib.hid hr2; have V12 := Lib.hid (V11.out.bl hb2); have Q5 := Lib.hid ((Q4.out).bl hb2); have R5 := Lib.hid ((R4.out).bl hb2); have G5 := Lib.hid ((G4.out).trans hb2); have c50 := Q5.out.cell 0 rfl; have c51 := Q5.out.cell 1 rfl; have c52 := Q5.out.cell 2 rfl; have c53 := Q5.out.cell 3 rfl; have c54 := Q5.out.cell 4 rfl; have c55 := Q5.out.cell 5 rfl; have c56 := Q5.out.cell 6 rfl; have c57 := Q5.out.cell 7 rfl; have c58 := Q5.out.cell 8 rfl; have c5z := fun i => Q5.out.free i; have u50 := R5.out.cell 0 rfl; have u51 := R5.out.cell 1 rfl; have u52 := R5.out.cell 2 rfl; have u53 := R5.out.cell 3 rfl; have u54 := R5.out.cell 4 rfl; have u55 := R5.out.cell 5 rfl; have u56 := R5.out.cell 6 rfl; have u57 := R5.out.cell 7 rfl; have u58 := R5.out.cell 8 rfl; have u5z := fun i => R5.out.free i; clear hr2 hb2)
                    | (go_at_call 37; (with_reducible refine (KT3.out _).mono ?_); rintro e W6 ⟨v3, rfl, hr3, hb3⟩; obtain ⟨Z3, k3', e3'⟩ := rw_open hr3 LN3.out; subst e3'; have V33 := Lib.hid hr3; have V13 := Lib.hid (V12.out.bl hb3); have V23 := Lib.hid (V22.out.bl hb3); have Q6 := Lib.hid ((Q5.out).bl hb3); have R6 := Lib.hid ((R5.out).bl hb3); have G6 := Lib.hid ((G5.out).trans hb3); have c60 := Q6.out.cell 0 rfl; have c61 := Q6.out.cell 1 rfl; have c62 := Q6.out.cell 2 rfl; have c63 := Q6.out.cell 3 rfl; have c64 := Q6.out.cell 4 rfl; have c65 := Q6.out.cell 5 rfl; have c66 := Q6.out.cell 6 rfl; have c67 := Q6.out.cell 7 rfl; have c68 := Q6.out.cell 8 rfl; have c6z := fun i => Q6.out.free i; have u60 := R6.out.cell 0 rfl; have u61 := R6.out.cell 1 rfl; have u62 := R6.out.cell 2 rfl; have u63 := R6.out.cell 3 rfl; have u64 := R6.out.cell 4 rfl; have u65 := R6.out.cell 5 rfl; have u66 := R6.out.cell 6 rfl; have u67 := R6.out.cell 7 rfl; have u68 := R6.out.cell 8 rfl; have u6z := fun i => R6.out.free i; clear hr3 hb3))
                  (try simp only [Exit.inBlock, Exit.then])
                  exact post_none rfl HX.out rfl rfl rfl Q6.out G6.out (Nat.le_of_eq HB0.out) (Or.inr rfl)

              · have HX : Hid (X = (e2, rc0)) := by show _ = _; rw [HE.out]; exact tkb_two hbl hm17 hx1 hx2 he2
                have n2 : ((e2 : Int) != 0) = true := by rw [bne_iff_ne]; omega
                clear hmm h17 hm17 hbl hsa hμ hbb hx1 hx2 ha1 hs1 he2
                go_wp2_with (first
                  | (go_at_call 37; (with_reducible refine (KT1.out _).mono ?_); rintro e W4 ⟨v1, rfl, hr1, hb1⟩; obtain ⟨Z1, k1', e1'⟩ := rw_open hr1 LN1.out; subst e1'; have V11 := Lib.hid hr1; have Q4 := Lib.hid ((Q3.out.oth _ _ (Nat.ne_of_gt HNE.out)).bl hb1); have R4 := Lib.hid ((R3.out.set 8 _).bl hb1); have G4 := Lib.hid ((G3.out.setCell (p := ⟨r6, 8, none⟩) HWB.out _).trans hb1); have c40 := Q4.out.cell 0 rfl; have c41 := Q4.out.cell 1 rfl; have c42 := Q4.out.cell 2 rfl; have c43 := Q4.out.cell 3 rfl; have c44 := Q4.out.cell 4 rfl; have c45 := Q4.out.cell 5 rfl; have c46 := Q4.out.cell 6 rfl; have c47 := Q4.out.cell 7 rfl; have c48 := Q4.out.cell 8 rfl; have c4z := fun i => Q4.out.free i; have u40 := R4.out.cell 0 rfl; have u41 := R4.out.cell 1 rfl; have u42 := R4.out.cell 2 rfl; have u43 := R4.out.cell 3 rfl; have u44 := R4.out.cell 4 rfl; have u45 := R4.out.cell 5 rfl; have u46 := R4.out.cell 6 rfl; have u47 := R4.out.cell 7 rfl; have u48 := R4.out.cell 8 rfl; have u4z := fun i => R4.out.free i; clear hr1 hb1)
                  | (go_at_call 37; (with_reducible refine (KT2.out _).mono ?_); rintro e W5 ⟨v2, rfl, hr2, hb2⟩; obtain ⟨Z2, k2', e2'⟩ := rw_open hr2 LN2.out; subst e2'; have V22 := Lib.hid hr2; have V12 := Lib.hid (V11.out.bl hb2); have Q5 := Lib.hid ((Q4.out).bl hb2); have R5 := Lib.hid ((R4.out).bl hb2); have G5 := Lib.hid ((G4.out).trans hb2); have c50 := Q5.out.cell 0 rfl; have c51 := Q5.out.cell 1 rfl; have c52 := Q5.out.cell 2 rfl; have c53 := Q5.out.cell 3 rfl; have c54 := Q5.out.cell 4 rfl; have c55 := Q5.out.cell 5 rfl; have c56 := Q5.out.cell 6 rfl; have c57 := Q5.out.cell 7 rfl; have c58 := Q5.out.cell 8 rfl; have c5z := fun i => Q5.out.free i; have u50 := R5.out.cell 0 rfl; have u51 := R5.out.cell 1 rfl; have u52 := R5.out.cell 2 rfl; have u53 := R5.out.cell 3 rfl; have u54 := R5.out.cell 4 rfl; have u55 := R5.out.cell 5 rfl; have u56 := R5.out.cell 6 rfl; have u57 := R5.out.cell 7 rfl; have u58 := R5.out.cell 8 rfl; have u5z := fun i => R5.out.free i; clear hr2 hb2))
                (try simp only [Exit.inBlock, Exit.then])
                exact post_none rfl HX.out rfl rfl rfl Q5.out G5.out (Nat.le_of_eq HB0.out) (Or.inr rfl)

            · have HX : Hid (X = (e1, rc0)) := by show _ = _; rw [HE.out]; exact tkb_one hbl hm17 hx1 he1
              have n1 : ((e1 : Int) != 0) = true := by rw [bne_iff_ne]; omega
              clear hmm h17 hm17 hbl hsa hμ hbb hx1 he1
              go_wp2_with (go_at_call 37; (with_reducible refine (KT1.out _).mono ?_); rintro e W4 ⟨v1, rfl, hr1, hb1⟩; obtain ⟨Z1, k1', e1'⟩ := rw_open hr1 LN1.out; subst e1'; have V11 := Lib.hid hr1; have Q4 := Lib.hid ((Q3.out.oth _ _ (Nat.ne_of_gt HNE.out)).bl hb1); have R4 := Lib.hid ((R3.out.set 8 _).bl hb1); have G4 := Lib.hid ((G3.out.setCell (p := ⟨r6, 8, none⟩) HWB.out _).trans hb1); have c40 := Q4.out.cell 0 rfl; have c41 := Q4.out.cell 1 rfl; have c42 := Q4.out.cell 2 rfl; have c43 := Q4.out.cell 3 rfl; have c44 := Q4.out.cell 4 rfl; have c45 := Q4.out.cell 5 rfl; have c46 := Q4.out.cell 6 rfl; have c47 := Q4.out.cell 7 rfl; have c48 := Q4.out.cell 8 rfl; have c4z := fun i => Q4.out.free i; have u40 := R4.out.cell 0 rfl; have u41 := R4.out.cell 1 rfl; have u42 := R4.out.cell 2 rfl; have u43 := R4.out.cell 3 rfl; have u44 := R4.out.cell 4 rfl; have u45 := R4.out.cell 5 rfl; have u46 := R4.out.cell 6 rfl; have u47 := R4.out.cell 7 rfl; have u48 := R4.out.cell 8 rfl; have u4z := fun i => R4.out.free i; clear hr1 hb1)
              (try simp only [Exit.inBlock, Exit.then])
              exact post_none rfl HX.out rfl rfl rfl Q4.out G4.out (Nat.le_of_eq HB0.out) (Or.inr rfl)
      · rw [decide_eq_false htl] at q4
        have HF : Hid (X = (6, rc0)) := by show _ = _; rw [HE.out, if_pos htl]
        clear hz h8 hS hx hy hX hT1 hT2 hb1 hb2 hne hn ha hl hT4 htl
        go_enter Tryd.func25, Tryd.ntmps25
        go_wp2
        go_quiet (first
          | (go_at_call 35; exact quiet_left (K1.out _))
          | (go_at_call 36; exact quiet_left (K2.out _)))
        go_wp2
        (try simp only [Exit.inBlock, Exit.then])
        exact post_none rfl HF.out rfl rfl rfl ((Bq.new w 62 nilC).drewN nq) (((Bl.refl _).alloc _).drewN _) (Nat.le_refl _) (Or.inr rfl)
    · have HF : Hid (X = (7, rc0)) := by show _ = _; rw [HE.out, if_pos hne]
      have t0 : ((x : Int) != (y : Int)) = true := by rw [bne_iff_ne]; omega
      clear hz h8 hS hx hy hX hT1 hT2 hb1 hb2 hne hn ha hl
      go_enter Tryd.func25, Tryd.ntmps25
      go_wp2
      go_quiet (first
        | (go_at_call 35; exact quiet_left (K1.out _))
        | (go_at_call 36; exact quiet_left (K2.out _)))
      go_wp2
      (try simp only [Exit.inBlock, Exit.then])
      exact post_none rfl HF.out rfl rfl rfl ((Bq.new w 62 nilC).drewN nq) (((Bl.refl _).alloc _).drewN _) (Nat.le_refl _) (Or.inr rfl)
end Go.Proofs.YtdaglbjdgdokpaaDoor
