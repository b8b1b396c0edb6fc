/-
  Package crc: decoded: what its steps come to (no program in sight). · Package crc: valid.
-/
import Derived.Test.YtdaglbjdgdokpaaDoorPk26
import Derived.Test.YtdaglbjdgdokpaaDoorPk27
import Derived.Test.YtdaglbjdgdokpaaDoorPk25
namespace Go.Proofs.YtdaglbjdgdokpaaDoor
open Go.RowKit
set_option linter.unusedVariables false
set_option linter.unusedSimpArgs false

/-- p bytes have been taken, of the first eighteen. -/
def DcI (s : List Nat) (p n : Nat) (r : List Nat) : Prop := (n = 0 ∧ r = s.drop p ∧ p ≤ s.length) ∨ (n = 5 ∧ s.length < 18)
theorem numE_lt {k n : Nat} {s : List Nat} (ha : All 256 s) : (numE k n s).1 < 256 ^ k := by
  unfold numE
  split
  · exact Nat.pow_pos (by decide)
  · split
    · exact Nat.pow_pos (by decide)
    · rename_i h
      have := bnum_lt (all_take ha k)
      rwa [List.length_take, Nat.min_eq_left (by omega)] at this
theorem dci_start (s : List Nat) : DcI s 0 0 s := Or.inl ⟨rfl, rfl, Nat.zero_le _⟩
theorem dci_step {s r r' : List Nat} {p n k v n' : Nat} (h : DcI s p n r) (hk : p + k ≤ 18) (hx : numE k n r = (v, n', r')) : DcI s (p + k) n' r' ∧ (n' = 0 → n = 0 ∧ v = bnum (seg s p (p + k)) ∧ p + k ≤ s.length) := by
  unfold numE at hx
  rcases h with ⟨rfl, rfl, hp⟩ | ⟨rfl, hl⟩
  · rw [if_neg (by decide)] at hx
    by_cases hs : (s.drop p).length < k
    · rw [if_pos hs] at hx
      simp only [Prod.mk.injEq] at hx
      obtain ⟨rfl, rfl, rfl⟩ := hx
      rw [List.length_drop] at hs
      exact ⟨Or.inr ⟨rfl, by omega⟩, fun h => absurd h (by decide)⟩
    · rw [if_neg hs] at hx
      simp only [Prod.mk.injEq] at hx
      obtain ⟨rfl, rfl, rfl⟩ := hx
      rw [List.length_drop] at hs
      refine ⟨Or.inl ⟨rfl, by rw [List.drop_drop], by omega⟩, fun _ => ⟨rfl, ?_, by omega⟩⟩
      unfold seg
      rw [List.drop_take, Nat.add_sub_cancel_left]
  · rw [if_pos (by decide)] at hx
    simp only [Prod.mk.injEq] at hx
    obtain ⟨rfl, rfl, rfl⟩ := hx
    exact ⟨Or.inr ⟨rfl, hl⟩, fun h => absurd h (by decide)⟩
theorem bnum_one (x : Nat) : bnum [x] = x := by show 256 * 0 + x = x; omega
theorem ckE_keep {ok : Bool} {e n : Nat} (h : n ≠ 0) : ckE ok e n = n := by unfold ckE; rw [if_neg h]
/-- What decoded comes to. -/
theorem decoded_is {s s1 s2 s3 s4 s5 s6 s8 s9 s10 l1 l2 l3 : List Nat} {c d g f t m n1 n2 n3 n4 n5 n6 n8 n9 n10 : Nat}
    (h1 : numE 1 0 s = (c, n1, s1)) (h2 : numE 4 n1 s1 = (d, n2, s2)) (h3 : numE 4 n2 s2 = (g, n3, s3)) (h4 : numE 4 n3 s3 = (f, n4, s4)) (h5 : numE 4 n4 s4 = (t, n5, s5)) (h6 : numE 1 n5 s5 = (m, n6, s6))
    (w1 : WdR s6 (ckE (decide (m ≤ 1)) 6 n6) l1 n8 s8) (w2 : WdR s8 n8 l2 n9 s9) (w3 : WdR s9 n9 l3 n10 s10) (r : Rc) (hr : r = ⟨(c : Int), (d : Int), (g : Int), (f : Int), (t : Int), l1, l2, l3, decide (m = 1)⟩) :
    ckE (decide r.May) 1 (ckE (decide (s10 = [])) 6 n10) = (tkBody s).1 ∧ ((tkBody s).1 = 0 → r = (tkBody s).2) := by
  obtain ⟨i1, v1⟩ := dci_step (dci_start s) (by decide) h1
  obtain ⟨i2, v2⟩ := dci_step i1 (by decide) h2
  obtain ⟨i3, v3⟩ := dci_step i2 (by decide) h3
  obtain ⟨i4, v4⟩ := dci_step i3 (by decide) h4
  obtain ⟨i5, v5⟩ := dci_step i4 (by decide) h5
  obtain ⟨i6, v6⟩ := dci_step i5 (by decide) h6
  have bad : ∀ e, n10 = e → e ≠ 0 → tkBody s = (e, rc0) → ckE (decide r.May) 1 (ckE (decide (s10 = [])) 6 n10) = (tkBody s).1 ∧ ((tkBody s).1 = 0 → r = (tkBody s).2) := by
    intro e he h0 ht
    rw [ht, ckE_keep (by rw [ckE_keep (by omega)]; omega), ckE_keep (by omega)]
    exact ⟨he, fun h => absurd h h0⟩
  rcases i6 with ⟨rfl, e6, h18⟩ | ⟨rfl, hl⟩
  · obtain ⟨z5, y6, _⟩ := v6 rfl
    obtain ⟨z4, y5, _⟩ := v5 z5
    obtain ⟨z3, y4, _⟩ := v4 z4
    obtain ⟨z2, y3, _⟩ := v3 z3
    obtain ⟨z1, y2, _⟩ := v2 z2
    obtain ⟨_, y1, _⟩ := v1 z1
    have hnl : ¬ s.length < 18 := by omega
    have g0 : s.getD 0 0 = c := by
      rw [y1, seg_one (by omega), bnum_one]
    have g17 : s.getD 17 0 = m := by
      rw [y6, seg_one (by omega), bnum_one]
    subst e6
    by_cases hm : 1 < m
    · have e7 : ckE (decide (m ≤ 1)) 6 0 = 6 := by rw [decide_eq_false (by omega)]; rfl
      rw [e7] at w1
      have k8 := w1.keep (by decide)
      have k9 := w2.keep (by omega)
      have k10 := w3.keep (by omega)
      exact bad 6 (by omega) (by decide) (tkb_minus hnl (by rw [g17]; exact hm))
    · have e7 : ckE (decide (m ≤ 1)) 6 0 = 0 := by rw [decide_eq_true (by omega)]; rfl
      rw [e7] at w1
      have hm' : ¬ 1 < s.getD 17 0 := by rw [g17]; exact hm
      have r1 : tkRow (s.drop 18) = ((tkRow (s.drop 18)).1, (tkRow (s.drop 18)).2.1, (tkRow (s.drop 18)).2.2) := rfl
      have k8 := w1.err rfl
      by_cases h8 : n8 = 0
      · obtain ⟨q1, q2⟩ := w1.ok rfl h8
        have x1 : tkRow (s.drop 18) = (0, l1, s8) := by rw [q1, q2, r1]; simp only [← k8, h8]
        have k9 := w2.err h8
        by_cases h9 : n9 = 0
        · obtain ⟨q3, q4⟩ := w2.ok h8 h9
          have x2 : tkRow s8 = (0, l2, s9) := by rw [q3, q4]; exact Prod.ext (by rw [← k9]; exact h9) rfl
          have k10 := w3.err h9
          by_cases h10 : n10 = 0
          · obtain ⟨q5, q6⟩ := w3.ok h9 h10
            have x3 : tkRow s9 = (0, l3, s10) := by rw [q5, q6]; exact Prod.ext (by rw [← k10]; exact h10) rfl
            by_cases hs : 0 < s10.length
            · have ht := tkb_left hnl hm' x1 x2 x3 hs
              have hne : s10 ≠ [] := by intro e; rw [e] at hs; exact absurd hs (by decide)
              have e11 : ckE (decide (s10 = [])) 6 n10 = 6 := by rw [h10, decide_eq_false hne]; rfl
              rw [e11, ht]
              exact ⟨rfl, fun h => absurd h (by decide)⟩
            · have ht := tkb_end hnl hm' x1 x2 x3 hs g0 y2.symm y3.symm y4.symm y5.symm g17
              rw [← hr] at ht
              have hne : s10 = [] := List.length_eq_zero_iff.1 (by omega)
              have e11 : ckE (decide (s10 = [])) 6 n10 = 0 := by rw [h10, decide_eq_true hne]; rfl
              rw [e11, ht]
              by_cases hM : r.May
              · rw [if_pos hM, decide_eq_true hM]; exact ⟨rfl, fun _ => rfl⟩
              · rw [if_neg hM, decide_eq_false hM]; exact ⟨rfl, fun h => absurd h (by decide)⟩
          · have x3 : tkRow s9 = (n10, (tkRow s9).2.1, (tkRow s9).2.2) := Prod.ext k10.symm rfl
            exact bad n10 rfl h10 (tkb_three hnl hm' x1 x2 x3 h10)
        · have x2 : tkRow s8 = (n9, (tkRow s8).2.1, (tkRow s8).2.2) := Prod.ext k9.symm rfl
          have k10 := w3.keep h9
          exact bad n9 k10 h9 (tkb_two hnl hm' x1 x2 h9)
      · have x1 : tkRow (s.drop 18) = (n8, (tkRow (s.drop 18)).2.1, (tkRow (s.drop 18)).2.2) := Prod.ext k8.symm rfl
        have k9 := w2.keep h8
        have k10 := w3.keep (by omega)
        exact bad n8 (by omega) h8 (tkb_one hnl hm' x1 h8)
  · have e7 : ckE (decide (m ≤ 1)) 6 5 = 5 := ckE_keep (by decide)
    rw [e7] at w1
    have k8 := w1.keep (by decide)
    have k9 := w2.keep (by omega)
    have k10 := w3.keep (by omega)
    exact bad 5 (by omega) (by decide) (by unfold tkBody; rw [if_pos hl])

/-- What decoded, and opened, hand back. -/
def DcEnd (W : World) (x : Nat × Rc) (e : Ending) (w : World) : Prop :=
  ∃ r vp vq vt v, e = .returned (.tuple #[recV r vp vq vt, v]) ∧ ErV x.1 v ∧ (x.1 = 0 → r = x.2) ∧ Rw .u64 w vp r.p ∧ Rw .u64 w vq r.q ∧ Rw .u64 w vt r.t ∧ Bl W w
theorem post_dc {W w0 w' : World} {fn : Func} {p u : Tmp} {b : Nat} {a : Act} {x : Nat × Rc} (con dgs gua frm til : Int) (vp vq vt : Value) (minus : Bool) (lp lq lt : List Nat) (v : Value) (h : fn.results = #[.cell p 62, .tmp u]) (hp : a.tmps.getD p undef = .pointer (some ⟨b, 0, none⟩)) (hu : a.tmps.getD u undef = v) (hd : a.defers = [])
    (hb : Bq w0 b 62 nilC) (hev : ErV x.1 v) (hx : x.1 = 0 → (⟨con, dgs, gua, frm, til, lp, lq, lt, minus⟩ : Rc) = x.2) (rp : Rw .u64 w0 vp lp) (rq : Rw .u64 w0 vq lq) (rt : Rw .u64 w0 vt lt) (hg : Bl W w0) (hbb : W.heap.size ≤ b)
    (hw : w' = (set9 w0 b (recC con dgs gua frm til vp vq vt minus)).drew) : bodyPost Tryd.prog fn (DcEnd W x) .ret a w' := by
  subst hw
  exact bodyPost_ret (ret_rec h hp hu (rec_set hb con dgs gua frm til vp vq vt minus).drew) hd ⟨⟨con, dgs, gua, frm, til, lp, lq, lt, minus⟩, vp, vq, vt, v, rfl, hev, hx, (rw_set9 rp hb _).bl (Bl.refl _).drew, (rw_set9 rq hb _).bl (Bl.refl _).drew, (rw_set9 rt hb _).bl (Bl.refl _).drew, (bl_set9 hg hbb _).drew⟩
theorem all_num {k n v n' : Nat} {s s' : List Nat} (ha : All 256 s) (h : numE k n s = (v, n', s')) : All 256 s' ∧ v < 256 ^ k := by
  have h1 := numE_lt (k := k) (n := n) ha
  rw [h] at h1
  refine ⟨?_, h1⟩
  unfold numE at h
  split at h
  · simp only [Prod.mk.injEq] at h; rw [← h.2.2]; exact ha
  · split at h
    · simp only [Prod.mk.injEq] at h; rw [← h.2.2]; exact ha
    · simp only [Prod.mk.injEq] at h; rw [← h.2.2]; exact all_dropc ha k
/-- Six blocks that have just been laid. -/
theorem start_at {w : World} (c0 c1 c2 c3 c4 c5 : List Value) {t0 t1 t2 t3 t4 t5 : TypeId} : Bq ((((((w.alloc (.cells c0.toArray t0)).alloc (.cells c1.toArray t1)).alloc (.cells c2.toArray t2)).alloc (.cells c3.toArray t3)).alloc (.cells c4.toArray t4)).alloc (.cells c5.toArray t5)) w.heap.size t0 c0 ∧
    Bq ((((((w.alloc (.cells c0.toArray t0)).alloc (.cells c1.toArray t1)).alloc (.cells c2.toArray t2)).alloc (.cells c3.toArray t3)).alloc (.cells c4.toArray t4)).alloc (.cells c5.toArray t5)) (w.heap.size + 1) t1 c1 ∧
    Bq ((((((w.alloc (.cells c0.toArray t0)).alloc (.cells c1.toArray t1)).alloc (.cells c2.toArray t2)).alloc (.cells c3.toArray t3)).alloc (.cells c4.toArray t4)).alloc (.cells c5.toArray t5)) (w.heap.size + 1 + 1) t2 c2 ∧
    Bq ((((((w.alloc (.cells c0.toArray t0)).alloc (.cells c1.toArray t1)).alloc (.cells c2.toArray t2)).alloc (.cells c3.toArray t3)).alloc (.cells c4.toArray t4)).alloc (.cells c5.toArray t5)) (w.heap.size + 1 + 1 + 1) t3 c3 ∧
    Bq ((((((w.alloc (.cells c0.toArray t0)).alloc (.cells c1.toArray t1)).alloc (.cells c2.toArray t2)).alloc (.cells c3.toArray t3)).alloc (.cells c4.toArray t4)).alloc (.cells c5.toArray t5)) (w.heap.size + 1 + 1 + 1 + 1) t4 c4 ∧
    Bq ((((((w.alloc (.cells c0.toArray t0)).alloc (.cells c1.toArray t1)).alloc (.cells c2.toArray t2)).alloc (.cells c3.toArray t3)).alloc (.cells c4.toArray t4)).alloc (.cells c5.toArray t5)) (w.heap.size + 1 + 1 + 1 + 1 + 1) t5 c5 := by
  have e : ∀ (W : World) (o : Obj), (W.alloc o).heap.size = W.heap.size + 1 := fun W o => by show (W.heap.push o).size = _; simp
  have k0 := Bq.new w t0 c0
  have k1 := Bq.new (w.alloc (.cells c0.toArray t0)) t1 c1
  have k2 := Bq.new ((w.alloc (.cells c0.toArray t0)).alloc (.cells c1.toArray t1)) t2 c2
  have k3 := Bq.new (((w.alloc (.cells c0.toArray t0)).alloc (.cells c1.toArray t1)).alloc (.cells c2.toArray t2)) t3 c3
  have k4 := Bq.new ((((w.alloc (.cells c0.toArray t0)).alloc (.cells c1.toArray t1)).alloc (.cells c2.toArray t2)).alloc (.cells c3.toArray t3)) t4 c4
  have k5 := Bq.new (((((w.alloc (.cells c0.toArray t0)).alloc (.cells c1.toArray t1)).alloc (.cells c2.toArray t2)).alloc (.cells c3.toArray t3)).alloc (.cells c4.toArray t4)) t5 c5
  rw [e] at k1
  rw [e, e] at k2
  rw [e, e, e] at k3
  rw [e, e, e, e] at k4
  rw [e, e, e, e, e] at k5
  exact ⟨((((k0.alloc _).alloc _).alloc _).alloc _).alloc _, (((k1.alloc _).alloc _).alloc _).alloc _, ((k2.alloc _).alloc _).alloc _, (k3.alloc _).alloc _, k4.alloc _, k5⟩
theorem bs_nil {l : List Nat} (h : All 256 l) : ((bs l).toList == ([] : List UInt8)) = decide (l = []) := by
  have e := bs_beq h (all_nil 256)
  rw [bs_list []] at e
  exact e
end Go.Proofs.YtdaglbjdgdokpaaDoor
namespace Go.Proofs.YtdaglbjdgdokpaaDoor
open Go.RowKit
set_option linter.unusedVariables false
set_option linter.unusedSimpArgs false

theorem may_bool2 (r : Rc) : decide r.May = (inAll 255 [r.con] && inAll 2147483647 [r.dgs, r.gua, r.frm, r.til] && decide (Okr r.p) && decide (Okr r.q) && decide (Okr r.t)) := by
  rw [Bool.eq_iff_iff]
  unfold Rc.May Sm inAll
  simp only [Bool.and_eq_true, decide_eq_true_eq, List.all_cons, List.all_nil, and_assoc, Bool.and_true]
  constructor
  · rintro ⟨h1, h2, h3, h4, h5, h6, h7, h8, h9, h10, h11, h12, h13⟩; exact ⟨h12, h13, h1, h2, h3, h4, h5, h6, h7, h8, h9, h10, h11⟩
  · rintro ⟨h12, h13, h1, h2, h3, h4, h5, h6, h7, h8, h9, h10, h11⟩; exact ⟨h1, h2, h3, h4, h5, h6, h7, h8, h9, h10, h11, h12, h13⟩
theorem zs_new {W : World} {b : Nat} {t : TypeId} (zs : List Int) (hb : b = W.heap.size) : Zs (W.alloc (.cells (zs.map (Value.int .i64)).toArray t)) b zs := by
  subst hb
  intro i hi
  exact (Bq.new W t (zs.map (Value.int .i64))).cell i (by rw [List.getElem?_map, List.getElem?_eq_getElem hi]; rfl)
theorem five_ways : ∀ b1 b2 b3 b4 b5 : Bool, b1 = false ∨ (b1 = true ∧ b2 = false) ∨ (b1 = true ∧ b2 = true ∧ b3 = false) ∨ (b1 = true ∧ b2 = true ∧ b3 = true ∧ b4 = false) ∨ (b1 = true ∧ b2 = true ∧ b3 = true ∧ b4 = true ∧ b5 = false) ∨ (b1 = true ∧ b2 = true ∧ b3 = true ∧ b4 = true ∧ b5 = true) := by decide

set_option maxRecDepth 100000 in
set_option maxHeartbeats 4000000 in
theorem pvalid_any (r : Rc) (vp vq vt : Value) (hw : r.Wd) (w : World) (hp : Rw .u64 w vp r.p) (hq : Rw .u64 w vq r.q) (ht : Rw .u64 w vt r.t) :
    Calls Tryd.prog 62 #[recV r vp vq vt] w fun e w' => e = .returned (.bool (decide r.May)) ∧ Bl w w' := by
  rw [may_bool2]
  unfold recV
  obtain ⟨con, dgs, gua, frm, til, p, q, t, minus⟩ := r
  obtain ⟨w1, w2, w3⟩ := hw
  dsimp only at hp hq ht w1 w2 w3 ⊢
  have K1 : Hid (∀ (W : World) (b : Nat), b = W.heap.size → Calls Tryd.prog 73 #[.int .i64 255, .slice (some ⟨b, 0, none⟩) 1 1] (W.alloc (.cells #[.int .i64 con] 3)) fun e w' => e = .returned (.bool (inAll 255 [con])) ∧ W.alloc (.cells #[.int .i64 con] 3) = w') :=
    fun W b hb => pwithin_any 255 b 1 [con] rfl (by decide) _ (zs_new [con] hb)
  have K2 : Hid (∀ (W : World) (b : Nat), b = W.heap.size → Calls Tryd.prog 73 #[.int .i64 2147483647, .slice (some ⟨b, 0, none⟩) 4 4] (W.alloc (.cells #[.int .i64 dgs, .int .i64 gua, .int .i64 frm, .int .i64 til] 3)) fun e w' => e = .returned (.bool (inAll 2147483647 [dgs, gua, frm, til])) ∧ W.alloc (.cells #[.int .i64 dgs, .int .i64 gua, .int .i64 frm, .int .i64 til] 3) = w') :=
    fun W b hb => pwithin_any 2147483647 b 4 [dgs, gua, frm, til] rfl (by decide) _ (zs_new [dgs, gua, frm, til] hb)
  have K5 := Lib.hid (fun w' (g : Bl w w') => pstorable_any vp p w1 w' (hp.bl g))
  have K6 := Lib.hid (fun w' (g : Bl w w') => pstorable_any vq q w2 w' (hq.bl g))
  have K7 := Lib.hid (fun w' (g : Bl w w') => pstorable_any vt t w3 w' (ht.bl g))
  obtain ⟨b1, e1⟩ : ∃ b, inAll 255 [con] = b := ⟨_, rfl⟩
  obtain ⟨b2, e2⟩ : ∃ b, inAll 2147483647 [dgs, gua, frm, til] = b := ⟨_, rfl⟩
  obtain ⟨b5, e5⟩ : ∃ b, decide (Okr p) = b := ⟨_, rfl⟩
  obtain ⟨b6, e6⟩ : ∃ b, decide (Okr q) = b := ⟨_, rfl⟩
  obtain ⟨b7, e7⟩ : ∃ b, decide (Okr t) = b := ⟨_, rfl⟩
  rw [e1] at K1 ⊢
  rw [e2] at K2 ⊢
  rw [e5] at K5 ⊢
  rw [e6] at K6 ⊢
  rw [e7] at K7 ⊢
  obtain ⟨B1, c1, rfl, _⟩ := hp
  obtain ⟨B2, c2, rfl, _⟩ := hq
  obtain ⟨B3, c3, rfl, _⟩ := ht
  clear e1 e2 e5 e6 e7 w1 w2 w3
  have G0 := Lib.hid ((Bl.refl w).alloc (.cells #[.int .i64 con, .int .i64 dgs, .int .i64 gua, .int .i64 frm, .int .i64 til, .slice B1 p.length c1, .slice B2 q.length c2, .slice B3 t.length c3, .bool minus] 62))
  have G1 := Lib.hid (G0.out.alloc (.cells #[.int .i64 con] 3))
  have G2 := Lib.hid (G1.out.alloc (.cells #[.int .i64 dgs, .int .i64 gua, .int .i64 frm, .int .i64 til] 3))
  have B0 := Lib.hid ((((Bq.new w 62 (recC con dgs gua frm til (.slice B1 p.length c1) (.slice B2 q.length c2) (.slice B3 t.length c3) minus)).alloc (.cells #[.int .i64 con] 3)).alloc (.cells #[.int .i64 dgs, .int .i64 gua, .int .i64 frm, .int .i64 til] 3)))
  rcases five_ways b1 b2 b5 b6 b7 with rfl | ⟨rfl, rfl⟩ | ⟨rfl, rfl, rfl⟩ | ⟨rfl, rfl, rfl, rfl⟩ | ⟨rfl, rfl, rfl, rfl, rfl⟩ | ⟨rfl, rfl, rfl, rfl, rfl⟩
  all_goals
    go_enter Tryd.func62, Tryd.ntmps62
    go_wp2_with (first
      | (go_at_call 73; (with_reducible refine (K1.out _ _ (by simp)).mono ?_); rintro e w' ⟨rfl, rfl⟩)
      | (go_at_call 73; (with_reducible refine (K2.out _ _ (by simp)).mono ?_); rintro e w' ⟨rfl, rfl⟩)
      | (go_at_call 74; (with_reducible refine (K5.out _ G2.out).mono ?_); rintro e w5 ⟨rfl, hb5⟩; have G5 := Lib.hid (G2.out.trans hb5); have B5 := Lib.hid (B0.out.bl hb5); have q5 := B5.out.cell 6 rfl; clear hb5)
      | (go_at_call 74; (with_reducible refine (K6.out _ G5.out).mono ?_); rintro e w6 ⟨rfl, hb6⟩; have G6 := Lib.hid (G5.out.trans hb6); have B6 := Lib.hid (B5.out.bl hb6); have q6 := B6.out.cell 7 rfl; clear hb6)
      | (go_at_call 74; (with_reducible refine (K7.out _ G6.out).mono ?_); rintro e w7 ⟨rfl, hb7⟩; have G7 := Lib.hid (G6.out.trans hb7); clear hb7))
    all_goals go_ret
    all_goals exact ⟨by simp, by first | exact G7.out | exact G6.out | exact G5.out | exact G2.out | exact G1.out⟩
end Go.Proofs.YtdaglbjdgdokpaaDoor
