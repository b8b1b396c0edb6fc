/-
  Package keep: Find.
-/
import Derived.Test.YtdaglbjdgdokpaaDoorPk37
import Derived.Test.YtdaglbjdgdokpaaDoorPk39
import Derived.Test.YtdaglbjdgdokpaaDoorPk40
import Derived.Test.YtdaglbjdgdokpaaDoorPk43
import Derived.Deep.RegionHeld3
namespace Go.Proofs.YtdaglbjdgdokpaaDoor
open Go.RowKit
set_option linter.unusedVariables false
set_option linter.unusedSimpArgs false

theorem sw_at {w : World} {v : Value} {l : List ByteArray} {n : Nat} (h : Sw w v l) (hn : l.length = n) : ∃ A c, v = .slice A n c ∧ n ≤ c ∧ c ≤ maxLen ∧ (A = none → c = 0) ∧ Sq w A l := by
  obtain ⟨A, c, hv, h1, h2, h3, h4⟩ := h
  exact ⟨A, c, by rw [hv, hn], by omega, h2, h3, h4⟩
/-- What a call answers that makes a row of parts. -/
def PtEnd (W : World) (rs : List Rc) (e : Ending) (w : World) : Prop := ∃ v l, e = .returned v ∧ l.map Pt.r = rs ∧ PtW w v l ∧ Bl W w
/-- What is found by a name. -/
def fN (jc jd jg : Int) (l : List Fl) (s : ByteArray) : Option Rc := fnd1 jc jd jg ⟨s, rdD l s, ⟨#[]⟩⟩
theorem pre_isC (s : ByteArray) : sPre s ⟨#[99]⟩ = isC s := sPre_one s 99
theorem fm_congr {α β : Type} {f g : α → Option β} : ∀ {l : List α}, (∀ x ∈ l, f x = g x) → l.filterMap f = l.filterMap g
  | [], _ => rfl
  | x :: l, h => by
    have h1 := h x (List.mem_cons_self ..)
    have h2 := fm_congr (l := l) fun y hy => h y (List.mem_cons_of_mem _ hy)
    rw [List.filterMap_cons, List.filterMap_cons, h1, h2]
theorem fN_all {room jc jd jg : Int} {l : List Fl} (h : Rt room l) : (((l.map Fl.n).filter fun s => sPre s ⟨#[99]⟩).filterMap (fN jc jd jg l)) = fndL jc jd jg l := by
  unfold fndL
  rw [List.filterMap_filter, List.filterMap_map]
  refine fm_congr fun f hf => ?_
  show (if sPre f.n ⟨#[99]⟩ = true then fN jc jd jg l f.n else none) = fnd1 jc jd jg f
  rw [pre_isC]
  by_cases hc : isC f.n = true
  · rw [if_pos hc]
    unfold fN
    rw [(rd_mem h.2.2.2 hf).1]
    unfold fnd1
    rfl
  · rw [if_neg hc]
    unfold fnd1
    rw [if_neg hc]
theorem fnd1_of (jc jd jg : Int) {s d : ByteArray} (hc : isC s = true) (e : ByteArray) : fnd1 jc jd jg ⟨s, d, e⟩ = if (ofE jc jd jg (decB (ubs d))).1 = 0 ∧ nmB (ofE jc jd jg (decB (ubs d))).2.frm (ofE jc jd jg (decB (ubs d))).2.til = s then some (ofE jc jd jg (decB (ubs d))).2 else none := by
  obtain ⟨X, hX⟩ : ∃ X, decB (ubs d) = X := ⟨_, rfl⟩
  unfold fnd1
  rw [if_pos hc]
  dsimp only
  rw [hX]
  by_cases h0 : X.1 = 0
  · by_cases hj : X.2.con = jc ∧ X.2.dgs = jd ∧ X.2.gua = jg
    · have e1 : ofE jc jd jg X = (0, X.2) := by
        unfold ofE
        rw [if_neg (show ¬ X.1 ≠ 0 by simp [h0]), if_pos (by simp [hj.1, hj.2.1, hj.2.2])]
      rw [e1]
      by_cases hn : nmB X.2.frm X.2.til = s
      · rw [if_pos ⟨h0, hj.1, hj.2.1, hj.2.2, hn⟩, if_pos ⟨rfl, hn⟩]
      · rw [if_neg (fun h => hn h.2.2.2.2), if_neg (fun h => hn h.2)]
    · have e1 : ofE jc jd jg X = (11, rc0) := by
        unfold ofE
        rw [if_neg (show ¬ X.1 ≠ 0 by simp [h0]), if_neg (by
          intro h
          simp only [Bool.and_eq_true, beq_iff_eq] at h
          exact hj ⟨h.1.1, h.1.2, h.2⟩)]
      rw [e1, if_neg (fun h => hj ⟨h.2.1, h.2.2.1, h.2.2.2.1⟩), if_neg (fun h => absurd h.1 (by decide))]
  · have e1 : ofE jc jd jg X = (X.1, rc0) := by
      unfold ofE
      rw [if_pos h0]
    rw [e1, if_neg (fun h => h0 h.1), if_neg (fun h => h0 h.1)]
/-- A part that is of a job has a range within bounds. -/
theorem ofE_sm (jc jd jg : Int) {s : List Nat} (ha : All 256 s) : ∃ n m : Nat, n ≤ 2147483647 ∧ m ≤ 2147483647 ∧ (ofE jc jd jg (decB s)).2.frm = (n : Int) ∧ (ofE jc jd jg (decB s)).2.til = (m : Int) := by
  unfold ofE
  split
  · exact ⟨0, 0, by decide, by decide, rfl, rfl⟩
  · rename_i h
    have h0 : (decB s).1 = 0 := by simpa using h
    have hm := (dec_of ha (r := (decB s).2) (by rw [← h0])).1
    split
    · have h1 := hm.1.2.2.1
      have h2 := hm.1.2.2.2
      unfold Sm at h1 h2
      exact ⟨(decB s).2.frm.toNat, (decB s).2.til.toNat, by omega, by omega, by show (decB s).2.frm = _; omega, by show (decB s).2.til = _; omega⟩
    · exact ⟨0, 0, by decide, by decide, rfl, rfl⟩
/-- A part appended, in a walk. -/
theorem wpList_app_part {ops : Array Oper} {rest : List Oper} {o : Oper} {a : Act} {Q : Exit → Act → World → Prop} (W w : World)
    (hgd : o.guard = none) (s x : Operand) (ho : o.op = .call { callee := .builtin .append, args := #[s, x], argTypes := #[30, 30] })
    (v : Value) (l : List Pt) (X : Pt) (ad : Addr) (c : Nat) (hs : a.eval s = v) (hx : a.eval x = .slice (some ad) 1 c) (hown : PtO W.heap.size w v l) (hbl : Bl W w) (hok : X.ok w) (hl : l.length < 1000) (hnews : ∀ j u, X.cs[j]? = some u → w.cell? (ad.add j) = some u)
    (h : ∀ v' w', Hid (PtO W.heap.size w' v' (l ++ [X])) → Hid (Bl W w') → Hid (∀ b, b < w.heap.size → v.ownBlock ≠ some b → w'.heap[b]? = w.heap[b]?) → wpList Tryd.prog ops Q rest (a.put o.dst v') w') : wpList Tryd.prog ops Q (o :: rest) a w := by
  obtain ⟨v', w', hr, h2, h3, h4⟩ := run_app_part W w o.type v l X ad c hown hbl hok hl hnews
  refine wpList_plain hgd fun K hK => ?_
  unfold Oper.wp execOp
  simp only [ho, resolve, invoke, builtin, Sem.run_bind, Sem.run_pure, Result.andThen_ok, List.map_toArray, List.map_cons, List.map_nil, hs, hx, hr]
  exact hK _ _ (h v' w' h2 h3 h4)
theorem pto_shape {base : Nat} {w : World} {v : Value} {l : List Pt} {k : Nat} (h : PtO base w v l) (hk : l.length = k) : ∃ A c, v = .slice A k c ∧ (∀ b, (Value.slice A k c).ownBlock = some b → base ≤ b) := by
  obtain ⟨A, c, hv, _⟩ := h.ptw
  refine ⟨A, c, by rw [hv, hk], fun b hb => ?_⟩
  have e : v = .slice A k c := by rw [hv, hk]
  rw [← e] at hb
  exact (World.ownsRow.lt h.1 b hb).1
set_option maxRecDepth 100000 in
set_option maxHeartbeats 8000000 in
theorem pFind_any (room jc jd jg : Int) (v : Value) (l : List Fl) (w : World) (hv : Fw w v l) (hl : l.length ≤ 64) (hz : Szs l) (hr : Rt room l) (hT : PowT w) (hE : ErrT w) :
    Calls Tryd.prog 8 #[.agg #[.int .i64 room, v], .agg #[.int .i64 jc, .int .i64 jd, .int .i64 jg]] w (PtEnd w (fndL jc jd jg l)) := by
  have KL := Lib.hid (fun W (g : Bl w W) => pListP_any room v l ⟨#[99]⟩ W (hv.bl g) (by omega) hz (by decide))
  have KR := Lib.hid (fun s W (g : Bl w W) => pRead_any room v l s W (hv.bl g))
  have KO0 := Lib.hid (fun s ha hb W (g : Bl w W) => pof_any s jc jd jg ha hb W (hE.bl g))
  have KN0 := Lib.hid (fun n m hn hm W (g : Bl w W) => pName_any n m hn hm W (hT.bl g))
  have HALL := Lib.hid (fN_all (jc := jc) (jd := jd) (jg := jg) hr)
  have HZN : Hid (∀ s ∈ ((l.map Fl.n).filter fun s => sPre s ⟨#[99]⟩), isC s = true ∧ (rdD l s).size ≤ 140737488355328) := by
    intro s hs
    obtain ⟨h1, h2⟩ := List.mem_filter.1 hs
    obtain ⟨f, hf, rfl⟩ := List.mem_map.1 h1
    rw [pre_isC] at h2
    exact ⟨h2, by rw [(rd_mem hr.2.2.2 hf).1]; exact (hz f hf).2.1⟩
  have HNL : Hid (((l.map Fl.n).filter fun s => sPre s ⟨#[99]⟩).length ≤ 64) := by
    have := List.length_filter_le (fun s => sPre s ⟨#[99]⟩) (l.map Fl.n)
    rw [List.length_map] at this
    show _ ≤ 64
    omega
  obtain ⟨A, c, rfl⟩ := fw_shape hv
  obtain ⟨ns, hns⟩ : ∃ ns, ((l.map Fl.n).filter fun s => sPre s ⟨#[99]⟩) = ns := ⟨_, rfl⟩
  rw [hns] at KL HALL HZN HNL
  obtain ⟨n, hn⟩ : ∃ n, ns.length = n := ⟨_, rfl⟩
  rw [hn] at HNL
  have HN := Lib.hid hn
  have nb : (n : Int) ≤ 64 := by have := HNL.out; omega
  obtain ⟨ln, hln⟩ : ∃ k, l.length = k := ⟨_, rfl⟩
  rw [hln] at KL KR ⊢
  obtain ⟨RES, hRES⟩ : ∃ z, fndL jc jd jg l = z := ⟨_, rfl⟩
  rw [hRES] at HALL ⊢
  have B0 := Lib.hid (two_r w 24 26 [.int .i64 room, .slice A ln c] [.int .i64 jc, .int .i64 jd, .int .i64 jg])
  have a43 := Tryd.isAgg43
  have z43 := Tryd.sizeOf43
  clear hv hl hz hr hT hE hns hn hln hRES
  go_enter Tryd.func8, Tryd.ntmps8
  go_wp2_with (go_at_call 13; (with_reducible refine (KL.out _ (((Bl.refl w).alloc _).alloc _)).mono ?_); rintro e w1 ⟨u, rfl, hsw, hb1⟩; obtain ⟨A1, c1, rfl, -, hc1, hn1, hq1⟩ := sw_at hsw HN.out)
  have G1 : Hid (Bl w w1) := (((Bl.refl w).alloc _).alloc _).trans hb1
  have D1 := Lib.hid (B0.out.1.bl hb1)
  have J1 := Lib.hid (B0.out.2.bl hb1)
  have S1 := Lib.hid hq1
  clear hsw hb1 hq1 hn1 hc1 B0
  go_loopw [5, 15] (fun pv s wr => ∃ i : Nat, i ≤ n ∧ s = .int .i64 (i : Int) ∧ ∃ (pl : List Pt) (k : Nat) (Ag : Option Addr) (cg : Nat), pv = .slice Ag k cg ∧ Hid (pl.length = k) ∧ Hid (k ≤ i) ∧ Hid (pl.map Pt.r = (ns.take i).filterMap (fN jc jd jg l)) ∧ Hid (PtO w1.heap.size wr (.slice Ag k cg) pl) ∧ Hid (Bl w1 wr)) (fun _ s _ => n - (intOf s).toNat)
  case atStart => exact ⟨0, Nat.zero_le _, rfl, [], 0, none, 0, rfl, rfl, Nat.le_refl _, rfl, PtO.nil _ _, Bl.refl _⟩
  case round =>
    obtain ⟨i, hin, rfl, pl, k, Ag, cg, rfl, hk, hki, hpl, ho, hb⟩ := hrel
    by_cases hlt : i < n
    · have hil : i < ns.length := by rw [HN.out]; exact hlt
      have hzn := HZN.out _ (List.getElem_mem hil)
      obtain ⟨b1, o1, hA1, hc0⟩ := S1.out.at_ hil
      have hc1 := (hb.out.cell (World.block_lt_of_cell? w1 _ hc0)).trans hc0
      have hst : (ns.take (i + 1)).filterMap (fN jc jd jg l) = (ns.take i).filterMap (fN jc jd jg l) ++ (match fN jc jd jg l ns[i] with | none => [] | some r => [r]) := by
        rw [List.take_add_one, List.getElem?_eq_getElem hil, List.filterMap_append]
        congr 1
        show [ns[i]].filterMap _ = _
        rw [List.filterMap_cons]
        cases fN jc jd jg l ns[i] <;> rfl
      obtain ⟨S, eS⟩ : ∃ S, ns[i] = S := ⟨_, rfl⟩
      rw [eS] at hzn hc1 hst
      have hfo : fN jc jd jg l S = _ := fnd1_of jc jd jg (d := rdD l S) hzn.1 ⟨#[]⟩
      obtain ⟨D, eD⟩ : ∃ D, rdD l S = D := ⟨_, rfl⟩
      have KR' := Lib.hid (fun W g => KR.out S W g)
      rw [eD] at hzn hfo KR'
      have hDl : (ubs D).length ≤ 140737488355328 := by
        unfold ubs
        rw [List.length_map]
        have h := hzn.2
        have e : D.toList.length = D.size := by obtain ⟨⟨D⟩⟩ := D; rw [ByteArray.toList_mk]; rfl
        omega
      have KO1 := fun W g => KO0.out (ubs D) (ubs_all D) hDl W g
      rw [bs_ubs] at KO1
      obtain ⟨p, q, hp1, hq1, ef, et⟩ := ofE_sm jc jd jg (ubs_all D)
      obtain ⟨X, hX⟩ : ∃ X, ofE jc jd jg (decB (ubs D)) = X := ⟨_, rfl⟩
      rw [hX] at hfo KO1 ef et
      obtain ⟨N, con, dgs, gua, frm, til, lp, lq, lt, mb⟩ := X
      dsimp only at hfo ef et
      subst ef; subst et
      have KO := Lib.hid KO1
      have KN1 := fun W g => KN0.out p q (by omega) (by omega) W g
      obtain ⟨E, eE⟩ : ∃ E, rdE l S = E := ⟨_, rfl⟩
      rw [eE] at KR'
      obtain ⟨M, eM⟩ : ∃ M, nmB p q = M := ⟨_, rfl⟩
      rw [eM] at KN1 hfo
      have KN := Lib.hid KN1
      have b2 : (0 : Int) ≤ (i : Int) ∧ (i : Int) < (n : Int) := by omega
      have HI : Hid (i + 1 ≤ n) := hlt
      have HKI := Lib.hid (show k < 1000 by have := hki.out; have := HNL.out; omega)
      subst hA1
      have HST := Lib.hid hst
      have HFO := Lib.hid hfo
      have DR := Lib.hid (D1.out.bl hb.out)
      have d0 := DR.out.cell 0 rfl
      have d1 := DR.out.cell 1 rfl
      clear KO1 KN1 hX eD eE eM eS hst hfo hil hlt hzn hDl hp1 hq1 KR hc0
      by_cases hN : N = 0
      · subst hN
        have t0 : (((0 : Nat) : Int) == 0) = true := rfl
        by_cases hM : M = S
        · have hsome : fN jc jd jg l S = some ⟨con, dgs, gua, (p : Int), (q : Int), lp, lq, lt, mb⟩ := by rw [HFO.out, if_pos ⟨rfl, hM⟩]
          rw [hsome] at HST
          have xb : (M.toList == S.toList) = true := sEq_iff.2 hM
          clear HFO hsome hM
          go_wp2_with (first
            | (go_at_call 14; (with_reducible refine (KR'.out _ (G1.out.trans hb.out)).mono ?_); rintro e w2 ⟨rfl, hb2⟩; have G2 : Hid (Bl w1 w2) := hb.out.trans hb2; have O2 := Lib.hid (ho.out.bl hb2); have J2 := Lib.hid (J1.out.bl G2.out); have j0 := J2.out.cell 0 rfl; have j1 := J2.out.cell 1 rfl; have j2 := J2.out.cell 2 rfl; clear hb2)
            | (go_at_call 15; (with_reducible refine (KO.out _ (G1.out.trans G2.out)).mono ?_); rintro e w3 ⟨vp, vq, vt, rfl, hp, hq, ht, hb3⟩; obtain ⟨Ap, cp, ep⟩ := rw_open hp rfl; obtain ⟨Aq, cq, eq⟩ := rw_open hq rfl; obtain ⟨At, ct, et⟩ := rw_open ht rfl; dsimp only at ep eq et hp hq ht; subst ep; subst eq; subst et; have G3 : Hid (Bl w1 w3) := G2.out.trans hb3; have O3 := Lib.hid (O2.out.bl hb3); have X3 : Hid (Pt.ok w3 ⟨⟨con, dgs, gua, (p : Int), (q : Int), lp, lq, lt, mb⟩, .slice Ap lp.length cp, .slice Aq lq.length cq, .slice At lt.length ct⟩) := ⟨hp, hq, ht⟩; clear hb3 hp hq ht; (try dsimp only [parV]))
            | (go_at_call 10; (with_reducible refine (KN.out _ ((G1.out.trans G3.out).alloc _)).mono ?_); rintro e w4 ⟨rfl, hb4⟩; have G4 : Hid (Bl w1 w4) := (G3.out.alloc _).trans hb4; have O4 : Hid (PtO w1.heap.size w4 (.slice Ag k cg) pl) := O3.out.bl (((Bl.refl w3).alloc _).trans hb4); have X4 := Lib.hid (X3.out.bl (((Bl.refl w3).alloc (.cells #[.int .i64 (p : Int), .int .i64 (q : Int), .slice Ap lp.length cp, .slice Aq lq.length cq, .slice At lt.length ct, .bool mb] 43)).trans hb4)); have Q4 := Lib.hid ((Bq.new w3 43 [.int .i64 (p : Int), .int .i64 (q : Int), .slice Ap lp.length cp, .slice Aq lq.length cq, .slice At lt.length ct, .bool mb]).bl hb4); have q0 := Q4.out.cell 0 rfl; have q1 := Q4.out.cell 1 rfl; have q2 := Q4.out.cell 2 rfl; have q3 := Q4.out.cell 3 rfl; have q4 := Q4.out.cell 4 rfl; have q5 := Q4.out.cell 5 rfl; clear hb4)
            | (at_builtin; refine wpList_app_part w1 (w4.alloc (.cells #[.int .i64 (p : Int), .int .i64 (q : Int), .slice Ap lp.length cp, .slice Aq lq.length cq, .slice At lt.length ct, .bool mb] 43)) rfl _ _ rfl _ pl ⟨⟨con, dgs, gua, (p : Int), (q : Int), lp, lq, lt, mb⟩, .slice Ap lp.length cp, .slice Aq lq.length cq, .slice At lt.length ct⟩ ⟨w4.heap.size, 0, none⟩ 1 rfl rfl (O4.out.bl ((Bl.refl _).alloc _)) (G4.out.alloc _) (X4.out.bl ((Bl.refl _).alloc _)) (by rw [hk.out]; exact HKI.out) (fun j u hj => by rw [add_none, Nat.zero_add]; exact (Bq.new w4 43 [.int .i64 (p : Int), .int .i64 (q : Int), .slice Ap lp.length cp, .slice Aq lq.length cq, .slice At lt.length ct, .bool mb]).cell j hj) ?_; intro v' w' h1 h2 h3; obtain ⟨Ag', cg', rfl, -⟩ := pto_shape (k := k + 1) h1.out (by rw [List.length_append, hk.out]; rfl)))
          go_roundw
          case rel =>
            exact ⟨i + 1, HI.out, by go_num, pl ++ [_], k + 1, Ag', cg', rfl, by show (_ : List Pt).length = _; rw [List.length_append, hk.out]; rfl, Nat.succ_le_succ hki.out, by show (_ : List Pt).map Pt.r = _; rw [List.map_append, hpl.out, HST.out]; rfl, h1.out, h2.out⟩
          case measure => have := HI.out; simp [intOf] <;> omega
        · have hnone : fN jc jd jg l S = none := by rw [HFO.out, if_neg (fun h => hM h.2)]
          rw [hnone] at HST
          have xb : (M.toList == S.toList) = false := sEq_not.2 hM
          clear HFO hnone hM
          go_wp2_with (first
            | (go_at_call 14; (with_reducible refine (KR'.out _ (G1.out.trans hb.out)).mono ?_); rintro e w2 ⟨rfl, hb2⟩; have G2 : Hid (Bl w1 w2) := hb.out.trans hb2; have O2 := Lib.hid (ho.out.bl hb2); have J2 := Lib.hid (J1.out.bl G2.out); have j0 := J2.out.cell 0 rfl; have j1 := J2.out.cell 1 rfl; have j2 := J2.out.cell 2 rfl; clear hb2)
            | (go_at_call 15; (with_reducible refine (KO.out _ (G1.out.trans G2.out)).mono ?_); rintro e w3 ⟨vp, vq, vt, rfl, hp, hq, ht, hb3⟩; obtain ⟨Ap, cp, ep⟩ := rw_open hp rfl; obtain ⟨Aq, cq, eq⟩ := rw_open hq rfl; obtain ⟨At, ct, et⟩ := rw_open ht rfl; dsimp only at ep eq et hp hq ht; subst ep; subst eq; subst et; have G3 : Hid (Bl w1 w3) := G2.out.trans hb3; have O3 := Lib.hid (O2.out.bl hb3); have X3 : Hid (Pt.ok w3 ⟨⟨con, dgs, gua, (p : Int), (q : Int), lp, lq, lt, mb⟩, .slice Ap lp.length cp, .slice Aq lq.length cq, .slice At lt.length ct⟩) := ⟨hp, hq, ht⟩; clear hb3 hp hq ht; (try dsimp only [parV]))
            | (go_at_call 10; (with_reducible refine (KN.out _ ((G1.out.trans G3.out).alloc _)).mono ?_); rintro e w4 ⟨rfl, hb4⟩; have G4 : Hid (Bl w1 w4) := (G3.out.alloc _).trans hb4; have O4 : Hid (PtO w1.heap.size w4 (.slice Ag k cg) pl) := O3.out.bl (((Bl.refl w3).alloc _).trans hb4); have X4 := Lib.hid (X3.out.bl (((Bl.refl w3).alloc (.cells #[.int .i64 (p : Int), .int .i64 (q : Int), .slice Ap lp.length cp, .slice Aq lq.length cq, .slice At lt.length ct, .bool mb] 43)).trans hb4)); have Q4 := Lib.hid ((Bq.new w3 43 [.int .i64 (p : Int), .int .i64 (q : Int), .slice Ap lp.length cp, .slice Aq lq.length cq, .slice At lt.length ct, .bool mb]).bl hb4); have q0 := Q4.out.cell 0 rfl; have q1 := Q4.out.cell 1 rfl; have q2 := Q4.out.cell 2 rfl; have q3 := Q4.out.cell 3 rfl; have q4 := Q4.out.cell 4 rfl; have q5 := Q4.out.cell 5 rfl; clear hb4))
          go_roundw
          case rel => exact ⟨i + 1, HI.out, by go_num, pl, k, Ag, cg, rfl, hk.out, Nat.le_succ_of_le hki.out, hpl.out.trans (HST.out.trans (List.append_nil _)).symm, O4.out, G4.out⟩
          case measure => have := HI.out; simp [intOf] <;> omega
      · have t0 : ((N : Int) == 0) = false := by rw [beq_eq_false_iff_ne]; omega
        have hnone : fN jc jd jg l S = none := by rw [HFO.out, if_neg (fun h => hN h.1)]
        rw [hnone] at HST
        clear HFO hnone
        go_wp2_with (first
          | (go_at_call 14; (with_reducible refine (KR'.out _ (G1.out.trans hb.out)).mono ?_); rintro e w2 ⟨rfl, hb2⟩; have G2 : Hid (Bl w1 w2) := hb.out.trans hb2; have O2 := Lib.hid (ho.out.bl hb2); have J2 := Lib.hid (J1.out.bl G2.out); have j0 := J2.out.cell 0 rfl; have j1 := J2.out.cell 1 rfl; have j2 := J2.out.cell 2 rfl; clear hb2)
          | (go_at_call 15; (with_reducible refine (KO.out _ (G1.out.trans G2.out)).mono ?_); rintro e w3 ⟨vp, vq, vt, rfl, hp, hq, ht, hb3⟩; obtain ⟨Ap, cp, ep⟩ := rw_open hp rfl; obtain ⟨Aq, cq, eq⟩ := rw_open hq rfl; obtain ⟨At, ct, et⟩ := rw_open ht rfl; dsimp only at ep eq et hp hq ht; subst ep; subst eq; subst et; have G3 : Hid (Bl w1 w3) := G2.out.trans hb3; have O3 := Lib.hid (O2.out.bl hb3); have X3 : Hid (Pt.ok w3 ⟨⟨con, dgs, gua, (p : Int), (q : Int), lp, lq, lt, mb⟩, .slice Ap lp.length cp, .slice Aq lq.length cq, .slice At lt.length ct⟩) := ⟨hp, hq, ht⟩; clear hb3 hp hq ht; (try dsimp only [parV])))
        go_roundw
        case rel => exact ⟨i + 1, HI.out, by go_num, pl, k, Ag, cg, rfl, hk.out, Nat.le_succ_of_le hki.out, hpl.out.trans (HST.out.trans (List.append_nil _)).symm, O3.out.bl ((Bl.refl _).alloc _), G3.out.alloc _⟩
        case measure => have := HI.out; simp [intOf] <;> omega
    · obtain rfl : i = n := by omega
      have HE : Hid (pl.map Pt.r = RES) := by
        have h := hpl.out
        rw [List.take_of_length_le (Nat.le_of_eq HN.out)] at h
        exact h.trans HALL.out
      have b3 : ¬ ((i : Int) < (i : Int)) := Int.lt_irrefl _
      clear hin hlt
      go_wp2
      go_ret
      exact ⟨_, pl, rfl, HE.out, ho.out.ptw, G1.out.trans hb.out⟩
end Go.Proofs.YtdaglbjdgdokpaaDoor
