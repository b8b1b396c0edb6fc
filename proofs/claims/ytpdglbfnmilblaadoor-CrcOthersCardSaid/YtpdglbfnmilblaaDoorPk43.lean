/-
  The walk of CrcOthers (printed by gen/cst.py)
-/
import Derived.Test.YtpdglbfnmilblaaDoorPk39
import Derived.Test.YtpdglbfnmilblaaDoorPk42
namespace Go.Proofs.YtpdglbfnmilblaaDoor
open Go.RowKit
set_option linter.unusedVariables false
set_option linter.unusedSimpArgs false

theorem ofE_bad {a b c : Int} {x : Nat × Rc} (h : x.1 ≠ 0) : ofE a b c x = (x.1, rc0) := by unfold ofE; rw [if_pos h]
theorem ofE_yes {a b c : Int} {x : Nat × Rc} (h : x.1 = 0) (e : (x.2.con == a && x.2.dgs == b && x.2.gua == c) = true) : ofE a b c x = (0, x.2) := by unfold ofE; rw [if_neg (by omega), e]; rfl
theorem ofE_no {a b c : Int} {x : Nat × Rc} (h : x.1 = 0) (e : (x.2.con == a && x.2.dgs == b && x.2.gua == c) = false) : ofE a b c x = (11, rc0) := by unfold ofE; rw [if_neg (by omega), e]; rfl
theorem neq_range (a b c d : Int) (w : World) : (binOp .neq 25 (.agg #[.int .i64 a, .int .i64 b]) (.agg #[.int .i64 c, .int .i64 d])).run Tryd.prog w = .ok (.bool (!(a == c && b == d))) w := by
  go_simp
  by_cases h1 : a = c <;> by_cases h2 : b = d <;> simp [h1, h2]
set_option maxRecDepth 100000 in
set_option maxHeartbeats 4000000 in
theorem others_bad_true (l : List Nat) (a1 a2 a3 b1 b2 b3 : Int) (n : Nat) (r : Rc) (ha : All 256 l) (hl : l.length ≤ 140737488355328) (w : World) (hE : ErrT w) (hX : decB l = (n, rc0)) (h0 : n ≠ 0) (hq : (a1 == b1 && a2 == b2 && a3 == b3) = true) :
    Calls Tryd.prog 7 #[.string (bs l), .agg #[.int .i64 a1, .int .i64 a2, .int .i64 a3], .agg #[.int .i64 b1, .int .i64 b2, .int .i64 b3]] w fun e w' => e = .returned (.bool true) ∧ Bl w w' := by
  have hA : ofE a1 a2 a3 (decB l) = (n, rc0) := by rw [ofE_bad (by rw [hX]; exact h0), hX]
  have hB : ofE b1 b2 b3 (decB l) = (n, rc0) := by rw [ofE_bad (by rw [hX]; exact h0), hX]
  have xe := fun W => eql_job a1 a2 a3 b1 b2 b3 W
  have xn := fun W => neq_job a1 a2 a3 b1 b2 b3 W
  have hab : (a1 == b1 && a2 == b2 && a3 == b3) = true := hq
  simp only [hab] at xe xn
  clear hab
  have t0 : ((n : Int) == 0) = false := by rw [beq_eq_false_iff_ne]; omega
  have t1 : ((n : Int) != 0) = true := by rw [bne_iff_ne]; omega
  clear h0 hq
  have KA := Lib.hid (fun W (h : ErrT W) => pof_any l a1 a2 a3 ha hl W h)
  have KB := Lib.hid (fun W (h : ErrT W) => pof_any l b1 b2 b3 ha hl W h)
  have KT := Lib.hid (fun W (h : ErrT W) => ptake_any l ha (by omega) W h)
  rw [hA] at KA
  rw [hB] at KB
  rw [hX] at KT
  have HE := Lib.hid hE
  obtain ⟨S, eS⟩ : ∃ S, bs l = S := ⟨_, rfl⟩
  rw [eS] at KA KB KT ⊢
  clear eS ha hl hE hX hA hB
  have G0 : Hid (Bl w ((w.alloc (.cells #[.int .i64 a1, .int .i64 a2, .int .i64 a3] 23)).alloc (.cells #[.int .i64 b1, .int .i64 b2, .int .i64 b3] 23))) := ((Bl.refl w).alloc _).alloc _
  have JA0 := Lib.hid ((bq_at (W := w) (t := 23) (cs := [.int .i64 a1, .int .i64 a2, .int .i64 a3]) rfl).alloc (.cells #[.int .i64 b1, .int .i64 b2, .int .i64 b3] 23))
  have JB0 : Hid (Bq ((w.alloc (.cells #[.int .i64 a1, .int .i64 a2, .int .i64 a3] 23)).alloc (.cells #[.int .i64 b1, .int .i64 b2, .int .i64 b3] 23)) (w.heap.size + 1) 23 [.int .i64 b1, .int .i64 b2, .int .i64 b3]) := bq_at (by simp)
  go_enter Tryd.func7, Tryd.ntmps7
  go_wp2_with (first
    | (go_at_call 8; (with_reducible refine (shown14_any _).mono ?_); rintro e w' ⟨rfl, rfl⟩)
    | (go_at_call 13; (with_reducible refine (KA.out _ (HE.out.bl G0.out)).mono ?_); rintro e w1 ⟨vp, vq, vt, rfl, hp, hq, ht, hb⟩; obtain ⟨Aap, cap, eap⟩ := rw_open hp rfl; obtain ⟨Aaq, caq, eaq⟩ := rw_open hq rfl; obtain ⟨Aat, cat, eat⟩ := rw_open ht rfl; dsimp only at eap eaq eat hp hq ht; subst eap; subst eaq; subst eat; (try dsimp only [parV]); have G1 := Lib.hid ((G0.out.trans hb).alloc (.cells #[.int .i64 rc0.frm, .int .i64 rc0.til, .slice Aap rc0.p.length cap, .slice Aaq rc0.q.length caq, .slice Aat rc0.t.length cat, .bool rc0.minus] 28)); have JA1 := Lib.hid ((JA0.out.bl hb).alloc (.cells #[.int .i64 rc0.frm, .int .i64 rc0.til, .slice Aap rc0.p.length cap, .slice Aaq rc0.q.length caq, .slice Aat rc0.t.length cat, .bool rc0.minus] 28)); have JB1 := Lib.hid ((JB0.out.bl hb).alloc (.cells #[.int .i64 rc0.frm, .int .i64 rc0.til, .slice Aap rc0.p.length cap, .slice Aaq rc0.q.length caq, .slice Aat rc0.t.length cat, .bool rc0.minus] 28)); have PA1 := Lib.hid (bq_at (W := w1) (t := 28) (cs := [.int .i64 rc0.frm, .int .i64 rc0.til, .slice Aap rc0.p.length cap, .slice Aaq rc0.q.length caq, .slice Aat rc0.t.length cat, .bool rc0.minus]) rfl); have kJA1_0 := JA1.out.cell 0 rfl; have kJA1_1 := JA1.out.cell 1 rfl; have kJA1_2 := JA1.out.cell 2 rfl; have kJB1_0 := JB1.out.cell 0 rfl; have kJB1_1 := JB1.out.cell 1 rfl; have kJB1_2 := JB1.out.cell 2 rfl; have kPA1_0 := PA1.out.cell 0 rfl; have kPA1_1 := PA1.out.cell 1 rfl; clear hp hq ht hb)
    | (go_at_call 13; (with_reducible refine (KB.out _ (HE.out.bl G1.out)).mono ?_); rintro e w2 ⟨vp, vq, vt, rfl, hp, hq, ht, hb⟩; obtain ⟨Abp, cbp, ebp⟩ := rw_open hp rfl; obtain ⟨Abq, cbq, ebq⟩ := rw_open hq rfl; obtain ⟨Abt, cbt, ebt⟩ := rw_open ht rfl; dsimp only at ebp ebq ebt hp hq ht; subst ebp; subst ebq; subst ebt; (try dsimp only [parV]); have G2 := Lib.hid ((G1.out.trans hb).alloc (.cells #[.int .i64 rc0.frm, .int .i64 rc0.til, .slice Abp rc0.p.length cbp, .slice Abq rc0.q.length cbq, .slice Abt rc0.t.length cbt, .bool rc0.minus] 28)); have JA2 := Lib.hid ((JA1.out.bl hb).alloc (.cells #[.int .i64 rc0.frm, .int .i64 rc0.til, .slice Abp rc0.p.length cbp, .slice Abq rc0.q.length cbq, .slice Abt rc0.t.length cbt, .bool rc0.minus] 28)); have JB2 := Lib.hid ((JB1.out.bl hb).alloc (.cells #[.int .i64 rc0.frm, .int .i64 rc0.til, .slice Abp rc0.p.length cbp, .slice Abq rc0.q.length cbq, .slice Abt rc0.t.length cbt, .bool rc0.minus] 28)); have PA2 := Lib.hid ((PA1.out.bl hb).alloc (.cells #[.int .i64 rc0.frm, .int .i64 rc0.til, .slice Abp rc0.p.length cbp, .slice Abq rc0.q.length cbq, .slice Abt rc0.t.length cbt, .bool rc0.minus] 28)); clear kJA1_0 kJA1_1 kJA1_2 kJB1_0 kJB1_1 kJB1_2 kPA1_0 kPA1_1; have kJA2_0 := JA2.out.cell 0 rfl; have kJA2_1 := JA2.out.cell 1 rfl; have kJA2_2 := JA2.out.cell 2 rfl; have kJB2_0 := JB2.out.cell 0 rfl; have kJB2_1 := JB2.out.cell 1 rfl; have kJB2_2 := JB2.out.cell 2 rfl; have kPA2_0 := PA2.out.cell 0 rfl; have kPA2_1 := PA2.out.cell 1 rfl; clear hp hq ht hb)
    | (go_at_call 11; (with_reducible refine (KT.out _ (HE.out.bl G2.out)).mono ?_); rintro e w3 ⟨vp, vq, vt, rfl, hp, hq, ht, hb⟩; obtain ⟨Axp, cxp, exp⟩ := rw_open hp rfl; obtain ⟨Axq, cxq, exq⟩ := rw_open hq rfl; obtain ⟨Axt, cxt, ext⟩ := rw_open ht rfl; dsimp only at exp exq ext hp hq ht; subst exp; subst exq; subst ext; (try dsimp only [recV]); have G3 := Lib.hid ((G2.out.trans hb).alloc (.cells #[.int .i64 rc0.con, .int .i64 rc0.dgs, .int .i64 rc0.gua, .int .i64 rc0.frm, .int .i64 rc0.til, .slice Axp rc0.p.length cxp, .slice Axq rc0.q.length cxq, .slice Axt rc0.t.length cxt, .bool rc0.minus] 30)); have JA3 := Lib.hid ((JA2.out.bl hb).alloc (.cells #[.int .i64 rc0.con, .int .i64 rc0.dgs, .int .i64 rc0.gua, .int .i64 rc0.frm, .int .i64 rc0.til, .slice Axp rc0.p.length cxp, .slice Axq rc0.q.length cxq, .slice Axt rc0.t.length cxt, .bool rc0.minus] 30)); have JB3 := Lib.hid ((JB2.out.bl hb).alloc (.cells #[.int .i64 rc0.con, .int .i64 rc0.dgs, .int .i64 rc0.gua, .int .i64 rc0.frm, .int .i64 rc0.til, .slice Axp rc0.p.length cxp, .slice Axq rc0.q.length cxq, .slice Axt rc0.t.length cxt, .bool rc0.minus] 30)); have PA3 := Lib.hid ((PA2.out.bl hb).alloc (.cells #[.int .i64 rc0.con, .int .i64 rc0.dgs, .int .i64 rc0.gua, .int .i64 rc0.frm, .int .i64 rc0.til, .slice Axp rc0.p.length cxp, .slice Axq rc0.q.length cxq, .slice Axt rc0.t.length cxt, .bool rc0.minus] 30)); have RX3 := Lib.hid (bq_at (W := w3) (t := 30) (cs := [.int .i64 rc0.con, .int .i64 rc0.dgs, .int .i64 rc0.gua, .int .i64 rc0.frm, .int .i64 rc0.til, .slice Axp rc0.p.length cxp, .slice Axq rc0.q.length cxq, .slice Axt rc0.t.length cxt, .bool rc0.minus]) rfl); clear kJA2_0 kJA2_1 kJA2_2 kJB2_0 kJB2_1 kJB2_2 kPA2_0 kPA2_1; have kJA3_0 := JA3.out.cell 0 rfl; have kJA3_1 := JA3.out.cell 1 rfl; have kJA3_2 := JA3.out.cell 2 rfl; have kJB3_0 := JB3.out.cell 0 rfl; have kJB3_1 := JB3.out.cell 1 rfl; have kJB3_2 := JB3.out.cell 2 rfl; have kPA3_0 := PA3.out.cell 0 rfl; have kPA3_1 := PA3.out.cell 1 rfl; have kRX3_0 := RX3.out.cell 0 rfl; have kRX3_1 := RX3.out.cell 1 rfl; have kRX3_2 := RX3.out.cell 2 rfl; have kRX3_3 := RX3.out.cell 3 rfl; have kRX3_4 := RX3.out.cell 4 rfl; clear hp hq ht hb))
  go_ret
  exact ⟨rfl, G3.out⟩
set_option maxRecDepth 100000 in
set_option maxHeartbeats 4000000 in
theorem others_no_true (l : List Nat) (a1 a2 a3 b1 b2 b3 : Int) (n : Nat) (r : Rc) (ha : All 256 l) (hl : l.length ≤ 140737488355328) (w : World) (hE : ErrT w) (hX : decB l = (0, r)) (sa : (r.con == a1 && r.dgs == a2 && r.gua == a3) = false) (sb : (r.con == b1 && r.dgs == b2 && r.gua == b3) = false) (hq : (a1 == b1 && a2 == b2 && a3 == b3) = true) :
    Calls Tryd.prog 7 #[.string (bs l), .agg #[.int .i64 a1, .int .i64 a2, .int .i64 a3], .agg #[.int .i64 b1, .int .i64 b2, .int .i64 b3]] w fun e w' => e = .returned (.bool true) ∧ Bl w w' := by
  have hA : ofE a1 a2 a3 (decB l) = (11, rc0) := by rw [ofE_no (by rw [hX]) (by rw [hX]; exact sa)]
  have hB : ofE b1 b2 b3 (decB l) = (11, rc0) := by rw [ofE_no (by rw [hX]) (by rw [hX]; exact sb)]
  have xe := fun W => eql_job a1 a2 a3 b1 b2 b3 W
  have xn := fun W => neq_job a1 a2 a3 b1 b2 b3 W
  have hab : (a1 == b1 && a2 == b2 && a3 == b3) = true := hq
  simp only [hab] at xe xn
  clear hab
  clear sa sb hq
  have KA := Lib.hid (fun W (h : ErrT W) => pof_any l a1 a2 a3 ha hl W h)
  have KB := Lib.hid (fun W (h : ErrT W) => pof_any l b1 b2 b3 ha hl W h)
  have KT := Lib.hid (fun W (h : ErrT W) => ptake_any l ha (by omega) W h)
  rw [hA] at KA
  rw [hB] at KB
  rw [hX] at KT
  have HE := Lib.hid hE
  obtain ⟨S, eS⟩ : ∃ S, bs l = S := ⟨_, rfl⟩
  rw [eS] at KA KB KT ⊢
  clear eS ha hl hE hX hA hB
  have G0 : Hid (Bl w ((w.alloc (.cells #[.int .i64 a1, .int .i64 a2, .int .i64 a3] 23)).alloc (.cells #[.int .i64 b1, .int .i64 b2, .int .i64 b3] 23))) := ((Bl.refl w).alloc _).alloc _
  have JA0 := Lib.hid ((bq_at (W := w) (t := 23) (cs := [.int .i64 a1, .int .i64 a2, .int .i64 a3]) rfl).alloc (.cells #[.int .i64 b1, .int .i64 b2, .int .i64 b3] 23))
  have JB0 : Hid (Bq ((w.alloc (.cells #[.int .i64 a1, .int .i64 a2, .int .i64 a3] 23)).alloc (.cells #[.int .i64 b1, .int .i64 b2, .int .i64 b3] 23)) (w.heap.size + 1) 23 [.int .i64 b1, .int .i64 b2, .int .i64 b3]) := bq_at (by simp)
  go_enter Tryd.func7, Tryd.ntmps7
  go_wp2_with (first
    | (go_at_call 8; (with_reducible refine (shown14_any _).mono ?_); rintro e w' ⟨rfl, rfl⟩)
    | (go_at_call 13; (with_reducible refine (KA.out _ (HE.out.bl G0.out)).mono ?_); rintro e w1 ⟨vp, vq, vt, rfl, hp, hq, ht, hb⟩; obtain ⟨Aap, cap, eap⟩ := rw_open hp rfl; obtain ⟨Aaq, caq, eaq⟩ := rw_open hq rfl; obtain ⟨Aat, cat, eat⟩ := rw_open ht rfl; dsimp only at eap eaq eat hp hq ht; subst eap; subst eaq; subst eat; (try dsimp only [parV]); have G1 := Lib.hid ((G0.out.trans hb).alloc (.cells #[.int .i64 rc0.frm, .int .i64 rc0.til, .slice Aap rc0.p.length cap, .slice Aaq rc0.q.length caq, .slice Aat rc0.t.length cat, .bool rc0.minus] 28)); have JA1 := Lib.hid ((JA0.out.bl hb).alloc (.cells #[.int .i64 rc0.frm, .int .i64 rc0.til, .slice Aap rc0.p.length cap, .slice Aaq rc0.q.length caq, .slice Aat rc0.t.length cat, .bool rc0.minus] 28)); have JB1 := Lib.hid ((JB0.out.bl hb).alloc (.cells #[.int .i64 rc0.frm, .int .i64 rc0.til, .slice Aap rc0.p.length cap, .slice Aaq rc0.q.length caq, .slice Aat rc0.t.length cat, .bool rc0.minus] 28)); have PA1 := Lib.hid (bq_at (W := w1) (t := 28) (cs := [.int .i64 rc0.frm, .int .i64 rc0.til, .slice Aap rc0.p.length cap, .slice Aaq rc0.q.length caq, .slice Aat rc0.t.length cat, .bool rc0.minus]) rfl); have kJA1_0 := JA1.out.cell 0 rfl; have kJA1_1 := JA1.out.cell 1 rfl; have kJA1_2 := JA1.out.cell 2 rfl; have kJB1_0 := JB1.out.cell 0 rfl; have kJB1_1 := JB1.out.cell 1 rfl; have kJB1_2 := JB1.out.cell 2 rfl; have kPA1_0 := PA1.out.cell 0 rfl; have kPA1_1 := PA1.out.cell 1 rfl; clear hp hq ht hb)
    | (go_at_call 13; (with_reducible refine (KB.out _ (HE.out.bl G1.out)).mono ?_); rintro e w2 ⟨vp, vq, vt, rfl, hp, hq, ht, hb⟩; obtain ⟨Abp, cbp, ebp⟩ := rw_open hp rfl; obtain ⟨Abq, cbq, ebq⟩ := rw_open hq rfl; obtain ⟨Abt, cbt, ebt⟩ := rw_open ht rfl; dsimp only at ebp ebq ebt hp hq ht; subst ebp; subst ebq; subst ebt; (try dsimp only [parV]); have G2 := Lib.hid ((G1.out.trans hb).alloc (.cells #[.int .i64 rc0.frm, .int .i64 rc0.til, .slice Abp rc0.p.length cbp, .slice Abq rc0.q.length cbq, .slice Abt rc0.t.length cbt, .bool rc0.minus] 28)); have JA2 := Lib.hid ((JA1.out.bl hb).alloc (.cells #[.int .i64 rc0.frm, .int .i64 rc0.til, .slice Abp rc0.p.length cbp, .slice Abq rc0.q.length cbq, .slice Abt rc0.t.length cbt, .bool rc0.minus] 28)); have JB2 := Lib.hid ((JB1.out.bl hb).alloc (.cells #[.int .i64 rc0.frm, .int .i64 rc0.til, .slice Abp rc0.p.length cbp, .slice Abq rc0.q.length cbq, .slice Abt rc0.t.length cbt, .bool rc0.minus] 28)); have PA2 := Lib.hid ((PA1.out.bl hb).alloc (.cells #[.int .i64 rc0.frm, .int .i64 rc0.til, .slice Abp rc0.p.length cbp, .slice Abq rc0.q.length cbq, .slice Abt rc0.t.length cbt, .bool rc0.minus] 28)); clear kJA1_0 kJA1_1 kJA1_2 kJB1_0 kJB1_1 kJB1_2 kPA1_0 kPA1_1; have kJA2_0 := JA2.out.cell 0 rfl; have kJA2_1 := JA2.out.cell 1 rfl; have kJA2_2 := JA2.out.cell 2 rfl; have kJB2_0 := JB2.out.cell 0 rfl; have kJB2_1 := JB2.out.cell 1 rfl; have kJB2_2 := JB2.out.cell 2 rfl; have kPA2_0 := PA2.out.cell 0 rfl; have kPA2_1 := PA2.out.cell 1 rfl; clear hp hq ht hb)
    | (go_at_call 11; (with_reducible refine (KT.out _ (HE.out.bl G2.out)).mono ?_); rintro e w3 ⟨vp, vq, vt, rfl, hp, hq, ht, hb⟩; obtain ⟨Axp, cxp, exp⟩ := rw_open hp rfl; obtain ⟨Axq, cxq, exq⟩ := rw_open hq rfl; obtain ⟨Axt, cxt, ext⟩ := rw_open ht rfl; dsimp only at exp exq ext hp hq ht; subst exp; subst exq; subst ext; (try dsimp only [recV]); have G3 := Lib.hid ((G2.out.trans hb).alloc (.cells #[.int .i64 r.con, .int .i64 r.dgs, .int .i64 r.gua, .int .i64 r.frm, .int .i64 r.til, .slice Axp r.p.length cxp, .slice Axq r.q.length cxq, .slice Axt r.t.length cxt, .bool r.minus] 30)); have JA3 := Lib.hid ((JA2.out.bl hb).alloc (.cells #[.int .i64 r.con, .int .i64 r.dgs, .int .i64 r.gua, .int .i64 r.frm, .int .i64 r.til, .slice Axp r.p.length cxp, .slice Axq r.q.length cxq, .slice Axt r.t.length cxt, .bool r.minus] 30)); have JB3 := Lib.hid ((JB2.out.bl hb).alloc (.cells #[.int .i64 r.con, .int .i64 r.dgs, .int .i64 r.gua, .int .i64 r.frm, .int .i64 r.til, .slice Axp r.p.length cxp, .slice Axq r.q.length cxq, .slice Axt r.t.length cxt, .bool r.minus] 30)); have PA3 := Lib.hid ((PA2.out.bl hb).alloc (.cells #[.int .i64 r.con, .int .i64 r.dgs, .int .i64 r.gua, .int .i64 r.frm, .int .i64 r.til, .slice Axp r.p.length cxp, .slice Axq r.q.length cxq, .slice Axt r.t.length cxt, .bool r.minus] 30)); have RX3 := Lib.hid (bq_at (W := w3) (t := 30) (cs := [.int .i64 r.con, .int .i64 r.dgs, .int .i64 r.gua, .int .i64 r.frm, .int .i64 r.til, .slice Axp r.p.length cxp, .slice Axq r.q.length cxq, .slice Axt r.t.length cxt, .bool r.minus]) rfl); clear kJA2_0 kJA2_1 kJA2_2 kJB2_0 kJB2_1 kJB2_2 kPA2_0 kPA2_1; have kJA3_0 := JA3.out.cell 0 rfl; have kJA3_1 := JA3.out.cell 1 rfl; have kJA3_2 := JA3.out.cell 2 rfl; have kJB3_0 := JB3.out.cell 0 rfl; have kJB3_1 := JB3.out.cell 1 rfl; have kJB3_2 := JB3.out.cell 2 rfl; have kPA3_0 := PA3.out.cell 0 rfl; have kPA3_1 := PA3.out.cell 1 rfl; have kRX3_0 := RX3.out.cell 0 rfl; have kRX3_1 := RX3.out.cell 1 rfl; have kRX3_2 := RX3.out.cell 2 rfl; have kRX3_3 := RX3.out.cell 3 rfl; have kRX3_4 := RX3.out.cell 4 rfl; clear hp hq ht hb))
  go_ret
  exact ⟨rfl, G3.out⟩
set_option maxRecDepth 100000 in
set_option maxHeartbeats 4000000 in
theorem others_bad_false (l : List Nat) (a1 a2 a3 b1 b2 b3 : Int) (n : Nat) (r : Rc) (ha : All 256 l) (hl : l.length ≤ 140737488355328) (w : World) (hE : ErrT w) (hX : decB l = (n, rc0)) (h0 : n ≠ 0) (hq : (a1 == b1 && a2 == b2 && a3 == b3) = false) :
    Calls Tryd.prog 7 #[.string (bs l), .agg #[.int .i64 a1, .int .i64 a2, .int .i64 a3], .agg #[.int .i64 b1, .int .i64 b2, .int .i64 b3]] w fun e w' => e = .returned (.bool true) ∧ Bl w w' := by
  have hA : ofE a1 a2 a3 (decB l) = (n, rc0) := by rw [ofE_bad (by rw [hX]; exact h0), hX]
  have hB : ofE b1 b2 b3 (decB l) = (n, rc0) := by rw [ofE_bad (by rw [hX]; exact h0), hX]
  have xe := fun W => eql_job a1 a2 a3 b1 b2 b3 W
  have xn := fun W => neq_job a1 a2 a3 b1 b2 b3 W
  have hab : (a1 == b1 && a2 == b2 && a3 == b3) = false := hq
  simp only [hab] at xe xn
  clear hab
  have t0 : ((n : Int) == 0) = false := by rw [beq_eq_false_iff_ne]; omega
  have t1 : ((n : Int) != 0) = true := by rw [bne_iff_ne]; omega
  clear h0 hq
  have KA := Lib.hid (fun W (h : ErrT W) => pof_any l a1 a2 a3 ha hl W h)
  have KB := Lib.hid (fun W (h : ErrT W) => pof_any l b1 b2 b3 ha hl W h)
  have KT := Lib.hid (fun W (h : ErrT W) => ptake_any l ha (by omega) W h)
  rw [hA] at KA
  rw [hB] at KB
  rw [hX] at KT
  have HE := Lib.hid hE
  obtain ⟨S, eS⟩ : ∃ S, bs l = S := ⟨_, rfl⟩
  rw [eS] at KA KB KT ⊢
  clear eS ha hl hE hX hA hB
  have G0 : Hid (Bl w ((w.alloc (.cells #[.int .i64 a1, .int .i64 a2, .int .i64 a3] 23)).alloc (.cells #[.int .i64 b1, .int .i64 b2, .int .i64 b3] 23))) := ((Bl.refl w).alloc _).alloc _
  have JA0 := Lib.hid ((bq_at (W := w) (t := 23) (cs := [.int .i64 a1, .int .i64 a2, .int .i64 a3]) rfl).alloc (.cells #[.int .i64 b1, .int .i64 b2, .int .i64 b3] 23))
  have JB0 : Hid (Bq ((w.alloc (.cells #[.int .i64 a1, .int .i64 a2, .int .i64 a3] 23)).alloc (.cells #[.int .i64 b1, .int .i64 b2, .int .i64 b3] 23)) (w.heap.size + 1) 23 [.int .i64 b1, .int .i64 b2, .int .i64 b3]) := bq_at (by simp)
  go_enter Tryd.func7, Tryd.ntmps7
  go_wp2_with (first
    | (go_at_call 8; (with_reducible refine (shown14_any _).mono ?_); rintro e w' ⟨rfl, rfl⟩)
    | (go_at_call 13; (with_reducible refine (KA.out _ (HE.out.bl G0.out)).mono ?_); rintro e w1 ⟨vp, vq, vt, rfl, hp, hq, ht, hb⟩; obtain ⟨Aap, cap, eap⟩ := rw_open hp rfl; obtain ⟨Aaq, caq, eaq⟩ := rw_open hq rfl; obtain ⟨Aat, cat, eat⟩ := rw_open ht rfl; dsimp only at eap eaq eat hp hq ht; subst eap; subst eaq; subst eat; (try dsimp only [parV]); have G1 := Lib.hid ((G0.out.trans hb).alloc (.cells #[.int .i64 rc0.frm, .int .i64 rc0.til, .slice Aap rc0.p.length cap, .slice Aaq rc0.q.length caq, .slice Aat rc0.t.length cat, .bool rc0.minus] 28)); have JA1 := Lib.hid ((JA0.out.bl hb).alloc (.cells #[.int .i64 rc0.frm, .int .i64 rc0.til, .slice Aap rc0.p.length cap, .slice Aaq rc0.q.length caq, .slice Aat rc0.t.length cat, .bool rc0.minus] 28)); have JB1 := Lib.hid ((JB0.out.bl hb).alloc (.cells #[.int .i64 rc0.frm, .int .i64 rc0.til, .slice Aap rc0.p.length cap, .slice Aaq rc0.q.length caq, .slice Aat rc0.t.length cat, .bool rc0.minus] 28)); have PA1 := Lib.hid (bq_at (W := w1) (t := 28) (cs := [.int .i64 rc0.frm, .int .i64 rc0.til, .slice Aap rc0.p.length cap, .slice Aaq rc0.q.length caq, .slice Aat rc0.t.length cat, .bool rc0.minus]) rfl); have kJA1_0 := JA1.out.cell 0 rfl; have kJA1_1 := JA1.out.cell 1 rfl; have kJA1_2 := JA1.out.cell 2 rfl; have kJB1_0 := JB1.out.cell 0 rfl; have kJB1_1 := JB1.out.cell 1 rfl; have kJB1_2 := JB1.out.cell 2 rfl; have kPA1_0 := PA1.out.cell 0 rfl; have kPA1_1 := PA1.out.cell 1 rfl; clear hp hq ht hb)
    | (go_at_call 13; (with_reducible refine (KB.out _ (HE.out.bl G1.out)).mono ?_); rintro e w2 ⟨vp, vq, vt, rfl, hp, hq, ht, hb⟩; obtain ⟨Abp, cbp, ebp⟩ := rw_open hp rfl; obtain ⟨Abq, cbq, ebq⟩ := rw_open hq rfl; obtain ⟨Abt, cbt, ebt⟩ := rw_open ht rfl; dsimp only at ebp ebq ebt hp hq ht; subst ebp; subst ebq; subst ebt; (try dsimp only [parV]); have G2 := Lib.hid ((G1.out.trans hb).alloc (.cells #[.int .i64 rc0.frm, .int .i64 rc0.til, .slice Abp rc0.p.length cbp, .slice Abq rc0.q.length cbq, .slice Abt rc0.t.length cbt, .bool rc0.minus] 28)); have JA2 := Lib.hid ((JA1.out.bl hb).alloc (.cells #[.int .i64 rc0.frm, .int .i64 rc0.til, .slice Abp rc0.p.length cbp, .slice Abq rc0.q.length cbq, .slice Abt rc0.t.length cbt, .bool rc0.minus] 28)); have JB2 := Lib.hid ((JB1.out.bl hb).alloc (.cells #[.int .i64 rc0.frm, .int .i64 rc0.til, .slice Abp rc0.p.length cbp, .slice Abq rc0.q.length cbq, .slice Abt rc0.t.length cbt, .bool rc0.minus] 28)); have PA2 := Lib.hid ((PA1.out.bl hb).alloc (.cells #[.int .i64 rc0.frm, .int .i64 rc0.til, .slice Abp rc0.p.length cbp, .slice Abq rc0.q.length cbq, .slice Abt rc0.t.length cbt, .bool rc0.minus] 28)); clear kJA1_0 kJA1_1 kJA1_2 kJB1_0 kJB1_1 kJB1_2 kPA1_0 kPA1_1; have kJA2_0 := JA2.out.cell 0 rfl; have kJA2_1 := JA2.out.cell 1 rfl; have kJA2_2 := JA2.out.cell 2 rfl; have kJB2_0 := JB2.out.cell 0 rfl; have kJB2_1 := JB2.out.cell 1 rfl; have kJB2_2 := JB2.out.cell 2 rfl; have kPA2_0 := PA2.out.cell 0 rfl; have kPA2_1 := PA2.out.cell 1 rfl; clear hp hq ht hb)
    | (go_at_call 11; (with_reducible refine (KT.out _ (HE.out.bl G2.out)).mono ?_); rintro e w3 ⟨vp, vq, vt, rfl, hp, hq, ht, hb⟩; obtain ⟨Axp, cxp, exp⟩ := rw_open hp rfl; obtain ⟨Axq, cxq, exq⟩ := rw_open hq rfl; obtain ⟨Axt, cxt, ext⟩ := rw_open ht rfl; dsimp only at exp exq ext hp hq ht; subst exp; subst exq; subst ext; (try dsimp only [recV]); have G3 := Lib.hid ((G2.out.trans hb).alloc (.cells #[.int .i64 rc0.con, .int .i64 rc0.dgs, .int .i64 rc0.gua, .int .i64 rc0.frm, .int .i64 rc0.til, .slice Axp rc0.p.length cxp, .slice Axq rc0.q.length cxq, .slice Axt rc0.t.length cxt, .bool rc0.minus] 30)); have JA3 := Lib.hid ((JA2.out.bl hb).alloc (.cells #[.int .i64 rc0.con, .int .i64 rc0.dgs, .int .i64 rc0.gua, .int .i64 rc0.frm, .int .i64 rc0.til, .slice Axp rc0.p.length cxp, .slice Axq rc0.q.length cxq, .slice Axt rc0.t.length cxt, .bool rc0.minus] 30)); have JB3 := Lib.hid ((JB2.out.bl hb).alloc (.cells #[.int .i64 rc0.con, .int .i64 rc0.dgs, .int .i64 rc0.gua, .int .i64 rc0.frm, .int .i64 rc0.til, .slice Axp rc0.p.length cxp, .slice Axq rc0.q.length cxq, .slice Axt rc0.t.length cxt, .bool rc0.minus] 30)); have PA3 := Lib.hid ((PA2.out.bl hb).alloc (.cells #[.int .i64 rc0.con, .int .i64 rc0.dgs, .int .i64 rc0.gua, .int .i64 rc0.frm, .int .i64 rc0.til, .slice Axp rc0.p.length cxp, .slice Axq rc0.q.length cxq, .slice Axt rc0.t.length cxt, .bool rc0.minus] 30)); have RX3 := Lib.hid (bq_at (W := w3) (t := 30) (cs := [.int .i64 rc0.con, .int .i64 rc0.dgs, .int .i64 rc0.gua, .int .i64 rc0.frm, .int .i64 rc0.til, .slice Axp rc0.p.length cxp, .slice Axq rc0.q.length cxq, .slice Axt rc0.t.length cxt, .bool rc0.minus]) rfl); clear kJA2_0 kJA2_1 kJA2_2 kJB2_0 kJB2_1 kJB2_2 kPA2_0 kPA2_1; have kJA3_0 := JA3.out.cell 0 rfl; have kJA3_1 := JA3.out.cell 1 rfl; have kJA3_2 := JA3.out.cell 2 rfl; have kJB3_0 := JB3.out.cell 0 rfl; have kJB3_1 := JB3.out.cell 1 rfl; have kJB3_2 := JB3.out.cell 2 rfl; have kPA3_0 := PA3.out.cell 0 rfl; have kPA3_1 := PA3.out.cell 1 rfl; have kRX3_0 := RX3.out.cell 0 rfl; have kRX3_1 := RX3.out.cell 1 rfl; have kRX3_2 := RX3.out.cell 2 rfl; have kRX3_3 := RX3.out.cell 3 rfl; have kRX3_4 := RX3.out.cell 4 rfl; clear hp hq ht hb))
  go_ret
  exact ⟨rfl, G3.out⟩
set_option maxRecDepth 100000 in
set_option maxHeartbeats 4000000 in
theorem others_no_false (l : List Nat) (a1 a2 a3 b1 b2 b3 : Int) (n : Nat) (r : Rc) (ha : All 256 l) (hl : l.length ≤ 140737488355328) (w : World) (hE : ErrT w) (hX : decB l = (0, r)) (sa : (r.con == a1 && r.dgs == a2 && r.gua == a3) = false) (sb : (r.con == b1 && r.dgs == b2 && r.gua == b3) = false) (hq : (a1 == b1 && a2 == b2 && a3 == b3) = false) :
    Calls Tryd.prog 7 #[.string (bs l), .agg #[.int .i64 a1, .int .i64 a2, .int .i64 a3], .agg #[.int .i64 b1, .int .i64 b2, .int .i64 b3]] w fun e w' => e = .returned (.bool true) ∧ Bl w w' := by
  have hA : ofE a1 a2 a3 (decB l) = (11, rc0) := by rw [ofE_no (by rw [hX]) (by rw [hX]; exact sa)]
  have hB : ofE b1 b2 b3 (decB l) = (11, rc0) := by rw [ofE_no (by rw [hX]) (by rw [hX]; exact sb)]
  have xe := fun W => eql_job a1 a2 a3 b1 b2 b3 W
  have xn := fun W => neq_job a1 a2 a3 b1 b2 b3 W
  have hab : (a1 == b1 && a2 == b2 && a3 == b3) = false := hq
  simp only [hab] at xe xn
  clear hab
  clear sa sb hq
  have KA := Lib.hid (fun W (h : ErrT W) => pof_any l a1 a2 a3 ha hl W h)
  have KB := Lib.hid (fun W (h : ErrT W) => pof_any l b1 b2 b3 ha hl W h)
  have KT := Lib.hid (fun W (h : ErrT W) => ptake_any l ha (by omega) W h)
  rw [hA] at KA
  rw [hB] at KB
  rw [hX] at KT
  have HE := Lib.hid hE
  obtain ⟨S, eS⟩ : ∃ S, bs l = S := ⟨_, rfl⟩
  rw [eS] at KA KB KT ⊢
  clear eS ha hl hE hX hA hB
  have G0 : Hid (Bl w ((w.alloc (.cells #[.int .i64 a1, .int .i64 a2, .int .i64 a3] 23)).alloc (.cells #[.int .i64 b1, .int .i64 b2, .int .i64 b3] 23))) := ((Bl.refl w).alloc _).alloc _
  have JA0 := Lib.hid ((bq_at (W := w) (t := 23) (cs := [.int .i64 a1, .int .i64 a2, .int .i64 a3]) rfl).alloc (.cells #[.int .i64 b1, .int .i64 b2, .int .i64 b3] 23))
  have JB0 : Hid (Bq ((w.alloc (.cells #[.int .i64 a1, .int .i64 a2, .int .i64 a3] 23)).alloc (.cells #[.int .i64 b1, .int .i64 b2, .int .i64 b3] 23)) (w.heap.size + 1) 23 [.int .i64 b1, .int .i64 b2, .int .i64 b3]) := bq_at (by simp)
  go_enter Tryd.func7, Tryd.ntmps7
  go_wp2_with (first
    | (go_at_call 8; (with_reducible refine (shown14_any _).mono ?_); rintro e w' ⟨rfl, rfl⟩)
    | (go_at_call 13; (with_reducible refine (KA.out _ (HE.out.bl G0.out)).mono ?_); rintro e w1 ⟨vp, vq, vt, rfl, hp, hq, ht, hb⟩; obtain ⟨Aap, cap, eap⟩ := rw_open hp rfl; obtain ⟨Aaq, caq, eaq⟩ := rw_open hq rfl; obtain ⟨Aat, cat, eat⟩ := rw_open ht rfl; dsimp only at eap eaq eat hp hq ht; subst eap; subst eaq; subst eat; (try dsimp only [parV]); have G1 := Lib.hid ((G0.out.trans hb).alloc (.cells #[.int .i64 rc0.frm, .int .i64 rc0.til, .slice Aap rc0.p.length cap, .slice Aaq rc0.q.length caq, .slice Aat rc0.t.length cat, .bool rc0.minus] 28)); have JA1 := Lib.hid ((JA0.out.bl hb).alloc (.cells #[.int .i64 rc0.frm, .int .i64 rc0.til, .slice Aap rc0.p.length cap, .slice Aaq rc0.q.length caq, .slice Aat rc0.t.length cat, .bool rc0.minus] 28)); have JB1 := Lib.hid ((JB0.out.bl hb).alloc (.cells #[.int .i64 rc0.frm, .int .i64 rc0.til, .slice Aap rc0.p.length cap, .slice Aaq rc0.q.length caq, .slice Aat rc0.t.length cat, .bool rc0.minus] 28)); have PA1 := Lib.hid (bq_at (W := w1) (t := 28) (cs := [.int .i64 rc0.frm, .int .i64 rc0.til, .slice Aap rc0.p.length cap, .slice Aaq rc0.q.length caq, .slice Aat rc0.t.length cat, .bool rc0.minus]) rfl); have kJA1_0 := JA1.out.cell 0 rfl; have kJA1_1 := JA1.out.cell 1 rfl; have kJA1_2 := JA1.out.cell 2 rfl; have kJB1_0 := JB1.out.cell 0 rfl; have kJB1_1 := JB1.out.cell 1 rfl; have kJB1_2 := JB1.out.cell 2 rfl; have kPA1_0 := PA1.out.cell 0 rfl; have kPA1_1 := PA1.out.cell 1 rfl; clear hp hq ht hb)
    | (go_at_call 13; (with_reducible refine (KB.out _ (HE.out.bl G1.out)).mono ?_); rintro e w2 ⟨vp, vq, vt, rfl, hp, hq, ht, hb⟩; obtain ⟨Abp, cbp, ebp⟩ := rw_open hp rfl; obtain ⟨Abq, cbq, ebq⟩ := rw_open hq rfl; obtain ⟨Abt, cbt, ebt⟩ := rw_open ht rfl; dsimp only at ebp ebq ebt hp hq ht; subst ebp; subst ebq; subst ebt; (try dsimp only [parV]); have G2 := Lib.hid ((G1.out.trans hb).alloc (.cells #[.int .i64 rc0.frm, .int .i64 rc0.til, .slice Abp rc0.p.length cbp, .slice Abq rc0.q.length cbq, .slice Abt rc0.t.length cbt, .bool rc0.minus] 28)); have JA2 := Lib.hid ((JA1.out.bl hb).alloc (.cells #[.int .i64 rc0.frm, .int .i64 rc0.til, .slice Abp rc0.p.length cbp, .slice Abq rc0.q.length cbq, .slice Abt rc0.t.length cbt, .bool rc0.minus] 28)); have JB2 := Lib.hid ((JB1.out.bl hb).alloc (.cells #[.int .i64 rc0.frm, .int .i64 rc0.til, .slice Abp rc0.p.length cbp, .slice Abq rc0.q.length cbq, .slice Abt rc0.t.length cbt, .bool rc0.minus] 28)); have PA2 := Lib.hid ((PA1.out.bl hb).alloc (.cells #[.int .i64 rc0.frm, .int .i64 rc0.til, .slice Abp rc0.p.length cbp, .slice Abq rc0.q.length cbq, .slice Abt rc0.t.length cbt, .bool rc0.minus] 28)); clear kJA1_0 kJA1_1 kJA1_2 kJB1_0 kJB1_1 kJB1_2 kPA1_0 kPA1_1; have kJA2_0 := JA2.out.cell 0 rfl; have kJA2_1 := JA2.out.cell 1 rfl; have kJA2_2 := JA2.out.cell 2 rfl; have kJB2_0 := JB2.out.cell 0 rfl; have kJB2_1 := JB2.out.cell 1 rfl; have kJB2_2 := JB2.out.cell 2 rfl; have kPA2_0 := PA2.out.cell 0 rfl; have kPA2_1 := PA2.out.cell 1 rfl; clear hp hq ht hb)
    | (go_at_call 11; (with_reducible refine (KT.out _ (HE.out.bl G2.out)).mono ?_); rintro e w3 ⟨vp, vq, vt, rfl, hp, hq, ht, hb⟩; obtain ⟨Axp, cxp, exp⟩ := rw_open hp rfl; obtain ⟨Axq, cxq, exq⟩ := rw_open hq rfl; obtain ⟨Axt, cxt, ext⟩ := rw_open ht rfl; dsimp only at exp exq ext hp hq ht; subst exp; subst exq; subst ext; (try dsimp only [recV]); have G3 := Lib.hid ((G2.out.trans hb).alloc (.cells #[.int .i64 r.con, .int .i64 r.dgs, .int .i64 r.gua, .int .i64 r.frm, .int .i64 r.til, .slice Axp r.p.length cxp, .slice Axq r.q.length cxq, .slice Axt r.t.length cxt, .bool r.minus] 30)); have JA3 := Lib.hid ((JA2.out.bl hb).alloc (.cells #[.int .i64 r.con, .int .i64 r.dgs, .int .i64 r.gua, .int .i64 r.frm, .int .i64 r.til, .slice Axp r.p.length cxp, .slice Axq r.q.length cxq, .slice Axt r.t.length cxt, .bool r.minus] 30)); have JB3 := Lib.hid ((JB2.out.bl hb).alloc (.cells #[.int .i64 r.con, .int .i64 r.dgs, .int .i64 r.gua, .int .i64 r.frm, .int .i64 r.til, .slice Axp r.p.length cxp, .slice Axq r.q.length cxq, .slice Axt r.t.length cxt, .bool r.minus] 30)); have PA3 := Lib.hid ((PA2.out.bl hb).alloc (.cells #[.int .i64 r.con, .int .i64 r.dgs, .int .i64 r.gua, .int .i64 r.frm, .int .i64 r.til, .slice Axp r.p.length cxp, .slice Axq r.q.length cxq, .slice Axt r.t.length cxt, .bool r.minus] 30)); have RX3 := Lib.hid (bq_at (W := w3) (t := 30) (cs := [.int .i64 r.con, .int .i64 r.dgs, .int .i64 r.gua, .int .i64 r.frm, .int .i64 r.til, .slice Axp r.p.length cxp, .slice Axq r.q.length cxq, .slice Axt r.t.length cxt, .bool r.minus]) rfl); clear kJA2_0 kJA2_1 kJA2_2 kJB2_0 kJB2_1 kJB2_2 kPA2_0 kPA2_1; have kJA3_0 := JA3.out.cell 0 rfl; have kJA3_1 := JA3.out.cell 1 rfl; have kJA3_2 := JA3.out.cell 2 rfl; have kJB3_0 := JB3.out.cell 0 rfl; have kJB3_1 := JB3.out.cell 1 rfl; have kJB3_2 := JB3.out.cell 2 rfl; have kPA3_0 := PA3.out.cell 0 rfl; have kPA3_1 := PA3.out.cell 1 rfl; have kRX3_0 := RX3.out.cell 0 rfl; have kRX3_1 := RX3.out.cell 1 rfl; have kRX3_2 := RX3.out.cell 2 rfl; have kRX3_3 := RX3.out.cell 3 rfl; have kRX3_4 := RX3.out.cell 4 rfl; clear hp hq ht hb))
  go_ret
  exact ⟨rfl, G3.out⟩
set_option maxRecDepth 100000 in
set_option maxHeartbeats 4000000 in
theorem others_both (l : List Nat) (a1 a2 a3 b1 b2 b3 : Int) (n : Nat) (r : Rc) (ha : All 256 l) (hl : l.length ≤ 140737488355328) (w : World) (hE : ErrT w) (hX : decB l = (0, r)) (sa : (r.con == a1 && r.dgs == a2 && r.gua == a3) = true) (sb : (r.con == b1 && r.dgs == b2 && r.gua == b3) = true) (hq : (a1 == b1 && a2 == b2 && a3 == b3) = true) :
    Calls Tryd.prog 7 #[.string (bs l), .agg #[.int .i64 a1, .int .i64 a2, .int .i64 a3], .agg #[.int .i64 b1, .int .i64 b2, .int .i64 b3]] w fun e w' => e = .returned (.bool true) ∧ Bl w w' := by
  have hA : ofE a1 a2 a3 (decB l) = (0, r) := by rw [ofE_yes (by rw [hX]) (by rw [hX]; exact sa), hX]
  have hB : ofE b1 b2 b3 (decB l) = (0, r) := by rw [ofE_yes (by rw [hX]) (by rw [hX]; exact sb), hX]
  have xe := fun W => eql_job a1 a2 a3 b1 b2 b3 W
  have xn := fun W => neq_job a1 a2 a3 b1 b2 b3 W
  have hab : (a1 == b1 && a2 == b2 && a3 == b3) = true := hq
  simp only [hab] at xe xn
  clear hab
  have xj := fun W => neq_job r.con r.dgs r.gua a1 a2 a3 W
  simp only [sa] at xj
  have xr := fun W => neq_range r.frm r.til r.frm r.til W
  simp only [beq_self_eq_true, Bool.and_self, Bool.not_true] at xr
  clear sa sb hq
  have KA := Lib.hid (fun W (h : ErrT W) => pof_any l a1 a2 a3 ha hl W h)
  have KB := Lib.hid (fun W (h : ErrT W) => pof_any l b1 b2 b3 ha hl W h)
  have KT := Lib.hid (fun W (h : ErrT W) => ptake_any l ha (by omega) W h)
  rw [hA] at KA
  rw [hB] at KB
  rw [hX] at KT
  have HE := Lib.hid hE
  obtain ⟨S, eS⟩ : ∃ S, bs l = S := ⟨_, rfl⟩
  rw [eS] at KA KB KT ⊢
  clear eS ha hl hE hX hA hB
  have G0 : Hid (Bl w ((w.alloc (.cells #[.int .i64 a1, .int .i64 a2, .int .i64 a3] 23)).alloc (.cells #[.int .i64 b1, .int .i64 b2, .int .i64 b3] 23))) := ((Bl.refl w).alloc _).alloc _
  have JA0 := Lib.hid ((bq_at (W := w) (t := 23) (cs := [.int .i64 a1, .int .i64 a2, .int .i64 a3]) rfl).alloc (.cells #[.int .i64 b1, .int .i64 b2, .int .i64 b3] 23))
  have JB0 : Hid (Bq ((w.alloc (.cells #[.int .i64 a1, .int .i64 a2, .int .i64 a3] 23)).alloc (.cells #[.int .i64 b1, .int .i64 b2, .int .i64 b3] 23)) (w.heap.size + 1) 23 [.int .i64 b1, .int .i64 b2, .int .i64 b3]) := bq_at (by simp)
  go_enter Tryd.func7, Tryd.ntmps7
  go_wp2_with (first
    | (go_at_call 8; (with_reducible refine (shown14_any _).mono ?_); rintro e w' ⟨rfl, rfl⟩)
    | (go_at_call 13; (with_reducible refine (KA.out _ (HE.out.bl G0.out)).mono ?_); rintro e w1 ⟨vp, vq, vt, rfl, hp, hq, ht, hb⟩; obtain ⟨Aap, cap, eap⟩ := rw_open hp rfl; obtain ⟨Aaq, caq, eaq⟩ := rw_open hq rfl; obtain ⟨Aat, cat, eat⟩ := rw_open ht rfl; dsimp only at eap eaq eat hp hq ht; subst eap; subst eaq; subst eat; (try dsimp only [parV]); have G1 := Lib.hid ((G0.out.trans hb).alloc (.cells #[.int .i64 r.frm, .int .i64 r.til, .slice Aap r.p.length cap, .slice Aaq r.q.length caq, .slice Aat r.t.length cat, .bool r.minus] 28)); have JA1 := Lib.hid ((JA0.out.bl hb).alloc (.cells #[.int .i64 r.frm, .int .i64 r.til, .slice Aap r.p.length cap, .slice Aaq r.q.length caq, .slice Aat r.t.length cat, .bool r.minus] 28)); have JB1 := Lib.hid ((JB0.out.bl hb).alloc (.cells #[.int .i64 r.frm, .int .i64 r.til, .slice Aap r.p.length cap, .slice Aaq r.q.length caq, .slice Aat r.t.length cat, .bool r.minus] 28)); have PA1 := Lib.hid (bq_at (W := w1) (t := 28) (cs := [.int .i64 r.frm, .int .i64 r.til, .slice Aap r.p.length cap, .slice Aaq r.q.length caq, .slice Aat r.t.length cat, .bool r.minus]) rfl); have kJA1_0 := JA1.out.cell 0 rfl; have kJA1_1 := JA1.out.cell 1 rfl; have kJA1_2 := JA1.out.cell 2 rfl; have kJB1_0 := JB1.out.cell 0 rfl; have kJB1_1 := JB1.out.cell 1 rfl; have kJB1_2 := JB1.out.cell 2 rfl; have kPA1_0 := PA1.out.cell 0 rfl; have kPA1_1 := PA1.out.cell 1 rfl; clear hp hq ht hb)
    | (go_at_call 13; (with_reducible refine (KB.out _ (HE.out.bl G1.out)).mono ?_); rintro e w2 ⟨vp, vq, vt, rfl, hp, hq, ht, hb⟩; obtain ⟨Abp, cbp, ebp⟩ := rw_open hp rfl; obtain ⟨Abq, cbq, ebq⟩ := rw_open hq rfl; obtain ⟨Abt, cbt, ebt⟩ := rw_open ht rfl; dsimp only at ebp ebq ebt hp hq ht; subst ebp; subst ebq; subst ebt; (try dsimp only [parV]); have G2 := Lib.hid ((G1.out.trans hb).alloc (.cells #[.int .i64 r.frm, .int .i64 r.til, .slice Abp r.p.length cbp, .slice Abq r.q.length cbq, .slice Abt r.t.length cbt, .bool r.minus] 28)); have JA2 := Lib.hid ((JA1.out.bl hb).alloc (.cells #[.int .i64 r.frm, .int .i64 r.til, .slice Abp r.p.length cbp, .slice Abq r.q.length cbq, .slice Abt r.t.length cbt, .bool r.minus] 28)); have JB2 := Lib.hid ((JB1.out.bl hb).alloc (.cells #[.int .i64 r.frm, .int .i64 r.til, .slice Abp r.p.length cbp, .slice Abq r.q.length cbq, .slice Abt r.t.length cbt, .bool r.minus] 28)); have PA2 := Lib.hid ((PA1.out.bl hb).alloc (.cells #[.int .i64 r.frm, .int .i64 r.til, .slice Abp r.p.length cbp, .slice Abq r.q.length cbq, .slice Abt r.t.length cbt, .bool r.minus] 28)); clear kJA1_0 kJA1_1 kJA1_2 kJB1_0 kJB1_1 kJB1_2 kPA1_0 kPA1_1; have kJA2_0 := JA2.out.cell 0 rfl; have kJA2_1 := JA2.out.cell 1 rfl; have kJA2_2 := JA2.out.cell 2 rfl; have kJB2_0 := JB2.out.cell 0 rfl; have kJB2_1 := JB2.out.cell 1 rfl; have kJB2_2 := JB2.out.cell 2 rfl; have kPA2_0 := PA2.out.cell 0 rfl; have kPA2_1 := PA2.out.cell 1 rfl; clear hp hq ht hb)
    | (go_at_call 11; (with_reducible refine (KT.out _ (HE.out.bl G2.out)).mono ?_); rintro e w3 ⟨vp, vq, vt, rfl, hp, hq, ht, hb⟩; obtain ⟨Axp, cxp, exp⟩ := rw_open hp rfl; obtain ⟨Axq, cxq, exq⟩ := rw_open hq rfl; obtain ⟨Axt, cxt, ext⟩ := rw_open ht rfl; dsimp only at exp exq ext hp hq ht; subst exp; subst exq; subst ext; (try dsimp only [recV]); have G3 := Lib.hid ((G2.out.trans hb).alloc (.cells #[.int .i64 r.con, .int .i64 r.dgs, .int .i64 r.gua, .int .i64 r.frm, .int .i64 r.til, .slice Axp r.p.length cxp, .slice Axq r.q.length cxq, .slice Axt r.t.length cxt, .bool r.minus] 30)); have JA3 := Lib.hid ((JA2.out.bl hb).alloc (.cells #[.int .i64 r.con, .int .i64 r.dgs, .int .i64 r.gua, .int .i64 r.frm, .int .i64 r.til, .slice Axp r.p.length cxp, .slice Axq r.q.length cxq, .slice Axt r.t.length cxt, .bool r.minus] 30)); have JB3 := Lib.hid ((JB2.out.bl hb).alloc (.cells #[.int .i64 r.con, .int .i64 r.dgs, .int .i64 r.gua, .int .i64 r.frm, .int .i64 r.til, .slice Axp r.p.length cxp, .slice Axq r.q.length cxq, .slice Axt r.t.length cxt, .bool r.minus] 30)); have PA3 := Lib.hid ((PA2.out.bl hb).alloc (.cells #[.int .i64 r.con, .int .i64 r.dgs, .int .i64 r.gua, .int .i64 r.frm, .int .i64 r.til, .slice Axp r.p.length cxp, .slice Axq r.q.length cxq, .slice Axt r.t.length cxt, .bool r.minus] 30)); have RX3 := Lib.hid (bq_at (W := w3) (t := 30) (cs := [.int .i64 r.con, .int .i64 r.dgs, .int .i64 r.gua, .int .i64 r.frm, .int .i64 r.til, .slice Axp r.p.length cxp, .slice Axq r.q.length cxq, .slice Axt r.t.length cxt, .bool r.minus]) rfl); clear kJA2_0 kJA2_1 kJA2_2 kJB2_0 kJB2_1 kJB2_2 kPA2_0 kPA2_1; have kJA3_0 := JA3.out.cell 0 rfl; have kJA3_1 := JA3.out.cell 1 rfl; have kJA3_2 := JA3.out.cell 2 rfl; have kJB3_0 := JB3.out.cell 0 rfl; have kJB3_1 := JB3.out.cell 1 rfl; have kJB3_2 := JB3.out.cell 2 rfl; have kPA3_0 := PA3.out.cell 0 rfl; have kPA3_1 := PA3.out.cell 1 rfl; have kRX3_0 := RX3.out.cell 0 rfl; have kRX3_1 := RX3.out.cell 1 rfl; have kRX3_2 := RX3.out.cell 2 rfl; have kRX3_3 := RX3.out.cell 3 rfl; have kRX3_4 := RX3.out.cell 4 rfl; clear hp hq ht hb))
  go_ret
  exact ⟨rfl, G3.out⟩
set_option maxRecDepth 100000 in
set_option maxHeartbeats 4000000 in
theorem others_first (l : List Nat) (a1 a2 a3 b1 b2 b3 : Int) (n : Nat) (r : Rc) (ha : All 256 l) (hl : l.length ≤ 140737488355328) (w : World) (hE : ErrT w) (hX : decB l = (0, r)) (sa : (r.con == a1 && r.dgs == a2 && r.gua == a3) = true) (sb : (r.con == b1 && r.dgs == b2 && r.gua == b3) = false) (hq : (a1 == b1 && a2 == b2 && a3 == b3) = false) :
    Calls Tryd.prog 7 #[.string (bs l), .agg #[.int .i64 a1, .int .i64 a2, .int .i64 a3], .agg #[.int .i64 b1, .int .i64 b2, .int .i64 b3]] w fun e w' => e = .returned (.bool true) ∧ Bl w w' := by
  have hA : ofE a1 a2 a3 (decB l) = (0, r) := by rw [ofE_yes (by rw [hX]) (by rw [hX]; exact sa), hX]
  have hB : ofE b1 b2 b3 (decB l) = (11, rc0) := by rw [ofE_no (by rw [hX]) (by rw [hX]; exact sb)]
  have xe := fun W => eql_job a1 a2 a3 b1 b2 b3 W
  have xn := fun W => neq_job a1 a2 a3 b1 b2 b3 W
  have hab : (a1 == b1 && a2 == b2 && a3 == b3) = false := hq
  simp only [hab] at xe xn
  clear hab
  have xj := fun W => neq_job r.con r.dgs r.gua a1 a2 a3 W
  simp only [sa] at xj
  have xr := fun W => neq_range r.frm r.til r.frm r.til W
  simp only [beq_self_eq_true, Bool.and_self, Bool.not_true] at xr
  clear sa sb hq
  have KA := Lib.hid (fun W (h : ErrT W) => pof_any l a1 a2 a3 ha hl W h)
  have KB := Lib.hid (fun W (h : ErrT W) => pof_any l b1 b2 b3 ha hl W h)
  have KT := Lib.hid (fun W (h : ErrT W) => ptake_any l ha (by omega) W h)
  rw [hA] at KA
  rw [hB] at KB
  rw [hX] at KT
  have HE := Lib.hid hE
  obtain ⟨S, eS⟩ : ∃ S, bs l = S := ⟨_, rfl⟩
  rw [eS] at KA KB KT ⊢
  clear eS ha hl hE hX hA hB
  have G0 : Hid (Bl w ((w.alloc (.cells #[.int .i64 a1, .int .i64 a2, .int .i64 a3] 23)).alloc (.cells #[.int .i64 b1, .int .i64 b2, .int .i64 b3] 23))) := ((Bl.refl w).alloc _).alloc _
  have JA0 := Lib.hid ((bq_at (W := w) (t := 23) (cs := [.int .i64 a1, .int .i64 a2, .int .i64 a3]) rfl).alloc (.cells #[.int .i64 b1, .int .i64 b2, .int .i64 b3] 23))
  have JB0 : Hid (Bq ((w.alloc (.cells #[.int .i64 a1, .int .i64 a2, .int .i64 a3] 23)).alloc (.cells #[.int .i64 b1, .int .i64 b2, .int .i64 b3] 23)) (w.heap.size + 1) 23 [.int .i64 b1, .int .i64 b2, .int .i64 b3]) := bq_at (by simp)
  go_enter Tryd.func7, Tryd.ntmps7
  go_wp2_with (first
    | (go_at_call 8; (with_reducible refine (shown14_any _).mono ?_); rintro e w' ⟨rfl, rfl⟩)
    | (go_at_call 13; (with_reducible refine (KA.out _ (HE.out.bl G0.out)).mono ?_); rintro e w1 ⟨vp, vq, vt, rfl, hp, hq, ht, hb⟩; obtain ⟨Aap, cap, eap⟩ := rw_open hp rfl; obtain ⟨Aaq, caq, eaq⟩ := rw_open hq rfl; obtain ⟨Aat, cat, eat⟩ := rw_open ht rfl; dsimp only at eap eaq eat hp hq ht; subst eap; subst eaq; subst eat; (try dsimp only [parV]); have G1 := Lib.hid ((G0.out.trans hb).alloc (.cells #[.int .i64 r.frm, .int .i64 r.til, .slice Aap r.p.length cap, .slice Aaq r.q.length caq, .slice Aat r.t.length cat, .bool r.minus] 28)); have JA1 := Lib.hid ((JA0.out.bl hb).alloc (.cells #[.int .i64 r.frm, .int .i64 r.til, .slice Aap r.p.length cap, .slice Aaq r.q.length caq, .slice Aat r.t.length cat, .bool r.minus] 28)); have JB1 := Lib.hid ((JB0.out.bl hb).alloc (.cells #[.int .i64 r.frm, .int .i64 r.til, .slice Aap r.p.length cap, .slice Aaq r.q.length caq, .slice Aat r.t.length cat, .bool r.minus] 28)); have PA1 := Lib.hid (bq_at (W := w1) (t := 28) (cs := [.int .i64 r.frm, .int .i64 r.til, .slice Aap r.p.length cap, .slice Aaq r.q.length caq, .slice Aat r.t.length cat, .bool r.minus]) rfl); have kJA1_0 := JA1.out.cell 0 rfl; have kJA1_1 := JA1.out.cell 1 rfl; have kJA1_2 := JA1.out.cell 2 rfl; have kJB1_0 := JB1.out.cell 0 rfl; have kJB1_1 := JB1.out.cell 1 rfl; have kJB1_2 := JB1.out.cell 2 rfl; have kPA1_0 := PA1.out.cell 0 rfl; have kPA1_1 := PA1.out.cell 1 rfl; clear hp hq ht hb)
    | (go_at_call 13; (with_reducible refine (KB.out _ (HE.out.bl G1.out)).mono ?_); rintro e w2 ⟨vp, vq, vt, rfl, hp, hq, ht, hb⟩; obtain ⟨Abp, cbp, ebp⟩ := rw_open hp rfl; obtain ⟨Abq, cbq, ebq⟩ := rw_open hq rfl; obtain ⟨Abt, cbt, ebt⟩ := rw_open ht rfl; dsimp only at ebp ebq ebt hp hq ht; subst ebp; subst ebq; subst ebt; (try dsimp only [parV]); have G2 := Lib.hid ((G1.out.trans hb).alloc (.cells #[.int .i64 rc0.frm, .int .i64 rc0.til, .slice Abp rc0.p.length cbp, .slice Abq rc0.q.length cbq, .slice Abt rc0.t.length cbt, .bool rc0.minus] 28)); have JA2 := Lib.hid ((JA1.out.bl hb).alloc (.cells #[.int .i64 rc0.frm, .int .i64 rc0.til, .slice Abp rc0.p.length cbp, .slice Abq rc0.q.length cbq, .slice Abt rc0.t.length cbt, .bool rc0.minus] 28)); have JB2 := Lib.hid ((JB1.out.bl hb).alloc (.cells #[.int .i64 rc0.frm, .int .i64 rc0.til, .slice Abp rc0.p.length cbp, .slice Abq rc0.q.length cbq, .slice Abt rc0.t.length cbt, .bool rc0.minus] 28)); have PA2 := Lib.hid ((PA1.out.bl hb).alloc (.cells #[.int .i64 rc0.frm, .int .i64 rc0.til, .slice Abp rc0.p.length cbp, .slice Abq rc0.q.length cbq, .slice Abt rc0.t.length cbt, .bool rc0.minus] 28)); clear kJA1_0 kJA1_1 kJA1_2 kJB1_0 kJB1_1 kJB1_2 kPA1_0 kPA1_1; have kJA2_0 := JA2.out.cell 0 rfl; have kJA2_1 := JA2.out.cell 1 rfl; have kJA2_2 := JA2.out.cell 2 rfl; have kJB2_0 := JB2.out.cell 0 rfl; have kJB2_1 := JB2.out.cell 1 rfl; have kJB2_2 := JB2.out.cell 2 rfl; have kPA2_0 := PA2.out.cell 0 rfl; have kPA2_1 := PA2.out.cell 1 rfl; clear hp hq ht hb)
    | (go_at_call 11; (with_reducible refine (KT.out _ (HE.out.bl G2.out)).mono ?_); rintro e w3 ⟨vp, vq, vt, rfl, hp, hq, ht, hb⟩; obtain ⟨Axp, cxp, exp⟩ := rw_open hp rfl; obtain ⟨Axq, cxq, exq⟩ := rw_open hq rfl; obtain ⟨Axt, cxt, ext⟩ := rw_open ht rfl; dsimp only at exp exq ext hp hq ht; subst exp; subst exq; subst ext; (try dsimp only [recV]); have G3 := Lib.hid ((G2.out.trans hb).alloc (.cells #[.int .i64 r.con, .int .i64 r.dgs, .int .i64 r.gua, .int .i64 r.frm, .int .i64 r.til, .slice Axp r.p.length cxp, .slice Axq r.q.length cxq, .slice Axt r.t.length cxt, .bool r.minus] 30)); have JA3 := Lib.hid ((JA2.out.bl hb).alloc (.cells #[.int .i64 r.con, .int .i64 r.dgs, .int .i64 r.gua, .int .i64 r.frm, .int .i64 r.til, .slice Axp r.p.length cxp, .slice Axq r.q.length cxq, .slice Axt r.t.length cxt, .bool r.minus] 30)); have JB3 := Lib.hid ((JB2.out.bl hb).alloc (.cells #[.int .i64 r.con, .int .i64 r.dgs, .int .i64 r.gua, .int .i64 r.frm, .int .i64 r.til, .slice Axp r.p.length cxp, .slice Axq r.q.length cxq, .slice Axt r.t.length cxt, .bool r.minus] 30)); have PA3 := Lib.hid ((PA2.out.bl hb).alloc (.cells #[.int .i64 r.con, .int .i64 r.dgs, .int .i64 r.gua, .int .i64 r.frm, .int .i64 r.til, .slice Axp r.p.length cxp, .slice Axq r.q.length cxq, .slice Axt r.t.length cxt, .bool r.minus] 30)); have RX3 := Lib.hid (bq_at (W := w3) (t := 30) (cs := [.int .i64 r.con, .int .i64 r.dgs, .int .i64 r.gua, .int .i64 r.frm, .int .i64 r.til, .slice Axp r.p.length cxp, .slice Axq r.q.length cxq, .slice Axt r.t.length cxt, .bool r.minus]) rfl); clear kJA2_0 kJA2_1 kJA2_2 kJB2_0 kJB2_1 kJB2_2 kPA2_0 kPA2_1; have kJA3_0 := JA3.out.cell 0 rfl; have kJA3_1 := JA3.out.cell 1 rfl; have kJA3_2 := JA3.out.cell 2 rfl; have kJB3_0 := JB3.out.cell 0 rfl; have kJB3_1 := JB3.out.cell 1 rfl; have kJB3_2 := JB3.out.cell 2 rfl; have kPA3_0 := PA3.out.cell 0 rfl; have kPA3_1 := PA3.out.cell 1 rfl; have kRX3_0 := RX3.out.cell 0 rfl; have kRX3_1 := RX3.out.cell 1 rfl; have kRX3_2 := RX3.out.cell 2 rfl; have kRX3_3 := RX3.out.cell 3 rfl; have kRX3_4 := RX3.out.cell 4 rfl; clear hp hq ht hb))
  go_ret
  exact ⟨rfl, G3.out⟩
set_option maxRecDepth 100000 in
set_option maxHeartbeats 4000000 in
theorem others_second (l : List Nat) (a1 a2 a3 b1 b2 b3 : Int) (n : Nat) (r : Rc) (ha : All 256 l) (hl : l.length ≤ 140737488355328) (w : World) (hE : ErrT w) (hX : decB l = (0, r)) (sa : (r.con == a1 && r.dgs == a2 && r.gua == a3) = false) (sb : (r.con == b1 && r.dgs == b2 && r.gua == b3) = true) (hq : (a1 == b1 && a2 == b2 && a3 == b3) = false) :
    Calls Tryd.prog 7 #[.string (bs l), .agg #[.int .i64 a1, .int .i64 a2, .int .i64 a3], .agg #[.int .i64 b1, .int .i64 b2, .int .i64 b3]] w fun e w' => e = .returned (.bool true) ∧ Bl w w' := by
  have hA : ofE a1 a2 a3 (decB l) = (11, rc0) := by rw [ofE_no (by rw [hX]) (by rw [hX]; exact sa)]
  have hB : ofE b1 b2 b3 (decB l) = (0, r) := by rw [ofE_yes (by rw [hX]) (by rw [hX]; exact sb), hX]
  have xe := fun W => eql_job a1 a2 a3 b1 b2 b3 W
  have xn := fun W => neq_job a1 a2 a3 b1 b2 b3 W
  have hab : (a1 == b1 && a2 == b2 && a3 == b3) = false := hq
  simp only [hab] at xe xn
  clear hab
  clear sa sb hq
  have KA := Lib.hid (fun W (h : ErrT W) => pof_any l a1 a2 a3 ha hl W h)
  have KB := Lib.hid (fun W (h : ErrT W) => pof_any l b1 b2 b3 ha hl W h)
  have KT := Lib.hid (fun W (h : ErrT W) => ptake_any l ha (by omega) W h)
  rw [hA] at KA
  rw [hB] at KB
  rw [hX] at KT
  have HE := Lib.hid hE
  obtain ⟨S, eS⟩ : ∃ S, bs l = S := ⟨_, rfl⟩
  rw [eS] at KA KB KT ⊢
  clear eS ha hl hE hX hA hB
  have G0 : Hid (Bl w ((w.alloc (.cells #[.int .i64 a1, .int .i64 a2, .int .i64 a3] 23)).alloc (.cells #[.int .i64 b1, .int .i64 b2, .int .i64 b3] 23))) := ((Bl.refl w).alloc _).alloc _
  have JA0 := Lib.hid ((bq_at (W := w) (t := 23) (cs := [.int .i64 a1, .int .i64 a2, .int .i64 a3]) rfl).alloc (.cells #[.int .i64 b1, .int .i64 b2, .int .i64 b3] 23))
  have JB0 : Hid (Bq ((w.alloc (.cells #[.int .i64 a1, .int .i64 a2, .int .i64 a3] 23)).alloc (.cells #[.int .i64 b1, .int .i64 b2, .int .i64 b3] 23)) (w.heap.size + 1) 23 [.int .i64 b1, .int .i64 b2, .int .i64 b3]) := bq_at (by simp)
  go_enter Tryd.func7, Tryd.ntmps7
  go_wp2_with (first
    | (go_at_call 8; (with_reducible refine (shown14_any _).mono ?_); rintro e w' ⟨rfl, rfl⟩)
    | (go_at_call 13; (with_reducible refine (KA.out _ (HE.out.bl G0.out)).mono ?_); rintro e w1 ⟨vp, vq, vt, rfl, hp, hq, ht, hb⟩; obtain ⟨Aap, cap, eap⟩ := rw_open hp rfl; obtain ⟨Aaq, caq, eaq⟩ := rw_open hq rfl; obtain ⟨Aat, cat, eat⟩ := rw_open ht rfl; dsimp only at eap eaq eat hp hq ht; subst eap; subst eaq; subst eat; (try dsimp only [parV]); have G1 := Lib.hid ((G0.out.trans hb).alloc (.cells #[.int .i64 rc0.frm, .int .i64 rc0.til, .slice Aap rc0.p.length cap, .slice Aaq rc0.q.length caq, .slice Aat rc0.t.length cat, .bool rc0.minus] 28)); have JA1 := Lib.hid ((JA0.out.bl hb).alloc (.cells #[.int .i64 rc0.frm, .int .i64 rc0.til, .slice Aap rc0.p.length cap, .slice Aaq rc0.q.length caq, .slice Aat rc0.t.length cat, .bool rc0.minus] 28)); have JB1 := Lib.hid ((JB0.out.bl hb).alloc (.cells #[.int .i64 rc0.frm, .int .i64 rc0.til, .slice Aap rc0.p.length cap, .slice Aaq rc0.q.length caq, .slice Aat rc0.t.length cat, .bool rc0.minus] 28)); have PA1 := Lib.hid (bq_at (W := w1) (t := 28) (cs := [.int .i64 rc0.frm, .int .i64 rc0.til, .slice Aap rc0.p.length cap, .slice Aaq rc0.q.length caq, .slice Aat rc0.t.length cat, .bool rc0.minus]) rfl); have kJA1_0 := JA1.out.cell 0 rfl; have kJA1_1 := JA1.out.cell 1 rfl; have kJA1_2 := JA1.out.cell 2 rfl; have kJB1_0 := JB1.out.cell 0 rfl; have kJB1_1 := JB1.out.cell 1 rfl; have kJB1_2 := JB1.out.cell 2 rfl; have kPA1_0 := PA1.out.cell 0 rfl; have kPA1_1 := PA1.out.cell 1 rfl; clear hp hq ht hb)
    | (go_at_call 13; (with_reducible refine (KB.out _ (HE.out.bl G1.out)).mono ?_); rintro e w2 ⟨vp, vq, vt, rfl, hp, hq, ht, hb⟩; obtain ⟨Abp, cbp, ebp⟩ := rw_open hp rfl; obtain ⟨Abq, cbq, ebq⟩ := rw_open hq rfl; obtain ⟨Abt, cbt, ebt⟩ := rw_open ht rfl; dsimp only at ebp ebq ebt hp hq ht; subst ebp; subst ebq; subst ebt; (try dsimp only [parV]); have G2 := Lib.hid ((G1.out.trans hb).alloc (.cells #[.int .i64 r.frm, .int .i64 r.til, .slice Abp r.p.length cbp, .slice Abq r.q.length cbq, .slice Abt r.t.length cbt, .bool r.minus] 28)); have JA2 := Lib.hid ((JA1.out.bl hb).alloc (.cells #[.int .i64 r.frm, .int .i64 r.til, .slice Abp r.p.length cbp, .slice Abq r.q.length cbq, .slice Abt r.t.length cbt, .bool r.minus] 28)); have JB2 := Lib.hid ((JB1.out.bl hb).alloc (.cells #[.int .i64 r.frm, .int .i64 r.til, .slice Abp r.p.length cbp, .slice Abq r.q.length cbq, .slice Abt r.t.length cbt, .bool r.minus] 28)); have PA2 := Lib.hid ((PA1.out.bl hb).alloc (.cells #[.int .i64 r.frm, .int .i64 r.til, .slice Abp r.p.length cbp, .slice Abq r.q.length cbq, .slice Abt r.t.length cbt, .bool r.minus] 28)); clear kJA1_0 kJA1_1 kJA1_2 kJB1_0 kJB1_1 kJB1_2 kPA1_0 kPA1_1; have kJA2_0 := JA2.out.cell 0 rfl; have kJA2_1 := JA2.out.cell 1 rfl; have kJA2_2 := JA2.out.cell 2 rfl; have kJB2_0 := JB2.out.cell 0 rfl; have kJB2_1 := JB2.out.cell 1 rfl; have kJB2_2 := JB2.out.cell 2 rfl; have kPA2_0 := PA2.out.cell 0 rfl; have kPA2_1 := PA2.out.cell 1 rfl; clear hp hq ht hb)
    | (go_at_call 11; (with_reducible refine (KT.out _ (HE.out.bl G2.out)).mono ?_); rintro e w3 ⟨vp, vq, vt, rfl, hp, hq, ht, hb⟩; obtain ⟨Axp, cxp, exp⟩ := rw_open hp rfl; obtain ⟨Axq, cxq, exq⟩ := rw_open hq rfl; obtain ⟨Axt, cxt, ext⟩ := rw_open ht rfl; dsimp only at exp exq ext hp hq ht; subst exp; subst exq; subst ext; (try dsimp only [recV]); have G3 := Lib.hid ((G2.out.trans hb).alloc (.cells #[.int .i64 r.con, .int .i64 r.dgs, .int .i64 r.gua, .int .i64 r.frm, .int .i64 r.til, .slice Axp r.p.length cxp, .slice Axq r.q.length cxq, .slice Axt r.t.length cxt, .bool r.minus] 30)); have JA3 := Lib.hid ((JA2.out.bl hb).alloc (.cells #[.int .i64 r.con, .int .i64 r.dgs, .int .i64 r.gua, .int .i64 r.frm, .int .i64 r.til, .slice Axp r.p.length cxp, .slice Axq r.q.length cxq, .slice Axt r.t.length cxt, .bool r.minus] 30)); have JB3 := Lib.hid ((JB2.out.bl hb).alloc (.cells #[.int .i64 r.con, .int .i64 r.dgs, .int .i64 r.gua, .int .i64 r.frm, .int .i64 r.til, .slice Axp r.p.length cxp, .slice Axq r.q.length cxq, .slice Axt r.t.length cxt, .bool r.minus] 30)); have PA3 := Lib.hid ((PA2.out.bl hb).alloc (.cells #[.int .i64 r.con, .int .i64 r.dgs, .int .i64 r.gua, .int .i64 r.frm, .int .i64 r.til, .slice Axp r.p.length cxp, .slice Axq r.q.length cxq, .slice Axt r.t.length cxt, .bool r.minus] 30)); have RX3 := Lib.hid (bq_at (W := w3) (t := 30) (cs := [.int .i64 r.con, .int .i64 r.dgs, .int .i64 r.gua, .int .i64 r.frm, .int .i64 r.til, .slice Axp r.p.length cxp, .slice Axq r.q.length cxq, .slice Axt r.t.length cxt, .bool r.minus]) rfl); clear kJA2_0 kJA2_1 kJA2_2 kJB2_0 kJB2_1 kJB2_2 kPA2_0 kPA2_1; have kJA3_0 := JA3.out.cell 0 rfl; have kJA3_1 := JA3.out.cell 1 rfl; have kJA3_2 := JA3.out.cell 2 rfl; have kJB3_0 := JB3.out.cell 0 rfl; have kJB3_1 := JB3.out.cell 1 rfl; have kJB3_2 := JB3.out.cell 2 rfl; have kPA3_0 := PA3.out.cell 0 rfl; have kPA3_1 := PA3.out.cell 1 rfl; have kRX3_0 := RX3.out.cell 0 rfl; have kRX3_1 := RX3.out.cell 1 rfl; have kRX3_2 := RX3.out.cell 2 rfl; have kRX3_3 := RX3.out.cell 3 rfl; have kRX3_4 := RX3.out.cell 4 rfl; clear hp hq ht hb))
  go_ret
  exact ⟨rfl, G3.out⟩
theorem crcOthers_walk (l : List Nat) (ha : All 256 l) (hl : l.length ≤ 140737488355328) (a1 a2 a3 b1 b2 b3 : Int) (w : World) (hE : ErrT w) :
    Calls Tryd.prog 7 #[.string (bs l), .agg #[.int .i64 a1, .int .i64 a2, .int .i64 a3], .agg #[.int .i64 b1, .int .i64 b2, .int .i64 b3]] w fun e w' => e = .returned (.bool true) ∧ Bl w w' := by
  have hbad := dec_bad l
  rcases hX : decB l with ⟨n, r⟩
  rw [hX] at hbad
  dsimp only at hbad
  cases hq : (a1 == b1 && a2 == b2 && a3 == b3)
  all_goals
    by_cases h0 : n = 0
    · subst h0
      cases sa : (r.con == a1 && r.dgs == a2 && r.gua == a3) <;> cases sb : (r.con == b1 && r.dgs == b2 && r.gua == b3)
      all_goals first
        | exact others_no_false l a1 a2 a3 b1 b2 b3 0 r ha hl w hE hX sa sb hq
        | exact others_no_true l a1 a2 a3 b1 b2 b3 0 r ha hl w hE hX sa sb hq
        | exact others_both l a1 a2 a3 b1 b2 b3 0 r ha hl w hE hX sa sb hq
        | exact others_first l a1 a2 a3 b1 b2 b3 0 r ha hl w hE hX sa sb hq
        | exact others_second l a1 a2 a3 b1 b2 b3 0 r ha hl w hE hX sa sb hq
        | (exfalso; simp only [Bool.and_eq_true, beq_iff_eq, Bool.and_eq_false_iff, beq_eq_false_iff_ne] at sa sb hq; omega)
    · have e := hbad h0
      subst e
      first
        | exact others_bad_false l a1 a2 a3 b1 b2 b3 n rc0 ha hl w hE hX h0 hq
        | exact others_bad_true l a1 a2 a3 b1 b2 b3 n rc0 ha hl w hE hX h0 hq
end Go.Proofs.YtpdglbfnmilblaaDoor
