/-
  The walk of CrcCut (printed by gen/cst.py)
-/
import Derived.Test.YtpdglbfnmilblaaDoorPk39
import Derived.Test.YtpdglbfnmilblaaDoorPk44
import Derived.Test.YtpdglbfnmilblaaDoorPk42
import Derived.Test.YtpdglbfnmilblaaDoorPk47
namespace Go.Proofs.YtpdglbfnmilblaaDoor
open Go.RowKit
set_option linter.unusedVariables false
set_option linter.unusedSimpArgs false

set_option maxRecDepth 100000 in
set_option maxHeartbeats 4000000 in
theorem cut_no (r : Rc) (vp vq vt : Value) (hw : r.Wd) (a : Int) (l : List Nat) (ha : All 256 l) (hl : l.length ≤ 140737488355328) (w : World) (hp : Rw .u64 w vp r.p) (hq : Rw .u64 w vq r.q) (ht : Rw .u64 w vt r.t) (hE : ErrT w) (hm : ¬ r.May) :
    Calls Tryd.prog 5 #[recV r vp vq vt, .int .i64 a, .string (bs l)] w fun e w' => e = .returned (.bool true) ∧ Bl w w' := by
  have KB := Lib.hid (fun W (g : Bl w W) => pBytes_any r vp vq vt hw W (hp.bl g) (hq.bl g) (ht.bl g))
  rw [if_neg hm, if_neg hm] at KB
  obtain ⟨Arp, crp, erp⟩ := rw_open hp rfl
  obtain ⟨Arq, crq, erq⟩ := rw_open hq rfl
  obtain ⟨Art, crt, ert⟩ := rw_open ht rfl
  subst erp; subst erq; subst ert
  unfold recV at KB ⊢
  clear hm hw
  go_enter Tryd.func5, Tryd.ntmps5
  go_wp2_with (first
    | (go_at_call 8; (with_reducible refine (shown14_any _).mono ?_); rintro e w' ⟨rfl, rfl⟩)
    | (go_at_call 9; (with_reducible refine (KB.out _ ((Bl.refl w).alloc _)).mono ?_); rintro e w1 ⟨rfl, hb⟩; have G1 := Lib.hid (((Bl.refl w).alloc _).trans hb); clear hb))
  go_ret
  exact ⟨rfl, G1.out⟩
set_option maxRecDepth 100000 in
set_option maxHeartbeats 4000000 in
theorem cut_neg (r : Rc) (vp vq vt : Value) (hw : r.Wd) (a : Int) (l : List Nat) (ha : All 256 l) (hl : l.length ≤ 140737488355328) (w : World) (hp : Rw .u64 w vp r.p) (hq : Rw .u64 w vq r.q) (ht : Rw .u64 w vt r.t) (hE : ErrT w) (hm : r.May) (h : a < 0) :
    Calls Tryd.prog 5 #[recV r vp vq vt, .int .i64 a, .string (bs l)] w fun e w' => e = .returned (.bool true) ∧ Bl w w' := by
  have KB0 := Lib.hid (fun W (g : Bl w W) => pBytes_any r vp vq vt hw W (hp.bl g) (hq.bl g) (ht.bl g))
  rw [if_pos hm, if_pos hm] at KB0
  have hz := bs_size (encB r)
  obtain ⟨S, eS⟩ : ∃ S, bs (encB r) = S := ⟨_, rfl⟩
  have KB : Hid (∀ W, Bl w W → Calls Tryd.prog 9 #[recV r vp vq vt] W fun e w' => e = .returned (.tuple #[.string S, .int .i64 0]) ∧ Bl W w') := fun W g => by
    have c := KB0.out W g
    unfold BsEnd at c
    rw [eS] at c
    exact c
  rw [eS] at hz
  have hlb : (encB r).length ≤ 100000 := by rw [encB_len]; have h1 := hm.2.1.1.1; have h2 := hm.2.1.2.1.1; have h3 := hm.2.1.2.2.1; omega
  obtain ⟨n, hn⟩ : ∃ n, (encB r).length = n := ⟨_, rfl⟩
  rw [hn] at hz hlb
  try rw [hn] at h
  have nb : (n : Int) ≤ 100000 := by omega
  have q0 : decide (a < 0) = true := decide_eq_true h
  obtain ⟨Arp, crp, erp⟩ := rw_open hp rfl
  obtain ⟨Arq, crq, erq⟩ := rw_open hq rfl
  obtain ⟨Art, crt, ert⟩ := rw_open ht rfl
  subst erp; subst erq; subst ert
  unfold recV at KB ⊢
  clear h hn eS KB0 hw hm
  go_enter Tryd.func5, Tryd.ntmps5
  go_wp2_with (first
    | (go_at_call 8; (with_reducible refine (shown14_any _).mono ?_); rintro e w' ⟨rfl, rfl⟩)
    | (go_at_call 9; (with_reducible refine (KB.out _ ((Bl.refl w).alloc _)).mono ?_); rintro e w1 ⟨rfl, hb⟩; have G1 := Lib.hid (((Bl.refl w).alloc _).trans hb); clear hb))
  go_ret
  exact ⟨rfl, G1.out⟩
set_option maxRecDepth 100000 in
set_option maxHeartbeats 4000000 in
theorem cut_far (r : Rc) (vp vq vt : Value) (hw : r.Wd) (a : Int) (l : List Nat) (ha : All 256 l) (hl : l.length ≤ 140737488355328) (w : World) (hp : Rw .u64 w vp r.p) (hq : Rw .u64 w vq r.q) (ht : Rw .u64 w vt r.t) (hE : ErrT w) (hm : r.May) (h : 0 ≤ a ∧ ((encB r).length : Int) ≤ a) :
    Calls Tryd.prog 5 #[recV r vp vq vt, .int .i64 a, .string (bs l)] w fun e w' => e = .returned (.bool true) ∧ Bl w w' := by
  have KB0 := Lib.hid (fun W (g : Bl w W) => pBytes_any r vp vq vt hw W (hp.bl g) (hq.bl g) (ht.bl g))
  rw [if_pos hm, if_pos hm] at KB0
  have hz := bs_size (encB r)
  obtain ⟨S, eS⟩ : ∃ S, bs (encB r) = S := ⟨_, rfl⟩
  have KB : Hid (∀ W, Bl w W → Calls Tryd.prog 9 #[recV r vp vq vt] W fun e w' => e = .returned (.tuple #[.string S, .int .i64 0]) ∧ Bl W w') := fun W g => by
    have c := KB0.out W g
    unfold BsEnd at c
    rw [eS] at c
    exact c
  rw [eS] at hz
  have hlb : (encB r).length ≤ 100000 := by rw [encB_len]; have h1 := hm.2.1.1.1; have h2 := hm.2.1.2.1.1; have h3 := hm.2.1.2.2.1; omega
  obtain ⟨n, hn⟩ : ∃ n, (encB r).length = n := ⟨_, rfl⟩
  rw [hn] at hz hlb
  try rw [hn] at h
  have nb : (n : Int) ≤ 100000 := by omega
  have q0 : decide (a < 0) = false := decide_eq_false (by omega)
  have q1 : decide ((n : Int) ≤ a) = true := decide_eq_true (by omega)
  obtain ⟨Arp, crp, erp⟩ := rw_open hp rfl
  obtain ⟨Arq, crq, erq⟩ := rw_open hq rfl
  obtain ⟨Art, crt, ert⟩ := rw_open ht rfl
  subst erp; subst erq; subst ert
  unfold recV at KB ⊢
  clear h hn eS KB0 hw hm
  go_enter Tryd.func5, Tryd.ntmps5
  go_wp2_with (first
    | (go_at_call 8; (with_reducible refine (shown14_any _).mono ?_); rintro e w' ⟨rfl, rfl⟩)
    | (go_at_call 9; (with_reducible refine (KB.out _ ((Bl.refl w).alloc _)).mono ?_); rintro e w1 ⟨rfl, hb⟩; have G1 := Lib.hid (((Bl.refl w).alloc _).trans hb); clear hb))
  go_ret
  exact ⟨rfl, G1.out⟩
set_option maxRecDepth 100000 in
set_option maxHeartbeats 4000000 in
theorem cut_ok_nil (r : Rc) (vp vq vt : Value) (hw : r.Wd) (l : List Nat) (ha : All 256 l) (hl : l.length ≤ 140737488355328) (w : World) (hp : Rw .u64 w vp r.p) (hq : Rw .u64 w vq r.q) (ht : Rw .u64 w vt r.t) (hE : ErrT w) (hm : r.May) (κ : Nat) (hκ : κ < (encB r).length) (n1 : Nat) (x : Rc) (hX : decB ((encB r).take κ) = (n1, x)) (n2 : Nat) (y : Rc) (hY : decB (encB r ++ l) = (n2, y)) (h1 : n1 = 0) (d1 : x ≠ r) (h2 : l = []) :
    Calls Tryd.prog 5 #[recV r vp vq vt, .int .i64 (κ : Int), .string (bs l)] w fun e w' => e = .returned (.bool true) ∧ Bl w w' := by
  have KB0 := Lib.hid (fun W (g : Bl w W) => pBytes_any r vp vq vt hw W (hp.bl g) (hq.bl g) (ht.bl g))
  rw [if_pos hm, if_pos hm] at KB0
  have hz := bs_size (encB r)
  obtain ⟨S, eS⟩ : ∃ S, bs (encB r) = S := ⟨_, rfl⟩
  have KB : Hid (∀ W, Bl w W → Calls Tryd.prog 9 #[recV r vp vq vt] W fun e w' => e = .returned (.tuple #[.string S, .int .i64 0]) ∧ Bl W w') := fun W g => by
    have c := KB0.out W g
    unfold BsEnd at c
    rw [eS] at c
    exact c
  have hall := encB_all r
  have hlb : (encB r).length ≤ 100000 := by rw [encB_len]; have h1 := hm.2.1.1.1; have h2 := hm.2.1.2.1.1; have h3 := hm.2.1.2.2.1; omega
  have K1 := Lib.hid (fun W (h : ErrT W) => ptake_any ((encB r).take κ) (all_take hall κ) (by rw [List.length_take]; omega) W h)
  have K2 := Lib.hid (fun W (h : ErrT W) => ptake_any (encB r ++ l) (all_append hall ha) (by rw [List.length_append]; omega) W h)
  rw [hX] at K1
  rw [hY] at K2
  have x1 : (bs (encB r)).extract 0 κ = bs ((encB r).take κ) := by rw [bs_extract]; rfl
  have hzl := bs_size l
  have x2 := fun W => run_string_add_sum (P := Tryd.prog) W (bs (encB r)) (bs l) (by omega)
  rw [bs_append] at x2
  have x3 := bs_nil ha
  obtain ⟨T1, eT1⟩ : ∃ S, bs ((encB r).take κ) = S := ⟨_, rfl⟩
  obtain ⟨T2, eT2⟩ : ∃ S, bs (encB r ++ l) = S := ⟨_, rfl⟩
  obtain ⟨M, eM⟩ : ∃ S, bs l = S := ⟨_, rfl⟩
  rw [eT1] at K1 x1
  rw [eT2] at K2 x2
  rw [eS] at x1 x2 hz
  rw [eM] at x2 x3 hzl
  rw [eM]
  obtain ⟨n, hn⟩ : ∃ n, (encB r).length = n := ⟨_, rfl⟩
  rw [hn] at hz hlb hκ
  have nb : (n : Int) ≤ 100000 := by omega
  have mb : (M.size : Int) ≤ 140737488355328 := by omega
  have q1 : decide ((n : Int) ≤ (κ : Int)) = false := decide_eq_false (by omega)
  have q1' : decide (n ≤ κ) = false := decide_eq_false (by omega)
  have b1 : (0 : Int) ≤ (κ : Int) ∧ (κ : Int) ≤ (n : Int) := by omega
  have b2 : (0 : Int) ≤ (κ : Int) ∧ (κ : Int) ≤ (S.size : Int) := by omega
  subst h1
  have S1 : Hid (∀ (vp vq vt up uq ut : Value) (W : World), Rw .u64 W vp x.p → Rw .u64 W vq x.q → Rw .u64 W vt x.t → Rw .u64 W up r.p → Rw .u64 W uq r.q → Rw .u64 W ut r.t → Calls Tryd.prog 19 #[.agg #[.int .i64 x.con, .int .i64 x.dgs, .int .i64 x.gua, .int .i64 x.frm, .int .i64 x.til, vp, vq, vt, .bool x.minus], .agg #[.int .i64 r.con, .int .i64 r.dgs, .int .i64 r.gua, .int .i64 r.frm, .int .i64 r.til, up, uq, ut, .bool r.minus]] W fun e w' => e = .returned (.bool false) ∧ Bl W w') := fun vp vq vt up uq ut W h1 h2 h3 h4 h5 h6 => by
    have c := psame_any x r vp vq vt up uq ut W h1 h2 h3 h4 h5 h6
    rw [same_no d1] at c
    exact c
  rw [decide_eq_true h2] at x3
  obtain ⟨Arp, crp, erp⟩ := rw_open hp rfl
  obtain ⟨Arq, crq, erq⟩ := rw_open hq rfl
  obtain ⟨Art, crt, ert⟩ := rw_open ht rfl
  subst erp; subst erq; subst ert
  unfold recV at KB ⊢
  have HE := Lib.hid hE
  have RB0 := Lib.hid (Bq.new w 30 [.int .i64 r.con, .int .i64 r.dgs, .int .i64 r.gua, .int .i64 r.frm, .int .i64 r.til, .slice Arp r.p.length crp, .slice Arq r.q.length crq, .slice Art r.t.length crt, .bool r.minus])
  have G0 := Lib.hid ((Bl.refl w).alloc (.cells #[.int .i64 r.con, .int .i64 r.dgs, .int .i64 r.gua, .int .i64 r.frm, .int .i64 r.til, .slice Arp r.p.length crp, .slice Arq r.q.length crq, .slice Art r.t.length crt, .bool r.minus] 30))
  have RP0 := Lib.hid (hp.bl G0.out)
  have RQ0 := Lib.hid (hq.bl G0.out)
  have RT0 := Lib.hid (ht.bl G0.out)
  clear hall hX hY eT1 eT2 eM hn eS KB0 hw hm ha hl hE hp hq ht hκ hlb d1 h2
  go_enter Tryd.func5, Tryd.ntmps5
  go_wp2_with (first
    | (go_at_call 8; (with_reducible refine (shown14_any _).mono ?_); rintro e w' ⟨rfl, rfl⟩)
    | (go_at_call 9; (with_reducible refine (KB.out _ ((Bl.refl w).alloc _)).mono ?_); rintro e w1 ⟨rfl, hb⟩; have G1 := Lib.hid ((G0.out.trans hb)); have RB1 := Lib.hid ((RB0.out.bl hb)); have RP1 := Lib.hid ((RP0.out.bl hb)); have RQ1 := Lib.hid ((RQ0.out.bl hb)); have RT1 := Lib.hid ((RT0.out.bl hb)); have kRB1_0 := RB1.out.cell 0 rfl; have kRB1_1 := RB1.out.cell 1 rfl; have kRB1_2 := RB1.out.cell 2 rfl; have kRB1_3 := RB1.out.cell 3 rfl; have kRB1_4 := RB1.out.cell 4 rfl; have kRB1_5 := RB1.out.cell 5 rfl; have kRB1_6 := RB1.out.cell 6 rfl; have kRB1_7 := RB1.out.cell 7 rfl; have kRB1_8 := RB1.out.cell 8 rfl; clear hb)
    | (go_at_call 11; (with_reducible refine (K1.out _ (HE.out.bl G1.out)).mono ?_); rintro e w2 ⟨vp, vq, vt, rfl, hp, hq, ht, hb⟩; obtain ⟨Axp, cxp, exp⟩ := rw_open hp rfl; obtain ⟨Axq, cxq, exq⟩ := rw_open hq rfl; obtain ⟨Axt, cxt, ext⟩ := rw_open ht rfl; dsimp only at exp exq ext hp hq ht; subst exp; subst exq; subst ext; (try dsimp only [recV]); have G2 := Lib.hid ((G1.out.trans hb).alloc (.cells #[.int .i64 x.con, .int .i64 x.dgs, .int .i64 x.gua, .int .i64 x.frm, .int .i64 x.til, .slice Axp x.p.length cxp, .slice Axq x.q.length cxq, .slice Axt x.t.length cxt, .bool x.minus] 30)); have RB2 := Lib.hid ((RB1.out.bl hb).alloc (.cells #[.int .i64 x.con, .int .i64 x.dgs, .int .i64 x.gua, .int .i64 x.frm, .int .i64 x.til, .slice Axp x.p.length cxp, .slice Axq x.q.length cxq, .slice Axt x.t.length cxt, .bool x.minus] 30)); have RP2 := Lib.hid ((RP1.out.bl hb).bl ((Bl.refl _).alloc (.cells #[.int .i64 x.con, .int .i64 x.dgs, .int .i64 x.gua, .int .i64 x.frm, .int .i64 x.til, .slice Axp x.p.length cxp, .slice Axq x.q.length cxq, .slice Axt x.t.length cxt, .bool x.minus] 30))); have RQ2 := Lib.hid ((RQ1.out.bl hb).bl ((Bl.refl _).alloc (.cells #[.int .i64 x.con, .int .i64 x.dgs, .int .i64 x.gua, .int .i64 x.frm, .int .i64 x.til, .slice Axp x.p.length cxp, .slice Axq x.q.length cxq, .slice Axt x.t.length cxt, .bool x.minus] 30))); have RT2 := Lib.hid ((RT1.out.bl hb).bl ((Bl.refl _).alloc (.cells #[.int .i64 x.con, .int .i64 x.dgs, .int .i64 x.gua, .int .i64 x.frm, .int .i64 x.til, .slice Axp x.p.length cxp, .slice Axq x.q.length cxq, .slice Axt x.t.length cxt, .bool x.minus] 30))); have XB2 := Lib.hid (bq_at (W := w2) (t := 30) (cs := [.int .i64 x.con, .int .i64 x.dgs, .int .i64 x.gua, .int .i64 x.frm, .int .i64 x.til, .slice Axp x.p.length cxp, .slice Axq x.q.length cxq, .slice Axt x.t.length cxt, .bool x.minus]) rfl); have XP2 := Lib.hid (hp.bl ((Bl.refl _).alloc (.cells #[.int .i64 x.con, .int .i64 x.dgs, .int .i64 x.gua, .int .i64 x.frm, .int .i64 x.til, .slice Axp x.p.length cxp, .slice Axq x.q.length cxq, .slice Axt x.t.length cxt, .bool x.minus] 30))); have XQ2 := Lib.hid (hq.bl ((Bl.refl _).alloc (.cells #[.int .i64 x.con, .int .i64 x.dgs, .int .i64 x.gua, .int .i64 x.frm, .int .i64 x.til, .slice Axp x.p.length cxp, .slice Axq x.q.length cxq, .slice Axt x.t.length cxt, .bool x.minus] 30))); have XT2 := Lib.hid (ht.bl ((Bl.refl _).alloc (.cells #[.int .i64 x.con, .int .i64 x.dgs, .int .i64 x.gua, .int .i64 x.frm, .int .i64 x.til, .slice Axp x.p.length cxp, .slice Axq x.q.length cxq, .slice Axt x.t.length cxt, .bool x.minus] 30))); clear kRB1_0 kRB1_1 kRB1_2 kRB1_3 kRB1_4 kRB1_5 kRB1_6 kRB1_7 kRB1_8; have kRB2_0 := RB2.out.cell 0 rfl; have kRB2_1 := RB2.out.cell 1 rfl; have kRB2_2 := RB2.out.cell 2 rfl; have kRB2_3 := RB2.out.cell 3 rfl; have kRB2_4 := RB2.out.cell 4 rfl; have kRB2_5 := RB2.out.cell 5 rfl; have kRB2_6 := RB2.out.cell 6 rfl; have kRB2_7 := RB2.out.cell 7 rfl; have kRB2_8 := RB2.out.cell 8 rfl; have kXB2_0 := XB2.out.cell 0 rfl; have kXB2_1 := XB2.out.cell 1 rfl; have kXB2_2 := XB2.out.cell 2 rfl; have kXB2_3 := XB2.out.cell 3 rfl; have kXB2_4 := XB2.out.cell 4 rfl; have kXB2_5 := XB2.out.cell 5 rfl; have kXB2_6 := XB2.out.cell 6 rfl; have kXB2_7 := XB2.out.cell 7 rfl; have kXB2_8 := XB2.out.cell 8 rfl; clear hp hq ht hb)
    | (go_at_call 11; (with_reducible refine (K2.out _ (HE.out.bl G2.out)).mono ?_); rintro e w3 ⟨vp, vq, vt, rfl, hp, hq, ht, hb⟩; obtain ⟨Ayp, cyp, eyp⟩ := rw_open hp rfl; obtain ⟨Ayq, cyq, eyq⟩ := rw_open hq rfl; obtain ⟨Ayt, cyt, eyt⟩ := rw_open ht rfl; dsimp only at eyp eyq eyt hp hq ht; subst eyp; subst eyq; subst eyt; (try dsimp only [recV]); have G3 := Lib.hid ((G2.out.trans hb).alloc (.cells #[.int .i64 y.con, .int .i64 y.dgs, .int .i64 y.gua, .int .i64 y.frm, .int .i64 y.til, .slice Ayp y.p.length cyp, .slice Ayq y.q.length cyq, .slice Ayt y.t.length cyt, .bool y.minus] 30)); have RB3 := Lib.hid ((RB2.out.bl hb).alloc (.cells #[.int .i64 y.con, .int .i64 y.dgs, .int .i64 y.gua, .int .i64 y.frm, .int .i64 y.til, .slice Ayp y.p.length cyp, .slice Ayq y.q.length cyq, .slice Ayt y.t.length cyt, .bool y.minus] 30)); have XB3 := Lib.hid ((XB2.out.bl hb).alloc (.cells #[.int .i64 y.con, .int .i64 y.dgs, .int .i64 y.gua, .int .i64 y.frm, .int .i64 y.til, .slice Ayp y.p.length cyp, .slice Ayq y.q.length cyq, .slice Ayt y.t.length cyt, .bool y.minus] 30)); have RP3 := Lib.hid ((RP2.out.bl hb).bl ((Bl.refl _).alloc (.cells #[.int .i64 y.con, .int .i64 y.dgs, .int .i64 y.gua, .int .i64 y.frm, .int .i64 y.til, .slice Ayp y.p.length cyp, .slice Ayq y.q.length cyq, .slice Ayt y.t.length cyt, .bool y.minus] 30))); have RQ3 := Lib.hid ((RQ2.out.bl hb).bl ((Bl.refl _).alloc (.cells #[.int .i64 y.con, .int .i64 y.dgs, .int .i64 y.gua, .int .i64 y.frm, .int .i64 y.til, .slice Ayp y.p.length cyp, .slice Ayq y.q.length cyq, .slice Ayt y.t.length cyt, .bool y.minus] 30))); have RT3 := Lib.hid ((RT2.out.bl hb).bl ((Bl.refl _).alloc (.cells #[.int .i64 y.con, .int .i64 y.dgs, .int .i64 y.gua, .int .i64 y.frm, .int .i64 y.til, .slice Ayp y.p.length cyp, .slice Ayq y.q.length cyq, .slice Ayt y.t.length cyt, .bool y.minus] 30))); have XP3 := Lib.hid ((XP2.out.bl hb).bl ((Bl.refl _).alloc (.cells #[.int .i64 y.con, .int .i64 y.dgs, .int .i64 y.gua, .int .i64 y.frm, .int .i64 y.til, .slice Ayp y.p.length cyp, .slice Ayq y.q.length cyq, .slice Ayt y.t.length cyt, .bool y.minus] 30))); have XQ3 := Lib.hid ((XQ2.out.bl hb).bl ((Bl.refl _).alloc (.cells #[.int .i64 y.con, .int .i64 y.dgs, .int .i64 y.gua, .int .i64 y.frm, .int .i64 y.til, .slice Ayp y.p.length cyp, .slice Ayq y.q.length cyq, .slice Ayt y.t.length cyt, .bool y.minus] 30))); have XT3 := Lib.hid ((XT2.out.bl hb).bl ((Bl.refl _).alloc (.cells #[.int .i64 y.con, .int .i64 y.dgs, .int .i64 y.gua, .int .i64 y.frm, .int .i64 y.til, .slice Ayp y.p.length cyp, .slice Ayq y.q.length cyq, .slice Ayt y.t.length cyt, .bool y.minus] 30))); have YB3 := Lib.hid (bq_at (W := w3) (t := 30) (cs := [.int .i64 y.con, .int .i64 y.dgs, .int .i64 y.gua, .int .i64 y.frm, .int .i64 y.til, .slice Ayp y.p.length cyp, .slice Ayq y.q.length cyq, .slice Ayt y.t.length cyt, .bool y.minus]) rfl); have YP3 := Lib.hid (hp.bl ((Bl.refl _).alloc (.cells #[.int .i64 y.con, .int .i64 y.dgs, .int .i64 y.gua, .int .i64 y.frm, .int .i64 y.til, .slice Ayp y.p.length cyp, .slice Ayq y.q.length cyq, .slice Ayt y.t.length cyt, .bool y.minus] 30))); have YQ3 := Lib.hid (hq.bl ((Bl.refl _).alloc (.cells #[.int .i64 y.con, .int .i64 y.dgs, .int .i64 y.gua, .int .i64 y.frm, .int .i64 y.til, .slice Ayp y.p.length cyp, .slice Ayq y.q.length cyq, .slice Ayt y.t.length cyt, .bool y.minus] 30))); have YT3 := Lib.hid (ht.bl ((Bl.refl _).alloc (.cells #[.int .i64 y.con, .int .i64 y.dgs, .int .i64 y.gua, .int .i64 y.frm, .int .i64 y.til, .slice Ayp y.p.length cyp, .slice Ayq y.q.length cyq, .slice Ayt y.t.length cyt, .bool y.minus] 30))); clear kRB2_0 kRB2_1 kRB2_2 kRB2_3 kRB2_4 kRB2_5 kRB2_6 kRB2_7 kRB2_8 kXB2_0 kXB2_1 kXB2_2 kXB2_3 kXB2_4 kXB2_5 kXB2_6 kXB2_7 kXB2_8; have kRB3_0 := RB3.out.cell 0 rfl; have kRB3_1 := RB3.out.cell 1 rfl; have kRB3_2 := RB3.out.cell 2 rfl; have kRB3_3 := RB3.out.cell 3 rfl; have kRB3_4 := RB3.out.cell 4 rfl; have kRB3_5 := RB3.out.cell 5 rfl; have kRB3_6 := RB3.out.cell 6 rfl; have kRB3_7 := RB3.out.cell 7 rfl; have kRB3_8 := RB3.out.cell 8 rfl; have kXB3_0 := XB3.out.cell 0 rfl; have kXB3_1 := XB3.out.cell 1 rfl; have kXB3_2 := XB3.out.cell 2 rfl; have kXB3_3 := XB3.out.cell 3 rfl; have kXB3_4 := XB3.out.cell 4 rfl; have kXB3_5 := XB3.out.cell 5 rfl; have kXB3_6 := XB3.out.cell 6 rfl; have kXB3_7 := XB3.out.cell 7 rfl; have kXB3_8 := XB3.out.cell 8 rfl; have kYB3_0 := YB3.out.cell 0 rfl; have kYB3_1 := YB3.out.cell 1 rfl; have kYB3_2 := YB3.out.cell 2 rfl; have kYB3_3 := YB3.out.cell 3 rfl; have kYB3_4 := YB3.out.cell 4 rfl; have kYB3_5 := YB3.out.cell 5 rfl; have kYB3_6 := YB3.out.cell 6 rfl; have kYB3_7 := YB3.out.cell 7 rfl; have kYB3_8 := YB3.out.cell 8 rfl; clear hp hq ht hb)
    | (go_at_call 19; (with_reducible refine (S1.out _ _ _ _ _ _ _ XP3.out XQ3.out XT3.out RP3.out RQ3.out RT3.out).mono ?_); rintro e w4 ⟨rfl, hb⟩; have G4 := Lib.hid ((G3.out.trans hb)); have RB4 := Lib.hid ((RB3.out.bl hb)); have XB4 := Lib.hid ((XB3.out.bl hb)); have YB4 := Lib.hid ((YB3.out.bl hb)); have RP4 := Lib.hid ((RP3.out.bl hb)); have RQ4 := Lib.hid ((RQ3.out.bl hb)); have RT4 := Lib.hid ((RT3.out.bl hb)); have XP4 := Lib.hid ((XP3.out.bl hb)); have XQ4 := Lib.hid ((XQ3.out.bl hb)); have XT4 := Lib.hid ((XT3.out.bl hb)); have YP4 := Lib.hid ((YP3.out.bl hb)); have YQ4 := Lib.hid ((YQ3.out.bl hb)); have YT4 := Lib.hid ((YT3.out.bl hb)); clear kRB3_0 kRB3_1 kRB3_2 kRB3_3 kRB3_4 kRB3_5 kRB3_6 kRB3_7 kRB3_8 kXB3_0 kXB3_1 kXB3_2 kXB3_3 kXB3_4 kXB3_5 kXB3_6 kXB3_7 kXB3_8 kYB3_0 kYB3_1 kYB3_2 kYB3_3 kYB3_4 kYB3_5 kYB3_6 kYB3_7 kYB3_8; have kRB4_0 := RB4.out.cell 0 rfl; have kRB4_1 := RB4.out.cell 1 rfl; have kRB4_2 := RB4.out.cell 2 rfl; have kRB4_3 := RB4.out.cell 3 rfl; have kRB4_4 := RB4.out.cell 4 rfl; have kRB4_5 := RB4.out.cell 5 rfl; have kRB4_6 := RB4.out.cell 6 rfl; have kRB4_7 := RB4.out.cell 7 rfl; have kRB4_8 := RB4.out.cell 8 rfl; have kXB4_0 := XB4.out.cell 0 rfl; have kXB4_1 := XB4.out.cell 1 rfl; have kXB4_2 := XB4.out.cell 2 rfl; have kXB4_3 := XB4.out.cell 3 rfl; have kXB4_4 := XB4.out.cell 4 rfl; have kXB4_5 := XB4.out.cell 5 rfl; have kXB4_6 := XB4.out.cell 6 rfl; have kXB4_7 := XB4.out.cell 7 rfl; have kXB4_8 := XB4.out.cell 8 rfl; have kYB4_0 := YB4.out.cell 0 rfl; have kYB4_1 := YB4.out.cell 1 rfl; have kYB4_2 := YB4.out.cell 2 rfl; have kYB4_3 := YB4.out.cell 3 rfl; have kYB4_4 := YB4.out.cell 4 rfl; have kYB4_5 := YB4.out.cell 5 rfl; have kYB4_6 := YB4.out.cell 6 rfl; have kYB4_7 := YB4.out.cell 7 rfl; have kYB4_8 := YB4.out.cell 8 rfl; clear hb))
  go_ret
  exact ⟨rfl, G4.out⟩
set_option maxRecDepth 100000 in
set_option maxHeartbeats 4000000 in
theorem cut_ok_ok (r : Rc) (vp vq vt : Value) (hw : r.Wd) (l : List Nat) (ha : All 256 l) (hl : l.length ≤ 140737488355328) (w : World) (hp : Rw .u64 w vp r.p) (hq : Rw .u64 w vq r.q) (ht : Rw .u64 w vt r.t) (hE : ErrT w) (hm : r.May) (κ : Nat) (hκ : κ < (encB r).length) (n1 : Nat) (x : Rc) (hX : decB ((encB r).take κ) = (n1, x)) (n2 : Nat) (y : Rc) (hY : decB (encB r ++ l) = (n2, y)) (h1 : n1 = 0) (d1 : x ≠ r) (h2 : l ≠ []) (h3 : n2 = 0) (d2 : y ≠ r) :
    Calls Tryd.prog 5 #[recV r vp vq vt, .int .i64 (κ : Int), .string (bs l)] w fun e w' => e = .returned (.bool true) ∧ Bl w w' := by
  have KB0 := Lib.hid (fun W (g : Bl w W) => pBytes_any r vp vq vt hw W (hp.bl g) (hq.bl g) (ht.bl g))
  rw [if_pos hm, if_pos hm] at KB0
  have hz := bs_size (encB r)
  obtain ⟨S, eS⟩ : ∃ S, bs (encB r) = S := ⟨_, rfl⟩
  have KB : Hid (∀ W, Bl w W → Calls Tryd.prog 9 #[recV r vp vq vt] W fun e w' => e = .returned (.tuple #[.string S, .int .i64 0]) ∧ Bl W w') := fun W g => by
    have c := KB0.out W g
    unfold BsEnd at c
    rw [eS] at c
    exact c
  have hall := encB_all r
  have hlb : (encB r).length ≤ 100000 := by rw [encB_len]; have h1 := hm.2.1.1.1; have h2 := hm.2.1.2.1.1; have h3 := hm.2.1.2.2.1; omega
  have K1 := Lib.hid (fun W (h : ErrT W) => ptake_any ((encB r).take κ) (all_take hall κ) (by rw [List.length_take]; omega) W h)
  have K2 := Lib.hid (fun W (h : ErrT W) => ptake_any (encB r ++ l) (all_append hall ha) (by rw [List.length_append]; omega) W h)
  rw [hX] at K1
  rw [hY] at K2
  have x1 : (bs (encB r)).extract 0 κ = bs ((encB r).take κ) := by rw [bs_extract]; rfl
  have hzl := bs_size l
  have x2 := fun W => run_string_add_sum (P := Tryd.prog) W (bs (encB r)) (bs l) (by omega)
  rw [bs_append] at x2
  have x3 := bs_nil ha
  obtain ⟨T1, eT1⟩ : ∃ S, bs ((encB r).take κ) = S := ⟨_, rfl⟩
  obtain ⟨T2, eT2⟩ : ∃ S, bs (encB r ++ l) = S := ⟨_, rfl⟩
  obtain ⟨M, eM⟩ : ∃ S, bs l = S := ⟨_, rfl⟩
  rw [eT1] at K1 x1
  rw [eT2] at K2 x2
  rw [eS] at x1 x2 hz
  rw [eM] at x2 x3 hzl
  rw [eM]
  obtain ⟨n, hn⟩ : ∃ n, (encB r).length = n := ⟨_, rfl⟩
  rw [hn] at hz hlb hκ
  have nb : (n : Int) ≤ 100000 := by omega
  have mb : (M.size : Int) ≤ 140737488355328 := by omega
  have q1 : decide ((n : Int) ≤ (κ : Int)) = false := decide_eq_false (by omega)
  have q1' : decide (n ≤ κ) = false := decide_eq_false (by omega)
  have b1 : (0 : Int) ≤ (κ : Int) ∧ (κ : Int) ≤ (n : Int) := by omega
  have b2 : (0 : Int) ≤ (κ : Int) ∧ (κ : Int) ≤ (S.size : Int) := by omega
  subst h1
  have S1 : Hid (∀ (vp vq vt up uq ut : Value) (W : World), Rw .u64 W vp x.p → Rw .u64 W vq x.q → Rw .u64 W vt x.t → Rw .u64 W up r.p → Rw .u64 W uq r.q → Rw .u64 W ut r.t → Calls Tryd.prog 19 #[.agg #[.int .i64 x.con, .int .i64 x.dgs, .int .i64 x.gua, .int .i64 x.frm, .int .i64 x.til, vp, vq, vt, .bool x.minus], .agg #[.int .i64 r.con, .int .i64 r.dgs, .int .i64 r.gua, .int .i64 r.frm, .int .i64 r.til, up, uq, ut, .bool r.minus]] W fun e w' => e = .returned (.bool false) ∧ Bl W w') := fun vp vq vt up uq ut W h1 h2 h3 h4 h5 h6 => by
    have c := psame_any x r vp vq vt up uq ut W h1 h2 h3 h4 h5 h6
    rw [same_no d1] at c
    exact c
  rw [decide_eq_false h2] at x3
  subst h3
  have S2 : Hid (∀ (vp vq vt up uq ut : Value) (W : World), Rw .u64 W vp y.p → Rw .u64 W vq y.q → Rw .u64 W vt y.t → Rw .u64 W up r.p → Rw .u64 W uq r.q → Rw .u64 W ut r.t → Calls Tryd.prog 19 #[.agg #[.int .i64 y.con, .int .i64 y.dgs, .int .i64 y.gua, .int .i64 y.frm, .int .i64 y.til, vp, vq, vt, .bool y.minus], .agg #[.int .i64 r.con, .int .i64 r.dgs, .int .i64 r.gua, .int .i64 r.frm, .int .i64 r.til, up, uq, ut, .bool r.minus]] W fun e w' => e = .returned (.bool false) ∧ Bl W w') := fun vp vq vt up uq ut W h1 h2 h3 h4 h5 h6 => by
    have c := psame_any y r vp vq vt up uq ut W h1 h2 h3 h4 h5 h6
    rw [same_no d2] at c
    exact c
  obtain ⟨Arp, crp, erp⟩ := rw_open hp rfl
  obtain ⟨Arq, crq, erq⟩ := rw_open hq rfl
  obtain ⟨Art, crt, ert⟩ := rw_open ht rfl
  subst erp; subst erq; subst ert
  unfold recV at KB ⊢
  have HE := Lib.hid hE
  have RB0 := Lib.hid (Bq.new w 30 [.int .i64 r.con, .int .i64 r.dgs, .int .i64 r.gua, .int .i64 r.frm, .int .i64 r.til, .slice Arp r.p.length crp, .slice Arq r.q.length crq, .slice Art r.t.length crt, .bool r.minus])
  have G0 := Lib.hid ((Bl.refl w).alloc (.cells #[.int .i64 r.con, .int .i64 r.dgs, .int .i64 r.gua, .int .i64 r.frm, .int .i64 r.til, .slice Arp r.p.length crp, .slice Arq r.q.length crq, .slice Art r.t.length crt, .bool r.minus] 30))
  have RP0 := Lib.hid (hp.bl G0.out)
  have RQ0 := Lib.hid (hq.bl G0.out)
  have RT0 := Lib.hid (ht.bl G0.out)
  clear hall hX hY eT1 eT2 eM hn eS KB0 hw hm ha hl hE hp hq ht hκ hlb d1 d2 h2
  go_enter Tryd.func5, Tryd.ntmps5
  go_wp2_with (first
    | (go_at_call 8; (with_reducible refine (shown14_any _).mono ?_); rintro e w' ⟨rfl, rfl⟩)
    | (go_at_call 9; (with_reducible refine (KB.out _ ((Bl.refl w).alloc _)).mono ?_); rintro e w1 ⟨rfl, hb⟩; have G1 := Lib.hid ((G0.out.trans hb)); have RB1 := Lib.hid ((RB0.out.bl hb)); have RP1 := Lib.hid ((RP0.out.bl hb)); have RQ1 := Lib.hid ((RQ0.out.bl hb)); have RT1 := Lib.hid ((RT0.out.bl hb)); have kRB1_0 := RB1.out.cell 0 rfl; have kRB1_1 := RB1.out.cell 1 rfl; have kRB1_2 := RB1.out.cell 2 rfl; have kRB1_3 := RB1.out.cell 3 rfl; have kRB1_4 := RB1.out.cell 4 rfl; have kRB1_5 := RB1.out.cell 5 rfl; have kRB1_6 := RB1.out.cell 6 rfl; have kRB1_7 := RB1.out.cell 7 rfl; have kRB1_8 := RB1.out.cell 8 rfl; clear hb)
    | (go_at_call 11; (with_reducible refine (K1.out _ (HE.out.bl G1.out)).mono ?_); rintro e w2 ⟨vp, vq, vt, rfl, hp, hq, ht, hb⟩; obtain ⟨Axp, cxp, exp⟩ := rw_open hp rfl; obtain ⟨Axq, cxq, exq⟩ := rw_open hq rfl; obtain ⟨Axt, cxt, ext⟩ := rw_open ht rfl; dsimp only at exp exq ext hp hq ht; subst exp; subst exq; subst ext; (try dsimp only [recV]); have G2 := Lib.hid ((G1.out.trans hb).alloc (.cells #[.int .i64 x.con, .int .i64 x.dgs, .int .i64 x.gua, .int .i64 x.frm, .int .i64 x.til, .slice Axp x.p.length cxp, .slice Axq x.q.length cxq, .slice Axt x.t.length cxt, .bool x.minus] 30)); have RB2 := Lib.hid ((RB1.out.bl hb).alloc (.cells #[.int .i64 x.con, .int .i64 x.dgs, .int .i64 x.gua, .int .i64 x.frm, .int .i64 x.til, .slice Axp x.p.length cxp, .slice Axq x.q.length cxq, .slice Axt x.t.length cxt, .bool x.minus] 30)); have RP2 := Lib.hid ((RP1.out.bl hb).bl ((Bl.refl _).alloc (.cells #[.int .i64 x.con, .int .i64 x.dgs, .int .i64 x.gua, .int .i64 x.frm, .int .i64 x.til, .slice Axp x.p.length cxp, .slice Axq x.q.length cxq, .slice Axt x.t.length cxt, .bool x.minus] 30))); have RQ2 := Lib.hid ((RQ1.out.bl hb).bl ((Bl.refl _).alloc (.cells #[.int .i64 x.con, .int .i64 x.dgs, .int .i64 x.gua, .int .i64 x.frm, .int .i64 x.til, .slice Axp x.p.length cxp, .slice Axq x.q.length cxq, .slice Axt x.t.length cxt, .bool x.minus] 30))); have RT2 := Lib.hid ((RT1.out.bl hb).bl ((Bl.refl _).alloc (.cells #[.int .i64 x.con, .int .i64 x.dgs, .int .i64 x.gua, .int .i64 x.frm, .int .i64 x.til, .slice Axp x.p.length cxp, .slice Axq x.q.length cxq, .slice Axt x.t.length cxt, .bool x.minus] 30))); have XB2 := Lib.hid (bq_at (W := w2) (t := 30) (cs := [.int .i64 x.con, .int .i64 x.dgs, .int .i64 x.gua, .int .i64 x.frm, .int .i64 x.til, .slice Axp x.p.length cxp, .slice Axq x.q.length cxq, .slice Axt x.t.length cxt, .bool x.minus]) rfl); have XP2 := Lib.hid (hp.bl ((Bl.refl _).alloc (.cells #[.int .i64 x.con, .int .i64 x.dgs, .int .i64 x.gua, .int .i64 x.frm, .int .i64 x.til, .slice Axp x.p.length cxp, .slice Axq x.q.length cxq, .slice Axt x.t.length cxt, .bool x.minus] 30))); have XQ2 := Lib.hid (hq.bl ((Bl.refl _).alloc (.cells #[.int .i64 x.con, .int .i64 x.dgs, .int .i64 x.gua, .int .i64 x.frm, .int .i64 x.til, .slice Axp x.p.length cxp, .slice Axq x.q.length cxq, .slice Axt x.t.length cxt, .bool x.minus] 30))); have XT2 := Lib.hid (ht.bl ((Bl.refl _).alloc (.cells #[.int .i64 x.con, .int .i64 x.dgs, .int .i64 x.gua, .int .i64 x.frm, .int .i64 x.til, .slice Axp x.p.length cxp, .slice Axq x.q.length cxq, .slice Axt x.t.length cxt, .bool x.minus] 30))); clear kRB1_0 kRB1_1 kRB1_2 kRB1_3 kRB1_4 kRB1_5 kRB1_6 kRB1_7 kRB1_8; have kRB2_0 := RB2.out.cell 0 rfl; have kRB2_1 := RB2.out.cell 1 rfl; have kRB2_2 := RB2.out.cell 2 rfl; have kRB2_3 := RB2.out.cell 3 rfl; have kRB2_4 := RB2.out.cell 4 rfl; have kRB2_5 := RB2.out.cell 5 rfl; have kRB2_6 := RB2.out.cell 6 rfl; have kRB2_7 := RB2.out.cell 7 rfl; have kRB2_8 := RB2.out.cell 8 rfl; have kXB2_0 := XB2.out.cell 0 rfl; have kXB2_1 := XB2.out.cell 1 rfl; have kXB2_2 := XB2.out.cell 2 rfl; have kXB2_3 := XB2.out.cell 3 rfl; have kXB2_4 := XB2.out.cell 4 rfl; have kXB2_5 := XB2.out.cell 5 rfl; have kXB2_6 := XB2.out.cell 6 rfl; have kXB2_7 := XB2.out.cell 7 rfl; have kXB2_8 := XB2.out.cell 8 rfl; clear hp hq ht hb)
    | (go_at_call 11; (with_reducible refine (K2.out _ (HE.out.bl G2.out)).mono ?_); rintro e w3 ⟨vp, vq, vt, rfl, hp, hq, ht, hb⟩; obtain ⟨Ayp, cyp, eyp⟩ := rw_open hp rfl; obtain ⟨Ayq, cyq, eyq⟩ := rw_open hq rfl; obtain ⟨Ayt, cyt, eyt⟩ := rw_open ht rfl; dsimp only at eyp eyq eyt hp hq ht; subst eyp; subst eyq; subst eyt; (try dsimp only [recV]); have G3 := Lib.hid ((G2.out.trans hb).alloc (.cells #[.int .i64 y.con, .int .i64 y.dgs, .int .i64 y.gua, .int .i64 y.frm, .int .i64 y.til, .slice Ayp y.p.length cyp, .slice Ayq y.q.length cyq, .slice Ayt y.t.length cyt, .bool y.minus] 30)); have RB3 := Lib.hid ((RB2.out.bl hb).alloc (.cells #[.int .i64 y.con, .int .i64 y.dgs, .int .i64 y.gua, .int .i64 y.frm, .int .i64 y.til, .slice Ayp y.p.length cyp, .slice Ayq y.q.length cyq, .slice Ayt y.t.length cyt, .bool y.minus] 30)); have XB3 := Lib.hid ((XB2.out.bl hb).alloc (.cells #[.int .i64 y.con, .int .i64 y.dgs, .int .i64 y.gua, .int .i64 y.frm, .int .i64 y.til, .slice Ayp y.p.length cyp, .slice Ayq y.q.length cyq, .slice Ayt y.t.length cyt, .bool y.minus] 30)); have RP3 := Lib.hid ((RP2.out.bl hb).bl ((Bl.refl _).alloc (.cells #[.int .i64 y.con, .int .i64 y.dgs, .int .i64 y.gua, .int .i64 y.frm, .int .i64 y.til, .slice Ayp y.p.length cyp, .slice Ayq y.q.length cyq, .slice Ayt y.t.length cyt, .bool y.minus] 30))); have RQ3 := Lib.hid ((RQ2.out.bl hb).bl ((Bl.refl _).alloc (.cells #[.int .i64 y.con, .int .i64 y.dgs, .int .i64 y.gua, .int .i64 y.frm, .int .i64 y.til, .slice Ayp y.p.length cyp, .slice Ayq y.q.length cyq, .slice Ayt y.t.length cyt, .bool y.minus] 30))); have RT3 := Lib.hid ((RT2.out.bl hb).bl ((Bl.refl _).alloc (.cells #[.int .i64 y.con, .int .i64 y.dgs, .int .i64 y.gua, .int .i64 y.frm, .int .i64 y.til, .slice Ayp y.p.length cyp, .slice Ayq y.q.length cyq, .slice Ayt y.t.length cyt, .bool y.minus] 30))); have XP3 := Lib.hid ((XP2.out.bl hb).bl ((Bl.refl _).alloc (.cells #[.int .i64 y.con, .int .i64 y.dgs, .int .i64 y.gua, .int .i64 y.frm, .int .i64 y.til, .slice Ayp y.p.length cyp, .slice Ayq y.q.length cyq, .slice Ayt y.t.length cyt, .bool y.minus] 30))); have XQ3 := Lib.hid ((XQ2.out.bl hb).bl ((Bl.refl _).alloc (.cells #[.int .i64 y.con, .int .i64 y.dgs, .int .i64 y.gua, .int .i64 y.frm, .int .i64 y.til, .slice Ayp y.p.length cyp, .slice Ayq y.q.length cyq, .slice Ayt y.t.length cyt, .bool y.minus] 30))); have XT3 := Lib.hid ((XT2.out.bl hb).bl ((Bl.refl _).alloc (.cells #[.int .i64 y.con, .int .i64 y.dgs, .int .i64 y.gua, .int .i64 y.frm, .int .i64 y.til, .slice Ayp y.p.length cyp, .slice Ayq y.q.length cyq, .slice Ayt y.t.length cyt, .bool y.minus] 30))); have YB3 := Lib.hid (bq_at (W := w3) (t := 30) (cs := [.int .i64 y.con, .int .i64 y.dgs, .int .i64 y.gua, .int .i64 y.frm, .int .i64 y.til, .slice Ayp y.p.length cyp, .slice Ayq y.q.length cyq, .slice Ayt y.t.length cyt, .bool y.minus]) rfl); have YP3 := Lib.hid (hp.bl ((Bl.refl _).alloc (.cells #[.int .i64 y.con, .int .i64 y.dgs, .int .i64 y.gua, .int .i64 y.frm, .int .i64 y.til, .slice Ayp y.p.length cyp, .slice Ayq y.q.length cyq, .slice Ayt y.t.length cyt, .bool y.minus] 30))); have YQ3 := Lib.hid (hq.bl ((Bl.refl _).alloc (.cells #[.int .i64 y.con, .int .i64 y.dgs, .int .i64 y.gua, .int .i64 y.frm, .int .i64 y.til, .slice Ayp y.p.length cyp, .slice Ayq y.q.length cyq, .slice Ayt y.t.length cyt, .bool y.minus] 30))); have YT3 := Lib.hid (ht.bl ((Bl.refl _).alloc (.cells #[.int .i64 y.con, .int .i64 y.dgs, .int .i64 y.gua, .int .i64 y.frm, .int .i64 y.til, .slice Ayp y.p.length cyp, .slice Ayq y.q.length cyq, .slice Ayt y.t.length cyt, .bool y.minus] 30))); clear kRB2_0 kRB2_1 kRB2_2 kRB2_3 kRB2_4 kRB2_5 kRB2_6 kRB2_7 kRB2_8 kXB2_0 kXB2_1 kXB2_2 kXB2_3 kXB2_4 kXB2_5 kXB2_6 kXB2_7 kXB2_8; have kRB3_0 := RB3.out.cell 0 rfl; have kRB3_1 := RB3.out.cell 1 rfl; have kRB3_2 := RB3.out.cell 2 rfl; have kRB3_3 := RB3.out.cell 3 rfl; have kRB3_4 := RB3.out.cell 4 rfl; have kRB3_5 := RB3.out.cell 5 rfl; have kRB3_6 := RB3.out.cell 6 rfl; have kRB3_7 := RB3.out.cell 7 rfl; have kRB3_8 := RB3.out.cell 8 rfl; have kXB3_0 := XB3.out.cell 0 rfl; have kXB3_1 := XB3.out.cell 1 rfl; have kXB3_2 := XB3.out.cell 2 rfl; have kXB3_3 := XB3.out.cell 3 rfl; have kXB3_4 := XB3.out.cell 4 rfl; have kXB3_5 := XB3.out.cell 5 rfl; have kXB3_6 := XB3.out.cell 6 rfl; have kXB3_7 := XB3.out.cell 7 rfl; have kXB3_8 := XB3.out.cell 8 rfl; have kYB3_0 := YB3.out.cell 0 rfl; have kYB3_1 := YB3.out.cell 1 rfl; have kYB3_2 := YB3.out.cell 2 rfl; have kYB3_3 := YB3.out.cell 3 rfl; have kYB3_4 := YB3.out.cell 4 rfl; have kYB3_5 := YB3.out.cell 5 rfl; have kYB3_6 := YB3.out.cell 6 rfl; have kYB3_7 := YB3.out.cell 7 rfl; have kYB3_8 := YB3.out.cell 8 rfl; clear hp hq ht hb)
    | (go_at_call 19; (with_reducible refine (S1.out _ _ _ _ _ _ _ XP3.out XQ3.out XT3.out RP3.out RQ3.out RT3.out).mono ?_); rintro e w4 ⟨rfl, hb⟩; have G4 := Lib.hid ((G3.out.trans hb)); have RB4 := Lib.hid ((RB3.out.bl hb)); have XB4 := Lib.hid ((XB3.out.bl hb)); have YB4 := Lib.hid ((YB3.out.bl hb)); have RP4 := Lib.hid ((RP3.out.bl hb)); have RQ4 := Lib.hid ((RQ3.out.bl hb)); have RT4 := Lib.hid ((RT3.out.bl hb)); have XP4 := Lib.hid ((XP3.out.bl hb)); have XQ4 := Lib.hid ((XQ3.out.bl hb)); have XT4 := Lib.hid ((XT3.out.bl hb)); have YP4 := Lib.hid ((YP3.out.bl hb)); have YQ4 := Lib.hid ((YQ3.out.bl hb)); have YT4 := Lib.hid ((YT3.out.bl hb)); clear kRB3_0 kRB3_1 kRB3_2 kRB3_3 kRB3_4 kRB3_5 kRB3_6 kRB3_7 kRB3_8 kXB3_0 kXB3_1 kXB3_2 kXB3_3 kXB3_4 kXB3_5 kXB3_6 kXB3_7 kXB3_8 kYB3_0 kYB3_1 kYB3_2 kYB3_3 kYB3_4 kYB3_5 kYB3_6 kYB3_7 kYB3_8; have kRB4_0 := RB4.out.cell 0 rfl; have kRB4_1 := RB4.out.cell 1 rfl; have kRB4_2 := RB4.out.cell 2 rfl; have kRB4_3 := RB4.out.cell 3 rfl; have kRB4_4 := RB4.out.cell 4 rfl; have kRB4_5 := RB4.out.cell 5 rfl; have kRB4_6 := RB4.out.cell 6 rfl; have kRB4_7 := RB4.out.cell 7 rfl; have kRB4_8 := RB4.out.cell 8 rfl; have kXB4_0 := XB4.out.cell 0 rfl; have kXB4_1 := XB4.out.cell 1 rfl; have kXB4_2 := XB4.out.cell 2 rfl; have kXB4_3 := XB4.out.cell 3 rfl; have kXB4_4 := XB4.out.cell 4 rfl; have kXB4_5 := XB4.out.cell 5 rfl; have kXB4_6 := XB4.out.cell 6 rfl; have kXB4_7 := XB4.out.cell 7 rfl; have kXB4_8 := XB4.out.cell 8 rfl; have kYB4_0 := YB4.out.cell 0 rfl; have kYB4_1 := YB4.out.cell 1 rfl; have kYB4_2 := YB4.out.cell 2 rfl; have kYB4_3 := YB4.out.cell 3 rfl; have kYB4_4 := YB4.out.cell 4 rfl; have kYB4_5 := YB4.out.cell 5 rfl; have kYB4_6 := YB4.out.cell 6 rfl; have kYB4_7 := YB4.out.cell 7 rfl; have kYB4_8 := YB4.out.cell 8 rfl; clear hb)
    | (go_at_call 19; (with_reducible refine (S2.out _ _ _ _ _ _ _ YP4.out YQ4.out YT4.out RP4.out RQ4.out RT4.out).mono ?_); rintro e w5 ⟨rfl, hb⟩; have G5 := Lib.hid ((G4.out.trans hb)); have RB5 := Lib.hid ((RB4.out.bl hb)); have XB5 := Lib.hid ((XB4.out.bl hb)); have YB5 := Lib.hid ((YB4.out.bl hb)); have RP5 := Lib.hid ((RP4.out.bl hb)); have RQ5 := Lib.hid ((RQ4.out.bl hb)); have RT5 := Lib.hid ((RT4.out.bl hb)); have XP5 := Lib.hid ((XP4.out.bl hb)); have XQ5 := Lib.hid ((XQ4.out.bl hb)); have XT5 := Lib.hid ((XT4.out.bl hb)); have YP5 := Lib.hid ((YP4.out.bl hb)); have YQ5 := Lib.hid ((YQ4.out.bl hb)); have YT5 := Lib.hid ((YT4.out.bl hb)); clear kRB4_0 kRB4_1 kRB4_2 kRB4_3 kRB4_4 kRB4_5 kRB4_6 kRB4_7 kRB4_8 kXB4_0 kXB4_1 kXB4_2 kXB4_3 kXB4_4 kXB4_5 kXB4_6 kXB4_7 kXB4_8 kYB4_0 kYB4_1 kYB4_2 kYB4_3 kYB4_4 kYB4_5 kYB4_6 kYB4_7 kYB4_8; have kRB5_0 := RB5.out.cell 0 rfl; have kRB5_1 := RB5.out.cell 1 rfl; have kRB5_2 := RB5.out.cell 2 rfl; have kRB5_3 := RB5.out.cell 3 rfl; have kRB5_4 := RB5.out.cell 4 rfl; have kRB5_5 := RB5.out.cell 5 rfl; have kRB5_6 := RB5.out.cell 6 rfl; have kRB5_7 := RB5.out.cell 7 rfl; have kRB5_8 := RB5.out.cell 8 rfl; have kXB5_0 := XB5.out.cell 0 rfl; have kXB5_1 := XB5.out.cell 1 rfl; have kXB5_2 := XB5.out.cell 2 rfl; have kXB5_3 := XB5.out.cell 3 rfl; have kXB5_4 := XB5.out.cell 4 rfl; have kXB5_5 := XB5.out.cell 5 rfl; have kXB5_6 := XB5.out.cell 6 rfl; have kXB5_7 := XB5.out.cell 7 rfl; have kXB5_8 := XB5.out.cell 8 rfl; have kYB5_0 := YB5.out.cell 0 rfl; have kYB5_1 := YB5.out.cell 1 rfl; have kYB5_2 := YB5.out.cell 2 rfl; have kYB5_3 := YB5.out.cell 3 rfl; have kYB5_4 := YB5.out.cell 4 rfl; have kYB5_5 := YB5.out.cell 5 rfl; have kYB5_6 := YB5.out.cell 6 rfl; have kYB5_7 := YB5.out.cell 7 rfl; have kYB5_8 := YB5.out.cell 8 rfl; clear hb))
  go_ret
  exact ⟨rfl, G5.out⟩
set_option maxRecDepth 100000 in
set_option maxHeartbeats 4000000 in
theorem cut_ok_bad (r : Rc) (vp vq vt : Value) (hw : r.Wd) (l : List Nat) (ha : All 256 l) (hl : l.length ≤ 140737488355328) (w : World) (hp : Rw .u64 w vp r.p) (hq : Rw .u64 w vq r.q) (ht : Rw .u64 w vt r.t) (hE : ErrT w) (hm : r.May) (κ : Nat) (hκ : κ < (encB r).length) (n1 : Nat) (x : Rc) (hX : decB ((encB r).take κ) = (n1, x)) (n2 : Nat) (y : Rc) (hY : decB (encB r ++ l) = (n2, y)) (h1 : n1 = 0) (d1 : x ≠ r) (h2 : l ≠ []) (h3 : n2 ≠ 0) :
    Calls Tryd.prog 5 #[recV r vp vq vt, .int .i64 (κ : Int), .string (bs l)] w fun e w' => e = .returned (.bool true) ∧ Bl w w' := by
  have KB0 := Lib.hid (fun W (g : Bl w W) => pBytes_any r vp vq vt hw W (hp.bl g) (hq.bl g) (ht.bl g))
  rw [if_pos hm, if_pos hm] at KB0
  have hz := bs_size (encB r)
  obtain ⟨S, eS⟩ : ∃ S, bs (encB r) = S := ⟨_, rfl⟩
  have KB : Hid (∀ W, Bl w W → Calls Tryd.prog 9 #[recV r vp vq vt] W fun e w' => e = .returned (.tuple #[.string S, .int .i64 0]) ∧ Bl W w') := fun W g => by
    have c := KB0.out W g
    unfold BsEnd at c
    rw [eS] at c
    exact c
  have hall := encB_all r
  have hlb : (encB r).length ≤ 100000 := by rw [encB_len]; have h1 := hm.2.1.1.1; have h2 := hm.2.1.2.1.1; have h3 := hm.2.1.2.2.1; omega
  have K1 := Lib.hid (fun W (h : ErrT W) => ptake_any ((encB r).take κ) (all_take hall κ) (by rw [List.length_take]; omega) W h)
  have K2 := Lib.hid (fun W (h : ErrT W) => ptake_any (encB r ++ l) (all_append hall ha) (by rw [List.length_append]; omega) W h)
  rw [hX] at K1
  rw [hY] at K2
  have x1 : (bs (encB r)).extract 0 κ = bs ((encB r).take κ) := by rw [bs_extract]; rfl
  have hzl := bs_size l
  have x2 := fun W => run_string_add_sum (P := Tryd.prog) W (bs (encB r)) (bs l) (by omega)
  rw [bs_append] at x2
  have x3 := bs_nil ha
  obtain ⟨T1, eT1⟩ : ∃ S, bs ((encB r).take κ) = S := ⟨_, rfl⟩
  obtain ⟨T2, eT2⟩ : ∃ S, bs (encB r ++ l) = S := ⟨_, rfl⟩
  obtain ⟨M, eM⟩ : ∃ S, bs l = S := ⟨_, rfl⟩
  rw [eT1] at K1 x1
  rw [eT2] at K2 x2
  rw [eS] at x1 x2 hz
  rw [eM] at x2 x3 hzl
  rw [eM]
  obtain ⟨n, hn⟩ : ∃ n, (encB r).length = n := ⟨_, rfl⟩
  rw [hn] at hz hlb hκ
  have nb : (n : Int) ≤ 100000 := by omega
  have mb : (M.size : Int) ≤ 140737488355328 := by omega
  have q1 : decide ((n : Int) ≤ (κ : Int)) = false := decide_eq_false (by omega)
  have q1' : decide (n ≤ κ) = false := decide_eq_false (by omega)
  have b1 : (0 : Int) ≤ (κ : Int) ∧ (κ : Int) ≤ (n : Int) := by omega
  have b2 : (0 : Int) ≤ (κ : Int) ∧ (κ : Int) ≤ (S.size : Int) := by omega
  subst h1
  have S1 : Hid (∀ (vp vq vt up uq ut : Value) (W : World), Rw .u64 W vp x.p → Rw .u64 W vq x.q → Rw .u64 W vt x.t → Rw .u64 W up r.p → Rw .u64 W uq r.q → Rw .u64 W ut r.t → Calls Tryd.prog 19 #[.agg #[.int .i64 x.con, .int .i64 x.dgs, .int .i64 x.gua, .int .i64 x.frm, .int .i64 x.til, vp, vq, vt, .bool x.minus], .agg #[.int .i64 r.con, .int .i64 r.dgs, .int .i64 r.gua, .int .i64 r.frm, .int .i64 r.til, up, uq, ut, .bool r.minus]] W fun e w' => e = .returned (.bool false) ∧ Bl W w') := fun vp vq vt up uq ut W h1 h2 h3 h4 h5 h6 => by
    have c := psame_any x r vp vq vt up uq ut W h1 h2 h3 h4 h5 h6
    rw [same_no d1] at c
    exact c
  rw [decide_eq_false h2] at x3
  have t2 : ((n2 : Int) != 0) = true := by rw [bne_iff_ne]; omega
  obtain ⟨Arp, crp, erp⟩ := rw_open hp rfl
  obtain ⟨Arq, crq, erq⟩ := rw_open hq rfl
  obtain ⟨Art, crt, ert⟩ := rw_open ht rfl
  subst erp; subst erq; subst ert
  unfold recV at KB ⊢
  have HE := Lib.hid hE
  have RB0 := Lib.hid (Bq.new w 30 [.int .i64 r.con, .int .i64 r.dgs, .int .i64 r.gua, .int .i64 r.frm, .int .i64 r.til, .slice Arp r.p.length crp, .slice Arq r.q.length crq, .slice Art r.t.length crt, .bool r.minus])
  have G0 := Lib.hid ((Bl.refl w).alloc (.cells #[.int .i64 r.con, .int .i64 r.dgs, .int .i64 r.gua, .int .i64 r.frm, .int .i64 r.til, .slice Arp r.p.length crp, .slice Arq r.q.length crq, .slice Art r.t.length crt, .bool r.minus] 30))
  have RP0 := Lib.hid (hp.bl G0.out)
  have RQ0 := Lib.hid (hq.bl G0.out)
  have RT0 := Lib.hid (ht.bl G0.out)
  clear hall hX hY eT1 eT2 eM hn eS KB0 hw hm ha hl hE hp hq ht hκ hlb d1 h2 h3
  go_enter Tryd.func5, Tryd.ntmps5
  go_wp2_with (first
    | (go_at_call 8; (with_reducible refine (shown14_any _).mono ?_); rintro e w' ⟨rfl, rfl⟩)
    | (go_at_call 9; (with_reducible refine (KB.out _ ((Bl.refl w).alloc _)).mono ?_); rintro e w1 ⟨rfl, hb⟩; have G1 := Lib.hid ((G0.out.trans hb)); have RB1 := Lib.hid ((RB0.out.bl hb)); have RP1 := Lib.hid ((RP0.out.bl hb)); have RQ1 := Lib.hid ((RQ0.out.bl hb)); have RT1 := Lib.hid ((RT0.out.bl hb)); have kRB1_0 := RB1.out.cell 0 rfl; have kRB1_1 := RB1.out.cell 1 rfl; have kRB1_2 := RB1.out.cell 2 rfl; have kRB1_3 := RB1.out.cell 3 rfl; have kRB1_4 := RB1.out.cell 4 rfl; have kRB1_5 := RB1.out.cell 5 rfl; have kRB1_6 := RB1.out.cell 6 rfl; have kRB1_7 := RB1.out.cell 7 rfl; have kRB1_8 := RB1.out.cell 8 rfl; clear hb)
    | (go_at_call 11; (with_reducible refine (K1.out _ (HE.out.bl G1.out)).mono ?_); rintro e w2 ⟨vp, vq, vt, rfl, hp, hq, ht, hb⟩; obtain ⟨Axp, cxp, exp⟩ := rw_open hp rfl; obtain ⟨Axq, cxq, exq⟩ := rw_open hq rfl; obtain ⟨Axt, cxt, ext⟩ := rw_open ht rfl; dsimp only at exp exq ext hp hq ht; subst exp; subst exq; subst ext; (try dsimp only [recV]); have G2 := Lib.hid ((G1.out.trans hb).alloc (.cells #[.int .i64 x.con, .int .i64 x.dgs, .int .i64 x.gua, .int .i64 x.frm, .int .i64 x.til, .slice Axp x.p.length cxp, .slice Axq x.q.length cxq, .slice Axt x.t.length cxt, .bool x.minus] 30)); have RB2 := Lib.hid ((RB1.out.bl hb).alloc (.cells #[.int .i64 x.con, .int .i64 x.dgs, .int .i64 x.gua, .int .i64 x.frm, .int .i64 x.til, .slice Axp x.p.length cxp, .slice Axq x.q.length cxq, .slice Axt x.t.length cxt, .bool x.minus] 30)); have RP2 := Lib.hid ((RP1.out.bl hb).bl ((Bl.refl _).alloc (.cells #[.int .i64 x.con, .int .i64 x.dgs, .int .i64 x.gua, .int .i64 x.frm, .int .i64 x.til, .slice Axp x.p.length cxp, .slice Axq x.q.length cxq, .slice Axt x.t.length cxt, .bool x.minus] 30))); have RQ2 := Lib.hid ((RQ1.out.bl hb).bl ((Bl.refl _).alloc (.cells #[.int .i64 x.con, .int .i64 x.dgs, .int .i64 x.gua, .int .i64 x.frm, .int .i64 x.til, .slice Axp x.p.length cxp, .slice Axq x.q.length cxq, .slice Axt x.t.length cxt, .bool x.minus] 30))); have RT2 := Lib.hid ((RT1.out.bl hb).bl ((Bl.refl _).alloc (.cells #[.int .i64 x.con, .int .i64 x.dgs, .int .i64 x.gua, .int .i64 x.frm, .int .i64 x.til, .slice Axp x.p.length cxp, .slice Axq x.q.length cxq, .slice Axt x.t.length cxt, .bool x.minus] 30))); have XB2 := Lib.hid (bq_at (W := w2) (t := 30) (cs := [.int .i64 x.con, .int .i64 x.dgs, .int .i64 x.gua, .int .i64 x.frm, .int .i64 x.til, .slice Axp x.p.length cxp, .slice Axq x.q.length cxq, .slice Axt x.t.length cxt, .bool x.minus]) rfl); have XP2 := Lib.hid (hp.bl ((Bl.refl _).alloc (.cells #[.int .i64 x.con, .int .i64 x.dgs, .int .i64 x.gua, .int .i64 x.frm, .int .i64 x.til, .slice Axp x.p.length cxp, .slice Axq x.q.length cxq, .slice Axt x.t.length cxt, .bool x.minus] 30))); have XQ2 := Lib.hid (hq.bl ((Bl.refl _).alloc (.cells #[.int .i64 x.con, .int .i64 x.dgs, .int .i64 x.gua, .int .i64 x.frm, .int .i64 x.til, .slice Axp x.p.length cxp, .slice Axq x.q.length cxq, .slice Axt x.t.length cxt, .bool x.minus] 30))); have XT2 := Lib.hid (ht.bl ((Bl.refl _).alloc (.cells #[.int .i64 x.con, .int .i64 x.dgs, .int .i64 x.gua, .int .i64 x.frm, .int .i64 x.til, .slice Axp x.p.length cxp, .slice Axq x.q.length cxq, .slice Axt x.t.length cxt, .bool x.minus] 30))); clear kRB1_0 kRB1_1 kRB1_2 kRB1_3 kRB1_4 kRB1_5 kRB1_6 kRB1_7 kRB1_8; have kRB2_0 := RB2.out.cell 0 rfl; have kRB2_1 := RB2.out.cell 1 rfl; have kRB2_2 := RB2.out.cell 2 rfl; have kRB2_3 := RB2.out.cell 3 rfl; have kRB2_4 := RB2.out.cell 4 rfl; have kRB2_5 := RB2.out.cell 5 rfl; have kRB2_6 := RB2.out.cell 6 rfl; have kRB2_7 := RB2.out.cell 7 rfl; have kRB2_8 := RB2.out.cell 8 rfl; have kXB2_0 := XB2.out.cell 0 rfl; have kXB2_1 := XB2.out.cell 1 rfl; have kXB2_2 := XB2.out.cell 2 rfl; have kXB2_3 := XB2.out.cell 3 rfl; have kXB2_4 := XB2.out.cell 4 rfl; have kXB2_5 := XB2.out.cell 5 rfl; have kXB2_6 := XB2.out.cell 6 rfl; have kXB2_7 := XB2.out.cell 7 rfl; have kXB2_8 := XB2.out.cell 8 rfl; clear hp hq ht hb)
    | (go_at_call 11; (with_reducible refine (K2.out _ (HE.out.bl G2.out)).mono ?_); rintro e w3 ⟨vp, vq, vt, rfl, hp, hq, ht, hb⟩; obtain ⟨Ayp, cyp, eyp⟩ := rw_open hp rfl; obtain ⟨Ayq, cyq, eyq⟩ := rw_open hq rfl; obtain ⟨Ayt, cyt, eyt⟩ := rw_open ht rfl; dsimp only at eyp eyq eyt hp hq ht; subst eyp; subst eyq; subst eyt; (try dsimp only [recV]); have G3 := Lib.hid ((G2.out.trans hb).alloc (.cells #[.int .i64 y.con, .int .i64 y.dgs, .int .i64 y.gua, .int .i64 y.frm, .int .i64 y.til, .slice Ayp y.p.length cyp, .slice Ayq y.q.length cyq, .slice Ayt y.t.length cyt, .bool y.minus] 30)); have RB3 := Lib.hid ((RB2.out.bl hb).alloc (.cells #[.int .i64 y.con, .int .i64 y.dgs, .int .i64 y.gua, .int .i64 y.frm, .int .i64 y.til, .slice Ayp y.p.length cyp, .slice Ayq y.q.length cyq, .slice Ayt y.t.length cyt, .bool y.minus] 30)); have XB3 := Lib.hid ((XB2.out.bl hb).alloc (.cells #[.int .i64 y.con, .int .i64 y.dgs, .int .i64 y.gua, .int .i64 y.frm, .int .i64 y.til, .slice Ayp y.p.length cyp, .slice Ayq y.q.length cyq, .slice Ayt y.t.length cyt, .bool y.minus] 30)); have RP3 := Lib.hid ((RP2.out.bl hb).bl ((Bl.refl _).alloc (.cells #[.int .i64 y.con, .int .i64 y.dgs, .int .i64 y.gua, .int .i64 y.frm, .int .i64 y.til, .slice Ayp y.p.length cyp, .slice Ayq y.q.length cyq, .slice Ayt y.t.length cyt, .bool y.minus] 30))); have RQ3 := Lib.hid ((RQ2.out.bl hb).bl ((Bl.refl _).alloc (.cells #[.int .i64 y.con, .int .i64 y.dgs, .int .i64 y.gua, .int .i64 y.frm, .int .i64 y.til, .slice Ayp y.p.length cyp, .slice Ayq y.q.length cyq, .slice Ayt y.t.length cyt, .bool y.minus] 30))); have RT3 := Lib.hid ((RT2.out.bl hb).bl ((Bl.refl _).alloc (.cells #[.int .i64 y.con, .int .i64 y.dgs, .int .i64 y.gua, .int .i64 y.frm, .int .i64 y.til, .slice Ayp y.p.length cyp, .slice Ayq y.q.length cyq, .slice Ayt y.t.length cyt, .bool y.minus] 30))); have XP3 := Lib.hid ((XP2.out.bl hb).bl ((Bl.refl _).alloc (.cells #[.int .i64 y.con, .int .i64 y.dgs, .int .i64 y.gua, .int .i64 y.frm, .int .i64 y.til, .slice Ayp y.p.length cyp, .slice Ayq y.q.length cyq, .slice Ayt y.t.length cyt, .bool y.minus] 30))); have XQ3 := Lib.hid ((XQ2.out.bl hb).bl ((Bl.refl _).alloc (.cells #[.int .i64 y.con, .int .i64 y.dgs, .int .i64 y.gua, .int .i64 y.frm, .int .i64 y.til, .slice Ayp y.p.length cyp, .slice Ayq y.q.length cyq, .slice Ayt y.t.length cyt, .bool y.minus] 30))); have XT3 := Lib.hid ((XT2.out.bl hb).bl ((Bl.refl _).alloc (.cells #[.int .i64 y.con, .int .i64 y.dgs, .int .i64 y.gua, .int .i64 y.frm, .int .i64 y.til, .slice Ayp y.p.length cyp, .slice Ayq y.q.length cyq, .slice Ayt y.t.length cyt, .bool y.minus] 30))); have YB3 := Lib.hid (bq_at (W := w3) (t := 30) (cs := [.int .i64 y.con, .int .i64 y.dgs, .int .i64 y.gua, .int .i64 y.frm, .int .i64 y.til, .slice Ayp y.p.length cyp, .slice Ayq y.q.length cyq, .slice Ayt y.t.length cyt, .bool y.minus]) rfl); have YP3 := Lib.hid (hp.bl ((Bl.refl _).alloc (.cells #[.int .i64 y.con, .int .i64 y.dgs, .int .i64 y.gua, .int .i64 y.frm, .int .i64 y.til, .slice Ayp y.p.length cyp, .slice Ayq y.q.length cyq, .slice Ayt y.t.length cyt, .bool y.minus] 30))); have YQ3 := Lib.hid (hq.bl ((Bl.refl _).alloc (.cells #[.int .i64 y.con, .int .i64 y.dgs, .int .i64 y.gua, .int .i64 y.frm, .int .i64 y.til, .slice Ayp y.p.length cyp, .slice Ayq y.q.length cyq, .slice Ayt y.t.length cyt, .bool y.minus] 30))); have YT3 := Lib.hid (ht.bl ((Bl.refl _).alloc (.cells #[.int .i64 y.con, .int .i64 y.dgs, .int .i64 y.gua, .int .i64 y.frm, .int .i64 y.til, .slice Ayp y.p.length cyp, .slice Ayq y.q.length cyq, .slice Ayt y.t.length cyt, .bool y.minus] 30))); clear kRB2_0 kRB2_1 kRB2_2 kRB2_3 kRB2_4 kRB2_5 kRB2_6 kRB2_7 kRB2_8 kXB2_0 kXB2_1 kXB2_2 kXB2_3 kXB2_4 kXB2_5 kXB2_6 kXB2_7 kXB2_8; have kRB3_0 := RB3.out.cell 0 rfl; have kRB3_1 := RB3.out.cell 1 rfl; have kRB3_2 := RB3.out.cell 2 rfl; have kRB3_3 := RB3.out.cell 3 rfl; have kRB3_4 := RB3.out.cell 4 rfl; have kRB3_5 := RB3.out.cell 5 rfl; have kRB3_6 := RB3.out.cell 6 rfl; have kRB3_7 := RB3.out.cell 7 rfl; have kRB3_8 := RB3.out.cell 8 rfl; have kXB3_0 := XB3.out.cell 0 rfl; have kXB3_1 := XB3.out.cell 1 rfl; have kXB3_2 := XB3.out.cell 2 rfl; have kXB3_3 := XB3.out.cell 3 rfl; have kXB3_4 := XB3.out.cell 4 rfl; have kXB3_5 := XB3.out.cell 5 rfl; have kXB3_6 := XB3.out.cell 6 rfl; have kXB3_7 := XB3.out.cell 7 rfl; have kXB3_8 := XB3.out.cell 8 rfl; have kYB3_0 := YB3.out.cell 0 rfl; have kYB3_1 := YB3.out.cell 1 rfl; have kYB3_2 := YB3.out.cell 2 rfl; have kYB3_3 := YB3.out.cell 3 rfl; have kYB3_4 := YB3.out.cell 4 rfl; have kYB3_5 := YB3.out.cell 5 rfl; have kYB3_6 := YB3.out.cell 6 rfl; have kYB3_7 := YB3.out.cell 7 rfl; have kYB3_8 := YB3.out.cell 8 rfl; clear hp hq ht hb)
    | (go_at_call 19; (with_reducible refine (S1.out _ _ _ _ _ _ _ XP3.out XQ3.out XT3.out RP3.out RQ3.out RT3.out).mono ?_); rintro e w4 ⟨rfl, hb⟩; have G4 := Lib.hid ((G3.out.trans hb)); have RB4 := Lib.hid ((RB3.out.bl hb)); have XB4 := Lib.hid ((XB3.out.bl hb)); have YB4 := Lib.hid ((YB3.out.bl hb)); have RP4 := Lib.hid ((RP3.out.bl hb)); have RQ4 := Lib.hid ((RQ3.out.bl hb)); have RT4 := Lib.hid ((RT3.out.bl hb)); have XP4 := Lib.hid ((XP3.out.bl hb)); have XQ4 := Lib.hid ((XQ3.out.bl hb)); have XT4 := Lib.hid ((XT3.out.bl hb)); have YP4 := Lib.hid ((YP3.out.bl hb)); have YQ4 := Lib.hid ((YQ3.out.bl hb)); have YT4 := Lib.hid ((YT3.out.bl hb)); clear kRB3_0 kRB3_1 kRB3_2 kRB3_3 kRB3_4 kRB3_5 kRB3_6 kRB3_7 kRB3_8 kXB3_0 kXB3_1 kXB3_2 kXB3_3 kXB3_4 kXB3_5 kXB3_6 kXB3_7 kXB3_8 kYB3_0 kYB3_1 kYB3_2 kYB3_3 kYB3_4 kYB3_5 kYB3_6 kYB3_7 kYB3_8; have kRB4_0 := RB4.out.cell 0 rfl; have kRB4_1 := RB4.out.cell 1 rfl; have kRB4_2 := RB4.out.cell 2 rfl; have kRB4_3 := RB4.out.cell 3 rfl; have kRB4_4 := RB4.out.cell 4 rfl; have kRB4_5 := RB4.out.cell 5 rfl; have kRB4_6 := RB4.out.cell 6 rfl; have kRB4_7 := RB4.out.cell 7 rfl; have kRB4_8 := RB4.out.cell 8 rfl; have kXB4_0 := XB4.out.cell 0 rfl; have kXB4_1 := XB4.out.cell 1 rfl; have kXB4_2 := XB4.out.cell 2 rfl; have kXB4_3 := XB4.out.cell 3 rfl; have kXB4_4 := XB4.out.cell 4 rfl; have kXB4_5 := XB4.out.cell 5 rfl; have kXB4_6 := XB4.out.cell 6 rfl; have kXB4_7 := XB4.out.cell 7 rfl; have kXB4_8 := XB4.out.cell 8 rfl; have kYB4_0 := YB4.out.cell 0 rfl; have kYB4_1 := YB4.out.cell 1 rfl; have kYB4_2 := YB4.out.cell 2 rfl; have kYB4_3 := YB4.out.cell 3 rfl; have kYB4_4 := YB4.out.cell 4 rfl; have kYB4_5 := YB4.out.cell 5 rfl; have kYB4_6 := YB4.out.cell 6 rfl; have kYB4_7 := YB4.out.cell 7 rfl; have kYB4_8 := YB4.out.cell 8 rfl; clear hb))
  go_ret
  exact ⟨rfl, G4.out⟩
set_option maxRecDepth 100000 in
set_option maxHeartbeats 4000000 in
theorem cut_bad_nil (r : Rc) (vp vq vt : Value) (hw : r.Wd) (l : List Nat) (ha : All 256 l) (hl : l.length ≤ 140737488355328) (w : World) (hp : Rw .u64 w vp r.p) (hq : Rw .u64 w vq r.q) (ht : Rw .u64 w vt r.t) (hE : ErrT w) (hm : r.May) (κ : Nat) (hκ : κ < (encB r).length) (n1 : Nat) (x : Rc) (hX : decB ((encB r).take κ) = (n1, x)) (n2 : Nat) (y : Rc) (hY : decB (encB r ++ l) = (n2, y)) (h1 : n1 ≠ 0) (h2 : l = []) :
    Calls Tryd.prog 5 #[recV r vp vq vt, .int .i64 (κ : Int), .string (bs l)] w fun e w' => e = .returned (.bool true) ∧ Bl w w' := by
  have KB0 := Lib.hid (fun W (g : Bl w W) => pBytes_any r vp vq vt hw W (hp.bl g) (hq.bl g) (ht.bl g))
  rw [if_pos hm, if_pos hm] at KB0
  have hz := bs_size (encB r)
  obtain ⟨S, eS⟩ : ∃ S, bs (encB r) = S := ⟨_, rfl⟩
  have KB : Hid (∀ W, Bl w W → Calls Tryd.prog 9 #[recV r vp vq vt] W fun e w' => e = .returned (.tuple #[.string S, .int .i64 0]) ∧ Bl W w') := fun W g => by
    have c := KB0.out W g
    unfold BsEnd at c
    rw [eS] at c
    exact c
  have hall := encB_all r
  have hlb : (encB r).length ≤ 100000 := by rw [encB_len]; have h1 := hm.2.1.1.1; have h2 := hm.2.1.2.1.1; have h3 := hm.2.1.2.2.1; omega
  have K1 := Lib.hid (fun W (h : ErrT W) => ptake_any ((encB r).take κ) (all_take hall κ) (by rw [List.length_take]; omega) W h)
  have K2 := Lib.hid (fun W (h : ErrT W) => ptake_any (encB r ++ l) (all_append hall ha) (by rw [List.length_append]; omega) W h)
  rw [hX] at K1
  rw [hY] at K2
  have x1 : (bs (encB r)).extract 0 κ = bs ((encB r).take κ) := by rw [bs_extract]; rfl
  have hzl := bs_size l
  have x2 := fun W => run_string_add_sum (P := Tryd.prog) W (bs (encB r)) (bs l) (by omega)
  rw [bs_append] at x2
  have x3 := bs_nil ha
  obtain ⟨T1, eT1⟩ : ∃ S, bs ((encB r).take κ) = S := ⟨_, rfl⟩
  obtain ⟨T2, eT2⟩ : ∃ S, bs (encB r ++ l) = S := ⟨_, rfl⟩
  obtain ⟨M, eM⟩ : ∃ S, bs l = S := ⟨_, rfl⟩
  rw [eT1] at K1 x1
  rw [eT2] at K2 x2
  rw [eS] at x1 x2 hz
  rw [eM] at x2 x3 hzl
  rw [eM]
  obtain ⟨n, hn⟩ : ∃ n, (encB r).length = n := ⟨_, rfl⟩
  rw [hn] at hz hlb hκ
  have nb : (n : Int) ≤ 100000 := by omega
  have mb : (M.size : Int) ≤ 140737488355328 := by omega
  have q1 : decide ((n : Int) ≤ (κ : Int)) = false := decide_eq_false (by omega)
  have q1' : decide (n ≤ κ) = false := decide_eq_false (by omega)
  have b1 : (0 : Int) ≤ (κ : Int) ∧ (κ : Int) ≤ (n : Int) := by omega
  have b2 : (0 : Int) ≤ (κ : Int) ∧ (κ : Int) ≤ (S.size : Int) := by omega
  have t1 : ((n1 : Int) != 0) = true := by rw [bne_iff_ne]; omega
  rw [decide_eq_true h2] at x3
  obtain ⟨Arp, crp, erp⟩ := rw_open hp rfl
  obtain ⟨Arq, crq, erq⟩ := rw_open hq rfl
  obtain ⟨Art, crt, ert⟩ := rw_open ht rfl
  subst erp; subst erq; subst ert
  unfold recV at KB ⊢
  have HE := Lib.hid hE
  have RB0 := Lib.hid (Bq.new w 30 [.int .i64 r.con, .int .i64 r.dgs, .int .i64 r.gua, .int .i64 r.frm, .int .i64 r.til, .slice Arp r.p.length crp, .slice Arq r.q.length crq, .slice Art r.t.length crt, .bool r.minus])
  have G0 := Lib.hid ((Bl.refl w).alloc (.cells #[.int .i64 r.con, .int .i64 r.dgs, .int .i64 r.gua, .int .i64 r.frm, .int .i64 r.til, .slice Arp r.p.length crp, .slice Arq r.q.length crq, .slice Art r.t.length crt, .bool r.minus] 30))
  have RP0 := Lib.hid (hp.bl G0.out)
  have RQ0 := Lib.hid (hq.bl G0.out)
  have RT0 := Lib.hid (ht.bl G0.out)
  clear hall hX hY eT1 eT2 eM hn eS KB0 hw hm ha hl hE hp hq ht hκ hlb h1 h2
  go_enter Tryd.func5, Tryd.ntmps5
  go_wp2_with (first
    | (go_at_call 8; (with_reducible refine (shown14_any _).mono ?_); rintro e w' ⟨rfl, rfl⟩)
    | (go_at_call 9; (with_reducible refine (KB.out _ ((Bl.refl w).alloc _)).mono ?_); rintro e w1 ⟨rfl, hb⟩; have G1 := Lib.hid ((G0.out.trans hb)); have RB1 := Lib.hid ((RB0.out.bl hb)); have RP1 := Lib.hid ((RP0.out.bl hb)); have RQ1 := Lib.hid ((RQ0.out.bl hb)); have RT1 := Lib.hid ((RT0.out.bl hb)); have kRB1_0 := RB1.out.cell 0 rfl; have kRB1_1 := RB1.out.cell 1 rfl; have kRB1_2 := RB1.out.cell 2 rfl; have kRB1_3 := RB1.out.cell 3 rfl; have kRB1_4 := RB1.out.cell 4 rfl; have kRB1_5 := RB1.out.cell 5 rfl; have kRB1_6 := RB1.out.cell 6 rfl; have kRB1_7 := RB1.out.cell 7 rfl; have kRB1_8 := RB1.out.cell 8 rfl; clear hb)
    | (go_at_call 11; (with_reducible refine (K1.out _ (HE.out.bl G1.out)).mono ?_); rintro e w2 ⟨vp, vq, vt, rfl, hp, hq, ht, hb⟩; obtain ⟨Axp, cxp, exp⟩ := rw_open hp rfl; obtain ⟨Axq, cxq, exq⟩ := rw_open hq rfl; obtain ⟨Axt, cxt, ext⟩ := rw_open ht rfl; dsimp only at exp exq ext hp hq ht; subst exp; subst exq; subst ext; (try dsimp only [recV]); have G2 := Lib.hid ((G1.out.trans hb).alloc (.cells #[.int .i64 x.con, .int .i64 x.dgs, .int .i64 x.gua, .int .i64 x.frm, .int .i64 x.til, .slice Axp x.p.length cxp, .slice Axq x.q.length cxq, .slice Axt x.t.length cxt, .bool x.minus] 30)); have RB2 := Lib.hid ((RB1.out.bl hb).alloc (.cells #[.int .i64 x.con, .int .i64 x.dgs, .int .i64 x.gua, .int .i64 x.frm, .int .i64 x.til, .slice Axp x.p.length cxp, .slice Axq x.q.length cxq, .slice Axt x.t.length cxt, .bool x.minus] 30)); have RP2 := Lib.hid ((RP1.out.bl hb).bl ((Bl.refl _).alloc (.cells #[.int .i64 x.con, .int .i64 x.dgs, .int .i64 x.gua, .int .i64 x.frm, .int .i64 x.til, .slice Axp x.p.length cxp, .slice Axq x.q.length cxq, .slice Axt x.t.length cxt, .bool x.minus] 30))); have RQ2 := Lib.hid ((RQ1.out.bl hb).bl ((Bl.refl _).alloc (.cells #[.int .i64 x.con, .int .i64 x.dgs, .int .i64 x.gua, .int .i64 x.frm, .int .i64 x.til, .slice Axp x.p.length cxp, .slice Axq x.q.length cxq, .slice Axt x.t.length cxt, .bool x.minus] 30))); have RT2 := Lib.hid ((RT1.out.bl hb).bl ((Bl.refl _).alloc (.cells #[.int .i64 x.con, .int .i64 x.dgs, .int .i64 x.gua, .int .i64 x.frm, .int .i64 x.til, .slice Axp x.p.length cxp, .slice Axq x.q.length cxq, .slice Axt x.t.length cxt, .bool x.minus] 30))); have XB2 := Lib.hid (bq_at (W := w2) (t := 30) (cs := [.int .i64 x.con, .int .i64 x.dgs, .int .i64 x.gua, .int .i64 x.frm, .int .i64 x.til, .slice Axp x.p.length cxp, .slice Axq x.q.length cxq, .slice Axt x.t.length cxt, .bool x.minus]) rfl); have XP2 := Lib.hid (hp.bl ((Bl.refl _).alloc (.cells #[.int .i64 x.con, .int .i64 x.dgs, .int .i64 x.gua, .int .i64 x.frm, .int .i64 x.til, .slice Axp x.p.length cxp, .slice Axq x.q.length cxq, .slice Axt x.t.length cxt, .bool x.minus] 30))); have XQ2 := Lib.hid (hq.bl ((Bl.refl _).alloc (.cells #[.int .i64 x.con, .int .i64 x.dgs, .int .i64 x.gua, .int .i64 x.frm, .int .i64 x.til, .slice Axp x.p.length cxp, .slice Axq x.q.length cxq, .slice Axt x.t.length cxt, .bool x.minus] 30))); have XT2 := Lib.hid (ht.bl ((Bl.refl _).alloc (.cells #[.int .i64 x.con, .int .i64 x.dgs, .int .i64 x.gua, .int .i64 x.frm, .int .i64 x.til, .slice Axp x.p.length cxp, .slice Axq x.q.length cxq, .slice Axt x.t.length cxt, .bool x.minus] 30))); clear kRB1_0 kRB1_1 kRB1_2 kRB1_3 kRB1_4 kRB1_5 kRB1_6 kRB1_7 kRB1_8; have kRB2_0 := RB2.out.cell 0 rfl; have kRB2_1 := RB2.out.cell 1 rfl; have kRB2_2 := RB2.out.cell 2 rfl; have kRB2_3 := RB2.out.cell 3 rfl; have kRB2_4 := RB2.out.cell 4 rfl; have kRB2_5 := RB2.out.cell 5 rfl; have kRB2_6 := RB2.out.cell 6 rfl; have kRB2_7 := RB2.out.cell 7 rfl; have kRB2_8 := RB2.out.cell 8 rfl; have kXB2_0 := XB2.out.cell 0 rfl; have kXB2_1 := XB2.out.cell 1 rfl; have kXB2_2 := XB2.out.cell 2 rfl; have kXB2_3 := XB2.out.cell 3 rfl; have kXB2_4 := XB2.out.cell 4 rfl; have kXB2_5 := XB2.out.cell 5 rfl; have kXB2_6 := XB2.out.cell 6 rfl; have kXB2_7 := XB2.out.cell 7 rfl; have kXB2_8 := XB2.out.cell 8 rfl; clear hp hq ht hb)
    | (go_at_call 11; (with_reducible refine (K2.out _ (HE.out.bl G2.out)).mono ?_); rintro e w3 ⟨vp, vq, vt, rfl, hp, hq, ht, hb⟩; obtain ⟨Ayp, cyp, eyp⟩ := rw_open hp rfl; obtain ⟨Ayq, cyq, eyq⟩ := rw_open hq rfl; obtain ⟨Ayt, cyt, eyt⟩ := rw_open ht rfl; dsimp only at eyp eyq eyt hp hq ht; subst eyp; subst eyq; subst eyt; (try dsimp only [recV]); have G3 := Lib.hid ((G2.out.trans hb).alloc (.cells #[.int .i64 y.con, .int .i64 y.dgs, .int .i64 y.gua, .int .i64 y.frm, .int .i64 y.til, .slice Ayp y.p.length cyp, .slice Ayq y.q.length cyq, .slice Ayt y.t.length cyt, .bool y.minus] 30)); have RB3 := Lib.hid ((RB2.out.bl hb).alloc (.cells #[.int .i64 y.con, .int .i64 y.dgs, .int .i64 y.gua, .int .i64 y.frm, .int .i64 y.til, .slice Ayp y.p.length cyp, .slice Ayq y.q.length cyq, .slice Ayt y.t.length cyt, .bool y.minus] 30)); have XB3 := Lib.hid ((XB2.out.bl hb).alloc (.cells #[.int .i64 y.con, .int .i64 y.dgs, .int .i64 y.gua, .int .i64 y.frm, .int .i64 y.til, .slice Ayp y.p.length cyp, .slice Ayq y.q.length cyq, .slice Ayt y.t.length cyt, .bool y.minus] 30)); have RP3 := Lib.hid ((RP2.out.bl hb).bl ((Bl.refl _).alloc (.cells #[.int .i64 y.con, .int .i64 y.dgs, .int .i64 y.gua, .int .i64 y.frm, .int .i64 y.til, .slice Ayp y.p.length cyp, .slice Ayq y.q.length cyq, .slice Ayt y.t.length cyt, .bool y.minus] 30))); have RQ3 := Lib.hid ((RQ2.out.bl hb).bl ((Bl.refl _).alloc (.cells #[.int .i64 y.con, .int .i64 y.dgs, .int .i64 y.gua, .int .i64 y.frm, .int .i64 y.til, .slice Ayp y.p.length cyp, .slice Ayq y.q.length cyq, .slice Ayt y.t.length cyt, .bool y.minus] 30))); have RT3 := Lib.hid ((RT2.out.bl hb).bl ((Bl.refl _).alloc (.cells #[.int .i64 y.con, .int .i64 y.dgs, .int .i64 y.gua, .int .i64 y.frm, .int .i64 y.til, .slice Ayp y.p.length cyp, .slice Ayq y.q.length cyq, .slice Ayt y.t.length cyt, .bool y.minus] 30))); have XP3 := Lib.hid ((XP2.out.bl hb).bl ((Bl.refl _).alloc (.cells #[.int .i64 y.con, .int .i64 y.dgs, .int .i64 y.gua, .int .i64 y.frm, .int .i64 y.til, .slice Ayp y.p.length cyp, .slice Ayq y.q.length cyq, .slice Ayt y.t.length cyt, .bool y.minus] 30))); have XQ3 := Lib.hid ((XQ2.out.bl hb).bl ((Bl.refl _).alloc (.cells #[.int .i64 y.con, .int .i64 y.dgs, .int .i64 y.gua, .int .i64 y.frm, .int .i64 y.til, .slice Ayp y.p.length cyp, .slice Ayq y.q.length cyq, .slice Ayt y.t.length cyt, .bool y.minus] 30))); have XT3 := Lib.hid ((XT2.out.bl hb).bl ((Bl.refl _).alloc (.cells #[.int .i64 y.con, .int .i64 y.dgs, .int .i64 y.gua, .int .i64 y.frm, .int .i64 y.til, .slice Ayp y.p.length cyp, .slice Ayq y.q.length cyq, .slice Ayt y.t.length cyt, .bool y.minus] 30))); have YB3 := Lib.hid (bq_at (W := w3) (t := 30) (cs := [.int .i64 y.con, .int .i64 y.dgs, .int .i64 y.gua, .int .i64 y.frm, .int .i64 y.til, .slice Ayp y.p.length cyp, .slice Ayq y.q.length cyq, .slice Ayt y.t.length cyt, .bool y.minus]) rfl); have YP3 := Lib.hid (hp.bl ((Bl.refl _).alloc (.cells #[.int .i64 y.con, .int .i64 y.dgs, .int .i64 y.gua, .int .i64 y.frm, .int .i64 y.til, .slice Ayp y.p.length cyp, .slice Ayq y.q.length cyq, .slice Ayt y.t.length cyt, .bool y.minus] 30))); have YQ3 := Lib.hid (hq.bl ((Bl.refl _).alloc (.cells #[.int .i64 y.con, .int .i64 y.dgs, .int .i64 y.gua, .int .i64 y.frm, .int .i64 y.til, .slice Ayp y.p.length cyp, .slice Ayq y.q.length cyq, .slice Ayt y.t.length cyt, .bool y.minus] 30))); have YT3 := Lib.hid (ht.bl ((Bl.refl _).alloc (.cells #[.int .i64 y.con, .int .i64 y.dgs, .int .i64 y.gua, .int .i64 y.frm, .int .i64 y.til, .slice Ayp y.p.length cyp, .slice Ayq y.q.length cyq, .slice Ayt y.t.length cyt, .bool y.minus] 30))); clear kRB2_0 kRB2_1 kRB2_2 kRB2_3 kRB2_4 kRB2_5 kRB2_6 kRB2_7 kRB2_8 kXB2_0 kXB2_1 kXB2_2 kXB2_3 kXB2_4 kXB2_5 kXB2_6 kXB2_7 kXB2_8; have kRB3_0 := RB3.out.cell 0 rfl; have kRB3_1 := RB3.out.cell 1 rfl; have kRB3_2 := RB3.out.cell 2 rfl; have kRB3_3 := RB3.out.cell 3 rfl; have kRB3_4 := RB3.out.cell 4 rfl; have kRB3_5 := RB3.out.cell 5 rfl; have kRB3_6 := RB3.out.cell 6 rfl; have kRB3_7 := RB3.out.cell 7 rfl; have kRB3_8 := RB3.out.cell 8 rfl; have kXB3_0 := XB3.out.cell 0 rfl; have kXB3_1 := XB3.out.cell 1 rfl; have kXB3_2 := XB3.out.cell 2 rfl; have kXB3_3 := XB3.out.cell 3 rfl; have kXB3_4 := XB3.out.cell 4 rfl; have kXB3_5 := XB3.out.cell 5 rfl; have kXB3_6 := XB3.out.cell 6 rfl; have kXB3_7 := XB3.out.cell 7 rfl; have kXB3_8 := XB3.out.cell 8 rfl; have kYB3_0 := YB3.out.cell 0 rfl; have kYB3_1 := YB3.out.cell 1 rfl; have kYB3_2 := YB3.out.cell 2 rfl; have kYB3_3 := YB3.out.cell 3 rfl; have kYB3_4 := YB3.out.cell 4 rfl; have kYB3_5 := YB3.out.cell 5 rfl; have kYB3_6 := YB3.out.cell 6 rfl; have kYB3_7 := YB3.out.cell 7 rfl; have kYB3_8 := YB3.out.cell 8 rfl; clear hp hq ht hb))
  go_ret
  exact ⟨rfl, G3.out⟩
set_option maxRecDepth 100000 in
set_option maxHeartbeats 4000000 in
theorem cut_bad_ok (r : Rc) (vp vq vt : Value) (hw : r.Wd) (l : List Nat) (ha : All 256 l) (hl : l.length ≤ 140737488355328) (w : World) (hp : Rw .u64 w vp r.p) (hq : Rw .u64 w vq r.q) (ht : Rw .u64 w vt r.t) (hE : ErrT w) (hm : r.May) (κ : Nat) (hκ : κ < (encB r).length) (n1 : Nat) (x : Rc) (hX : decB ((encB r).take κ) = (n1, x)) (n2 : Nat) (y : Rc) (hY : decB (encB r ++ l) = (n2, y)) (h1 : n1 ≠ 0) (h2 : l ≠ []) (h3 : n2 = 0) (d2 : y ≠ r) :
    Calls Tryd.prog 5 #[recV r vp vq vt, .int .i64 (κ : Int), .string (bs l)] w fun e w' => e = .returned (.bool true) ∧ Bl w w' := by
  have KB0 := Lib.hid (fun W (g : Bl w W) => pBytes_any r vp vq vt hw W (hp.bl g) (hq.bl g) (ht.bl g))
  rw [if_pos hm, if_pos hm] at KB0
  have hz := bs_size (encB r)
  obtain ⟨S, eS⟩ : ∃ S, bs (encB r) = S := ⟨_, rfl⟩
  have KB : Hid (∀ W, Bl w W → Calls Tryd.prog 9 #[recV r vp vq vt] W fun e w' => e = .returned (.tuple #[.string S, .int .i64 0]) ∧ Bl W w') := fun W g => by
    have c := KB0.out W g
    unfold BsEnd at c
    rw [eS] at c
    exact c
  have hall := encB_all r
  have hlb : (encB r).length ≤ 100000 := by rw [encB_len]; have h1 := hm.2.1.1.1; have h2 := hm.2.1.2.1.1; have h3 := hm.2.1.2.2.1; omega
  have K1 := Lib.hid (fun W (h : ErrT W) => ptake_any ((encB r).take κ) (all_take hall κ) (by rw [List.length_take]; omega) W h)
  have K2 := Lib.hid (fun W (h : ErrT W) => ptake_any (encB r ++ l) (all_append hall ha) (by rw [List.length_append]; omega) W h)
  rw [hX] at K1
  rw [hY] at K2
  have x1 : (bs (encB r)).extract 0 κ = bs ((encB r).take κ) := by rw [bs_extract]; rfl
  have hzl := bs_size l
  have x2 := fun W => run_string_add_sum (P := Tryd.prog) W (bs (encB r)) (bs l) (by omega)
  rw [bs_append] at x2
  have x3 := bs_nil ha
  obtain ⟨T1, eT1⟩ : ∃ S, bs ((encB r).take κ) = S := ⟨_, rfl⟩
  obtain ⟨T2, eT2⟩ : ∃ S, bs (encB r ++ l) = S := ⟨_, rfl⟩
  obtain ⟨M, eM⟩ : ∃ S, bs l = S := ⟨_, rfl⟩
  rw [eT1] at K1 x1
  rw [eT2] at K2 x2
  rw [eS] at x1 x2 hz
  rw [eM] at x2 x3 hzl
  rw [eM]
  obtain ⟨n, hn⟩ : ∃ n, (encB r).length = n := ⟨_, rfl⟩
  rw [hn] at hz hlb hκ
  have nb : (n : Int) ≤ 100000 := by omega
  have mb : (M.size : Int) ≤ 140737488355328 := by omega
  have q1 : decide ((n : Int) ≤ (κ : Int)) = false := decide_eq_false (by omega)
  have q1' : decide (n ≤ κ) = false := decide_eq_false (by omega)
  have b1 : (0 : Int) ≤ (κ : Int) ∧ (κ : Int) ≤ (n : Int) := by omega
  have b2 : (0 : Int) ≤ (κ : Int) ∧ (κ : Int) ≤ (S.size : Int) := by omega
  have t1 : ((n1 : Int) != 0) = true := by rw [bne_iff_ne]; omega
  rw [decide_eq_false h2] at x3
  subst h3
  have S2 : Hid (∀ (vp vq vt up uq ut : Value) (W : World), Rw .u64 W vp y.p → Rw .u64 W vq y.q → Rw .u64 W vt y.t → Rw .u64 W up r.p → Rw .u64 W uq r.q → Rw .u64 W ut r.t → Calls Tryd.prog 19 #[.agg #[.int .i64 y.con, .int .i64 y.dgs, .int .i64 y.gua, .int .i64 y.frm, .int .i64 y.til, vp, vq, vt, .bool y.minus], .agg #[.int .i64 r.con, .int .i64 r.dgs, .int .i64 r.gua, .int .i64 r.frm, .int .i64 r.til, up, uq, ut, .bool r.minus]] W fun e w' => e = .returned (.bool false) ∧ Bl W w') := fun vp vq vt up uq ut W h1 h2 h3 h4 h5 h6 => by
    have c := psame_any y r vp vq vt up uq ut W h1 h2 h3 h4 h5 h6
    rw [same_no d2] at c
    exact c
  obtain ⟨Arp, crp, erp⟩ := rw_open hp rfl
  obtain ⟨Arq, crq, erq⟩ := rw_open hq rfl
  obtain ⟨Art, crt, ert⟩ := rw_open ht rfl
  subst erp; subst erq; subst ert
  unfold recV at KB ⊢
  have HE := Lib.hid hE
  have RB0 := Lib.hid (Bq.new w 30 [.int .i64 r.con, .int .i64 r.dgs, .int .i64 r.gua, .int .i64 r.frm, .int .i64 r.til, .slice Arp r.p.length crp, .slice Arq r.q.length crq, .slice Art r.t.length crt, .bool r.minus])
  have G0 := Lib.hid ((Bl.refl w).alloc (.cells #[.int .i64 r.con, .int .i64 r.dgs, .int .i64 r.gua, .int .i64 r.frm, .int .i64 r.til, .slice Arp r.p.length crp, .slice Arq r.q.length crq, .slice Art r.t.length crt, .bool r.minus] 30))
  have RP0 := Lib.hid (hp.bl G0.out)
  have RQ0 := Lib.hid (hq.bl G0.out)
  have RT0 := Lib.hid (ht.bl G0.out)
  clear hall hX hY eT1 eT2 eM hn eS KB0 hw hm ha hl hE hp hq ht hκ hlb h1 d2 h2
  go_enter Tryd.func5, Tryd.ntmps5
  go_wp2_with (first
    | (go_at_call 8; (with_reducible refine (shown14_any _).mono ?_); rintro e w' ⟨rfl, rfl⟩)
    | (go_at_call 9; (with_reducible refine (KB.out _ ((Bl.refl w).alloc _)).mono ?_); rintro e w1 ⟨rfl, hb⟩; have G1 := Lib.hid ((G0.out.trans hb)); have RB1 := Lib.hid ((RB0.out.bl hb)); have RP1 := Lib.hid ((RP0.out.bl hb)); have RQ1 := Lib.hid ((RQ0.out.bl hb)); have RT1 := Lib.hid ((RT0.out.bl hb)); have kRB1_0 := RB1.out.cell 0 rfl; have kRB1_1 := RB1.out.cell 1 rfl; have kRB1_2 := RB1.out.cell 2 rfl; have kRB1_3 := RB1.out.cell 3 rfl; have kRB1_4 := RB1.out.cell 4 rfl; have kRB1_5 := RB1.out.cell 5 rfl; have kRB1_6 := RB1.out.cell 6 rfl; have kRB1_7 := RB1.out.cell 7 rfl; have kRB1_8 := RB1.out.cell 8 rfl; clear hb)
    | (go_at_call 11; (with_reducible refine (K1.out _ (HE.out.bl G1.out)).mono ?_); rintro e w2 ⟨vp, vq, vt, rfl, hp, hq, ht, hb⟩; obtain ⟨Axp, cxp, exp⟩ := rw_open hp rfl; obtain ⟨Axq, cxq, exq⟩ := rw_open hq rfl; obtain ⟨Axt, cxt, ext⟩ := rw_open ht rfl; dsimp only at exp exq ext hp hq ht; subst exp; subst exq; subst ext; (try dsimp only [recV]); have G2 := Lib.hid ((G1.out.trans hb).alloc (.cells #[.int .i64 x.con, .int .i64 x.dgs, .int .i64 x.gua, .int .i64 x.frm, .int .i64 x.til, .slice Axp x.p.length cxp, .slice Axq x.q.length cxq, .slice Axt x.t.length cxt, .bool x.minus] 30)); have RB2 := Lib.hid ((RB1.out.bl hb).alloc (.cells #[.int .i64 x.con, .int .i64 x.dgs, .int .i64 x.gua, .int .i64 x.frm, .int .i64 x.til, .slice Axp x.p.length cxp, .slice Axq x.q.length cxq, .slice Axt x.t.length cxt, .bool x.minus] 30)); have RP2 := Lib.hid ((RP1.out.bl hb).bl ((Bl.refl _).alloc (.cells #[.int .i64 x.con, .int .i64 x.dgs, .int .i64 x.gua, .int .i64 x.frm, .int .i64 x.til, .slice Axp x.p.length cxp, .slice Axq x.q.length cxq, .slice Axt x.t.length cxt, .bool x.minus] 30))); have RQ2 := Lib.hid ((RQ1.out.bl hb).bl ((Bl.refl _).alloc (.cells #[.int .i64 x.con, .int .i64 x.dgs, .int .i64 x.gua, .int .i64 x.frm, .int .i64 x.til, .slice Axp x.p.length cxp, .slice Axq x.q.length cxq, .slice Axt x.t.length cxt, .bool x.minus] 30))); have RT2 := Lib.hid ((RT1.out.bl hb).bl ((Bl.refl _).alloc (.cells #[.int .i64 x.con, .int .i64 x.dgs, .int .i64 x.gua, .int .i64 x.frm, .int .i64 x.til, .slice Axp x.p.length cxp, .slice Axq x.q.length cxq, .slice Axt x.t.length cxt, .bool x.minus] 30))); have XB2 := Lib.hid (bq_at (W := w2) (t := 30) (cs := [.int .i64 x.con, .int .i64 x.dgs, .int .i64 x.gua, .int .i64 x.frm, .int .i64 x.til, .slice Axp x.p.length cxp, .slice Axq x.q.length cxq, .slice Axt x.t.length cxt, .bool x.minus]) rfl); have XP2 := Lib.hid (hp.bl ((Bl.refl _).alloc (.cells #[.int .i64 x.con, .int .i64 x.dgs, .int .i64 x.gua, .int .i64 x.frm, .int .i64 x.til, .slice Axp x.p.length cxp, .slice Axq x.q.length cxq, .slice Axt x.t.length cxt, .bool x.minus] 30))); have XQ2 := Lib.hid (hq.bl ((Bl.refl _).alloc (.cells #[.int .i64 x.con, .int .i64 x.dgs, .int .i64 x.gua, .int .i64 x.frm, .int .i64 x.til, .slice Axp x.p.length cxp, .slice Axq x.q.length cxq, .slice Axt x.t.length cxt, .bool x.minus] 30))); have XT2 := Lib.hid (ht.bl ((Bl.refl _).alloc (.cells #[.int .i64 x.con, .int .i64 x.dgs, .int .i64 x.gua, .int .i64 x.frm, .int .i64 x.til, .slice Axp x.p.length cxp, .slice Axq x.q.length cxq, .slice Axt x.t.length cxt, .bool x.minus] 30))); clear kRB1_0 kRB1_1 kRB1_2 kRB1_3 kRB1_4 kRB1_5 kRB1_6 kRB1_7 kRB1_8; have kRB2_0 := RB2.out.cell 0 rfl; have kRB2_1 := RB2.out.cell 1 rfl; have kRB2_2 := RB2.out.cell 2 rfl; have kRB2_3 := RB2.out.cell 3 rfl; have kRB2_4 := RB2.out.cell 4 rfl; have kRB2_5 := RB2.out.cell 5 rfl; have kRB2_6 := RB2.out.cell 6 rfl; have kRB2_7 := RB2.out.cell 7 rfl; have kRB2_8 := RB2.out.cell 8 rfl; have kXB2_0 := XB2.out.cell 0 rfl; have kXB2_1 := XB2.out.cell 1 rfl; have kXB2_2 := XB2.out.cell 2 rfl; have kXB2_3 := XB2.out.cell 3 rfl; have kXB2_4 := XB2.out.cell 4 rfl; have kXB2_5 := XB2.out.cell 5 rfl; have kXB2_6 := XB2.out.cell 6 rfl; have kXB2_7 := XB2.out.cell 7 rfl; have kXB2_8 := XB2.out.cell 8 rfl; clear hp hq ht hb)
    | (go_at_call 11; (with_reducible refine (K2.out _ (HE.out.bl G2.out)).mono ?_); rintro e w3 ⟨vp, vq, vt, rfl, hp, hq, ht, hb⟩; obtain ⟨Ayp, cyp, eyp⟩ := rw_open hp rfl; obtain ⟨Ayq, cyq, eyq⟩ := rw_open hq rfl; obtain ⟨Ayt, cyt, eyt⟩ := rw_open ht rfl; dsimp only at eyp eyq eyt hp hq ht; subst eyp; subst eyq; subst eyt; (try dsimp only [recV]); have G3 := Lib.hid ((G2.out.trans hb).alloc (.cells #[.int .i64 y.con, .int .i64 y.dgs, .int .i64 y.gua, .int .i64 y.frm, .int .i64 y.til, .slice Ayp y.p.length cyp, .slice Ayq y.q.length cyq, .slice Ayt y.t.length cyt, .bool y.minus] 30)); have RB3 := Lib.hid ((RB2.out.bl hb).alloc (.cells #[.int .i64 y.con, .int .i64 y.dgs, .int .i64 y.gua, .int .i64 y.frm, .int .i64 y.til, .slice Ayp y.p.length cyp, .slice Ayq y.q.length cyq, .slice Ayt y.t.length cyt, .bool y.minus] 30)); have XB3 := Lib.hid ((XB2.out.bl hb).alloc (.cells #[.int .i64 y.con, .int .i64 y.dgs, .int .i64 y.gua, .int .i64 y.frm, .int .i64 y.til, .slice Ayp y.p.length cyp, .slice Ayq y.q.length cyq, .slice Ayt y.t.length cyt, .bool y.minus] 30)); have RP3 := Lib.hid ((RP2.out.bl hb).bl ((Bl.refl _).alloc (.cells #[.int .i64 y.con, .int .i64 y.dgs, .int .i64 y.gua, .int .i64 y.frm, .int .i64 y.til, .slice Ayp y.p.length cyp, .slice Ayq y.q.length cyq, .slice Ayt y.t.length cyt, .bool y.minus] 30))); have RQ3 := Lib.hid ((RQ2.out.bl hb).bl ((Bl.refl _).alloc (.cells #[.int .i64 y.con, .int .i64 y.dgs, .int .i64 y.gua, .int .i64 y.frm, .int .i64 y.til, .slice Ayp y.p.length cyp, .slice Ayq y.q.length cyq, .slice Ayt y.t.length cyt, .bool y.minus] 30))); have RT3 := Lib.hid ((RT2.out.bl hb).bl ((Bl.refl _).alloc (.cells #[.int .i64 y.con, .int .i64 y.dgs, .int .i64 y.gua, .int .i64 y.frm, .int .i64 y.til, .slice Ayp y.p.length cyp, .slice Ayq y.q.length cyq, .slice Ayt y.t.length cyt, .bool y.minus] 30))); have XP3 := Lib.hid ((XP2.out.bl hb).bl ((Bl.refl _).alloc (.cells #[.int .i64 y.con, .int .i64 y.dgs, .int .i64 y.gua, .int .i64 y.frm, .int .i64 y.til, .slice Ayp y.p.length cyp, .slice Ayq y.q.length cyq, .slice Ayt y.t.length cyt, .bool y.minus] 30))); have XQ3 := Lib.hid ((XQ2.out.bl hb).bl ((Bl.refl _).alloc (.cells #[.int .i64 y.con, .int .i64 y.dgs, .int .i64 y.gua, .int .i64 y.frm, .int .i64 y.til, .slice Ayp y.p.length cyp, .slice Ayq y.q.length cyq, .slice Ayt y.t.length cyt, .bool y.minus] 30))); have XT3 := Lib.hid ((XT2.out.bl hb).bl ((Bl.refl _).alloc (.cells #[.int .i64 y.con, .int .i64 y.dgs, .int .i64 y.gua, .int .i64 y.frm, .int .i64 y.til, .slice Ayp y.p.length cyp, .slice Ayq y.q.length cyq, .slice Ayt y.t.length cyt, .bool y.minus] 30))); have YB3 := Lib.hid (bq_at (W := w3) (t := 30) (cs := [.int .i64 y.con, .int .i64 y.dgs, .int .i64 y.gua, .int .i64 y.frm, .int .i64 y.til, .slice Ayp y.p.length cyp, .slice Ayq y.q.length cyq, .slice Ayt y.t.length cyt, .bool y.minus]) rfl); have YP3 := Lib.hid (hp.bl ((Bl.refl _).alloc (.cells #[.int .i64 y.con, .int .i64 y.dgs, .int .i64 y.gua, .int .i64 y.frm, .int .i64 y.til, .slice Ayp y.p.length cyp, .slice Ayq y.q.length cyq, .slice Ayt y.t.length cyt, .bool y.minus] 30))); have YQ3 := Lib.hid (hq.bl ((Bl.refl _).alloc (.cells #[.int .i64 y.con, .int .i64 y.dgs, .int .i64 y.gua, .int .i64 y.frm, .int .i64 y.til, .slice Ayp y.p.length cyp, .slice Ayq y.q.length cyq, .slice Ayt y.t.length cyt, .bool y.minus] 30))); have YT3 := Lib.hid (ht.bl ((Bl.refl _).alloc (.cells #[.int .i64 y.con, .int .i64 y.dgs, .int .i64 y.gua, .int .i64 y.frm, .int .i64 y.til, .slice Ayp y.p.length cyp, .slice Ayq y.q.length cyq, .slice Ayt y.t.length cyt, .bool y.minus] 30))); clear kRB2_0 kRB2_1 kRB2_2 kRB2_3 kRB2_4 kRB2_5 kRB2_6 kRB2_7 kRB2_8 kXB2_0 kXB2_1 kXB2_2 kXB2_3 kXB2_4 kXB2_5 kXB2_6 kXB2_7 kXB2_8; have kRB3_0 := RB3.out.cell 0 rfl; have kRB3_1 := RB3.out.cell 1 rfl; have kRB3_2 := RB3.out.cell 2 rfl; have kRB3_3 := RB3.out.cell 3 rfl; have kRB3_4 := RB3.out.cell 4 rfl; have kRB3_5 := RB3.out.cell 5 rfl; have kRB3_6 := RB3.out.cell 6 rfl; have kRB3_7 := RB3.out.cell 7 rfl; have kRB3_8 := RB3.out.cell 8 rfl; have kXB3_0 := XB3.out.cell 0 rfl; have kXB3_1 := XB3.out.cell 1 rfl; have kXB3_2 := XB3.out.cell 2 rfl; have kXB3_3 := XB3.out.cell 3 rfl; have kXB3_4 := XB3.out.cell 4 rfl; have kXB3_5 := XB3.out.cell 5 rfl; have kXB3_6 := XB3.out.cell 6 rfl; have kXB3_7 := XB3.out.cell 7 rfl; have kXB3_8 := XB3.out.cell 8 rfl; have kYB3_0 := YB3.out.cell 0 rfl; have kYB3_1 := YB3.out.cell 1 rfl; have kYB3_2 := YB3.out.cell 2 rfl; have kYB3_3 := YB3.out.cell 3 rfl; have kYB3_4 := YB3.out.cell 4 rfl; have kYB3_5 := YB3.out.cell 5 rfl; have kYB3_6 := YB3.out.cell 6 rfl; have kYB3_7 := YB3.out.cell 7 rfl; have kYB3_8 := YB3.out.cell 8 rfl; clear hp hq ht hb)
    | (go_at_call 19; (with_reducible refine (S2.out _ _ _ _ _ _ _ YP3.out YQ3.out YT3.out RP3.out RQ3.out RT3.out).mono ?_); rintro e w4 ⟨rfl, hb⟩; have G4 := Lib.hid ((G3.out.trans hb)); have RB4 := Lib.hid ((RB3.out.bl hb)); have XB4 := Lib.hid ((XB3.out.bl hb)); have YB4 := Lib.hid ((YB3.out.bl hb)); have RP4 := Lib.hid ((RP3.out.bl hb)); have RQ4 := Lib.hid ((RQ3.out.bl hb)); have RT4 := Lib.hid ((RT3.out.bl hb)); have XP4 := Lib.hid ((XP3.out.bl hb)); have XQ4 := Lib.hid ((XQ3.out.bl hb)); have XT4 := Lib.hid ((XT3.out.bl hb)); have YP4 := Lib.hid ((YP3.out.bl hb)); have YQ4 := Lib.hid ((YQ3.out.bl hb)); have YT4 := Lib.hid ((YT3.out.bl hb)); clear kRB3_0 kRB3_1 kRB3_2 kRB3_3 kRB3_4 kRB3_5 kRB3_6 kRB3_7 kRB3_8 kXB3_0 kXB3_1 kXB3_2 kXB3_3 kXB3_4 kXB3_5 kXB3_6 kXB3_7 kXB3_8 kYB3_0 kYB3_1 kYB3_2 kYB3_3 kYB3_4 kYB3_5 kYB3_6 kYB3_7 kYB3_8; have kRB4_0 := RB4.out.cell 0 rfl; have kRB4_1 := RB4.out.cell 1 rfl; have kRB4_2 := RB4.out.cell 2 rfl; have kRB4_3 := RB4.out.cell 3 rfl; have kRB4_4 := RB4.out.cell 4 rfl; have kRB4_5 := RB4.out.cell 5 rfl; have kRB4_6 := RB4.out.cell 6 rfl; have kRB4_7 := RB4.out.cell 7 rfl; have kRB4_8 := RB4.out.cell 8 rfl; have kXB4_0 := XB4.out.cell 0 rfl; have kXB4_1 := XB4.out.cell 1 rfl; have kXB4_2 := XB4.out.cell 2 rfl; have kXB4_3 := XB4.out.cell 3 rfl; have kXB4_4 := XB4.out.cell 4 rfl; have kXB4_5 := XB4.out.cell 5 rfl; have kXB4_6 := XB4.out.cell 6 rfl; have kXB4_7 := XB4.out.cell 7 rfl; have kXB4_8 := XB4.out.cell 8 rfl; have kYB4_0 := YB4.out.cell 0 rfl; have kYB4_1 := YB4.out.cell 1 rfl; have kYB4_2 := YB4.out.cell 2 rfl; have kYB4_3 := YB4.out.cell 3 rfl; have kYB4_4 := YB4.out.cell 4 rfl; have kYB4_5 := YB4.out.cell 5 rfl; have kYB4_6 := YB4.out.cell 6 rfl; have kYB4_7 := YB4.out.cell 7 rfl; have kYB4_8 := YB4.out.cell 8 rfl; clear hb))
  go_ret
  exact ⟨rfl, G4.out⟩
set_option maxRecDepth 100000 in
set_option maxHeartbeats 4000000 in
theorem cut_bad_bad (r : Rc) (vp vq vt : Value) (hw : r.Wd) (l : List Nat) (ha : All 256 l) (hl : l.length ≤ 140737488355328) (w : World) (hp : Rw .u64 w vp r.p) (hq : Rw .u64 w vq r.q) (ht : Rw .u64 w vt r.t) (hE : ErrT w) (hm : r.May) (κ : Nat) (hκ : κ < (encB r).length) (n1 : Nat) (x : Rc) (hX : decB ((encB r).take κ) = (n1, x)) (n2 : Nat) (y : Rc) (hY : decB (encB r ++ l) = (n2, y)) (h1 : n1 ≠ 0) (h2 : l ≠ []) (h3 : n2 ≠ 0) :
    Calls Tryd.prog 5 #[recV r vp vq vt, .int .i64 (κ : Int), .string (bs l)] w fun e w' => e = .returned (.bool true) ∧ Bl w w' := by
  have KB0 := Lib.hid (fun W (g : Bl w W) => pBytes_any r vp vq vt hw W (hp.bl g) (hq.bl g) (ht.bl g))
  rw [if_pos hm, if_pos hm] at KB0
  have hz := bs_size (encB r)
  obtain ⟨S, eS⟩ : ∃ S, bs (encB r) = S := ⟨_, rfl⟩
  have KB : Hid (∀ W, Bl w W → Calls Tryd.prog 9 #[recV r vp vq vt] W fun e w' => e = .returned (.tuple #[.string S, .int .i64 0]) ∧ Bl W w') := fun W g => by
    have c := KB0.out W g
    unfold BsEnd at c
    rw [eS] at c
    exact c
  have hall := encB_all r
  have hlb : (encB r).length ≤ 100000 := by rw [encB_len]; have h1 := hm.2.1.1.1; have h2 := hm.2.1.2.1.1; have h3 := hm.2.1.2.2.1; omega
  have K1 := Lib.hid (fun W (h : ErrT W) => ptake_any ((encB r).take κ) (all_take hall κ) (by rw [List.length_take]; omega) W h)
  have K2 := Lib.hid (fun W (h : ErrT W) => ptake_any (encB r ++ l) (all_append hall ha) (by rw [List.length_append]; omega) W h)
  rw [hX] at K1
  rw [hY] at K2
  have x1 : (bs (encB r)).extract 0 κ = bs ((encB r).take κ) := by rw [bs_extract]; rfl
  have hzl := bs_size l
  have x2 := fun W => run_string_add_sum (P := Tryd.prog) W (bs (encB r)) (bs l) (by omega)
  rw [bs_append] at x2
  have x3 := bs_nil ha
  obtain ⟨T1, eT1⟩ : ∃ S, bs ((encB r).take κ) = S := ⟨_, rfl⟩
  obtain ⟨T2, eT2⟩ : ∃ S, bs (encB r ++ l) = S := ⟨_, rfl⟩
  obtain ⟨M, eM⟩ : ∃ S, bs l = S := ⟨_, rfl⟩
  rw [eT1] at K1 x1
  rw [eT2] at K2 x2
  rw [eS] at x1 x2 hz
  rw [eM] at x2 x3 hzl
  rw [eM]
  obtain ⟨n, hn⟩ : ∃ n, (encB r).length = n := ⟨_, rfl⟩
  rw [hn] at hz hlb hκ
  have nb : (n : Int) ≤ 100000 := by omega
  have mb : (M.size : Int) ≤ 140737488355328 := by omega
  have q1 : decide ((n : Int) ≤ (κ : Int)) = false := decide_eq_false (by omega)
  have q1' : decide (n ≤ κ) = false := decide_eq_false (by omega)
  have b1 : (0 : Int) ≤ (κ : Int) ∧ (κ : Int) ≤ (n : Int) := by omega
  have b2 : (0 : Int) ≤ (κ : Int) ∧ (κ : Int) ≤ (S.size : Int) := by omega
  have t1 : ((n1 : Int) != 0) = true := by rw [bne_iff_ne]; omega
  rw [decide_eq_false h2] at x3
  have t2 : ((n2 : Int) != 0) = true := by rw [bne_iff_ne]; omega
  obtain ⟨Arp, crp, erp⟩ := rw_open hp rfl
  obtain ⟨Arq, crq, erq⟩ := rw_open hq rfl
  obtain ⟨Art, crt, ert⟩ := rw_open ht rfl
  subst erp; subst erq; subst ert
  unfold recV at KB ⊢
  have HE := Lib.hid hE
  have RB0 := Lib.hid (Bq.new w 30 [.int .i64 r.con, .int .i64 r.dgs, .int .i64 r.gua, .int .i64 r.frm, .int .i64 r.til, .slice Arp r.p.length crp, .slice Arq r.q.length crq, .slice Art r.t.length crt, .bool r.minus])
  have G0 := Lib.hid ((Bl.refl w).alloc (.cells #[.int .i64 r.con, .int .i64 r.dgs, .int .i64 r.gua, .int .i64 r.frm, .int .i64 r.til, .slice Arp r.p.length crp, .slice Arq r.q.length crq, .slice Art r.t.length crt, .bool r.minus] 30))
  have RP0 := Lib.hid (hp.bl G0.out)
  have RQ0 := Lib.hid (hq.bl G0.out)
  have RT0 := Lib.hid (ht.bl G0.out)
  clear hall hX hY eT1 eT2 eM hn eS KB0 hw hm ha hl hE hp hq ht hκ hlb h1 h2 h3
  go_enter Tryd.func5, Tryd.ntmps5
  go_wp2_with (first
    | (go_at_call 8; (with_reducible refine (shown14_any _).mono ?_); rintro e w' ⟨rfl, rfl⟩)
    | (go_at_call 9; (with_reducible refine (KB.out _ ((Bl.refl w).alloc _)).mono ?_); rintro e w1 ⟨rfl, hb⟩; have G1 := Lib.hid ((G0.out.trans hb)); have RB1 := Lib.hid ((RB0.out.bl hb)); have RP1 := Lib.hid ((RP0.out.bl hb)); have RQ1 := Lib.hid ((RQ0.out.bl hb)); have RT1 := Lib.hid ((RT0.out.bl hb)); have kRB1_0 := RB1.out.cell 0 rfl; have kRB1_1 := RB1.out.cell 1 rfl; have kRB1_2 := RB1.out.cell 2 rfl; have kRB1_3 := RB1.out.cell 3 rfl; have kRB1_4 := RB1.out.cell 4 rfl; have kRB1_5 := RB1.out.cell 5 rfl; have kRB1_6 := RB1.out.cell 6 rfl; have kRB1_7 := RB1.out.cell 7 rfl; have kRB1_8 := RB1.out.cell 8 rfl; clear hb)
    | (go_at_call 11; (with_reducible refine (K1.out _ (HE.out.bl G1.out)).mono ?_); rintro e w2 ⟨vp, vq, vt, rfl, hp, hq, ht, hb⟩; obtain ⟨Axp, cxp, exp⟩ := rw_open hp rfl; obtain ⟨Axq, cxq, exq⟩ := rw_open hq rfl; obtain ⟨Axt, cxt, ext⟩ := rw_open ht rfl; dsimp only at exp exq ext hp hq ht; subst exp; subst exq; subst ext; (try dsimp only [recV]); have G2 := Lib.hid ((G1.out.trans hb).alloc (.cells #[.int .i64 x.con, .int .i64 x.dgs, .int .i64 x.gua, .int .i64 x.frm, .int .i64 x.til, .slice Axp x.p.length cxp, .slice Axq x.q.length cxq, .slice Axt x.t.length cxt, .bool x.minus] 30)); have RB2 := Lib.hid ((RB1.out.bl hb).alloc (.cells #[.int .i64 x.con, .int .i64 x.dgs, .int .i64 x.gua, .int .i64 x.frm, .int .i64 x.til, .slice Axp x.p.length cxp, .slice Axq x.q.length cxq, .slice Axt x.t.length cxt, .bool x.minus] 30)); have RP2 := Lib.hid ((RP1.out.bl hb).bl ((Bl.refl _).alloc (.cells #[.int .i64 x.con, .int .i64 x.dgs, .int .i64 x.gua, .int .i64 x.frm, .int .i64 x.til, .slice Axp x.p.length cxp, .slice Axq x.q.length cxq, .slice Axt x.t.length cxt, .bool x.minus] 30))); have RQ2 := Lib.hid ((RQ1.out.bl hb).bl ((Bl.refl _).alloc (.cells #[.int .i64 x.con, .int .i64 x.dgs, .int .i64 x.gua, .int .i64 x.frm, .int .i64 x.til, .slice Axp x.p.length cxp, .slice Axq x.q.length cxq, .slice Axt x.t.length cxt, .bool x.minus] 30))); have RT2 := Lib.hid ((RT1.out.bl hb).bl ((Bl.refl _).alloc (.cells #[.int .i64 x.con, .int .i64 x.dgs, .int .i64 x.gua, .int .i64 x.frm, .int .i64 x.til, .slice Axp x.p.length cxp, .slice Axq x.q.length cxq, .slice Axt x.t.length cxt, .bool x.minus] 30))); have XB2 := Lib.hid (bq_at (W := w2) (t := 30) (cs := [.int .i64 x.con, .int .i64 x.dgs, .int .i64 x.gua, .int .i64 x.frm, .int .i64 x.til, .slice Axp x.p.length cxp, .slice Axq x.q.length cxq, .slice Axt x.t.length cxt, .bool x.minus]) rfl); have XP2 := Lib.hid (hp.bl ((Bl.refl _).alloc (.cells #[.int .i64 x.con, .int .i64 x.dgs, .int .i64 x.gua, .int .i64 x.frm, .int .i64 x.til, .slice Axp x.p.length cxp, .slice Axq x.q.length cxq, .slice Axt x.t.length cxt, .bool x.minus] 30))); have XQ2 := Lib.hid (hq.bl ((Bl.refl _).alloc (.cells #[.int .i64 x.con, .int .i64 x.dgs, .int .i64 x.gua, .int .i64 x.frm, .int .i64 x.til, .slice Axp x.p.length cxp, .slice Axq x.q.length cxq, .slice Axt x.t.length cxt, .bool x.minus] 30))); have XT2 := Lib.hid (ht.bl ((Bl.refl _).alloc (.cells #[.int .i64 x.con, .int .i64 x.dgs, .int .i64 x.gua, .int .i64 x.frm, .int .i64 x.til, .slice Axp x.p.length cxp, .slice Axq x.q.length cxq, .slice Axt x.t.length cxt, .bool x.minus] 30))); clear kRB1_0 kRB1_1 kRB1_2 kRB1_3 kRB1_4 kRB1_5 kRB1_6 kRB1_7 kRB1_8; have kRB2_0 := RB2.out.cell 0 rfl; have kRB2_1 := RB2.out.cell 1 rfl; have kRB2_2 := RB2.out.cell 2 rfl; have kRB2_3 := RB2.out.cell 3 rfl; have kRB2_4 := RB2.out.cell 4 rfl; have kRB2_5 := RB2.out.cell 5 rfl; have kRB2_6 := RB2.out.cell 6 rfl; have kRB2_7 := RB2.out.cell 7 rfl; have kRB2_8 := RB2.out.cell 8 rfl; have kXB2_0 := XB2.out.cell 0 rfl; have kXB2_1 := XB2.out.cell 1 rfl; have kXB2_2 := XB2.out.cell 2 rfl; have kXB2_3 := XB2.out.cell 3 rfl; have kXB2_4 := XB2.out.cell 4 rfl; have kXB2_5 := XB2.out.cell 5 rfl; have kXB2_6 := XB2.out.cell 6 rfl; have kXB2_7 := XB2.out.cell 7 rfl; have kXB2_8 := XB2.out.cell 8 rfl; clear hp hq ht hb)
    | (go_at_call 11; (with_reducible refine (K2.out _ (HE.out.bl G2.out)).mono ?_); rintro e w3 ⟨vp, vq, vt, rfl, hp, hq, ht, hb⟩; obtain ⟨Ayp, cyp, eyp⟩ := rw_open hp rfl; obtain ⟨Ayq, cyq, eyq⟩ := rw_open hq rfl; obtain ⟨Ayt, cyt, eyt⟩ := rw_open ht rfl; dsimp only at eyp eyq eyt hp hq ht; subst eyp; subst eyq; subst eyt; (try dsimp only [recV]); have G3 := Lib.hid ((G2.out.trans hb).alloc (.cells #[.int .i64 y.con, .int .i64 y.dgs, .int .i64 y.gua, .int .i64 y.frm, .int .i64 y.til, .slice Ayp y.p.length cyp, .slice Ayq y.q.length cyq, .slice Ayt y.t.length cyt, .bool y.minus] 30)); have RB3 := Lib.hid ((RB2.out.bl hb).alloc (.cells #[.int .i64 y.con, .int .i64 y.dgs, .int .i64 y.gua, .int .i64 y.frm, .int .i64 y.til, .slice Ayp y.p.length cyp, .slice Ayq y.q.length cyq, .slice Ayt y.t.length cyt, .bool y.minus] 30)); have XB3 := Lib.hid ((XB2.out.bl hb).alloc (.cells #[.int .i64 y.con, .int .i64 y.dgs, .int .i64 y.gua, .int .i64 y.frm, .int .i64 y.til, .slice Ayp y.p.length cyp, .slice Ayq y.q.length cyq, .slice Ayt y.t.length cyt, .bool y.minus] 30)); have RP3 := Lib.hid ((RP2.out.bl hb).bl ((Bl.refl _).alloc (.cells #[.int .i64 y.con, .int .i64 y.dgs, .int .i64 y.gua, .int .i64 y.frm, .int .i64 y.til, .slice Ayp y.p.length cyp, .slice Ayq y.q.length cyq, .slice Ayt y.t.length cyt, .bool y.minus] 30))); have RQ3 := Lib.hid ((RQ2.out.bl hb).bl ((Bl.refl _).alloc (.cells #[.int .i64 y.con, .int .i64 y.dgs, .int .i64 y.gua, .int .i64 y.frm, .int .i64 y.til, .slice Ayp y.p.length cyp, .slice Ayq y.q.length cyq, .slice Ayt y.t.length cyt, .bool y.minus] 30))); have RT3 := Lib.hid ((RT2.out.bl hb).bl ((Bl.refl _).alloc (.cells #[.int .i64 y.con, .int .i64 y.dgs, .int .i64 y.gua, .int .i64 y.frm, .int .i64 y.til, .slice Ayp y.p.length cyp, .slice Ayq y.q.length cyq, .slice Ayt y.t.length cyt, .bool y.minus] 30))); have XP3 := Lib.hid ((XP2.out.bl hb).bl ((Bl.refl _).alloc (.cells #[.int .i64 y.con, .int .i64 y.dgs, .int .i64 y.gua, .int .i64 y.frm, .int .i64 y.til, .slice Ayp y.p.length cyp, .slice Ayq y.q.length cyq, .slice Ayt y.t.length cyt, .bool y.minus] 30))); have XQ3 := Lib.hid ((XQ2.out.bl hb).bl ((Bl.refl _).alloc (.cells #[.int .i64 y.con, .int .i64 y.dgs, .int .i64 y.gua, .int .i64 y.frm, .int .i64 y.til, .slice Ayp y.p.length cyp, .slice Ayq y.q.length cyq, .slice Ayt y.t.length cyt, .bool y.minus] 30))); have XT3 := Lib.hid ((XT2.out.bl hb).bl ((Bl.refl _).alloc (.cells #[.int .i64 y.con, .int .i64 y.dgs, .int .i64 y.gua, .int .i64 y.frm, .int .i64 y.til, .slice Ayp y.p.length cyp, .slice Ayq y.q.length cyq, .slice Ayt y.t.length cyt, .bool y.minus] 30))); have YB3 := Lib.hid (bq_at (W := w3) (t := 30) (cs := [.int .i64 y.con, .int .i64 y.dgs, .int .i64 y.gua, .int .i64 y.frm, .int .i64 y.til, .slice Ayp y.p.length cyp, .slice Ayq y.q.length cyq, .slice Ayt y.t.length cyt, .bool y.minus]) rfl); have YP3 := Lib.hid (hp.bl ((Bl.refl _).alloc (.cells #[.int .i64 y.con, .int .i64 y.dgs, .int .i64 y.gua, .int .i64 y.frm, .int .i64 y.til, .slice Ayp y.p.length cyp, .slice Ayq y.q.length cyq, .slice Ayt y.t.length cyt, .bool y.minus] 30))); have YQ3 := Lib.hid (hq.bl ((Bl.refl _).alloc (.cells #[.int .i64 y.con, .int .i64 y.dgs, .int .i64 y.gua, .int .i64 y.frm, .int .i64 y.til, .slice Ayp y.p.length cyp, .slice Ayq y.q.length cyq, .slice Ayt y.t.length cyt, .bool y.minus] 30))); have YT3 := Lib.hid (ht.bl ((Bl.refl _).alloc (.cells #[.int .i64 y.con, .int .i64 y.dgs, .int .i64 y.gua, .int .i64 y.frm, .int .i64 y.til, .slice Ayp y.p.length cyp, .slice Ayq y.q.length cyq, .slice Ayt y.t.length cyt, .bool y.minus] 30))); clear kRB2_0 kRB2_1 kRB2_2 kRB2_3 kRB2_4 kRB2_5 kRB2_6 kRB2_7 kRB2_8 kXB2_0 kXB2_1 kXB2_2 kXB2_3 kXB2_4 kXB2_5 kXB2_6 kXB2_7 kXB2_8; have kRB3_0 := RB3.out.cell 0 rfl; have kRB3_1 := RB3.out.cell 1 rfl; have kRB3_2 := RB3.out.cell 2 rfl; have kRB3_3 := RB3.out.cell 3 rfl; have kRB3_4 := RB3.out.cell 4 rfl; have kRB3_5 := RB3.out.cell 5 rfl; have kRB3_6 := RB3.out.cell 6 rfl; have kRB3_7 := RB3.out.cell 7 rfl; have kRB3_8 := RB3.out.cell 8 rfl; have kXB3_0 := XB3.out.cell 0 rfl; have kXB3_1 := XB3.out.cell 1 rfl; have kXB3_2 := XB3.out.cell 2 rfl; have kXB3_3 := XB3.out.cell 3 rfl; have kXB3_4 := XB3.out.cell 4 rfl; have kXB3_5 := XB3.out.cell 5 rfl; have kXB3_6 := XB3.out.cell 6 rfl; have kXB3_7 := XB3.out.cell 7 rfl; have kXB3_8 := XB3.out.cell 8 rfl; have kYB3_0 := YB3.out.cell 0 rfl; have kYB3_1 := YB3.out.cell 1 rfl; have kYB3_2 := YB3.out.cell 2 rfl; have kYB3_3 := YB3.out.cell 3 rfl; have kYB3_4 := YB3.out.cell 4 rfl; have kYB3_5 := YB3.out.cell 5 rfl; have kYB3_6 := YB3.out.cell 6 rfl; have kYB3_7 := YB3.out.cell 7 rfl; have kYB3_8 := YB3.out.cell 8 rfl; clear hp hq ht hb))
  go_ret
  exact ⟨rfl, G3.out⟩
theorem crcCut_walk (r : Rc) (vp vq vt : Value) (hw : r.Wd) (a : Int) (h1 : -9223372036854775808 ≤ a ∧ a ≤ 9223372036854775807) (l : List Nat) (ha : All 256 l) (hl : l.length ≤ 140737488355328) (w : World) (hp : Rw .u64 w vp r.p) (hq : Rw .u64 w vq r.q) (ht : Rw .u64 w vt r.t) (hE : ErrT w) :
    Calls Tryd.prog 5 #[recV r vp vq vt, .int .i64 a, .string (bs l)] w fun e w' => e = .returned (.bool true) ∧ Bl w w' := by
  by_cases hm : r.May
  · by_cases hn : a < 0
    · exact cut_neg r vp vq vt hw a l ha hl w hp hq ht hE hm hn
    · by_cases hf : ((encB r).length : Int) ≤ a
      · exact cut_far r vp vq vt hw a l ha hl w hp hq ht hE hm ⟨by omega, hf⟩
      · obtain ⟨κ, rfl⟩ : ∃ i : Nat, a = (i : Int) := ⟨a.toNat, by omega⟩
        have hκ : κ < (encB r).length := by omega
        have hall := encB_all r
        have hb1 := dec_bad ((encB r).take κ)
        have hb2 := dec_bad (encB r ++ l)
        rcases hX : decB ((encB r).take κ) with ⟨n1, x⟩
        rcases hY : decB (encB r ++ l) with ⟨n2, y⟩
        have d1 : n1 = 0 → x ≠ r := fun h0 e => by
          subst h0
          obtain ⟨_, _, h3⟩ := dec_of (all_take hall κ) hX
          rw [e] at h3
          have := congrArg List.length h3
          rw [List.length_take] at this
          omega
        have d2 : l ≠ [] → n2 = 0 → y ≠ r := fun hne h0 e => by
          subst h0
          obtain ⟨_, _, h3⟩ := dec_of (all_append hall ha) hY
          rw [e] at h3
          have h4 := congrArg List.length h3
          rw [List.length_append] at h4
          exact hne (List.length_eq_zero_iff.1 (by omega))
        by_cases z1 : n1 = 0
        · by_cases z2 : l = []
          · exact cut_ok_nil r vp vq vt hw l ha hl w hp hq ht hE hm κ hκ n1 x hX n2 y hY z1 (d1 z1) z2
          · by_cases z3 : n2 = 0
            · exact cut_ok_ok r vp vq vt hw l ha hl w hp hq ht hE hm κ hκ n1 x hX n2 y hY z1 (d1 z1) z2 z3 (d2 z2 z3)
            · exact cut_ok_bad r vp vq vt hw l ha hl w hp hq ht hE hm κ hκ n1 x hX n2 y hY z1 (d1 z1) z2 z3
        · by_cases z2 : l = []
          · exact cut_bad_nil r vp vq vt hw l ha hl w hp hq ht hE hm κ hκ n1 x hX n2 y hY z1 z2
          · by_cases z3 : n2 = 0
            · exact cut_bad_ok r vp vq vt hw l ha hl w hp hq ht hE hm κ hκ n1 x hX n2 y hY z1 z2 z3 (d2 z2 z3)
            · exact cut_bad_bad r vp vq vt hw l ha hl w hp hq ht hE hm κ hκ n1 x hX n2 y hY z1 z2 z3
  · exact cut_no r vp vq vt hw a l ha hl w hp hq ht hE hm
end Go.Proofs.YtpdglbfnmilblaaDoor
