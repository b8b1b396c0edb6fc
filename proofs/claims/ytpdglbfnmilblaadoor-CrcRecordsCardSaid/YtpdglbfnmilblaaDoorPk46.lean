/-
  The document's Bytes of layer 14 (printed by gen/crw.py).
-/
import Derived.Test.YtpdglbfnmilblaaDoorPk12
import Derived.Test.YtpdglbfnmilblaaDoorPk16
import Derived.Test.YtpdglbfnmilblaaDoorReg
import Derived.Deep.RegionHeld3
namespace Go.Proofs.YtpdglbfnmilblaaDoor
open Go.RowKit
set_option linter.unusedVariables false
set_option linter.unusedSimpArgs false

set_option maxRecDepth 100000 in
set_option maxHeartbeats 8000000 in
theorem rBytes_no (r : Rc) (vp vq vt : Value) (w : World) (hp : Rw .u64 w vp r.p) (hq : Rw .u64 w vq r.q) (ht : Rw .u64 w vt r.t) (hm : ¬ r.May) :
    Calls Tryd.prog 10 #[recV r vp vq vt] w (BsEnd w [] 1) := by
  have KM := Lib.hid (fun w' (g : Bl w w') => rmay_any r vp vq vt w' (hp.bl g) (hq.bl g) (ht.bl g))
  rw [decide_eq_false hm] at KM
  obtain ⟨B1, c1, rfl, _⟩ := hp
  obtain ⟨B2, c2, rfl, _⟩ := hq
  obtain ⟨B3, c3, rfl, _⟩ := ht
  unfold recV at KM ⊢
  obtain ⟨con, dgs, gua, frm, til, p, q, t, minus⟩ := r
  dsimp only at KM ⊢
  clear hm
  go_enter Tryd.func10, Tryd.ntmps10
  go_wp2_with (go_at_call 23; (with_reducible refine (KM.out _ ((Bl.refl w).alloc _)).mono ?_); rintro e w1 ⟨rfl, hb⟩)
  go_ret2
  exact ⟨rfl, ((Bl.refl w).alloc _).trans hb⟩
theorem keep8 {w0 W w : World} {b : Nat} {v0 v1 v2 v3 v4 v5 v6 v7 : Value} (h : W.cell? ⟨b, 0, none⟩ = some v0 ∧ W.cell? ⟨b, 1, none⟩ = some v1 ∧ W.cell? ⟨b, 2, none⟩ = some v2 ∧ W.cell? ⟨b, 3, none⟩ = some v3 ∧ W.cell? ⟨b, 4, none⟩ = some v4 ∧ W.cell? ⟨b, 5, none⟩ = some v5 ∧ W.cell? ⟨b, 6, none⟩ = some v6 ∧ W.cell? ⟨b, 7, none⟩ = some v7 ∧ b < W.heap.size ∧ Bl w0 W) (g : Bl W w) :
    w.cell? ⟨b, 0, none⟩ = some v0 ∧ w.cell? ⟨b, 1, none⟩ = some v1 ∧ w.cell? ⟨b, 2, none⟩ = some v2 ∧ w.cell? ⟨b, 3, none⟩ = some v3 ∧ w.cell? ⟨b, 4, none⟩ = some v4 ∧ w.cell? ⟨b, 5, none⟩ = some v5 ∧ w.cell? ⟨b, 6, none⟩ = some v6 ∧ w.cell? ⟨b, 7, none⟩ = some v7 ∧ b < w.heap.size ∧ Bl w0 w := by
  obtain ⟨h0, h1, h2, h3, h4, h5, h6, h7, hb, hg⟩ := h
  exact ⟨(g.cell (p := ⟨b, 0, none⟩) hb).trans h0, (g.cell (p := ⟨b, 1, none⟩) hb).trans h1, (g.cell (p := ⟨b, 2, none⟩) hb).trans h2, (g.cell (p := ⟨b, 3, none⟩) hb).trans h3, (g.cell (p := ⟨b, 4, none⟩) hb).trans h4, (g.cell (p := ⟨b, 5, none⟩) hb).trans h5, (g.cell (p := ⟨b, 6, none⟩) hb).trans h6, (g.cell (p := ⟨b, 7, none⟩) hb).trans h7, Nat.lt_of_lt_of_le hb g.size, hg.trans g⟩
theorem kbytes (v m : Nat) (vv mm : Int) (h1 : vv = (v : Int)) (h2 : mm = (m : Int)) (hv : v < 18446744073709551616) (hm : m ≤ 8) (S : ByteArray) (hS : bs (be m v) = S) (W : World) :
    Calls Tryd.prog 24 #[.int .u64 vv, .int .i64 mm] W fun e w' => e = .returned (.string S) ∧ Bl W w' := by
  subst h1; subst h2; subst hS
  exact rbytes_any v m hv hm W
theorem kadd {l m n : List Nat} (h : l.length + m.length ≤ 1048576) (e : l ++ m = n) {A B C : ByteArray} (hA : bs l = A) (hB : bs m = B) (hC : bs n = C) (W : World) : (Op.stringOp .add A B).run Tryd.prog W = .ok (.string C) W := by
  subst hA; subst hB; subst hC; subst e
  exact bs_sum h W

set_option maxRecDepth 100000 in
set_option maxHeartbeats 16000000 in
theorem rBytes_yes0 (c d g f t : Nat) (p q r : List Nat) (vp vq vt : Value) (w : World) (hp : Rw .u64 w vp p) (hq : Rw .u64 w vq q) (ht : Rw .u64 w vt r) (hw : (Rc.mk (c : Int) (d : Int) (g : Int) (f : Int) (t : Int) p q r false).Wd) (hm : (Rc.mk (c : Int) (d : Int) (g : Int) (f : Int) (t : Int) p q r false).May) :
    Calls Tryd.prog 10 #[recV ⟨(c : Int), (d : Int), (g : Int), (f : Int), (t : Int), p, q, r, false⟩ vp vq vt] w (BsEnd w (encB ⟨(c : Int), (d : Int), (g : Int), (f : Int), (t : Int), p, q, r, false⟩) 0) := by
  have KM := Lib.hid (fun w' (gg : Bl w w') => rmay_any ⟨(c : Int), (d : Int), (g : Int), (f : Int), (t : Int), p, q, r, false⟩ vp vq vt w' (hp.bl gg) (hq.bl gg) (ht.bl gg))
  rw [decide_eq_true hm] at KM
  have hbl : (bodyB ⟨(c : Int), (d : Int), (g : Int), (f : Int), (t : Int), p, q, r, false⟩).length ≤ 100000 := by rw [bodyB_len]; have h1 := hm.2.1.1.1; have h2 := hm.2.1.2.1.1; have h3 := hm.2.1.2.2.1; omega
  have hall := bodyB_all ⟨(c : Int), (d : Int), (g : Int), (f : Int), (t : Int), p, q, r, false⟩
  have hend : bodyB ⟨(c : Int), (d : Int), (g : Int), (f : Int), (t : Int), p, q, r, false⟩ ++ be 4 (crSum (bodyB ⟨(c : Int), (d : Int), (g : Int), (f : Int), (t : Int), p, q, r, false⟩)) = encB ⟨(c : Int), (d : Int), (g : Int), (f : Int), (t : Int), p, q, r, false⟩ := rfl
  have hbody : taly ++ be 1 c ++ be 4 d ++ be 4 g ++ be 4 f ++ be 4 t ++ be 1 (sgn false) ++ rowB p ++ rowB q ++ rowB r = bodyB ⟨(c : Int), (d : Int), (g : Int), (f : Int), (t : Int), p, q, r, false⟩ := by
    unfold bodyB headB rowsB
    simp only [Int.toNat_natCast, List.append_assoc]
  obtain ⟨⟨h1, h2, h3, h4⟩, ⟨o1, o2, o3⟩, h5, h6⟩ := hm
  obtain ⟨w1', w2', w3'⟩ := hw
  dsimp only at h1 h2 h3 h4 o1 o2 o3 h5 h6 w1' w2' w3'
  have cb : c ≤ 255 := by omega
  have db : d ≤ 2147483647 := by have := h1.2; omega
  have gb : g ≤ 2147483647 := by have := h2.2; omega
  have fb : f ≤ 2147483647 := by have := h3.2; omega
  have tb : t ≤ 2147483647 := by have := h4.2; omega
  have p1 := o1.1
  have p2 := o2.1
  have p3 := o3.1
  have KSM := Lib.hid (fun W => rsum_any (bodyB ⟨(c : Int), (d : Int), (g : Int), (f : Int), (t : Int), p, q, r, false⟩) hall (by omega) W)
  have hcs := crSum_lt (bodyB ⟨(c : Int), (d : Int), (g : Int), (f : Int), (t : Int), p, q, r, false⟩)
  have e0 : (taly ++ be 1 c).length = 5 := by simp only [List.length_append, be_len]; rfl
  have e1 : (taly ++ be 1 c ++ be 4 d).length = 9 := by rw [List.length_append, e0, be_len]
  have e2 : (taly ++ be 1 c ++ be 4 d ++ be 4 g).length = 13 := by rw [List.length_append, e1, be_len]
  have e3 : (taly ++ be 1 c ++ be 4 d ++ be 4 g ++ be 4 f).length = 17 := by rw [List.length_append, e2, be_len]
  have e4 : (taly ++ be 1 c ++ be 4 d ++ be 4 g ++ be 4 f ++ be 4 t).length = 21 := by rw [List.length_append, e3, be_len]
  have e5 : (taly ++ be 1 c ++ be 4 d ++ be 4 g ++ be 4 f ++ be 4 t ++ be 1 (sgn false)).length = 22 := by rw [List.length_append, e4, be_len]
  have e6 : (taly ++ be 1 c ++ be 4 d ++ be 4 g ++ be 4 f ++ be 4 t ++ be 1 (sgn false) ++ rowB p).length = 26 + 8 * p.length := by rw [List.length_append, e5, rowB_len]; omega
  have e7 : (taly ++ be 1 c ++ be 4 d ++ be 4 g ++ be 4 f ++ be 4 t ++ be 1 (sgn false) ++ rowB p ++ rowB q).length = 30 + 8 * p.length + 8 * q.length := by rw [List.length_append, e6, rowB_len]; omega
  obtain ⟨S0, eS0⟩ : ∃ S, bs (be 1 c) = S := ⟨_, rfl⟩
  obtain ⟨A0, eA0⟩ : ∃ S, bs (taly ++ be 1 c) = S := ⟨_, rfl⟩
  obtain ⟨S1, eS1⟩ : ∃ S, bs (be 4 d) = S := ⟨_, rfl⟩
  obtain ⟨A1, eA1⟩ : ∃ S, bs (taly ++ be 1 c ++ be 4 d) = S := ⟨_, rfl⟩
  obtain ⟨S2, eS2⟩ : ∃ S, bs (be 4 g) = S := ⟨_, rfl⟩
  obtain ⟨A2, eA2⟩ : ∃ S, bs (taly ++ be 1 c ++ be 4 d ++ be 4 g) = S := ⟨_, rfl⟩
  obtain ⟨S3, eS3⟩ : ∃ S, bs (be 4 f) = S := ⟨_, rfl⟩
  obtain ⟨A3, eA3⟩ : ∃ S, bs (taly ++ be 1 c ++ be 4 d ++ be 4 g ++ be 4 f) = S := ⟨_, rfl⟩
  obtain ⟨S4, eS4⟩ : ∃ S, bs (be 4 t) = S := ⟨_, rfl⟩
  obtain ⟨A4, eA4⟩ : ∃ S, bs (taly ++ be 1 c ++ be 4 d ++ be 4 g ++ be 4 f ++ be 4 t) = S := ⟨_, rfl⟩
  obtain ⟨S5, eS5⟩ : ∃ S, bs (be 1 (sgn false)) = S := ⟨_, rfl⟩
  obtain ⟨A5, eA5⟩ : ∃ S, bs (taly ++ be 1 c ++ be 4 d ++ be 4 g ++ be 4 f ++ be 4 t ++ be 1 (sgn false)) = S := ⟨_, rfl⟩
  obtain ⟨S6, eS6⟩ : ∃ S, bs (rowB p) = S := ⟨_, rfl⟩
  obtain ⟨A6, eA6⟩ : ∃ S, bs (taly ++ be 1 c ++ be 4 d ++ be 4 g ++ be 4 f ++ be 4 t ++ be 1 (sgn false) ++ rowB p) = S := ⟨_, rfl⟩
  obtain ⟨S7, eS7⟩ : ∃ S, bs (rowB q) = S := ⟨_, rfl⟩
  obtain ⟨A7, eA7⟩ : ∃ S, bs (taly ++ be 1 c ++ be 4 d ++ be 4 g ++ be 4 f ++ be 4 t ++ be 1 (sgn false) ++ rowB p ++ rowB q) = S := ⟨_, rfl⟩
  obtain ⟨S8, eS8⟩ : ∃ S, bs (rowB r) = S := ⟨_, rfl⟩
  obtain ⟨A8, eA8⟩ : ∃ S, bs (bodyB ⟨(c : Int), (d : Int), (g : Int), (f : Int), (t : Int), p, q, r, false⟩) = S := ⟨_, rfl⟩
  have ad0 := fun W => kadd (l := taly) (m := be 1 c) (by simp only [be_len]; decide) rfl (show bs taly = { data := #[84, 65, 76, 89] } from rfl) eS0 eA0 W
  have ad1 := fun W => kadd (l := taly ++ be 1 c) (m := be 4 d) (by rw [e0, be_len]; decide) rfl eA0 eS1 eA1 W
  have ad2 := fun W => kadd (l := taly ++ be 1 c ++ be 4 d) (m := be 4 g) (by rw [e1, be_len]; decide) rfl eA1 eS2 eA2 W
  have ad3 := fun W => kadd (l := taly ++ be 1 c ++ be 4 d ++ be 4 g) (m := be 4 f) (by rw [e2, be_len]; decide) rfl eA2 eS3 eA3 W
  have ad4 := fun W => kadd (l := taly ++ be 1 c ++ be 4 d ++ be 4 g ++ be 4 f) (m := be 4 t) (by rw [e3, be_len]; decide) rfl eA3 eS4 eA4 W
  have ad5 := fun W => kadd (l := taly ++ be 1 c ++ be 4 d ++ be 4 g ++ be 4 f ++ be 4 t) (m := be 1 (sgn false)) (by rw [e4, be_len]; decide) rfl eA4 eS5 eA5 W
  have ad6 := fun W => kadd (l := taly ++ be 1 c ++ be 4 d ++ be 4 g ++ be 4 f ++ be 4 t ++ be 1 (sgn false)) (m := rowB p) (by rw [e5, rowB_len]; omega) rfl eA5 eS6 eA6 W
  have ad7 := fun W => kadd (l := taly ++ be 1 c ++ be 4 d ++ be 4 g ++ be 4 f ++ be 4 t ++ be 1 (sgn false) ++ rowB p) (m := rowB q) (by rw [e6, rowB_len]; omega) rfl eA6 eS7 eA7 W
  have ad8 := fun W => kadd (l := taly ++ be 1 c ++ be 4 d ++ be 4 g ++ be 4 f ++ be 4 t ++ be 1 (sgn false) ++ rowB p ++ rowB q) (m := rowB r) (by rw [e7, rowB_len]; omega) hbody eA7 eS8 eA8 W
  have K0 := Lib.hid (fun W => kbytes c 1 (c : Int) 1 rfl rfl (by omega) (by decide) S0 eS0 W)
  have cv0 : IntKind.u64.wrap (c : Int) = (c : Int) := wrapN _ (by omega)
  have K1 := Lib.hid (fun W => kbytes d 4 (d : Int) 4 rfl rfl (by omega) (by decide) S1 eS1 W)
  have cv1 : IntKind.u64.wrap (d : Int) = (d : Int) := wrapN _ (by omega)
  have K2 := Lib.hid (fun W => kbytes g 4 (g : Int) 4 rfl rfl (by omega) (by decide) S2 eS2 W)
  have cv2 : IntKind.u64.wrap (g : Int) = (g : Int) := wrapN _ (by omega)
  have K3 := Lib.hid (fun W => kbytes f 4 (f : Int) 4 rfl rfl (by omega) (by decide) S3 eS3 W)
  have cv3 : IntKind.u64.wrap (f : Int) = (f : Int) := wrapN _ (by omega)
  have K4 := Lib.hid (fun W => kbytes t 4 (t : Int) 4 rfl rfl (by omega) (by decide) S4 eS4 W)
  have cv4 : IntKind.u64.wrap (t : Int) = (t : Int) := wrapN _ (by omega)
  have K5 := Lib.hid (fun W => kbytes (sgn false) 1 0 1 rfl rfl (by decide) (by decide) S5 eS5 W)
  have K6 : Hid (∀ W, Bl w W → Calls Tryd.prog 25 #[vp] W fun e w' => e = .returned (.string S6) ∧ Bl W w') := fun W gg => by rw [← eS6]; exact rrowBytes_any vp p o1.1 w1' W (hp.bl gg)
  have K7 : Hid (∀ W, Bl w W → Calls Tryd.prog 25 #[vq] W fun e w' => e = .returned (.string S7) ∧ Bl W w') := fun W gg => by rw [← eS7]; exact rrowBytes_any vq q o2.1 w2' W (hq.bl gg)
  have K8 : Hid (∀ W, Bl w W → Calls Tryd.prog 25 #[vt] W fun e w' => e = .returned (.string S8) ∧ Bl W w') := fun W gg => by rw [← eS8]; exact rrowBytes_any vt r o3.1 w3' W (ht.bl gg)
  have K9 := Lib.hid (fun W => kbytes (crSum (bodyB ⟨(c : Int), (d : Int), (g : Int), (f : Int), (t : Int), p, q, r, false⟩)) 4 (crSum (bodyB ⟨(c : Int), (d : Int), (g : Int), (f : Int), (t : Int), p, q, r, false⟩) : Int) 4 rfl rfl (by omega) (by decide) _ rfl W)
  have ad9 := fun W => kadd (l := bodyB ⟨(c : Int), (d : Int), (g : Int), (f : Int), (t : Int), p, q, r, false⟩) (m := be 4 (crSum (bodyB ⟨(c : Int), (d : Int), (g : Int), (f : Int), (t : Int), p, q, r, false⟩))) (by rw [be_len]; omega) hend eA8 rfl rfl W
  rw [eA8] at KSM
  obtain ⟨x, ex⟩ : ∃ x, crSum (bodyB ⟨(c : Int), (d : Int), (g : Int), (f : Int), (t : Int), p, q, r, false⟩) = x := ⟨_, rfl⟩
  obtain ⟨E, eE⟩ : ∃ E, encB ⟨(c : Int), (d : Int), (g : Int), (f : Int), (t : Int), p, q, r, false⟩ = E := ⟨_, rfl⟩
  rw [ex] at KSM hcs K9 ad9
  rw [eE] at ad9 ⊢
  have xw : IntKind.u64.wrap (x : Int) = (x : Int) := wrapN _ (by omega)
  obtain ⟨S9, eS9⟩ : ∃ S, bs (be 4 x) = S := ⟨_, rfl⟩
  rw [eS9] at K9 ad9
  obtain ⟨B0, k0, rfl, _⟩ := hp
  obtain ⟨B1, k1, rfl, _⟩ := hq
  obtain ⟨B2, k2, rfl, _⟩ := ht
  obtain ⟨n0, en0⟩ : ∃ n, p.length = n := ⟨_, rfl⟩
  obtain ⟨n1, en1⟩ : ∃ n, q.length = n := ⟨_, rfl⟩
  obtain ⟨n2, en2⟩ : ∃ n, r.length = n := ⟨_, rfl⟩
  unfold recV at KM ⊢
  dsimp only at KM ⊢
  rw [en0] at K6
  rw [en1] at K7
  rw [en2] at K8
  rw [en0, en1, en2] at KM ⊢
  clear hbl hall hend hbody h1 h2 h3 h4 o1 o2 o3 h5 h6 w1' w2' w3' cb db gb fb tb p1 p2 p3 e0 e1 e2 e3 e4 e5 e6 e7 hcs ex eE eS9 en0 en1 en2 eS0 eS1 eS2 eS3 eS4 eS5 eS6 eS7 eS8 eA0 eA1 eA2 eA3 eA4 eA5 eA6 eA7 eA8
  go_enter Tryd.func10, Tryd.ntmps10
  go_wp2_with (go_at_call 23; (with_reducible refine (KM.out _ ((Bl.refl w).alloc _)).mono ?_); rintro e w1 ⟨rfl, hb⟩; have HBX := Lib.hid (((Bl.refl w).alloc _).trans hb); have QX := Lib.hid ((Bq.new w 30 (recC (c : Int) (d : Int) (g : Int) (f : Int) (t : Int) (.slice B0 n0 k0) (.slice B1 n1 k1) (.slice B2 n2 k2) false)).bl hb); have HLT := Lib.hid QX.out.lt; have q8 := QX.out.cell 8 rfl; clear hb)
  have HC0 := Lib.hid (QX.out.cell 0 rfl)
  have HC1 := Lib.hid (QX.out.cell 1 rfl)
  have HC2 := Lib.hid (QX.out.cell 2 rfl)
  have HC3 := Lib.hid (QX.out.cell 3 rfl)
  have HC4 := Lib.hid (QX.out.cell 4 rfl)
  have HC5 := Lib.hid (QX.out.cell 5 rfl)
  have HC6 := Lib.hid (QX.out.cell 6 rfl)
  have HC7 := Lib.hid (QX.out.cell 7 rfl)
  have HQ0 : Hid ((fun w' => w'.cell? ⟨w.heap.size, 0, none⟩ = some (.int .i64 (c : Int)) ∧ w'.cell? ⟨w.heap.size, 1, none⟩ = some (.int .i64 (d : Int)) ∧ w'.cell? ⟨w.heap.size, 2, none⟩ = some (.int .i64 (g : Int)) ∧ w'.cell? ⟨w.heap.size, 3, none⟩ = some (.int .i64 (f : Int)) ∧ w'.cell? ⟨w.heap.size, 4, none⟩ = some (.int .i64 (t : Int)) ∧ w'.cell? ⟨w.heap.size, 5, none⟩ = some (.slice B0 n0 k0) ∧ w'.cell? ⟨w.heap.size, 6, none⟩ = some (.slice B1 n1 k1) ∧ w'.cell? ⟨w.heap.size, 7, none⟩ = some (.slice B2 n2 k2) ∧ w.heap.size < w'.heap.size ∧ Bl w1 w') w1) := ⟨HC0.out, HC1.out, HC2.out, HC3.out, HC4.out, HC5.out, HC6.out, HC7.out, HLT.out, Bl.refl w1⟩
  have HWk : Hid (∀ w', w'.cell? ⟨w.heap.size, 0, none⟩ = some (.int .i64 (c : Int)) ∧ w'.cell? ⟨w.heap.size, 1, none⟩ = some (.int .i64 (d : Int)) ∧ w'.cell? ⟨w.heap.size, 2, none⟩ = some (.int .i64 (g : Int)) ∧ w'.cell? ⟨w.heap.size, 3, none⟩ = some (.int .i64 (f : Int)) ∧ w'.cell? ⟨w.heap.size, 4, none⟩ = some (.int .i64 (t : Int)) ∧ w'.cell? ⟨w.heap.size, 5, none⟩ = some (.slice B0 n0 k0) ∧ w'.cell? ⟨w.heap.size, 6, none⟩ = some (.slice B1 n1 k1) ∧ w'.cell? ⟨w.heap.size, 7, none⟩ = some (.slice B2 n2 k2) ∧ w.heap.size < w'.heap.size ∧ Bl w1 w' → Bl w w') := fun w' h => HBX.out.trans h.2.2.2.2.2.2.2.2.2
  have hc0 := HC0.out
  have hc1 := HC1.out
  have hc2 := HC2.out
  have hc3 := HC3.out
  have hc4 := HC4.out
  have hc5 := HC5.out
  have hc6 := HC6.out
  have hc7 := HC7.out
  go_region_held3 (fun w' => w'.cell? ⟨w.heap.size, 0, none⟩ = some (.int .i64 (c : Int)) ∧ w'.cell? ⟨w.heap.size, 1, none⟩ = some (.int .i64 (d : Int)) ∧ w'.cell? ⟨w.heap.size, 2, none⟩ = some (.int .i64 (g : Int)) ∧ w'.cell? ⟨w.heap.size, 3, none⟩ = some (.int .i64 (f : Int)) ∧ w'.cell? ⟨w.heap.size, 4, none⟩ = some (.int .i64 (t : Int)) ∧ w'.cell? ⟨w.heap.size, 5, none⟩ = some (.slice B0 n0 k0) ∧ w'.cell? ⟨w.heap.size, 6, none⟩ = some (.slice B1 n1 k1) ∧ w'.cell? ⟨w.heap.size, 7, none⟩ = some (.slice B2 n2 k2) ∧ w.heap.size < w'.heap.size ∧ Bl w1 w')
    (first | assumption | exact HQ0.out | exact keep8 HQ0.out (Bl.refl _).drew | exact keep8 ‹_› hg)
    (first
     | (go_at_call 24; (with_reducible refine (K0.out _).mono ?_); rintro e w' ⟨rfl, hg⟩)
     | (go_at_call 24; (with_reducible refine (K1.out _).mono ?_); rintro e w' ⟨rfl, hg⟩)
     | (go_at_call 24; (with_reducible refine (K2.out _).mono ?_); rintro e w' ⟨rfl, hg⟩)
     | (go_at_call 24; (with_reducible refine (K3.out _).mono ?_); rintro e w' ⟨rfl, hg⟩)
     | (go_at_call 24; (with_reducible refine (K4.out _).mono ?_); rintro e w' ⟨rfl, hg⟩)
     | (go_at_call 24; (with_reducible refine (K5.out _).mono ?_); rintro e w' ⟨rfl, hg⟩)
     | (go_at_call 25; (with_reducible refine (K6.out _ (HWk.out _ ‹_›)).mono ?_); rintro e w' ⟨rfl, hg⟩)
     | (go_at_call 25; (with_reducible refine (K7.out _ (HWk.out _ ‹_›)).mono ?_); rintro e w' ⟨rfl, hg⟩)
     | (go_at_call 25; (with_reducible refine (K8.out _ (HWk.out _ ‹_›)).mono ?_); rintro e w' ⟨rfl, hg⟩))
  rename_i hH
  have hWE := Lib.hid hH.2.2.2.2.2.2.2.2.2
  clear hH
  go_wp2_with (first
    | (go_at_call 18; (with_reducible refine (KSM.out _).mono ?_); rintro e w8 ⟨rfl, rfl⟩)
    | (go_at_call 24; (with_reducible refine (K9.out _).mono ?_); rintro e w9 ⟨rfl, hb⟩; have G9 := Lib.hid ((HBX.out.trans hWE.out).trans hb); clear hb))
  go_ret2
  exact ⟨rfl, G9.out⟩

set_option maxRecDepth 100000 in
set_option maxHeartbeats 16000000 in
theorem rBytes_yes1 (c d g f t : Nat) (p q r : List Nat) (vp vq vt : Value) (w : World) (hp : Rw .u64 w vp p) (hq : Rw .u64 w vq q) (ht : Rw .u64 w vt r) (hw : (Rc.mk (c : Int) (d : Int) (g : Int) (f : Int) (t : Int) p q r true).Wd) (hm : (Rc.mk (c : Int) (d : Int) (g : Int) (f : Int) (t : Int) p q r true).May) :
    Calls Tryd.prog 10 #[recV ⟨(c : Int), (d : Int), (g : Int), (f : Int), (t : Int), p, q, r, true⟩ vp vq vt] w (BsEnd w (encB ⟨(c : Int), (d : Int), (g : Int), (f : Int), (t : Int), p, q, r, true⟩) 0) := by
  have KM := Lib.hid (fun w' (gg : Bl w w') => rmay_any ⟨(c : Int), (d : Int), (g : Int), (f : Int), (t : Int), p, q, r, true⟩ vp vq vt w' (hp.bl gg) (hq.bl gg) (ht.bl gg))
  rw [decide_eq_true hm] at KM
  have hbl : (bodyB ⟨(c : Int), (d : Int), (g : Int), (f : Int), (t : Int), p, q, r, true⟩).length ≤ 100000 := by rw [bodyB_len]; have h1 := hm.2.1.1.1; have h2 := hm.2.1.2.1.1; have h3 := hm.2.1.2.2.1; omega
  have hall := bodyB_all ⟨(c : Int), (d : Int), (g : Int), (f : Int), (t : Int), p, q, r, true⟩
  have hend : bodyB ⟨(c : Int), (d : Int), (g : Int), (f : Int), (t : Int), p, q, r, true⟩ ++ be 4 (crSum (bodyB ⟨(c : Int), (d : Int), (g : Int), (f : Int), (t : Int), p, q, r, true⟩)) = encB ⟨(c : Int), (d : Int), (g : Int), (f : Int), (t : Int), p, q, r, true⟩ := rfl
  have hbody : taly ++ be 1 c ++ be 4 d ++ be 4 g ++ be 4 f ++ be 4 t ++ be 1 (sgn true) ++ rowB p ++ rowB q ++ rowB r = bodyB ⟨(c : Int), (d : Int), (g : Int), (f : Int), (t : Int), p, q, r, true⟩ := by
    unfold bodyB headB rowsB
    simp only [Int.toNat_natCast, List.append_assoc]
  obtain ⟨⟨h1, h2, h3, h4⟩, ⟨o1, o2, o3⟩, h5, h6⟩ := hm
  obtain ⟨w1', w2', w3'⟩ := hw
  dsimp only at h1 h2 h3 h4 o1 o2 o3 h5 h6 w1' w2' w3'
  have cb : c ≤ 255 := by omega
  have db : d ≤ 2147483647 := by have := h1.2; omega
  have gb : g ≤ 2147483647 := by have := h2.2; omega
  have fb : f ≤ 2147483647 := by have := h3.2; omega
  have tb : t ≤ 2147483647 := by have := h4.2; omega
  have p1 := o1.1
  have p2 := o2.1
  have p3 := o3.1
  have KSM := Lib.hid (fun W => rsum_any (bodyB ⟨(c : Int), (d : Int), (g : Int), (f : Int), (t : Int), p, q, r, true⟩) hall (by omega) W)
  have hcs := crSum_lt (bodyB ⟨(c : Int), (d : Int), (g : Int), (f : Int), (t : Int), p, q, r, true⟩)
  have e0 : (taly ++ be 1 c).length = 5 := by simp only [List.length_append, be_len]; rfl
  have e1 : (taly ++ be 1 c ++ be 4 d).length = 9 := by rw [List.length_append, e0, be_len]
  have e2 : (taly ++ be 1 c ++ be 4 d ++ be 4 g).length = 13 := by rw [List.length_append, e1, be_len]
  have e3 : (taly ++ be 1 c ++ be 4 d ++ be 4 g ++ be 4 f).length = 17 := by rw [List.length_append, e2, be_len]
  have e4 : (taly ++ be 1 c ++ be 4 d ++ be 4 g ++ be 4 f ++ be 4 t).length = 21 := by rw [List.length_append, e3, be_len]
  have e5 : (taly ++ be 1 c ++ be 4 d ++ be 4 g ++ be 4 f ++ be 4 t ++ be 1 (sgn true)).length = 22 := by rw [List.length_append, e4, be_len]
  have e6 : (taly ++ be 1 c ++ be 4 d ++ be 4 g ++ be 4 f ++ be 4 t ++ be 1 (sgn true) ++ rowB p).length = 26 + 8 * p.length := by rw [List.length_append, e5, rowB_len]; omega
  have e7 : (taly ++ be 1 c ++ be 4 d ++ be 4 g ++ be 4 f ++ be 4 t ++ be 1 (sgn true) ++ rowB p ++ rowB q).length = 30 + 8 * p.length + 8 * q.length := by rw [List.length_append, e6, rowB_len]; omega
  obtain ⟨S0, eS0⟩ : ∃ S, bs (be 1 c) = S := ⟨_, rfl⟩
  obtain ⟨A0, eA0⟩ : ∃ S, bs (taly ++ be 1 c) = S := ⟨_, rfl⟩
  obtain ⟨S1, eS1⟩ : ∃ S, bs (be 4 d) = S := ⟨_, rfl⟩
  obtain ⟨A1, eA1⟩ : ∃ S, bs (taly ++ be 1 c ++ be 4 d) = S := ⟨_, rfl⟩
  obtain ⟨S2, eS2⟩ : ∃ S, bs (be 4 g) = S := ⟨_, rfl⟩
  obtain ⟨A2, eA2⟩ : ∃ S, bs (taly ++ be 1 c ++ be 4 d ++ be 4 g) = S := ⟨_, rfl⟩
  obtain ⟨S3, eS3⟩ : ∃ S, bs (be 4 f) = S := ⟨_, rfl⟩
  obtain ⟨A3, eA3⟩ : ∃ S, bs (taly ++ be 1 c ++ be 4 d ++ be 4 g ++ be 4 f) = S := ⟨_, rfl⟩
  obtain ⟨S4, eS4⟩ : ∃ S, bs (be 4 t) = S := ⟨_, rfl⟩
  obtain ⟨A4, eA4⟩ : ∃ S, bs (taly ++ be 1 c ++ be 4 d ++ be 4 g ++ be 4 f ++ be 4 t) = S := ⟨_, rfl⟩
  obtain ⟨S5, eS5⟩ : ∃ S, bs (be 1 (sgn true)) = S := ⟨_, rfl⟩
  obtain ⟨A5, eA5⟩ : ∃ S, bs (taly ++ be 1 c ++ be 4 d ++ be 4 g ++ be 4 f ++ be 4 t ++ be 1 (sgn true)) = S := ⟨_, rfl⟩
  obtain ⟨S6, eS6⟩ : ∃ S, bs (rowB p) = S := ⟨_, rfl⟩
  obtain ⟨A6, eA6⟩ : ∃ S, bs (taly ++ be 1 c ++ be 4 d ++ be 4 g ++ be 4 f ++ be 4 t ++ be 1 (sgn true) ++ rowB p) = S := ⟨_, rfl⟩
  obtain ⟨S7, eS7⟩ : ∃ S, bs (rowB q) = S := ⟨_, rfl⟩
  obtain ⟨A7, eA7⟩ : ∃ S, bs (taly ++ be 1 c ++ be 4 d ++ be 4 g ++ be 4 f ++ be 4 t ++ be 1 (sgn true) ++ rowB p ++ rowB q) = S := ⟨_, rfl⟩
  obtain ⟨S8, eS8⟩ : ∃ S, bs (rowB r) = S := ⟨_, rfl⟩
  obtain ⟨A8, eA8⟩ : ∃ S, bs (bodyB ⟨(c : Int), (d : Int), (g : Int), (f : Int), (t : Int), p, q, r, true⟩) = S := ⟨_, rfl⟩
  have ad0 := fun W => kadd (l := taly) (m := be 1 c) (by simp only [be_len]; decide) rfl (show bs taly = { data := #[84, 65, 76, 89] } from rfl) eS0 eA0 W
  have ad1 := fun W => kadd (l := taly ++ be 1 c) (m := be 4 d) (by rw [e0, be_len]; decide) rfl eA0 eS1 eA1 W
  have ad2 := fun W => kadd (l := taly ++ be 1 c ++ be 4 d) (m := be 4 g) (by rw [e1, be_len]; decide) rfl eA1 eS2 eA2 W
  have ad3 := fun W => kadd (l := taly ++ be 1 c ++ be 4 d ++ be 4 g) (m := be 4 f) (by rw [e2, be_len]; decide) rfl eA2 eS3 eA3 W
  have ad4 := fun W => kadd (l := taly ++ be 1 c ++ be 4 d ++ be 4 g ++ be 4 f) (m := be 4 t) (by rw [e3, be_len]; decide) rfl eA3 eS4 eA4 W
  have ad5 := fun W => kadd (l := taly ++ be 1 c ++ be 4 d ++ be 4 g ++ be 4 f ++ be 4 t) (m := be 1 (sgn true)) (by rw [e4, be_len]; decide) rfl eA4 eS5 eA5 W
  have ad6 := fun W => kadd (l := taly ++ be 1 c ++ be 4 d ++ be 4 g ++ be 4 f ++ be 4 t ++ be 1 (sgn true)) (m := rowB p) (by rw [e5, rowB_len]; omega) rfl eA5 eS6 eA6 W
  have ad7 := fun W => kadd (l := taly ++ be 1 c ++ be 4 d ++ be 4 g ++ be 4 f ++ be 4 t ++ be 1 (sgn true) ++ rowB p) (m := rowB q) (by rw [e6, rowB_len]; omega) rfl eA6 eS7 eA7 W
  have ad8 := fun W => kadd (l := taly ++ be 1 c ++ be 4 d ++ be 4 g ++ be 4 f ++ be 4 t ++ be 1 (sgn true) ++ rowB p ++ rowB q) (m := rowB r) (by rw [e7, rowB_len]; omega) hbody eA7 eS8 eA8 W
  have K0 := Lib.hid (fun W => kbytes c 1 (c : Int) 1 rfl rfl (by omega) (by decide) S0 eS0 W)
  have cv0 : IntKind.u64.wrap (c : Int) = (c : Int) := wrapN _ (by omega)
  have K1 := Lib.hid (fun W => kbytes d 4 (d : Int) 4 rfl rfl (by omega) (by decide) S1 eS1 W)
  have cv1 : IntKind.u64.wrap (d : Int) = (d : Int) := wrapN _ (by omega)
  have K2 := Lib.hid (fun W => kbytes g 4 (g : Int) 4 rfl rfl (by omega) (by decide) S2 eS2 W)
  have cv2 : IntKind.u64.wrap (g : Int) = (g : Int) := wrapN _ (by omega)
  have K3 := Lib.hid (fun W => kbytes f 4 (f : Int) 4 rfl rfl (by omega) (by decide) S3 eS3 W)
  have cv3 : IntKind.u64.wrap (f : Int) = (f : Int) := wrapN _ (by omega)
  have K4 := Lib.hid (fun W => kbytes t 4 (t : Int) 4 rfl rfl (by omega) (by decide) S4 eS4 W)
  have cv4 : IntKind.u64.wrap (t : Int) = (t : Int) := wrapN _ (by omega)
  have K5 := Lib.hid (fun W => kbytes (sgn true) 1 1 1 rfl rfl (by decide) (by decide) S5 eS5 W)
  have K6 : Hid (∀ W, Bl w W → Calls Tryd.prog 25 #[vp] W fun e w' => e = .returned (.string S6) ∧ Bl W w') := fun W gg => by rw [← eS6]; exact rrowBytes_any vp p o1.1 w1' W (hp.bl gg)
  have K7 : Hid (∀ W, Bl w W → Calls Tryd.prog 25 #[vq] W fun e w' => e = .returned (.string S7) ∧ Bl W w') := fun W gg => by rw [← eS7]; exact rrowBytes_any vq q o2.1 w2' W (hq.bl gg)
  have K8 : Hid (∀ W, Bl w W → Calls Tryd.prog 25 #[vt] W fun e w' => e = .returned (.string S8) ∧ Bl W w') := fun W gg => by rw [← eS8]; exact rrowBytes_any vt r o3.1 w3' W (ht.bl gg)
  have K9 := Lib.hid (fun W => kbytes (crSum (bodyB ⟨(c : Int), (d : Int), (g : Int), (f : Int), (t : Int), p, q, r, true⟩)) 4 (crSum (bodyB ⟨(c : Int), (d : Int), (g : Int), (f : Int), (t : Int), p, q, r, true⟩) : Int) 4 rfl rfl (by omega) (by decide) _ rfl W)
  have ad9 := fun W => kadd (l := bodyB ⟨(c : Int), (d : Int), (g : Int), (f : Int), (t : Int), p, q, r, true⟩) (m := be 4 (crSum (bodyB ⟨(c : Int), (d : Int), (g : Int), (f : Int), (t : Int), p, q, r, true⟩))) (by rw [be_len]; omega) hend eA8 rfl rfl W
  rw [eA8] at KSM
  obtain ⟨x, ex⟩ : ∃ x, crSum (bodyB ⟨(c : Int), (d : Int), (g : Int), (f : Int), (t : Int), p, q, r, true⟩) = x := ⟨_, rfl⟩
  obtain ⟨E, eE⟩ : ∃ E, encB ⟨(c : Int), (d : Int), (g : Int), (f : Int), (t : Int), p, q, r, true⟩ = E := ⟨_, rfl⟩
  rw [ex] at KSM hcs K9 ad9
  rw [eE] at ad9 ⊢
  have xw : IntKind.u64.wrap (x : Int) = (x : Int) := wrapN _ (by omega)
  obtain ⟨S9, eS9⟩ : ∃ S, bs (be 4 x) = S := ⟨_, rfl⟩
  rw [eS9] at K9 ad9
  obtain ⟨B0, k0, rfl, _⟩ := hp
  obtain ⟨B1, k1, rfl, _⟩ := hq
  obtain ⟨B2, k2, rfl, _⟩ := ht
  obtain ⟨n0, en0⟩ : ∃ n, p.length = n := ⟨_, rfl⟩
  obtain ⟨n1, en1⟩ : ∃ n, q.length = n := ⟨_, rfl⟩
  obtain ⟨n2, en2⟩ : ∃ n, r.length = n := ⟨_, rfl⟩
  unfold recV at KM ⊢
  dsimp only at KM ⊢
  rw [en0] at K6
  rw [en1] at K7
  rw [en2] at K8
  rw [en0, en1, en2] at KM ⊢
  clear hbl hall hend hbody h1 h2 h3 h4 o1 o2 o3 h5 h6 w1' w2' w3' cb db gb fb tb p1 p2 p3 e0 e1 e2 e3 e4 e5 e6 e7 hcs ex eE eS9 en0 en1 en2 eS0 eS1 eS2 eS3 eS4 eS5 eS6 eS7 eS8 eA0 eA1 eA2 eA3 eA4 eA5 eA6 eA7 eA8
  go_enter Tryd.func10, Tryd.ntmps10
  go_wp2_with (go_at_call 23; (with_reducible refine (KM.out _ ((Bl.refl w).alloc _)).mono ?_); rintro e w1 ⟨rfl, hb⟩; have HBX := Lib.hid (((Bl.refl w).alloc _).trans hb); have QX := Lib.hid ((Bq.new w 30 (recC (c : Int) (d : Int) (g : Int) (f : Int) (t : Int) (.slice B0 n0 k0) (.slice B1 n1 k1) (.slice B2 n2 k2) true)).bl hb); have HLT := Lib.hid QX.out.lt; have q8 := QX.out.cell 8 rfl; clear hb)
  have HC0 := Lib.hid (QX.out.cell 0 rfl)
  have HC1 := Lib.hid (QX.out.cell 1 rfl)
  have HC2 := Lib.hid (QX.out.cell 2 rfl)
  have HC3 := Lib.hid (QX.out.cell 3 rfl)
  have HC4 := Lib.hid (QX.out.cell 4 rfl)
  have HC5 := Lib.hid (QX.out.cell 5 rfl)
  have HC6 := Lib.hid (QX.out.cell 6 rfl)
  have HC7 := Lib.hid (QX.out.cell 7 rfl)
  have HQ0 : Hid ((fun w' => w'.cell? ⟨w.heap.size, 0, none⟩ = some (.int .i64 (c : Int)) ∧ w'.cell? ⟨w.heap.size, 1, none⟩ = some (.int .i64 (d : Int)) ∧ w'.cell? ⟨w.heap.size, 2, none⟩ = some (.int .i64 (g : Int)) ∧ w'.cell? ⟨w.heap.size, 3, none⟩ = some (.int .i64 (f : Int)) ∧ w'.cell? ⟨w.heap.size, 4, none⟩ = some (.int .i64 (t : Int)) ∧ w'.cell? ⟨w.heap.size, 5, none⟩ = some (.slice B0 n0 k0) ∧ w'.cell? ⟨w.heap.size, 6, none⟩ = some (.slice B1 n1 k1) ∧ w'.cell? ⟨w.heap.size, 7, none⟩ = some (.slice B2 n2 k2) ∧ w.heap.size < w'.heap.size ∧ Bl w1 w') w1) := ⟨HC0.out, HC1.out, HC2.out, HC3.out, HC4.out, HC5.out, HC6.out, HC7.out, HLT.out, Bl.refl w1⟩
  have HWk : Hid (∀ w', w'.cell? ⟨w.heap.size, 0, none⟩ = some (.int .i64 (c : Int)) ∧ w'.cell? ⟨w.heap.size, 1, none⟩ = some (.int .i64 (d : Int)) ∧ w'.cell? ⟨w.heap.size, 2, none⟩ = some (.int .i64 (g : Int)) ∧ w'.cell? ⟨w.heap.size, 3, none⟩ = some (.int .i64 (f : Int)) ∧ w'.cell? ⟨w.heap.size, 4, none⟩ = some (.int .i64 (t : Int)) ∧ w'.cell? ⟨w.heap.size, 5, none⟩ = some (.slice B0 n0 k0) ∧ w'.cell? ⟨w.heap.size, 6, none⟩ = some (.slice B1 n1 k1) ∧ w'.cell? ⟨w.heap.size, 7, none⟩ = some (.slice B2 n2 k2) ∧ w.heap.size < w'.heap.size ∧ Bl w1 w' → Bl w w') := fun w' h => HBX.out.trans h.2.2.2.2.2.2.2.2.2
  have hc0 := HC0.out
  have hc1 := HC1.out
  have hc2 := HC2.out
  have hc3 := HC3.out
  have hc4 := HC4.out
  have hc5 := HC5.out
  have hc6 := HC6.out
  have hc7 := HC7.out
  go_region_held3 (fun w' => w'.cell? ⟨w.heap.size, 0, none⟩ = some (.int .i64 (c : Int)) ∧ w'.cell? ⟨w.heap.size, 1, none⟩ = some (.int .i64 (d : Int)) ∧ w'.cell? ⟨w.heap.size, 2, none⟩ = some (.int .i64 (g : Int)) ∧ w'.cell? ⟨w.heap.size, 3, none⟩ = some (.int .i64 (f : Int)) ∧ w'.cell? ⟨w.heap.size, 4, none⟩ = some (.int .i64 (t : Int)) ∧ w'.cell? ⟨w.heap.size, 5, none⟩ = some (.slice B0 n0 k0) ∧ w'.cell? ⟨w.heap.size, 6, none⟩ = some (.slice B1 n1 k1) ∧ w'.cell? ⟨w.heap.size, 7, none⟩ = some (.slice B2 n2 k2) ∧ w.heap.size < w'.heap.size ∧ Bl w1 w')
    (first | assumption | exact HQ0.out | exact keep8 HQ0.out (Bl.refl _).drew | exact keep8 ‹_› hg)
    (first
     | (go_at_call 24; (with_reducible refine (K0.out _).mono ?_); rintro e w' ⟨rfl, hg⟩)
     | (go_at_call 24; (with_reducible refine (K1.out _).mono ?_); rintro e w' ⟨rfl, hg⟩)
     | (go_at_call 24; (with_reducible refine (K2.out _).mono ?_); rintro e w' ⟨rfl, hg⟩)
     | (go_at_call 24; (with_reducible refine (K3.out _).mono ?_); rintro e w' ⟨rfl, hg⟩)
     | (go_at_call 24; (with_reducible refine (K4.out _).mono ?_); rintro e w' ⟨rfl, hg⟩)
     | (go_at_call 24; (with_reducible refine (K5.out _).mono ?_); rintro e w' ⟨rfl, hg⟩)
     | (go_at_call 25; (with_reducible refine (K6.out _ (HWk.out _ ‹_›)).mono ?_); rintro e w' ⟨rfl, hg⟩)
     | (go_at_call 25; (with_reducible refine (K7.out _ (HWk.out _ ‹_›)).mono ?_); rintro e w' ⟨rfl, hg⟩)
     | (go_at_call 25; (with_reducible refine (K8.out _ (HWk.out _ ‹_›)).mono ?_); rintro e w' ⟨rfl, hg⟩))
  rename_i hH
  have hWE := Lib.hid hH.2.2.2.2.2.2.2.2.2
  clear hH
  go_wp2_with (first
    | (go_at_call 18; (with_reducible refine (KSM.out _).mono ?_); rintro e w8 ⟨rfl, rfl⟩)
    | (go_at_call 24; (with_reducible refine (K9.out _).mono ?_); rintro e w9 ⟨rfl, hb⟩; have G9 := Lib.hid ((HBX.out.trans hWE.out).trans hb); clear hb))
  go_ret2
  exact ⟨rfl, G9.out⟩

theorem rBytes_any (r : Rc) (vp vq vt : Value) (hw : r.Wd) (w : World) (hp : Rw .u64 w vp r.p) (hq : Rw .u64 w vq r.q) (ht : Rw .u64 w vt r.t) :
    Calls Tryd.prog 10 #[recV r vp vq vt] w (BsEnd w (if r.May then encB r else []) (if r.May then 0 else 1)) := by
  by_cases h : r.May
  · rw [if_pos h, if_pos h]
    obtain ⟨con, dgs, gua, frm, til, p, q, t, minus⟩ := r
    have h2 := h
    obtain ⟨⟨h1, h2, h3, h4⟩, _, h5, _⟩ := h2
    dsimp only at h1 h2 h3 h4 h5 hp hq ht
    obtain ⟨c, rfl⟩ : ∃ c : Nat, con = (c : Int) := ⟨con.toNat, (Int.toNat_of_nonneg h5).symm⟩
    obtain ⟨d, rfl⟩ : ∃ c : Nat, dgs = (c : Int) := ⟨dgs.toNat, (Int.toNat_of_nonneg h1.1).symm⟩
    obtain ⟨g, rfl⟩ : ∃ c : Nat, gua = (c : Int) := ⟨gua.toNat, (Int.toNat_of_nonneg h2.1).symm⟩
    obtain ⟨f, rfl⟩ : ∃ c : Nat, frm = (c : Int) := ⟨frm.toNat, (Int.toNat_of_nonneg h3.1).symm⟩
    obtain ⟨l, rfl⟩ : ∃ c : Nat, til = (c : Int) := ⟨til.toNat, (Int.toNat_of_nonneg h4.1).symm⟩
    cases minus
    · exact rBytes_yes0 c d g f l p q t vp vq vt w hp hq ht hw h
    · exact rBytes_yes1 c d g f l p q t vp vq vt w hp hq ht hw h
  · rw [if_neg h, if_neg h]; exact rBytes_no r vp vq vt w hp hq ht h
end Go.Proofs.YtpdglbfnmilblaaDoor
