/-
  Package crc: Bytes.
-/
import Derived.Test.YtpdglbfnmilblaaDoorPk35
import Derived.Test.YtpdglbfnmilblaaDoorPk16
namespace Go.Proofs.YtpdglbfnmilblaaDoor
open Go.RowKit
set_option linter.unusedVariables false
set_option linter.unusedSimpArgs false

set_option maxRecDepth 100000 in
set_option maxHeartbeats 4000000 in
theorem pBytes_no (r : Rc) (vp vq vt : Value) (hw : r.Wd) (w : World) (hp : Rw .u64 w vp r.p) (hq : Rw .u64 w vq r.q) (ht : Rw .u64 w vt r.t) (hm : ¬ r.May) :
    Calls Tryd.prog 9 #[recV r vp vq vt] w (BsEnd w [] 1) := by
  have KM := Lib.hid (fun w' (g : Bl w w') => pvalid_any r vp vq vt hw w' (hp.bl g) (hq.bl g) (ht.bl g))
  rw [decide_eq_false hm] at KM
  obtain ⟨B1, c1, rfl, _⟩ := hp
  obtain ⟨B2, c2, rfl, _⟩ := hq
  obtain ⟨B3, c3, rfl, _⟩ := ht
  unfold recV at KM ⊢
  obtain ⟨con, dgs, gua, frm, til, p, q, t, minus⟩ := r
  dsimp only at KM ⊢
  clear hm hw
  go_enter Tryd.func9, Tryd.ntmps9
  go_wp2_with (go_at_call 20; (with_reducible refine (KM.out _ ((Bl.refl w).alloc _)).mono ?_); rintro e w1 ⟨rfl, hb⟩)
  go_ret2
  exact ⟨rfl, ((Bl.refl w).alloc _).trans hb⟩

/-- The bytes ahead of row k. -/
def upto (r : Rc) : Nat → List Nat
  | 0 => taly ++ headB r
  | 1 => taly ++ headB r ++ rowB r.p
  | 2 => taly ++ headB r ++ rowB r.p ++ rowB r.q
  | _ => bodyB r
theorem upto_step (r : Rc) : upto r 0 ++ rowB r.p = upto r 1 ∧ upto r 1 ++ rowB r.q = upto r 2 ∧ upto r 2 ++ rowB r.t = upto r 3 := by
  refine ⟨rfl, rfl, ?_⟩
  show taly ++ headB r ++ rowB r.p ++ rowB r.q ++ rowB r.t = bodyB r
  unfold bodyB rowsB
  simp only [List.append_assoc]
theorem upto_len (r : Rc) (k : Nat) : (upto r k).length ≤ (bodyB r).length := by
  have e : (bodyB r).length = (taly ++ headB r).length + ((rowB r.p).length + ((rowB r.q).length + (rowB r.t).length)) := by
    unfold bodyB rowsB; simp only [List.length_append]; omega
  rw [e]
  match k with
  | 0 => exact Nat.le_add_right _ _
  | 1 => show (taly ++ headB r ++ rowB r.p).length ≤ _; simp only [List.length_append]; omega
  | 2 => show (taly ++ headB r ++ rowB r.p ++ rowB r.q).length ≤ _; simp only [List.length_append]; omega
  | k + 3 => rw [← e]; exact Nat.le_refl _
theorem head_four (r : Rc) : taly ++ headB r = taly ++ be 1 r.con.toNat ++ encL 4 [r.dgs.toNat, r.gua.toNat, r.frm.toNat, r.til.toNat] ++ be 1 (sgn r.minus) := by
  unfold headB
  show _ = taly ++ be 1 r.con.toNat ++ (be 4 r.dgs.toNat ++ (be 4 r.gua.toNat ++ (be 4 r.frm.toNat ++ (be 4 r.til.toNat ++ [])))) ++ be 1 (sgn r.minus)
  simp only [List.append_assoc, List.append_nil]
theorem bs_taly : bs taly = { data := #[84, 65, 76, 89] } := rfl

theorem idx3 (a b c : Value) (W : World) : (Instr.index 61 (.agg #[a, b, c]) (.int .i64 0)).run Tryd.prog W = .ok a W ∧ (Instr.index 61 (.agg #[a, b, c]) (.int .i64 1)).run Tryd.prog W = .ok b W ∧ (Instr.index 61 (.agg #[a, b, c]) (.int .i64 2)).run Tryd.prog W = .ok c W := ⟨by kernel_rfl, by kernel_rfl, by kernel_rfl⟩
/-- One call of 'encoded' over a literal. -/
theorem kenc1 (k x : Nat) (kk : Int) (hkk : kk = (k : Int)) (xx : Int) (hxx : xx = (x : Int)) (hk : k ≤ 8) (hx : x < 18446744073709551616) (W : World) (b : Nat) (hb : b = W.heap.size) :
    Calls Tryd.prog 21 #[.int .i64 kk, .slice (some ⟨b, 0, none⟩) 1 1] (W.alloc (.cells #[.int .u64 xx] 59)) (StEnd (W.alloc (.cells #[.int .u64 xx] 59)) (be k x)) := by
  subst hkk
  subst hxx
  have := pencoded_any k (.slice (some ⟨b, 0, none⟩) 1 1) [x] hk (by simp) (all_cons hx (all_nil _)) (W.alloc (.cells #[.int .u64 (x : Int)] 59)) (rw_lit [x] hb rfl (by decide))
  rwa [encL_one] at this
theorem kenc8 (v : Value) (l : List Nat) (hl : l.length ≤ 4096) (ha : All 18446744073709551616 l) (W : World) (h : Rw .u64 W v l) :
    Calls Tryd.prog 21 #[.int .i64 8, v] W (StEnd W (encL 8 l)) := pencoded_any 8 v l (by decide) hl ha W h
set_option maxRecDepth 100000 in
set_option maxHeartbeats 8000000 in
theorem pBytes_yes (r : Rc) (vp vq vt : Value) (hw : r.Wd) (w : World) (hp : Rw .u64 w vp r.p) (hq : Rw .u64 w vq r.q) (ht : Rw .u64 w vt r.t) (hm : r.May) :
    Calls Tryd.prog 9 #[recV r vp vq vt] w (BsEnd w (encB r) 0) := by
  have KM := Lib.hid (fun w' (g : Bl w w') => pvalid_any r vp vq vt hw w' (hp.bl g) (hq.bl g) (ht.bl g))
  rw [decide_eq_true hm] at KM
  have hbl : (bodyB r).length ≤ 100000 := by rw [bodyB_len]; have h1 := hm.2.1.1.1; have h2 := hm.2.1.2.1.1; have h3 := hm.2.1.2.2.1; omega
  have hall := bodyB_all r
  have hul := upto_len r
  have hhf : upto r 0 = taly ++ be 1 r.con.toNat ++ encL 4 [r.dgs.toNat, r.gua.toNat, r.frm.toNat, r.til.toNat] ++ be 1 (sgn r.minus) := head_four r
  obtain ⟨u1, u2, u3⟩ := upto_step r
  have hend : upto r 3 ++ be 4 (crSum (upto r 3)) = encB r := rfl
  have hl3 : upto r 3 = bodyB r := rfl
  have KZ := Lib.hid (fun W => pseal_any (upto r 3) hall (by rw [hl3]; omega) W)
  unfold recV at KM ⊢
  obtain ⟨con, dgs, gua, frm, til, p, q, t, minus⟩ := r
  obtain ⟨⟨h1, h2, h3, h4⟩, ⟨o1, o2, o3⟩, h5, h6⟩ := hm
  obtain ⟨w1, w2, w3⟩ := hw
  dsimp only at hp hq ht w1 w2 w3 h1 h2 h3 h4 o1 o2 o3 h5 h6 u1 u2 u3 hhf KM ⊢
  obtain ⟨c, rfl⟩ : ∃ c : Nat, con = (c : Int) := ⟨con.toNat, (Int.toNat_of_nonneg h5).symm⟩
  obtain ⟨d, rfl⟩ : ∃ c : Nat, dgs = (c : Int) := ⟨dgs.toNat, (Int.toNat_of_nonneg h1.1).symm⟩
  obtain ⟨g, rfl⟩ : ∃ c : Nat, gua = (c : Int) := ⟨gua.toNat, (Int.toNat_of_nonneg h2.1).symm⟩
  obtain ⟨f, rfl⟩ : ∃ c : Nat, frm = (c : Int) := ⟨frm.toNat, (Int.toNat_of_nonneg h3.1).symm⟩
  obtain ⟨l, rfl⟩ : ∃ c : Nat, til = (c : Int) := ⟨til.toNat, (Int.toNat_of_nonneg h4.1).symm⟩
  have cb : c ≤ 255 := by omega
  have db : d ≤ 2147483647 := by have := h1.2; omega
  have gb : g ≤ 2147483647 := by have := h2.2; omega
  have fb : f ≤ 2147483647 := by have := h3.2; omega
  have lb : l ≤ 2147483647 := by have := h4.2; omega
  simp only [Int.toNat_natCast] at hhf
  obtain ⟨m, em⟩ : ∃ m, sgn minus = m := ⟨_, rfl⟩
  have mb : m < 256 := by rw [← em]; exact sgn_lt _
  rw [em] at hhf
  have K1 := Lib.hid (kenc1 1 c 1 rfl c rfl (by decide) (by omega))
  have K2 : Hid (∀ (W : World) (b : Nat), b = W.heap.size → Calls Tryd.prog 21 #[.int .i64 4, .slice (some ⟨b, 0, none⟩) 4 4] (W.alloc (.cells #[.int .u64 (d : Int), .int .u64 (g : Int), .int .u64 (f : Int), .int .u64 (l : Int)] 59)) (StEnd (W.alloc (.cells #[.int .u64 (d : Int), .int .u64 (g : Int), .int .u64 (f : Int), .int .u64 (l : Int)] 59)) (encL 4 [d, g, f, l]))) :=
    fun W b hb => pencoded_any 4 (.slice (some ⟨b, 0, none⟩) 4 4) [d, g, f, l] (by decide) (by simp) (all_cons (by omega) (all_cons (by omega) (all_cons (by omega) (all_cons (by omega) (all_nil _))))) _ (rw_lit [d, g, f, l] hb rfl (by decide))
  have K3 := Lib.hid (fun mm h => kenc1 1 m 1 rfl mm h (by decide) (by omega))
  have KP4 := Lib.hid (kenc1 4 p.length 4 rfl _ rfl (by decide) (by have := o1.1; omega))
  have KQ4 := Lib.hid (kenc1 4 q.length 4 rfl _ rfl (by decide) (by have := o2.1; omega))
  have KT4 := Lib.hid (kenc1 4 t.length 4 rfl _ rfl (by decide) (by have := o3.1; omega))
  have KP8 := Lib.hid (fun W (h : Rw .u64 W vp p) => kenc8 vp p o1.1 w1 W h)
  have KQ8 := Lib.hid (fun W (h : Rw .u64 W vq q) => kenc8 vq q o2.1 w2 W h)
  have KT8 := Lib.hid (fun W (h : Rw .u64 W vt t) => kenc8 vt t o3.1 w3 W h)
  have HP := Lib.hid hp
  have HQ := Lib.hid hq
  have HT := Lib.hid ht
  have z1 : (be 1 c).length = 1 := be_len _ _
  have z2 : (encL 4 [d, g, f, l]).length = 16 := encL_len _ _
  have z3 : (be 1 m).length = 1 := be_len _ _
  have z0 : taly.length = 4 := rfl
  have s1 := fun W => bs_sum (l := taly) (m := be 1 c) (by omega) W
  have s2 := fun W => bs_sum (l := taly ++ be 1 c) (m := encL 4 [d, g, f, l]) (by rw [List.length_append]; omega) W
  have s3 := fun W => bs_sum (l := taly ++ be 1 c ++ encL 4 [d, g, f, l]) (m := be 1 m) (by rw [List.length_append, List.length_append]; omega) W
  rw [← hhf] at s3
  rw [bs_taly] at s1
  obtain ⟨N2, eN2⟩ : ∃ N, taly ++ be 1 c ++ encL 4 [d, g, f, l] = N := ⟨_, rfl⟩
  rw [eN2] at s2 s3
  obtain ⟨N1, eN1⟩ : ∃ N, taly ++ be 1 c = N := ⟨_, rfl⟩
  rw [eN1] at s1 s2
  have y1 : (be 4 p.length ++ encL 8 p) = rowB p := by rw [encL_words]; rfl
  have y2 : (be 4 q.length ++ encL 8 q) = rowB q := by rw [encL_words]; rfl
  have y3 : (be 4 t.length ++ encL 8 t) = rowB t := by rw [encL_words]; rfl
  have zp : (be 4 p.length).length + (encL 8 p).length ≤ 40000 := by rw [be_len, encL_len]; have := o1.1; omega
  have zq : (be 4 q.length).length + (encL 8 q).length ≤ 40000 := by rw [be_len, encL_len]; have := o2.1; omega
  have zt : (be 4 t.length).length + (encL 8 t).length ≤ 40000 := by rw [be_len, encL_len]; have := o3.1; omega
  have xp := fun W => bs_sum (l := be 4 p.length) (m := encL 8 p) (by omega) W
  have xq := fun W => bs_sum (l := be 4 q.length) (m := encL 8 q) (by omega) W
  have xt := fun W => bs_sum (l := be 4 t.length) (m := encL 8 t) (by omega) W
  rw [← List.length_append, y1] at zp
  rw [← List.length_append, y2] at zq
  rw [← List.length_append, y3] at zt
  rw [y1] at xp
  rw [y2] at xq
  rw [y3] at xt
  have n0 := hul 0
  have n1 := hul 1
  have n2 := hul 2
  have n3 := hul 3
  have xp2 := fun W => bs_sum (l := upto ⟨c, d, g, f, l, p, q, t, minus⟩ 0) (m := rowB p) (by omega) W
  have xq2 := fun W => bs_sum (l := upto ⟨c, d, g, f, l, p, q, t, minus⟩ 1) (m := rowB q) (by omega) W
  have xt2 := fun W => bs_sum (l := upto ⟨c, d, g, f, l, p, q, t, minus⟩ 2) (m := rowB t) (by omega) W
  rw [u1] at xp2
  rw [u2] at xq2
  rw [u3] at xt2
  have xz := fun W => bs_sum (l := upto ⟨c, d, g, f, l, p, q, t, minus⟩ 3) (m := be 4 (crSum (upto ⟨c, d, g, f, l, p, q, t, minus⟩ 3))) (by rw [be_len]; omega) W
  rw [hend] at xz
  obtain ⟨E, hE⟩ : ∃ E, encB ⟨c, d, g, f, l, p, q, t, minus⟩ = E := ⟨_, rfl⟩
  rw [hE] at xz ⊢
  clear hend hE
  obtain ⟨U, hU⟩ : ∃ U, upto ⟨c, d, g, f, l, p, q, t, minus⟩ = U := ⟨_, rfl⟩
  rw [hU] at s3 xp2 xq2 xt2 xz KZ
  have c1 : IntKind.u64.wrap (c : Int) = (c : Int) := wrapN _ (by omega)
  have c2 : IntKind.u64.wrap (d : Int) = (d : Int) := wrapN _ (by omega)
  have c3 : IntKind.u64.wrap (g : Int) = (g : Int) := wrapN _ (by omega)
  have c4 : IntKind.u64.wrap (f : Int) = (f : Int) := wrapN _ (by omega)
  have c5 : IntKind.u64.wrap (l : Int) = (l : Int) := wrapN _ (by omega)
  have c6 : IntKind.u64.wrap (p.length : Int) = (p.length : Int) := wrapN _ (by have := o1.1; omega)
  have c7 : IntKind.u64.wrap (q.length : Int) = (q.length : Int) := wrapN _ (by have := o2.1; omega)
  have c8 : IntKind.u64.wrap (t.length : Int) = (t.length : Int) := wrapN _ (by have := o3.1; omega)
  obtain ⟨A1, k1, rfl, _⟩ := hp
  obtain ⟨A2, k2, rfl, _⟩ := hq
  obtain ⟨A3, k3, rfl, _⟩ := ht
  have pb : (p.length : Int) ≤ 4096 := by have := o1.1; omega
  have qb : (q.length : Int) ≤ 4096 := by have := o2.1; omega
  have tb : (t.length : Int) ≤ 4096 := by have := o3.1; omega
  obtain ⟨P, eP⟩ : ∃ P, p.length = P := ⟨_, rfl⟩
  obtain ⟨Q, eQ⟩ : ∃ P, q.length = P := ⟨_, rfl⟩
  obtain ⟨T, eT⟩ : ∃ P, t.length = P := ⟨_, rfl⟩
  rw [eP] at KP4 KP8 HP xp c6 pb KM
  rw [eQ] at KQ4 KQ8 HQ xq c7 qb KM
  rw [eT] at KT4 KT8 HT xt c8 tb KM
  rw [eP, eQ, eT]
  have B0 := Lib.hid (Bq.new w 30 (recC c d g f l (.slice A1 P k1) (.slice A2 Q k2) (.slice A3 T k3) minus))
  have G0 := Lib.hid ((Bl.refl w).alloc (.cells (recC c d g f l (.slice A1 P k1) (.slice A2 Q k2) (.slice A3 T k3) minus).toArray 30))
  clear hbl hall hul hhf u1 u2 u3 hl3 h1 h2 h3 h4 o1 o2 o3 h5 h6 w1 w2 w3 cb db gb fb lb mb z1 z2 z3 z0 eN2 eN1 y1 y2 y3 zp zq zt n0 n1 n2 n3 hU eP eQ eT
  have i0 := fun W => (idx3 (.slice A1 P k1) (.slice A2 Q k2) (.slice A3 T k3) W).1
  have i1 := fun W => (idx3 (.slice A1 P k1) (.slice A2 Q k2) (.slice A3 T k3) W).2.1
  have i2 := fun W => (idx3 (.slice A1 P k1) (.slice A2 Q k2) (.slice A3 T k3) W).2.2
  cases minus
  all_goals first
    | have E3 : Hid ((0 : Int) = (m : Int)) := (by show _ = _; rw [← em]; rfl)
    | have E3 : Hid ((1 : Int) = (m : Int)) := (by show _ = _; rw [← em]; rfl)
  all_goals
    clear em
    go_enter Tryd.func9, Tryd.ntmps9
    go_wp2_with (first
      | (go_at_call 20; (with_reducible refine (KM.out _ ((Bl.refl w).alloc _)).mono ?_); rintro e w1 ⟨rfl, hb⟩; have G1 := Lib.hid (G0.out.trans hb); have B1 := Lib.hid (B0.out.bl hb); have q8 := B1.out.cell 8 rfl; have q0 := B1.out.cell 0 rfl; clear hb)
      | (go_at_call 21; (with_reducible refine (K1.out _ _ rfl).mono ?_); rintro e w2 ⟨rfl, hb⟩; have G2 := Lib.hid ((G1.out.alloc _).trans hb); have B2 := Lib.hid ((B1.out.alloc _).bl hb); have q1 := B2.out.cell 1 rfl; have q2 := B2.out.cell 2 rfl; have q3 := B2.out.cell 3 rfl; have q4 := B2.out.cell 4 rfl; clear hb)
      | (go_at_call 21; (with_reducible refine (K2.out _ _ rfl).mono ?_); rintro e w3 ⟨rfl, hb⟩; have G3 := Lib.hid ((G2.out.alloc _).trans hb); have B3 := Lib.hid ((B2.out.alloc _).bl hb); clear hb)
      | (go_at_call 21; (with_reducible refine (K3.out _ E3.out _ _ rfl).mono ?_); rintro e w4 ⟨rfl, hb⟩; have G4 := Lib.hid ((G3.out.alloc _).trans hb); have B4 := Lib.hid ((B3.out.alloc _).bl hb); have q5 := B4.out.cell 5 rfl; have q6 := B4.out.cell 6 rfl; have q7 := B4.out.cell 7 rfl; clear hb))
    go_loopw [5, 58] (fun sv iv wr => ∃ k : Nat, k ≤ 3 ∧ iv = .int .i64 (k : Int) ∧ sv = .string (bs (U k)) ∧ Hid (Bl w wr)) (fun _ iv _ => 3 - (intOf iv).toNat)
    case atStart => exact ⟨0, by omega, rfl, rfl, G4⟩
    case round =>
      obtain ⟨k, hk, rfl, rfl, G5⟩ := hrel
      have hways : k = 0 ∨ k = 1 ∨ k = 2 ∨ k = 3 := by omega
      rcases hways with rfl | rfl | rfl | rfl
      · have HR := Lib.hid (HP.out.bl G5.out)
        go_wp2_with (first
          | (go_at_call 21; (with_reducible refine (KP4.out _ _ rfl).mono ?_); rintro e w6 ⟨rfl, hb⟩; have G6 := Lib.hid ((G5.out.alloc _).trans hb); have R6 := Lib.hid ((HR.out.bl ((Bl.refl _).alloc _)).bl hb); clear hb)
          | (go_at_call 21; (with_reducible refine (KP8.out _ R6.out).mono ?_); rintro e w7 ⟨rfl, hb⟩; have G7 := Lib.hid (G6.out.trans hb); clear hb))
        go_roundw
        case rel => exact ⟨1, by omega, rfl, rfl, G7⟩
        case measure => simp [intOf] <;> omega
      · have HR := Lib.hid (HQ.out.bl G5.out)
        go_wp2_with (first
          | (go_at_call 21; (with_reducible refine (KQ4.out _ _ rfl).mono ?_); rintro e w6 ⟨rfl, hb⟩; have G6 := Lib.hid ((G5.out.alloc _).trans hb); have R6 := Lib.hid ((HR.out.bl ((Bl.refl _).alloc _)).bl hb); clear hb)
          | (go_at_call 21; (with_reducible refine (KQ8.out _ R6.out).mono ?_); rintro e w7 ⟨rfl, hb⟩; have G7 := Lib.hid (G6.out.trans hb); clear hb))
        go_roundw
        case rel => exact ⟨2, by omega, rfl, rfl, G7⟩
        case measure => simp [intOf] <;> omega
      · have HR := Lib.hid (HT.out.bl G5.out)
        go_wp2_with (first
          | (go_at_call 21; (with_reducible refine (KT4.out _ _ rfl).mono ?_); rintro e w6 ⟨rfl, hb⟩; have G6 := Lib.hid ((G5.out.alloc _).trans hb); have R6 := Lib.hid ((HR.out.bl ((Bl.refl _).alloc _)).bl hb); clear hb)
          | (go_at_call 21; (with_reducible refine (KT8.out _ R6.out).mono ?_); rintro e w7 ⟨rfl, hb⟩; have G7 := Lib.hid (G6.out.trans hb); clear hb))
        go_roundw
        case rel => exact ⟨3, by omega, rfl, rfl, G7⟩
        case measure => simp [intOf] <;> omega
      · go_wp2_with (go_at_call 22; (with_reducible refine (KZ.out _).mono ?_); rintro e w6 ⟨rfl, hb⟩; have G6 := Lib.hid (G5.out.trans hb); clear hb)
        go_ret2
        exact ⟨rfl, G6.out⟩

theorem pBytes_any (r : Rc) (vp vq vt : Value) (hw : r.Wd) (w : World) (hp : Rw .u64 w vp r.p) (hq : Rw .u64 w vq r.q) (ht : Rw .u64 w vt r.t) :
    Calls Tryd.prog 9 #[recV r vp vq vt] w (BsEnd w (if r.May then encB r else []) (if r.May then 0 else 1)) := by
  by_cases h : r.May
  · rw [if_pos h, if_pos h]; exact pBytes_yes r vp vq vt hw w hp hq ht h
  · rw [if_neg h, if_neg h]; exact pBytes_no r vp vq vt hw w hp hq ht h
end Go.Proofs.YtpdglbfnmilblaaDoor
