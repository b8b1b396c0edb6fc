/-
  Package trio: mix: two halves of a block become one, in place.
-/
import Derived.Test.YtiainhbkoehhjaaDoorPk8
import Derived.Test.YtiainhbkoehhjaaDoorPk9
namespace Go.Proofs.YtiainhbkoehhjaaDoor
open Go.RowKit
set_option linter.unusedVariables false
set_option linter.unusedSimpArgs false

/-- A row whose places from a on, and as many from a + h on, have been mixed. -/
def mx (F G : Nat → Nat) (a h i p : Nat) : Nat := if (a ≤ p ∧ p < a + i) ∨ (a + h ≤ p ∧ p < a + h + i) then G p else F p
theorem mx_zero (F G : Nat → Nat) (a h p : Nat) : mx F G a h 0 p = F p := if_neg (by omega)
theorem mx_at {F G : Nat → Nat} {a h i : Nat} (hi : i < h) : mx F G a h i (a + i) = F (a + i) ∧ mx F G a h i (a + h + i) = F (a + h + i) := ⟨if_neg (by omega), if_neg (by omega)⟩
theorem mx_next {F G : Nat → Nat} {a h i : Nat} (hi : i < h) : mx F G a h (i + 1) (a + i) = G (a + i) ∧ mx F G a h (i + 1) (a + h + i) = G (a + h + i) ∧ ∀ p, p ≠ a + i → p ≠ a + h + i → mx F G a h (i + 1) p = mx F G a h i p := by
  refine ⟨if_pos (by omega), if_pos (by omega), fun p h1 h2 => ?_⟩
  unfold mx
  by_cases h3 : (a ≤ p ∧ p < a + i) ∨ (a + h ≤ p ∧ p < a + h + i)
  · rw [if_pos h3, if_pos (by omega)]
  · rw [if_neg h3, if_neg (by omega)]
/-- Two stores in one row of a function. -/
theorem ml_set2 {N i j : Nat} {F G : Nat → Nat} (h : ∀ p, p < N → p ≠ i → p ≠ j → G p = F p) (hij : i ≠ j) : ((ml N F).set i (G i)).set j (G j) = ml N G := by
  apply List.ext_getElem
  · simp [ml]
  · intro p p1 p2
    have hp : p < N := by rw [ml_length] at p2; exact p2
    rw [List.getElem_set, List.getElem_set, ml_get, ml_get]
    by_cases a1 : j = p
    · rw [if_pos a1, a1]
    · rw [if_neg a1]
      by_cases a2 : i = p
      · rw [if_pos a2, a2]
      · rw [if_neg a2, h p hp (fun e => a2 e.symm) (fun e => a1 e.symm)]
theorem mix_num (m x y : Nat) (hm : m < 2147483648) (hx : x < m) (hy : y < m) : ∃ s1 s2 s3 r1 r2 : Nat, (x : Int) + (y : Int) = (s1 : Int) ∧ (x : Int) + (m : Int) = (s2 : Int) ∧ (s2 : Int) - (y : Int) = (s3 : Int) ∧ s1 < 4294967296 ∧ s2 < 4294967296 ∧ s3 < 4294967296 ∧ bel m s1 = r1 ∧ bel m s3 = r2 ∧ x + y = s1 ∧ x + m - y = s3 :=
  ⟨x + y, x + m, x + m - y, _, _, by omega, by omega, by omega, by omega, by omega, by omega, rfl, rfl, rfl, rfl⟩

theorem keepMs {w0 W : World} {g b : Nat} {c : Value} (hne : b ≠ g) (h : W.cell? ⟨b, 0, none⟩ = some c ∧ Og g w0 W) (i : Nat) (u : Value) : (W.setCell ⟨g, i, none⟩ u).cell? ⟨b, 0, none⟩ = some c ∧ Og g w0 (W.setCell ⟨g, i, none⟩ u) :=
  ⟨(World.cell?_setCell_other _ _ _ _ (fun e => hne (congrArg Addr.block e).symm)).trans h.1, h.2.setCell i u⟩

set_option maxRecDepth 100000 in
set_option maxHeartbeats 4000000 in
theorem mix_any {m n o s : Nat} (pm : Pm m n o s) (W : World) (g a h N C1 C2 C3 pb po : Nat) (F G P : Nat → Nat) (hb : Bk .u32 25 W g (ml N F)) (hP : ∀ j, j < h → W.cell? ⟨pb, po + j, none⟩ = some (.int .u32 ((P j : Nat) : Int))) (hpb : pb < W.heap.size) (hpg : pb ≠ g)
    (hN : a + h + h ≤ N) (hNb : N ≤ 1048576) (hF : ∀ p, F p < m) (hPm : ∀ j, P j < m) (hG1 : ∀ j, j < h → G (a + j) = bel m (F (a + j) + rd m (F (a + h + j) * P j))) (hG2 : ∀ j, j < h → G (a + h + j) = bel m (F (a + j) + m - rd m (F (a + h + j) * P j))) :
    Calls Tryd.prog 74 #[frm m n o s, .slice (some ⟨g, a, none⟩) h C1, .slice (some ⟨g, a + h, none⟩) h C2, .slice (some ⟨pb, po, none⟩) h C3] W fun e w => e = .returned (.tuple #[]) ∧ Bk .u32 25 w g (ml N (mx F G a h h)) ∧ Og g W w := by
  have hgW := hb.lt
  have HB := Lib.hid hb
  have HP := Lib.hid hP
  have HPM := Lib.hid pm
  have HN := Lib.hid hN
  have HF := Lib.hid hF
  have HQ := Lib.hid hPm
  have H1 := Lib.hid hG1
  have H2 := Lib.hid hG2
  have HPB := Lib.hid hpb
  have HPG := Lib.hid hpg
  have HGW := Lib.hid hgW
  have hhb : (h : Int) ≤ 1048576 := by omega
  have F0 := Lib.hid (four_box W (.int .u32 (m : Int)) (.int .u32 (n : Int)) (.int .u32 (o : Int)) (.int .u32 (s : Int)) 77)
  clear hb hP hpb hpg hN hNb hF hPm hG1 hG2 pm hgW
  unfold frm
  go_enter Tryd.func74, Tryd.ntmps74
  go_wp2
  obtain ⟨W1, hW1⟩ : ∃ W1, W.alloc (.cells #[.int .u32 (m : Int), .int .u32 (n : Int), .int .u32 (o : Int), .int .u32 (s : Int)] 77) = W1 := ⟨_, rfl⟩
  have hO1 : Hid (Og g W W1) := by rw [← hW1]; exact Og.of_bl ((Bl.refl W).alloc _)
  have hB1 : Hid (Bk .u32 25 W1 g (ml N F)) := by rw [← hW1]; exact HB.out.bl ((Bl.refl W).alloc _)
  have hS1 : Hid (W1.heap.size = W.heap.size + 1) := by rw [← hW1]; exact World.size_alloc _ _
  rw [hW1] at F0 ⊢
  have hP1 : Hid (∀ w, Og g W1 w → ∀ j, j < h → w.cell? ⟨pb, po + j, none⟩ = some (.int .u32 ((P j : Nat) : Int))) := fun w ho j hj => (ho.cell (p := ⟨pb, po + j, none⟩) (by have := HPB.out; have := hS1.out; show pb < _; omega) HPG.out).trans (by rw [← hW1]; exact (((Bl.refl W).alloc _).cell (p := ⟨pb, po + j, none⟩) HPB.out).trans (HP.out j hj))
  have F1 : Hid (∀ w, Og g W1 w → Four W.heap.size (.int .u32 (m : Int)) (.int .u32 (n : Int)) (.int .u32 (o : Int)) (.int .u32 (s : Int)) w) := fun w ho => F0.out.og ho (by have := HGW.out; omega)
  clear HB HP hW1 F0
  go_loopw [14] (fun sv wr => ∃ i : Nat, i ≤ h ∧ sv = .int .i64 (i : Int) ∧ Hid (Bk .u32 25 wr g (ml N (mx F G a h i))) ∧ Hid (Og g W1 wr)) (fun sv _ => h - (intOf sv).toNat)
  case atStart => exact ⟨0, Nat.zero_le _, rfl, (by show Bk _ _ _ _ _; rw [ml_congr (fun p _ => mx_zero F G a h p)]; exact hB1.out), Og.refl _ _⟩
  case round =>
    obtain ⟨i, hih, rfl, hbk, ho⟩ := hrel
    by_cases hlt : i < h
    · have l1 : a + i < N := by have := HN.out; omega
      have l2 : a + h + i < N := by have := HN.out; omega
      have e1 := (mx_at (F := F) (G := G) (a := a) hlt)
      have e2 := (mx_next (F := F) (G := G) (a := a) hlt)
      have qp := hP1.out wr ho.out i hlt
      have q1 := hbk.out.cell (a + i) (by rw [ml_length]; exact l1)
      have q2 := hbk.out.cell (a + h + i) (by rw [ml_length]; exact l2)
      rw [ml_get, e1.1] at q1
      rw [ml_get, e1.2] at q2
      obtain ⟨x, hx⟩ : ∃ x, F (a + i) = x := ⟨_, rfl⟩
      obtain ⟨z, hz⟩ : ∃ x, F (a + h + i) = x := ⟨_, rfl⟩
      obtain ⟨v, hv⟩ : ∃ x, P i = x := ⟨_, rfl⟩
      have hxm : x < m := hx ▸ HF.out _
      have hzm : z < m := hz ▸ HF.out _
      have hvm : v < m := hv ▸ HQ.out _
      have hmb := HPM.out.hi
      have g1 := H1.out i hlt
      have g2 := H2.out i hlt
      rw [hx, hz, hv] at g1 g2
      rw [hx] at q1
      rw [hz] at q2
      rw [hv] at qp
      have MM := Lib.hid (fun w => mmul_any HPM.out z v (by omega) (by omega) (prod_lt m z v (by omega) hvm) w)
      have hym := rd_lt m (z * v) (by omega)
      obtain ⟨y, hy⟩ : ∃ y, rd m (z * v) = y := ⟨_, rfl⟩
      rw [hy] at MM hym g1 g2
      obtain ⟨s1, s2, s3, r1, r2, n1, n2, n3, b1, b2, b3, d1, d2, k1, k2⟩ := mix_num m x y hmb hxm hym
      have K1 := Lib.hid (fun w => tbelow_any m s1 (by omega) b1 w)
      have K2 := Lib.hid (fun w => tbelow_any m s3 (by omega) b3 w)
      rw [d1] at K1
      rw [d2] at K2
      rw [k1, d1] at g1
      rw [k2, d2] at g2
      obtain ⟨pl, hpl⟩ : ∃ p, a + i = p := ⟨_, rfl⟩
      obtain ⟨ph, hph⟩ : ∃ p, a + h + i = p := ⟨_, rfl⟩
      have hne : pl ≠ ph := by omega
      rw [hpl] at l1 q1 e2 g1
      rw [hph] at l2 q2 e2 g2
      have f1 : Hid (∀ w, Bk .u32 25 w g (ml N (mx F G a h i)) → w.frozen? ⟨g, pl, none⟩ = false ∧ w.frozen? ⟨g, ph, none⟩ = false ∧ (w.setCell ⟨g, pl, none⟩ (.int .u32 (r1 : Int))).cell? ⟨g, ph, none⟩ = some (.int .u32 (z : Int)) ∧ w.cell? ⟨g, pl, none⟩ = some (.int .u32 (x : Int)) ∧ w.cell? ⟨g, ph, none⟩ = some (.int .u32 (z : Int)) ∧ Bk .u32 25 ((w.setCell ⟨g, pl, none⟩ (.int .u32 (r1 : Int))).setCell ⟨g, ph, none⟩ (.int .u32 (r2 : Int))) g (ml N (mx F G a h (i + 1)))) := by
        intro w hw
        have c1 := hw.cell pl (by rw [ml_length]; exact l1)
        have c2 := hw.cell ph (by rw [ml_length]; exact l2)
        rw [ml_get, ← hpl, e1.1, hx, hpl] at c1
        rw [ml_get, ← hph, e1.2, hz, hph] at c2
        refine ⟨hw.free _, hw.free _, (World.cell?_setCell_other _ _ _ _ (fun e => hne (congrArg Addr.off e))).trans c2, c1, c2, ?_⟩
        have hs := (hw.set pl r1 (by rw [ml_length]; exact l1)).set ph r2 (by rw [List.length_set, ml_length]; exact l2)
        have hr1 : r1 = mx F G a h (i + 1) pl := by rw [e2.1, g1]
        have hr2 : r2 = mx F G a h (i + 1) ph := by rw [e2.2.1, g2]
        have hl : ((ml N (mx F G a h i)).set pl r1).set ph r2 = ml N (mx F G a h (i + 1)) := by
          rw [hr1, hr2]
          exact ml_set2 (fun p _ h1 h2 => e2.2.2 p h1 h2) hne
        rw [hl] at hs
        exact hs
      have rw1 : IntKind.u32.wrap (s1 : Int) = (s1 : Int) := IntWalk.u32_in _ (by omega)
      have rw2 : IntKind.u32.wrap (s2 : Int) = (s2 : Int) := IntWalk.u32_in _ (by omega)
      have rw3 : IntKind.u32.wrap (s3 : Int) = (s3 : Int) := IntWalk.u32_in _ (by omega)
      have rw4 : (s1 : Int) % 4294967296 = (s1 : Int) := by omega
      have rw5 : (s2 : Int) % 4294967296 = (s2 : Int) := by omega
      have rw6 : (s3 : Int) % 4294967296 = (s3 : Int) := by omega
      have j1 : (0 : Int) ≤ (i : Int) ∧ (i : Int) < (h : Int) := by omega
      have FF := Lib.hid (F1.out wr ho.out)
      have hsz : W.heap.size < wr.heap.size := FF.out.2.2.2.2
      obtain ⟨k0, k1', k2', k3, kb⟩ := F1.out wr ho.out
      have HC : Hid (∀ w', Gr wr w' → w'.cell? ⟨W.heap.size, 0, none⟩ = some (.int .u32 (m : Int)) ∧ w'.cell? ⟨W.heap.size, 1, none⟩ = some (.int .u32 (n : Int)) ∧ w'.cell? ⟨W.heap.size, 2, none⟩ = some (.int .u32 (o : Int)) ∧ w'.cell? ⟨W.heap.size, 3, none⟩ = some (.int .u32 (s : Int)) ∧ w'.cell? ⟨g, pl, none⟩ = some (.int .u32 (x : Int)) ∧ w'.cell? ⟨g, ph, none⟩ = some (.int .u32 (z : Int)) ∧ Gr wr w') := fun w' hg => ⟨(hg.cell _ _ kb).trans k0, (hg.cell _ _ kb).trans k1', (hg.cell _ _ kb).trans k2', (hg.cell _ _ kb).trans k3, (hg.cell _ _ hbk.out.lt).trans q1, (hg.cell _ _ hbk.out.lt).trans q2, hg⟩
      unfold frm at MM
      subst hpl hph
      clear hx hz hv hxm hzm hvm hmb g1 g2 hym hy d1 d2 k1 k2 b1 b2 b3 hne l1 l2 e1 e2 hsz FF k0 k1' k2' k3 kb q1 q2
      go_wp2
      go_region_held3 (fun w' => w'.cell? ⟨W.heap.size, 0, none⟩ = some (.int .u32 (m : Int)) ∧ w'.cell? ⟨W.heap.size, 1, none⟩ = some (.int .u32 (n : Int)) ∧ w'.cell? ⟨W.heap.size, 2, none⟩ = some (.int .u32 (o : Int)) ∧ w'.cell? ⟨W.heap.size, 3, none⟩ = some (.int .u32 (s : Int)) ∧ w'.cell? ⟨g, a + i, none⟩ = some (.int .u32 (x : Int)) ∧ w'.cell? ⟨g, a + h + i, none⟩ = some (.int .u32 (z : Int)) ∧ Gr wr w')
        (first | assumption | exact HC.out _ ((Gr.refl _).drew) | exact HC.out _ (((Gr.refl _).drew).trans hg))
        (first
         | (go_at_call 59; (with_reducible refine (MM.out _).mono ?_); rintro e w2 ⟨rfl, hg⟩))
      rename_i hH
      obtain ⟨k0, _, _, _, _, _, hg2⟩ := hH
      have hbk2 := hbk.out.bl hg2.1
      have HO2 := Lib.hid (((ho.out.trans (Og.of_bl hg2.1)).setCell (a + i) (.int .u32 (r1 : Int))).setCell (a + h + i) (.int .u32 (r2 : Int)))
      obtain ⟨q1, q2, q3, q4, q5, q6⟩ := f1.out _ hbk2
      have HBK := Lib.hid q6
      have HNE : Hid (W.heap.size ≠ g) := by have := HGW.out; show ¬ _; omega
      clear hg2 hg hbk2 q6 f1 HC MM qp
      go_wp2
      go_region_held3 (fun w' => w'.cell? ⟨W.heap.size, 0, none⟩ = some (.int .u32 (m : Int)) ∧ Og g w2 w')
        (first | assumption | exact ⟨k0, (Og.refl _ _).drew⟩ | exact keepMs HNE.out ‹_› _ _ | exact keepMs HNE.out (keepMs HNE.out ‹_› _ _) _ _)
        (first
         | (go_at_call 68; (with_reducible refine (K1.out _).mono ?_); rintro e w' ⟨rfl, rfl⟩)
         | (go_at_call 68; (with_reducible refine (K2.out _).mono ?_); rintro e w' ⟨rfl, rfl⟩))
      go_wp2
      go_roundw
      case rel => exact ⟨i + 1, hlt, by go_num, HBK.out.drew, HO2.out.drew⟩
      case measure => simp [intOf] <;> omega
    · have hin' : i = h := by omega
      subst hin'
      go_wp2
      go_end0
      exact ⟨rfl, hbk.out, hO1.out.trans ho.out⟩
end Go.Proofs.YtiainhbkoehhjaaDoor
