/-
  Package trio: Times.
-/
import Derived.Test.YtiainhbkoehhjaaDoorPk38
namespace Go.Proofs.YtiainhbkoehhjaaDoor
open Go.RowKit
set_option linter.unusedVariables false
set_option linter.unusedSimpArgs false

/-- Three values lie in a block. -/
def L3 (T : TypeId) (bl : Nat) (w : World) (v : Nat → Value) : Prop := w.heap[bl]? = some (.cells #[v 0, v 1, v 2] T (0, 0))
theorem L3.bl {T : TypeId} {bl : Nat} {w w' : World} {v : Nat → Value} (h : L3 T bl w v) (g : Bl w w') : L3 T bl w' v := (g.block bl (lt_of_block h)).trans h
theorem L3.cell {T : TypeId} {bl : Nat} {w : World} {v : Nat → Value} (h : L3 T bl w v) (i : Nat) (hi : i < 3) : w.cell? ⟨bl, i, none⟩ = some (v i) := by
  unfold L3 at h
  match i, hi with
  | 0, _ => simp [World.cell?, h]
  | 1, _ => simp [World.cell?, h]
  | 2, _ => simp [World.cell?, h]
theorem L3.free {T : TypeId} {bl : Nat} {w : World} {v : Nat → Value} (h : L3 T bl w v) (i : Nat) : w.frozen? ⟨bl, i, none⟩ = false := by
  unfold L3 at h
  simp [World.frozen?, h]
theorem L3.set {T : TypeId} {bl : Nat} {w : World} {v : Nat → Value} (h : L3 T bl w v) (i : Nat) (hi : i < 3) (u : Value) : L3 T bl (w.setCell ⟨bl, i, none⟩ u) (fun j => if j = i then u else v j) := by
  have h2 := heap_setCell_same w bl i _ T u h
  unfold L3
  rw [h2]
  match i, hi with
  | 0, _ => rfl
  | 1, _ => rfl
  | 2, _ => rfl
theorem Fs.mono {B B' : Nat} {v : Value} (h : Fs B v) (hb : B' ≤ B) : Fs B' v := fun b hv => Nat.le_trans hb (h b hv)
/-- The pairs of the first i places. -/
def prs (c : Nat → Nat) (i n : Nat) : Nat × Nat := if n < i then tw (c n) else (0, 0)
theorem prs_zero (c : Nat → Nat) (n : Nat) : prs c 0 n = (0, 0) := if_neg (by omega)
theorem prs_at (c : Nat → Nat) (i : Nat) : prs c (i + 1) i = tw (c i) := if_pos (by omega)
theorem prs_other (c : Nat → Nat) (i n : Nat) (h : n ≠ i) : prs c (i + 1) n = prs c i n := by
  unfold prs
  by_cases h2 : n < i
  · rw [if_pos h2, if_pos (by omega)]
  · rw [if_neg h2, if_neg (by omega)]
theorem cv_bd {a b : List Nat} (ha : All 4294967296 a) (hb : All 4294967296 b) (hal : a.length ≤ 10000) (n : Nat) : cv a b a.length n < bd := by
  have h := cv_le ha hb n a.length
  have h2 : a.length * 18446744065119617025 ≤ 10000 * 18446744065119617025 := Nat.mul_le_mul_right _ hal
  have h3 : 10000 * 18446744065119617025 < bd := by decide
  omega
theorem jn_cv {X : Nat} (h : X < bd) : jn (X % 998244353) (X % 167772161) (X % 469762049) = X :=
  jc_one (jn_is _ _ _) ⟨h, (Cg.mod _ _).symm, (Cg.mod _ _).symm, (Cg.mod _ _).symm⟩
theorem all_wide {l : List Nat} (h : All 4294967296 l) : All 18446744073709551616 l := fun i hi => Nat.lt_trans (h i hi) (by decide)

set_option maxRecDepth 100000 in
set_option maxHeartbeats 4000000 in
theorem times_bad (v1 v2 : Value) (a b : List Nat) (hal : a.length ≤ 10000) (hbl : b.length ≤ 10000) (h : ¬ (All 4294967296 a ∧ All 4294967296 b)) (w : World) (h1 : Rw .u64 w v1 a) (h2 : Rw .u64 w v2 b) :
    Calls Tryd.prog 19 #[v1, v2] w (T9 w a b) := by
  have h1' := h1
  have h2' := h2
  obtain ⟨A1, c1, rfl, _, _, _, _⟩ := h1'
  obtain ⟨A2, c2, rfl, _, _, _, _⟩ := h2'
  have EL := Lib.hid (fun w => elements_any A1 A2 a.length b.length c1 c2 hal hbl w)
  obtain ⟨L, hL⟩ : ∃ L, (if a.length = 0 ∨ b.length = 0 then 0 else a.length + b.length - 1) = L := ⟨_, rfl⟩
  rw [hL] at EL
  have hLb : L ≤ 20000 := by rw [← hL]; split <;> omega
  have RF := Lib.hid (fun w => refusal_any true L hLb w)
  have HB := Lib.hid h
  by_cases ha : All 4294967296 a
  · have hnb : ¬ All 4294967296 b := fun hb => h ⟨ha, hb⟩
    have IA := Lib.hid (isLarge_any (.slice A1 a.length c1) a hal false (by simp [ha]) w h1)
    have IB := Lib.hid (isLarge_any (.slice A2 b.length c2) b hbl true (by simp [hnb]) w h2)
    obtain ⟨x, hx⟩ : ∃ x, a.length = x := ⟨_, rfl⟩
    obtain ⟨y, hy⟩ : ∃ x, b.length = x := ⟨_, rfl⟩
    rw [hx] at IA
    rw [hy] at IB
    rw [hx, hy] at EL ⊢
    clear h1 h2 ha hnb h hL hLb hal hbl hx hy
    go_enter Tryd.func19, Tryd.ntmps19
    go_wp2_with (first
      | (go_at_call 37; (with_reducible refine (EL.out _).mono ?_); rintro e w' ⟨rfl, rfl⟩)
      | (go_at_call 41; (with_reducible refine IA.out.mono ?_); rintro e w' ⟨rfl, rfl⟩)
      | (go_at_call 41; (with_reducible refine IB.out.mono ?_); rintro e w' ⟨rfl, rfl⟩)
      | (go_at_call 35; (with_reducible refine (RF.out _).mono ?_); rintro e w' ⟨rfl, rfl⟩))
    go_ret2
    exact .bad HB.out ⟨_, rfl, Pq.nil _, Bl.refl _⟩
  · have IA := Lib.hid (isLarge_any (.slice A1 a.length c1) a hal true (by simp [ha]) w h1)
    obtain ⟨x, hx⟩ : ∃ x, a.length = x := ⟨_, rfl⟩
    obtain ⟨y, hy⟩ : ∃ x, b.length = x := ⟨_, rfl⟩
    rw [hx] at IA
    rw [hx, hy] at EL ⊢
    clear h1 h2 ha h hL hLb hal hbl hx hy
    go_enter Tryd.func19, Tryd.ntmps19
    go_wp2_with (first
      | (go_at_call 37; (with_reducible refine (EL.out _).mono ?_); rintro e w' ⟨rfl, rfl⟩)
      | (go_at_call 41; (with_reducible refine IA.out.mono ?_); rintro e w' ⟨rfl, rfl⟩)
      | (go_at_call 35; (with_reducible refine (RF.out _).mono ?_); rintro e w' ⟨rfl, rfl⟩))
    go_ret2
    exact .bad HB.out ⟨_, rfl, Pq.nil _, Bl.refl _⟩

set_option maxRecDepth 100000 in
set_option maxHeartbeats 8000000 in
theorem times_ok (v1 v2 : Value) (a b : List Nat) (hal : a.length ≤ 10000) (hbl : b.length ≤ 10000) (ha : All 4294967296 a) (hb : All 4294967296 b) (w : World) (hw : PrW w) (h1 : Rw .u64 w v1 a) (h2 : Rw .u64 w v2 b) :
    Calls Tryd.prog 19 #[v1, v2] w (T9 w a b) := by
  obtain ⟨i0, hi0, hz0, hz1, hz2⟩ := info_parts Tryd.infoPair
  have h1' := h1
  have h2' := h2
  obtain ⟨A1, c1, rfl, _, _, _, _⟩ := h1'
  obtain ⟨A2, c2, rfl, _, _, _, _⟩ := h2'
  have EL : ∀ w, Calls Tryd.prog 37 #[.slice A1 a.length c1, .slice A2 b.length c2] w fun e w' => e = .returned (.int .i64 ((cl a b : Nat) : Int)) ∧ w = w' := fun w => elements_any A1 A2 a.length b.length c1 c2 hal hbl w
  obtain ⟨L, hL⟩ : ∃ L, cl a b = L := ⟨_, rfl⟩
  rw [hL] at EL
  have HE := Lib.hid EL
  have hLb : L ≤ 20000 := by rw [← hL]; unfold cl; split <;> omega
  have RF := Lib.hid (fun w => refusal_any false L hLb w)
  have IA := Lib.hid (isLarge_any (.slice A1 a.length c1) a hal false (by simp [ha]) w h1)
  have IB := Lib.hid (isLarge_any (.slice A2 b.length c2) b hbl false (by simp [hb]) w h2)
  have PD := Lib.hid (fun (i : Nat) W (g : Bl w W) => product_any (p3 i) (p3_is i) W _ _ a b (h1.bl g) (h2.bl g) (all_wide ha) (all_wide hb) hal hbl)
  have HCV := Lib.hid (fun n => cv_bd ha hb hal n)
  have HL := Lib.hid hL
  have HLB := Lib.hid hLb
  have HA := Lib.hid ha
  have HB := Lib.hid hb
  have HPW := Lib.hid hw
  have hLi : (L : Int) ≤ 20000 := by omega
  have hmk := fun W => run_mkp (P := Tryd.prog) 40 24 i0 Tryd.underlying40 hi0 hz0 hz1 (by omega) L (by omega) W
  obtain ⟨x, hx⟩ : ∃ x, a.length = x := ⟨_, rfl⟩
  obtain ⟨y, hy⟩ : ∃ x, b.length = x := ⟨_, rfl⟩
  rw [hx] at IA
  rw [hy] at IB
  rw [hx, hy] at HE PD ⊢
  clear EL h1 h2 ha hb hL hLb hal hbl hx hy hw
  go_enter Tryd.func19, Tryd.ntmps19
  go_wp2_with (first
    | (go_at_call 37; (with_reducible refine (HE.out _).mono ?_); rintro e w' ⟨rfl, rfl⟩)
    | (go_at_call 41; (with_reducible refine IA.out.mono ?_); rintro e w' ⟨rfl, rfl⟩)
    | (go_at_call 41; (with_reducible refine IB.out.mono ?_); rintro e w' ⟨rfl, rfl⟩)
    | (go_at_call 35; (with_reducible refine (RF.out _).mono ?_); rintro e w' ⟨rfl, rfl⟩))
  obtain ⟨R, hR⟩ : ∃ R : Nat → List Nat, (fun i => (cvs a b).map (· % p3 i)) = R := ⟨_, rfl⟩
  have HR := Lib.hid hR
  have hRi : ∀ i, (cvs a b).map (· % p3 i) = R i := fun i => by rw [← hR]
  have hlen : ∀ i, (R i).length = L := fun i => by rw [← hR]; show ((cvs a b).map _).length = L; rw [List.length_map, cvs_length, HL.out]
  have HLEN := Lib.hid hlen
  have hPD : ∀ (i : Nat) W (g : Bl w W), Calls Tryd.prog 38 #[.slice A1 x c1, .slice A2 y c2, .int .u32 ((p3 i : Nat) : Int)] W (RwF .u32 W (R i)) := fun i W g => by rw [← hRi]; exact PD.out i W g
  have HPD := Lib.hid hPD
  have hl0 : L3 73 w.heap.size (w.alloc (.cells #[.slice none 0 0, .slice none 0 0, .slice none 0 0] 73)) (fun _ => .slice none 0 0) := heap_alloc_new w _
  have HL0 := Lib.hid hl0
  have HB0 : Hid (Bl w (w.alloc (.cells #[.slice none 0 0, .slice none 0 0, .slice none 0 0] 73))) := (Bl.refl w).alloc _
  clear hR hRi hlen hPD hl0 PD HE IA IB RF
  go_loopw [27] (fun sv wr => ∃ (i : Nat) (v : Nat → Value), i ≤ 3 ∧ sv = .int .i64 (i : Int) ∧ Hid (L3 73 w.heap.size wr v) ∧ Hid (∀ j, j < i → Rw .u32 wr (v j) (R j) ∧ Fs (w.heap.size + 1) (v j)) ∧ Hid (Bl w wr)) (fun sv _ => 3 - (intOf sv).toNat)
  case atStart => exact ⟨0, _, by decide, rfl, HL0, (fun j hj => absurd hj (by omega)), HB0⟩
  case round =>
    clear HL0 HB0
    obtain ⟨i, v, hi3, rfl, hl, hv, hb⟩ := hrel
    by_cases hlt : i < 3
    · have q := (HPW.out.bl hb.out).2 i hlt
      have PD := Lib.hid (HPD.out i wr hb.out)
      obtain ⟨p, ep⟩ : ∃ p, p3 i = p := ⟨_, rfl⟩
      rw [ep] at q PD
      have hst : Hid (∀ w' u, Bl wr w' → Rw .u32 w' u (R i) → Fs wr.heap.size u → w'.cell? ⟨w.heap.size, i, none⟩ = some (v i) ∧ w'.frozen? ⟨w.heap.size, i, none⟩ = false ∧ ∃ v', L3 73 w.heap.size (w'.setCell ⟨w.heap.size, i, none⟩ u) v' ∧ (∀ j, j < i + 1 → Rw .u32 (w'.setCell ⟨w.heap.size, i, none⟩ u) (v' j) (R j) ∧ Fs (w.heap.size + 1) (v' j)) ∧ Bl w (w'.setCell ⟨w.heap.size, i, none⟩ u)) := by
        intro w' u g hr hf
        have h3 := hl.out.bl g
        have hlt' : w.heap.size < wr.heap.size := lt_of_block hl.out
        refine ⟨h3.cell i hlt, h3.free i, _, h3.set i hlt u, fun j hj => ?_, (hb.out.trans g).setCell (Nat.le_refl _) u⟩
        by_cases e : j = i
        · subst e
          show Rw .u32 _ (if j = j then u else v j) _ ∧ Fs _ (if j = j then u else v j)
          rw [if_pos rfl]
          have hf2 : Fs (w.heap.size + 1) u := hf.mono hlt'
          exact ⟨hr.setCell hf2 (Nat.lt_succ_self _) u, hf2⟩
        · show Rw .u32 _ (if j = i then u else v j) _ ∧ Fs _ (if j = i then u else v j)
          rw [if_neg e]
          obtain ⟨a1, a2⟩ := hv.out j (by omega)
          exact ⟨(a1.bl g).setCell a2 (Nat.lt_succ_self _) u, a2⟩
      have b1 : (0 : Int) ≤ (i : Int) ∧ (i : Int) < 3 := by omega
      clear ep hl hv
      go_wp2_with (go_at_call 38; (with_reducible refine PD.out.mono ?_); rintro e w' ⟨u, rfl, hr, hg, hf⟩; have hr2 := hr; obtain ⟨Au, cu, rfl, _, _, _, _⟩ := hr2; obtain ⟨z0, z1, v', y1, y2, y3⟩ := hst.out w' _ hg hr hf; have Y1 := Lib.hid y1; have Y2 := Lib.hid y2; have Y3 := Lib.hid y3; clear y1 y2 y3 hr hg hf)
      go_roundw
      case rel => exact ⟨i + 1, v', hlt, by go_num, Y1, Y2, Y3⟩
      case measure => simp [intOf] <;> omega
    · have h3 : i = 3 := by omega
      subst h3
      have JN := Lib.hid (fun w => joiner_any w)
      clear hi3 hlt HPD
      go_wp2_with (go_at_call 27; (with_reducible refine (JN.out _).mono ?_); rintro e w4 ⟨b1, g5, b3, g6, g7, rfl, hj, hb'⟩; have HJ := Lib.hid hj; have HB4 := Lib.hid (hb.out.trans hb'); have HL4 := Lib.hid (hl.out.bl hb'); have HV4 := Lib.hid (fun j hj => (hv.out j hj).1.bl hb'); clear hj hb')
      clear hmk hl hv hb JN
      obtain ⟨B0, k0, hv0, _, _, _, hs0⟩ := HV4.out 0 (by decide)
      obtain ⟨B1, k1, hv1, _, _, _, hs1⟩ := HV4.out 1 (by decide)
      obtain ⟨B2, k2, hv2, _, _, _, hs2⟩ := HV4.out 2 (by decide)
      have q0 := HL4.out.cell 0 (by decide)
      have q1 := HL4.out.cell 1 (by decide)
      have q2 := HL4.out.cell 2 (by decide)
      rw [hv0, HLEN.out] at q0
      rw [hv1, HLEN.out] at q1
      rw [hv2, HLEN.out] at q2
      have S0 := Lib.hid hs0
      have S1 := Lib.hid hs1
      have S2 := Lib.hid hs2
      have Q0 := Lib.hid q0
      have Q1 := Lib.hid q1
      have Q2 := Lib.hid q2
      have HBL4 : Hid (w.heap.size < w4.heap.size) := lt_of_block HL4.out
      obtain ⟨c, hc⟩ : ∃ c : Nat → Nat, (fun n => cv a b a.length n) = c := ⟨_, rfl⟩
      have hrow : ∀ i n, (hn : n < (R i).length) → (R i)[n] = c n % p3 i := by
        intro i n hn
        have e : R i = ml (cl a b) fun n => c n % p3 i := by
          rw [← HR.out, ← hc]
          show (ml (cl a b) _).map _ = _
          rw [map_ml]
        have hn2 : n < (ml (cl a b) fun n => c n % p3 i).length := by rw [← e]; exact hn
        have : (R i)[n] = (ml (cl a b) fun n => c n % p3 i)[n] := by congr 1
        rw [this, ml_get]
      have HROW := Lib.hid hrow
      have hcb : ∀ n, c n < bd := fun n => by rw [← hc]; exact HCV.out n
      have HCB := Lib.hid hcb
      have hcs : (cvs a b).map tw = ml L fun n => tw (c n) := by
        show (ml (cl a b) _).map tw = _
        rw [map_ml, HL.out, ← hc]
      have HCS := Lib.hid hcs
      have HBP : Hid (Bp 24 (w4.alloc (.cells (madeCells #[.int .u64 0, .int .u64 0] (L * 2)) 24)) w4.heap.size (ml L (prs c 0))) := by
        have h := Bp.made 24 w4 L
        have e : ml L (prs c 0) = List.replicate L (0, 0) := by rw [ml_congr (fun n _ => prs_zero c n), ml_const]
        show Bp _ _ _ _
        rw [e]; exact h
      have HG4 : Hid (Bl w4 (w4.alloc (.cells (madeCells #[.int .u64 0, .int .u64 0] (L * 2)) 24))) := (Bl.refl w4).alloc _
      clear hv0 hv1 hv2 hs0 hs1 hs2 q0 q1 q2 hc hrow hcb hcs HCV HR HV4 HL4
      go_loopw [44] (fun sv wr => ∃ i : Nat, i ≤ L ∧ sv = .int .i64 (i : Int) ∧ Hid (Bp 24 wr w4.heap.size (ml L (prs c i))) ∧ Hid (Bl w4 wr)) (fun sv _ => L - (intOf sv).toNat)
      case atStart => exact ⟨0, Nat.zero_le _, rfl, HBP, HG4⟩
      case round =>
        clear HBP HG4
        obtain ⟨i, hiL, rfl, hbk, hg⟩ := hrel
        by_cases hlt : i < L
        · obtain ⟨ad0, hA0, hb0, hx0⟩ := S0.out (by rw [HLEN.out]; omega)
          obtain ⟨ad1, hA1, hb1, hx1⟩ := S1.out (by rw [HLEN.out]; omega)
          obtain ⟨ad2, hA2, hb2, hx2⟩ := S2.out (by rw [HLEN.out]; omega)
          have y0 := hx0 i (by rw [HLEN.out]; exact hlt)
          have y1 := hx1 i (by rw [HLEN.out]; exact hlt)
          have y2 := hx2 i (by rw [HLEN.out]; exact hlt)
          rw [HROW.out] at y0 y1 y2
          have m0 : c i % p3 0 < p3 0 := Nat.mod_lt _ (by decide)
          have m1 : c i % p3 1 < p3 1 := Nat.mod_lt _ (by decide)
          have m2 : c i % p3 2 < p3 2 := Nat.mod_lt _ (by decide)
          have hjn : jn (c i % p3 0) (c i % p3 1) (c i % p3 2) = c i := jn_cv (HCB.out i)
          have t0 := p3_lt 0
          have t1 := p3_lt 1
          have t2 := p3_lt 2
          have JC := fun w hj => jcall_any w b1 g5 b3 g6 g7 hj (c i % p3 0) (c i % p3 1) (c i % p3 2) (by omega) (by omega) (by omega)
          rw [hjn] at JC
          obtain ⟨x0, ex0⟩ : ∃ x, c i % p3 0 = x := ⟨_, rfl⟩
          obtain ⟨x1, ex1⟩ : ∃ x, c i % p3 1 = x := ⟨_, rfl⟩
          obtain ⟨x2, ex2⟩ : ∃ x, c i % p3 2 = x := ⟨_, rfl⟩
          rw [ex0] at y0 JC
          rw [ex1] at y1 JC
          rw [ex2] at y2 JC
          obtain ⟨hi, ehi⟩ : ∃ x, c i / 18446744073709551616 = x := ⟨_, rfl⟩
          obtain ⟨lo, elo⟩ : ∃ x, c i % 18446744073709551616 = x := ⟨_, rfl⟩
          rw [ehi, elo] at JC
          unfold pairv at JC
          have HJC := Lib.hid JC
          have htw : tw (c i) = (hi, lo) := by unfold tw; rw [ehi, elo]
          have hst : Hid (∀ W, Bp 24 W w4.heap.size (ml L (prs c i)) → (∃ u, W.cell? ⟨w4.heap.size, i * 2, none⟩ = some u) ∧ W.frozen? ⟨w4.heap.size, i * 2, none⟩ = false ∧ W.frozen? ⟨w4.heap.size, i * 2 + 1, none⟩ = false ∧ (∃ u, (W.setCell ⟨w4.heap.size, i * 2, none⟩ (.int .u64 (hi : Int))).cell? ⟨w4.heap.size, i * 2 + 1, none⟩ = some u) ∧ (∃ u, W.cell? ⟨w4.heap.size, i * 2 + 1, none⟩ = some u) ∧ Bp 24 ((W.setCell ⟨w4.heap.size, i * 2, none⟩ (.int .u64 (hi : Int))).setCell ⟨w4.heap.size, i * 2 + 1, none⟩ (.int .u64 (lo : Int))) w4.heap.size (ml L (prs c (i + 1)))) := by
            intro W hW
            have c1 := hW.cell1 i (by rw [ml_length]; exact hlt)
            have c2 := hW.cell2 i (by rw [ml_length]; exact hlt)
            refine ⟨⟨_, c1⟩, hW.free _, hW.free _, ⟨_, (World.cell?_setCell_other _ _ _ _ (fun e => by have := congrArg Addr.off e; have e' : i * 2 = i * 2 + 1 := this; omega)).trans c2⟩, ⟨_, c2⟩, ?_⟩
            have h := hW.set i hi lo (by rw [ml_length]; exact hlt)
            have e : (hi, lo) = prs c (i + 1) i := by rw [prs_at, htw]
            rw [e, ml_set (g := prs c (i + 1)) (fun n hn => prs_other c i n hn)] at h
            exact h
          have HC : Hid (∀ w', Bl w4 w' → w'.cell? ⟨w.heap.size, 0, none⟩ = some (.slice (some ad0) L k0) ∧ w'.cell? ⟨w.heap.size, 1, none⟩ = some (.slice (some ad1) L k1) ∧ w'.cell? ⟨w.heap.size, 2, none⟩ = some (.slice (some ad2) L k2) ∧ w'.cell? (ad0.add i) = some (.int .u32 (x0 : Int)) ∧ w'.cell? (ad1.add i) = some (.int .u32 (x1 : Int)) ∧ w'.cell? (ad2.add i) = some (.int .u32 (x2 : Int)) ∧ Bl w4 w') := fun w' g =>
            ⟨(g.cell (p := ⟨w.heap.size, 0, none⟩) HBL4.out).trans (hA0 ▸ Q0.out), (g.cell (p := ⟨w.heap.size, 1, none⟩) HBL4.out).trans (hA1 ▸ Q1.out), (g.cell (p := ⟨w.heap.size, 2, none⟩) HBL4.out).trans (hA2 ▸ Q2.out), (g.cell (by rw [blk_add]; exact hb0)).trans y0, (g.cell (by rw [blk_add]; exact hb1)).trans y1, (g.cell (by rw [blk_add]; exact hb2)).trans y2, g⟩
          have bb : (0 : Int) ≤ (i : Int) ∧ (i : Int) < (L : Int) := by omega
          have HGS : Hid (∀ W u v, Bl w4 W → Bl w4 ((W.setCell ⟨w4.heap.size, i * 2, none⟩ u).setCell ⟨w4.heap.size, i * 2 + 1, none⟩ v) ∧ Bl w4 (W.setCell ⟨w4.heap.size, i * 2, none⟩ u)) := fun W u v g => ⟨(g.setCell (p := ⟨w4.heap.size, i * 2, none⟩) (Nat.le_refl _) u).setCell (p := ⟨w4.heap.size, i * 2 + 1, none⟩) (Nat.le_refl _) v, g.setCell (p := ⟨w4.heap.size, i * 2, none⟩) (Nat.le_refl _) u⟩
          have a24 := Tryd.isAgg24
          have z24 := Tryd.sizeOf24
          have a27 := Tryd.isAgg27
          have z27 := Tryd.sizeOf27
          clear hx0 hx1 hx2 hb0 hb1 hb2 hA0 hA1 hA2 y0 y1 y2 m0 m1 m2 hjn t0 t1 t2 JC ex0 ex1 ex2 ehi elo htw
          go_wp2
          go_region_held3 (fun w' => w'.cell? ⟨w.heap.size, 0, none⟩ = some (.slice (some ad0) L k0) ∧ w'.cell? ⟨w.heap.size, 1, none⟩ = some (.slice (some ad1) L k1) ∧ w'.cell? ⟨w.heap.size, 2, none⟩ = some (.slice (some ad2) L k2) ∧ w'.cell? (ad0.add i) = some (.int .u32 (x0 : Int)) ∧ w'.cell? (ad1.add i) = some (.int .u32 (x1 : Int)) ∧ w'.cell? (ad2.add i) = some (.int .u32 (x2 : Int)) ∧ Bl w4 w')
            (first | assumption | exact HC.out _ hg.out.drew | exact HC.out _ HG5.out | exact HC.out _ (HGS.out _ _ _ HG5.out).1 | exact HC.out _ (HGS.out _ _ (.int .u64 0) HG5.out).2)
            (first
             | (go_at_call 46; (with_reducible refine (HJC.out _ (HJ.out.bl hg.out.drew)).mono ?_); rintro e w5 ⟨rfl, hb'⟩; have HG5 := Lib.hid (hg.out.drew.trans hb'); obtain ⟨⟨u0, z0⟩, z1, z2, ⟨u1, z3⟩, ⟨u2, z4⟩, z5⟩ := hst.out w5 (hbk.out.bl ((Bl.refl wr).drew.trans hb')); have HP5 := Lib.hid z5; clear z5 hb'))
          have HGN := Lib.hid (HGS.out w5 (.int .u64 (hi : Int)) (.int .u64 (lo : Int)) HG5.out).1
          clear HC hst HGS z0 z1 z2 z3 z4
          go_wp2
          go_roundw
          case rel => exact ⟨i + 1, hlt, by go_num, HP5, HGN⟩
          case measure => simp [intOf] <;> omega
        · have hin' : i = L := by omega
          have hpr : Hid (Pq wr (.slice (some ⟨w4.heap.size, 0, none⟩) L L) ((cvs a b).map tw)) := by
            show Pq _ _ _
            rw [HCS.out, ← ml_congr (fun n hn => (show prs c i n = tw (c n) from if_pos (by omega)))]
            exact hbk.out.pr (ml_length _ _).symm (by have := HLB.out; unfold maxLen; omega)
          clear hin' hbk
          go_wp2
          go_ret2
          exact .ok HA.out HB.out ⟨_, rfl, hpr.out, HB4.out.trans hg.out⟩

theorem times_any (v1 v2 : Value) (a b : List Nat) (hal : a.length ≤ 10000) (hbl : b.length ≤ 10000) (w : World) (hw : PrW w) (h1 : Rw .u64 w v1 a) (h2 : Rw .u64 w v2 b) :
    Calls Tryd.prog 19 #[v1, v2] w (T9 w a b) := by
  by_cases h : All 4294967296 a ∧ All 4294967296 b
  · exact times_ok v1 v2 a b hal hbl h.1 h.2 w hw h1 h2
  · exact times_bad v1 v2 a b hal hbl h w h1 h2
end Go.Proofs.YtiainhbkoehhjaaDoor
