/-
  Package quot: the closure of Div: what it leaves between two figures; widened.
-/
import Derived.Test.YtdoohlehglakfaaPk25
import Derived.Test.YtdoohlehglakfaaPk27
import Derived.Test.YtdoohlehglakfaaPk1
namespace Go.Proofs.Ytdoohlehglakfaa
open Go.RowKit Go.Shelf
set_option linter.unusedVariables false
set_option linter.unusedSimpArgs false

set_option maxRecDepth 100000 in
set_option maxHeartbeats 2000000 in
theorem pqwidened_any (v : Value) (l : List Nat) (n : Nat) (hn : l.length ≤ n) (hb : n < 1099511627776) (w : World) (hr : Rw .u64 w v l) :
    Calls Try.prog 12 #[v, .int .i64 (n : Int)] w (BkNew w n (l ++ List.replicate (n - l.length) 0)) := by
  obtain ⟨i0, hi, hz0, hz1, hz2⟩ := info_parts infoW
  obtain ⟨A, c, rfl, hc, hm, h0, hx⟩ := hr
  have hmk := run_mk (P := Try.prog) .u64 22 33 i0 Try.underlying22 hi hz0 hz1 (by omega) n hb w
  have hlc : (l.length : Int) ≤ 1099511627776 := by omega
  have HS := Lib.hid (splice_wide l n hn)
  obtain ⟨L, hL⟩ : ∃ L, l.length = L := ⟨_, rfl⟩
  have HL := Lib.hid hL
  have HX := Lib.hid hx
  have HN := Lib.hid hn
  rw [hL] at hlc
  show Calls Try.prog 12 #[.slice A l.length c, .int .i64 (n : Int)] w _
  rw [hL]
  clear hx h0 hL hc hm hn hb
  go_enter Try.func12, Try.ntmps12
  go_wp2_with (refine copy_bk w _ .u64 33 rfl _ _ _ _ rfl 33 Try.underlying22 (by rw [hi]; simp [hz1]) w.heap.size 0 n n A L c rfl rfl (List.replicate n 0) l HL.out.symm (Bk.made _ _ _ _) (HX.out.bl ((Bl.refl w).alloc _)) (by simp; omega) ((Bl.refl w).alloc _) (Nat.le_refl _) ?_; intro w' hbk hbl hoth)
  go_ret
  refine ⟨rfl, ?_, hbl.out, ?_⟩
  · have := hbk.out
    rw [HS.out] at this
    rw [← HL.out]
    exact this
  · rw [hoth.out.1]; simp

/-! ### The numbers -/
/-- If the figures have come from the highest place on: they times the divisor, and what is left, are the number. -/
def DvS (N D A : Nat) (tr : List (Nat × Nat)) (row : List Nat) : Prop := ∀ k, k + tr.length = N → tr.map (·.1) = down N tr.length →
  val 18446744073709551616 (qrow N tr) * D + val 18446744073709551616 row = A ∧ val 18446744073709551616 (row.drop k) < D ∧ ∀ j, j < k → (qrow N tr)[j]? = some 0
theorem down_snoc_inv {N : Nat} {l : List Nat} {i : Nat} (h : l ++ [i] = down N (l.length + 1)) : l = down N l.length ∧ i = N - 1 - l.length := by
  have e : down N (l.length + 1) = down N l.length ++ [N - 1 - l.length] := by simp [down, List.range_succ]
  rw [e] at h
  have h1 := List.append_inj h (by rw [down_length])
  exact ⟨h1.1, by simpa using h1.2⟩
theorem dvs_start {N D A : Nat} {row : List Nat} (h : val 18446744073709551616 row = A) (h' : val 18446744073709551616 (row.drop N) < D) : DvS N D A [] row := by
  intro k hk _
  obtain rfl : k = N := by simpa using hk
  refine ⟨?_, h', fun j hj => by simp [qrow, hj]⟩
  have : qrow k [] = List.replicate k 0 := rfl
  rw [this, val_zeros, Nat.zero_mul, Nat.zero_add, h]
theorem dvs_step {N D A L m : Nat} {tr : List (Nat × Nat)} {row out : List Nat} {i q : Nat} (hall : All 18446744073709551616 row) (hL : row.length = L) (hN : N + (m + 1) = L) (hD : D < 18446744073709551616 ^ (m + 1)) (hDp : 0 < D)
    (h : DvS N D A tr row) (t : TkF row i m (win row i (m + 2)) D q out) : DvS N D A (tr ++ [(i, q)]) out := by
  intro k hk hmap
  rw [List.length_append, List.length_singleton] at hk hmap
  rw [List.map_append] at hmap
  have hm2 : List.map (·.1) tr ++ [i] = down N ((List.map (·.1) tr).length + 1) := by rw [List.length_map]; exact hmap
  obtain ⟨h1, h2⟩ := down_snoc_inv hm2
  rw [List.length_map] at h1 h2
  obtain rfl : i = k := by omega
  obtain ⟨e1, e2, e3⟩ := h (i + 1) (by omega) h1
  have hiL : i < row.length := by omega
  have hdr : val 18446744073709551616 (row.drop i) = row[i] + 18446744073709551616 * val 18446744073709551616 (row.drop (i + 1)) := by rw [List.drop_eq_getElem_cons hiL]; rfl
  have hri := hall i hiL
  obtain ⟨R, hR⟩ : ∃ R, win row i (m + 2) = R := ⟨_, rfl⟩
  have hsp := val_append 18446744073709551616 ((row.drop i).take (m + 2)) ((row.drop i).drop (m + 2))
  have hso := val_append 18446744073709551616 ((out.drop i).take (m + 2)) ((out.drop i).drop (m + 2))
  rw [List.take_append_drop] at hsp hso
  have hkl : ((row.drop i).take (m + 2)).length = m + 2 := by rw [List.length_take, List.length_drop]; omega
  have hko : ((out.drop i).take (m + 2)).length = m + 2 := by rw [List.length_take, List.length_drop, t.len]; omega
  rw [hkl] at hsp
  rw [hko] at hso
  have hfar : (out.drop i).drop (m + 2) = (row.drop i).drop (m + 2) := by
    rw [List.drop_drop, List.drop_drop]
    refine List.ext_getElem? fun j => ?_
    rw [List.getElem?_drop, List.getElem?_drop]
    exact t.far _ (by omega)
  rw [hfar] at hso
  obtain ⟨X, hX⟩ : ∃ X, val 18446744073709551616 ((row.drop i).drop (m + 2)) = X := ⟨_, rfl⟩
  rw [hX] at hsp hso
  have hR' : val 18446744073709551616 ((row.drop i).take (m + 2)) = R := hR
  rw [hR'] at hsp
  have hpw : 18446744073709551616 ^ (m + 2) = 18446744073709551616 * 18446744073709551616 ^ (m + 1) := by rw [Nat.pow_succ, Nat.mul_comm]
  have hX0 : X = 0 := by
    rcases Nat.eq_zero_or_pos X with h0 | h0
    · exact h0
    · have g1 : 18446744073709551616 ^ (m + 2) * 1 ≤ 18446744073709551616 ^ (m + 2) * X := Nat.mul_le_mul_left _ h0
      rw [hpw] at g1 hsp
      obtain ⟨P, hP⟩ : ∃ P, 18446744073709551616 ^ (m + 1) = P := ⟨_, rfl⟩
      rw [hP] at g1 hsp hD
      omega
  rw [hX0, Nat.mul_zero, Nat.add_zero] at hsp hso
  have hlt : R < D * 18446744073709551616 := by omega
  have tn := t.num
  rw [hR] at tn
  obtain ⟨t1, t2⟩ := tn hlt
  have t2' : val 18446744073709551616 ((out.drop i).take (m + 2)) = R % D := t2
  rw [t2'] at hso
  have hmod := Nat.mod_lt R hDp
  have hdm := Nat.div_add_mod' R D
  rw [← t1] at hdm
  have hto : out.take i = row.take i := by
    refine List.ext_getElem? fun j => ?_
    rw [List.getElem?_take, List.getElem?_take]
    split
    · exact t.near j ‹_›
    · rfl
  have s1 := val_append 18446744073709551616 (out.take i) (out.drop i)
  have s2 := val_append 18446744073709551616 (row.take i) (row.drop i)
  rw [List.take_append_drop, hto] at s1
  rw [List.take_append_drop] at s2
  have hli : (row.take i).length = i := by rw [List.length_take]; omega
  rw [hli] at s1 s2
  rw [hso] at s1
  rw [hsp] at s2
  have hiq : i < (qrow N tr).length := by rw [qrow_len]; omega
  have v := val_set 18446744073709551616 (qrow N tr) i q hiq
  have hz : (qrow N tr)[i] = 0 := by
    have := e3 i (by omega)
    rw [List.getElem?_eq_getElem hiq] at this
    exact Option.some.inj this
  rw [hz, Nat.mul_zero, Nat.add_zero] at v
  rw [qrow_snoc]
  refine ⟨?_, by rw [hso]; exact hmod, fun j hj => by rw [List.getElem?_set_ne (by omega)]; exact e3 j (by omega)⟩
  rw [v, Nat.add_mul, Nat.mul_assoc, s1]
  rw [← hdm, Nat.mul_add] at s2
  omega
theorem dvs_end {N D A : Nat} {tr : List (Nat × Nat)} {row : List Nat} (h : DvS N D A tr row) (ht : tr.map (·.1) = down N N) : val 18446744073709551616 (qrow N tr) = A / D ∧ val 18446744073709551616 row = A % D := by
  have hl : tr.length = N := by
    have := congrArg List.length ht
    rwa [List.length_map, down_length] at this
  obtain ⟨e1, e2, -⟩ := h 0 (by omega) (by rw [hl]; exact ht)
  rw [List.drop_zero] at e2
  have hDp : 0 < D := by omega
  have hq : A / D = val 18446744073709551616 (qrow N tr) := by
    rw [← e1, Nat.add_comm, Nat.add_mul_div_right _ _ hDp, Nat.div_eq_of_lt e2, Nat.zero_add]
  have hr : A % D = val 18446744073709551616 row := by
    rw [← e1, Nat.add_comm, Nat.add_mul_mod_self_right, Nat.mod_eq_of_lt e2]
  exact ⟨hq.symm, hr.symm⟩

/-! ### The closure -/
/-- Between two figures: what is left lies in block g; the closure's three cells. -/
structure DvB (Wd : World) (g L pL pN pD n : Nat) (vd : Value) (row : List Nat) (W : World) : Prop where
  bk : Bk .u64 33 W g row
  len : row.length = L
  all : All 18446744073709551616 row
  bL : Boxed W pL 22 (.slice (some ⟨g, 0, none⟩) L L)
  bN : Boxed W pN 3 (.int .i64 (n : Int))
  bD : Boxed W pD 22 vd
  bl : Bl Wd W
def JDv (Wd : World) (g L pL pN pD n : Nat) (vd : Value) (N D A : Nat) (tr : List (Nat × Nat)) (W : World) : Prop := ∃ row, DvB Wd g L pL pN pD n vd row W ∧ DvS N D A tr row
theorem jdv_stays {Wd wq : World} {g L pL pN pD n N D A : Nat} {vd : Value} (h1 : g < wq.heap.size) (h2 : pL < wq.heap.size) (h3 : pN < wq.heap.size) (h4 : pD < wq.heap.size) (h5 : Wd.heap.size ≤ wq.heap.size) (tr : List (Nat × Nat)) (W W' : World)
    (h : JDv Wd g L pL pN pD n vd N D A tr W) (hb : Below wq.heap.size W W') : JDv Wd g L pL pN pD n vd N D A tr W' := by
  obtain ⟨row, h, hs⟩ := h
  exact ⟨row, ⟨(hb.block _ h1).trans h.bk, h.len, h.all, (hb.block _ h2).trans h.bL, (hb.block _ h3).trans h.bN, (hb.block _ h4).trans h.bD, Below.trans h.bl (Below.mono hb h5)⟩, hs⟩

set_option maxRecDepth 100000 in
set_option maxHeartbeats 4000000 in
theorem pdivc_any (Wd W : World) (g L pL pN pD m N D A : Nat) (vd : Value) (dl : List Nat) (tr : List (Nat × Nat)) (i : Nat) (hg : Wd.heap.size ≤ g) (hv : Rw .u64 Wd vd dl) (hdl : All 18446744073709551616 dl) (hm : dl.length = m + 1) (hlast : ∀ h : m < dl.length, dl[m] ≠ 0)
    (hL : L ≤ 1048576) (hN : N + (m + 1) = L) (hD : val 18446744073709551616 dl = D) (hDp : 0 < D) (hi : i < N) (hne : pL ≠ g ∧ pN ≠ g ∧ pD ≠ g) (h : JDv Wd g L pL pN pD (m + 1) vd N D A tr W) :
    Calls Try.prog 14 #[.int .i64 (i : Int), .pointer (some ⟨pL, 0, none⟩), .pointer (some ⟨pN, 0, none⟩), .pointer (some ⟨pD, 0, none⟩)] W (QuCall (JDv Wd g L pL pN pD (m + 1) vd N D A) tr i g W) := by
  obtain ⟨row, hb, hs⟩ := h
  have hDB : D < 18446744073709551616 ^ (m + 1) := by
    have := val_lt 18446744073709551616 (by decide) dl hdl
    rwa [hD, hm] at this
  have KT := Lib.hid (fun W' (g1 : Bl Wd W') (g2 : Bk .u64 33 W' g row) => ptake_any Wd W' g i (L - i) m vd dl row (win row i (m + 2)) D g1 hg g2 hv hdl hb.all hm hlast (by rw [hb.len]; omega) (by rw [hb.len]; omega) (by omega) (by unfold maxLen; omega) hD rfl hDp)
  have HSTEP := Lib.hid (fun q out (t : TkF row i m (win row i (m + 2)) D q out) => dvs_step hb.all hb.len hN hDB hDp hs t)
  obtain ⟨y, hy⟩ : ∃ y, i + (m + 1) + 1 = y := ⟨_, rfl⟩
  obtain ⟨x, hx⟩ : ∃ x, i + (m + 1) = x := ⟨_, rfl⟩
  rw [show m + 2 = y - i by omega] at KT HSTEP
  have r1 : (i : Int) + ((m + 1 : Nat) : Int) = (x : Int) := by omega
  have r2 : (x : Int) + 1 = (y : Int) := by omega
  have yb : (y : Int) ≤ 1048576 := by omega
  have w1 : IntKind.i64.wrap (x : Int) = (x : Int) := IntWalk.i64_in _ (by omega)
  have w2 : IntKind.i64.wrap (y : Int) = (y : Int) := IntWalk.i64_in _ (by omega)
  have b1 : (0 : Int) ≤ (i : Int) ∧ (i : Int) ≤ (y : Int) := by omega
  have b2 : (0 : Int) ≤ (y : Int) ∧ (y : Int) ≤ (L : Int) := by omega
  have b3 : ¬ L = i := by omega
  have c1 := hb.bL.cell
  have c2 := hb.bN.cell
  have c3 := hb.bD.cell
  have HB := Lib.hid hb
  have HNE := Lib.hid hne
  obtain ⟨n, hn⟩ : ∃ n, m + 1 = n := ⟨_, rfl⟩
  rw [hn] at r1 c2
  obtain ⟨A1, cd, hvd, _, _, _, _⟩ := hv
  have HVD := Lib.hid hvd
  clear hs hb hDB hdl hm hlast hL hN hD hDp hi hne hy hx hg hvd
  go_enter Try.func14, Try.ntmps14
  go_wp2
  go_region_with (go_at_call 15; (with_reducible refine (KT.out _ HB.out.bl.drew HB.out.bk.drew).mono ?_); rintro e w2 ⟨out, q, rfl, hbk, ht, hb2, ho2⟩)
  all_goals (try go_wp2)
  all_goals go_ret
  all_goals exact ⟨q, rfl, ht.lt, ⟨out, ⟨hbk, ht.len.trans HB.out.len, ht.all, (ho2.2 _ HNE.out.1).trans HB.out.bL, (ho2.2 _ HNE.out.2.1).trans HB.out.bN, (ho2.2 _ HNE.out.2.2).trans HB.out.bD, hb2⟩, HSTEP.out _ _ ht⟩, ho2⟩
end Go.Proofs.Ytdoohlehglakfaa
