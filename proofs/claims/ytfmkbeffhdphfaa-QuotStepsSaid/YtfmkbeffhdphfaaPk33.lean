/-
  Package quot: the closure of ByWord.
-/
import Derived.Test.YtfmkbeffhdphfaaPk29
import Derived.Test.YtfmkbeffhdphfaaPk32
namespace Go.Proofs.Ytfmkbeffhdphfaa
open Go.RowKit Go.Shelf
set_option linter.unusedVariables false
set_option linter.unusedSimpArgs false

/-- If the figures have come from the highest place on: they times the divisor, and what is left, are the upper words. -/
def BwS (n d : Nat) (l : List Nat) (tr : List (Nat × Nat)) (x : Nat) : Prop := ∀ k, k + tr.length = n → tr.map (·.1) = down n tr.length →
  val 18446744073709551616 (qrow n tr) * d + 18446744073709551616 ^ k * x = 18446744073709551616 ^ k * val 18446744073709551616 (l.drop k) ∧ ∀ j, j < k → (qrow n tr)[j]? = some 0
theorem bws_start {n d : Nat} {l : List Nat} (h : l.length = n) : BwS n d l [] 0 := by
  intro k hk _
  obtain rfl : k = n := by simpa using hk
  have hq : qrow k [] = List.replicate k 0 := rfl
  refine ⟨?_, fun j hj => by simp [qrow, hj]⟩
  rw [hq, val_zeros, List.drop_eq_nil_of_le (by omega)]
  simp [val]
theorem bws_step {n d x i : Nat} {l : List Nat} {tr : List (Nat × Nat)} (hl : l.length = n) (hi : i < l.length) (hd : 0 < d) (h : BwS n d l tr x) : BwS n d l (tr ++ [(i, (x * 18446744073709551616 + l[i]) / d)]) ((x * 18446744073709551616 + l[i]) % d) := by
  intro k hk hmap
  rw [List.length_append, List.length_singleton] at hk hmap
  rw [List.map_append] at hmap
  have hm2 : List.map (·.1) tr ++ [i] = down n ((List.map (·.1) tr).length + 1) := by rw [List.length_map]; exact hmap
  obtain ⟨h1, h2⟩ := down_snoc_inv hm2
  rw [List.length_map] at h1 h2
  obtain rfl : i = k := by omega
  obtain ⟨e1, e3⟩ := h (i + 1) (by omega) h1
  have hdr : val 18446744073709551616 (l.drop i) = l[i] + 18446744073709551616 * val 18446744073709551616 (l.drop (i + 1)) := by rw [List.drop_eq_getElem_cons hi]; rfl
  obtain ⟨a, ea⟩ : ∃ a, l[i] = a := ⟨_, rfl⟩
  rw [ea] at hdr ⊢
  have hdm := Nat.div_add_mod' (x * 18446744073709551616 + a) d
  obtain ⟨q, eq⟩ : ∃ q, (x * 18446744073709551616 + a) / d = q := ⟨_, rfl⟩
  obtain ⟨r, er⟩ : ∃ q, (x * 18446744073709551616 + a) % d = q := ⟨_, rfl⟩
  rw [eq, er] at hdm
  rw [eq, er]
  have hiq : i < (qrow n tr).length := by rw [qrow_len]; omega
  have v := val_set 18446744073709551616 (qrow n tr) i q hiq
  have hz : (qrow n tr)[i] = 0 := by
    have := e3 i (by omega)
    rw [List.getElem?_eq_getElem hiq] at this
    exact Option.some.inj this
  rw [hz, Nat.mul_zero, Nat.add_zero] at v
  rw [qrow_snoc]
  refine ⟨?_, fun j hj => by rw [List.getElem?_set_ne (by omega)]; exact e3 j (by omega)⟩
  rw [v, hdr, Nat.add_mul, Nat.mul_assoc (18446744073709551616 ^ i) q d]
  rw [Nat.pow_succ, Nat.mul_assoc, Nat.mul_assoc, Nat.mul_comm 18446744073709551616 x] at e1
  have e4 : 18446744073709551616 ^ i * (q * d) + 18446744073709551616 ^ i * r = 18446744073709551616 ^ i * (x * 18446744073709551616) + 18446744073709551616 ^ i * a := by
    rw [← Nat.mul_add, ← Nat.mul_add, hdm]
  rw [Nat.mul_add]
  omega
theorem bws_end {n d x : Nat} {l : List Nat} {tr : List (Nat × Nat)} (hx : x < d) (h : BwS n d l tr x) (ht : tr.map (·.1) = down n n) : val 18446744073709551616 (qrow n tr) = val 18446744073709551616 l / d ∧ x = val 18446744073709551616 l % d := by
  have hl : tr.length = n := by
    have := congrArg List.length ht
    rwa [List.length_map, down_length] at this
  obtain ⟨e1, -⟩ := h 0 (by omega) (by rw [hl]; exact ht)
  rw [List.drop_zero, Nat.pow_zero, Nat.one_mul, Nat.one_mul] at e1
  have hq : val 18446744073709551616 l / d = val 18446744073709551616 (qrow n tr) := by
    rw [← e1, Nat.add_comm, Nat.add_mul_div_right _ _ (by omega), Nat.div_eq_of_lt hx, Nat.zero_add]
  have hr : val 18446744073709551616 l % d = x := by
    rw [← e1, Nat.add_comm, Nat.add_mul_mod_self_right, Nat.mod_eq_of_lt hx]
  exact ⟨hq.symm, hr.symm⟩

/-- Between two figures: what is left lies in the closure's first cell. -/
structure BwB (W0 : World) (pl pa pd d x : Nat) (va : Value) (W : World) : Prop where
  lt : x < d
  bl' : Boxed W pl 23 (.int .u64 (x : Int))
  ba : Boxed W pa 22 va
  bd : Boxed W pd 23 (.int .u64 (d : Int))
  bl : Bl W0 W
def JBw (W0 : World) (pl pa pd n d : Nat) (va : Value) (l : List Nat) (tr : List (Nat × Nat)) (W : World) : Prop := ∃ x, BwB W0 pl pa pd d x va W ∧ BwS n d l tr x
theorem jbw_stays {W0 wq : World} {pl pa pd n d : Nat} {va : Value} {l : List Nat} (h1 : pl < wq.heap.size) (h2 : pa < wq.heap.size) (h3 : pd < wq.heap.size) (h5 : W0.heap.size ≤ wq.heap.size) (tr : List (Nat × Nat)) (W W' : World)
    (h : JBw W0 pl pa pd n d va l tr W) (hb : Below wq.heap.size W W') : JBw W0 pl pa pd n d va l tr W' := by
  obtain ⟨x, h, hs⟩ := h
  exact ⟨x, ⟨h.lt, (hb.block _ h1).trans h.bl', (hb.block _ h2).trans h.ba, (hb.block _ h3).trans h.bd, Below.trans h.bl (Below.mono hb h5)⟩, hs⟩

theorem bwb_end {W0 W w2 : World} {pl pa pd n d x q r i : Nat} {va : Value} {l : List Nat} {tr : List (Nat × Nat)} (hb : BwB W0 pl pa pd d x va W) (hs : BwS n d l (tr ++ [(i, q)]) r) (hne : pa ≠ pl ∧ pd ≠ pl) (hpl : W0.heap.size ≤ pl) (hq : q < 18446744073709551616 ∧ r < d)
    (hh : w2.heap = W.heap) (hbl : Bl W w2) : QuCall (JBw W0 pl pa pd n d va l) tr i pl W (.returned (.int .u64 (q : Int))) (w2.setCell ⟨pl, 0, none⟩ (.int .u64 (r : Int))) := by
  have b1 : Boxed w2 pl 23 (.int .u64 (x : Int)) := by unfold Boxed; rw [hh]; exact hb.bl'
  have b2 : Boxed w2 pa 22 va := by unfold Boxed; rw [hh]; exact hb.ba
  have b3 : Boxed w2 pd 23 (.int .u64 (d : Int)) := by unfold Boxed; rw [hh]; exact hb.bd
  have ho : Oth pl W w2 := by unfold Oth; rw [hh]; exact ⟨rfl, fun _ _ => rfl⟩
  exact ⟨q, rfl, hq.1, ⟨r, ⟨hq.2, b1.set _, boxed_other b2 _ _ _ (Ne.symm hne.1), boxed_other b3 _ _ _ (Ne.symm hne.2), (hb.bl.trans hbl).setCell (p := ⟨pl, 0, none⟩) hpl _⟩, hs⟩, ho.setCell 0 _⟩

set_option maxRecDepth 100000 in
set_option maxHeartbeats 4000000 in
theorem pbywordc_any (W0 W : World) (pl pa pd n d : Nat) (va : Value) (l : List Nat) (tr : List (Nat × Nat)) (i : Nat) (hv : Rw .u64 W0 va l) (hl : All 18446744073709551616 l) (hn : l.length = n) (hnb : n ≤ 1048576) (hd : 0 < d) (hdB : d < 18446744073709551616) (hi : i < n)
    (hpl : W0.heap.size ≤ pl) (hne : pa ≠ pl ∧ pd ≠ pl) (h : JBw W0 pl pa pd n d va l tr W) :
    Calls Try.prog 34 #[.int .i64 (i : Int), .pointer (some ⟨pl, 0, none⟩), .pointer (some ⟨pa, 0, none⟩), .pointer (some ⟨pd, 0, none⟩)] W (QuCall (JBw W0 pl pa pd n d va l) tr i pl W) := by
  obtain ⟨x, hb, hs⟩ := h
  have hil : i < l.length := by omega
  have hst := bws_step hn hil hd hs
  have haB := hl i hil
  obtain ⟨A1, ca, rfl, _, _, _, hx⟩ := hv
  obtain ⟨ad, rfl, hca⟩ := (hx.bl hb.bl).at_ hil
  obtain ⟨a, ea⟩ : ∃ a, l[i] = a := ⟨_, rfl⟩
  rw [ea] at hst haB hca
  have hxd := hb.lt
  have KD := Lib.hid (fun w => div_any x a d (by omega) haB hdB w)
  have d1 : divQ x a d = (x * 18446744073709551616 + a) / d := by unfold divQ num; rw [if_neg (by omega)]
  have d2 : divR x a d = (x * 18446744073709551616 + a) % d := by unfold divR num; rw [if_neg (by omega)]
  have d3 : divE x d = 0 := by unfold divE; rw [if_neg (by omega), if_neg (by omega)]
  rw [d1, d2, d3] at KD
  have hq : (x * 18446744073709551616 + a) / d < 18446744073709551616 := by
    rw [Nat.div_lt_iff_lt_mul hd]
    have : (x + 1) * 18446744073709551616 ≤ d * 18446744073709551616 := Nat.mul_le_mul_right _ hxd
    omega
  have hr : (x * 18446744073709551616 + a) % d < d := Nat.mod_lt _ hd
  obtain ⟨q, eq⟩ : ∃ q, (x * 18446744073709551616 + a) / d = q := ⟨_, rfl⟩
  obtain ⟨r, er⟩ : ∃ q, (x * 18446744073709551616 + a) % d = q := ⟨_, rfl⟩
  rw [eq, er] at hst KD
  rw [eq] at hq
  rw [er] at hr
  rw [hn] at hb ⊢
  have b1 : (0 : Int) ≤ (i : Int) ∧ (i : Int) < (n : Int) := by omega
  have c1 := hb.bl'.cell
  have f1 := hb.bl'.frozen
  have c2 := hb.ba.cell
  have c3 := hb.bd.cell
  have HB := Lib.hid hb
  have HS := Lib.hid hst
  have HNE := Lib.hid hne
  have HPL := Lib.hid hpl
  have HQ := Lib.hid (And.intro hq hr)
  clear hst hb hs hil haB hx ea hxd d1 d2 d3 eq er hl hd hdB hi hpl hne hn hq hr
  go_enter Try.func34, Try.ntmps34
  go_wp2
  go_region_with (go_at_call 35; (with_reducible refine (KD.out _).mono ?_); rintro e w2 ⟨rfl, hqq⟩; have hcc := (q_cell hqq ⟨pl, 0, none⟩).trans c1; have hff : w2.frozen? ⟨pl, 0, none⟩ = false := (by simp only [World.frozen?, q_heap hqq]; exact f1); have HH := Lib.hid (q_heap hqq); have HBL := Lib.hid (q_bl hqq); clear hqq)
  all_goals (try go_wp2)
  all_goals go_ret
  all_goals exact bwb_end HB.out HS.out HNE.out HPL.out HQ.out HH.out ((Bl.refl W).drew.trans HBL.out)
end Go.Proofs.Ytfmkbeffhdphfaa
