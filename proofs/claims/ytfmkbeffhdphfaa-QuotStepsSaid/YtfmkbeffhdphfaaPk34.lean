/-
  Package quot: ByWord, over numbers. · Package nat: Shl over numbers. · The document's rows of digits (layer 4): Less. · What package nat's other functions are to answer (layer 4), as properties; few, ordered of the statements.
-/
import Derived.Test.YtfmkbeffhdphfaaPk33
import Derived.Test.YtfmkbeffhdphfaaPk30
import Derived.Test.YtfmkbeffhdphfaaPk19
import Derived.Test.YtfmkbeffhdphfaaPk10
import Derived.Test.YtfmkbeffhdphfaaPk12
namespace Go.Proofs.Ytfmkbeffhdphfaa
open Go.RowKit Go.Shelf
set_option linter.unusedVariables false
set_option linter.unusedSimpArgs false

theorem pbywq_any (W0 W w3 : World) (n d : Nat) (va : Value) (l : List Nat) (hv : Rw .u64 W0 va l) (hl : All 18446744073709551616 l) (hn : l.length = n) (hnb : n < 1048576) (hd : 0 < d) (hdB : d < 18446744073709551616) (hsz : W0.heap.size ≤ W.heap.size)
    (bl : Bl W0 w3) (ba : Boxed w3 W.heap.size 22 va) (bd : Boxed w3 (W.heap.size + 1) 23 (.int .u64 (d : Int))) (bx : Boxed w3 (W.heap.size + 1 + 1) 23 (.int .u64 0)) :
    Calls Try.prog 30 #[.int .i64 (n : Int), .func (.func 34) #[] #[.pointer (some ⟨W.heap.size + 1 + 1, 0, none⟩), .pointer (some ⟨W.heap.size, 0, none⟩), .pointer (some ⟨W.heap.size + 1, 0, none⟩)]] w3
      (QuEnd (JBw W0 (W.heap.size + 1 + 1) W.heap.size (W.heap.size + 1) n d va l) w3 n) := by
  have h1 := bx.lt
  refine pquotW_any (W.heap.size + 1 + 1) W.heap.size (W.heap.size + 1) n (W.heap.size + 1 + 1) hnb _ h1 _ (jbw_stays h1 (by omega) (by omega) (by omega)) ?_ ?_ ?_
  · rintro tr w ⟨x, h, -⟩
    exact ⟨_, _, _, h.bl'⟩
  · intro tr i w hi hJ _
    exact pbywordc_any W0 w _ _ _ n d va l tr i hv hl hn (by omega) hd hdB hi (by omega) (by omega) hJ
  · exact ⟨0, ⟨hd, bx, ba, bd, bl⟩, bws_start hn⟩

/-- A row, a word and an error are answered. -/
def RwEndW (W : World) (l : List Nat) (x : Nat) (err : Int) (e : Ending) (w : World) : Prop := ∃ q, e = .returned (.tuple #[q, .int .u64 (x : Int), .int .i64 err]) ∧ Rw .u64 w q l ∧ Bl W w
theorem RwEndW.mk {W w : World} {l : List Nat} {x : Nat} {q : Value} {err : Int} (h : Rw .u64 w q l) (g : Bl W w) : RwEndW W l x err (.returned (.tuple #[q, .int .u64 (x : Int), .int .i64 err])) w := ⟨q, rfl, h, g⟩

set_option maxRecDepth 100000 in
set_option maxHeartbeats 4000000 in
theorem pByWord (W : World) (va : Value) (A d : Nat) (ha : Nu W va A) (hd : 0 < d) (hdB : d < 18446744073709551616) :
    Calls Try.prog 14 #[va, .int .u64 (d : Int)] W (RwEndW W (dig 18446744073709551616 (A / d)) (A % d) 0) := by
  obtain ⟨l, hr, hl, hln, hA⟩ := ha
  have HR := Lib.hid hr
  obtain ⟨n, hn⟩ : ∃ n, l.length = n := ⟨_, rfl⟩
  obtain ⟨B1, c1, e1⟩ := rw_shape hr hn
  subst e1
  have KQ := Lib.hid (fun w3 bl ba bd bx => pbywq_any W W w3 n d (.slice B1 n c1) l hr hl hn (by omega) hd hdB (Nat.le_refl _) bl ba bd bx)
  have HE := Lib.hid (fun x tr (hx : x < d) (h : BwS n d l tr x) (ht : tr.map (·.1) = down n n) => bws_end hx h ht)
  rw [hA] at HE
  have d0 : ((d : Int) == 0) = false := by rw [beq_eq_false_iff_ne]; omega
  clear hl hln hA hd hdB hn hr
  go_enter Try.func14, Try.ntmps14
  go_wp2_with (go_at_call 30; refine (KQ.out _ ((((Bl.refl W).alloc _).alloc _).alloc _) (((Boxed.new W _ _).alloc _).alloc _) (by have := Boxed.new (W.alloc (.cells #[.slice B1 n c1] 22)) 23 (.int .u64 (d : Int)); rw [World.size_alloc] at this; exact this.alloc _) (by have := Boxed.new ((W.alloc (.cells #[.slice B1 n c1] 22)).alloc (.cells #[.int .u64 (d : Int)] 23)) 23 (.int .u64 0); rw [World.size_alloc, World.size_alloc] at this; exact this)).mono ?_; rintro e w4 ⟨v, tr, rfl, htr, hall4, hrw, ⟨x, hB, hS⟩, hsz4⟩; obtain ⟨e1, e2⟩ := HE.out _ _ hB.lt hS htr; rw [e1] at hrw; have hcx := hB.bl'.cell; have HRW := Lib.hid hrw; have HBL := Lib.hid hB.bl; have HX := Lib.hid e2; clear hB hS e1 e2 hall4 hrw htr)
  go_region_with (fail)
  all_goals (try go_wp2)
  all_goals go_ret3
  all_goals (rw [HX.out]; exact RwEndW.mk (HRW.out.bl (Bl.refl _).drew) HBL.out.drew)

set_option maxRecDepth 100000 in
theorem pByWord0 (W : World) (va : Value) (A : Nat) (ha : Nu W va A) :
    Calls Try.prog 14 #[va, .int .u64 0] W (RwEndW W [] 0 2) := by
  obtain ⟨l, hr, -, -, -⟩ := ha
  obtain ⟨B1, c1, e1⟩ := rw_shape hr rfl
  subst e1
  go_enter Try.func14, Try.ntmps14
  go_wp2
  go_ret3
  exact RwEndW.mk (Rw.nil _ _) (((Bl.refl W).alloc _).alloc _)
end Go.Proofs.Ytfmkbeffhdphfaa
namespace Go.Proofs.Ytfmkbeffhdphfaa
open Go.RowKit
set_option linter.unusedVariables false
set_option linter.unusedSimpArgs false

theorem raiseN (W : World) (v : Value) (X s : Nat) (hs : s ≤ 64) (hv : Rw .u64 W v (dig 18446744073709551616 X)) (hl : (dig 18446744073709551616 X).length < 1048576) :
    Calls Try.prog 58 #[.func (.func 59) #[] #[], v, .int .u64 (s : Int)] W (RwEnd .u64 W (dig 18446744073709551616 (X * 2 ^ s))) := by
  have a1 := all_dig 18446744073709551616 (by decide) X
  have h := pspread_any 59 s raF raG _ raise_nx v _ a1 hl hs (wds_raise _ a1 s) W hv
  rwa [raise_made _ a1 s hs, val_dig _ (by decide)] at h
theorem raised_len (X s : Nat) (hs : s ≤ 64) (hl : (dig 18446744073709551616 X).length < 1048576) : (dig 18446744073709551616 (X * 2 ^ s)).length ≤ 1048576 := by
  have h1 := dig_lt 18446744073709551616 (by decide) X
  have h2 : 2 ^ s ≤ 18446744073709551616 := by
    have : (18446744073709551616 : Nat) = 2 ^ 64 := by decide
    rw [this]
    exact Nat.pow_le_pow_right (by decide) hs
  have h3 : X * 2 ^ s < 18446744073709551616 ^ ((dig 18446744073709551616 X).length + 1) := by
    rw [Nat.pow_succ]
    exact Nat.lt_of_lt_of_le (Nat.mul_lt_mul_of_pos_right h1 (Nat.two_pow_pos s)) (Nat.mul_le_mul_left _ h2)
  have h4 := dig_len_of_lt _ (by decide) _ _ h3
  omega
theorem splice_up (m : List Nat) (up k : Nat) (hk : m.length = k) : splice (List.replicate (up + k) 0) up (m.take k) = List.replicate up 0 ++ m := by
  rw [← hk, List.take_of_length_le (Nat.le_refl _)]
  simp [splice]

set_option maxRecDepth 100000 in
set_option maxHeartbeats 2000000 in
theorem pShl : CShl := by
  intro W v X n hv hn1 hn2
  obtain ⟨i0, hi, hz0, hz1, hz2⟩ := info_parts infoW
  have h1 := nu_len hv
  have hb : n.toNat % 64 ≤ 64 := by omega
  have hu : n.toNat / 64 ≤ 524288 := by omega
  have KP := Lib.hid (fun w => pplace_any n hn1 hn2 w)
  have KT := Lib.hid (trimN W v X hv)
  have KR := Lib.hid (fun v2 (h : Rw .u64 W v2 (dig 18446744073709551616 X)) => raiseN W v2 X (n.toNat % 64) hb h h1)
  have hk := raised_len X (n.toNat % 64) hb h1
  have eX : X * 2 ^ n.toNat = X * 2 ^ (n.toNat % 64) * 18446744073709551616 ^ (n.toNat / 64) := by rw [two_n n.toNat, Nat.mul_assoc, Nat.mul_comm (2 ^ _)]
  rw [eX]
  obtain ⟨s, hs⟩ : ∃ s, n.toNat % 64 = s := ⟨_, rfl⟩
  obtain ⟨up, hup⟩ : ∃ s, n.toNat / 64 = s := ⟨_, rfl⟩
  rw [hs] at KP KR hk hb ⊢
  rw [hup] at KP hu ⊢
  obtain ⟨Z, hZ⟩ : ∃ Z, X * 2 ^ s = Z := ⟨_, rfl⟩
  rw [hZ] at KR hk ⊢
  have r1 : IntKind.u64.wrap (s : Int) = (s : Int) := by rw [IntKind.wrap_u64]; omega
  have sb : (s : Int) ≤ 64 := by omega
  clear hs hup hZ eX hv h1 hb
  rcases Nat.eq_zero_or_pos Z with h0 | h0
  · subst h0
    rw [Nat.zero_mul]
    rw [dig_zero] at KR
    go_enter Try.func65, Try.ntmps65
    go_wp2_with (first
      | (go_at_call 57; (with_reducible refine (KP.out _).mono ?_); rintro e w' ⟨rfl, rfl⟩)
      | (go_at_call 46; (with_reducible refine KT.out.mono ?_); rintro e w' ⟨v2, rfl, rfl, hv2⟩; have HV := Lib.hid hv2; clear hv2)
      | (go_at_call 58; refine (KR.out _ HV.out).mono ?_; rintro e w2 ⟨v3, rfl, hv3, hb3⟩; have HB3 := Lib.hid hb3; obtain ⟨A3, c3, rfl, _⟩ := hv3; clear hb3))
    go_ret
    exact RwEnd.mk (Rw.nil _ _) HB3.out
  · have hkp := dig_len_pos 18446744073709551616 (by decide) Z h0
    have HE := Lib.hid (dig_up 18446744073709551616 (by decide) Z h0 up)
    obtain ⟨l, hl⟩ : ∃ l, dig 18446744073709551616 Z = l := ⟨_, rfl⟩
    rw [hl] at KR hk hkp HE
    obtain ⟨k, hkl⟩ : ∃ k, l.length = k := ⟨_, rfl⟩
    rw [hkl] at hk hkp
    have HKL := Lib.hid hkl
    have HU := Lib.hid hu
    have HKK := Lib.hid hk
    have hmk := fun W => run_mk (P := Try.prog) .u64 22 23 i0 Try.underlying22 hi hz0 hz1 (by omega) (up + k) (by omega) W
    obtain ⟨t, ht⟩ : ∃ t, up + k = t := ⟨_, rfl⟩
    rw [ht] at hmk
    have HT := Lib.hid ht
    have n1 : ((k : Int) == 0) = false := by rw [beq_eq_false_iff_ne]; omega
    have n2 : decide (268435455 - (k : Int) < (up : Int)) = false := decide_eq_false (by omega)
    have n3 : (up : Int) + (k : Int) = (t : Int) := by omega
    have n4 : (k : Int) ≤ 1048577 := by omega
    have n5 : (up : Int) ≤ 524288 := by omega
    have n6 : (0 : Int) ≤ (up : Int) ∧ (up : Int) ≤ (t : Int) := by omega
    have n7 : (t : Int) ≤ 1573000 := by omega
    have n8 : ¬ t = up := by omega
    have n9 : t - up = k := by omega
    clear hl hkl hkp hk hu h0 ht
    go_enter Try.func65, Try.ntmps65
    go_wp2_with (first
      | (go_at_call 57; (with_reducible refine (KP.out _).mono ?_); rintro e w' ⟨rfl, rfl⟩)
      | (go_at_call 46; (with_reducible refine KT.out.mono ?_); rintro e w' ⟨v2, rfl, rfl, hv2⟩; have HV := Lib.hid hv2; clear hv2)
      | (go_at_call 58; refine (KR.out _ HV.out).mono ?_; rintro e w2 ⟨v3, rfl, hv3, hb3⟩; have HB3 := Lib.hid hb3; obtain ⟨A3, c3, rfl, -, -, -, hx3⟩ := hv3; have HX3 := Lib.hid hx3; clear hb3 hx3; rw [HKL.out])
      | (refine copy_bk w2 _ .u64 23 rfl _ _ _ _ rfl 23 Try.underlying22 (by rw [hi]; simp [hz1]) w2.heap.size up k k A3 k c3 rfl rfl (List.replicate t 0) l HKL.out.symm (Bk.made _ _ _ _) (HX3.out.bl ((Bl.refl w2).alloc _)) (by have := HKL.out; have := HT.out; simp; omega) ((Bl.refl w2).alloc _) (Nat.le_refl _) ?_; intro w' hbk hbl hoth))
    go_ret
    have hb := hbk.out
    rw [← HT.out, splice_up l up k HKL.out] at hb
    refine RwEnd.of (hb.rw (n := t) (by have := HKL.out; have := HT.out; simp; omega) (by unfold maxLen; have := HT.out; have := HU.out; have := HKK.out; omega)) (HB3.out.trans hbl.out) HE.out
end Go.Proofs.Ytfmkbeffhdphfaa
namespace Go.Proofs.Ytfmkbeffhdphfaa
open Go.RowKit
set_option linter.unusedVariables false

end Go.Proofs.Ytfmkbeffhdphfaa
namespace Go.Proofs.Ytfmkbeffhdphfaa
open Go.RowKit
set_option linter.unusedVariables false

def CShr : Prop := ∀ (W : World) (v : Value) (X : Nat) (n : Int), Nu W v X → n ≤ 33554432 → -9223372036854775808 ≤ n → Calls Try.prog 38 #[v, .int .i64 n] W (RwEnd .u64 W (dig 18446744073709551616 (X / 2 ^ n.toNat)))
def CLen : Prop := ∀ (W : World) (v : Value) (X : Nat), Nu W v X → Calls Try.prog 61 #[v] W fun e w => e = .returned (.int .i64 ((blen X : Nat) : Int)) ∧ Bl W w

/-! ### few, ordered -/
end Go.Proofs.Ytfmkbeffhdphfaa
