/-
  Package quot at any length that the form allows (2^44 words at most): rows that are made, trimmed, moved, taken off, added; estimate. (Printed by gen/quz.py.)
-/
import Derived.Test.YtdoohlehglakfaaPk24
import Derived.Test.YtdoohlehglakfaaPk16
import Derived.Test.YtdoohlehglakfaaPk28
namespace Go.Proofs.Ytdoohlehglakfaa
open Go.RowKit Go.Shelf
set_option linter.unusedVariables false
set_option linter.unusedSimpArgs false

/-- v reads as the number X, in fewer than 2^44 words. -/
def NuZ (W : World) (v : Value) (X : Nat) : Prop := ∃ l, Rw .u64 W v l ∧ All 18446744073709551616 l ∧ l.length < 17592186044416 ∧ val 18446744073709551616 l = X
theorem NuZ.bl {W w : World} {v : Value} {X : Nat} (h : NuZ W v X) (g : Bl W w) : NuZ w v X := by
  obtain ⟨l, h1, h2⟩ := h
  exact ⟨l, h1.bl g, h2⟩
theorem NuZ.mk {W : World} {v : Value} {l : List Nat} (h : Rw .u64 W v l) (ha : All 18446744073709551616 l) (hl : l.length < 17592186044416) : NuZ W v (val 18446744073709551616 l) := ⟨l, h, ha, hl, rfl⟩

theorem run_mkZ {P : Program} (k : IntKind) (t e : TypeId) (i : TypeInfo) (ht : P.underlying t = some (.slice e)) (hi : P.info? e = some i) (hz : i.zero = some (.int k 0)) (hs : i.size = 1) (hb8 : i.bytes ≤ 8) (n : Nat) (hn : n < 35184372088832) (w : World) :
    (Instr.makeSlice t (.int .i64 (n : Int)) (.int .i64 (n : Int))).run P w = .ok (.slice (some ⟨w.heap.size, 0, none⟩) n n) (w.alloc (.cells (vs k (List.replicate n 0)).toArray e)) := by
  have hb : (i.bytes : Int) * (n : Int) ≤ 281474976710656 := by
    have h : i.bytes * n ≤ 8 * n := Nat.mul_le_mul_right _ hb8
    have h' : ((i.bytes * n : Nat) : Int) ≤ 281474976710656 := by omega
    rwa [Int.natCast_mul] at h'
  have hr := run_make (P := P) w t e i (.int k 0) ht hi hz .i64 .i64 n n (by omega) (by omega) hb (by omega)
  simp only [Int.toNat_natCast] at hr
  rw [hr, hs, Nat.mul_one]
  have e1 : madeCells (Value.int k 0).cells n = (vs k (List.replicate n 0)).toArray := by
    apply Array.toList_inj.1
    have h1 : (Value.int k 0).cells = #[.int k 0] := rfl
    rw [h1, toList_madeCells_one]
    simp [vs]
  rw [e1]

set_option maxRecDepth 100000 in
set_option maxHeartbeats 2000000 in
theorem ptrim_anyZ (v : Value) (l : List Nat) (ha : All 18446744073709551616 l) (hl : l.length < 35184372088832) (w : World) (hr : Rw .u64 w v l) :
    Calls Try.prog 20 #[v] w (RwSame w (dig 18446744073709551616 (val 18446744073709551616 l))) := by
  obtain ⟨A, c, rfl, hc, hm, h0, hx⟩ := hr
  have hlc : (l.length : Int) ≤ 35184372088832 := by omega
  obtain ⟨L, hL⟩ : ∃ L, l.length = L := ⟨_, rfl⟩
  have HA := Lib.hid ha
  have HX := Lib.hid hx
  have H0 := Lib.hid h0
  have HL := Lib.hid hL
  have HM := Lib.hid hm
  have hcL : (L : Int) ≤ (c : Int) := by omega
  have HCL := Lib.hid hcL
  rw [hL] at hlc ⊢
  clear ha hx h0 hL hc hl hm
  go_enter Try.func20, Try.ntmps20
  go_wp2
  go_loop [3] (fun s => ∃ n : Nat, Hid (Zr l n) ∧ s = .int .i64 (n : Int)) (fun s => (intOf s).toNat)
  case atStart => exact ⟨l.length, zr_start l, by rw [HL.out]⟩
  case round =>
    obtain ⟨n, hz, rfl⟩ := hrel
    have hn := hz.out.1
    rw [HL.out] at hn
    have hni : (n : Int) ≤ (c : Int) := by omega
    have HTL := Lib.hid (show n = (l.take n).length by rw [List.length_take, HL.out]; omega)
    have HNM := Lib.hid (show n ≤ maxLen by have := HM.out; omega)
    by_cases h0 : n = 0
    · have HE := Lib.hid (trim_eq 18446744073709551616 (by omega) HA.out hz.out (Or.inl h0))
      have d0 : decide (0 < n) = false := decide_eq_false (by omega)
      have HN := Lib.hid hn
      have HZ := Lib.hid h0
      clear h0
      go_wp2
      go_ret
      exact RwSame.of ((HX.out.take _).rw HTL.out (Nat.le_refl _) HNM.out (fun _ => HZ.out)) rfl HE.out
    · obtain ⟨j, hj⟩ : ∃ j, n = j + 1 := ⟨n - 1, by omega⟩
      have hjl : j < l.length := by rw [HL.out]; omega
      obtain ⟨ad, hA, hcell⟩ := HX.out.at_ hjl
      obtain ⟨x, hxe⟩ : ∃ x, l[j] = x := ⟨_, rfl⟩
      rw [hxe] at hcell
      have d0 : decide (0 < n) = true := decide_eq_true (by omega)
      have r1 : (n : Int) - 1 = (j : Int) := by omega
      have b1 : (0 : Int) ≤ (j : Int) ∧ (j : Int) < (L : Int) := by omega
      have HN := Lib.hid hn
      have HJ := Lib.hid hj
      by_cases h1 : x = 0
      · have hz' := Lib.hid (zr_step (hj ▸ hz.out) hjl (hxe.trans h1))
        subst hA
        subst h1
        clear hxe hj h0
        go_wp2
        go_round
        case rel => exact ⟨j, hz', by go_num⟩
        case measure => have := HJ.out; simp [intOf] <;> omega
      · have HE := Lib.hid (trim_eq 18446744073709551616 (by omega) HA.out hz.out (Or.inr ⟨by omega, by subst hj; simp only [Nat.add_sub_cancel]; rw [hxe]; exact h1⟩))
        have hb : ((x : Int) == 0) = false := by rw [beq_eq_false_iff_ne]; omega
        subst hA
        clear hxe h1 hj h0
        go_wp2
        go_ret
        exact RwSame.of ((HX.out.take _).rw HTL.out (Nat.le_refl _) HNM.out (fun h => by cases h)) rfl HE.out

set_option maxRecDepth 100000 in
set_option maxHeartbeats 2000000 in
theorem pwidened_anyZ (v : Value) (l : List Nat) (n : Nat) (hn : l.length ≤ n) (hb : n < 35184372088832) (w : World) (hr : Rw .u64 w v l) :
    Calls Try.prog 21 #[v, .int .i64 (n : Int)] w (BkNew w n (l ++ List.replicate (n - l.length) 0)) := by
  obtain ⟨i0, hi, hz0, hz1, hz2⟩ := info_parts infoW
  obtain ⟨A, c, rfl, hc, hm, h0, hx⟩ := hr
  have hmk := run_mkZ (P := Try.prog) .u64 22 33 i0 Try.underlying22 hi hz0 hz1 (by omega) n hb w
  have hlc : (l.length : Int) ≤ 35184372088832 := by omega
  have HS := Lib.hid (splice_wide l n hn)
  obtain ⟨L, hL⟩ : ∃ L, l.length = L := ⟨_, rfl⟩
  have HL := Lib.hid hL
  have HX := Lib.hid hx
  have HN := Lib.hid hn
  rw [hL] at hlc
  show Calls Try.prog 21 #[.slice A l.length c, .int .i64 (n : Int)] w _
  rw [hL]
  clear hx h0 hL hc hm hn hb
  go_enter Try.func21, Try.ntmps21
  go_wp2_with (refine copy_bk w _ .u64 33 rfl _ _ _ _ rfl 33 Try.underlying22 (by rw [hi]; simp [hz1]) w.heap.size 0 n n A L c rfl rfl (List.replicate n 0) l HL.out.symm (Bk.made _ _ _ _) (HX.out.bl ((Bl.refl w).alloc _)) (by simp; omega) ((Bl.refl w).alloc _) (Nat.le_refl _) ?_; intro w' hbk hbl hoth)
  go_ret
  refine ⟨rfl, ?_, hbl.out, ?_⟩
  · have := hbk.out
    rw [HS.out] at this
    rw [← HL.out]
    exact this
  · rw [hoth.out.1]; simp

theorem trimNZ (W : World) (v : Value) (X : Nat) (h : NuZ W v X) : Calls Try.prog 20 #[v] W (RwSame W (dig 18446744073709551616 X)) := by
  obtain ⟨l, h1, ha, hl, hx⟩ := h
  have := ptrim_anyZ v l ha (by omega) W h1
  rwa [hx] at this

theorem nu_lenZ {W : World} {v : Value} {X : Nat} (h : NuZ W v X) : (dig 18446744073709551616 X).length < 17592186044416 := by
  obtain ⟨l, h1, ha, hl, hx⟩ := h
  have := dig_len_le 18446744073709551616 (by decide) l ha
  rw [hx] at this
  omega

set_option maxRecDepth 100000 in
theorem pNormZ (W : World) (v : Value) (X : Nat) (hv : NuZ W v X) : Calls Try.prog 11 #[v] W (RwEnd .u64 W (dig 18446744073709551616 X)) := by
  have hln := (nu_lenZ hv)
  have KT := Lib.hid (trimNZ W v X hv)
  have KW := Lib.hid (fun v2 (h : Rw .u64 W v2 (dig 18446744073709551616 X)) => pwidened_anyZ v2 _ _ (Nat.le_refl _) (by omega) W h)
  obtain ⟨l, hl⟩ : ∃ l, dig 18446744073709551616 X = l := ⟨_, rfl⟩
  rw [hl] at KT KW hln ⊢
  have HL := Lib.hid hln
  clear hl hln
  go_enter Try.func11, Try.ntmps11
  go_wp2_with (first
    | (go_at_call 20; refine KT.out.mono ?_; rintro e w' ⟨v2, rfl, rfl, hv2⟩; have HV := Lib.hid hv2; obtain ⟨A, c, rfl, _⟩ := hv2)
    | (go_at_call 21; refine (KW.out _ HV.out).mono ?_; rintro e w' ⟨rfl, hbk, hbl, hsz⟩))
  go_ret
  exact RwEnd.of (hbk.rw (n := l.length) (by simp) (by unfold maxLen; have := HL.out; omega)) hbl (by simp)

set_option maxRecDepth 100000 in
theorem pmoved_anyZ (v : Value) (l : List Nat) (i s : Nat) (hl : All 18446744073709551616 l) (hi : i < l.length) (hs : s ≤ 63) (hb : l.length ≤ 35184372088832) (w : World) (hv : Rw .u64 w v l) :
    Calls Try.prog 30 #[v, .int .i64 (i : Int), .int .i64 (s : Int)] w fun e w' => e = .returned (.int .u64 ((mvd l i s : Nat) : Int)) ∧ w = w' := by
  obtain ⟨A, c, rfl, _, _, _, hx⟩ := hv
  obtain ⟨ad, rfl, hc⟩ := hx.at_ hi
  have hg : l[i]?.getD 0 = l[i] := by simp [hi]
  obtain ⟨x, ex⟩ : ∃ x, l[i] = x := ⟨_, rfl⟩
  rw [ex] at hg hc
  have ib : (i : Int) ≤ 35184372088832 := by omega
  have sb : (s : Int) ≤ 63 := by omega
  have sb0 : decide ((s : Int) < 0) = false := decide_eq_false (by omega)
  by_cases h0 : i = 0
  · subst h0
    have em : IntKind.u64.wrap ((x : Int) * 2 ^ s) = ((mvd l 0 s : Nat) : Int) := by
      unfold mvd
      rw [hg, if_pos rfl, pow_cast, ← Int.natCast_mul, wrapM]
      unfold raF
      rw [Nat.or_zero]
    obtain ⟨m, hm⟩ : ∃ m, mvd l 0 s = m := ⟨_, rfl⟩
    rw [hm] at em ⊢
    obtain ⟨L, hL⟩ : ∃ L, l.length = L := ⟨_, rfl⟩
    rw [hL] at hi ⊢
    have b1 : (0 : Int) ≤ 0 ∧ (0 : Int) < (L : Int) := by omega
    rw [Addr.add_zero'] at hc
    rw [show ((0 : Nat) : Int) = 0 from rfl]
    clear hm hg ex hx hl hb hL
    go_enter Try.func30, Try.ntmps30
    go_wp2
    go_ret
    exact ⟨rfl, rfl⟩
  · obtain ⟨j, rfl⟩ : ∃ j, i = j + 1 := ⟨i - 1, by omega⟩
    have hj : j < l.length := by omega
    obtain ⟨ad2, e2, hc2⟩ := hx.at_ hj
    cases e2
    have hgj : l[j + 1 - 1]?.getD 0 = l[j] := by simp [hj]
    have hyB := hl j hj
    obtain ⟨y, ey⟩ : ∃ y, l[j] = y := ⟨_, rfl⟩
    rw [ey] at hgj hc2 hyB
    have hcl : raG y s 0 < 18446744073709551616 := raG_lt y s 0 hyB
    have em : bits .or .u64 (IntKind.u64.wrap ((x : Int) * 2 ^ s)) ((raG y s 0 : Nat) : Int) = ((mvd l (j + 1) s : Nat) : Int) := by
      rw [raise_word x s _ hcl]
      unfold mvd
      rw [hg, if_neg (by omega), hgj]
    have eg : (y : Int) / 2 ^ (64 - s) = ((raG y s 0 : Nat) : Int) := raise_more y s 0
    obtain ⟨g, hgg⟩ : ∃ m, raG y s 0 = m := ⟨_, rfl⟩
    rw [hgg] at em eg
    obtain ⟨m, hm⟩ : ∃ m, mvd l (j + 1) s = m := ⟨_, rfl⟩
    rw [hm] at em ⊢
    obtain ⟨t, ht⟩ : ∃ t, 64 - s = t := ⟨_, rfl⟩
    rw [ht] at eg
    obtain ⟨L, hL⟩ : ∃ L, l.length = L := ⟨_, rfl⟩
    rw [hL] at hi hj ⊢
    obtain ⟨k, hk⟩ : ∃ k, j + 1 = k := ⟨_, rfl⟩
    rw [hk] at hi ib hc ⊢
    have b1 : (0 : Int) ≤ (k : Int) ∧ (k : Int) < (L : Int) := by omega
    have b2 : (0 : Int) ≤ (j : Int) ∧ (j : Int) < (L : Int) := by omega
    have r1 : (k : Int) - 1 = (j : Int) := by omega
    have r2 : (64 : Int) - (s : Int) = (t : Int) := by omega
    have r3 : decide ((0 : Int) < (k : Int)) = true := decide_eq_true (by omega)
    have r4 : decide (0 < k) = true := decide_eq_true (by omega)
    have tb : (t : Int) ≤ 64 := by omega
    clear hm hg hgj hgg ex ey hx hl hb hL ht hk hcl hyB h0 hi hj
    go_enter Try.func30, Try.ntmps30
    go_wp2
    go_ret
    exact ⟨rfl, rfl⟩

set_option maxRecDepth 100000 in
set_option maxHeartbeats 4000000 in
theorem ptakeTimes_anyZ (W0 W : World) (g o Lr Cr : Nat) (v : Value) (l : List Nat) (y : Nat) (row : List Nat) (hb : Bl W0 W) (hg : W0.heap.size ≤ g) (hk : Bk .u64 33 W g row) (hv : Rw .u64 W0 v l)
    (hl : All 18446744073709551616 l) (hrow : All 18446744073709551616 row) (hlen : o + l.length ≤ row.length) (hLr : l.length ≤ Lr) (hs : row.length < 35184372088832) (hy : y < 18446744073709551616) :
    Calls Try.prog 25 #[.slice (some ⟨g, o, none⟩) Lr Cr, v, .int .u64 (y : Int)] W (TkEnd W0 W g row l y o) := by
  obtain ⟨A, c0, rfl, _, _, _, hx⟩ := hv
  have H1 := Lib.hid hx
  obtain ⟨n, hn⟩ : ∃ n, l.length = n := ⟨_, rfl⟩
  rw [hn] at hlen hLr ⊢
  have HN := Lib.hid hn
  have HST := Lib.hid (tk_start (by decide) hrow l y o)
  have HLEN := Lib.hid hlen
  have HLR := Lib.hid hLr
  have HY := Lib.hid hy
  have HG := Lib.hid hg
  have HK := Lib.hid hk
  have HB := Lib.hid hb
  have HA := Lib.hid hl
  have hnb : (n : Int) ≤ 35184372088832 := by omega
  clear hx hn hrow hlen hLr hs hy hg hk hb hl
  go_enter Try.func25, Try.ntmps25
  go_wp2
  go_loopw [7, 15] (fun cc s wr => ∃ (i c : Nat) (out : List Nat), i ≤ n ∧ s = .int .i64 (i : Int) ∧ cc = .int .u64 (c : Int) ∧ Hid (Bk .u64 33 wr g out) ∧ Hid (TkSt 18446744073709551616 row l y o i c out) ∧ Hid (Bl W0 wr) ∧ Hid (Oth g W wr)) (fun _ s _ => n - (intOf s).toNat)
  case atStart => exact ⟨0, 0, _, Nat.zero_le _, rfl, rfl, HK, HST, HB, Oth.refl _ _⟩
  case round =>
    obtain ⟨i, c, out, hil, rfl, rfl, hbk, hd, hb, ho⟩ := hrel
    by_cases hlt : i < n
    · have hil' : i < l.length := by rw [HN.out]; exact hlt
      have hoi : o + i < out.length := by rw [hd.out.len]; have := HLEN.out; omega
      obtain ⟨ad, hA, hca⟩ := (H1.out.bl hb.out).at_ (i := i) hil'
      have hco := hbk.out.cell (o + i) hoi
      have hfz := hbk.out.free (o + i)
      have hst := fun r' c' => tk_step (by decide) hd.out hil' hoi r' c'
      have ha1 := HA.out i hil'
      have hr1 := hd.out.all (o + i) hoi
      obtain ⟨a, ea⟩ : ∃ a, l[i] = a := ⟨_, rfl⟩
      obtain ⟨r, er⟩ : ∃ a, out[o + i] = a := ⟨_, rfl⟩
      rw [ea] at hca hst ha1
      rw [er] at hco hst hr1
      obtain ⟨q1, q2, q3, q4⟩ := tk_num a y c r ha1 HY.out hd.out.lt hr1
      have HS := Lib.hid (hst _ _ q3 q4 q2)
      have KM := Lib.hid (fun w => mul_any a y ha1 HY.out w)
      have KA := Lib.hid (fun w => add_any (mulL a y) c 0 w)
      have KB := Lib.hid (fun w => sub_any r (addS (mulL a y) c 0) 0 w)
      obtain ⟨h, eh⟩ : ∃ h, mulH a y = h := ⟨_, rfl⟩
      obtain ⟨lo, elo⟩ : ∃ h, mulL a y = h := ⟨_, rfl⟩
      rw [eh, elo] at q1 q2 HS KM
      rw [elo] at KA KB
      obtain ⟨k1, ek1⟩ : ∃ h, addC lo c 0 = h := ⟨_, rfl⟩
      obtain ⟨low, elow⟩ : ∃ h, addS lo c 0 = h := ⟨_, rfl⟩
      rw [ek1] at q1
      rw [ek1, elow] at q2 HS KA
      rw [elow] at KB
      obtain ⟨k2, ek2⟩ : ∃ h, subB r low 0 = h := ⟨_, rfl⟩
      obtain ⟨r', er'⟩ : ∃ h, subD r low 0 = h := ⟨_, rfl⟩
      rw [ek2, er'] at HS KB
      rw [ek2] at q2
      obtain ⟨h', eh'⟩ : ∃ x, h + k1 = x := ⟨_, rfl⟩
      rw [eh'] at q1 q2 HS
      obtain ⟨c', ec'⟩ : ∃ x, h' + k2 = x := ⟨_, rfl⟩
      rw [ec'] at q2 HS
      have r1 : IntKind.u64.wrap (h' : Int) = (h' : Int) := wrapN _ q1
      have r2 : (h : Int) + (k1 : Int) = (h' : Int) := by omega
      have r3 : IntKind.u64.wrap (c' : Int) = (c' : Int) := wrapN _ q2
      have r4 : (h' : Int) + (k2 : Int) = (c' : Int) := by omega
      have Z0 := Lib.hid (show ((0 : Nat) : Int) = 0 from rfl)
      have b1 : (0 : Int) ≤ (i : Int) ∧ (i : Int) < (n : Int) := by omega
      have b2 : (0 : Int) ≤ (i : Int) ∧ (i : Int) < (Lr : Int) := by have := HLR.out; omega
      have HBK := Lib.hid (hbk.out.set (o + i) r' hoi)
      have HB2 := Lib.hid (hb.out.setCell (p := ⟨g, o + i, none⟩) HG.out (.int .u64 (r' : Int)))
      have HO2 := Lib.hid (ho.out.setCell (o + i) (.int .u64 (r' : Int)))
      have hil1 : Hid (i + 1 ≤ n) := hlt
      rw [Z0.out] at KA KB
      subst hA
      clear hst hd ea er eh elo ek1 elow ek2 er' eh' ec' q1 q2 q3 q4 ha1 hr1 hoi hil' hbk hb ho
      go_wp2_with (first
        | (go_at_call 33; (with_reducible refine (KM.out _).mono ?_); rintro e w' ⟨rfl, rfl⟩)
        | (go_at_call 34; (with_reducible refine (KA.out _).mono ?_); rintro e w' ⟨rfl, rfl⟩)
        | (go_at_call 24; (with_reducible refine (KB.out _).mono ?_); rintro e w' ⟨rfl, rfl⟩))
      go_roundw
      case rel => exact ⟨i + 1, c', _, hil1.out, by go_num, by first | rfl | go_num, HBK, HS, HB2, HO2⟩
      case measure => have := hil1.out; simp [intOf] <;> omega
    · have hin : i = n := by omega
      subst hin
      go_wp2
      go_ret
      refine ⟨out, c, rfl, hbk.out, ?_, hb.out, ho.out⟩
      rw [HN.out]
      exact hd.out

set_option maxRecDepth 100000 in
set_option maxHeartbeats 4000000 in
theorem pgiveBack_anyZ (W0 W : World) (g o Lr Cr : Nat) (v : Value) (l : List Nat) (row : List Nat) (hb : Bl W0 W) (hg : W0.heap.size ≤ g) (hk : Bk .u64 33 W g row) (hv : Rw .u64 W0 v l)
    (hl : All 18446744073709551616 l) (hrow : All 18446744073709551616 row) (hlen : o + l.length < row.length) (hLr : l.length < Lr) (hs : row.length < 35184372088832) :
    Calls Try.prog 26 #[.slice (some ⟨g, o, none⟩) Lr Cr, v] W (GvEnd W0 W g row l o) := by
  obtain ⟨A, c0, rfl, _, _, _, hx⟩ := hv
  have H1 := Lib.hid hx
  obtain ⟨m, hm⟩ : ∃ m, l ++ [0] = m := ⟨_, rfl⟩
  obtain ⟨n, hn⟩ : ∃ n, l.length = n := ⟨_, rfl⟩
  have hmn : m.length = n + 1 := by rw [← hm, ← hn]; simp
  have hma : All 18446744073709551616 m := by rw [← hm]; exact all_snoc hl (by decide)
  have hmi : ∀ i (h : i < n) (h' : i < m.length) (h2 : i < l.length), m[i] = l[i] := fun i h h' h2 => by subst hm; exact List.getElem_append_left h2
  have hm0 : ∀ h' : n < m.length, m[n] = 0 := fun h' => by subst hm hn; simp
  have HEND : Hid (∀ e w, GvEnd W0 W g row l o e w ↔ ∃ out c, e = .returned (.int .u64 ((c : Nat) : Int)) ∧ Bk .u64 33 w g out ∧ GvSt 18446744073709551616 row m o (n + 1) c out ∧ Bl W0 w ∧ Oth g W w) := fun e w => by unfold GvEnd; rw [hm, hn]
  refine Calls.mono ?_ (fun e w => (HEND.out e w).2)
  rw [hn] at hlen hLr ⊢
  have HN := Lib.hid hn
  have HMN := Lib.hid hmn
  have HMI := Lib.hid hmi
  have HM0 := Lib.hid hm0
  have HST := Lib.hid (gv_start hrow m o)
  have HLEN := Lib.hid hlen
  have HLR := Lib.hid hLr
  have HG := Lib.hid hg
  have HK := Lib.hid hk
  have HB := Lib.hid hb
  have HA := Lib.hid hma
  have hnb : (n : Int) ≤ 35184372088832 := by omega
  clear hx hn hrow hlen hLr hs hg hk hb hl hm hma hmi hm0 hmn HEND
  go_enter Try.func26, Try.ntmps26
  go_wp2
  go_loopw [5, 9] (fun cc s wr => ∃ (i c : Nat) (out : List Nat), i ≤ n ∧ s = .int .i64 (i : Int) ∧ cc = .int .u64 (c : Int) ∧ Hid (Bk .u64 33 wr g out) ∧ Hid (GvSt 18446744073709551616 row m o i c out) ∧ Hid (Bl W0 wr) ∧ Hid (Oth g W wr)) (fun _ s _ => n - (intOf s).toNat)
  case atStart => exact ⟨0, 0, _, Nat.zero_le _, rfl, rfl, HK, HST, HB, Oth.refl _ _⟩
  case round =>
    obtain ⟨i, c, out, hil, rfl, rfl, hbk, hd, hb, ho⟩ := hrel
    have hin' : i < m.length := by rw [HMN.out]; omega
    have hoi : o + i < out.length := by rw [hd.out.len]; have := HLEN.out; omega
    have hco := hbk.out.cell (o + i) hoi
    have hfz := hbk.out.free (o + i)
    have HS := Lib.hid (gv_step hd.out HA.out hin' hoi)
    have b2 : (0 : Int) ≤ (i : Int) ∧ (i : Int) < (Lr : Int) := by have := HLR.out; omega
    by_cases hlt : i < n
    · have hil' : i < l.length := by rw [HN.out]; exact hlt
      obtain ⟨ad, hA, hca⟩ := (H1.out.bl hb.out).at_ (i := i) hil'
      rw [HMI.out i hlt hin' hil'] at HS
      obtain ⟨a, ea⟩ : ∃ a, l[i] = a := ⟨_, rfl⟩
      obtain ⟨r, er⟩ : ∃ a, out[o + i] = a := ⟨_, rfl⟩
      rw [ea] at hca HS
      rw [er] at hco HS
      have KA := Lib.hid (fun w => add_any r a c w)
      obtain ⟨r', er'⟩ : ∃ h, addS r a c = h := ⟨_, rfl⟩
      obtain ⟨c', ec'⟩ : ∃ h, addC r a c = h := ⟨_, rfl⟩
      rw [er', ec'] at HS KA
      have b1 : (0 : Int) ≤ (i : Int) ∧ (i : Int) < (n : Int) := by omega
      have HBK := Lib.hid (hbk.out.drew.set (o + i) r' hoi)
      have HB2 := Lib.hid (hb.out.drew.setCell (p := ⟨g, o + i, none⟩) HG.out (.int .u64 (r' : Int)))
      have HO2 := Lib.hid (ho.out.drew.setCell (o + i) (.int .u64 (r' : Int)))
      have hil1 : Hid (i + 1 ≤ n) := hlt
      subst hA
      clear hd ea er er' ec' hoi hil' hbk hb ho hin'
      go_wp2
      go_region_with (go_at_call 34; (with_reducible refine (KA.out _).mono ?_); rintro e w' ⟨rfl, rfl⟩)
      all_goals (try go_wp2)
      all_goals exact ⟨⟨i + 1, c', _, hil1.out, by go_num, by first | rfl | go_num, HBK, HS, HB2, HO2⟩, by have := hil1.out; simp [intOf] <;> omega⟩
    · have hin : i = n := by omega
      subst hin
      rw [HM0.out hin'] at HS
      obtain ⟨r, er⟩ : ∃ a, out[o + i] = a := ⟨_, rfl⟩
      rw [er] at hco HS
      have KA := Lib.hid (fun w => add_any r 0 c w)
      obtain ⟨r', er'⟩ : ∃ h, addS r 0 c = h := ⟨_, rfl⟩
      obtain ⟨c', ec'⟩ : ∃ h, addC r 0 c = h := ⟨_, rfl⟩
      rw [er', ec'] at HS KA
      have Z0 := Lib.hid (show ((0 : Nat) : Int) = 0 from rfl)
      rw [Z0.out] at KA
      have HBK := Lib.hid (hbk.out.set (o + i) r' hoi)
      have HB2 := Lib.hid (hb.out.setCell (p := ⟨g, o + i, none⟩) HG.out (.int .u64 (r' : Int)))
      have HO2 := Lib.hid (ho.out.setCell (o + i) (.int .u64 (r' : Int)))
      clear hd er er' ec' hoi hbk hb ho hin' hlt
      go_wp2_with (go_at_call 34; (with_reducible refine (KA.out _).mono ?_); rintro e w' ⟨rfl, rfl⟩)
      go_ret
      exact ⟨_, c', rfl, HBK.out, HS.out, HB2.out, HO2.out⟩

set_option maxRecDepth 100000 in
set_option maxHeartbeats 4000000 in
theorem pestimate_anyZ (vr vd : Value) (rl dl : List Nat) (m : Nat) (hr : All 18446744073709551616 rl) (hd : All 18446744073709551616 dl) (hdl : dl.length = m + 1) (hrl : rl.length = m + 2) (hx0 : ∀ h : m < dl.length, dl[m] ≠ 0) (hb : m ≤ 17592186044416) (w : World) (h1 : Rw .u64 w vr rl) (h2 : Rw .u64 w vd dl) :
    Calls Try.prog 23 #[vr, vd] w fun e w' => ∃ q : Nat, e = .returned (.int .u64 (q : Int)) ∧ (q < 18446744073709551616 ∧ (val 18446744073709551616 rl < val 18446744073709551616 dl * 18446744073709551616 → val 18446744073709551616 rl / val 18446744073709551616 dl ≤ q ∧ q ≤ val 18446744073709551616 rl / val 18446744073709551616 dl + 2)) ∧ Q w w' := by
  have hm : m < dl.length := by omega
  obtain ⟨x, hx⟩ : ∃ x, dl[m] = x := ⟨_, rfl⟩
  have hxp : 0 < x := by have := hx0 hm; omega
  obtain ⟨s, hs⟩ : ∃ s, 64 - Lib.bitLen x = s := ⟨_, rfl⟩
  obtain ⟨q1, q2, q3, q4, q5, q6, q7, q8⟩ := est_num rl dl m s x hr hd hdl (by omega) hm hx hxp hs
  have hbl := bl_le x q1
  have KL := Lib.hid (fun w => len_any x q1 w)
  have K1 := Lib.hid (fun w (h : Rw .u64 w vr rl) => pmoved_anyZ vr rl (m + 1) s hr (by omega) q2 (by omega) w h)
  have K2 := Lib.hid (fun w (h : Rw .u64 w vr rl) => pmoved_anyZ vr rl m s hr (by omega) q2 (by omega) w h)
  have K3 := Lib.hid (fun w (h : Rw .u64 w vd dl) => pmoved_anyZ vd dl m s hd (by omega) q2 (by omega) w h)
  obtain ⟨V, hV⟩ : ∃ V, mvd dl m s = V := ⟨_, rfl⟩
  obtain ⟨U1, hU1⟩ : ∃ V, mvd rl (m + 1) s = V := ⟨_, rfl⟩
  obtain ⟨U0, hU0⟩ : ∃ V, mvd rl m s = V := ⟨_, rfl⟩
  rw [hV] at q3 q4 q7 q8 K3
  rw [hU1] at q5 q7 q8 K1
  rw [hU0] at q6 q7 q8 K2
  have KD := Lib.hid (fun w => div_any U1 U0 V q5 q6 q4 w)
  have H1 := Lib.hid h1
  have H2 := Lib.hid h2
  obtain ⟨A, c, rfl, _, _, _, hsx⟩ := h2
  obtain ⟨ad, rfl, hc⟩ := hsx.at_ hm
  rw [hx] at hc
  obtain ⟨t, ht⟩ : ∃ t, Lib.bitLen x = t := ⟨_, rfl⟩
  rw [ht] at KL hbl hs
  obtain ⟨N, hN⟩ : ∃ N, m + 1 = N := ⟨_, rfl⟩
  rw [hN] at K1 hdl
  rw [hdl] at H2 K3 ⊢
  have r1 : (N : Int) - 1 = (m : Int) := by omega
  have b1 : (0 : Int) ≤ (m : Int) ∧ (m : Int) < (N : Int) := by omega
  have r2 : (64 : Int) - (t : Int) = (s : Int) := by omega
  have tb : (t : Int) ≤ 64 := by omega
  have sb : (s : Int) ≤ 63 := by omega
  have nb : (N : Int) ≤ 17592186044417 := by omega
  obtain ⟨L, hL⟩ : ∃ L, rl.length = L := ⟨_, rfl⟩
  by_cases hge : V ≤ U1
  · have d1 : divQ U1 U0 V = 0 := by unfold divQ; rw [if_pos hge]
    have d2 : divR U1 U0 V = 0 := by unfold divR; rw [if_pos hge]
    have d3 : divE U1 V = 1 := by unfold divE; rw [if_neg (by omega), if_pos hge]
    have d4 : esq U1 U0 V = 18446744073709551615 := by unfold esq; rw [if_pos hge]
    rw [d1, d2, d3] at KD
    rw [d4] at q7 q8
    have HE := Lib.hid (And.intro q7 q8)
    clear q7 q8 q1 q2 q3 q4 q5 q6 hx hs hr hd hm hV hU1 hU0 hsx hx0 hxp ht hN hb d1 d2 d3 d4 hge hdl hL hrl
    go_enter Try.func23, Try.ntmps23
    go_wp2_with (first
      | (go_at_call 28; (with_reducible refine (KL.out _).mono ?_); rintro e w' ⟨rfl, rfl⟩)
      | (go_at_call 30; (with_reducible refine (K1.out _ H1.out).mono ?_); rintro e w' ⟨rfl, rfl⟩)
      | (go_at_call 30; (with_reducible refine (K2.out _ H1.out).mono ?_); rintro e w' ⟨rfl, rfl⟩)
      | (go_at_call 30; (with_reducible refine (K3.out _ H2.out).mono ?_); rintro e w' ⟨rfl, rfl⟩)
      | (go_at_call 29; (with_reducible refine (KD.out _).mono ?_); rintro e w' ⟨rfl, hq⟩))
    go_ret
    exact ⟨18446744073709551615, rfl, HE.out, hq⟩
  · have d1 : divQ U1 U0 V = esq U1 U0 V := by unfold divQ esq num; rw [if_neg hge, if_neg hge]
    have d3 : divE U1 V = 0 := by unfold divE; rw [if_neg (by omega), if_neg hge]
    rw [d1, d3] at KD
    have HE := Lib.hid (And.intro q7 q8)
    obtain ⟨q, hq⟩ : ∃ q, esq U1 U0 V = q := ⟨_, rfl⟩
    rw [hq] at KD HE
    obtain ⟨r, hr'⟩ : ∃ q, divR U1 U0 V = q := ⟨_, rfl⟩
    rw [hr'] at KD
    clear q7 q8 q1 q2 q3 q4 q5 q6 hx hs hr hd hm hV hU1 hU0 hsx hx0 hxp ht hN hb d1 d3 hge hdl hL hrl hq hr'
    go_enter Try.func23, Try.ntmps23
    go_wp2_with (first
      | (go_at_call 28; (with_reducible refine (KL.out _).mono ?_); rintro e w' ⟨rfl, rfl⟩)
      | (go_at_call 30; (with_reducible refine (K1.out _ H1.out).mono ?_); rintro e w' ⟨rfl, rfl⟩)
      | (go_at_call 30; (with_reducible refine (K2.out _ H1.out).mono ?_); rintro e w' ⟨rfl, rfl⟩)
      | (go_at_call 30; (with_reducible refine (K3.out _ H2.out).mono ?_); rintro e w' ⟨rfl, rfl⟩)
      | (go_at_call 29; (with_reducible refine (KD.out _).mono ?_); rintro e w' ⟨rfl, hq⟩))
    go_ret
    exact ⟨q, rfl, HE.out, hq⟩

set_option maxRecDepth 100000 in
set_option maxHeartbeats 2000000 in
theorem pqwidened_anyZ (v : Value) (l : List Nat) (n : Nat) (hn : l.length ≤ n) (hb : n < 35184372088832) (w : World) (hr : Rw .u64 w v l) :
    Calls Try.prog 12 #[v, .int .i64 (n : Int)] w (BkNew w n (l ++ List.replicate (n - l.length) 0)) := by
  obtain ⟨i0, hi, hz0, hz1, hz2⟩ := info_parts infoW
  obtain ⟨A, c, rfl, hc, hm, h0, hx⟩ := hr
  have hmk := run_mkZ (P := Try.prog) .u64 22 33 i0 Try.underlying22 hi hz0 hz1 (by omega) n hb w
  have hlc : (l.length : Int) ≤ 35184372088832 := by omega
  have HS := Lib.hid (splice_wide l n hn)
  obtain ⟨L, hL⟩ : ∃ L, l.length = L := ⟨_, rfl⟩
  have HL := Lib.hid hL
  have HX := Lib.hid hx
  have HN := Lib.hid hn
  rw [hL] at hlc
  show Calls Try.prog 12 #[.slice A l.length c, .int .i64 (n : Int)] w _
  rw [hL]
  clear hx h0 hL hc hm hn hb
  go_enter Try.func12, Try.ntmps12
  go_wp2_with (refine copy_bk w _ .u64 33 rfl _ _ _ _ rfl 33 Try.underlying22 (by rw [hi]; simp [hz1]) w.heap.size 0 n n A L c rfl rfl (List.replicate n 0) l HL.out.symm (Bk.made _ _ _ _) (HX.out.bl ((Bl.refl w).alloc _)) (by simp; omega) ((Bl.refl w).alloc _) (Nat.le_refl _) ?_; intro w' hbk hbl hoth)
  go_ret
  refine ⟨rfl, ?_, hbl.out, ?_⟩
  · have := hbk.out
    rw [HS.out] at this
    rw [← HL.out]
    exact this
  · rw [hoth.out.1]; simp

end Go.Proofs.Ytdoohlehglakfaa
