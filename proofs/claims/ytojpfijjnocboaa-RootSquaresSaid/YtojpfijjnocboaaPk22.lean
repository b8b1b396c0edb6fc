/-
  Package nat: Norm, Add, Scale over numbers. · Package prod: addTimes: a number times a word, added into a row in place. First the plain part: a row between two rounds.
-/
import Derived.Test.YtojpfijjnocboaaPk21
import Derived.LoopTactic
namespace Go.Proofs.Ytojpfijjnocboaa
open Go.RowKit
set_option linter.unusedVariables false

theorem trimN (W : World) (v : Value) (X : Nat) (h : Nu W v X) : Calls Try.prog 42 #[v] W (RwSame W (dig 18446744073709551616 X)) := by
  obtain ⟨l, h1, ha, hl, hx⟩ := h
  have := ptrim_any v l ha (by omega) W h1
  rwa [hx] at this
theorem nu_len {W : World} {v : Value} {X : Nat} (h : Nu W v X) : (dig 18446744073709551616 X).length < 1048576 := by
  obtain ⟨l, h1, ha, hl, hx⟩ := h
  have := dig_len_le 18446744073709551616 (by decide) l ha
  rw [hx] at this
  omega

set_option maxRecDepth 100000 in
theorem pNorm : CNorm := by
  intro W v X hv
  have hln := (nu_len hv)
  have KT := Lib.hid (trimN W v X hv)
  have KW := Lib.hid (fun v2 (h : Rw .u64 W v2 (dig 18446744073709551616 X)) => pwidened_any v2 _ _ (Nat.le_refl _) (by omega) W h)
  obtain ⟨l, hl⟩ : ∃ l, dig 18446744073709551616 X = l := ⟨_, rfl⟩
  rw [hl] at KT KW hln ⊢
  have HL := Lib.hid hln
  clear hl hln
  go_enter Try.func45, Try.ntmps45
  go_wp2_with (first
    | (go_at_call 42; refine KT.out.mono ?_; rintro e w' ⟨v2, rfl, rfl, hv2⟩; have HV := Lib.hid hv2; obtain ⟨A, c, rfl, _⟩ := hv2)
    | (go_at_call 61; refine (KW.out _ HV.out).mono ?_; rintro e w' ⟨rfl, hbk, hbl, hsz⟩))
  go_ret
  exact RwEnd.of (hbk.rw (n := l.length) (by simp) (by unfold maxLen; have := HL.out; omega)) hbl (by simp)

set_option maxRecDepth 100000 in
set_option maxHeartbeats 1000000 in
theorem pAdd : CAdd := by
  intro W v u X Y hv hu
  have h1 := (nu_len hv)
  have h2 := (nu_len hu)
  have a1 := all_dig 18446744073709551616 (by decide) X
  have a2 := all_dig 18446744073709551616 (by decide) Y
  have KT := Lib.hid (trimN W v X hv)
  have KU := Lib.hid (trimN W u Y hu)
  have KM := Lib.hid (fun v2 u2 (h : Rw .u64 W v2 (dig 18446744073709551616 X)) (h' : Rw .u64 W u2 (dig 18446744073709551616 Y)) =>
    pmerged_any 58 (max (dig 18446744073709551616 X).length (dig 18446744073709551616 Y).length + 1) addS addC _ add_nx v2 u2 _ _ a1 (by omega) (by omega) h2 (getD_lt a2) (wds_add _ a2) W h h')
  rw [add_made _ _ a1 a2 _ (by omega) (by omega), val_dig _ (by decide), val_dig _ (by decide)] at KM
  obtain ⟨l, hl⟩ : ∃ l, dig 18446744073709551616 X = l := ⟨_, rfl⟩
  obtain ⟨m, hm⟩ : ∃ l, dig 18446744073709551616 Y = l := ⟨_, rfl⟩
  rw [hl] at KT KM h1
  rw [hm] at KU KM h2
  have e1 : max (l.length : Int) (m.length : Int) + 1 = ((max l.length m.length + 1 : Nat) : Int) := by omega
  have e2 : max l.length m.length + 1 ≤ 1048576 := by omega
  clear hl hm a1 a2 hv hu
  go_enter Try.func35, Try.ntmps35
  go_wp2_with (first
    | (go_at_call 42; (with_reducible refine KT.out.mono ?_); rintro e w' ⟨v2, rfl, rfl, hv2⟩; have HV := Lib.hid hv2; obtain ⟨A, c, rfl, _⟩ := hv2)
    | (go_at_call 42; (with_reducible refine KU.out.mono ?_); rintro e w' ⟨u2, rfl, rfl, hu2⟩; have HU := Lib.hid hu2; obtain ⟨B, d, rfl, _⟩ := hu2)
    | (go_at_call 43; refine (KM.out _ _ HV.out HU.out).mono ?_; rintro e w' ⟨v3, rfl, hv3, hb3⟩; have HV3 := Lib.hid hv3; have HB3 := Lib.hid hb3; clear hv3 hb3))
  go_ret
  exact RwEnd.mk HV3.out HB3.out

end Go.Proofs.Ytojpfijjnocboaa
namespace Go.Proofs.Ytojpfijjnocboaa
open Go.RowKit
set_option linter.unusedVariables false

/-- The row between two rounds: i words of l, times y, are added at place o; c is what is carried. -/
structure AtSt (B : Nat) (row l : List Nat) (y o i c : Nat) (out : List Nat) : Prop where
  lt : c < B
  all : All B out
  len : out.length = row.length
  num : val B out + B ^ (o + i) * c = val B row + B ^ o * (val B (l.take i) * y)
  far : ∀ j, o + i ≤ j → out[j]? = row[j]?
theorem at_start {B : Nat} (hB : 0 < B) {row : List Nat} (h : All B row) (l : List Nat) (y o : Nat) : AtSt B row l y o 0 0 row :=
  ⟨hB, h, rfl, by simp [val], fun _ _ => rfl⟩
theorem at_step {B : Nat} (hB : 0 < B) {row l out : List Nat} {y o i c : Nat} (h : AtSt B row l y o i c out) (hl : All B l) (hy : y < B) (hi : i < l.length) (ho : o + i < out.length) (r' c' : Nat)
    (e : l[i] * y + c + out[o + i] = r' + B * c') (hr : r' < B) : AtSt B row l y o (i + 1) c' (out.set (o + i) r') := by
  have hc' : c' < B := by
    have h1 := hl i hi
    have h2 := h.lt
    have h3 := h.all (o + i) ho
    have h4 : l[i] * y ≤ (B - 1) * (B - 1) := Nat.mul_le_mul (by omega) (by omega)
    have h5 : (B - 1) * (B - 1) + (B - 1) + (B - 1) < B * B := by
      obtain ⟨b, rfl⟩ : ∃ b, B = b + 1 := ⟨B - 1, by omega⟩
      rw [Nat.add_sub_cancel]
      have : (b + 1) * (b + 1) = b * b + b + b + 1 := by rw [Nat.add_mul, Nat.mul_add]; omega
      omega
    rcases Nat.lt_or_ge c' B with h6 | h6
    · exact h6
    · have := Nat.mul_le_mul_left B h6
      omega
  refine ⟨hc', all_set h.all _ _ hr, by rw [List.length_set]; exact h.len, ?_, fun j hj => ?_⟩
  · have h1 := val_set B out (o + i) r' ho
    have h2 := h.num
    have h3 := val_take_succ B l i hi
    rw [h3]
    have e2 : B ^ (o + (i + 1)) * c' = B ^ (o + i) * (B * c') := by rw [← Nat.add_assoc, Nat.pow_succ, Nat.mul_assoc]
    have e3 : B ^ o * ((val B (l.take i) + B ^ i * l[i]) * y) = B ^ o * (val B (l.take i) * y) + B ^ (o + i) * (l[i] * y) := by
      rw [Nat.add_mul, Nat.mul_add, Nat.mul_assoc (B ^ i), ← Nat.mul_assoc (B ^ o) (B ^ i), ← Nat.pow_add]
    have e4 : B ^ (o + i) * (l[i] * y) + B ^ (o + i) * c + B ^ (o + i) * out[o + i] = B ^ (o + i) * r' + B ^ (o + i) * (B * c') := by
      rw [← Nat.mul_add, ← Nat.mul_add, ← Nat.mul_add, e]
    rw [e2, e3]
    omega
  · rw [List.getElem?_set_ne (by omega)]
    exact h.far j (by omega)

theorem at_num (a y c r : Nat) (ha : a < 18446744073709551616) (hy : y < 18446744073709551616) (hc : c < 18446744073709551616) (hr : r < 18446744073709551616) :
    mulH a y + addC (mulL a y) c 0 < 18446744073709551616 ∧ mulH a y + addC (mulL a y) c 0 + addC r (addS (mulL a y) c 0) 0 < 18446744073709551616 ∧
    a * y + c + r = addS r (addS (mulL a y) c 0) 0 + 18446744073709551616 * (mulH a y + addC (mulL a y) c 0 + addC r (addS (mulL a y) c 0) 0) ∧ addS r (addS (mulL a y) c 0) 0 < 18446744073709551616 := by
  have h4 : a * y ≤ 18446744073709551615 * 18446744073709551615 := Nat.mul_le_mul (by omega) (by omega)
  unfold addS addC mulH mulL un
  rw [if_pos rfl]
  obtain ⟨p, hp⟩ : ∃ p, a * y = p := ⟨_, rfl⟩
  rw [hp] at h4 ⊢
  omega

/-- Only block g has turned. -/
def Oth (g : Nat) (W w : World) : Prop := w.heap.size = W.heap.size ∧ ∀ j, j ≠ g → w.heap[j]? = W.heap[j]?
theorem Oth.refl (g : Nat) (W : World) : Oth g W W := ⟨rfl, fun _ _ => rfl⟩
theorem Oth.setCell {g : Nat} {W w : World} (h : Oth g W w) (i : Nat) (u : Value) : Oth g W (w.setCell ⟨g, i, none⟩ u) := by
  refine ⟨?_, fun j hj => ?_⟩
  · show (w.heap.modify _ _).size = _
    rw [Array.size_modify]; exact h.1
  · exact (setCell_heap_other _ _ _ _ _ (Ne.symm hj)).trans (h.2 j hj)
theorem Oth.trans {g : Nat} {a b c : World} (h : Oth g a b) (k : Oth g b c) : Oth g a c := ⟨k.1.trans h.1, fun j hj => (k.2 j hj).trans (h.2 j hj)⟩
theorem Oth.drew {g : Nat} {W w : World} (h : Oth g W w) : Oth g W w.drew := h

/-- What addTimes leaves. -/
def AtEnd (W0 W : World) (g : Nat) (row l : List Nat) (y o : Nat) (e : Ending) (w : World) : Prop :=
  ∃ out c, e = .returned (.int .u64 ((c : Nat) : Int)) ∧ Bk .u64 23 w g out ∧ AtSt 18446744073709551616 row l y o l.length c out ∧ Bl W0 w ∧ Oth g W w

set_option maxRecDepth 100000 in
set_option maxHeartbeats 4000000 in
theorem paddTimes_any (W0 W : World) (g o Lr Cr : Nat) (v : Value) (l : List Nat) (y : Nat) (row : List Nat) (hb : Bl W0 W) (hg : W0.heap.size ≤ g) (hk : Bk .u64 23 W g row) (hv : Rw .u64 W0 v l)
    (hl : All 18446744073709551616 l) (hrow : All 18446744073709551616 row) (hlen : o + l.length ≤ row.length) (hLr : l.length ≤ Lr) (hs : row.length < 1099511627776) (hy : y < 18446744073709551616) :
    Calls Try.prog 46 #[.slice (some ⟨g, o, none⟩) Lr Cr, v, .int .u64 (y : Int)] W (AtEnd W0 W g row l y o) := by
  obtain ⟨A, c0, rfl, _, _, _, hx⟩ := hv
  have H1 := Lib.hid hx
  obtain ⟨n, hn⟩ : ∃ n, l.length = n := ⟨_, rfl⟩
  rw [hn] at hlen hLr ⊢
  have HN := Lib.hid hn
  have HST := Lib.hid (at_start (by decide) hrow l y o)
  have HLEN := Lib.hid hlen
  have HLR := Lib.hid hLr
  have HY := Lib.hid hy
  have HG := Lib.hid hg
  have HK := Lib.hid hk
  have HB := Lib.hid hb
  have HA := Lib.hid hl
  have hnb : (n : Int) ≤ 1099511627776 := by omega
  clear hx hn hrow hlen hLr hs hy hg hk hb hl
  go_enter Try.func46, Try.ntmps46
  go_wp2
  go_loopw [7, 15] (fun cc s wr => ∃ (i c : Nat) (out : List Nat), i ≤ n ∧ s = .int .i64 (i : Int) ∧ cc = .int .u64 (c : Int) ∧ Hid (Bk .u64 23 wr g out) ∧ Hid (AtSt 18446744073709551616 row l y o i c out) ∧ Hid (Bl W0 wr) ∧ Hid (Oth g W wr)) (fun _ s _ => n - (intOf s).toNat)
  case atStart => exact ⟨0, 0, _, Nat.zero_le _, rfl, rfl, HK, HST, HB, Oth.refl _ _⟩
  case round =>
    obtain ⟨i, c, out, hil, rfl, rfl, hbk, hd, hb, ho⟩ := hrel
    by_cases hlt : i < n
    · have hil' : i < l.length := by rw [HN.out]; exact hlt
      have hoi : o + i < out.length := by rw [hd.out.len]; have := HLEN.out; omega
      obtain ⟨ad, hA, hca⟩ := (H1.out.bl hb.out).at_ (i := i) hil'
      have hco := hbk.out.cell (o + i) hoi
      have hfz := hbk.out.free (o + i)
      have hst := fun r' c' => at_step (by decide) hd.out HA.out HY.out hil' hoi r' c'
      have ha1 := HA.out i hil'
      have hr1 := hd.out.all (o + i) hoi
      obtain ⟨a, ea⟩ : ∃ a, l[i] = a := ⟨_, rfl⟩
      obtain ⟨r, er⟩ : ∃ a, out[o + i] = a := ⟨_, rfl⟩
      rw [ea] at hca hst ha1
      rw [er] at hco hst hr1
      obtain ⟨q1, q2, q3, q4⟩ := at_num a y c r ha1 HY.out hd.out.lt hr1
      have HS := Lib.hid (hst _ _ q3 q4)
      have KM := Lib.hid (fun w => mul_any a y ha1 HY.out w)
      have KA := Lib.hid (fun w => add_any (mulL a y) c 0 w)
      have KB := Lib.hid (fun w => add_any r (addS (mulL a y) c 0) 0 w)
      obtain ⟨h, eh⟩ : ∃ h, mulH a y = h := ⟨_, rfl⟩
      obtain ⟨lo, elo⟩ : ∃ h, mulL a y = h := ⟨_, rfl⟩
      rw [eh, elo] at q1 q2 HS KM
      rw [elo] at KA KB
      obtain ⟨k1, ek1⟩ : ∃ h, addC lo c 0 = h := ⟨_, rfl⟩
      obtain ⟨low, elow⟩ : ∃ h, addS lo c 0 = h := ⟨_, rfl⟩
      rw [ek1] at q1
      rw [ek1, elow] at q2 HS KA
      rw [elow] at KB
      obtain ⟨k2, ek2⟩ : ∃ h, addC r low 0 = h := ⟨_, rfl⟩
      obtain ⟨r', er'⟩ : ∃ h, addS r low 0 = h := ⟨_, rfl⟩
      rw [ek2, er'] at HS KB
      rw [ek2] at q2
      obtain ⟨h', eh'⟩ : ∃ x, h + k1 = x := ⟨_, rfl⟩
      rw [eh'] at q1 q2 HS
      obtain ⟨c', ec'⟩ : ∃ x, h' + k2 = x := ⟨_, rfl⟩
      rw [ec'] at q2 HS
      have r1 : IntKind.u64.wrap (h' : Int) = (h' : Int) := wrapN _ q1
      have r2 : (h : Int) + (k1 : Int) = (h' : Int) := by omega
      have r3 : IntKind.u64.wrap (c' : Int) = (c' : Int) := wrapN _ q2
      have r4 : (h' : Int) + (k2 : Int) = (c' : Int) := by omega
      have Z0 := Lib.hid (show ((0 : Nat) : Int) = 0 from rfl)
      have b1 : (0 : Int) ≤ (i : Int) ∧ (i : Int) < (n : Int) := by omega
      have b2 : (0 : Int) ≤ (i : Int) ∧ (i : Int) < (Lr : Int) := by have := HLR.out; omega
      have HBK := Lib.hid (hbk.out.set (o + i) r' hoi)
      have HB2 := Lib.hid (hb.out.setCell (p := ⟨g, o + i, none⟩) HG.out (.int .u64 (r' : Int)))
      have HO2 := Lib.hid (ho.out.setCell (o + i) (.int .u64 (r' : Int)))
      have hil1 : Hid (i + 1 ≤ n) := hlt
      rw [Z0.out] at KA KB
      subst hA
      clear hst hd ea er eh elo ek1 elow ek2 er' eh' ec' q1 q2 q3 q4 ha1 hr1 hoi hil' hbk hb ho
      go_wp2_with (first
        | (go_at_call 47; (with_reducible refine (KM.out _).mono ?_); rintro e w' ⟨rfl, rfl⟩)
        | (go_at_call 58; (with_reducible refine (KA.out _).mono ?_); rintro e w' ⟨rfl, rfl⟩)
        | (go_at_call 58; (with_reducible refine (KB.out _).mono ?_); rintro e w' ⟨rfl, rfl⟩))
      go_roundw
      case rel => exact ⟨i + 1, c', _, hil1.out, by go_num, by first | rfl | go_num, HBK, HS, HB2, HO2⟩
      case measure => have := hil1.out; simp [intOf] <;> omega
    · have hin : i = n := by omega
      subst hin
      go_wp2
      go_ret
      refine ⟨out, c, rfl, hbk.out, ?_, hb.out, ho.out⟩
      rw [HN.out]
      exact hd.out
end Go.Proofs.Ytojpfijjnocboaa
