/-
  Package quot: moved, takeTimes, giveBack.
-/
import Derived.Test.YtdoohlehglakfaaPk17
import Derived.Test.YtdoohlehglakfaaPk21
import Derived.Test.YtdoohlehglakfaaPk22
namespace Go.Proofs.Ytdoohlehglakfaa
open Go.RowKit
set_option linter.unusedVariables false
set_option linter.unusedSimpArgs false

set_option maxRecDepth 100000 in
theorem pmoved_any (v : Value) (l : List Nat) (i s : Nat) (hl : All 18446744073709551616 l) (hi : i < l.length) (hs : s ≤ 63) (hb : l.length ≤ 1099511627776) (w : World) (hv : Rw .u64 w v l) :
    Calls Try.prog 30 #[v, .int .i64 (i : Int), .int .i64 (s : Int)] w fun e w' => e = .returned (.int .u64 ((mvd l i s : Nat) : Int)) ∧ w = w' := by
  obtain ⟨A, c, rfl, _, _, _, hx⟩ := hv
  obtain ⟨ad, rfl, hc⟩ := hx.at_ hi
  have hg : l[i]?.getD 0 = l[i] := by simp [hi]
  obtain ⟨x, ex⟩ : ∃ x, l[i] = x := ⟨_, rfl⟩
  rw [ex] at hg hc
  have ib : (i : Int) ≤ 1099511627776 := by omega
  have sb : (s : Int) ≤ 63 := by omega
  have sb0 : decide ((s : Int) < 0) = false := decide_eq_false (by omega)
  by_cases h0 : i = 0
  · subst h0
    have em : IntKind.u64.wrap ((x : Int) * 2 ^ s) = ((mvd l 0 s : Nat) : Int) := by
      unfold mvd
      rw [hg, if_pos rfl, pow_cast, ← Int.natCast_mul, wrapM]
      unfold raF
      rw [Nat.or_zero]
    obtain ⟨m, hm⟩ : ∃ m, mvd l 0 s = m := ⟨_, rfl⟩
    rw [hm] at em ⊢
    obtain ⟨L, hL⟩ : ∃ L, l.length = L := ⟨_, rfl⟩
    rw [hL] at hi ⊢
    have b1 : (0 : Int) ≤ 0 ∧ (0 : Int) < (L : Int) := by omega
    rw [Addr.add_zero'] at hc
    rw [show ((0 : Nat) : Int) = 0 from rfl]
    clear hm hg ex hx hl hb hL
    go_enter Try.func30, Try.ntmps30
    go_wp2
    go_ret
    exact ⟨rfl, rfl⟩
  · obtain ⟨j, rfl⟩ : ∃ j, i = j + 1 := ⟨i - 1, by omega⟩
    have hj : j < l.length := by omega
    obtain ⟨ad2, e2, hc2⟩ := hx.at_ hj
    cases e2
    have hgj : l[j + 1 - 1]?.getD 0 = l[j] := by simp [hj]
    have hyB := hl j hj
    obtain ⟨y, ey⟩ : ∃ y, l[j] = y := ⟨_, rfl⟩
    rw [ey] at hgj hc2 hyB
    have hcl : raG y s 0 < 18446744073709551616 := raG_lt y s 0 hyB
    have em : bits .or .u64 (IntKind.u64.wrap ((x : Int) * 2 ^ s)) ((raG y s 0 : Nat) : Int) = ((mvd l (j + 1) s : Nat) : Int) := by
      rw [raise_word x s _ hcl]
      unfold mvd
      rw [hg, if_neg (by omega), hgj]
    have eg : (y : Int) / 2 ^ (64 - s) = ((raG y s 0 : Nat) : Int) := raise_more y s 0
    obtain ⟨g, hgg⟩ : ∃ m, raG y s 0 = m := ⟨_, rfl⟩
    rw [hgg] at em eg
    obtain ⟨m, hm⟩ : ∃ m, mvd l (j + 1) s = m := ⟨_, rfl⟩
    rw [hm] at em ⊢
    obtain ⟨t, ht⟩ : ∃ t, 64 - s = t := ⟨_, rfl⟩
    rw [ht] at eg
    obtain ⟨L, hL⟩ : ∃ L, l.length = L := ⟨_, rfl⟩
    rw [hL] at hi hj ⊢
    obtain ⟨k, hk⟩ : ∃ k, j + 1 = k := ⟨_, rfl⟩
    rw [hk] at hi ib hc ⊢
    have b1 : (0 : Int) ≤ (k : Int) ∧ (k : Int) < (L : Int) := by omega
    have b2 : (0 : Int) ≤ (j : Int) ∧ (j : Int) < (L : Int) := by omega
    have r1 : (k : Int) - 1 = (j : Int) := by omega
    have r2 : (64 : Int) - (s : Int) = (t : Int) := by omega
    have r3 : decide ((0 : Int) < (k : Int)) = true := decide_eq_true (by omega)
    have r4 : decide (0 < k) = true := decide_eq_true (by omega)
    have tb : (t : Int) ≤ 64 := by omega
    clear hm hg hgj hgg ex ey hx hl hb hL ht hk hcl hyB h0 hi hj
    go_enter Try.func30, Try.ntmps30
    go_wp2
    go_ret
    exact ⟨rfl, rfl⟩

/-- The row between two rounds: i words of l, times y, are taken off from place o on; c is what is still to be taken. -/
structure TkSt (B : Nat) (row l : List Nat) (y o i c : Nat) (out : List Nat) : Prop where
  lt : c < B
  all : All B out
  len : out.length = row.length
  num : val B out + B ^ o * (val B (l.take i) * y) = val B row + B ^ (o + i) * c
  far : ∀ j, o + i ≤ j → out[j]? = row[j]?
  near : ∀ j, j < o → out[j]? = row[j]?
theorem tk_start {B : Nat} (hB : 0 < B) {row : List Nat} (h : All B row) (l : List Nat) (y o : Nat) : TkSt B row l y o 0 0 row :=
  ⟨hB, h, rfl, by simp [val], fun _ _ => rfl, fun _ _ => rfl⟩
theorem tk_step {B : Nat} (hB : 0 < B) {row l out : List Nat} {y o i c : Nat} (h : TkSt B row l y o i c out) (hi : i < l.length) (ho : o + i < out.length) (r' c' : Nat)
    (e : out[o + i] + B * c' = r' + (l[i] * y + c)) (hr : r' < B) (hc' : c' < B) : TkSt B row l y o (i + 1) c' (out.set (o + i) r') := by
  refine ⟨hc', all_set h.all _ _ hr, by rw [List.length_set]; exact h.len, ?_, fun j hj => ?_, fun j hj => ?_⟩
  · have h1 := val_set B out (o + i) r' ho
    have h2 := h.num
    have h3 := val_take_succ B l i hi
    rw [h3]
    have e2 : B ^ (o + (i + 1)) * c' = B ^ (o + i) * (B * c') := by rw [← Nat.add_assoc, Nat.pow_succ, Nat.mul_assoc]
    have e3 : B ^ o * ((val B (l.take i) + B ^ i * l[i]) * y) = B ^ o * (val B (l.take i) * y) + B ^ (o + i) * (l[i] * y) := by
      rw [Nat.add_mul, Nat.mul_add, Nat.mul_assoc (B ^ i), ← Nat.mul_assoc (B ^ o) (B ^ i), ← Nat.pow_add]
    have e4 : B ^ (o + i) * out[o + i] + B ^ (o + i) * (B * c') = B ^ (o + i) * r' + (B ^ (o + i) * (l[i] * y) + B ^ (o + i) * c) := by
      rw [← Nat.mul_add, ← Nat.mul_add, ← Nat.mul_add, e]
    rw [e2, e3]
    omega
  · rw [List.getElem?_set_ne (by omega)]
    exact h.far j (by omega)
  · rw [List.getElem?_set_ne (by omega)]
    exact h.near j hj
theorem tk_num (a y c r : Nat) (ha : a < 18446744073709551616) (hy : y < 18446744073709551616) (hc : c < 18446744073709551616) (hr : r < 18446744073709551616) :
    mulH a y + addC (mulL a y) c 0 < 18446744073709551616 ∧ mulH a y + addC (mulL a y) c 0 + subB r (addS (mulL a y) c 0) 0 < 18446744073709551616 ∧
    r + 18446744073709551616 * (mulH a y + addC (mulL a y) c 0 + subB r (addS (mulL a y) c 0) 0) = subD r (addS (mulL a y) c 0) 0 + (a * y + c) ∧ subD r (addS (mulL a y) c 0) 0 < 18446744073709551616 := by
  have h4 : a * y ≤ 18446744073709551615 * 18446744073709551615 := Nat.mul_le_mul (by omega) (by omega)
  unfold addS addC mulH mulL subD subB un
  rw [if_pos rfl]
  obtain ⟨p, hp⟩ : ∃ p, a * y = p := ⟨_, rfl⟩
  rw [hp] at h4 ⊢
  split <;> omega
def TkEnd (W0 W : World) (g : Nat) (row l : List Nat) (y o : Nat) (e : Ending) (w : World) : Prop :=
  ∃ out c, e = .returned (.int .u64 ((c : Nat) : Int)) ∧ Bk .u64 33 w g out ∧ TkSt 18446744073709551616 row l y o l.length c out ∧ Bl W0 w ∧ Oth g W w

set_option maxRecDepth 100000 in
set_option maxHeartbeats 4000000 in
theorem ptakeTimes_any (W0 W : World) (g o Lr Cr : Nat) (v : Value) (l : List Nat) (y : Nat) (row : List Nat) (hb : Bl W0 W) (hg : W0.heap.size ≤ g) (hk : Bk .u64 33 W g row) (hv : Rw .u64 W0 v l)
    (hl : All 18446744073709551616 l) (hrow : All 18446744073709551616 row) (hlen : o + l.length ≤ row.length) (hLr : l.length ≤ Lr) (hs : row.length < 1099511627776) (hy : y < 18446744073709551616) :
    Calls Try.prog 25 #[.slice (some ⟨g, o, none⟩) Lr Cr, v, .int .u64 (y : Int)] W (TkEnd W0 W g row l y o) := by
  obtain ⟨A, c0, rfl, _, _, _, hx⟩ := hv
  have H1 := Lib.hid hx
  obtain ⟨n, hn⟩ : ∃ n, l.length = n := ⟨_, rfl⟩
  rw [hn] at hlen hLr ⊢
  have HN := Lib.hid hn
  have HST := Lib.hid (tk_start (by decide) hrow l y o)
  have HLEN := Lib.hid hlen
  have HLR := Lib.hid hLr
  have HY := Lib.hid hy
  have HG := Lib.hid hg
  have HK := Lib.hid hk
  have HB := Lib.hid hb
  have HA := Lib.hid hl
  have hnb : (n : Int) ≤ 1099511627776 := by omega
  clear hx hn hrow hlen hLr hs hy hg hk hb hl
  go_enter Try.func25, Try.ntmps25
  go_wp2
  go_loopw [7, 15] (fun cc s wr => ∃ (i c : Nat) (out : List Nat), i ≤ n ∧ s = .int .i64 (i : Int) ∧ cc = .int .u64 (c : Int) ∧ Hid (Bk .u64 33 wr g out) ∧ Hid (TkSt 18446744073709551616 row l y o i c out) ∧ Hid (Bl W0 wr) ∧ Hid (Oth g W wr)) (fun _ s _ => n - (intOf s).toNat)
  case atStart => exact ⟨0, 0, _, Nat.zero_le _, rfl, rfl, HK, HST, HB, Oth.refl _ _⟩
  case round =>
    obtain ⟨i, c, out, hil, rfl, rfl, hbk, hd, hb, ho⟩ := hrel
    by_cases hlt : i < n
    · have hil' : i < l.length := by rw [HN.out]; exact hlt
      have hoi : o + i < out.length := by rw [hd.out.len]; have := HLEN.out; omega
      obtain ⟨ad, hA, hca⟩ := (H1.out.bl hb.out).at_ (i := i) hil'
      have hco := hbk.out.cell (o + i) hoi
      have hfz := hbk.out.free (o + i)
      have hst := fun r' c' => tk_step (by decide) hd.out hil' hoi r' c'
      have ha1 := HA.out i hil'
      have hr1 := hd.out.all (o + i) hoi
      obtain ⟨a, ea⟩ : ∃ a, l[i] = a := ⟨_, rfl⟩
      obtain ⟨r, er⟩ : ∃ a, out[o + i] = a := ⟨_, rfl⟩
      rw [ea] at hca hst ha1
      rw [er] at hco hst hr1
      obtain ⟨q1, q2, q3, q4⟩ := tk_num a y c r ha1 HY.out hd.out.lt hr1
      have HS := Lib.hid (hst _ _ q3 q4 q2)
      have KM := Lib.hid (fun w => mul_any a y ha1 HY.out w)
      have KA := Lib.hid (fun w => add_any (mulL a y) c 0 w)
      have KB := Lib.hid (fun w => sub_any r (addS (mulL a y) c 0) 0 w)
      obtain ⟨h, eh⟩ : ∃ h, mulH a y = h := ⟨_, rfl⟩
      obtain ⟨lo, elo⟩ : ∃ h, mulL a y = h := ⟨_, rfl⟩
      rw [eh, elo] at q1 q2 HS KM
      rw [elo] at KA KB
      obtain ⟨k1, ek1⟩ : ∃ h, addC lo c 0 = h := ⟨_, rfl⟩
      obtain ⟨low, elow⟩ : ∃ h, addS lo c 0 = h := ⟨_, rfl⟩
      rw [ek1] at q1
      rw [ek1, elow] at q2 HS KA
      rw [elow] at KB
      obtain ⟨k2, ek2⟩ : ∃ h, subB r low 0 = h := ⟨_, rfl⟩
      obtain ⟨r', er'⟩ : ∃ h, subD r low 0 = h := ⟨_, rfl⟩
      rw [ek2, er'] at HS KB
      rw [ek2] at q2
      obtain ⟨h', eh'⟩ : ∃ x, h + k1 = x := ⟨_, rfl⟩
      rw [eh'] at q1 q2 HS
      obtain ⟨c', ec'⟩ : ∃ x, h' + k2 = x := ⟨_, rfl⟩
      rw [ec'] at q2 HS
      have r1 : IntKind.u64.wrap (h' : Int) = (h' : Int) := wrapN _ q1
      have r2 : (h : Int) + (k1 : Int) = (h' : Int) := by omega
      have r3 : IntKind.u64.wrap (c' : Int) = (c' : Int) := wrapN _ q2
      have r4 : (h' : Int) + (k2 : Int) = (c' : Int) := by omega
      have Z0 := Lib.hid (show ((0 : Nat) : Int) = 0 from rfl)
      have b1 : (0 : Int) ≤ (i : Int) ∧ (i : Int) < (n : Int) := by omega
      have b2 : (0 : Int) ≤ (i : Int) ∧ (i : Int) < (Lr : Int) := by have := HLR.out; omega
      have HBK := Lib.hid (hbk.out.set (o + i) r' hoi)
      have HB2 := Lib.hid (hb.out.setCell (p := ⟨g, o + i, none⟩) HG.out (.int .u64 (r' : Int)))
      have HO2 := Lib.hid (ho.out.setCell (o + i) (.int .u64 (r' : Int)))
      have hil1 : Hid (i + 1 ≤ n) := hlt
      rw [Z0.out] at KA KB
      subst hA
      clear hst hd ea er eh elo ek1 elow ek2 er' eh' ec' q1 q2 q3 q4 ha1 hr1 hoi hil' hbk hb ho
      go_wp2_with (first
        | (go_at_call 33; (with_reducible refine (KM.out _).mono ?_); rintro e w' ⟨rfl, rfl⟩)
        | (go_at_call 34; (with_reducible refine (KA.out _).mono ?_); rintro e w' ⟨rfl, rfl⟩)
        | (go_at_call 24; (with_reducible refine (KB.out _).mono ?_); rintro e w' ⟨rfl, rfl⟩))
      go_roundw
      case rel => exact ⟨i + 1, c', _, hil1.out, by go_num, by first | rfl | go_num, HBK, HS, HB2, HO2⟩
      case measure => have := hil1.out; simp [intOf] <;> omega
    · have hin : i = n := by omega
      subst hin
      go_wp2
      go_ret
      refine ⟨out, c, rfl, hbk.out, ?_, hb.out, ho.out⟩
      rw [HN.out]
      exact hd.out

/-- The row between two rounds: i words of l are added from place o on; c is what is carried. -/
structure GvSt (B : Nat) (row l : List Nat) (o i c : Nat) (out : List Nat) : Prop where
  le : c ≤ 1
  all : All B out
  len : out.length = row.length
  num : val B out + B ^ (o + i) * c = val B row + B ^ o * val B (l.take i)
  far : ∀ j, o + i ≤ j → out[j]? = row[j]?
  near : ∀ j, j < o → out[j]? = row[j]?
theorem gv_start {B : Nat} {row : List Nat} (h : All B row) (l : List Nat) (o : Nat) : GvSt B row l o 0 0 row :=
  ⟨Nat.zero_le _, h, rfl, by simp [val], fun _ _ => rfl, fun _ _ => rfl⟩
theorem gv_step {row l out : List Nat} {o i c : Nat} (h : GvSt 18446744073709551616 row l o i c out) (hl : All 18446744073709551616 l) (hi : i < l.length) (ho : o + i < out.length) :
    GvSt 18446744073709551616 row l o (i + 1) (addC out[o + i] l[i] c) (out.set (o + i) (addS out[o + i] l[i] c)) := by
  have hc := un_of_le c h.le
  have e := add_parts out[o + i] l[i] c
  rw [hc] at e
  have hr := addS_lt out[o + i] l[i] c
  have hcl := addC_le out[o + i] l[i] c (h.all _ ho) (hl i hi)
  obtain ⟨r', er⟩ : ∃ x, addS out[o + i] l[i] c = x := ⟨_, rfl⟩
  obtain ⟨c', ec⟩ : ∃ x, addC out[o + i] l[i] c = x := ⟨_, rfl⟩
  rw [er, ec] at e
  rw [er] at hr ⊢
  rw [ec] at hcl ⊢
  refine ⟨hcl, all_set h.all _ _ hr, by rw [List.length_set]; exact h.len, ?_, fun j hj => ?_, fun j hj => ?_⟩
  · have h1 := val_set 18446744073709551616 out (o + i) r' ho
    have h2 := h.num
    have h3 := val_take_succ 18446744073709551616 l i hi
    rw [h3]
    have e2 : 18446744073709551616 ^ (o + (i + 1)) * c' = 18446744073709551616 ^ (o + i) * (c' * 18446744073709551616) := by rw [← Nat.add_assoc, Nat.pow_succ, Nat.mul_assoc, Nat.mul_comm c']
    have e3 : 18446744073709551616 ^ o * (val 18446744073709551616 (l.take i) + 18446744073709551616 ^ i * l[i]) = 18446744073709551616 ^ o * val 18446744073709551616 (l.take i) + 18446744073709551616 ^ (o + i) * l[i] := by
      rw [Nat.mul_add, ← Nat.mul_assoc, ← Nat.pow_add]
    have e4 : 18446744073709551616 ^ (o + i) * (c' * 18446744073709551616) + 18446744073709551616 ^ (o + i) * r' = 18446744073709551616 ^ (o + i) * out[o + i] + 18446744073709551616 ^ (o + i) * l[i] + 18446744073709551616 ^ (o + i) * c := by
      rw [← Nat.mul_add, ← Nat.mul_add, ← Nat.mul_add, e]
    rw [e2, e3]
    omega
  · rw [List.getElem?_set_ne (by omega)]
    exact h.far j (by omega)
  · rw [List.getElem?_set_ne (by omega)]
    exact h.near j hj
def GvEnd (W0 W : World) (g : Nat) (row l : List Nat) (o : Nat) (e : Ending) (w : World) : Prop :=
  ∃ out c, e = .returned (.int .u64 ((c : Nat) : Int)) ∧ Bk .u64 33 w g out ∧ GvSt 18446744073709551616 row (l ++ [0]) o (l.length + 1) c out ∧ Bl W0 w ∧ Oth g W w

set_option maxRecDepth 100000 in
set_option maxHeartbeats 4000000 in
theorem pgiveBack_any (W0 W : World) (g o Lr Cr : Nat) (v : Value) (l : List Nat) (row : List Nat) (hb : Bl W0 W) (hg : W0.heap.size ≤ g) (hk : Bk .u64 33 W g row) (hv : Rw .u64 W0 v l)
    (hl : All 18446744073709551616 l) (hrow : All 18446744073709551616 row) (hlen : o + l.length < row.length) (hLr : l.length < Lr) (hs : row.length < 1099511627776) :
    Calls Try.prog 26 #[.slice (some ⟨g, o, none⟩) Lr Cr, v] W (GvEnd W0 W g row l o) := by
  obtain ⟨A, c0, rfl, _, _, _, hx⟩ := hv
  have H1 := Lib.hid hx
  obtain ⟨m, hm⟩ : ∃ m, l ++ [0] = m := ⟨_, rfl⟩
  obtain ⟨n, hn⟩ : ∃ n, l.length = n := ⟨_, rfl⟩
  have hmn : m.length = n + 1 := by rw [← hm, ← hn]; simp
  have hma : All 18446744073709551616 m := by rw [← hm]; exact all_snoc hl (by decide)
  have hmi : ∀ i (h : i < n) (h' : i < m.length) (h2 : i < l.length), m[i] = l[i] := fun i h h' h2 => by subst hm; exact List.getElem_append_left h2
  have hm0 : ∀ h' : n < m.length, m[n] = 0 := fun h' => by subst hm hn; simp
  have HEND : Hid (∀ e w, GvEnd W0 W g row l o e w ↔ ∃ out c, e = .returned (.int .u64 ((c : Nat) : Int)) ∧ Bk .u64 33 w g out ∧ GvSt 18446744073709551616 row m o (n + 1) c out ∧ Bl W0 w ∧ Oth g W w) := fun e w => by unfold GvEnd; rw [hm, hn]
  refine Calls.mono ?_ (fun e w => (HEND.out e w).2)
  rw [hn] at hlen hLr ⊢
  have HN := Lib.hid hn
  have HMN := Lib.hid hmn
  have HMI := Lib.hid hmi
  have HM0 := Lib.hid hm0
  have HST := Lib.hid (gv_start hrow m o)
  have HLEN := Lib.hid hlen
  have HLR := Lib.hid hLr
  have HG := Lib.hid hg
  have HK := Lib.hid hk
  have HB := Lib.hid hb
  have HA := Lib.hid hma
  have hnb : (n : Int) ≤ 1099511627776 := by omega
  clear hx hn hrow hlen hLr hs hg hk hb hl hm hma hmi hm0 hmn HEND
  go_enter Try.func26, Try.ntmps26
  go_wp2
  go_loopw [5, 9] (fun cc s wr => ∃ (i c : Nat) (out : List Nat), i ≤ n ∧ s = .int .i64 (i : Int) ∧ cc = .int .u64 (c : Int) ∧ Hid (Bk .u64 33 wr g out) ∧ Hid (GvSt 18446744073709551616 row m o i c out) ∧ Hid (Bl W0 wr) ∧ Hid (Oth g W wr)) (fun _ s _ => n - (intOf s).toNat)
  case atStart => exact ⟨0, 0, _, Nat.zero_le _, rfl, rfl, HK, HST, HB, Oth.refl _ _⟩
  case round =>
    obtain ⟨i, c, out, hil, rfl, rfl, hbk, hd, hb, ho⟩ := hrel
    have hin' : i < m.length := by rw [HMN.out]; omega
    have hoi : o + i < out.length := by rw [hd.out.len]; have := HLEN.out; omega
    have hco := hbk.out.cell (o + i) hoi
    have hfz := hbk.out.free (o + i)
    have HS := Lib.hid (gv_step hd.out HA.out hin' hoi)
    have b2 : (0 : Int) ≤ (i : Int) ∧ (i : Int) < (Lr : Int) := by have := HLR.out; omega
    by_cases hlt : i < n
    · have hil' : i < l.length := by rw [HN.out]; exact hlt
      obtain ⟨ad, hA, hca⟩ := (H1.out.bl hb.out).at_ (i := i) hil'
      rw [HMI.out i hlt hin' hil'] at HS
      obtain ⟨a, ea⟩ : ∃ a, l[i] = a := ⟨_, rfl⟩
      obtain ⟨r, er⟩ : ∃ a, out[o + i] = a := ⟨_, rfl⟩
      rw [ea] at hca HS
      rw [er] at hco HS
      have KA := Lib.hid (fun w => add_any r a c w)
      obtain ⟨r', er'⟩ : ∃ h, addS r a c = h := ⟨_, rfl⟩
      obtain ⟨c', ec'⟩ : ∃ h, addC r a c = h := ⟨_, rfl⟩
      rw [er', ec'] at HS KA
      have b1 : (0 : Int) ≤ (i : Int) ∧ (i : Int) < (n : Int) := by omega
      have HBK := Lib.hid (hbk.out.drew.set (o + i) r' hoi)
      have HB2 := Lib.hid (hb.out.drew.setCell (p := ⟨g, o + i, none⟩) HG.out (.int .u64 (r' : Int)))
      have HO2 := Lib.hid (ho.out.drew.setCell (o + i) (.int .u64 (r' : Int)))
      have hil1 : Hid (i + 1 ≤ n) := hlt
      subst hA
      clear hd ea er er' ec' hoi hil' hbk hb ho hin'
      go_wp2
      go_region_with (go_at_call 34; (with_reducible refine (KA.out _).mono ?_); rintro e w' ⟨rfl, rfl⟩)
      all_goals (try go_wp2)
      all_goals exact ⟨⟨i + 1, c', _, hil1.out, by go_num, by first | rfl | go_num, HBK, HS, HB2, HO2⟩, by have := hil1.out; simp [intOf] <;> omega⟩
    · have hin : i = n := by omega
      subst hin
      rw [HM0.out hin'] at HS
      obtain ⟨r, er⟩ : ∃ a, out[o + i] = a := ⟨_, rfl⟩
      rw [er] at hco HS
      have KA := Lib.hid (fun w => add_any r 0 c w)
      obtain ⟨r', er'⟩ : ∃ h, addS r 0 c = h := ⟨_, rfl⟩
      obtain ⟨c', ec'⟩ : ∃ h, addC r 0 c = h := ⟨_, rfl⟩
      rw [er', ec'] at HS KA
      have Z0 := Lib.hid (show ((0 : Nat) : Int) = 0 from rfl)
      rw [Z0.out] at KA
      have HBK := Lib.hid (hbk.out.set (o + i) r' hoi)
      have HB2 := Lib.hid (hb.out.setCell (p := ⟨g, o + i, none⟩) HG.out (.int .u64 (r' : Int)))
      have HO2 := Lib.hid (ho.out.setCell (o + i) (.int .u64 (r' : Int)))
      clear hd er er' ec' hoi hbk hb ho hin' hlt
      go_wp2_with (go_at_call 34; (with_reducible refine (KA.out _).mono ?_); rintro e w' ⟨rfl, rfl⟩)
      go_ret
      exact ⟨_, c', rfl, HBK.out, HS.out, HB2.out, HO2.out⟩
end Go.Proofs.Ytdoohlehglakfaa
