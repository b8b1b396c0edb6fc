/-
  Package quot: take: a figure, and what is left in its place.
-/
import Derived.Test.YtdoohlehglakfaaPk24
import Derived.WalkMore
namespace Go.Proofs.Ytdoohlehglakfaa
open Go.RowKit
set_option linter.unusedVariables false
set_option linter.unusedSimpArgs false

/-- The number of k words from place o on. -/
def win (l : List Nat) (o k : Nat) : Nat := val 18446744073709551616 ((l.drop o).take k)
theorem win_lt {l : List Nat} (h : All 18446744073709551616 l) (o k : Nat) : win l o k < 18446744073709551616 ^ k := by
  refine Nat.lt_of_lt_of_le (val_lt _ (by decide) _ (all_take (all_dropq h o) k)) (Nat.pow_le_pow_right (by decide) ?_)
  rw [List.length_take]; omega
theorem win_eq (B : Nat) (hB : 0 < B) {out row : List Nat} (o k : Nat) (hl : out.length = row.length) (hk : o + k ≤ row.length) (near : ∀ j, j < o → out[j]? = row[j]?) (far : ∀ j, o + k ≤ j → out[j]? = row[j]?) (X Y : Nat)
    (h : val B out + B ^ o * X = val B row + B ^ o * Y) : val B ((out.drop o).take k) + X = val B ((row.drop o).take k) + Y := by
  have e1 : out.take o = row.take o := by
    refine List.ext_getElem? fun j => ?_
    rw [List.getElem?_take, List.getElem?_take]
    split
    · exact near j ‹_›
    · rfl
  have e2 : (out.drop o).drop k = (row.drop o).drop k := by
    rw [List.drop_drop, List.drop_drop]
    refine List.ext_getElem? fun j => ?_
    rw [List.getElem?_drop, List.getElem?_drop]
    exact far _ (by omega)
  have s1 := val_append B (out.take o) (out.drop o)
  have s2 := val_append B (row.take o) (row.drop o)
  have t1 := val_append B ((out.drop o).take k) ((out.drop o).drop k)
  have t2 := val_append B ((row.drop o).take k) ((row.drop o).drop k)
  rw [List.take_append_drop] at s1 s2 t1 t2
  have hlo : (out.take o).length = o := by rw [List.length_take]; omega
  have hlr : (row.take o).length = o := by rw [List.length_take]; omega
  have hko : ((out.drop o).take k).length = k := by rw [List.length_take, List.length_drop]; omega
  have hkr : ((row.drop o).take k).length = k := by rw [List.length_take, List.length_drop]; omega
  rw [hlo] at s1
  rw [hlr] at s2
  rw [hko] at t1
  rw [hkr] at t2
  rw [e1, t1, e2] at s1
  rw [t2] at s2
  rw [s1, s2] at h
  have hp : 0 < B ^ o := Nat.pow_pos hB
  refine Nat.eq_of_mul_eq_mul_left hp ?_
  rw [Nat.mul_add, Nat.mul_add]
  simp only [Nat.mul_add] at h
  omega

/-- Between two corrections: i were made; q is the figure, over what is too much. -/
structure TkI (row : List Nat) (o m R D i q over : Nat) (out : List Nat) : Prop where
  le : over ≤ 1
  lt : q < 18446744073709551616
  all : All 18446744073709551616 out
  len : out.length = row.length
  num : win out o (m + 2) + q * D = R + 18446744073709551616 ^ (m + 2) * over
  low : R < D * 18446744073709551616 → R / D ≤ q
  high : R < D * 18446744073709551616 → over = 1 → q + i ≤ R / D + 2
  far : ∀ j, o + (m + 2) ≤ j → out[j]? = row[j]?
  near : ∀ j, j < o → out[j]? = row[j]?
/-- What take leaves. -/
structure TkF (row : List Nat) (o m R D q : Nat) (out : List Nat) : Prop where
  lt : q < 18446744073709551616
  all : All 18446744073709551616 out
  len : out.length = row.length
  num : R < D * 18446744073709551616 → q = R / D ∧ win out o (m + 2) = R % D
  far : ∀ j, o + (m + 2) ≤ j → out[j]? = row[j]?
  near : ∀ j, j < o → out[j]? = row[j]?
theorem tki_over {row out : List Nat} {o m R D i q : Nat} (hD : 0 < D) (h : TkI row o m R D i q 1 out) : R / D < q := by
  refine Nat.lt_of_not_le fun hle => ?_
  have hn := h.num
  have hw := win_lt h.all o (m + 2)
  have h1 : q * D ≤ R := Nat.le_trans (Nat.mul_le_mul_right D hle) (Nat.div_mul_le_self _ _)
  rw [Nat.mul_one] at hn
  omega
theorem tki_fin {row out : List Nat} {o m R D i q over : Nat} (hD : 0 < D) (h : TkI row o m R D i q over out) (hx : over = 0 ∨ i = 2) : TkF row o m R D q out := by
  refine ⟨h.lt, h.all, h.len, fun hlt => ?_, h.far, h.near⟩
  have h0 : over = 0 := by
    rcases hx with hx | rfl
    · exact hx
    · rcases Nat.eq_zero_or_pos over with h0 | h0
      · exact h0
      · have := h.le
        obtain rfl : over = 1 := by omega
        have h1 := tki_over hD h
        have h2 := h.high hlt rfl
        omega
  subst h0
  have hn := h.num
  rw [Nat.mul_zero, Nat.add_zero] at hn
  have h1 : q ≤ R / D := by rw [Nat.le_div_iff_mul_le hD]; omega
  have h2 : q = R / D := Nat.le_antisymm h1 (h.low hlt)
  refine ⟨h2, ?_⟩
  have := Nat.div_add_mod' R D
  rw [h2] at hn
  omega
theorem tki_first {row out : List Nat} {l : List Nat} {o m R D q c rn : Nat} (hm : l.length = m + 1) (hlen : o + m + 1 < row.length) (hD : val 18446744073709551616 l = D) (hR : win row o (m + 2) = R) (h : TkSt 18446744073709551616 row l q o l.length c out) (hrow : All 18446744073709551616 row)
    (hq : q < 18446744073709551616) (h12 : R < D * 18446744073709551616 → R / D ≤ q ∧ q ≤ R / D + 2) (hrn : ∀ h : o + (m + 1) < out.length, out[o + (m + 1)] = rn) :
    TkI row o m R D 0 q (subB rn c 0) (out.set (o + (m + 1)) (subD rn c 0)) := by
  have hol : o + (m + 1) < out.length := by rw [h.len]; omega
  have hr := hrn hol
  have hrB : rn < 18446744073709551616 := hr ▸ h.all _ hol
  have hs : rn + 18446744073709551616 * subB rn c 0 = subD rn c 0 + c ∧ subB rn c 0 ≤ 1 ∧ subD rn c 0 < 18446744073709551616 := by
    have := h.lt
    unfold subB subD un
    rw [if_pos rfl]
    split <;> omega
  obtain ⟨s, es⟩ : ∃ s, subD rn c 0 = s := ⟨_, rfl⟩
  obtain ⟨b, eb⟩ : ∃ s, subB rn c 0 = s := ⟨_, rfl⟩
  rw [es, eb] at hs
  rw [es, eb]
  obtain ⟨hs1, hs2, hs3⟩ := hs
  have hfar : ∀ j, o + (m + 2) ≤ j → (out.set (o + (m + 1)) s)[j]? = row[j]? := fun j hj => by
    rw [List.getElem?_set_ne (by omega)]; exact h.far j (by omega)
  have hnear : ∀ j, j < o → (out.set (o + (m + 1)) s)[j]? = row[j]? := fun j hj => by
    rw [List.getElem?_set_ne (by omega)]; exact h.near j hj
  refine ⟨hs2, hq, all_set h.all _ _ hs3, by rw [List.length_set]; exact h.len, ?_, fun h => (h12 h).1, fun h _ => (h12 h).2, hfar, hnear⟩
  unfold win at hR ⊢
  rw [← hR]
  refine win_eq 18446744073709551616 (by decide) o (m + 2) (by rw [List.length_set]; exact h.len) (by omega) hnear hfar _ _ ?_
  have v1 := val_set 18446744073709551616 out (o + (m + 1)) s hol
  have v2 := h.num
  rw [List.take_length, hD, hm] at v2
  rw [hr] at v1
  have e1 : 18446744073709551616 ^ o * (18446744073709551616 ^ (m + 2) * b) = 18446744073709551616 ^ (o + (m + 1)) * (18446744073709551616 * b) := by
    rw [← Nat.mul_assoc, ← Nat.pow_add, ← Nat.mul_assoc, ← Nat.pow_succ]; rfl
  have e2 : 18446744073709551616 ^ (o + (m + 1)) * rn + 18446744073709551616 ^ (o + (m + 1)) * (18446744073709551616 * b) = 18446744073709551616 ^ (o + (m + 1)) * s + 18446744073709551616 ^ (o + (m + 1)) * c := by
    rw [← Nat.mul_add, ← Nat.mul_add, hs1]
  have e3 : q * D = D * q := Nat.mul_comm _ _
  rw [e1, e3]
  omega
theorem tki_next {row out out' : List Nat} {l : List Nat} {o m R D i q c : Nat} (hDp : 0 < D) (hm : l.length = m + 1) (hlen : o + m + 1 < row.length) (hD : val 18446744073709551616 l = D) (h : TkI row o m R D i q 1 out)
    (g : GvSt 18446744073709551616 out (l ++ [0]) o (l.length + 1) c out') : 1 ≤ q ∧ c ≤ 1 ∧ TkI row o m R D (i + 1) (q - 1) (1 - c) out' := by
  have hov := tki_over hDp h
  have hq1 : 1 ≤ q := Nat.lt_of_le_of_lt (Nat.zero_le _) hov
  have hc := g.le
  have hfar : ∀ j, o + (m + 2) ≤ j → out'[j]? = out[j]? := fun j hj => g.far j (by rw [hm]; omega)
  have hw : win out' o (m + 2) + 18446744073709551616 ^ (m + 2) * c = win out o (m + 2) + D := by
    refine win_eq 18446744073709551616 (by decide) o (m + 2) g.len (by rw [h.len]; omega) g.near hfar _ _ ?_
    have v := g.num
    rw [List.take_of_length_le (by simp), val_append, hD, hm] at v
    rw [← Nat.mul_assoc, ← Nat.pow_add]
    have e : val 18446744073709551616 [0] = 0 := rfl
    rw [e, Nat.mul_zero, Nat.add_zero] at v
    exact v
  have hn := h.num
  rw [Nat.mul_one] at hn
  have e1 : q * D = (q - 1) * D + D := by
    conv => lhs; rw [show q = (q - 1) + 1 by omega, Nat.add_mul, Nat.one_mul]
  have e2 : 18446744073709551616 ^ (m + 2) * (1 - c) + 18446744073709551616 ^ (m + 2) * c = 18446744073709551616 ^ (m + 2) := by
    rw [← Nat.mul_add, show 1 - c + c = 1 by omega, Nat.mul_one]
  refine ⟨hq1, hc, by omega, by have := h.lt; omega, g.all, g.len.trans h.len, by omega, fun _ => Nat.le_sub_one_of_lt hov, fun hlt _ => by have := h.high hlt rfl; omega, fun j hj => (hfar j hj).trans (h.far j hj), fun j hj => (g.near j hj).trans (h.near j hj)⟩

def TakeEnd (W0 W : World) (g : Nat) (row : List Nat) (o m R D : Nat) (e : Ending) (w : World) : Prop :=
  ∃ out q, e = .returned (.int .u64 ((q : Nat) : Int)) ∧ Bk .u64 33 w g out ∧ TkF row o m R D q out ∧ Bl W0 w ∧ Oth g W w
theorem bk_win {w : World} {g : Nat} {row : List Nat} (h : Bk .u64 33 w g row) (o k c : Nat) (hk : o + k ≤ row.length) (hc : k ≤ c) (hm : c ≤ maxLen) : Rw .u64 w (.slice (some ⟨g, o, none⟩) k c) ((row.drop o).take k) := by
  have hl : ((row.drop o).take k).length = k := by rw [List.length_take, List.length_drop]; omega
  refine ⟨some ⟨g, o, none⟩, c, by rw [hl], by rw [hl]; exact hc, hm, (fun h => by cases h), fun _ => ⟨_, rfl, h.lt, fun i hi => ?_⟩⟩
  rw [List.getElem_take, List.getElem_drop, add_none]
  exact h.cell (o + i) (by rw [hl] at hi; omega)

theorem q_heap {w w' : World} (h : Q w w') : w'.heap = w.heap := by obtain ⟨n, rfl⟩ := h; rfl
theorem q_bk {k : IntKind} {e : TypeId} {w w' : World} {g : Nat} {l : List Nat} (h : Q w w') (b : Bk k e w g l) : Bk k e w' g l := by unfold Bk; rw [q_heap h]; exact b
theorem q_bl {w w' : World} (h : Q w w') : Bl w w' := by obtain ⟨n, rfl⟩ := h; exact (Bl.refl w).drewN n
theorem q_oth {w w' : World} (g : Nat) (h : Q w w') : Oth g w w' := by unfold Oth; rw [q_heap h]; exact ⟨rfl, fun _ _ => rfl⟩
theorem q_cell {w w' : World} (h : Q w w') (a : Addr) : w'.cell? a = w.cell? a := by simp [World.cell?, q_heap h]

set_option maxRecDepth 100000 in
set_option maxHeartbeats 8000000 in
theorem ptake_any (W0 W : World) (g o Cr m : Nat) (v : Value) (l row : List Nat) (R D : Nat) (hb : Bl W0 W) (hg : W0.heap.size ≤ g) (hk : Bk .u64 33 W g row) (hv : Rw .u64 W0 v l)
    (hl : All 18446744073709551616 l) (hrow : All 18446744073709551616 row) (hm : l.length = m + 1) (hlast : ∀ h : m < l.length, l[m] ≠ 0) (hlen : o + m + 1 < row.length) (hs : row.length < 1048577) (hC : m + 2 ≤ Cr) (hCm : Cr ≤ maxLen)
    (hD : val 18446744073709551616 l = D) (hR : win row o (m + 2) = R) (hDp : 0 < D) :
    Calls Try.prog 15 #[.slice (some ⟨g, o, none⟩) ((m + 2 : Nat)) Cr, v] W (TakeEnd W0 W g row o m R D) := by
  have hkl : o + (m + 1) < row.length := by omega
  have hwl : ((row.drop o).take (m + 2)).length = m + 2 := by rw [List.length_take, List.length_drop]; omega
  have KE := Lib.hid (fun W' (gw : Bl W0 W') (hk' : Bk .u64 33 W' g row) => pestimate_any (.slice (some ⟨g, o, none⟩) (m + 2) Cr) v ((row.drop o).take (m + 2)) l m (all_take (all_dropq hrow o) _) hl hm hwl hlast (by omega) W' (bk_win hk' o (m + 2) Cr (by omega) hC hCm) (hv.bl gw))
  have eR : val 18446744073709551616 ((row.drop o).take (m + 2)) = R := hR
  rw [eR, hD] at KE
  have KT := Lib.hid (fun q (hq : q < 18446744073709551616) W' (gw : Bl W0 W') (hk' : Bk .u64 33 W' g row) => ptakeTimes_any W0 W' g o (m + 2) Cr v l q row gw hg hk' hv hl hrow (by omega) (by omega) (by omega) hq)
  have KG := Lib.hid (fun out (ha : All 18446744073709551616 out) (hn : out.length = row.length) W' (gw : Bl W0 W') (hk' : Bk .u64 33 W' g out) => pgiveBack_any W0 W' g o (m + 2) Cr v l out gw hg hk' hv hl ha (by omega) (by omega) (by omega))
  obtain ⟨rn, hrn⟩ : ∃ rn, row[o + (m + 1)]'hkl = rn := ⟨_, rfl⟩
  have HF := Lib.hid (fun q c out (h : TkSt 18446744073709551616 row l q o l.length c out) (hq : q < 18446744073709551616 ∧ (R < D * 18446744073709551616 → R / D ≤ q ∧ q ≤ R / D + 2)) (hrn : ∀ h : o + (m + 1) < out.length, out[o + (m + 1)] = rn) => tki_first hm hlen hD hR h hrow hq.1 hq.2 hrn)
  have HN := Lib.hid (fun i q c out out' (h : TkI row o m R D i q 1 out) (g : GvSt 18446744073709551616 out (l ++ [0]) o (l.length + 1) c out') => tki_next hDp hm hlen hD h g)
  have HFI := Lib.hid (fun i q over out (h : TkI row o m R D i q over out) (hx : over = 0 ∨ i = 2) => tki_fin hDp h hx)
  have HRN := Lib.hid (fun out q c (h : TkSt 18446744073709551616 row l q o l.length c out) (h' : o + (m + 1) < out.length) => (show out[o + (m + 1)] = rn by
    have e := h.far (o + (m + 1)) (by rw [hm]; exact Nat.le_refl _)
    rw [List.getElem?_eq_getElem h', List.getElem?_eq_getElem hkl, hrn] at e
    exact Option.some.inj e))
  have HKL := Lib.hid hkl
  have HDP := Lib.hid hDp
  have hc0 := hk.cell (o + (m + 1)) hkl
  rw [hrn] at hc0
  have HC0 := Lib.hid hc0
  have HG := Lib.hid hg
  have HK := Lib.hid hk
  have HB := Lib.hid hb
  have HMM := Lib.hid hm
  have mb : (m : Int) ≤ 1048576 := by omega
  have ob : (o : Int) ≤ 1048576 := by omega
  obtain ⟨A, c0, rfl, _, _, _, _⟩ := hv
  rw [hm] at KE KT KG ⊢
  obtain ⟨n, hn⟩ : ∃ n, m + 1 = n := ⟨_, rfl⟩
  obtain ⟨L, hL⟩ : ∃ n, m + 2 = n := ⟨_, rfl⟩
  rw [hn] at KE KT KG HF HRN HKL hc0 HC0 HMM ⊢
  rw [hL] at KE KT KG hC ⊢
  have nb : (n : Int) ≤ 1048577 := by omega
  have b1 : (0 : Int) ≤ (n : Int) ∧ (n : Int) < (L : Int) := by omega
  clear hrn hkl hwl eR hlast hD hR hDp hl hrow hs hg hk hb hC hCm hlen hc0
  have KSB := Lib.hid (fun (a b : Nat) (w : World) => (show Calls Try.prog 24 #[.int .u64 (a : Int), .int .u64 (b : Int), .int .u64 0] w fun e w' => e = .returned (.tuple #[.int .u64 ((subD a b 0 : Nat) : Int), .int .u64 ((subB a b 0 : Nat) : Int)]) ∧ w = w' from sub_any a b 0 w))
  go_enter Try.func15, Try.ntmps15
  go_wp2
  go_step3
  go_wp2_with (go_at_call 23; (with_reducible refine (KE.out _ HB.out HK.out).mono ?_); rintro e w1 ⟨q, rfl, hq, hQ⟩; have HQ := Lib.hid hq; have HK1 := Lib.hid (q_bk hQ HK.out); have HB1 := Lib.hid (HB.out.trans (q_bl hQ)); have HO1 := Lib.hid (q_oth g hQ); have hc1 := (q_cell hQ _).trans HC0.out; clear hq hQ)
  go_region_with (first
    | (go_at_call 25; (with_reducible refine (KT.out _ HQ.out.1 _ HB1.out.drew HK1.out.drew).mono ?_); rintro e w2 ⟨out, c, rfl, hbk, hst, hb2, ho2⟩; have hol : o + n < out.length := (by rw [hst.len]; exact HKL.out); have hrn := HRN.out _ _ _ hst hol; have hco := hbk.cell (o + n) hol; rw [hrn] at hco; have hfz := hbk.free (o + n); have HF1 := Lib.hid (HF.out _ _ _ hst HQ.out (fun _ => hrn)); have KS1 := Lib.hid (KSB.out rn c); obtain ⟨s, es⟩ : ∃ s, subD rn c 0 = s := ⟨_, rfl⟩; obtain ⟨b, eb⟩ : ∃ s, subB rn c 0 = s := ⟨_, rfl⟩; rw [es, eb] at HF1 KS1; have HBK := Lib.hid (hbk.set (o + n) s hol); have HB2 := Lib.hid (hb2.setCell (p := ⟨g, o + n, none⟩) HG.out (.int .u64 (s : Int))); have HO2 := Lib.hid ((HO1.out.drew.trans ho2).setCell (o + n) (.int .u64 (s : Int))); clear es eb hol hrn hst hb2 ho2 hbk)
    | (go_at_call 24; (with_reducible refine (KS1.out _).mono ?_); rintro e w' ⟨rfl, rfl⟩))
  all_goals
    clear HC0 hc1 HK1 HB1 HO1 HK HB KE KT HF HRN KSB KS1 HQ HKL HMM
    go_wp2
    go_step3
    go_wp2
    clear hco hfz
    go_loopw [6, 8, 30] (fun qv ov iv wr => ∃ (i q over : Nat) (out : List Nat), i ≤ 2 ∧ qv = .int .u64 (q : Int) ∧ ov = .int .u64 (over : Int) ∧ iv = .int .i64 (i : Int) ∧ Hid (TkI row o m R D i q over out) ∧ Hid (Bk .u64 33 wr g out) ∧ Hid (Bl W0 wr) ∧ Hid (Oth g W wr)) (fun _ _ iv _ => 2 - (intOf iv).toNat)
    case atStart => exact ⟨0, q, b, _, by omega, rfl, rfl, rfl, HF1, HBK, HB2, HO2⟩
    case round =>
      clear HF1 HBK HB2 HO2
      obtain ⟨i, q', ov, out', hi2, rfl, rfl, rfl, hI, hbk, hb, ho⟩ := hrel
      by_cases hov : ov = 0 ∨ i = 2
      · have HF0 := Lib.hid (HFI.out _ _ _ _ hI.out hov)
        by_cases hlt : i < 2
        · have e0 : ((ov : Int) == 0) = true := by rw [beq_iff_eq]; omega
          have d0 : decide ((i : Int) < 2) = true := decide_eq_true (by omega)
          clear hlt hi2 hI hov
          go_wp2
          try rw [Exit.noGoto_ret]
          go_ret
          exact ⟨out', q', rfl, hbk.out, HF0.out, hb.out, ho.out⟩
        · have d0 : decide ((i : Int) < 2) = false := decide_eq_false (by omega)
          clear hlt hi2 hI hov
          go_wp2
          try rw [Exit.noGoto_ret]
          go_ret
          exact ⟨out', q', rfl, hbk.out, HF0.out, hb.out, ho.out⟩
      · have hi : i < 2 := by omega
        have hov1 : ov = 1 := by have := hI.out.le; omega
        have e0 : ((ov : Int) == 0) = false := by rw [beq_eq_false_iff_ne]; omega
        have d0 : decide ((i : Int) < 2) = true := decide_eq_true (by omega)
        have KG1 := Lib.hid (KG.out out' hI.out.all hI.out.len _ hb.out hbk.out)
        have HI1 : Hid (TkI row o m R D i q' 1 out') := by
          have h := hI.out
          rw [hov1] at h
          exact h
        have hql : q' < 18446744073709551616 := hI.out.lt
        obtain ⟨p, hp⟩ : ∃ p, q' - 1 = p := ⟨_, rfl⟩
        have hqp : 1 ≤ q' := Nat.lt_of_le_of_lt (Nat.zero_le _) (tki_over (Nat.pos_of_ne_zero (fun h => by have := HDP.out; omega)) HI1.out)
        have r1 : (q' : Int) - 1 = (p : Int) := by omega
        have r2 : IntKind.u64.wrap (p : Int) = (p : Int) := wrapN _ (by omega)
        have HP := Lib.hid hp
        have HOV := Lib.hid hov1
        have HI2 := Lib.hid hi
        have ib : (i : Int) ≤ 2 := by omega
        clear hI hov hov1 hi hi2 hql hqp hp
        go_wp2_with (go_at_call 26; (with_reducible refine KG1.out.mono ?_); rintro e w3 ⟨out3, c3, rfl, hbk3, hst3, hb3, ho3⟩; have HN3 := Lib.hid (HN.out _ _ _ _ _ HI1.out hst3); rw [HP.out] at HN3; have hc3 := HN3.out.2.1; obtain ⟨ov3, hov3⟩ : ∃ x, 1 - c3 = x := ⟨_, rfl⟩; rw [hov3] at HN3; have r3 : (ov : Int) - (c3 : Int) = (ov3 : Int) := (by have := HOV.out; omega); have r4 : IntKind.u64.wrap (ov3 : Int) = (ov3 : Int) := wrapN _ (by omega); have HB3 := Lib.hid hb3; have HK3 := Lib.hid hbk3; have HO3 := Lib.hid (ho.out.trans ho3); clear hst3 hov3 hc3 hb3 hbk3 ho3)
        go_roundw
        case rel => exact ⟨i + 1, p, ov3, out3, HI2.out, by first | rfl | go_num, by first | rfl | go_num, by go_num, HN3.out.2.2, HK3, HB3, HO3⟩
        case measure => have := HI2.out; simp [intOf] <;> omega
end Go.Proofs.Ytdoohlehglakfaa
