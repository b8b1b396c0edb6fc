/-
  Package crc: words, the closure of decoded that takes a row.
-/
import Derived.Test.YtdaglbjdgdokpaaDoorPk17
import Derived.Test.YtdaglbjdgdokpaaDoorPk25
namespace Go.Proofs.YtdaglbjdgdokpaaDoor
open Go.RowKit
set_option linter.unusedVariables false
set_option linter.unusedSimpArgs false

theorem St.oth {w : World} {bC bS bF n : Nat} {s : List Nat} (h : St w bC bS bF s n) {g : Nat} (i : Nat) (v : Value) (h1 : g ≠ bC) (h2 : g ≠ bS) (h3 : g ≠ bF) : St (w.setCell ⟨g, i, none⟩ v) bC bS bF s n :=
  ⟨h.check.oth i v h1, h.left.oth i v h2, h.err.oth i v h3, h.cs, h.cf, h.sf, h.all, h.short⟩
theorem Er.bl {w w' : World} {b n : Nat} (h : Er w b n) (g : Bl w w') : Er w' b n := by
  obtain ⟨u, h1, h2⟩ := h
  exact ⟨u, h1.bl g, h2⟩
theorem St.bl {w w' : World} {bC bS bF n : Nat} {s : List Nat} (h : St w bC bS bF s n) (g : Bl w w') : St w' bC bS bF s n :=
  ⟨h.check.bl g, h.left.bl g, h.err.bl g, h.cs, h.cf, h.sf, h.all, h.short⟩
theorem St.lt {w : World} {bC bS bF n : Nat} {s : List Nat} (h : St w bC bS bF s n) : bC < w.heap.size ∧ bS < w.heap.size ∧ bF < w.heap.size := by
  obtain ⟨u, h1, h2⟩ := h.err
  exact ⟨h.check.lt, h.left.lt, h1.lt⟩
theorem Ex.new {p q : Nat} {W w : World} (h : Ex p q W w) {g : Nat} (hg : W.heap.size ≤ g) (i : Nat) (v : Value) : Ex p q W (w.setCell ⟨g, i, none⟩ v) := by
  refine ⟨h.os, h.tape, h.output, by show _ ≤ (w.heap.modify _ _).size; rw [Array.size_modify]; exact h.size, fun k hk h1 h2 => ?_⟩
  rw [← h.block k hk h1 h2]
  show (w.heap.modify g _)[k]? = _
  rw [Array.getElem?_modify, if_neg (by omega)]
theorem numE_all {k n : Nat} {s : List Nat} (hk : k ≤ 8) (ha : All 256 s) : (numE k n s).1 < 18446744073709551616 := by
  unfold numE
  split
  · show 0 < 18446744073709551616; decide
  · split
    · show 0 < 18446744073709551616; decide
    · exact bnum_lt8 (all_take ha k) (by rw [List.length_take]; omega)

/-- Between two words. -/
structure WdI (c : Nat) (u : List Nat) (i n : Nat) (out s : List Nat) : Prop where
  len : out.length = c
  all : All 18446744073709551616 out
  good : n = 0 → TkI c u i (out.take i) s
  bad : n ≠ 0 → n = 5 ∧ tkWords c u = none
theorem all_set' {B : Nat} {l : List Nat} (h : All B l) (i x : Nat) (hx : x < B) : All B (l.set i x) := by
  intro j hj
  rw [List.getElem_set]
  split
  · exact hx
  · exact h j (by rw [List.length_set] at hj; exact hj)
theorem wdi_start {c : Nat} {u : List Nat} (ha : All 256 u) : WdI c u 0 0 (List.replicate c 0) u :=
  ⟨List.length_replicate, fun i hi => by rw [List.getElem_replicate]; decide, fun _ => by rw [List.take_zero]; exact tki_start ha, fun h => absurd rfl h⟩
theorem wdi_step {c : Nat} {u : List Nat} {i n : Nat} {out s : List Nat} (h : WdI c u i n out s) (hi : i < c) {v n' : Nat} {s' : List Nat} (hx : numE 8 n s = (v, n', s')) (hv : v < 18446744073709551616) : WdI c u (i + 1) n' (out.set i v) s' := by
  refine ⟨by rw [List.length_set]; exact h.len, all_set' h.all i v hv, ?_, ?_⟩
  · intro h0
    unfold numE at hx
    by_cases hn : n ≠ 0
    · rw [if_pos hn] at hx
      simp only [Prod.mk.injEq] at hx
      omega
    · rw [if_neg hn] at hx
      by_cases hs : s.length < 8
      · rw [if_pos hs] at hx
        simp only [Prod.mk.injEq] at hx
        omega
      · rw [if_neg hs] at hx
        simp only [Prod.mk.injEq] at hx
        obtain ⟨e1, _, e3⟩ := hx
        have hk := tki_step (h.good (by omega)) hi hs
        have hli : i < out.length := by rw [h.len]; exact hi
        have e : (out.set i v).take (i + 1) = out.take i ++ [v] := by
          rw [List.take_succ_eq_append_getElem (by rw [List.length_set]; exact hli), List.getElem_set_self, List.take_set_of_le (Nat.le_refl i)]
        rw [e, ← e1, ← e3]
        exact hk
  · intro h0
    unfold numE at hx
    by_cases hn : n ≠ 0
    · rw [if_pos hn] at hx
      simp only [Prod.mk.injEq] at hx
      rw [← hx.2.1]
      exact h.bad hn
    · rw [if_neg hn] at hx
      by_cases hs : s.length < 8
      · rw [if_pos hs] at hx
        simp only [Prod.mk.injEq] at hx
        exact ⟨hx.2.1.symm, tki_short (h.good (by omega)) hi hs⟩
      · rw [if_neg hs] at hx
        simp only [Prod.mk.injEq] at hx
        omega
/-- What words gives: l, the error n', what is left. -/
structure WdR (s : List Nat) (n : Nat) (l : List Nat) (n' : Nat) (s' : List Nat) : Prop where
  keep : n ≠ 0 → n' = n
  err : n = 0 → n' = (tkRow s).1
  ok : n = 0 → n' = 0 → l = (tkRow s).2.1 ∧ s' = (tkRow s).2.2
theorem ckE_zero {ok : Bool} {e n : Nat} (he : e ≠ 0) : ckE ok e n = 0 ↔ n = 0 ∧ ok = true := by
  unfold ckE
  by_cases hn : n = 0
  · rw [if_pos hn]; cases ok <;> simp [hn, he]
  · rw [if_neg hn]; simp [hn]
theorem wdr_none {s s1 : List Nat} {n c m : Nat} (hx : numE 4 n s = (c, m, s1)) (h : ckE (decide (c ≤ 4096)) 4 m ≠ 0) : WdR s n [] (ckE (decide (c ≤ 4096)) 4 m) s1 := by
  unfold numE at hx
  by_cases hn : n = 0
  · rw [if_neg (by omega)] at hx
    by_cases hs : s.length < 4
    · rw [if_pos hs] at hx
      simp only [Prod.mk.injEq] at hx
      obtain ⟨rfl, rfl, rfl⟩ := hx
      have e : tkRow s = (5, [], []) := by unfold tkRow; rw [if_pos hs]
      have e2 : ckE (decide (0 ≤ 4096)) 4 5 = 5 := rfl
      rw [e2]
      exact ⟨fun h => absurd hn h, fun _ => by rw [e], fun _ h => absurd h (by decide)⟩
    · rw [if_neg hs] at hx
      simp only [Prod.mk.injEq] at hx
      obtain ⟨rfl, rfl, rfl⟩ := hx
      by_cases hc : bnum (s.take 4) ≤ 4096
      · exact absurd (by rw [decide_eq_true hc]; rfl) h
      · have e : tkRow s = (4, [], []) := by unfold tkRow; rw [if_neg hs, if_pos (by omega)]
        have e2 : ckE (decide (bnum (s.take 4) ≤ 4096)) 4 0 = 4 := by rw [decide_eq_false hc]; rfl
        rw [e2]
        exact ⟨fun h => absurd hn h, fun _ => by rw [e], fun _ h => absurd h (by decide)⟩
  · rw [if_pos hn] at hx
    simp only [Prod.mk.injEq] at hx
    obtain ⟨rfl, rfl, rfl⟩ := hx
    have e2 : ckE (decide (0 ≤ 4096)) 4 n = n := by unfold ckE; rw [if_neg hn]
    rw [e2]
    exact ⟨fun _ => rfl, fun h => absurd h hn, fun h => absurd h hn⟩
theorem wdr_some {s s1 out s2 : List Nat} {n c m k : Nat} (hx : numE 4 n s = (c, m, s1)) (h : ckE (decide (c ≤ 4096)) 4 m = 0) (hI : WdI c s1 c k out s2) : WdR s n out (ckE (decide (Nm out)) 6 k) s2 := by
  obtain ⟨rfl, hc⟩ := (ckE_zero (by decide)).1 h
  have hc := of_decide_eq_true hc
  unfold numE at hx
  by_cases hn : n = 0
  · rw [if_neg (by omega)] at hx
    by_cases hs : s.length < 4
    · rw [if_pos hs] at hx
      simp only [Prod.mk.injEq] at hx
      omega
    · rw [if_neg hs] at hx
      simp only [Prod.mk.injEq] at hx
      obtain ⟨rfl, _, rfl⟩ := hx
      have e : tkRow s = match tkWords (bnum (s.take 4)) (s.drop 4) with
        | none => (5, [], [])
        | some (l, r) => if Nm l then (0, l, r) else (6, [], []) := by unfold tkRow; rw [if_neg hs, if_neg (by omega)]; rfl
      by_cases hk : k = 0
      · have ht := tki_end (hI.good hk) (Nat.lt_irrefl _)
        rw [List.take_of_length_le (l := out) (by rw [hI.len]; exact Nat.le_refl _)] at ht
        rw [ht] at e
        dsimp only at e
        by_cases hm : Nm out
        · rw [if_pos hm] at e
          have e2 : ckE (decide (Nm out)) 6 k = 0 := by rw [hk, decide_eq_true hm]; rfl
          rw [e2]
          exact ⟨fun h => absurd hn h, fun _ => by rw [e], fun _ _ => by rw [e]; exact ⟨rfl, rfl⟩⟩
        · rw [if_neg hm] at e
          have e2 : ckE (decide (Nm out)) 6 k = 6 := by rw [hk, decide_eq_false hm]; rfl
          rw [e2]
          exact ⟨fun h => absurd hn h, fun _ => by rw [e], fun _ h => absurd h (by decide)⟩
      · obtain ⟨h5, ht⟩ := hI.bad hk
        rw [ht] at e
        have e2 : ckE (decide (Nm out)) 6 k = 5 := by unfold ckE; rw [if_neg hk]; exact h5
        rw [e2]
        exact ⟨fun h => absurd hn h, fun _ => by rw [e], fun _ h => absurd h (by decide)⟩
  · rw [if_pos hn] at hx
    simp only [Prod.mk.injEq] at hx
    omega
/-- What a call answers that hands back a row, and turns the boxes. -/
def WdEnd (W : World) (bC bS bF : Nat) (s : List Nat) (n : Nat) (e : Ending) (w : World) : Prop :=
  ∃ v l n' s', e = .returned v ∧ Rw .u64 w v l ∧ All 18446744073709551616 l ∧ St w bC bS bF s' n' ∧ WdR s n l n' s' ∧ Ex bS bF W w
theorem mkU {P : Program} (k kc : IntKind) (t e : TypeId) (i : TypeInfo) (ht : P.underlying t = some (.slice e)) (hi : P.info? e = some i) (hz : i.zero = some (.int k 0)) (hs : i.size = 1) (hb8 : i.bytes ≤ 8) (n : Nat) (hn : n < 1099511627776) (w : World) :
    (Instr.makeSlice t (.int kc (n : Int)) (.int kc (n : Int))).run P w = .ok (.slice (some ⟨w.heap.size, 0, none⟩) n n) (w.alloc (.cells (vs k (List.replicate n 0)).toArray e)) := by
  have hb : (i.bytes : Int) * (n : Int) ≤ 281474976710656 := by
    have h : i.bytes * n ≤ 8 * n := Nat.mul_le_mul_right _ hb8
    have h' : ((i.bytes * n : Nat) : Int) ≤ 281474976710656 := by omega
    rwa [Int.natCast_mul] at h'
  have hr := run_make (P := P) w t e i (.int k 0) ht hi hz kc kc n n (by omega) (by omega) hb (by omega)
  simp only [Int.toNat_natCast] at hr
  rw [hr, hs, Nat.mul_one]
  have e1 : madeCells (Value.int k 0).cells n = (vs k (List.replicate n 0)).toArray := by
    apply Array.toList_inj.1
    have h1 : (Value.int k 0).cells = #[.int k 0] := rfl
    rw [h1, toList_madeCells_one]
    simp [vs]
  rw [e1]
theorem info64 : (Tryd.prog.info? 68).map (fun i => (i.zero, i.size, i.bytes)) = some (some (.int .u64 0), 1, 8) := by kernel_rfl

/-- The box of number. -/
def NumB (w : World) (bN bC bS : Nat) : Prop := Bq w bN 116 [.func (.func 59) #[] #[.pointer (some ⟨bC, 0, none⟩), .pointer (some ⟨bS, 0, none⟩)]]
set_option maxRecDepth 100000 in
set_option maxHeartbeats 4000000 in
theorem pcwords_any (f : ByteArray) (bN bC bS bF n : Nat) (s : List Nat) (w : World) (h : St w bC bS bF s n) (hN : NumB w bN bC bS) (ns : bN ≠ bS) (nf : bN ≠ bF) :
    Calls Tryd.prog 60 #[.string f, .pointer (some ⟨bN, 0, none⟩), .pointer (some ⟨bC, 0, none⟩)] w (WdEnd w bC bS bF s n) := by
  have qN := hN.cell 0 rfl
  have K4 := Lib.hid (pnumber_any 4 4 rfl (by decide) f bC bS bF n s w h)
  have hc64 := numE_all (k := 4) (n := n) (by decide) h.all
  rcases hx : numE 4 n s with ⟨c, m, s1⟩
  rw [hx] at K4 hc64
  dsimp only at hc64
  have cb : (c : Int) ≤ 18446744073709551615 := by omega
  have KC := Lib.hid (fun W (hW : St W bC bS bF s1 m) => pcheck_any (decide (c ≤ 4096)) f 4 4 rfl m bF (by decide) W hW.err)
  have HX := Lib.hid hx
  have HN := Lib.hid hN
  have HNS := Lib.hid ns
  have HNF := Lib.hid nf
  obtain ⟨ok, eok⟩ : ∃ ok, decide (c ≤ 4096) = ok := ⟨_, rfl⟩
  have d0 : decide ((c : Int) ≤ 4096) = ok := by rw [← eok]; exact decide_eq_decide.2 (by omega)
  by_cases hz : ckE (decide (c ≤ 4096)) 4 m = 0
  · have HR := Lib.hid (fun k out s2 (h : WdI c s1 c k out s2) => wdr_some hx hz h)
    obtain ⟨hm0, hok⟩ := (ckE_zero (by decide)).1 hz
    have hcl := of_decide_eq_true hok
    rw [hz] at KC
    rw [eok] at hok
    subst hok
    obtain ⟨i0, hi, hz0, hz1, hz2⟩ := info_parts info64
    have hmk := fun W => mkU (P := Tryd.prog) .u64 .u64 41 68 i0 Tryd.underlying41 hi hz0 hz1 (by omega) c (by omega) W
    have cb2 : (c : Int) ≤ 4096 := by omega
    have HC := Lib.hid hcl
    have K8 := Lib.hid (fun n' s' W (hW : St W bC bS bF s' n') => pnumber_any 8 8 rfl (by decide) f bC bS bF n' s' W hW)
    rw [eok] at KC
    clear h hN ns nf hx hc64 hz eok hm0 hcl
    go_enter Tryd.func60, Tryd.ntmps60
    go_wp2_with (first
      | (go_at_call 59; (with_reducible refine K4.out.mono ?_); rintro e w1 ⟨rfl, hst, hex⟩; have S1 := Lib.hid hst; have E1 := Lib.hid hex; have qC := S1.out.check.cell 0 rfl; clear hst hex)
      | (go_at_call 58; (with_reducible refine (KC.out _ S1.out).mono ?_); rintro e w2 ⟨rfl, hr, hex⟩; have S2 := Lib.hid (S1.out.of_ex hex hr); have E2 := Lib.hid (E1.out.trans hex.wide); clear hr hex))
    obtain ⟨g, hg⟩ : ∃ g, w2.heap.size = g := ⟨_, rfl⟩
    have HB0 : Hid (Bk .u64 68 (w2.alloc (.cells (vs .u64 (List.replicate c 0)).toArray 68)) g (List.replicate c 0)) := by rw [← hg]; exact Bk.made _ _ _ _
    have E3 : Hid (Ex bS bF w (w2.alloc (.cells (vs .u64 (List.replicate c 0)).toArray 68))) := E2.out.trans (Ex.of_bl ((Bl.refl _).alloc _))
    have S3 : Hid (St (w2.alloc (.cells (vs .u64 (List.replicate c 0)).toArray 68)) bC bS bF s1 0) := S2.out.bl ((Bl.refl _).alloc _)
    have HG : Hid (w.heap.size ≤ g ∧ g ≠ bC ∧ g ≠ bS ∧ g ≠ bF) := by
      have h1 := E2.out.size
      have h2 := S2.out.lt
      show _ ∧ _
      omega
    have NB : Hid (∀ W, Ex bS bF w W → NumB W bN bC bS) := fun W hW => HN.out.ex hW HNS.out HNF.out
    rw [hg]
    clear hmk d0
    go_loopw [21] (fun iv wr => ∃ (i k : Nat) (out s' : List Nat), i ≤ c ∧ iv = .int .i64 (i : Int) ∧ Hid (WdI c s1 i k out s') ∧ Hid (St wr bC bS bF s' k) ∧ Hid (Bk .u64 68 wr g out) ∧ Hid (Ex bS bF w wr)) (fun iv _ => c - (intOf iv).toNat)
    case atStart => exact ⟨0, 0, _, s1, Nat.zero_le _, rfl, wdi_start S1.out.all, S3, HB0, E3⟩
    case round =>
      obtain ⟨i, k, out, s', hic, rfl, hI, hst, hbk, hex⟩ := hrel
      by_cases hlt : i < c
      · have qN := (NB.out _ hex.out).cell 0 rfl
        have K := Lib.hid (K8.out k s' _ hst.out)
        have hv := numE_all (k := 8) (n := k) (by decide) hst.out.all
        rcases hx : numE 8 k s' with ⟨v, k2, s2⟩
        rw [hx] at K hv
        dsimp only at hv
        have HI := Lib.hid (wdi_step hI.out hlt hx hv)
        have hil : i < out.length := by rw [hI.out.len]; exact hlt
        have HIL := Lib.hid hil
        have b1 : (0 : Int) ≤ (i : Int) ∧ (i : Int) < (c : Int) := by omega
        have HK1 : Hid (i + 1 ≤ c) := hlt
        clear hx hv hil
        go_wp2_with (go_at_call 59; (with_reducible refine K.out.mono ?_); rintro e w4 ⟨rfl, hst4, hex4⟩; have S4 := Lib.hid hst4; have E4 := Lib.hid (hex.out.trans hex4); have B4 := Lib.hid (hbk.out.ex hex4 HG.out.2.2.1 HG.out.2.2.2); have qB := B4.out.cell i HIL.out; have fB := B4.out.free i; clear hst4 hex4)
        go_roundw
        case rel => exact ⟨i + 1, k2, _, s2, HK1.out, by go_num, HI, S4.out.oth _ _ HG.out.2.1 HG.out.2.2.1 HG.out.2.2.2, B4.out.set i v HIL.out, E4.out.new HG.out.1 _ _⟩
        case measure => have := HK1.out; simp [intOf] <;> omega
      · obtain rfl : i = c := by omega
        have qC := hst.out.check.cell 0 rfl
        have hlen := hI.out.len
        have KN := Lib.hid (fun W' (gW : Bl wr W') => pnormalized_any (.slice (some ⟨g, 0, none⟩) i i) out hI.out.all (by rw [hlen]; have := HC.out; omega) W' ((hbk.out.rw hlen.symm (by unfold maxLen; have := HC.out; omega)).bl gW))
        have HRR := Lib.hid (HR.out k out s' hI.out)
        have KQ := Lib.hid (fun W' (gW : Bl wr W') => pcheck_any (decide (Nm out)) f 6 6 rfl k bF (by decide) W' (hst.out.err.bl gW))
        have HLE := Lib.hid hlen
        clear hic hlt hlen
        obtain ⟨r, er⟩ : ∃ r, decide (Nm out) = r := ⟨_, rfl⟩
        rw [er] at KN KQ HRR
        go_wp2
        go_region_with (first
          | (go_at_call 61; (with_reducible refine (KN.out _ (Bl.refl wr).drew).mono ?_); rintro e w5 ⟨rfl, hb5⟩; have G5 := Lib.hid ((Bl.refl wr).drew.trans hb5); have qC5 := (hst.out.bl G5.out).check.cell 0 rfl; clear hb5)
          | (go_at_call 58; (with_reducible refine (KQ.out _ G5.out).mono ?_); rintro e w6 ⟨rfl, hr, hx6⟩; have S6 := Lib.hid ((hst.out.bl G5.out).of_ex hx6 hr); have E6 := Lib.hid ((hex.out.trans (Ex.of_bl G5.out)).trans hx6.wide); have R6 := Lib.hid (hx6); clear hr hx6))
        all_goals (try go_wp2)
        all_goals go_ret
        all_goals exact ⟨_, out, _, s', rfl, ((hbk.out.bl G5.out).ex R6.out HG.out.2.2.2 HG.out.2.2.2).rw HLE.out.symm (by unfold maxLen; have := HC.out; omega), hI.out.all, S6.out, HRR.out, E6.out⟩
  · have HR := Lib.hid (wdr_none hx hz)
    have HZ := Lib.hid (decide_eq_false hz)
    rw [eok] at KC HR HZ
    clear h hN ns nf hx hc64 hz
    go_enter Tryd.func60, Tryd.ntmps60
    go_wp2_with (first
      | (go_at_call 59; (with_reducible refine K4.out.mono ?_); rintro e w1 ⟨rfl, hst, hex⟩; have S1 := Lib.hid hst; have E1 := Lib.hid hex; have qC := S1.out.check.cell 0 rfl; clear hst hex)
      | (go_at_call 58; (with_reducible refine (KC.out _ S1.out).mono ?_); rintro e w2 ⟨rfl, hr, hex⟩; rw [HZ.out]; have S2 := Lib.hid (S1.out.of_ex hex hr); have E2 := Lib.hid (E1.out.trans hex.wide); clear hr hex))
    go_ret
    exact ⟨_, [], _, s1, rfl, Rw.nil _ _, all_nil _, S2.out, HR.out, E2.out⟩
end Go.Proofs.YtdaglbjdgdokpaaDoor
