/-
  Parts that are kept, as plain data (layer 16): the names of ranges; what is done to keep a part; what is found. · Comparisons of rows of any length: slices.Equal, the document's Same of layer 4 (printed by gen/csn.py). · The document's SamePart, Same of layer 14; crc.Same (printed by gen/cso.py).
-/
import Derived.Test.YtdaglbjdgdokpaaDoorPk35
import Derived.Test.YtdaglbjdgdokpaaDoorPk7
import Derived.Test.YtdaglbjdgdokpaaDoorPk14
import Derived.Test.YtdaglbjdgdokpaaDoorPk6
import Derived.Test.YtdaglbjdgdokpaaDoorPk21
import Derived.Test.YtdaglbjdgdokpaaDoorPk8
import Derived.Test.YtdaglbjdgdokpaaDoorPk10
import Derived.BigQuiet
import Derived.Test.YtdaglbjdgdokpaaDoorPk28
namespace Go.Proofs.YtdaglbjdgdokpaaDoor
open Go.RowKit
set_option linter.unusedVariables false
set_option linter.unusedSimpArgs false

/-! ### What is found -/
/-- The bytes of a string. -/
def ubs (s : ByteArray) : List Nat := s.toList.map UInt8.toNat
theorem ubs_all (s : ByteArray) : All 256 (ubs s) := by
  intro i h
  simp only [ubs, List.getElem_map]
  exact UInt8.toNat_lt _
theorem ubs_bs {l : List Nat} (h : All 256 l) : ubs (bs l) = l := by
  unfold ubs
  rw [bs_list, List.map_map]
  refine List.ext_getElem (by simp) fun i h1 h2 => ?_
  have := h i h2
  rw [List.getElem_map]
  show (UInt8.ofNat l[i]).toNat = _
  rw [UInt8.toNat_ofNat']
  omega
theorem bs_ubs (s : ByteArray) : bs (ubs s) = s := by
  obtain ⟨l, hl, rfl⟩ := bs_of s
  rw [ubs_bs hl]
/-- The part that a file keeps of a job. -/
def fnd1 (jc jd jg : Int) (f : Fl) : Option Rc :=
  if isC f.n = true then
    if (decB (ubs f.d)).1 = 0 ∧ (decB (ubs f.d)).2.con = jc ∧ (decB (ubs f.d)).2.dgs = jd ∧ (decB (ubs f.d)).2.gua = jg ∧ nmB (decB (ubs f.d)).2.frm (decB (ubs f.d)).2.til = f.n then some (decB (ubs f.d)).2 else none
  else none
def fndL (jc jd jg : Int) (l : List Fl) : List Rc := l.filterMap (fnd1 jc jd jg)
theorem fnd1_some {jc jd jg : Int} {f : Fl} {r : Rc} (h : fnd1 jc jd jg f = some r) : r.May ∧ r.Wd ∧ encB r = ubs f.d ∧ r.con = jc ∧ r.dgs = jd ∧ r.gua = jg ∧ nmB r.frm r.til = f.n ∧ isC f.n = true := by
  unfold fnd1 at h
  split at h
  case isFalse => cases h
  case isTrue hc =>
    split at h
    case isFalse => cases h
    case isTrue h1 =>
      obtain rfl := Option.some.inj h
      have h2 := dec_of (ubs_all f.d) (r := (decB (ubs f.d)).2) (by rw [← h1.1])
      exact ⟨h2.1, h2.2.1, h2.2.2, h1.2.1, h1.2.2.1, h1.2.2.2.1, h1.2.2.2.2, hc⟩
/-- A file that is a part's is found. -/
theorem fnd1_enc {r : Rc} (h : r.May) (hw : r.Wd) (sf : ByteArray) : fnd1 r.con r.dgs r.gua ⟨nmB r.frm r.til, bs (encB r), sf⟩ = some r := by
  unfold fnd1
  rw [if_pos (nmB_c _ _), ubs_bs (encB_all r), dec_enc r h hw]
  simp
theorem fnd1_not {jc jd jg : Int} {f : Fl} (h : isC f.n = false) : fnd1 jc jd jg f = none := by
  unfold fnd1
  rw [h]
  rfl
theorem fndL_mem {jc jd jg : Int} {l : List Fl} {r : Rc} : r ∈ fndL jc jd jg l ↔ ∃ f ∈ l, fnd1 jc jd jg f = some r := by unfold fndL; exact List.mem_filterMap
/-- Ranges of parts that may be are told apart by their names. -/
theorem rng_inj {r u : Rc} (hr : r.May) (hu : u.May) (e : nmB r.frm r.til = nmB u.frm u.til) : r.frm = u.frm ∧ r.til = u.til :=
  nmB_inj hr.1.2.2.1.1 hr.1.2.2.2.1 hu.1.2.2.1.1 hu.1.2.2.2.1 e
end Go.Proofs.YtdaglbjdgdokpaaDoor
namespace Go.Proofs.YtdaglbjdgdokpaaDoor
open Go.RowKit
set_option linter.unusedVariables false
set_option linter.unusedSimpArgs false

set_option maxRecDepth 100000 in
set_option maxHeartbeats 2000000 in
theorem rsame_big (v1 v2 : Value) (l m : List Nat) (w : World) (hr1 : Rw .u64 w v1 l) (hr2 : Rw .u64 w v2 m) :
    Calls Tryd.prog 20 #[v1, v2] w fun e w' => e = .returned (.bool (decide (l = m))) ∧ Bl w w' := by
  have hl := rw_len hr1
  have hm := rw_len hr2
  obtain ⟨A1, c1, rfl, _, _, _, hx1⟩ := hr1
  obtain ⟨A2, c2, rfl, _, _, _, hx2⟩ := hr2
  have H1 := Lib.hid hx1
  have H2 := Lib.hid hx2
  have hnb : (l.length : Int) ≤ 9223372036854775807 := by omega
  have hnm : (m.length : Int) ≤ 9223372036854775807 := by omega
  clear hx1 hx2 hl hm
  by_cases h : l.length = m.length
  · obtain ⟨n, hn⟩ : ∃ n, l.length = n := ⟨_, rfl⟩
    obtain ⟨b, hb⟩ : ∃ b, decide (l = m) = b := ⟨_, rfl⟩
    have HL := Lib.hid hn
    have HM := Lib.hid (h.symm.trans hn)
    have HB := Lib.hid hb
    rw [hb]
    rw [← h, hn]
    rw [hn] at hnb
    have r1 : ((n : Int) != (n : Int)) = false := by rw [bne_eq_false_iff_eq]
    clear hn h hb hnm
    go_enter Tryd.func20, Tryd.ntmps20
    go_wp2
    go_loopw [5] (fun s wr => ∃ i : Nat, i ≤ n ∧ s = .int .i64 (i : Int) ∧ Hid (l.take i = m.take i) ∧ Hid (Bl w wr)) (fun s _ => n - (intOf s).toNat)
    case atStart => exact ⟨0, Nat.zero_le _, rfl, by show l.take 0 = m.take 0; simp, Bl.refl w⟩
    case round =>
      obtain ⟨i, hin, rfl, ht, hb⟩ := hrel
      by_cases hlt : i < n
      · obtain ⟨a1, hA1, hc1⟩ := (H1.out.bl hb.out).at_ (i := i) (by rw [HL.out]; exact hlt)
        obtain ⟨a2, hA2, hc2⟩ := (H2.out.bl hb.out).at_ (i := i) (by rw [HM.out]; exact hlt)
        have s1 := Lib.hid (take_eq_step ht.out (by rw [HL.out]; exact hlt) (by rw [HM.out]; exact hlt))
        have s2 := Lib.hid (take_ne (l := l) (m := m) (i := i) (by rw [HL.out]; exact hlt) (by rw [HM.out]; exact hlt))
        obtain ⟨d1, e1⟩ : ∃ d, l[i]'(by rw [HL.out]; exact hlt) = d := ⟨_, rfl⟩
        obtain ⟨d2, e2⟩ : ∃ d, m[i]'(by rw [HM.out]; exact hlt) = d := ⟨_, rfl⟩
        rw [e1] at s1 s2 hc1
        rw [e2] at s1 s2 hc2
        have b2 : (0 : Int) ≤ (i : Int) ∧ (i : Int) < (n : Int) := by omega
        subst hA1
        subst hA2
        clear e1 e2
        by_cases hd : d1 = d2
        · have HS := Lib.hid (s1.out hd)
          have t1 : ((d1 : Int) != (d2 : Int)) = false := by rw [bne_eq_false_iff_eq]; omega
          clear hd
          go_wp2
          go_quiet (fail)
          go_wp2
          go_roundw
          case rel => exact ⟨i + 1, by omega, by go_num, HS.out, hb.out.drewN _⟩
          case measure => simp [intOf] <;> omega
        · have HF : Hid (b = false) := by rw [← HB.out]; exact decide_eq_false (s2.out hd)
          have t1 : ((d1 : Int) != (d2 : Int)) = true := by rw [bne_iff_ne]; omega
          clear hd
          go_wp2
          go_quiet (fail)
          go_wp2
          go_ret
          exact ⟨ret_b HF.out.symm, hb.out.drewN _⟩
      · have hin' : i = n := by omega
        have HT : Hid (b = true) := by
          rw [← HB.out]
          refine decide_eq_true ?_
          have e := ht.out
          rw [hin', ← HL.out, List.take_length, HL.out, ← HM.out, List.take_length] at e
          exact e
        clear hin'
        go_wp2
        go_ret
        exact ⟨ret_b HT.out.symm, hb.out⟩
  · have HF : Hid (decide (l = m) = false) := decide_eq_false (fun e => h (by rw [e]))
    have r1 : ((l.length : Int) != (m.length : Int)) = true := by rw [bne_iff_ne]; omega
    clear h
    go_enter Tryd.func20, Tryd.ntmps20
    go_wp2
    go_ret
    exact ⟨ret_b HF.out.symm, Bl.refl w⟩
end Go.Proofs.YtdaglbjdgdokpaaDoor
namespace Go.Proofs.YtdaglbjdgdokpaaDoor
open Go.RowKit
set_option linter.unusedVariables false
set_option linter.unusedSimpArgs false

/-- A part as a value. -/
def parV (r : Rc) (vp vq vt : Value) : Value := .agg #[.int .i64 r.frm, .int .i64 r.til, vp, vq, vt, .bool r.minus]
def parC (frm til : Int) (vp vq vt : Value) (minus : Bool) : List Value := [.int .i64 frm, .int .i64 til, vp, vq, vt, .bool minus]
/-- Are two parts the same? -/
def sameP (r u : Rc) : Bool := (((decide (r.p = u.p) && decide (r.q = u.q)) && decide (r.t = u.t)) && (r.frm == u.frm && r.til == u.til)) && (r.minus == u.minus)
def sameJ (r u : Rc) : Bool := r.con == u.con && r.dgs == u.dgs && r.gua == u.gua
theorem eql_range (a b c d : Int) (w : World) : (binOp .eql 34 (.agg #[.int .i64 a, .int .i64 b]) (.agg #[.int .i64 c, .int .i64 d])).run Tryd.prog w = .ok (.bool (a == c && b == d)) w := by
  go_simp
  by_cases h1 : a = c <;> by_cases h2 : b = d <;> simp [h1, h2]
theorem eql_job (a b c a' b' c' : Int) (w : World) : (binOp .eql 26 (.agg #[.int .i64 a, .int .i64 b, .int .i64 c]) (.agg #[.int .i64 a', .int .i64 b', .int .i64 c'])).run Tryd.prog w = .ok (.bool (a == a' && b == b' && c == c')) w := by
  go_simp
  by_cases h1 : a = a' <;> by_cases h2 : b = b' <;> by_cases h3 : c = c' <;> simp [h1, h2, h3]
theorem neq_job (a b c a' b' c' : Int) (w : World) : (binOp .neq 26 (.agg #[.int .i64 a, .int .i64 b, .int .i64 c]) (.agg #[.int .i64 a', .int .i64 b', .int .i64 c'])).run Tryd.prog w = .ok (.bool (!(a == a' && b == b' && c == c'))) w := by
  go_simp
  by_cases h1 : a = a' <;> by_cases h2 : b = b' <;> by_cases h3 : c = c' <;> simp [h1, h2, h3]
theorem eql_bool (a b : Bool) (w : World) : (binOp .eql 4 (.bool a) (.bool b)).run Tryd.prog w = .ok (.bool (a == b)) w := by
  go_simp

set_option maxRecDepth 100000 in
set_option maxHeartbeats 4000000 in
theorem rsamePart_any (r u : Rc) (vp vq vt up uq ut : Value) (w : World) (hp : Rw .u64 w vp r.p) (hq : Rw .u64 w vq r.q) (ht : Rw .u64 w vt r.t) (kp : Rw .u64 w up u.p) (kq : Rw .u64 w uq u.q) (kt : Rw .u64 w ut u.t) :
    Calls Tryd.prog 12 #[parV r vp vq vt, parV u up uq ut] w fun e w' => e = .returned (.bool (sameP r u)) ∧ Bl w w' := by
  unfold parV sameP
  have K1 := Lib.hid (fun W (g : Bl w W) => rsame_big vp up r.p u.p W (hp.bl g) (kp.bl g))
  have K2 := Lib.hid (fun W (g : Bl w W) => rsame_big vq uq r.q u.q W (hq.bl g) (kq.bl g))
  have K3 := Lib.hid (fun W (g : Bl w W) => rsame_big vt ut r.t u.t W (ht.bl g) (kt.bl g))
  have x4 := fun W => eql_range r.frm r.til u.frm u.til W
  have x5 := fun W => eql_bool r.minus u.minus W
  obtain ⟨b1, e1⟩ : ∃ b, decide (r.p = u.p) = b := ⟨_, rfl⟩
  obtain ⟨b2, e2⟩ : ∃ b, decide (r.q = u.q) = b := ⟨_, rfl⟩
  obtain ⟨b3, e3⟩ : ∃ b, decide (r.t = u.t) = b := ⟨_, rfl⟩
  obtain ⟨b4, e4⟩ : ∃ b, (r.frm == u.frm && r.til == u.til) = b := ⟨_, rfl⟩
  obtain ⟨b5, e5⟩ : ∃ b, (r.minus == u.minus) = b := ⟨_, rfl⟩
  rw [e1] at K1 ⊢
  rw [e2] at K2 ⊢
  rw [e3] at K3 ⊢
  simp only [e4] at x4
  simp only [e5] at x5
  rw [e4, e5]
  clear e1 e2 e3 e4 e5
  obtain ⟨con, dgs, gua, frm, til, p, q, t, m⟩ := r
  obtain ⟨con', dgs', gua', frm', til', p', q', t', m'⟩ := u
  dsimp only at hp hq ht kp kq kt x4 x5 ⊢
  obtain ⟨A1, c1, rfl, _⟩ := hp
  obtain ⟨A2, c2, rfl, _⟩ := hq
  obtain ⟨A3, c3, rfl, _⟩ := ht
  obtain ⟨A4, c4, rfl, _⟩ := kp
  obtain ⟨A5, c5, rfl, _⟩ := kq
  obtain ⟨A6, c6, rfl, _⟩ := kt
  have PA0 := Lib.hid ((Bq.new w 43 (parC frm til (.slice A1 p.length c1) (.slice A2 q.length c2) (.slice A3 t.length c3) m)).alloc (.cells (parC frm' til' (.slice A4 p'.length c4) (.slice A5 q'.length c5) (.slice A6 t'.length c6) m').toArray 43))
  have PB0 : Hid (Bq ((w.alloc (.cells (parC frm til (.slice A1 p.length c1) (.slice A2 q.length c2) (.slice A3 t.length c3) m).toArray 43)).alloc (.cells (parC frm' til' (.slice A4 p'.length c4) (.slice A5 q'.length c5) (.slice A6 t'.length c6) m').toArray 43)) (w.heap.size + 1) 43 (parC frm' til' (.slice A4 p'.length c4) (.slice A5 q'.length c5) (.slice A6 t'.length c6) m')) := by
    have := Bq.new (w.alloc (.cells (parC frm til (.slice A1 p.length c1) (.slice A2 q.length c2) (.slice A3 t.length c3) m).toArray 43)) 43 (parC frm' til' (.slice A4 p'.length c4) (.slice A5 q'.length c5) (.slice A6 t'.length c6) m')
    rwa [show (w.alloc (.cells (parC frm til (.slice A1 p.length c1) (.slice A2 q.length c2) (.slice A3 t.length c3) m).toArray 43)).heap.size = w.heap.size + 1 by simp] at this
  rcases five_ways b1 b2 b3 b4 b5 with rfl | ⟨rfl, rfl⟩ | ⟨rfl, rfl, rfl⟩ | ⟨rfl, rfl, rfl, rfl⟩ | ⟨rfl, rfl, rfl, rfl, rfl⟩ | ⟨rfl, rfl, rfl, rfl, rfl⟩
  all_goals
    go_enter Tryd.func12, Tryd.ntmps12
    go_wp2_with (first
      | (go_at_call 20; (with_reducible refine (K1.out _ (((Bl.refl w).alloc _).alloc _)).mono ?_); rintro e w1 ⟨rfl, hb⟩; have G1 := Lib.hid ((((Bl.refl w).alloc _).alloc _).trans hb); have PA1 := Lib.hid (PA0.out.bl hb); have PB1 := Lib.hid (PB0.out.bl hb); have cPA10 := PA1.out.cell 0 rfl; have cPA11 := PA1.out.cell 1 rfl; have cPA12 := PA1.out.cell 2 rfl; have cPA13 := PA1.out.cell 3 rfl; have cPA14 := PA1.out.cell 4 rfl; have cPA15 := PA1.out.cell 5 rfl; have cPB10 := PB1.out.cell 0 rfl; have cPB11 := PB1.out.cell 1 rfl; have cPB12 := PB1.out.cell 2 rfl; have cPB13 := PB1.out.cell 3 rfl; have cPB14 := PB1.out.cell 4 rfl; have cPB15 := PB1.out.cell 5 rfl; clear hb)
      | (go_at_call 20; (with_reducible refine (K2.out _ G1.out).mono ?_); rintro e w2 ⟨rfl, hb⟩; have G2 := Lib.hid (G1.out.trans hb); have PA2 := Lib.hid (PA1.out.bl hb); have PB2 := Lib.hid (PB1.out.bl hb); have cPA20 := PA2.out.cell 0 rfl; have cPA21 := PA2.out.cell 1 rfl; have cPA22 := PA2.out.cell 2 rfl; have cPA23 := PA2.out.cell 3 rfl; have cPA24 := PA2.out.cell 4 rfl; have cPA25 := PA2.out.cell 5 rfl; have cPB20 := PB2.out.cell 0 rfl; have cPB21 := PB2.out.cell 1 rfl; have cPB22 := PB2.out.cell 2 rfl; have cPB23 := PB2.out.cell 3 rfl; have cPB24 := PB2.out.cell 4 rfl; have cPB25 := PB2.out.cell 5 rfl; clear hb)
      | (go_at_call 20; (with_reducible refine (K3.out _ G2.out).mono ?_); rintro e w3 ⟨rfl, hb⟩; have G3 := Lib.hid (G2.out.trans hb); have PA3 := Lib.hid (PA2.out.bl hb); have PB3 := Lib.hid (PB2.out.bl hb); have cPA30 := PA3.out.cell 0 rfl; have cPA31 := PA3.out.cell 1 rfl; have cPA32 := PA3.out.cell 2 rfl; have cPA33 := PA3.out.cell 3 rfl; have cPA34 := PA3.out.cell 4 rfl; have cPA35 := PA3.out.cell 5 rfl; have cPB30 := PB3.out.cell 0 rfl; have cPB31 := PB3.out.cell 1 rfl; have cPB32 := PB3.out.cell 2 rfl; have cPB33 := PB3.out.cell 3 rfl; have cPB34 := PB3.out.cell 4 rfl; have cPB35 := PB3.out.cell 5 rfl; clear hb))
    all_goals go_ret
    all_goals exact ⟨by simp, by first | exact G3.out | exact G2.out | exact G1.out⟩

end Go.Proofs.YtdaglbjdgdokpaaDoor
