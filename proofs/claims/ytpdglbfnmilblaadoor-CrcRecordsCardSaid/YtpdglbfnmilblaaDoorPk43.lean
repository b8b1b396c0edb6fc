/-
  The document's SamePart, Same of layer 14; crc.Same (printed by gen/cso.py).
-/
import Derived.Test.YtpdglbfnmilblaaDoorPk42
import Derived.Test.YtpdglbfnmilblaaDoorPk35
namespace Go.Proofs.YtpdglbfnmilblaaDoor
open Go.RowKit
set_option linter.unusedVariables false
set_option linter.unusedSimpArgs false

/-- A part as a value. -/
def parV (r : Rc) (vp vq vt : Value) : Value := .agg #[.int .i64 r.frm, .int .i64 r.til, vp, vq, vt, .bool r.minus]
def parC (frm til : Int) (vp vq vt : Value) (minus : Bool) : List Value := [.int .i64 frm, .int .i64 til, vp, vq, vt, .bool minus]
/-- Are two parts the same? -/
def sameP (r u : Rc) : Bool := (((decide (r.p = u.p) && decide (r.q = u.q)) && decide (r.t = u.t)) && (r.frm == u.frm && r.til == u.til)) && (r.minus == u.minus)
def sameJ (r u : Rc) : Bool := r.con == u.con && r.dgs == u.dgs && r.gua == u.gua
theorem eql_range (a b c d : Int) (w : World) : (binOp .eql 25 (.agg #[.int .i64 a, .int .i64 b]) (.agg #[.int .i64 c, .int .i64 d])).run Tryd.prog w = .ok (.bool (a == c && b == d)) w := by
  go_simp
  by_cases h1 : a = c <;> by_cases h2 : b = d <;> simp [h1, h2]
theorem eql_job (a b c a' b' c' : Int) (w : World) : (binOp .eql 23 (.agg #[.int .i64 a, .int .i64 b, .int .i64 c]) (.agg #[.int .i64 a', .int .i64 b', .int .i64 c'])).run Tryd.prog w = .ok (.bool (a == a' && b == b' && c == c')) w := by
  go_simp
  by_cases h1 : a = a' <;> by_cases h2 : b = b' <;> by_cases h3 : c = c' <;> simp [h1, h2, h3]
theorem neq_job (a b c a' b' c' : Int) (w : World) : (binOp .neq 23 (.agg #[.int .i64 a, .int .i64 b, .int .i64 c]) (.agg #[.int .i64 a', .int .i64 b', .int .i64 c'])).run Tryd.prog w = .ok (.bool (!(a == a' && b == b' && c == c'))) w := by
  go_simp
  by_cases h1 : a = a' <;> by_cases h2 : b = b' <;> by_cases h3 : c = c' <;> simp [h1, h2, h3]
theorem eql_bool (a b : Bool) (w : World) : (binOp .eql 4 (.bool a) (.bool b)).run Tryd.prog w = .ok (.bool (a == b)) w := by
  go_simp

set_option maxRecDepth 100000 in
set_option maxHeartbeats 4000000 in
theorem rsamePart_any (r u : Rc) (vp vq vt up uq ut : Value) (w : World) (hp : Rw .u64 w vp r.p) (hq : Rw .u64 w vq r.q) (ht : Rw .u64 w vt r.t) (kp : Rw .u64 w up u.p) (kq : Rw .u64 w uq u.q) (kt : Rw .u64 w ut u.t) :
    Calls Tryd.prog 16 #[parV r vp vq vt, parV u up uq ut] w fun e w' => e = .returned (.bool (sameP r u)) ∧ Bl w w' := by
  unfold parV sameP
  have K1 := Lib.hid (fun W (g : Bl w W) => rsame_big vp up r.p u.p W (hp.bl g) (kp.bl g))
  have K2 := Lib.hid (fun W (g : Bl w W) => rsame_big vq uq r.q u.q W (hq.bl g) (kq.bl g))
  have K3 := Lib.hid (fun W (g : Bl w W) => rsame_big vt ut r.t u.t W (ht.bl g) (kt.bl g))
  have x4 := fun W => eql_range r.frm r.til u.frm u.til W
  have x5 := fun W => eql_bool r.minus u.minus W
  obtain ⟨b1, e1⟩ : ∃ b, decide (r.p = u.p) = b := ⟨_, rfl⟩
  obtain ⟨b2, e2⟩ : ∃ b, decide (r.q = u.q) = b := ⟨_, rfl⟩
  obtain ⟨b3, e3⟩ : ∃ b, decide (r.t = u.t) = b := ⟨_, rfl⟩
  obtain ⟨b4, e4⟩ : ∃ b, (r.frm == u.frm && r.til == u.til) = b := ⟨_, rfl⟩
  obtain ⟨b5, e5⟩ : ∃ b, (r.minus == u.minus) = b := ⟨_, rfl⟩
  rw [e1] at K1 ⊢
  rw [e2] at K2 ⊢
  rw [e3] at K3 ⊢
  simp only [e4] at x4
  simp only [e5] at x5
  rw [e4, e5]
  clear e1 e2 e3 e4 e5
  obtain ⟨con, dgs, gua, frm, til, p, q, t, m⟩ := r
  obtain ⟨con', dgs', gua', frm', til', p', q', t', m'⟩ := u
  dsimp only at hp hq ht kp kq kt x4 x5 ⊢
  obtain ⟨A1, c1, rfl, _⟩ := hp
  obtain ⟨A2, c2, rfl, _⟩ := hq
  obtain ⟨A3, c3, rfl, _⟩ := ht
  obtain ⟨A4, c4, rfl, _⟩ := kp
  obtain ⟨A5, c5, rfl, _⟩ := kq
  obtain ⟨A6, c6, rfl, _⟩ := kt
  have PA0 := Lib.hid ((Bq.new w 28 (parC frm til (.slice A1 p.length c1) (.slice A2 q.length c2) (.slice A3 t.length c3) m)).alloc (.cells (parC frm' til' (.slice A4 p'.length c4) (.slice A5 q'.length c5) (.slice A6 t'.length c6) m').toArray 28))
  have PB0 : Hid (Bq ((w.alloc (.cells (parC frm til (.slice A1 p.length c1) (.slice A2 q.length c2) (.slice A3 t.length c3) m).toArray 28)).alloc (.cells (parC frm' til' (.slice A4 p'.length c4) (.slice A5 q'.length c5) (.slice A6 t'.length c6) m').toArray 28)) (w.heap.size + 1) 28 (parC frm' til' (.slice A4 p'.length c4) (.slice A5 q'.length c5) (.slice A6 t'.length c6) m')) := by
    have := Bq.new (w.alloc (.cells (parC frm til (.slice A1 p.length c1) (.slice A2 q.length c2) (.slice A3 t.length c3) m).toArray 28)) 28 (parC frm' til' (.slice A4 p'.length c4) (.slice A5 q'.length c5) (.slice A6 t'.length c6) m')
    rwa [show (w.alloc (.cells (parC frm til (.slice A1 p.length c1) (.slice A2 q.length c2) (.slice A3 t.length c3) m).toArray 28)).heap.size = w.heap.size + 1 by simp] at this
  rcases five_ways b1 b2 b3 b4 b5 with rfl | ⟨rfl, rfl⟩ | ⟨rfl, rfl, rfl⟩ | ⟨rfl, rfl, rfl, rfl⟩ | ⟨rfl, rfl, rfl, rfl, rfl⟩ | ⟨rfl, rfl, rfl, rfl, rfl⟩
  all_goals
    go_enter Tryd.func16, Tryd.ntmps16
    go_wp2_with (first
      | (go_at_call 30; (with_reducible refine (K1.out _ (((Bl.refl w).alloc _).alloc _)).mono ?_); rintro e w1 ⟨rfl, hb⟩; have G1 := Lib.hid ((((Bl.refl w).alloc _).alloc _).trans hb); have PA1 := Lib.hid (PA0.out.bl hb); have PB1 := Lib.hid (PB0.out.bl hb); have cPA10 := PA1.out.cell 0 rfl; have cPA11 := PA1.out.cell 1 rfl; have cPA12 := PA1.out.cell 2 rfl; have cPA13 := PA1.out.cell 3 rfl; have cPA14 := PA1.out.cell 4 rfl; have cPA15 := PA1.out.cell 5 rfl; have cPB10 := PB1.out.cell 0 rfl; have cPB11 := PB1.out.cell 1 rfl; have cPB12 := PB1.out.cell 2 rfl; have cPB13 := PB1.out.cell 3 rfl; have cPB14 := PB1.out.cell 4 rfl; have cPB15 := PB1.out.cell 5 rfl; clear hb)
      | (go_at_call 30; (with_reducible refine (K2.out _ G1.out).mono ?_); rintro e w2 ⟨rfl, hb⟩; have G2 := Lib.hid (G1.out.trans hb); have PA2 := Lib.hid (PA1.out.bl hb); have PB2 := Lib.hid (PB1.out.bl hb); have cPA20 := PA2.out.cell 0 rfl; have cPA21 := PA2.out.cell 1 rfl; have cPA22 := PA2.out.cell 2 rfl; have cPA23 := PA2.out.cell 3 rfl; have cPA24 := PA2.out.cell 4 rfl; have cPA25 := PA2.out.cell 5 rfl; have cPB20 := PB2.out.cell 0 rfl; have cPB21 := PB2.out.cell 1 rfl; have cPB22 := PB2.out.cell 2 rfl; have cPB23 := PB2.out.cell 3 rfl; have cPB24 := PB2.out.cell 4 rfl; have cPB25 := PB2.out.cell 5 rfl; clear hb)
      | (go_at_call 30; (with_reducible refine (K3.out _ G2.out).mono ?_); rintro e w3 ⟨rfl, hb⟩; have G3 := Lib.hid (G2.out.trans hb); have PA3 := Lib.hid (PA2.out.bl hb); have PB3 := Lib.hid (PB2.out.bl hb); have cPA30 := PA3.out.cell 0 rfl; have cPA31 := PA3.out.cell 1 rfl; have cPA32 := PA3.out.cell 2 rfl; have cPA33 := PA3.out.cell 3 rfl; have cPA34 := PA3.out.cell 4 rfl; have cPA35 := PA3.out.cell 5 rfl; have cPB30 := PB3.out.cell 0 rfl; have cPB31 := PB3.out.cell 1 rfl; have cPB32 := PB3.out.cell 2 rfl; have cPB33 := PB3.out.cell 3 rfl; have cPB34 := PB3.out.cell 4 rfl; have cPB35 := PB3.out.cell 5 rfl; clear hb))
    all_goals go_ret
    all_goals exact ⟨by simp, by first | exact G3.out | exact G2.out | exact G1.out⟩

set_option maxRecDepth 100000 in
set_option maxHeartbeats 4000000 in
theorem rsameRec_any (r u : Rc) (vp vq vt up uq ut : Value) (w : World) (hp : Rw .u64 w vp r.p) (hq : Rw .u64 w vq r.q) (ht : Rw .u64 w vt r.t) (kp : Rw .u64 w up u.p) (kq : Rw .u64 w uq u.q) (kt : Rw .u64 w ut u.t) :
    Calls Tryd.prog 15 #[recV r vp vq vt, recV u up uq ut] w fun e w' => e = .returned (.bool (sameP r u && sameJ r u)) ∧ Bl w w' := by
  have K1 := Lib.hid (fun W (g : Bl w W) => rsamePart_any r u vp vq vt up uq ut W (hp.bl g) (hq.bl g) (ht.bl g) (kp.bl g) (kq.bl g) (kt.bl g))
  have x4 := fun W => eql_job r.con r.dgs r.gua u.con u.dgs u.gua W
  obtain ⟨b1, e1⟩ : ∃ b, sameP r u = b := ⟨_, rfl⟩
  obtain ⟨b2, e2⟩ : ∃ b, sameJ r u = b := ⟨_, rfl⟩
  rw [e1] at K1 ⊢
  rw [e2]
  unfold sameJ at e2
  simp only [e2] at x4
  clear e1 e2
  unfold recV
  unfold parV at K1
  obtain ⟨con, dgs, gua, frm, til, p, q, t, m⟩ := r
  obtain ⟨con', dgs', gua', frm', til', p', q', t', m'⟩ := u
  dsimp only at hp hq ht kp kq kt x4 K1 ⊢
  obtain ⟨A1, c1, rfl, _⟩ := hp
  obtain ⟨A2, c2, rfl, _⟩ := hq
  obtain ⟨A3, c3, rfl, _⟩ := ht
  obtain ⟨A4, c4, rfl, _⟩ := kp
  obtain ⟨A5, c5, rfl, _⟩ := kq
  obtain ⟨A6, c6, rfl, _⟩ := kt
  have PA0 := Lib.hid ((Bq.new w 30 (recC con dgs gua frm til (.slice A1 p.length c1) (.slice A2 q.length c2) (.slice A3 t.length c3) m)).alloc (.cells (recC con' dgs' gua' frm' til' (.slice A4 p'.length c4) (.slice A5 q'.length c5) (.slice A6 t'.length c6) m').toArray 30))
  have PB0 : Hid (Bq ((w.alloc (.cells (recC con dgs gua frm til (.slice A1 p.length c1) (.slice A2 q.length c2) (.slice A3 t.length c3) m).toArray 30)).alloc (.cells (recC con' dgs' gua' frm' til' (.slice A4 p'.length c4) (.slice A5 q'.length c5) (.slice A6 t'.length c6) m').toArray 30)) (w.heap.size + 1) 30 (recC con' dgs' gua' frm' til' (.slice A4 p'.length c4) (.slice A5 q'.length c5) (.slice A6 t'.length c6) m')) := by
    have := Bq.new (w.alloc (.cells (recC con dgs gua frm til (.slice A1 p.length c1) (.slice A2 q.length c2) (.slice A3 t.length c3) m).toArray 30)) 30 (recC con' dgs' gua' frm' til' (.slice A4 p'.length c4) (.slice A5 q'.length c5) (.slice A6 t'.length c6) m')
    rwa [show (w.alloc (.cells (recC con dgs gua frm til (.slice A1 p.length c1) (.slice A2 q.length c2) (.slice A3 t.length c3) m).toArray 30)).heap.size = w.heap.size + 1 by simp] at this
  cases b1
  all_goals
    go_enter Tryd.func15, Tryd.ntmps15
    go_wp2_with (go_at_call 16; (with_reducible refine (K1.out _ (((Bl.refl w).alloc _).alloc _)).mono ?_); rintro e w1 ⟨rfl, hb⟩; have G1 := Lib.hid ((((Bl.refl w).alloc _).alloc _).trans hb); have PA1 := Lib.hid (PA0.out.bl hb); have PB1 := Lib.hid (PB0.out.bl hb); have cPA10 := PA1.out.cell 0 rfl; have cPA11 := PA1.out.cell 1 rfl; have cPA12 := PA1.out.cell 2 rfl; have cPA13 := PA1.out.cell 3 rfl; have cPA14 := PA1.out.cell 4 rfl; have cPA15 := PA1.out.cell 5 rfl; have cPA16 := PA1.out.cell 6 rfl; have cPA17 := PA1.out.cell 7 rfl; have cPA18 := PA1.out.cell 8 rfl; have cPB10 := PB1.out.cell 0 rfl; have cPB11 := PB1.out.cell 1 rfl; have cPB12 := PB1.out.cell 2 rfl; have cPB13 := PB1.out.cell 3 rfl; have cPB14 := PB1.out.cell 4 rfl; have cPB15 := PB1.out.cell 5 rfl; have cPB16 := PB1.out.cell 6 rfl; have cPB17 := PB1.out.cell 7 rfl; have cPB18 := PB1.out.cell 8 rfl; clear hb)
    all_goals go_ret
    all_goals exact ⟨by simp, G1.out⟩
end Go.Proofs.YtpdglbfnmilblaaDoor
