/-
  What the conditions on the library's tables and on reflectlite's handle on error give; the door's own heap meets them. · Package disk: Read, Delete, Sync. · Package disk: Rename. · Package disk: Write.
-/
import Derived.Test.YtdaglbjdgdokpaaDoorPk14
import Derived.Test.YtdaglbjdgdokpaaDoorPk32
import Derived.Test.YtdaglbjdgdokpaaDoorRows
import Derived.ProofKit
import Derived.LaidMore
import Derived.LaidHandle
import Derived.OpenShut
import Derived.Stop.Joined
import Derived.Stop.LaidErr
import Derived.Test.YtdaglbjdgdokpaaDoorPk12
namespace Go.Proofs.YtdaglbjdgdokpaaDoor
open Go.ChangeShapes Go.WideShapes Go.ChangeAt Go.RowKit
set_option linter.unusedVariables false

abbrev laidF : List (String × DataW Unit) := [("math/bits.deBruijn32tab", Rows.laid_math_bits_deBruijn32tab), ("math/bits.deBruijn64tab", Rows.laid_math_bits_deBruijn64tab), ("internal/strconv.uint64pow10", Rows.laid_internal_strconv_uint64pow10), ("errors.errorType", Rows.laid_errors_errorType)]
theorem pow_of_laidF {W : World} (h : laidMetH Tryd.prog laidF W) : PowT W := by
  have h' : laidMet Tryd.prog laidT W ∧ handlesMet Tryd.prog [("errors.errorType", Rows.laid_errors_errorType)] W := h
  exact pow_of_met h'.1
theorem kgErr : Tryd.prog.globalNamed "errors.errorType" = some 0 := by kernel_rfl
theorem ktRtype : (Tryd.prog.cutTypes.find? (·.1 == "internal/reflectlite.rtype")).map (·.2) = some 119 := by kernel_rfl
theorem koneErr : ((List.range 178).filter fun t => Tryd.prog.rowNamed t [101, 114, 114, 111, 114]) = [72] := by kernel_rfl
theorem knTypes : Tryd.prog.types.size = 178 := by kernel_rfl
theorem err_of_laidF {W : World} (h : laidMetH Tryd.prog laidF W) : ErrT W := by
  have h' : laidMet Tryd.prog laidT W ∧ handlesMet Tryd.prog [("errors.errorType", Rows.laid_errors_errorType)] W := h
  obtain ⟨name, u, ty, e1, e2, e3, e4, e5⟩ := h'.2 _ (List.mem_singleton.2 rfl)
  have en : name = [101, 114, 114, 111, 114] := (Option.some.inj e1).symm
  subst en
  obtain rfl := Option.some.inj (ktRtype.symm.trans e2)
  have hm : ty ∈ (List.range 178).filter fun t => Tryd.prog.rowNamed t [101, 114, 114, 111, 114] := List.mem_filter.2 ⟨List.mem_range.2 (by rw [← knTypes]; exact e3), e4⟩
  rw [koneErr] at hm
  obtain rfl := List.mem_singleton.1 hm
  have hh : typeHandle Tryd.prog 72 = .pointer (some ⟨5, 72, none⟩) := by kernel_rfl
  rw [hh] at e5
  show W.cell? ⟨0, 0, none⟩ = _
  simpa using World.var?_cell kgErr e5 0
set_option maxRecDepth 100000 in
theorem door_metF (os : Os) (args : Array Value) : laidMetH Tryd.prog laidF ((World.doorLaid Tryd.prog 31 os).forCall (fun _ _ => 0) ⟨#[], args, []⟩).memory :=
  laidMetH_of_parts3 (fuel := 8) (laidMet_of_run' 8 (by kernel_rfl) (by kernel_rfl)) (by kernel_rfl) (by kernel_rfl)
end Go.Proofs.YtdaglbjdgdokpaaDoor
namespace Go.Proofs.YtdaglbjdgdokpaaDoor
open Go.RowKit
set_option linter.unusedVariables false
set_option linter.unusedSimpArgs false

/-- What a call answers that hands back a disk and an error. -/
def DkEnd (W : World) (room : Int) (l : List Fl) (x : Int) (e : Ending) (w : World) : Prop := ∃ v, e = .returned (.tuple #[.agg #[.int .i64 room, v], .int .i64 x]) ∧ Fw w v l ∧ Bl W w
theorem DkEnd.mk {W w : World} {room : Int} {l : List Fl} {x : Int} {v : Value} (h : Fw w v l) (g : Bl W w) : DkEnd W room l x (.returned (.tuple #[.agg #[.int .i64 room, v], .int .i64 x])) w := ⟨v, rfl, h, g⟩
/-- A cell that holds no string is none of a row of files. -/
theorem fw_cellq {w : World} {v : Value} {l : List Fl} {p : Addr} {u : Value} (h : Fw w v l) (hc : w.cell? p = some u) (hu : ∀ z, u ≠ .string z) (u' : Value) : Fw (w.setCell p u') v l := by
  obtain ⟨A, c, rfl, h1, h2, h3, h4⟩ := h
  refine ⟨A, c, rfl, h1, h2, h3, fun hl => ?_⟩
  obtain ⟨b, o, ha, hb, hx⟩ := h4 hl
  have key : ∀ (q : Addr) (z : ByteArray), w.cell? q = some (.string z) → (w.setCell p u').cell? q = some (.string z) := by
    intro q z hq
    rw [World.cell?_setCell_other w _ _ u']
    · exact hq
    · intro e
      rw [← e, hc] at hq
      exact hu _ (Option.some.inj hq)
  exact ⟨b, o, ha, by show _ < (w.heap.modify _ _).size; rw [Array.size_modify]; exact hb, fun j hj => ⟨key _ _ (hx j hj).1, key _ _ (hx j hj).2.1, key _ _ (hx j hj).2.2⟩⟩
theorem fw_set2 {w : World} {v : Value} {l : List Fl} {b : Nat} {r0 : Int} {A : Option Addr} {n c : Nat} (h : Fw w v l) (hb : Bq w b 24 [.int .i64 r0, .slice A n c]) (room : Int) (u : Value) : Fw (set2 w b room u) v l := by
  have h1 := fw_cellq h (hb.cell 0 rfl) (fun z e => by cases e) (.int .i64 room)
  exact fw_cellq h1 ((hb.set 0 (.int .i64 room)).cell 1 rfl) (fun z e => by cases e) u
/-- The way out of a call that hands back a disk and an error. -/
theorem ret_dk {W w : World} {fn : Func} {p u : Tmp} {b : Nat} {tmps : Array Value} {room x r0 : Int} {v : Value} {l : List Fl} {A : Option Addr} {n c : Nat} (h : fn.results = #[.cell p 24, .tmp u]) (hp : tmps.getD p undef = .pointer (some ⟨b, 0, none⟩)) (hu : tmps.getD u undef = .int .i64 x)
    (hb : Bq w b 24 [.int .i64 r0, .slice A n c]) (hf : Fw w v l) (hg : Bl W w) (hbb : W.heap.size ≤ b) : bodyPost Tryd.prog fn (DkEnd W room l x) Exit.ret { tmps := tmps, defers := [] } (set2 w b room v) :=
  bodyPost_ret (ret_disk2 h hp hu (set2_at hb room v)) rfl (DkEnd.mk (fw_set2 hf hb room v) (set2_bl hg hbb room v))
/-- Between two worlds: what was known of two boxes is known. -/
theorem two_at (w : World) (t0 t1 : TypeId) (c0 c1 : List Value) : Bq ((w.alloc (.cells c0.toArray t0)).alloc (.cells c1.toArray t1)) w.heap.size t0 c0 ∧ Bq ((w.alloc (.cells c0.toArray t0)).alloc (.cells c1.toArray t1)) (w.heap.size + 1) t1 c1 := by
  have h1 := Bq.new (w.alloc (.cells c0.toArray t0)) t1 c1
  rw [World.size_alloc] at h1
  exact ⟨(Bq.new w t0 c0).alloc _, h1⟩
set_option maxRecDepth 100000 in
set_option maxHeartbeats 4000000 in
theorem pRead_any (room : Int) (v : Value) (l : List Fl) (s : ByteArray) (w : World) (hv : Fw w v l) :
    Calls Tryd.prog 14 #[.agg #[.int .i64 room, v], .string s] w fun e w' => e = .returned (.tuple #[.string (rdD l s), .int .i64 (rdE l s)]) ∧ Bl w w' := by
  have K1 := Lib.hid (fun W (g : Bl w W) => pfind_any v l s W (hv.bl g))
  obtain ⟨n, hn⟩ : ∃ n, l.length = n := ⟨_, rfl⟩
  by_cases h : fnd l s < l.length
  · obtain ⟨i, hi⟩ : ∃ i, fnd l s = i := ⟨_, rfl⟩
    have e2 : ixv l.length (fnd l s) = (i : Int) := by unfold ixv; rw [if_pos h, hi]
    have e4 : rdD l s = (l[i]'(by omega)).d := by unfold rdD; rw [if_pos h, tkF_at h]; simp only [hi]
    have e5 : rdE l s = 0 := by unfold rdE; rw [if_pos h]
    rw [e4, e5]
    obtain ⟨A, c, rfl, _, _, _, hx⟩ := fw_open hv hn
    obtain ⟨b1, o1, rfl, hc1, hc2, hc3⟩ := hx.at_ (i := i) (by omega)
    have hbb := World.block_lt_of_cell? w _ hc1
    obtain ⟨fd, ef⟩ : ∃ d, (l[i]'(by omega)).d = d := ⟨_, rfl⟩
    rw [ef] at hc2 ⊢
    rw [e2] at K1
    have b2 : (0 : Int) ≤ (i : Int) ∧ (i : Int) < (n : Int) := by omega
    have HC : Hid (∀ W, Bl w W → W.cell? ⟨b1, o1 + i * 3 + 1, none⟩ = some (.string fd)) := fun W g => (g.cell (p := ⟨b1, o1 + i * 3 + 1, none⟩) hbb).trans hc2
    have a24 := Tryd.isAgg39
    have z24 := Tryd.sizeOf39
    have B0 := Lib.hid (Bq.new w 24 [.int .i64 room, .slice (some ⟨b1, o1, none⟩) n c])
    clear hv hn h e2 e4 e5 ef hi hx hbb hc1 hc2 hc3
    go_enter Tryd.func14, Tryd.ntmps14
    go_wp2_with (go_at_call 23; (with_reducible refine (K1.out _ ((Bl.refl w).alloc _)).mono ?_); rintro e w1 ⟨rfl, hb1⟩; have G1 := Lib.hid (((Bl.refl w).alloc _).trans hb1); have Q1 := Lib.hid (B0.out.bl hb1); have k0 := Q1.out.cell 0 rfl; have k1 := Q1.out.cell 1 rfl; have d1 := HC.out w1 G1.out; clear hb1)
    go_ret2
    exact ⟨rfl, G1.out⟩
  · have e2 : ixv l.length (fnd l s) = -1 := by unfold ixv; rw [if_neg h]
    have e4 : rdD l s = ⟨#[]⟩ := by unfold rdD; rw [if_neg h]
    have e5 : rdE l s = 9 := by unfold rdE; rw [if_neg h]
    rw [e4, e5]
    rw [e2] at K1
    obtain ⟨A, c, rfl⟩ := fw_shape hv
    clear hv h e2 e4 e5 hn
    go_enter Tryd.func14, Tryd.ntmps14
    go_wp2_with (go_at_call 23; (with_reducible refine (K1.out _ ((Bl.refl w).alloc _)).mono ?_); rintro e w1 ⟨rfl, hb1⟩; have G1 := Lib.hid (((Bl.refl w).alloc _).trans hb1); clear hb1)
    go_ret2
    exact ⟨rfl, G1.out⟩
def fE (l : List Fl) (s : ByteArray) : Int := if fnd l s < l.length then 0 else 9
/-- What Sync leaves. -/
def syR (l : List Fl) (s : ByteArray) : List Fl := if fnd l s < l.length then syL l s else l
end Go.Proofs.YtdaglbjdgdokpaaDoor
namespace Go.Proofs.YtdaglbjdgdokpaaDoor
open Go.RowKit
set_option linter.unusedVariables false
set_option linter.unusedSimpArgs false

/-- A store into another block. -/
theorem fw_other {w : World} {v : Value} {l : List Fl} (h : Fw w v l) {g : Nat} (hg : 0 < l.length → v.ownBlock ≠ some g) (i : Nat) (u : Value) : Fw (w.setCell ⟨g, i, none⟩ u) v l := by
  obtain ⟨A, c, rfl, h1, h2, h3, h4⟩ := h
  refine ⟨A, c, rfl, h1, h2, h3, fun hl => ?_⟩
  obtain ⟨b, o, rfl, hb, hx⟩ := h4 hl
  have hne : b ≠ g := fun e => hg hl (by rw [e]; rfl)
  have key : ∀ (k : Nat), (w.setCell ⟨g, i, none⟩ u).cell? ⟨b, k, none⟩ = w.cell? ⟨b, k, none⟩ := fun k => by
    rw [World.cell?_setCell_other w _ _ u]
    intro e
    exact hne (congrArg Addr.block e).symm
  exact ⟨b, o, rfl, by show _ < (w.heap.modify _ _).size; rw [Array.size_modify]; exact hb, fun j hj => ⟨(key _).trans (hx j hj).1, (key _).trans (hx j hj).2.1, (key _).trans (hx j hj).2.2⟩⟩
theorem fw_block {w : World} {v : Value} {l : List Fl} (h : Fw w v l) (hl : 0 < l.length) {b : Nat} (e : v.ownBlock = some b) : b < w.heap.size := by
  obtain ⟨A, c, rfl, h1, h2, h3, h4⟩ := h
  obtain ⟨b', o, rfl, hb, hx⟩ := h4 hl
  have : some b' = some b := e
  rw [← Option.some.inj this]
  exact hb
/-- What Rename answers. -/
def rnR (l : List Fl) (s to : ByteArray) : List Fl := if fnd l s < l.length then (if mayN to = true then rnL l s to else l) else l
def rnE (l : List Fl) (s to : ByteArray) : Int := if fnd l s < l.length then (if mayN to = true then 0 else 1) else 9
end Go.Proofs.YtdaglbjdgdokpaaDoor
namespace Go.Proofs.YtdaglbjdgdokpaaDoor
open Go.RowKit
set_option linter.unusedVariables false
set_option linter.unusedSimpArgs false

/-- What Write answers. -/
def wrFull (room : Int) (l : List Fl) (s data : ByteArray) : Bool := decide (64 < (wrL l s data).length) || decide (room < (used (wrL l s data) : Int))
def wrR (room : Int) (l : List Fl) (s data : ByteArray) : List Fl := if mayN s = true then (if wrFull room l s data = true then l else wrL l s data) else l
def wrE (room : Int) (l : List Fl) (s data : ByteArray) : Int := if mayN s = true then (if wrFull room l s data = true then 8 else 0) else 1
def HasF (w : World) (x : Value) (l : List Fl) : Prop := ∃ A c, x = .slice A l.length c ∧ Fw w x l
theorem HasF.mk {w : World} {x : Value} {l : List Fl} (h : Fw w x l) : HasF w x l := by
  obtain ⟨A, c, rfl⟩ := fw_shape h
  exact ⟨A, c, rfl, h⟩
theorem HasF.bl {w w' : World} {x : Value} {l : List Fl} (h : HasF w x l) (g : Bl w w') : HasF w' x l := by
  obtain ⟨A, c, e, h⟩ := h
  exact ⟨A, c, e, h.bl g⟩
def HasD (room : Int) (w : World) (x : Value) (l : List Fl) : Prop := ∃ A c, x = .agg #[.int .i64 room, .slice A l.length c] ∧ Fw w (.slice A l.length c) l
theorem HasD.bl {room : Int} {w w' : World} {x : Value} {l : List Fl} (h : HasD room w x l) (g : Bl w w') : HasD room w' x l := by
  obtain ⟨A, c, e, h⟩ := h
  exact ⟨A, c, e, h.bl g⟩
theorem HasF.st {w : World} {x : Value} {l : List Fl} {g : Nat} {r0 : Int} {A : Option Addr} {n c : Nat} (h : HasF w x l) (hb : Bq w g 24 [.int .i64 r0, .slice A n c]) (room : Int) (u : Value) : HasF (set2 w g room u) x l := by
  obtain ⟨A, c, e, h⟩ := h
  exact ⟨A, c, e, fw_set2 h hb room u⟩
theorem HasD.st {room' : Int} {w : World} {x : Value} {l : List Fl} {g : Nat} {r0 : Int} {A : Option Addr} {n c : Nat} (h : HasD room' w x l) (hb : Bq w g 24 [.int .i64 r0, .slice A n c]) (room : Int) (u : Value) : HasD room' (set2 w g room u) x l := by
  obtain ⟨A, c, e, h⟩ := h
  exact ⟨A, c, e, fw_set2 h hb room u⟩
def AllD (X w : World) (x : Value) : Prop := ∃ g, x = .pointer (some ⟨g, 0, none⟩) ∧ X.heap.size ≤ g ∧ Bq w g 24 [.int .i64 0, .slice none 0 0]
theorem AllD.bl {X w w' : World} {x : Value} (h : AllD X w x) (g : Bl w w') : AllD X w' x := by
  obtain ⟨b, e, h1, h2⟩ := h
  exact ⟨b, e, h1, h2.bl g⟩
/-- A disk in a box of its own. -/
def WrD (X : World) (room : Int) (l : List Fl) (w : World) (x : Value) : Prop := ∃ g A c, x = .pointer (some ⟨g, 0, none⟩) ∧ X.heap.size ≤ g ∧ Bq w g 24 [.int .i64 room, .slice A l.length c] ∧ Fw w (.slice A l.length c) l
theorem WrD.bl {X w w' : World} {room : Int} {l : List Fl} {x : Value} (h : WrD X room l w x) (g : Bl w w') : WrD X room l w' x := by
  obtain ⟨b, A, c, e, h1, h2, h3⟩ := h
  exact ⟨b, A, c, e, h1, h2.bl g, h3.bl g⟩
end Go.Proofs.YtdaglbjdgdokpaaDoor
