/-
  A parameter that is a struct of five integers, by value: what it is, and that it reads so in every world.
-/
import Derived.Lib.SmallJoins
import Derived.Deep.Fields
namespace Go.Proofs.Ytpdbdnhjibkflaa
open Go.Joins Go.ChangeShapes Go.WideShapes Go.RowKit Go.Deep
set_option linter.unusedVariables false

section
variable {H : Type} {enc : TypeId × Value → H} {P : Program}
theorem ints5 {w : World} {base : Nat} {spare : Nat → Bool} {held : Bool} {r : Reach} {b0 : Nat} {t : TypeId} {f0 f1 f2 f3 f4 : Field} {k0 k1 k2 k3 k4 : IntKind} {v : Value} {d : DataW H} {p : List MemPlace}
    (hs : P.underlying t = some (.struct #[f0, f1, f2, f3, f4])) (hone : oneCellFields P #[f0, f1, f2, f3, f4] = true) (hC : P.cellsOf t = 5)
    (u0 : P.underlying f0.type = some (.int k0)) (u1 : P.underlying f1.type = some (.int k1)) (u2 : P.underlying f2.type = some (.int k2)) (u3 : P.underlying f3.type = some (.int k3)) (u4 : P.underlying f4.type = some (.int k4))
    (hv : Value.okWide P w r b0 t v) (h : DataW.Trod enc P w base spare held t v d p) :
    ∃ a0 a1 a2 a3 a4 : Int, v = .agg #[.int k0 a0, .int k1 a1, .int k2 a2, .int k3 a3, .int k4 a4] ∧ d = .agg [.lit (.int k0 a0), .lit (.int k1 a1), .lit (.int k2 a2), .lit (.int k3 a3), .lit (.int k4 a4)] ∧ p = [] ∧
      (Lit.int k0 a0).wf = true ∧ (Lit.int k1 a1).wf = true ∧ (Lit.int k2 a2).wf = true ∧ (Lit.int k3 a3).wf = true ∧ (Lit.int k4 a4).wf = true ∧
      ∀ (w' : World) (b' : Nat) (s' : Nat → Bool) (h' : Bool), DataW.Trod enc P w' b' s' h' t (.agg #[.int k0 a0, .int k1 a1, .int k2 a2, .int k3 a3, .int k4 a4]) (.agg [.lit (.int k0 a0), .lit (.int k1 a1), .lit (.int k2 a2), .lit (.int k3 a3), .lit (.int k4 a4)]) [] := by
  obtain ⟨cs, rfl, hsz⟩ := okWide_struct hs hv
  obtain ⟨l⟩ := cs
  obtain ⟨o0, e0⟩ := hone_of hone 0 f0 rfl
  obtain ⟨o1, e1⟩ := hone_of hone 1 f1 rfl
  obtain ⟨o2, e2⟩ := hone_of hone 2 f2 rfl
  obtain ⟨o3, e3⟩ := hone_of hone 3 f3 rfl
  obtain ⟨o4, e4⟩ := hone_of hone 4 f4 rfl
  match l, hsz.trans hC with
  | [c0, c1, c2, c3, c4], _ =>
    obtain ⟨fuel, hf⟩ := h
    obtain ⟨xs, n, _, hx, _, hlen, hg⟩ := DataW.trod_struct hs hf
    match xs, hlen with
    | [y0, y1, y2, y3, y4], _ =>
      have g0 := hg 0 f0 rfl
      have g1 := hg 1 f1 rfl
      have g2 := hg 2 f2 rfl
      have g3 := hg 3 f3 rfl
      have g4 := hg 4 f4 rfl
      simp [Value.cells, o0, e0] at g0
      simp [Value.cells, o1, e1] at g1
      simp [Value.cells, o2, e2] at g2
      simp [Value.cells, o3, e3] at g3
      simp [Value.cells, o4, e4] at g4
      obtain ⟨a0, i0, rfl, w0⟩ := DataW.trod_int u0 g0
      obtain ⟨a1, i1, rfl, w1⟩ := DataW.trod_int u1 g1
      obtain ⟨a2, i2, rfl, w2⟩ := DataW.trod_int u2 g2
      obtain ⟨a3, i3, rfl, w3⟩ := DataW.trod_int u3 g3
      obtain ⟨a4, i4, rfl, w4⟩ := DataW.trod_int u4 g4
      simp at i0 i1 i2 i3 i4
      subst i0 i1 i2 i3 i4
      simp only [Prod.mk.injEq] at hx
      refine ⟨a0, a1, a2, a3, a4, rfl, by simpa using hx.1, by simpa using hx.2, w0, w1, w2, w3, w4, fun w' b' s' h' => ⟨2, ?_⟩⟩
      have m0 := trod_int_mk (enc := enc) (w := w') (base := b') (spare := s') (held := h') 0 u0 w0
      have m1 := trod_int_mk (enc := enc) (w := w') (base := b') (spare := s') (held := h') 0 u1 w1
      have m2 := trod_int_mk (enc := enc) (w := w') (base := b') (spare := s') (held := h') 0 u2 w2
      have m3 := trod_int_mk (enc := enc) (w := w') (base := b') (spare := s') (held := h') 0 u3 w3
      have m4 := trod_int_mk (enc := enc) (w := w') (base := b') (spare := s') (held := h') 0 u4 w4
      have := trod_struct_mk (enc := enc) (w := w') (base := b') (spare := s') (held := h') (n := 1) (cs := [.int k0 a0, .int k1 a1, .int k2 a2, .int k3 a3, .int k4 a4])
        (xs := [(.lit (.int k0 a0), []), (.lit (.int k1 a1), []), (.lit (.int k2 a2), []), (.lit (.int k3 a3), []), (.lit (.int k4 a4), [])]) hs (by simp [hC]) (by simp [o0, o1, o2, o3, o4, e0, e1, e2, e3, e4, m0, m1, m2, m3, m4])
      simpa [Value.cells] using this
end
end Go.Proofs.Ytpdbdnhjibkflaa
