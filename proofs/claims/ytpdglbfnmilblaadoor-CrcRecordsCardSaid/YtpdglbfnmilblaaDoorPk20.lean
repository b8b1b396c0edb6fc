/-
  copy into a row that the call itself made.
-/
import Derived.Test.YtpdglbfnmilblaaDoorPk14
import Derived.Laws.CopyOwn
namespace Go.Proofs.YtpdglbfnmilblaaDoor
open Go.RowKit
set_option linter.unusedVariables false

theorem vs_splice (k : IntKind) (l m : List Nat) (off : Nat) : vs k (splice l off m) = splice (vs k l) off (vs k m) := by
  simp [vs, splice, List.map_take, List.map_drop]
theorem copy_bk {P : Program} {ops : Array Oper} {rest : List Oper} {o : Oper} {a : Act} {Q : Exit → Act → World → Prop} (W w : World) (k : IntKind) (e : TypeId) (hgd : o.guard = none) (d s : Operand) (dT sT : TypeId)
    (ho : o.op = .call { callee := .builtin .copy, args := #[d, s], argTypes := #[dT, sT] }) (elem : TypeId) (hu : P.underlying dT = some (.slice elem)) (hsz : (P.info? elem).map (·.size) = some 1)
    (g off dLen dCap : Nat) (A : Option Addr) (sLen sCap : Nat) (hd : a.eval d = .slice (some ⟨g, off, none⟩) dLen dCap) (hs : a.eval s = .slice A sLen sCap)
    (l m : List Nat) (hm : sLen = m.length) (hbk : Bk k e w g l) (hsrc : Src k w A m) (hfit : off + min m.length dLen ≤ l.length) (hb : Bl W w) (hBg : W.heap.size ≤ g)
    (h : ∀ w', Hid (Bk k e w' g (splice l off (m.take dLen))) → Hid (Bl W w') → Hid (w'.heap.size = w.heap.size ∧ ∀ j, j ≠ g → w'.heap[j]? = w.heap[j]?) → wpList P ops Q rest (a.put o.dst (goInt ((min m.length dLen : Nat) : Int))) w') :
    wpList P ops Q (o :: rest) a w := by
  have hlen : (vs k (m.take dLen)).length = min m.length dLen := by rw [vs_length, List.length_take, Nat.min_comm]
  have h1 : ∀ v ∈ vs k (m.take dLen), v.oneCell' = true := by
    intro v hv
    simp only [vs, List.mem_map] at hv
    obtain ⟨x, _, rfl⟩ := hv
    rfl
  by_cases h0 : min m.length dLen = 0
  · refine wpList_copy_nothing hgd d s dT sT ho elem hu hsz (some ⟨g, off, none⟩) A dLen dCap sLen sCap hd hs (by rw [hm]; exact h0) ?_
    have e1 : m.take dLen = [] := List.length_eq_zero_iff.1 (by rw [List.length_take, Nat.min_comm]; exact h0)
    have := h w (by show Bk _ _ _ _ _; rw [e1]; simpa [splice] using hbk) hb ⟨rfl, fun _ _ => rfl⟩
    rwa [h0] at this
  · obtain ⟨ad, hA, _, hx⟩ := hsrc (by omega)
    subst hA
    have hcs : ∀ j v, (vs k (m.take dLen))[j]? = some v → w.cell? (ad.add j) = some v := by
      intro j v hv
      have hj : j < (m.take dLen).length := by
        have := (List.getElem?_eq_some_iff.1 hv).1
        rwa [vs_length] at this
      have hj' : j < m.length := by rw [List.length_take] at hj; omega
      have e1 : v = .int k ((m[j] : Nat) : Int) := by
        have := (List.getElem?_eq_some_iff.1 hv).2
        rw [← this]
        simp [vs]
      rw [e1]
      exact hx j hj'
    refine wpList_copy_own hgd d s dT sT ho elem hu hsz g off dLen dCap ad sLen sCap hd hs (vs k l).toArray e hbk (vs k (m.take dLen)) (by rw [hlen, hm]) hcs (by rw [hlen]; simpa [vs] using hfit) h1 ?_
    rw [hlen]
    refine h _ ?_ (below_setRow hb hBg _) ⟨by simp [World.setRow], fun j hj => setRow_other w g j _ hj⟩
    show Bk _ _ _ _ _
    unfold Bk
    rw [vs_splice]
    have := setRow_heap w g (vs k l).toArray (((vs k l).take off ++ (vs k (m.take dLen) ++ (vs k l).drop (off + (min m.length dLen)))).toArray) e (0, 0) hbk
    simpa [splice, hlen] using this
end Go.Proofs.YtpdglbfnmilblaaDoor
