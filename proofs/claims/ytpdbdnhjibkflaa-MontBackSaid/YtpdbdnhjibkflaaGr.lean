/-
  The world behind a call that makes memory of its own: all old blocks are as they were, nothing old or new is frozen anew.
-/
import Derived.WalkKit
import Derived.Below
import Derived.RowKit3
import Derived.Lib.Hide
import Derived.Deep.QuietTactic
namespace Go.Proofs.Ytpdbdnhjibkflaa
open Go.RowKit
set_option linter.unusedVariables false

def Gr (W w : World) : Prop := Below W.heap.size W w ∧ ∀ a, w.frozen? a = W.frozen? a
theorem Gr.refl (W : World) : Gr W W := ⟨Below.refl _ _, fun _ => rfl⟩
theorem Gr.size {W w : World} (h : Gr W w) : W.heap.size ≤ w.heap.size := h.1.size
theorem Gr.trans {a b c : World} (h : Gr a b) (k : Gr b c) : Gr a c := ⟨h.1.trans (k.1.mono h.1.size), fun x => (k.2 x).trans (h.2 x)⟩
theorem Gr.alloc {W w : World} (h : Gr W w) (c : Array Value) (t : TypeId) : Gr W (w.alloc (.cells c t)) :=
  ⟨h.1.alloc h.1.size _, fun a => (frozen?_alloc_cells _ _ _ a).trans (h.2 a)⟩
theorem Gr.setCell {W w : World} (h : Gr W w) {p : Addr} (hp : W.heap.size ≤ p.block) (u : Value) : Gr W (w.setCell p u) :=
  ⟨h.1.setCell hp u, fun a => (World.frozen?_setCell _ _ _ _).trans (h.2 a)⟩
theorem Gr.drew {W w : World} (h : Gr W w) : Gr W w.drew := ⟨h.1.drew, h.2⟩
theorem Gr.drewN {W w : World} (h : Gr W w) (n : Nat) : Gr W (w.drewN n) := ⟨⟨h.1.os, h.1.tape, h.1.output, h.1.size, h.1.block⟩, h.2⟩
theorem Gr.cell {W w : World} (h : Gr W w) (b o : Nat) (hb : b < W.heap.size) : w.cell? ⟨b, o, none⟩ = W.cell? ⟨b, o, none⟩ := h.1.cell (p := ⟨b, o, none⟩) hb
theorem Gr.block {W w : World} (h : Gr W w) (b : Nat) (hb : b < W.heap.size) : w.heap[b]? = W.heap[b]? := h.1.block b hb
theorem Gr.grown {W w : World} (h : Gr W w) : Grown W w := ⟨h.1.frame _, h.2, h.1.size⟩
theorem Gr.of_eq {W w : World} (h : W = w) : Gr W w := h ▸ Gr.refl W

/-- Four cells that stand at a block's head. -/
def Four (b : Nat) (c0 c1 c2 c3 : Value) (w : World) : Prop :=
  w.cell? ⟨b, 0, none⟩ = some c0 ∧ w.cell? ⟨b, 1, none⟩ = some c1 ∧ w.cell? ⟨b, 2, none⟩ = some c2 ∧ w.cell? ⟨b, 3, none⟩ = some c3 ∧ b < w.heap.size
theorem four_box (W : World) (c0 c1 c2 c3 : Value) (t : TypeId) : Four W.heap.size c0 c1 c2 c3 (W.alloc (.cells #[c0, c1, c2, c3] t)) := by
  refine ⟨?_, ?_, ?_, ?_, ?_⟩ <;> simp
theorem Four.kept {b : Nat} {c0 c1 c2 c3 : Value} {W w : World} (h : Four b c0 c1 c2 c3 W) (g : Gr W w) : Four b c0 c1 c2 c3 w := by
  obtain ⟨h0, h1, h2, h3, hb⟩ := h
  exact ⟨(g.cell _ _ hb).trans h0, (g.cell _ _ hb).trans h1, (g.cell _ _ hb).trans h2, (g.cell _ _ hb).trans h3, Nat.lt_of_lt_of_le hb g.size⟩
end Go.Proofs.Ytpdbdnhjibkflaa
