/-
  Rows of whole numbers in memory: a slice, whatever it is (nil too), that reads as a list; the world behind calls that make memory; one element appended to a row of the call's own.
-/
import Derived.WalkKit
import Derived.Below
import Derived.Laws.AppendOwn
import Derived.Laws.OwnMore
import Derived.Laws.AppendOwnNone
import Derived.Lib.Hide
import Derived.Deep.QuietTactic
import Derived.Deep.Draws
namespace Go.Proofs.Ytdoohlehglakfaa
open Go.RowKit
set_option linter.unusedVariables false

/-- Below what was there nothing has turned. -/
def Bl (W w : World) : Prop := Below W.heap.size W w
theorem Bl.refl (W : World) : Bl W W := Below.refl _ _
theorem Bl.size {W w : World} (h : Bl W w) : W.heap.size ≤ w.heap.size := Below.size h
theorem Bl.trans {a b c : World} (h : Bl a b) (k : Bl b c) : Bl a c := Below.trans h (Below.mono k (Below.size h))
theorem Bl.alloc {W w : World} (h : Bl W w) (o : Obj) : Bl W (w.alloc o) := Below.alloc h (Below.size h) o
theorem Bl.setCell {W w : World} (h : Bl W w) {p : Addr} (hp : W.heap.size ≤ p.block) (u : Value) : Bl W (w.setCell p u) := Below.setCell h hp u
theorem Bl.drew {W w : World} (h : Bl W w) : Bl W w.drew := Below.drew h
theorem Bl.drewN {W w : World} (h : Bl W w) (n : Nat) : Bl W (w.drewN n) := by
  have hs := Below.size h
  exact Below.mk h.os h.tape h.output hs h.block
theorem Bl.cell {W w : World} (h : Bl W w) {p : Addr} (hp : p.block < W.heap.size) : w.cell? p = W.cell? p := Below.cell h hp
theorem Bl.grown {W w w' : World} {row : Option Nat} (h : Bl W w) (hg : w.grownBy w' row) (hr : ∀ k, row = some k → W.heap.size ≤ k) : Bl W w' := Below.grown h hg (Below.size h) hr
theorem Bl.of_grownBy {w w' : World} (hg : w.grownBy w' none) : Bl w w' := (Bl.refl w).grown hg (fun k h => by cases h)

theorem blk_add (a : Addr) (n : Nat) : (a.add n).block = a.block := by unfold Addr.add; split <;> rfl
theorem add_none (b o n : Nat) : (⟨b, o, none⟩ : Addr).add n = ⟨b, o + n, none⟩ := by unfold Addr.add; split <;> simp_all

/-- A slice's places hold l. -/
def Src (k : IntKind) (w : World) (A : Option Addr) (l : List Nat) : Prop := 0 < l.length → ∃ ad, A = some ad ∧ ad.block < w.heap.size ∧ ∀ i (h : i < l.length), w.cell? (ad.add i) = some (.int k (l[i] : Int))
theorem Src.nil (k : IntKind) (w : World) (A : Option Addr) : Src k w A [] := fun h => absurd h (by simp)
theorem Src.keep {k : IntKind} {w w' : World} {A : Option Addr} {l : List Nat} (h : Src k w A l) (hs : w.heap.size ≤ w'.heap.size) (hc : ∀ p : Addr, p.block < w.heap.size → w'.cell? p = w.cell? p) : Src k w' A l := by
  intro hl
  obtain ⟨ad, ha, hb, hx⟩ := h hl
  exact ⟨ad, ha, Nat.lt_of_lt_of_le hb hs, fun i hi => (hc _ (by rw [blk_add]; exact hb)).trans (hx i hi)⟩
theorem Src.bl {k : IntKind} {w w' : World} {A : Option Addr} {l : List Nat} (h : Src k w A l) (g : Bl w w') : Src k w' A l := h.keep g.size fun p hp => g.cell hp
theorem Src.take {k : IntKind} {w : World} {A : Option Addr} {l : List Nat} (h : Src k w A l) (n : Nat) : Src k w A (l.take n) := by
  intro hl
  have e : (l.take n).length ≤ l.length := by rw [List.length_take]; exact Nat.min_le_right _ _
  obtain ⟨ad, ha, hb, hx⟩ := h (by omega)
  refine ⟨ad, ha, hb, fun i hi => ?_⟩
  rw [List.getElem_take]
  exact hx i (by omega)
/-- What a round reads. -/
theorem Src.at_ {k : IntKind} {w : World} {A : Option Addr} {l : List Nat} {i : Nat} (h : Src k w A l) (hi : i < l.length) : ∃ ad, A = some ad ∧ w.cell? (ad.add i) = some (.int k (l[i] : Int)) := by
  obtain ⟨ad, ha, hb, hx⟩ := h (by omega)
  exact ⟨ad, ha, hx i hi⟩

/-- A slice that reads as l. -/
def Rw (k : IntKind) (w : World) (v : Value) (l : List Nat) : Prop := ∃ A c, v = .slice A l.length c ∧ l.length ≤ c ∧ c ≤ maxLen ∧ (A = none → c = 0) ∧ Src k w A l
theorem Rw.nil (k : IntKind) (w : World) : Rw k w (.slice none 0 0) [] := ⟨none, 0, rfl, Nat.le_refl _, by decide, fun _ => rfl, Src.nil k w none⟩
theorem Rw.bl {k : IntKind} {w w' : World} {v : Value} {l : List Nat} (h : Rw k w v l) (g : Bl w w') : Rw k w' v l := by
  obtain ⟨A, c, hv, h1, h2, h3, h4⟩ := h
  exact ⟨A, c, hv, h1, h2, h3, h4.bl g⟩
theorem Src.rw {k : IntKind} {w : World} {A : Option Addr} {l : List Nat} {n c : Nat} (h : Src k w A l) (hn : n = l.length) (hc : n ≤ c) (hm : c ≤ maxLen) (h0 : A = none → c = 0) : Rw k w (.slice A n c) l := ⟨A, c, by rw [hn], hn ▸ hc, hm, h0, h⟩

/-- What v points at lies from block B on. -/
def Fs (B : Nat) (v : Value) : Prop := ∀ b, v.ownBlock = some b → B ≤ b
/-- A store into another block. -/
theorem Rw.setCell {k : IntKind} {w : World} {v : Value} {l : List Nat} {B : Nat} (h : Rw k w v l) (f : Fs B v) {p : Addr} (hp : p.block < B) (u : Value) : Rw k (w.setCell p u) v l := by
  obtain ⟨A, c, hv, h1, h2, h3, h4⟩ := h
  refine ⟨A, c, hv, h1, h2, h3, fun hl => ?_⟩
  obtain ⟨ad, ha, hb, hx⟩ := h4 hl
  refine ⟨ad, ha, by simpa [World.setCell] using hb, fun i hi => ?_⟩
  rw [World.cell?_setCell_other w p (ad.add i) u]
  · exact hx i hi
  · intro e
    have e1 := congrArg Addr.block e
    rw [blk_add] at e1
    have := f ad.block (by rw [hv, ha]; rfl)
    omega

/-! ### Rows of the call's own -/
def vs (k : IntKind) (l : List Nat) : List Value := l.map fun (x : Nat) => Value.int k (x : Int)
theorem vs_length (k : IntKind) (l : List Nat) : (vs k l).length = l.length := by simp [vs]
theorem vs_snoc (k : IntKind) (l : List Nat) (x : Nat) : vs k (l ++ [x]) = vs k l ++ [.int k (x : Int)] := by simp [vs]
/-- The value v owns a row that reads as l. -/
def Ow (k : IntKind) (e : TypeId) (base : Nat) (w : World) (v : Value) (l : List Nat) : Prop := w.ownsRow base e 1 v l.length (vs k l)
theorem Ow.nil (k : IntKind) (e : TypeId) (base : Nat) (w : World) : Ow k e base w (.slice none 0 0) [] := World.ownsRow_nil w base e 1
theorem Ow.rw {k : IntKind} {e : TypeId} {base : Nat} {w : World} {v : Value} {l : List Nat} (h : Ow k e base w v l) : Rw k w v l := by
  obtain ⟨h1, h2⟩ := h
  rcases h2 with ⟨rfl, h0⟩ | ⟨g, cap, cur, rfl, hb, hg, hc, hm, hs, ht⟩
  · have : l = [] := List.length_eq_zero_iff.1 h0
    subst this
    exact Rw.nil k w
  · refine ⟨some ⟨g, 0, none⟩, cap, rfl, hc, hm, (fun h => by cases h), fun hl => ⟨⟨g, 0, none⟩, rfl, (Array.getElem?_eq_some_iff.1 hg).1, fun i hi => ?_⟩⟩
    have hown : w.ownsRow base e 1 (.slice (some ⟨g, 0, none⟩) l.length cap) l.length (vs k l) := ⟨h1, .inr ⟨g, cap, cur, rfl, hb, hg, hc, hm, hs, ht⟩⟩
    rw [add_none, Nat.zero_add, hown.cellAt i (by omega)]
    simp [vs, hi]
theorem Ow.alloc {k : IntKind} {e : TypeId} {base : Nat} {w : World} {v : Value} {l : List Nat} (h : Ow k e base w v l) (o : Obj) : Ow k e base (w.alloc o) v l := World.ownsRow.alloc h o
theorem Ow.bl {k : IntKind} {e : TypeId} {base : Nat} {w w' : World} {v : Value} {l : List Nat} (h : Ow k e base w v l) (g : Bl w w') : Ow k e base w' v l :=
  World.ownsRow.kept h (row := none) ⟨g.os, g.tape, g.output, Below.size g, fun i hi _ => g.block i hi⟩ (by cases hv : v.ownBlock <;> simp)
/-- An element appended: 'own' is what was, the new element lies in a block of its own. -/
theorem app_one {P : Program} {ops : Array Oper} {rest : List Oper} {o : Oper} {a : Act} {Q : Exit → Act → World → Prop} (W w : World) (k : IntKind) (t e : TypeId) (i : TypeInfo) (z : Value) (bytes : Nat)
    (ht : P.underlying t = some (.slice e)) (hi : P.info? e = some i) (hz : i.zero = some z) (hsize : i.size = 1) (hby : i.bytes = bytes) (hzs : z.cells.size = 1) (hb8 : bytes ≤ 8)
    (hgd : o.guard = none) (s x : Operand) (ho : o.op = .call { callee := .builtin .append, args := #[s, x], argTypes := #[t, t] })
    (v : Value) (l : List Nat) (u : Nat) (hs : a.eval s = v) (hx : a.eval x = .slice (some ⟨w.heap.size, 0, none⟩) 1 1) (hown : Ow k e W.heap.size w v l) (hbl : Bl W w) (hl : l.length < 1099511627776)
    (h : ∀ v' w', Hid (Ow k e W.heap.size w' v' (l ++ [u])) → Hid (Bl W w') → wpList P ops Q rest (a.put o.dst v') w') : wpList P ops Q (o :: rest) a (w.alloc (.cells #[.int k (u : Int)] e)) := by
  refine wpList_append_own _ hgd s x t ho W.heap.size e i z 1 bytes ht hi hz hsize hby hzs (by decide) v l.length (vs k l) hs (World.ownsRow.alloc hown _) ⟨w.heap.size, 0, none⟩ 1 1 [.int k (u : Int)] hx rfl ?_ ?_ ?_ ?_ ?_ ?_
  · intro j y hj
    match j, hj with
    | 0, hj => simp at hj; subst hj; simp [Addr.add]
  · intro y hy; simp at hy; subst hy; rfl
  · unfold maxLen; omega
  · have : (l.length + 1) * bytes ≤ (l.length + 1) * 8 := Nat.mul_le_mul_left _ hb8
    omega
  · have := hbl.size; simp; omega
  · intro v' w' h1 h2 _
    refine h v' w' ?_ ?_
    · have h1' : w'.ownsRow W.heap.size e 1 v' (l.length + 1) (vs k l ++ [.int k (u : Int)]) := h1
      show w'.ownsRow W.heap.size e 1 v' (l ++ [u]).length (vs k (l ++ [u]))
      rw [vs_snoc, List.length_append]
      exact h1'
    · exact (hbl.alloc _).grown h2 (fun g hg => (World.ownsRow.lt hown g hg).1)
/-- A slice's elements appended to a row of the call's own. -/
theorem app_many {P : Program} {ops : Array Oper} {rest : List Oper} {o : Oper} {a : Act} {Q : Exit → Act → World → Prop} (W w : World) (k : IntKind) (t e : TypeId) (i : TypeInfo) (z : Value) (bytes : Nat)
    (ht : P.underlying t = some (.slice e)) (hi : P.info? e = some i) (hz : i.zero = some z) (hsize : i.size = 1) (hby : i.bytes = bytes) (hzs : z.cells.size = 1) (hb8 : bytes ≤ 8)
    (hgd : o.guard = none) (s x : Operand) (ho : o.op = .call { callee := .builtin .append, args := #[s, x], argTypes := #[t, t] })
    (v : Value) (l m : List Nat) (A : Option Addr) (n c : Nat) (hs : a.eval s = v) (hx : a.eval x = .slice A n c) (hn : n = m.length) (h0 : A = none → c = 0) (hown : Ow k e W.heap.size w v l) (hsrc : Src k w A m) (hbl : Bl W w) (hl : l.length + m.length < 1099511627776)
    (h : ∀ v' w', Hid (Ow k e W.heap.size w' v' (l ++ m)) → Hid (Bl W w') → wpList P ops Q rest (a.put o.dst v') w') : wpList P ops Q (o :: rest) a w := by
  subst hn
  rcases Nat.eq_zero_or_pos m.length with hm | hm
  · have em : m = [] := List.length_eq_zero_iff.1 hm
    subst em
    have hh := h v
    rw [List.append_nil] at hh
    cases A with
    | none =>
      have hc0 := h0 rfl
      subst hc0
      exact wpList_append_own_none hgd s x t ho W.heap.size e i 1 ht hi v l.length (vs k l) hs hown hx (hh w hown hbl)
    | some ad =>
      refine wpList_append_own _ hgd s x t ho W.heap.size e i z 1 bytes ht hi hz hsize hby hzs (by decide) v l.length (vs k l) hs hown ad 0 c [] hx rfl (fun j u hj => by simp at hj) (fun u hu => by simp at hu) (by unfold maxLen; simp at hl; omega) ?_ hbl.size ?_
      · have : (l.length + 0) * bytes ≤ (l.length + 0) * 8 := Nat.mul_le_mul_left _ hb8
        simp at hl
        omega
      · intro v' w' h1 h2 _
        have h3 := h v' w'
        rw [List.append_nil] at h3
        refine h3 ?_ (hbl.grown h2 (fun g hg => (World.ownsRow.lt hown g hg).1))
        have h1' : w'.ownsRow W.heap.size e 1 v' (l.length + 0) (vs k l ++ []) := h1
        rw [List.append_nil, Nat.add_zero] at h1'
        exact h1'
  · obtain ⟨ad, rfl, hb, hc⟩ := hsrc hm
    refine wpList_append_own _ hgd s x t ho W.heap.size e i z 1 bytes ht hi hz hsize hby hzs (by decide) v l.length (vs k l) hs hown ad m.length c (vs k m) hx (by rw [vs_length, Nat.mul_one]) ?_ ?_ ?_ ?_ ?_ ?_
    · intro j y hj
      have hjl : j < m.length := by
        rcases Nat.lt_or_ge j m.length with h' | h'
        · exact h'
        · rw [List.getElem?_eq_none (by rw [vs_length]; exact h')] at hj; cases hj
      simp [vs, hjl] at hj
      subst hj
      exact hc j hjl
    · intro y hy; simp [vs] at hy; obtain ⟨q, _, rfl⟩ := hy; rfl
    · unfold maxLen; omega
    · have : (l.length + m.length) * bytes ≤ (l.length + m.length) * 8 := Nat.mul_le_mul_left _ hb8
      omega
    · exact hbl.size
    · intro v' w' h1 h2 _
      refine h v' w' ?_ ?_
      · have h1' : w'.ownsRow W.heap.size e 1 v' (l.length + m.length) (vs k l ++ vs k m) := h1
        show w'.ownsRow W.heap.size e 1 v' (l ++ m).length (vs k (l ++ m))
        rw [List.length_append]
        have : vs k (l ++ m) = vs k l ++ vs k m := by simp [vs]
        rw [this]
        exact h1'
      · exact hbl.grown h2 (fun g hg => (World.ownsRow.lt hown g hg).1)
end Go.Proofs.Ytdoohlehglakfaa
