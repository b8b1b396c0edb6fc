/-
  Rows that the call makes whole: a block that is known; make([]T, n); a store. · copy into a row that the call itself made.
-/
import Derived.Test.YtdoohlehglakfaaNtW
import Derived.Test.YtdoohlehglakfaaNtN
import Derived.Laws.MakeOwn
import Derived.OneCell
import Derived.Laws.CopyOwn
namespace Go.Proofs.Ytdoohlehglakfaa
open Go.RowKit
set_option linter.unusedVariables false

/-- Block g is the row l. -/
def Bk (k : IntKind) (e : TypeId) (w : World) (g : Nat) (l : List Nat) : Prop := w.heap[g]? = some (.cells (vs k l).toArray e (0, 0))
theorem Bk.lt {k : IntKind} {e : TypeId} {w : World} {g : Nat} {l : List Nat} (h : Bk k e w g l) : g < w.heap.size := lt_of_block h
theorem Bk.cell {k : IntKind} {e : TypeId} {w : World} {g : Nat} {l : List Nat} (h : Bk k e w g l) (i : Nat) (hi : i < l.length) : w.cell? ⟨g, i, none⟩ = some (.int k (l[i] : Int)) := by
  unfold Bk at h
  simp [World.cell?, h, vs, hi]
theorem Bk.free {k : IntKind} {e : TypeId} {w : World} {g : Nat} {l : List Nat} (h : Bk k e w g l) (i : Nat) : w.frozen? ⟨g, i, none⟩ = false := by
  unfold Bk at h
  simp [World.frozen?, h]
theorem Bk.bl {k : IntKind} {e : TypeId} {w w' : World} {g : Nat} {l : List Nat} (h : Bk k e w g l) (b : Bl w w') : Bk k e w' g l := (b.block g h.lt).trans h
theorem Bk.drew {k : IntKind} {e : TypeId} {w : World} {g : Nat} {l : List Nat} (h : Bk k e w g l) : Bk k e w.drew g l := h
theorem Bk.drewN {k : IntKind} {e : TypeId} {w : World} {g : Nat} {l : List Nat} (h : Bk k e w g l) (n : Nat) : Bk k e (w.drewN n) g l := h
theorem Bk.set {k : IntKind} {e : TypeId} {w : World} {g : Nat} {l : List Nat} (h : Bk k e w g l) (i u : Nat) (hi : i < l.length) : Bk k e (w.setCell ⟨g, i, none⟩ (.int k (u : Int))) g (l.set i u) := by
  have hlt := h.lt
  have h' : w.heap[g] = .cells (vs k l).toArray e (0, 0) := by unfold Bk at h; simpa [Array.getElem?_eq_getElem hlt] using h
  show (w.heap.modify g _)[g]? = _
  rw [Array.getElem?_eq_getElem (by simpa using hlt), Array.getElem_modify_self, h']
  simp [vs, List.map_set]
theorem Bk.src {k : IntKind} {e : TypeId} {w : World} {g : Nat} {l : List Nat} (h : Bk k e w g l) : Src k w (some ⟨g, 0, none⟩) l := fun _ => ⟨_, rfl, h.lt, fun i hi => by rw [add_none, Nat.zero_add]; exact h.cell i hi⟩
theorem Bk.rw {k : IntKind} {e : TypeId} {w : World} {g : Nat} {l : List Nat} {n : Nat} (h : Bk k e w g l) (hn : n = l.length) (hm : n ≤ maxLen) : Rw k w (.slice (some ⟨g, 0, none⟩) n n) l :=
  h.src.rw hn (Nat.le_refl _) hm (fun h => by cases h)
theorem Bk.made (k : IntKind) (e : TypeId) (w : World) (n : Nat) : Bk k e (w.alloc (.cells (vs k (List.replicate n 0)).toArray e)) w.heap.size (List.replicate n 0) := heap_alloc_new w _

theorem run_mk {P : Program} (k : IntKind) (t e : TypeId) (i : TypeInfo) (ht : P.underlying t = some (.slice e)) (hi : P.info? e = some i) (hz : i.zero = some (.int k 0)) (hs : i.size = 1) (hb8 : i.bytes ≤ 8) (n : Nat) (hn : n < 1099511627776) (w : World) :
    (Instr.makeSlice t (.int .i64 (n : Int)) (.int .i64 (n : Int))).run P w = .ok (.slice (some ⟨w.heap.size, 0, none⟩) n n) (w.alloc (.cells (vs k (List.replicate n 0)).toArray e)) := by
  have hb : (i.bytes : Int) * (n : Int) ≤ 281474976710656 := by
    have h : i.bytes * n ≤ 8 * n := Nat.mul_le_mul_right _ hb8
    have h' : ((i.bytes * n : Nat) : Int) ≤ 281474976710656 := by omega
    rwa [Int.natCast_mul] at h'
  have hr := run_make (P := P) w t e i (.int k 0) ht hi hz .i64 .i64 n n (by omega) (by omega) hb (by omega)
  simp only [Int.toNat_natCast] at hr
  rw [hr, hs, Nat.mul_one]
  have e1 : madeCells (Value.int k 0).cells n = (vs k (List.replicate n 0)).toArray := by
    apply Array.toList_inj.1
    have h1 : (Value.int k 0).cells = #[.int k 0] := rfl
    rw [h1, toList_madeCells_one]
    simp [vs]
  rw [e1]
end Go.Proofs.Ytdoohlehglakfaa
namespace Go.Proofs.Ytdoohlehglakfaa
open Go.RowKit
set_option linter.unusedVariables false

theorem vs_splice (k : IntKind) (l m : List Nat) (off : Nat) : vs k (splice l off m) = splice (vs k l) off (vs k m) := by
  simp [vs, splice, List.map_take, List.map_drop]
theorem copy_bk {P : Program} {ops : Array Oper} {rest : List Oper} {o : Oper} {a : Act} {Q : Exit → Act → World → Prop} (W w : World) (k : IntKind) (e : TypeId) (hgd : o.guard = none) (d s : Operand) (dT sT : TypeId)
    (ho : o.op = .call { callee := .builtin .copy, args := #[d, s], argTypes := #[dT, sT] }) (elem : TypeId) (hu : P.underlying dT = some (.slice elem)) (hsz : (P.info? elem).map (·.size) = some 1)
    (g off dLen dCap : Nat) (A : Option Addr) (sLen sCap : Nat) (hd : a.eval d = .slice (some ⟨g, off, none⟩) dLen dCap) (hs : a.eval s = .slice A sLen sCap)
    (l m : List Nat) (hm : sLen = m.length) (hbk : Bk k e w g l) (hsrc : Src k w A m) (hfit : off + min m.length dLen ≤ l.length) (hb : Bl W w) (hBg : W.heap.size ≤ g)
    (h : ∀ w', Hid (Bk k e w' g (splice l off (m.take dLen))) → Hid (Bl W w') → Hid (w'.heap.size = w.heap.size ∧ ∀ j, j ≠ g → w'.heap[j]? = w.heap[j]?) → wpList P ops Q rest (a.put o.dst (goInt ((min m.length dLen : Nat) : Int))) w') :
    wpList P ops Q (o :: rest) a w := by
  have hlen : (vs k (m.take dLen)).length = min m.length dLen := by rw [vs_length, List.length_take, Nat.min_comm]
  have h1 : ∀ v ∈ vs k (m.take dLen), v.oneCell' = true := by
    intro v hv
    simp only [vs, List.mem_map] at hv
    obtain ⟨x, _, rfl⟩ := hv
    rfl
  by_cases h0 : min m.length dLen = 0
  · refine wpList_copy_nothing hgd d s dT sT ho elem hu hsz (some ⟨g, off, none⟩) A dLen dCap sLen sCap hd hs (by rw [hm]; exact h0) ?_
    have e1 : m.take dLen = [] := List.length_eq_zero_iff.1 (by rw [List.length_take, Nat.min_comm]; exact h0)
    have := h w (by show Bk _ _ _ _ _; rw [e1]; simpa [splice] using hbk) hb ⟨rfl, fun _ _ => rfl⟩
    rwa [h0] at this
  · obtain ⟨ad, hA, _, hx⟩ := hsrc (by omega)
    subst hA
    have hcs : ∀ j v, (vs k (m.take dLen))[j]? = some v → w.cell? (ad.add j) = some v := by
      intro j v hv
      have hj : j < (m.take dLen).length := by
        have := (List.getElem?_eq_some_iff.1 hv).1
        rwa [vs_length] at this
      have hj' : j < m.length := by rw [List.length_take] at hj; omega
      have e1 : v = .int k ((m[j] : Nat) : Int) := by
        have := (List.getElem?_eq_some_iff.1 hv).2
        rw [← this]
        simp [vs]
      rw [e1]
      exact hx j hj'
    refine wpList_copy_own hgd d s dT sT ho elem hu hsz g off dLen dCap ad sLen sCap hd hs (vs k l).toArray e hbk (vs k (m.take dLen)) (by rw [hlen, hm]) hcs (by rw [hlen]; simpa [vs] using hfit) h1 ?_
    rw [hlen]
    refine h _ ?_ (below_setRow hb hBg _) ⟨by simp [World.setRow], fun j hj => setRow_other w g j _ hj⟩
    show Bk _ _ _ _ _
    unfold Bk
    rw [vs_splice]
    have := setRow_heap w g (vs k l).toArray (((vs k l).take off ++ (vs k (m.take dLen) ++ (vs k l).drop (off + (min m.length dLen)))).toArray) e (0, 0) hbk
    simpa [splice, hlen] using this
end Go.Proofs.Ytdoohlehglakfaa
