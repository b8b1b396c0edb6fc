/-
  Rows that the call makes whole: a block that is known; make([]T, n); a store.
-/
import Derived.Test.YtdaglbjdgdokpaaDoorNtW
import Derived.Test.YtdaglbjdgdokpaaDoorNtN
import Derived.Laws.MakeOwn
import Derived.OneCell
namespace Go.Proofs.YtdaglbjdgdokpaaDoor
open Go.RowKit
set_option linter.unusedVariables false

/-- Block g is the row l. -/
def Bk (k : IntKind) (e : TypeId) (w : World) (g : Nat) (l : List Nat) : Prop := w.heap[g]? = some (.cells (vs k l).toArray e (0, 0))
theorem Bk.lt {k : IntKind} {e : TypeId} {w : World} {g : Nat} {l : List Nat} (h : Bk k e w g l) : g < w.heap.size := lt_of_block h
theorem Bk.cell {k : IntKind} {e : TypeId} {w : World} {g : Nat} {l : List Nat} (h : Bk k e w g l) (i : Nat) (hi : i < l.length) : w.cell? ⟨g, i, none⟩ = some (.int k (l[i] : Int)) := by
  unfold Bk at h
  simp [World.cell?, h, vs, hi]
theorem Bk.free {k : IntKind} {e : TypeId} {w : World} {g : Nat} {l : List Nat} (h : Bk k e w g l) (i : Nat) : w.frozen? ⟨g, i, none⟩ = false := by
  unfold Bk at h
  simp [World.frozen?, h]
theorem Bk.bl {k : IntKind} {e : TypeId} {w w' : World} {g : Nat} {l : List Nat} (h : Bk k e w g l) (b : Bl w w') : Bk k e w' g l := (b.block g h.lt).trans h
theorem Bk.drew {k : IntKind} {e : TypeId} {w : World} {g : Nat} {l : List Nat} (h : Bk k e w g l) : Bk k e w.drew g l := h
theorem Bk.drewN {k : IntKind} {e : TypeId} {w : World} {g : Nat} {l : List Nat} (h : Bk k e w g l) (n : Nat) : Bk k e (w.drewN n) g l := h
theorem Bk.set {k : IntKind} {e : TypeId} {w : World} {g : Nat} {l : List Nat} (h : Bk k e w g l) (i u : Nat) (hi : i < l.length) : Bk k e (w.setCell ⟨g, i, none⟩ (.int k (u : Int))) g (l.set i u) := by
  have hlt := h.lt
  have h' : w.heap[g] = .cells (vs k l).toArray e (0, 0) := by unfold Bk at h; simpa [Array.getElem?_eq_getElem hlt] using h
  show (w.heap.modify g _)[g]? = _
  rw [Array.getElem?_eq_getElem (by simpa using hlt), Array.getElem_modify_self, h']
  simp [vs, List.map_set]
theorem Bk.src {k : IntKind} {e : TypeId} {w : World} {g : Nat} {l : List Nat} (h : Bk k e w g l) : Src k w (some ⟨g, 0, none⟩) l := fun _ => ⟨_, rfl, h.lt, fun i hi => by rw [add_none, Nat.zero_add]; exact h.cell i hi⟩
theorem Bk.rw {k : IntKind} {e : TypeId} {w : World} {g : Nat} {l : List Nat} {n : Nat} (h : Bk k e w g l) (hn : n = l.length) (hm : n ≤ maxLen) : Rw k w (.slice (some ⟨g, 0, none⟩) n n) l :=
  h.src.rw hn (Nat.le_refl _) hm (fun h => by cases h)
theorem Bk.made (k : IntKind) (e : TypeId) (w : World) (n : Nat) : Bk k e (w.alloc (.cells (vs k (List.replicate n 0)).toArray e)) w.heap.size (List.replicate n 0) := heap_alloc_new w _

theorem run_mk {P : Program} (k : IntKind) (t e : TypeId) (i : TypeInfo) (ht : P.underlying t = some (.slice e)) (hi : P.info? e = some i) (hz : i.zero = some (.int k 0)) (hs : i.size = 1) (hb8 : i.bytes ≤ 8) (n : Nat) (hn : n < 1099511627776) (w : World) :
    (Instr.makeSlice t (.int .i64 (n : Int)) (.int .i64 (n : Int))).run P w = .ok (.slice (some ⟨w.heap.size, 0, none⟩) n n) (w.alloc (.cells (vs k (List.replicate n 0)).toArray e)) := by
  have hb : (i.bytes : Int) * (n : Int) ≤ 281474976710656 := by
    have h : i.bytes * n ≤ 8 * n := Nat.mul_le_mul_right _ hb8
    have h' : ((i.bytes * n : Nat) : Int) ≤ 281474976710656 := by omega
    rwa [Int.natCast_mul] at h'
  have hr := run_make (P := P) w t e i (.int k 0) ht hi hz .i64 .i64 n n (by omega) (by omega) hb (by omega)
  simp only [Int.toNat_natCast] at hr
  rw [hr, hs, Nat.mul_one]
  have e1 : madeCells (Value.int k 0).cells n = (vs k (List.replicate n 0)).toArray := by
    apply Array.toList_inj.1
    have h1 : (Value.int k 0).cells = #[.int k 0] := rfl
    rw [h1, toList_madeCells_one]
    simp [vs]
  rw [e1]
end Go.Proofs.YtdaglbjdgdokpaaDoor
