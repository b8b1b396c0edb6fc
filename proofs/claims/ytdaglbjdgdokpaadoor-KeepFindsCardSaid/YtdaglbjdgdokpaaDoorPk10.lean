/-
  Rows that the call makes whole: a block that is known; make([]T, n); a store. · A block of cells that are known one by one (a struct in memory); a struct that is read from its cell as a result.
-/
import Derived.Test.YtdaglbjdgdokpaaDoorNtW
import Derived.Test.YtdaglbjdgdokpaaDoorPk4
import Derived.Laws.MakeOwn
import Derived.OneCell
import Derived.Laws.ResultCell
import Derived.RangeFuncBox
namespace Go.Proofs.YtdaglbjdgdokpaaDoor
open Go.RowKit
set_option linter.unusedVariables false

/-- Block g is the row l. -/
def Bk (k : IntKind) (e : TypeId) (w : World) (g : Nat) (l : List Nat) : Prop := w.heap[g]? = some (.cells (vs k l).toArray e (0, 0))
theorem Bk.lt {k : IntKind} {e : TypeId} {w : World} {g : Nat} {l : List Nat} (h : Bk k e w g l) : g < w.heap.size := lt_of_block h
theorem Bk.cell {k : IntKind} {e : TypeId} {w : World} {g : Nat} {l : List Nat} (h : Bk k e w g l) (i : Nat) (hi : i < l.length) : w.cell? ⟨g, i, none⟩ = some (.int k (l[i] : Int)) := by
  unfold Bk at h
  simp [World.cell?, h, vs, hi]
theorem Bk.free {k : IntKind} {e : TypeId} {w : World} {g : Nat} {l : List Nat} (h : Bk k e w g l) (i : Nat) : w.frozen? ⟨g, i, none⟩ = false := by
  unfold Bk at h
  simp [World.frozen?, h]
theorem Bk.bl {k : IntKind} {e : TypeId} {w w' : World} {g : Nat} {l : List Nat} (h : Bk k e w g l) (b : Bl w w') : Bk k e w' g l := (b.block g h.lt).trans h
theorem Bk.drew {k : IntKind} {e : TypeId} {w : World} {g : Nat} {l : List Nat} (h : Bk k e w g l) : Bk k e w.drew g l := h
theorem Bk.drewN {k : IntKind} {e : TypeId} {w : World} {g : Nat} {l : List Nat} (h : Bk k e w g l) (n : Nat) : Bk k e (w.drewN n) g l := h
theorem Bk.set {k : IntKind} {e : TypeId} {w : World} {g : Nat} {l : List Nat} (h : Bk k e w g l) (i u : Nat) (hi : i < l.length) : Bk k e (w.setCell ⟨g, i, none⟩ (.int k (u : Int))) g (l.set i u) := by
  have hlt := h.lt
  have h' : w.heap[g] = .cells (vs k l).toArray e (0, 0) := by unfold Bk at h; simpa [Array.getElem?_eq_getElem hlt] using h
  show (w.heap.modify g _)[g]? = _
  rw [Array.getElem?_eq_getElem (by simpa using hlt), Array.getElem_modify_self, h']
  simp [vs, List.map_set]
theorem Bk.src {k : IntKind} {e : TypeId} {w : World} {g : Nat} {l : List Nat} (h : Bk k e w g l) : Src k w (some ⟨g, 0, none⟩) l := fun _ => ⟨_, rfl, h.lt, fun i hi => by rw [add_none, Nat.zero_add]; exact h.cell i hi⟩
theorem Bk.rw {k : IntKind} {e : TypeId} {w : World} {g : Nat} {l : List Nat} {n : Nat} (h : Bk k e w g l) (hn : n = l.length) (hm : n ≤ maxLen) : Rw k w (.slice (some ⟨g, 0, none⟩) n n) l :=
  h.src.rw hn (Nat.le_refl _) hm (fun h => by cases h)
theorem Bk.made (k : IntKind) (e : TypeId) (w : World) (n : Nat) : Bk k e (w.alloc (.cells (vs k (List.replicate n 0)).toArray e)) w.heap.size (List.replicate n 0) := heap_alloc_new w _

theorem run_mk {P : Program} (k : IntKind) (t e : TypeId) (i : TypeInfo) (ht : P.underlying t = some (.slice e)) (hi : P.info? e = some i) (hz : i.zero = some (.int k 0)) (hs : i.size = 1) (hb8 : i.bytes ≤ 8) (n : Nat) (hn : n < 1099511627776) (w : World) :
    (Instr.makeSlice t (.int .i64 (n : Int)) (.int .i64 (n : Int))).run P w = .ok (.slice (some ⟨w.heap.size, 0, none⟩) n n) (w.alloc (.cells (vs k (List.replicate n 0)).toArray e)) := by
  have hb : (i.bytes : Int) * (n : Int) ≤ 281474976710656 := by
    have h : i.bytes * n ≤ 8 * n := Nat.mul_le_mul_right _ hb8
    have h' : ((i.bytes * n : Nat) : Int) ≤ 281474976710656 := by omega
    rwa [Int.natCast_mul] at h'
  have hr := run_make (P := P) w t e i (.int k 0) ht hi hz .i64 .i64 n n (by omega) (by omega) hb (by omega)
  simp only [Int.toNat_natCast] at hr
  rw [hr, hs, Nat.mul_one]
  have e1 : madeCells (Value.int k 0).cells n = (vs k (List.replicate n 0)).toArray := by
    apply Array.toList_inj.1
    have h1 : (Value.int k 0).cells = #[.int k 0] := rfl
    rw [h1, toList_madeCells_one]
    simp [vs]
  rw [e1]
end Go.Proofs.YtdaglbjdgdokpaaDoor
namespace Go.Proofs.YtdaglbjdgdokpaaDoor
open Go.RowKit
set_option linter.unusedVariables false
set_option linter.unusedSimpArgs false

/-- The block b holds the cells cs. -/
def Bq (w : World) (b : Nat) (t : TypeId) (cs : List Value) : Prop := w.heap[b]? = some (.cells cs.toArray t (0, 0))
theorem Bq.lt {w : World} {b : Nat} {t : TypeId} {cs : List Value} (h : Bq w b t cs) : b < w.heap.size := (Array.getElem?_eq_some_iff.1 h).1
theorem Bq.cell {w : World} {b : Nat} {t : TypeId} {cs : List Value} (h : Bq w b t cs) (i : Nat) {v : Value} (hi : cs[i]? = some v) : w.cell? ⟨b, i, none⟩ = some v := by
  unfold Bq at h
  simp [World.cell?, h, hi]
theorem Bq.free {w : World} {b : Nat} {t : TypeId} {cs : List Value} (h : Bq w b t cs) (i : Nat) : w.frozen? ⟨b, i, none⟩ = false := by
  unfold Bq at h
  simp [World.frozen?, h]
theorem Bq.bl {w w' : World} {b : Nat} {t : TypeId} {cs : List Value} (h : Bq w b t cs) (g : Bl w w') : Bq w' b t cs := (g.block b h.lt).trans h
theorem Bq.new (w : World) (t : TypeId) (cs : List Value) : Bq (w.alloc (.cells cs.toArray t)) w.heap.size t cs := World.alloc_heap_new w _
theorem Bq.drew {w : World} {b : Nat} {t : TypeId} {cs : List Value} (h : Bq w b t cs) : Bq w.drew b t cs := h
theorem Bq.drewN {w : World} {b : Nat} {t : TypeId} {cs : List Value} (h : Bq w b t cs) (n : Nat) : Bq (w.drewN n) b t cs := h
theorem Bq.alloc {w : World} {b : Nat} {t : TypeId} {cs : List Value} (h : Bq w b t cs) (o : Obj) : Bq (w.alloc o) b t cs := h.bl ((Bl.refl w).alloc o)
theorem Bq.set {w : World} {b : Nat} {t : TypeId} {cs : List Value} (h : Bq w b t cs) (i : Nat) (v : Value) : Bq (w.setCell ⟨b, i, none⟩ v) b t (cs.set i v) := by
  have hlt := h.lt
  have h' : w.heap[b] = .cells cs.toArray t (0, 0) := by unfold Bq at h; simpa [Array.getElem?_eq_getElem hlt] using h
  show (w.heap.modify b _)[b]? = _
  rw [Array.getElem?_eq_getElem (by simpa using hlt), Array.getElem_modify_self, h']
  simp
theorem Bq.oth {w : World} {b : Nat} {t : TypeId} {cs : List Value} (h : Bq w b t cs) {g : Nat} (i : Nat) (v : Value) (hne : g ≠ b) : Bq (w.setCell ⟨g, i, none⟩ v) b t cs := by
  have : (w.setCell ⟨g, i, none⟩ v).heap[b]? = w.heap[b]? := by
    show (w.heap.modify g _)[b]? = _
    rw [Array.getElem?_modify, if_neg hne]
  exact this.trans h
/-- A row of words is no cell of a struct that lies elsewhere. -/
theorem rw_oth {k : IntKind} {w : World} {v : Value} {l : List Nat} {B : Nat} (h : Rw k w v l) (hv : ∀ A n c, v = .slice (some A) n c → A.block ≠ B) (i : Nat) (u : Value) : Rw k (w.setCell ⟨B, i, none⟩ u) v l := by
  obtain ⟨A, c, rfl, h1, h2, h3, h4⟩ := h
  refine ⟨A, c, rfl, h1, h2, h3, fun hl => ?_⟩
  obtain ⟨ad, ha, hb, hx⟩ := h4 hl
  subst ha
  refine ⟨ad, rfl, by show _ < (w.heap.modify _ _).size; rw [Array.size_modify]; exact hb, fun j hj => ?_⟩
  rw [World.cell?_setCell_other w _ _ u]
  · exact hx j hj
  · intro e
    have e1 := congrArg Addr.block e
    rw [blk_add] at e1
    exact hv _ _ _ rfl e1.symm

theorem rw_open {k : IntKind} {w : World} {v : Value} {l : List Nat} {n : Nat} (h : Rw k w v l) (hn : l.length = n) : ∃ A c, v = .slice A n c := by
  obtain ⟨A, c, rfl, _⟩ := h
  exact ⟨A, c, by rw [hn]⟩
/-- A cell that holds no word is none of a row's. -/
theorem rw_cellq {k : IntKind} {w : World} {v : Value} {l : List Nat} {p : Addr} {u : Value} (h : Rw k w v l) (hc : w.cell? p = some u) (hu : ∀ z, u ≠ .int k z) (u' : Value) : Rw k (w.setCell p u') v l := by
  obtain ⟨A, c, rfl, h1, h2, h3, h4⟩ := h
  refine ⟨A, c, rfl, h1, h2, h3, fun hl => ?_⟩
  obtain ⟨ad, ha, hb, hx⟩ := h4 hl
  subst ha
  refine ⟨ad, rfl, by show _ < (w.heap.modify _ _).size; rw [Array.size_modify]; exact hb, fun j hj => ?_⟩
  rw [World.cell?_setCell_other w _ _ u']
  · exact hx j hj
  · intro e
    have e1 := hx j hj
    rw [← e, hc] at e1
    exact hu _ (Option.some.inj e1)
/-- The result that lies in a cell, and another one. -/
theorem ret_cell9 {P : Program} {fn : Func} {p u : Tmp} {t : TypeId} {w : World} {b : Nat} {tmps : Array Value} {cs : Array Value} {v : Value} (h : fn.results = #[.cell p t, .tmp u]) (hp : tmps.getD p undef = .pointer (some ⟨b, 0, none⟩)) (hu : tmps.getD u undef = v)
    (hl : (loadVar t ⟨b, 0, none⟩).run P w = .ok (.agg cs) w) : (results fn tmps).run P w = .ok (.tuple #[.agg cs, v]) w := by
  rw [results_cell_tmp h, hp, hu]
  have e : (asAddr (.pointer (some ⟨b, 0, none⟩))).run P w = .ok (⟨b, 0, none⟩ : Addr) w := by simp [asAddr, go_sem]
  rw [e]
  simp only [Result.andThen, hl]
end Go.Proofs.YtdaglbjdgdokpaaDoor
