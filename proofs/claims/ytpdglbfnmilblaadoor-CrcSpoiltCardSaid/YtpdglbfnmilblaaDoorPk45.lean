/-
  A string's bytes in memory, one bit turned.
-/
import Derived.Test.YtpdglbfnmilblaaDoorPk15
namespace Go.Proofs.YtpdglbfnmilblaaDoor
open Go.RowKit
set_option linter.unusedVariables false
set_option linter.unusedSimpArgs false

/-- Block g begins with the bytes l, and none of them is frozen. -/
def By (w : World) (g : Nat) (l : List Nat) : Prop := ∃ (arr : Array Value) (t : TypeId) (lo hi : Nat), w.heap[g]? = some (.cells arr t (lo, hi)) ∧ (∀ j (h : j < l.length), arr[j]? = some (.int .u8 (l[j] : Int))) ∧ l.length ≤ lo
theorem By.cell {w : World} {g : Nat} {l : List Nat} (h : By w g l) (j : Nat) (hj : j < l.length) : w.cell? ⟨g, j, none⟩ = some (.int .u8 (l[j] : Int)) := by
  obtain ⟨arr, t, lo, hi, h1, h2, _⟩ := h
  have := h2 j hj
  simp [World.cell?, h1, this]
theorem By.free {w : World} {g : Nat} {l : List Nat} (h : By w g l) (j : Nat) (hj : j < l.length) : w.frozen? ⟨g, j, none⟩ = false := by
  obtain ⟨arr, t, lo, hi, h1, _, h3⟩ := h
  unfold World.frozen?
  simp only [h1]
  rw [Bool.and_eq_false_iff]
  left
  exact decide_eq_false (by show ¬ lo ≤ j; omega)
theorem By.set {w : World} {g : Nat} {l : List Nat} (h : By w g l) (i u : Nat) : By (w.setCell ⟨g, i, none⟩ (.int .u8 (u : Int))) g (l.set i u) := by
  obtain ⟨arr, t, lo, hi, h1, h2, h3⟩ := h
  have hlt : g < w.heap.size := (Array.getElem?_eq_some_iff.1 h1).1
  have h' : w.heap[g] = .cells arr t (lo, hi) := by simpa [Array.getElem?_eq_getElem hlt] using h1
  refine ⟨arr.setIfInBounds i (.int .u8 (u : Int)), t, lo, hi, ?_, fun j hj => ?_, by rw [List.length_set]; exact h3⟩
  · show (w.heap.modify g _)[g]? = _
    rw [Array.getElem?_eq_getElem (by simpa using hlt), Array.getElem_modify_self, h']
    simp
  · rw [List.length_set] at hj
    have hb := h2 j hj
    have hs : j < arr.size := (Array.getElem?_eq_some_iff.1 hb).1
    rw [Array.getElem?_setIfInBounds]
    by_cases e : i = j
    · subst e
      rw [if_pos rfl, if_pos hs]
      simp
    · rw [if_neg e, hb]
      simp [List.getElem_set, e]
theorem by_made {l : List Nat} (ha : All 256 l) (w : World) (e : TypeId) (cap g : Nat) (hg : g = w.heap.size) : By (w.drew.alloc (.cells (bytesRow (bs l) cap) e ((bytesRow (bs l) cap).size, (bytesRow (bs l) cap).size + 1))) g l := by
  subst hg
  refine ⟨bytesRow (bs l) cap, e, _, _, World.alloc_heap_new w.drew _, fun j hj => ?_, ?_⟩
  · have hs : j < (bs l).size := by rw [bs_size]; exact hj
    have hx := bs_get ha j hj hs
    unfold bytesRow
    have hd : j < ((bs l).data.map fun b => Value.int .u8 b.toNat).size := by rw [Array.size_map]; exact hs
    rw [Array.getElem?_append_left hd, Array.getElem?_eq_getElem hd, Array.getElem_map, ← hx]
    rfl
  · unfold bytesRow
    rw [Array.size_append, Array.size_map]
    have : (bs l).data.size = l.length := bs_size l
    omega
theorem by_made0 {l : List Nat} (ha : All 256 l) (w : World) (e : TypeId) (cap g : Nat) (hg : g = w.heap.size) : By (w.alloc (.cells (bytesRow (bs l) cap) e ((bytesRow (bs l) cap).size, (bytesRow (bs l) cap).size + 1))) g l := by_made ha w e cap g hg
theorem By.drew {w : World} {g : Nat} {l : List Nat} (h : By w g l) : By w.drew g l := h
theorem by_conv {P : Program} (w : World) (src dst e : TypeId) (hs : P.underlying src = some (.slice e)) (he : P.underlying e = some (.int .u8)) (hd : P.underlying dst = some .string) {g n c : Nat} {l : List Nat} (h : By w g l) (ha : All 256 l) (hn : n = l.length) :
    (convert src dst (.slice (some ⟨g, 0, none⟩) n c)).run P w = .ok (.string (bs l)) w := by
  subst hn
  have hx := run_convert_bytes_back (P := P) w src dst e ⟨g, 0, none⟩ c (l.map UInt8.ofNat) hs he hd (fun j hj => by
    rw [List.length_map] at hj
    rw [add_none, Nat.zero_add, h.cell j hj, List.getElem_map]
    have := ha j hj
    have e2 : (UInt8.ofNat l[j]).toNat = l[j] := by rw [UInt8.toNat_ofNat']; omega
    rw [e2])
  rw [List.length_map] at hx
  exact hx
theorem turn_all {l : List Nat} (ha : All 256 l) (i k : Nat) (h : i < l.length) (hk : k < 8) : All 256 (l.set i (turn1 l[i] k)) := by
  intro j hj
  rw [List.getElem_set]
  split
  · exact turn1_lt (ha i h) hk
  · exact ha j (by rw [List.length_set] at hj; exact hj)
/-- The bit k turned, as the program does it. -/
theorem turn_bits {x : Nat} (hx : x < 256) (k : Nat) (hk : k < 8) (p : Int) (hp : p = ((2 ^ k : Nat) : Int)) : bits .xor .u8 (x : Int) p = ((turn1 x k : Nat) : Int) := by
  subst hp
  have h1 : (2 : Nat) ^ k < 2 ^ 8 := Nat.pow_lt_pow_right (by decide) hk
  exact u8_xor_nat x (2 ^ k) hx (by have : (2 : Nat) ^ 8 = 256 := by decide
                                    omega)
end Go.Proofs.YtpdglbfnmilblaaDoor
