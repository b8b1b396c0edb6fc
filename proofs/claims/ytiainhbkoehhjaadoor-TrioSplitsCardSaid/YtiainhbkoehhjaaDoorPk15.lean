/-
  The document's answers for sums and differences of words. · Rows of pairs that the call makes; the document's long and Times (layer 9).
-/
import Derived.Test.YtiainhbkoehhjaaDoorChecked
import Derived.Test.YtiainhbkoehhjaaDoorPk3
import Derived.Test.YtiainhbkoehhjaaDoorPk12
import Derived.Test.YtiainhbkoehhjaaDoorPk6
import Derived.Test.YtiainhbkoehhjaaDoorPk14
namespace Go.Proofs.YtiainhbkoehhjaaDoor
open Go.RowKit
set_option linter.unusedVariables false

set_option maxHeartbeats 1000000 in
theorem radd_any (a b c : Nat) (ha : a < 18446744073709551616) (hb : b < 18446744073709551616) (hc : c < 18446744073709551616) (w : World) :
    Calls Tryd.prog 24 #[.int .u64 (a : Int), .int .u64 (b : Int), .int .u64 (c : Int)] w
      fun e w' => e = .returned (.tuple #[.int .u64 ((addS a b c : Nat) : Int), .int .u64 ((addC a b c : Nat) : Int)]) ∧ w = w' := by
  go_enter Tryd.func24, Tryd.ntmps24
  go_wp2
  all_goals
    go_ret2
    refine ⟨ret_eq (pair_eq ?_ ?_), rfl⟩
  all_goals
    rcases un_cases c with ⟨hc0, hu⟩ | ⟨hc0, hu⟩
  all_goals
    simp only [IntKind.wrap_u64] at *
    first
      | (unfold addS; rw [hu]; omega)
      | (unfold addC; rw [hu]; omega)

end Go.Proofs.YtiainhbkoehhjaaDoor
namespace Go.Proofs.YtiainhbkoehhjaaDoor
open Go.RowKit
set_option linter.unusedVariables false

/-- Block g is the row of pairs l. -/
def Bp (e : TypeId) (w : World) (g : Nat) (l : List (Nat × Nat)) : Prop :=
  ∃ cs : Array Value, w.heap[g]? = some (.cells cs e (0, 0)) ∧ cs.size = l.length * 2 ∧ ∀ i (h : i < l.length), cs[i * 2]? = some (.int .u64 (l[i].1 : Int)) ∧ cs[i * 2 + 1]? = some (.int .u64 (l[i].2 : Int))
theorem Bp.lt {e : TypeId} {w : World} {g : Nat} {l : List (Nat × Nat)} (h : Bp e w g l) : g < w.heap.size := by obtain ⟨cs, h1, _⟩ := h; exact lt_of_block h1
theorem Bp.cell1 {e : TypeId} {w : World} {g : Nat} {l : List (Nat × Nat)} (h : Bp e w g l) (i : Nat) (hi : i < l.length) : w.cell? ⟨g, i * 2, none⟩ = some (.int .u64 (l[i].1 : Int)) := by
  obtain ⟨cs, h1, h2, h3⟩ := h
  simp [World.cell?, h1, (h3 i hi).1]
theorem Bp.cell2 {e : TypeId} {w : World} {g : Nat} {l : List (Nat × Nat)} (h : Bp e w g l) (i : Nat) (hi : i < l.length) : w.cell? ⟨g, i * 2 + 1, none⟩ = some (.int .u64 (l[i].2 : Int)) := by
  obtain ⟨cs, h1, h2, h3⟩ := h
  simp [World.cell?, h1, (h3 i hi).2]
theorem Bp.free {e : TypeId} {w : World} {g : Nat} {l : List (Nat × Nat)} (h : Bp e w g l) (i : Nat) : w.frozen? ⟨g, i, none⟩ = false := by
  obtain ⟨cs, h1, h2, h3⟩ := h
  simp [World.frozen?, h1]
theorem Bp.bl {e : TypeId} {w w' : World} {g : Nat} {l : List (Nat × Nat)} (h : Bp e w g l) (b : Bl w w') : Bp e w' g l := by
  have hl := h.lt
  obtain ⟨cs, h1, h2, h3⟩ := h
  exact ⟨cs, (b.block g hl).trans h1, h2, h3⟩
theorem Bp.drewN {e : TypeId} {w : World} {g : Nat} {l : List (Nat × Nat)} (h : Bp e w g l) (n : Nat) : Bp e (w.drewN n) g l := h
theorem Bp.set {e : TypeId} {w : World} {g : Nat} {l : List (Nat × Nat)} (h : Bp e w g l) (i u v : Nat) (hi : i < l.length) : Bp e ((w.setCell ⟨g, i * 2, none⟩ (.int .u64 (u : Int))).setCell ⟨g, i * 2 + 1, none⟩ (.int .u64 (v : Int))) g (l.set i (u, v)) := by
  obtain ⟨cs, h1, h2, h3⟩ := h
  refine ⟨_, heap_setCell_same _ g (i * 2 + 1) _ e _ (heap_setCell_same w g (i * 2) cs e _ h1), by simp [h2], fun j hj => ?_⟩
  have hj' : j < l.length := by simpa using hj
  rw [List.getElem_set]
  simp only [Array.getElem?_setIfInBounds, Array.size_setIfInBounds]
  have h4 := h3 j hj'
  by_cases e1 : i = j
  · subst e1
    rw [if_neg (by omega), if_pos rfl, if_pos (by omega), if_pos (by omega), if_pos rfl, if_pos (by omega)]
    exact ⟨rfl, rfl⟩
  · rw [if_neg (by omega), if_neg (by omega), if_neg (by omega), if_neg (by omega), if_neg (by omega)]
    exact h4
theorem Bp.ps {e : TypeId} {w : World} {g : Nat} {l : List (Nat × Nat)} (h : Bp e w g l) : Ps w (some ⟨g, 0, none⟩) l := fun _ => ⟨_, rfl, h.lt, fun i hi => by
  rw [add_none, Nat.zero_add]; exact ⟨h.cell1 i hi, h.cell2 i hi⟩⟩
theorem Bp.pr {e : TypeId} {w : World} {g : Nat} {l : List (Nat × Nat)} {n : Nat} (h : Bp e w g l) (hn : n = l.length) (hm : n ≤ maxLen) : Pq w (.slice (some ⟨g, 0, none⟩) n n) l :=
  ⟨some ⟨g, 0, none⟩, n, by rw [hn], by omega, hm, (fun h => by cases h), h.ps⟩
theorem Bp.made (e : TypeId) (w : World) (n : Nat) : Bp e (w.alloc (.cells (madeCells #[.int .u64 0, .int .u64 0] (n * 2)) e)) w.heap.size (List.replicate n (0, 0)) := by
  refine ⟨_, heap_alloc_new w _, by simp [size_madeCells], fun i hi => ?_⟩
  have hi' : i < n := by simpa using hi
  have a1 : i * 2 < n * 2 := by omega
  have a2 : i * 2 + 1 < n * 2 := by omega
  have m1 : i * 2 % 2 = 0 := by omega
  have m2 : (i * 2 + 1) % 2 = 1 := by omega
  simp [madeCells, a1, a2, m1, m2]
theorem run_mkp {P : Program} (t e : TypeId) (i : TypeInfo) (ht : P.underlying t = some (.slice e)) (hi : P.info? e = some i) (hz : i.zero = some (.agg #[.int .u64 0, .int .u64 0])) (hs : i.size = 2) (hb : i.bytes ≤ 16) (n : Nat) (hn : n < 1099511627776) (w : World) :
    (Instr.makeSlice t (.int .i64 (n : Int)) (.int .i64 (n : Int))).run P w = .ok (.slice (some ⟨w.heap.size, 0, none⟩) n n) (w.alloc (.cells (madeCells #[.int .u64 0, .int .u64 0] (n * 2)) e)) := by
  have hb' : (i.bytes : Int) * (n : Int) ≤ 281474976710656 := by
    have h : i.bytes * n ≤ 16 * n := Nat.mul_le_mul_right _ hb
    have h' : ((i.bytes * n : Nat) : Int) ≤ 281474976710656 := by omega
    rwa [Int.natCast_mul] at h'
  have hr := run_make (P := P) w t e i _ ht hi hz .i64 .i64 n n (by omega) (by omega) hb' (by omega)
  simp only [Int.toNat_natCast] at hr
  rw [hr, hs]
  rfl

/-- A row of pairs, and an error's number. -/
def PrEr (W : World) (l : List (Nat × Nat)) (err : Int) (e : Ending) (w : World) : Prop := ∃ v, e = .returned (.tuple #[v, .int .i64 err]) ∧ Pq w v l ∧ Bl W w

set_option maxRecDepth 100000 in
theorem rlong_no (v1 v2 : Value) (l m : List Nat) (hl : l.length ≤ 10000) (hm : m.length ≤ 10000) (w : World) (hr1 : Rw .u64 w v1 l) (hr2 : Rw .u64 w v2 m) :
    Calls Tryd.prog 39 #[v1, v2] w fun e w' => e = .returned (.bool false) ∧ Bl w w' := by
  obtain ⟨A1, c1, rfl, _, _, _, _⟩ := hr1
  obtain ⟨A2, c2, rfl, _, _, _, _⟩ := hr2
  obtain ⟨n, hn⟩ : ∃ n, l.length = n := ⟨_, rfl⟩
  obtain ⟨k, hk⟩ : ∃ k, m.length = k := ⟨_, rfl⟩
  rw [hn, hk]
  rw [hn] at hl
  rw [hk] at hm
  clear hn hk
  have b1 : (n : Int) ≤ 10000 := by omega
  have b2 : (k : Int) ≤ 10000 := by omega
  have d : decide (1048576 < (n : Int) + (k : Int) - 1) = false := decide_eq_false (by omega)
  clear hl hm
  by_cases h1 : 0 < n
  · have e1 : decide (0 < n) = true := decide_eq_true h1
    by_cases h2 : 0 < k
    · have e2 : decide (0 < k) = true := decide_eq_true h2
      go_enter Tryd.func39, Tryd.ntmps39
      go_wp2
      go_ret
      exact ⟨rfl, Bl.refl w⟩
    · have h0 : k = 0 := by omega
      subst h0
      go_enter Tryd.func39, Tryd.ntmps39
      go_wp2
      go_ret
      exact ⟨rfl, Bl.refl w⟩
  · have h0 : n = 0 := by omega
    subst h0
    go_enter Tryd.func39, Tryd.ntmps39
    go_wp2
    go_ret
    exact ⟨rfl, Bl.refl w⟩
end Go.Proofs.YtiainhbkoehhjaaDoor
