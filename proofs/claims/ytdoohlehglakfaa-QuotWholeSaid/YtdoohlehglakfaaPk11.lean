/-
  Package nat: place, the carriers raise and times, cmp.Compare, the makers of words and chain. · Package nat: the closure that keeps the carry. · Package nat: the words of a row with their places, and a row backward, as iterators: their contracts.
-/
import Derived.Test.YtdoohlehglakfaaPk10
import Derived.Test.YtdoohlehglakfaaWordN
import Derived.RangeFuncNested
import Derived.RangeFuncBound
import Derived.RangeFuncCalls
import Derived.RangeFuncLeaves
import Derived.RangeFuncBox
import Derived.Shelf.Abstract
import Derived.Shelf.RegionOpen
import Derived.WalkKit
import Derived.OwnWalkIn
import Derived.TacticsInMore
import Derived.LoopNIn
import Derived.LoopIn
namespace Go.Proofs.Ytdoohlehglakfaa
open Go.RowKit
set_option linter.unusedVariables false

/-! ### The carriers -/
def raF (a b c : Nat) : Nat := a * 2 ^ b % 18446744073709551616 ||| c
def raG (a b c : Nat) : Nat := a / 2 ^ (64 - b)
theorem raF_lt (a b c : Nat) (hc : c < 18446744073709551616) : raF a b c < 18446744073709551616 := by
  have e : (18446744073709551616 : Nat) = 2 ^ 64 := by decide
  unfold raF
  rw [e]
  exact Nat.or_lt_two_pow (Nat.mod_lt _ (Nat.two_pow_pos 64)) (by rw [← e]; exact hc)
theorem raG_lt (a b c : Nat) (ha : a < 18446744073709551616) : raG a b c < 18446744073709551616 := Nat.lt_of_le_of_lt (Nat.div_le_self _ _) ha
theorem raise_word (a b c : Nat) (hc : c < 18446744073709551616) : bits .or .u64 (IntKind.u64.wrap ((a : Int) * 2 ^ b)) (c : Int) = ((raF a b c : Nat) : Int) := by
  rw [pow_cast, ← Int.natCast_mul, wrapM]
  exact bits_or_u64_nat _ _ (Nat.mod_lt _ (by decide)) hc
theorem raise_more (a b c : Nat) : (a : Int) / 2 ^ (64 - b) = ((raG a b c : Nat) : Int) := by
  rw [pow_cast, ← Int.natCast_ediv]
  rfl
def tiF (a b c : Nat) : Nat := (a * b + c) % 18446744073709551616
def tiG (a b c : Nat) : Nat := (a * b + c) / 18446744073709551616
theorem tiF_lt (a b c : Nat) : tiF a b c < 18446744073709551616 := Nat.mod_lt _ (by decide)
theorem tiG_lt (a b c : Nat) (ha : a < 18446744073709551616) (hb : b < 18446744073709551616) (hc : c < 18446744073709551616) : tiG a b c < 18446744073709551616 := by
  unfold tiG
  rw [Nat.div_lt_iff_lt_mul (by decide)]
  have h1 : a * b ≤ 18446744073709551615 * 18446744073709551615 := Nat.mul_le_mul (by omega) (by omega)
  omega
/-! ### Compare -/
/-! ### The makers -/
theorem pbackward_any (A : Option Addr) (L c : Nat) (w : World) :
    Calls Try.prog 22 #[.slice A L c] w fun e w' => e = .returned (.func (.func 27) #[] #[.pointer (some ⟨w.heap.size, 0, none⟩)]) ∧
      w' = w.alloc (.cells #[.slice A L c] 22) := by
  go_enter Try.func22, Try.ntmps22
  go_wp2
  go_ret
  exact ⟨rfl, rfl⟩
end Go.Proofs.Ytdoohlehglakfaa
namespace Go.Proofs.Ytdoohlehglakfaa
open Go.RowKit
set_option linter.unusedVariables false

end Go.Proofs.Ytdoohlehglakfaa
namespace Go.Proofs.Ytdoohlehglakfaa
open Go.RowKit Go.Shelf
set_option linter.unusedVariables false
attribute [local go_sem] Oper.semAt_some

/-- The blocks in K lie as they lay. -/
def KpB (K : Nat → Prop) (W W' : World) : Prop := ∀ j, K j → W'.heap[j]? = W.heap[j]?
theorem KpB.refl (K : Nat → Prop) (W : World) : KpB K W W := fun _ _ => rfl
theorem KpB.trans {K : Nat → Prop} {a b c : World} (h : KpB K a b) (k : KpB K b c) : KpB K a c := fun j hj => (k j hj).trans (h j hj)
theorem KpB.cell {K : Nat → Prop} {a b : World} (h : KpB K a b) {p : Addr} (hp : K p.block) : b.cell? p = a.cell? p := by simp [World.cell?, h _ hp]
theorem KpB.put {K : Nat → Prop} {w : World} (hK : ∀ j, K j → j < w.heap.size) (W : World) (l : Nat) (o o' : Obj) (hl : w.heap.size ≤ l) (h : W.heap[l]? = some o) (_ : o.isCells = false) (_ : o.isWalk = false) : KpB K W (W.putObj l o') := fun j hj => by
  have := hK j hj
  exact (grownBy_putObj' W l o').block j (by have := (Array.getElem?_eq_some_iff.1 h).1; omega) (fun e => by cases e; omega)

/-- A place below n. -/
abbrev Pl (n : Nat) := { i : Nat // i < n }
theorem range_snoc {n : Nat} (pre : List (Pl n)) (k : Nat) (hk : k < n) (h : pre.map (·.1) = List.range k) : (pre ++ [(⟨k, hk⟩ : Pl n)]).map (·.1) = List.range (k + 1) := by
  rw [List.map_append, h, List.range_succ]
  rfl
theorem len_of_map {n : Nat} {pre : List (Pl n)} {l : List Nat} (h : pre.map (·.1) = l) : pre.length = l.length := by rw [← h, List.length_map]
/-- The first k places from the highest. -/
def down (n k : Nat) : List Nat := (List.range k).map fun j => n - 1 - j
theorem down_snoc {n : Nat} (pre : List (Pl n)) (k : Nat) (hk : n - 1 - k < n) (h : pre.map (·.1) = down n k) : (pre ++ [(⟨n - 1 - k, hk⟩ : Pl n)]).map (·.1) = down n (k + 1) := by
  rw [List.map_append, h]
  simp [down, List.range_succ]
theorem down_length (n k : Nat) : (down n k).length = k := by simp [down]

end Go.Proofs.Ytdoohlehglakfaa
