/-
  Strings of bytes as lists of numbers; the document's Sum and number of layer 14.
-/
import Derived.Test.YtpdglbfnmilblaaCrQ
import Derived.Test.YtpdglbfnmilblaaPk2
import Derived.Test.YtpdglbfnmilblaaWordP
import Derived.Test.YtpdglbfnmilblaaReg
import Derived.Laws.BitsAllLaws
namespace Go.Proofs.Ytpdglbfnmilblaa
open Go.RowKit
set_option linter.unusedVariables false
set_option linter.unusedSimpArgs false

/-- The string of bytes. -/
def bs (l : List Nat) : ByteArray := ⟨(l.map UInt8.ofNat).toArray⟩
theorem bs_size (l : List Nat) : (bs l).size = l.length := by show (l.map UInt8.ofNat).toArray.size = _; simp
theorem bs_append (l m : List Nat) : bs l ++ bs m = bs (l ++ m) := by unfold bs; rw [ByteArray.mk_append_mk, List.map_append]
theorem bs_extract (l : List Nat) (i j : Nat) : (bs l).extract i j = bs (seg l i j) := by
  unfold bs seg
  rw [ByteArray.extract_mk, List.map_drop, List.map_take, List.drop_take]
theorem mk_get (u : List UInt8) (i : Nat) (h : i < u.length) : (ByteArray.mk ⟨u⟩)[i]'h = u[i] := rfl
theorem bs_get {l : List Nat} (ha : All 256 l) (i : Nat) (h : i < l.length) (h' : i < (bs l).size) : ((bs l)[i]'h').toNat = l[i] := by
  have e : (bs l)[i]'h' = UInt8.ofNat l[i] := (mk_get (l.map UInt8.ofNat) i (by rw [List.length_map]; exact h)).trans (List.getElem_map _)
  rw [e]
  have := ha i h
  rw [UInt8.toNat_ofNat']
  omega
theorem bs_list (l : List Nat) : (bs l).toList = l.map UInt8.ofNat := by unfold bs; rw [ByteArray.toList_mk]
theorem bs_inj {l m : List Nat} (hl : All 256 l) (hm : All 256 m) (h : bs l = bs m) : l = m := by
  have e : l.length = m.length := by rw [← bs_size, ← bs_size, h]
  refine List.ext_getElem e fun i h1 h2 => ?_
  have a1 := bs_get hl i h1 (by rw [bs_size]; exact h1)
  have a2 := bs_get hm i h2 (by rw [bs_size]; exact h2)
  rw [← a1, ← a2]
  simp only [h]
/-- Any string is one of bytes. -/
theorem bs_of (s : ByteArray) : ∃ l, All 256 l ∧ s = bs l := by
  obtain ⟨⟨s⟩⟩ := s
  refine ⟨s.map UInt8.toNat, fun i h => ?_, ?_⟩
  · rw [List.getElem_map]
    exact UInt8.toNat_lt _
  · unfold bs
    rw [List.map_map]
    have : (UInt8.ofNat ∘ UInt8.toNat) = id := by funext x; simp
    rw [this, List.map_id]
/-- Comparison. -/
theorem bs_beq {l m : List Nat} (hl : All 256 l) (hm : All 256 m) : ((bs l).toList == (bs m).toList) = decide (l = m) := by
  rw [bs_list, bs_list]
  by_cases h : l = m
  · subst h; simp
  · rw [decide_eq_false h, beq_eq_false_iff_ne]
    intro e
    exact h (bs_inj hl hm (by unfold bs; rw [e]))

theorem crBit_alt (v b : Nat) (hv : v < 4294967296) (hb : b < 2) : (if ((v % 2 : Nat) : Int) != (b : Int) then v / 2 ^^^ 3988292384 else v / 2) = crBit v b := by
  unfold crBit
  by_cases h : v % 2 = b
  · rw [if_pos h, if_neg (by simp; omega)]
  · rw [if_neg h, if_pos (by simp; omega)]
end Go.Proofs.Ytpdglbfnmilblaa
