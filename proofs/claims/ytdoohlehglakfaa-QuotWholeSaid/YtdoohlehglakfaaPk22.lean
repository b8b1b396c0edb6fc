/-
  word.Len (the document's answer for it: WordRl). · Package prod: School, over numbers.
-/
import Derived.Test.YtdoohlehglakfaaPk18
import Derived.Test.YtdoohlehglakfaaPk3
import Derived.Test.YtdoohlehglakfaaPk16
import Derived.Deep.RegionWith
namespace Go.Proofs.Ytdoohlehglakfaa
open Go.RowKit
set_option linter.unusedVariables false

theorem len_any (x : Nat) (hx : x < 18446744073709551616) (w : World) :
    Calls Try.prog 28 #[.int .u64 (x : Int)] w fun e w' => e = .returned (.int .i64 ((Lib.bitLen x : Nat) : Int)) ∧ w = w' := by
  go_enter Try.func28, Try.ntmps28
  go_wp2_with (go_at_call 35; refine (len64_any _ hx _).mono ?_; rintro e w' ⟨rfl, rfl⟩)
  go_ret
  exact ⟨rfl, rfl⟩

end Go.Proofs.Ytdoohlehglakfaa
namespace Go.Proofs.Ytdoohlehglakfaa
open Go.RowKit
set_option linter.unusedVariables false
set_option linter.unusedSimpArgs false

/-- The row of a product between two rounds: a's number times b's i lowest words. -/
structure ScSt (B X : Nat) (m : List Nat) (n i : Nat) (out : List Nat) : Prop where
  all : All B out
  len : out.length = n + m.length
  num : val B out = X * val B (m.take i)
  far : ∀ j, n + i ≤ j → j < n + m.length → out[j]? = some 0
theorem sc_start (B X : Nat) (hB : 0 < B) (m : List Nat) (n L : Nat) (h : L = n + m.length) : ScSt B X m n 0 (List.replicate L 0) := by
  refine ⟨fun i hi => by simpa using hB, by simp [h], ?_, fun j _ hj => by simp [h, hj]⟩
  have : ∀ k, val B (List.replicate k 0) = 0 := by
    intro k
    induction k with
    | zero => rfl
    | succ k ih => show 0 + B * val B (List.replicate k 0) = 0; rw [ih]; simp
  rw [this]
  simp [val]
theorem sc_step {B X : Nat} {l m : List Nat} {n i c : Nat} {row out : List Nat} (h : ScSt B X m n i row) (hX : val B l = X) (hn : l.length = n) (hi : i < m.length) (ha : AtSt B row l m[i] i l.length c out) :
    ScSt B X m n (i + 1) (out.set (i + n) c) := by
  have hlen : out.length = n + m.length := ha.len.trans h.len
  refine ⟨all_set ha.all _ _ ha.lt, by rw [List.length_set, hlen], ?_, fun j h1 h2 => ?_⟩
  · have hin : i + n < out.length := by omega
    have h1 := val_set B out (i + n) c hin
    have h2 := ha.num
    have h3 := ha.far (i + l.length) (Nat.le_refl _)
    rw [hn, h.far (i + n) (by omega) (by omega), List.getElem?_eq_getElem hin] at h3
    have h4 : out[i + n] = 0 := Option.some.inj h3
    rw [h4, Nat.mul_zero, Nat.add_zero] at h1
    rw [List.take_length, hX, hn] at h2
    rw [h1, h2, h.num, val_take_succ B m i hi, Nat.mul_add, ← Nat.mul_assoc (B ^ i), Nat.mul_comm (B ^ i) X, Nat.mul_assoc]
  · rw [List.getElem?_set_ne (by omega), ha.far j (by omega)]
    exact h.far j (by omega) h2
theorem sc_end {B X : Nat} {m : List Nat} {n i : Nat} {out : List Nat} (h : ScSt B X m n i out) (hi : m.length ≤ i) : val B out = X * val B m := by
  rw [h.num, List.take_of_length_le hi]

end Go.Proofs.Ytdoohlehglakfaa
