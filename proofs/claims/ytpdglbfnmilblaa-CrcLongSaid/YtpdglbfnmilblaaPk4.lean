/-
  The document's number, bytes, small, ordered, rowBytes of layer 14.
-/
import Derived.Test.YtpdglbfnmilblaaPk3
import Derived.Laws.IdiomStrings
namespace Go.Proofs.Ytpdglbfnmilblaa
open Go.RowKit
set_option linter.unusedVariables false
set_option linter.unusedSimpArgs false

theorem bnum_take (l : List Nat) (i : Nat) (h : i < l.length) : bnum (l.take (i + 1)) = 256 * bnum (l.take i) + l[i] := by rw [List.take_succ_eq_append_getElem h, bnum_snoc]
theorem bnum_lt8 {l : List Nat} (h : All 256 l) (hl : l.length ≤ 8) : bnum l < 18446744073709551616 := by
  have h1 := bnum_lt h
  have h2 : 256 ^ l.length ≤ 256 ^ 8 := Nat.pow_le_pow_right (by decide) hl
  rw [w8] at h2
  omega

theorem okr_no {l : List Nat} (h : 4096 < l.length) : decide (Okr l) = false := decide_eq_false fun h' => by have := h'.1; omega
theorem okr_nil : decide (Okr []) = true := by decide
theorem okr_last {l : List Nat} {m : Nat} (hl : l.length = m + 1) (hm : m + 1 ≤ 4096) : decide (Okr l) = !(decide (l[m]'(by omega) = 0)) := by
  have hne : l ≠ [] := by intro e; rw [e] at hl; cases hl
  have e : l.getLast hne = l[m]'(by omega) := by rw [List.getLast_eq_getElem]; simp only [hl, Nat.add_sub_cancel]
  by_cases h : l[m]'(by omega) = 0
  · rw [decide_eq_false (p := Okr l) (fun h' => h'.2 hne (e.trans h)), decide_eq_true h]; rfl
  · rw [decide_eq_true (show Okr l from ⟨by omega, fun _ => by rw [e]; exact h⟩), decide_eq_false h]; rfl
theorem be_cons : ∀ n v, be (n + 1) v = (v / 256 ^ n % 256) :: be n v
  | 0, v => by rw [Nat.pow_zero, Nat.div_one]; rfl
  | n + 1, v => by
    have h : be (n + 1 + 1) v = be (n + 1) (v / 256) ++ [v % 256] := rfl
    rw [h, be_cons n, Nat.div_div_eq_div_mul, show 256 * 256 ^ n = 256 ^ (n + 1) by rw [Nat.pow_succ, Nat.mul_comm]]
    rfl
theorem bs_one {x : Nat} (h : x < 256) {P : Program} (w : World) (src dst e : TypeId) (b : Nat) (hb : b = w.heap.size) (hs : P.underlying src = some (.slice e)) (he : P.underlying e = some (.int .u8)) (hd : P.underlying dst = some .string) :
    (convert src dst (.slice (some ⟨b, 0, none⟩) 1 1)).run P (w.alloc (.cells #[.int .u8 (x : Int)] e)) = .ok (.string (bs [x])) (w.alloc (.cells #[.int .u8 (x : Int)] e)) := by
  subst hb
  have hx : (UInt8.ofNat x).toNat = x := by rw [UInt8.toNat_ofNat']; omega
  have h := run_convert_bytes_back (P := P) (w.alloc (.cells #[.int .u8 (x : Int)] e)) src dst e ⟨w.heap.size, 0, none⟩ 1 [UInt8.ofNat x] hs he hd (fun j hj => by
    have : j = 0 := by simpa using hj
    subst this
    rw [add_none]
    simp only [World.cell?, World.alloc, Array.getElem?_push_size]
    simp [hx])
  exact h
end Go.Proofs.Ytpdglbfnmilblaa
