/-
  The document's rows of digits (layer 4): Digits.
-/
import Derived.Test.YtdoohlehglakfaaNtA
import Derived.Test.YtdoohlehglakfaaWordP
namespace Go.Proofs.Ytdoohlehglakfaa
open Go.RowKit
set_option linter.unusedVariables false

def W64 : Nat := 18446744073709551616
theorem W64_eq : W64 = 65536 ^ 4 := by decide
/-- Behind i words. -/
structure Dgt (l : List Nat) (i : Nat) (out : List Nat) : Prop where
  len : out.length = 4 * i
  all : All 65536 out
  num : val 65536 out = val W64 (l.take i)
/-- Behind i words, and k digits of the next one, of which y is left. -/
structure Dgi (l : List Nat) (i k : Nat) (out : List Nat) (y : Nat) : Prop where
  len : out.length = 4 * i + k
  all : All 65536 out
  num : val 65536 out + 65536 ^ (4 * i + k) * y = val W64 (l.take (i + 1))
  lt : y < 65536 ^ (4 - k)
theorem dgt_start (l : List Nat) : Dgt l 0 [] := ⟨rfl, all_nil _, by simp [val]⟩
theorem dgi_start {l : List Nat} {i : Nat} {out : List Nat} (h : Dgt l i out) (hi : i < l.length) (hw : l[i] < W64) : Dgi l i 0 out l[i] := by
  refine ⟨h.len, h.all, ?_, by rw [W64_eq] at hw; exact hw⟩
  rw [val_take_succ W64 l i hi, h.num, Nat.add_zero, Nat.pow_mul, ← W64_eq]
theorem dgi_step {l : List Nat} {i k : Nat} {out : List Nat} {y : Nat} (h : Dgi l i k out y) (hk : k < 4) : Dgi l i (k + 1) (out ++ [y % 65536]) (y / 65536) := by
  refine ⟨by rw [List.length_append, h.len]; rfl, all_snoc h.all (Nat.mod_lt _ (by decide)), ?_, ?_⟩
  · rw [← h.num, val_append, val_one, h.len, ← Nat.add_assoc, Nat.pow_succ, Nat.mul_assoc, Nat.add_assoc, ← Nat.mul_add, Nat.mod_add_div]
  · have e : 65536 ^ (4 - k) = 65536 ^ (4 - (k + 1)) * 65536 := by rw [← Nat.pow_succ]; congr 1; omega
    rw [Nat.div_lt_iff_lt_mul (by decide), ← e]
    exact h.lt
theorem dgi_end {l : List Nat} {i : Nat} {out : List Nat} {y : Nat} (h : Dgi l i 4 out y) : Dgt l (i + 1) out := by
  have hy : y = 0 := by have := h.lt; simp at this; exact this
  have hn := h.num
  rw [hy, Nat.mul_zero, Nat.add_zero] at hn
  exact ⟨by rw [h.len]; omega, h.all, hn⟩

set_option maxRecDepth 100000 in
set_option maxHeartbeats 2000000 in
theorem rdigits_any (v : Value) (l : List Nat) (ha : All W64 l) (hl : l.length < 137438953472) (w : World) (hr : Rw .u64 w v l) :
    Calls Try.prog 7 #[v] w (RwEnd .i64 w (dig 65536 (val W64 l))) := by
  obtain ⟨i0, hi, hz0, hz1, hz2⟩ := info_parts Try.infoInt
  obtain ⟨A, c, rfl, hc, hm, h0, hx⟩ := hr
  have hlc : (l.length : Int) ≤ 137438953472 := by omega
  have HA := Lib.hid ha
  have HX := Lib.hid hx
  have HL := Lib.hid hl
  clear ha hx h0 hm hc hl
  go_enter Try.func7, Try.ntmps7
  go_wp2
  go_loopw [3, 4] (fun s t wr => ∃ (i : Nat) (out : List Nat), i ≤ l.length ∧ t = .int .i64 (i : Int) ∧ Hid (Ow .i64 3 w.heap.size wr s out) ∧ Hid (Dgt l i out) ∧ Hid (Bl w wr)) (fun _ t _ => l.length - (intOf t).toNat)
  case atStart => exact ⟨0, [], Nat.zero_le _, rfl, Ow.nil _ _ _ _, dgt_start l, Bl.refl w⟩
  case round =>
    obtain ⟨i, out, hil, rfl, hown, hd, hb⟩ := hrel
    by_cases hlt : i < l.length
    · obtain ⟨ad, hA, hcell⟩ := (HX.out.bl hb.out).at_ hlt
      have hx0 := dgi_start hd.out hlt (HA.out i hlt)
      obtain ⟨x, hxe⟩ : ∃ x, l[i] = x := ⟨_, rfl⟩
      rw [hxe] at hcell hx0
      have HD := Lib.hid hx0
      subst hA
      clear hxe hx0 hd
      go_wp2
      go_loopw [3, 5, 6] (fun s y t wr => ∃ (k n : Nat) (out : List Nat), k ≤ 4 ∧ t = .int .i64 (k : Int) ∧ y = .int .u64 (n : Int) ∧ Hid (Ow .i64 3 w.heap.size wr s out) ∧ Hid (Dgi l i k out n) ∧ Hid (Bl w wr)) (fun _ _ t _ => 4 - (intOf t).toNat)
      case atStart => exact ⟨0, x, out, by omega, rfl, rfl, hown, HD, hb⟩
      case round =>
        clear hcell hown hb HD
        obtain ⟨k, n, out', hk, rfl, rfl, hown, hd, hb⟩ := hrel
        by_cases hlt4 : k < 4
        · have HS := Lib.hid (dgi_step hd.out hlt4)
          have hlen : out'.length < 1099511627776 := by have := hd.out.len; have := HL.out; omega
          have hy64 : n < 18446744073709551616 := by
            have := hd.out.lt
            have h2 : 65536 ^ (4 - k) ≤ 65536 ^ 4 := Nat.pow_le_pow_right (by decide) (by omega)
            rw [← W64_eq] at h2
            unfold W64 at h2
            omega
          obtain ⟨d, hd1⟩ : ∃ d, n % 65536 = d := ⟨_, rfl⟩
          obtain ⟨q, hq1⟩ : ∃ q, n / 65536 = q := ⟨_, rfl⟩
          have r1 : (n : Int) % 65536 = (d : Int) := by omega
          have r2 : (n : Int) / 65536 = (q : Int) := by omega
          have r3 : IntKind.i64.wrap (d : Int) = (d : Int) := IntWalk.i64_in _ (by omega)
          have r4 := w64 q (by omega)
          rw [hd1, hq1] at HS
          clear hd hd1 hq1 hy64
          go_wp2_with (at_builtin; refine app_one w wr .i64 28 3 i0 (.int .i64 0) 8 Try.underlying28 hi hz0 hz1 hz2 rfl (by decide) rfl _ _ rfl u3 out' d rfl rfl hown.out hb.out hlen ?_; intro v' w' hown' hbl')
          go_roundw
          case rel => exact ⟨k + 1, q, _, by omega, by go_num, rfl, hown', HS, hbl'⟩
          case measure => simp [intOf]; omega
        · have hk4 : k = 4 := by omega
          subst hk4
          have HE := Lib.hid (dgi_end hd.out)
          clear hd
          go_wp2
          go_roundw
          case rel => exact ⟨i + 1, _, by omega, by go_num, hown, HE, hb⟩
          case measure => simp [intOf]; omega
    · have hil2 : i = l.length := by omega
      have hd' := hd.out
      have hlen : out.length < 1099511627776 := by have := hd'.len; have := HL.out; omega
      have T := Lib.hid (fun W h => rtrim_any u3 out hd'.all hlen W h)
      have en := hd'.num
      rw [hil2, List.take_length] at en
      rw [en] at T
      have hown' := hown.out.rw
      subst hil2
      clear hd hd' hlen en
      have HR := Lib.hid hown'
      clear hown'
      go_wp2_with (go_at_call 16; (with_reducible refine (T.out _ HR.out).mono ?_); rintro e w' ⟨v', rfl, hr, hb'⟩; have HR' := Lib.hid hr; have HB' := Lib.hid hb'; clear hr hb')
      go_ret
      exact RwEnd.mk HR'.out (hb.out.trans HB'.out)
end Go.Proofs.Ytdoohlehglakfaa
