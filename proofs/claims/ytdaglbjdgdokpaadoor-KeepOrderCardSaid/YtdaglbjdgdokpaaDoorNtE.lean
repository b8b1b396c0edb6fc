/-
  The document's rows of digits (layer 4): digit, Same, Bits.
-/
import Derived.Test.YtdaglbjdgdokpaaDoorNtD
import Derived.Test.YtdaglbjdgdokpaaDoorWordRl
namespace Go.Proofs.YtdaglbjdgdokpaaDoor
open Go.RowKit
set_option linter.unusedVariables false

theorem ret_b {a b : Bool} (h : a = b) : Ending.returned (.bool a) = .returned (.bool b) := by rw [h]

theorem take_eq_step {l m : List Nat} {i : Nat} (h : l.take i = m.take i) (hl : i < l.length) (hm : i < m.length) (e : l[i] = m[i]) : l.take (i + 1) = m.take (i + 1) := by
  rw [List.take_succ_eq_append_getElem hl, List.take_succ_eq_append_getElem hm, h, e]
theorem take_ne {l m : List Nat} {i : Nat} (hl : i < l.length) (hm : i < m.length) (e : l[i] ≠ m[i]) : l ≠ m := by
  intro h; subst h; exact e rfl

set_option maxRecDepth 100000 in
set_option maxHeartbeats 2000000 in
theorem rsame_any (v1 v2 : Value) (l m : List Nat) (hl : l.length < 1099511627776) (hm : m.length < 1099511627776) (w : World) (hr1 : Rw .u64 w v1 l) (hr2 : Rw .u64 w v2 m) :
    Calls Tryd.prog 20 #[v1, v2] w fun e w' => e = .returned (.bool (decide (l = m))) ∧ Bl w w' := by
  obtain ⟨A1, c1, rfl, _, _, _, hx1⟩ := hr1
  obtain ⟨A2, c2, rfl, _, _, _, hx2⟩ := hr2
  have H1 := Lib.hid hx1
  have H2 := Lib.hid hx2
  have hnb : (l.length : Int) ≤ 1099511627776 := by omega
  clear hx1 hx2 hl hm
  by_cases h : l.length = m.length
  · obtain ⟨n, hn⟩ : ∃ n, l.length = n := ⟨_, rfl⟩
    obtain ⟨b, hb⟩ : ∃ b, decide (l = m) = b := ⟨_, rfl⟩
    have HL := Lib.hid hn
    have HM := Lib.hid (h.symm.trans hn)
    have HB := Lib.hid hb
    rw [hb]
    rw [← h, hn]
    rw [hn] at hnb
    have r1 : ((n : Int) != (n : Int)) = false := by rw [bne_eq_false_iff_eq]
    clear hn h hb
    go_enter Tryd.func20, Tryd.ntmps20
    go_wp2
    go_loopw [5] (fun s wr => ∃ i : Nat, i ≤ n ∧ s = .int .i64 (i : Int) ∧ Hid (l.take i = m.take i) ∧ Hid (Bl w wr)) (fun s _ => n - (intOf s).toNat)
    case atStart => exact ⟨0, Nat.zero_le _, rfl, by show l.take 0 = m.take 0; simp, Bl.refl w⟩
    case round =>
      obtain ⟨i, hin, rfl, ht, hb⟩ := hrel
      by_cases hlt : i < n
      · obtain ⟨a1, hA1, hc1⟩ := (H1.out.bl hb.out).at_ (i := i) (by rw [HL.out]; exact hlt)
        obtain ⟨a2, hA2, hc2⟩ := (H2.out.bl hb.out).at_ (i := i) (by rw [HM.out]; exact hlt)
        have s1 := Lib.hid (take_eq_step ht.out (by rw [HL.out]; exact hlt) (by rw [HM.out]; exact hlt))
        have s2 := Lib.hid (take_ne (l := l) (m := m) (i := i) (by rw [HL.out]; exact hlt) (by rw [HM.out]; exact hlt))
        obtain ⟨d1, e1⟩ : ∃ d, l[i]'(by rw [HL.out]; exact hlt) = d := ⟨_, rfl⟩
        obtain ⟨d2, e2⟩ : ∃ d, m[i]'(by rw [HM.out]; exact hlt) = d := ⟨_, rfl⟩
        rw [e1] at s1 s2 hc1
        rw [e2] at s1 s2 hc2
        have b2 : (0 : Int) ≤ (i : Int) ∧ (i : Int) < (n : Int) := by omega
        subst hA1
        subst hA2
        clear e1 e2
        by_cases hd : d1 = d2
        · have HS := Lib.hid (s1.out hd)
          have t1 : ((d1 : Int) != (d2 : Int)) = false := by rw [bne_eq_false_iff_eq]; omega
          clear hd
          go_wp2
          go_quiet (fail)
          go_wp2
          go_roundw
          case rel => exact ⟨i + 1, by omega, by go_num, HS.out, hb.out.drewN _⟩
          case measure => simp [intOf] <;> omega
        · have HF : Hid (b = false) := by rw [← HB.out]; exact decide_eq_false (s2.out hd)
          have t1 : ((d1 : Int) != (d2 : Int)) = true := by rw [bne_iff_ne]; omega
          clear hd
          go_wp2
          go_quiet (fail)
          go_wp2
          go_ret
          exact ⟨ret_b HF.out.symm, hb.out.drewN _⟩
      · have hin' : i = n := by omega
        have HT : Hid (b = true) := by
          rw [← HB.out]
          refine decide_eq_true ?_
          have e := ht.out
          rw [hin', ← HL.out, List.take_length, HL.out, ← HM.out, List.take_length] at e
          exact e
        clear hin'
        go_wp2
        go_ret
        exact ⟨ret_b HT.out.symm, hb.out⟩
  · have HF : Hid (decide (l = m) = false) := decide_eq_false (fun e => h (by rw [e]))
    have r1 : ((l.length : Int) != (m.length : Int)) = true := by rw [bne_iff_ne]; omega
    clear h
    go_enter Tryd.func20, Tryd.ntmps20
    go_wp2
    go_ret
    exact ⟨ret_b HF.out.symm, Bl.refl w⟩

/-! ### How many bits -/
theorem bits_len (x : Nat) (hx : 0 < x) : 16 * ((dig 65536 x).length - 1) + Lib.bitLen (x / 65536 ^ ((dig 65536 x).length - 1)) = Nat.log2 x + 1 ∧ x / 65536 ^ ((dig 65536 x).length - 1) < 65536 := by
  obtain ⟨m, hm⟩ : ∃ m, (dig 65536 x).length - 1 = m := ⟨_, rfl⟩
  have hge := dig_ge 65536 (by decide) x hx
  have hlt := dig_lt 65536 (by decide) x
  have hl := dig_len_pos 65536 (by decide) x hx
  rw [show (dig 65536 x).length = m + 1 from by omega] at hlt
  rw [hm] at hge ⊢
  have hp : 0 < 65536 ^ m := Nat.pow_pos (by decide)
  have hy1 : x / 65536 ^ m < 65536 := by rw [Nat.div_lt_iff_lt_mul hp, Nat.mul_comm, ← Nat.pow_succ]; exact hlt
  have hy0 : 0 < x / 65536 ^ m := Nat.div_pos hge hp
  refine ⟨?_, hy1⟩
  obtain ⟨b1, b2, b3⟩ := Lib.bitLenAux_bounds 64 (x / 65536 ^ m) (by omega) (by omega)
  obtain ⟨b, hb⟩ : ∃ b, Lib.bitLen (x / 65536 ^ m) = b := ⟨_, rfl⟩
  have hb' : Lib.bitLenAux 64 (x / 65536 ^ m) = b := hb
  rw [hb'] at b1 b2 b3
  rw [hb]
  rw [two_pow16] at b2 b3
  have h1 : 2 ^ (16 * m + (b - 1)) ≤ x := by
    rw [Nat.pow_add, Nat.mul_comm]
    exact (Nat.le_div_iff_mul_le (Nat.two_pow_pos _)).1 b2
  have h2 : x < 2 ^ (16 * m + (b - 1) + 1) := by
    rw [show 16 * m + (b - 1) + 1 = b + 16 * m from by omega, Nat.pow_add]
    exact (Nat.div_lt_iff_lt_mul (Nat.two_pow_pos _)).1 b3
  have h3 : Nat.log2 x = 16 * m + (b - 1) := by
    have e1 : 16 * m + (b - 1) ≤ Nat.log2 x := (Nat.le_log2 (by omega)).2 h1
    have e2 : Nat.log2 x < 16 * m + (b - 1) + 1 := (Nat.log2_lt (by omega)).2 h2
    omega
  rw [h3]
  omega
/-- How many bits a number has. -/
def blen (x : Nat) : Nat := if x = 0 then 0 else Nat.log2 x + 1

end Go.Proofs.YtdaglbjdgdokpaaDoor
