/-
  The document's rows of digits (layer 4): Trim. · The document's rows of digits (layer 4): Cmp, digit, Same, Bits. · What package word answers, as plain functions of natural numbers; the numbers' spellings in a walk; the world of what only reads. No program in sight. · How many bits a word has at most. No walk. · The document's answer for word.Len. · The document's rows of digits (layer 4): digit, Same, Bits.
-/
import Derived.Test.YtdaglbjdgdokpaaDoorChecked
import Derived.Test.YtdaglbjdgdokpaaDoorPk1
import Derived.Test.YtdaglbjdgdokpaaDoorNtW
import Derived.Test.YtdaglbjdgdokpaaDoorPk4
import Derived.BigQuiet
import Derived.WalkKit
import Derived.Laws.Bits64b
import Derived.IntWalk
import Derived.Lib.Hide
import Derived.RowKit3
import Derived.Deep.QuietTactic
import Derived.Lib.ItoaNum
import Derived.LoopTactic
namespace Go.Proofs.YtdaglbjdgdokpaaDoor
open Go.RowKit
set_option linter.unusedVariables false

theorem Tryd.infoInt : (Tryd.prog.info? 3).map (fun i => (i.zero, i.size, i.bytes)) = some (some (.int .i64 0), 1, 8) := by kernel_rfl

/-- What a call answers that hands back a row. -/
def RwEnd (k : IntKind) (W : World) (l : List Nat) (e : Ending) (w : World) : Prop := ∃ v, e = .returned v ∧ Rw k w v l ∧ Bl W w
theorem RwEnd.mk {k : IntKind} {W w : World} {l : List Nat} {v : Value} (h : Rw k w v l) (g : Bl W w) : RwEnd k W l (.returned v) w := ⟨v, rfl, h, g⟩
theorem RwEnd.of {k : IntKind} {W w : World} {l m : List Nat} {v : Value} (h : Rw k w v m) (g : Bl W w) (e : m = l) : RwEnd k W l (.returned v) w := ⟨v, rfl, e ▸ h, g⟩

/-- .. a row of its own. -/
def RwEndF (k : IntKind) (W : World) (l : List Nat) (e : Ending) (w : World) : Prop := ∃ v, e = .returned v ∧ Rw k w v l ∧ Bl W w ∧ Fs W.heap.size v
theorem RwEndF.of {k : IntKind} {W w : World} {e : TypeId} {l m : List Nat} {v : Value} (h : Ow k e W.heap.size w v m) (g : Bl W w) (e' : m = l) : RwEndF k W l (.returned v) w :=
  ⟨v, rfl, e' ▸ h.rw, g, fun b hb => (World.ownsRow.lt h b hb).1⟩
theorem RwEndF.weak {k : IntKind} {W w : World} {l : List Nat} {e : Ending} (h : RwEndF k W l e w) : RwEnd k W l e w := by
  obtain ⟨v, h1, h2, h3, _⟩ := h
  exact ⟨v, h1, h2, h3⟩

end Go.Proofs.YtdaglbjdgdokpaaDoor
namespace Go.Proofs.YtdaglbjdgdokpaaDoor
open Go.RowKit
set_option linter.unusedVariables false

/-- Which of two is above. -/
def cmpi (x y : Nat) : Int := if x < y then -1 else if y < x then 1 else 0
theorem cmpi_lt {x y : Nat} (h : x < y) : cmpi x y = -1 := by unfold cmpi; rw [if_pos h]
theorem cmpi_gt {x y : Nat} (h : y < x) : cmpi x y = 1 := by unfold cmpi; rw [if_neg (by omega), if_pos h]
theorem cmpi_eq {x y : Nat} (h : x = y) : cmpi x y = 0 := by unfold cmpi; rw [if_neg (by omega), if_neg (by omega)]
theorem len_lt {B x y : Nat} (hB : 2 ≤ B) (h : (dig B x).length < (dig B y).length) : x < y := by
  have hy : 0 < y := by
    rcases Nat.eq_zero_or_pos y with e | e
    · subst e; rw [dig_zero] at h; simp at h
    · exact e
  exact Nat.lt_of_lt_of_le (dig_lt B hB x) (Nat.le_trans (Nat.pow_le_pow_right (by omega) (by omega)) (dig_ge B hB y hy))
/-- From place j on both are the same. -/
def Ab (B x y j : Nat) : Prop := x / B ^ j = y / B ^ j
theorem ab_start {B x y n : Nat} (hB : 2 ≤ B) (hx : (dig B x).length = n) (hy : (dig B y).length = n) : Ab B x y n := by
  unfold Ab
  rw [Nat.div_eq_of_lt (hx ▸ dig_lt B hB x), Nat.div_eq_of_lt (hy ▸ dig_lt B hB y)]
theorem ab_div {B x i : Nat} : x / B ^ i = B * (x / B ^ (i + 1)) + x / B ^ i % B := by
  rw [Nat.pow_succ, ← Nat.div_div_eq_div_mul]
  exact (Nat.div_add_mod _ _).symm
theorem ab_lt {B x y i : Nat} (h : Ab B x y (i + 1)) (hd : x / B ^ i % B < y / B ^ i % B) : x < y := by
  unfold Ab at h
  have e1 := ab_div (B := B) (x := x) (i := i)
  have e2 := ab_div (B := B) (x := y) (i := i)
  rw [h] at e1
  rcases Nat.lt_or_ge x y with h' | h'
  · exact h'
  · have := Nat.div_le_div_right (c := B ^ i) h'
    omega
theorem ab_step {B x y i : Nat} (h : Ab B x y (i + 1)) (hd : x / B ^ i % B = y / B ^ i % B) : Ab B x y i := by
  unfold Ab at h ⊢
  rw [ab_div (B := B) (x := x), ab_div (B := B) (x := y), h, hd]
theorem ab_end {B x y : Nat} (h : Ab B x y 0) : x = y := by
  unfold Ab at h
  simpa using h

theorem ret_i64 {a b : Int} (h : a = b) : Ending.returned (.int .i64 a) = .returned (.int .i64 b) := by rw [h]

end Go.Proofs.YtdaglbjdgdokpaaDoor
namespace Go.Proofs.YtdaglbjdgdokpaaDoor
open Go.RowKit
set_option linter.unusedVariables false

/-- What counts as a carry: 0, or 1 for any other number. -/
def un (c : Nat) : Nat := if c = 0 then 0 else 1
theorem un_le (c : Nat) : un c ≤ 1 := by unfold un; split <;> omega

theorem ret_eq {a b : Value} (h : a = b) : Ending.returned a = .returned b := by rw [h]
theorem u64_eq {a b : Int} (h : a = b) : Value.int .u64 a = .int .u64 b := by rw [h]
theorem pair_eq {a b c d : Int} (h : a = c) (h' : b = d) : Value.tuple #[.int .u64 a, .int .u64 b] = .tuple #[.int .u64 c, .int .u64 d] := by rw [h, h']

theorem int_eq {k : IntKind} {a b : Int} (h : a = b) : Ending.returned (.int k a) = .returned (.int k b) := by rw [h]

def addS (a b c : Nat) : Nat := (a + b + un c) % 18446744073709551616
def addC (a b c : Nat) : Nat := (a + b + un c) / 18446744073709551616
def subD (a b c : Nat) : Nat := (a + 18446744073709551616 - b - un c) % 18446744073709551616
def subB (a b c : Nat) : Nat := if a < b + un c then 1 else 0
def mulH (a b : Nat) : Nat := a * b / 18446744073709551616
def mulL (a b : Nat) : Nat := a * b % 18446744073709551616
def num (hi lo : Nat) : Nat := hi * 18446744073709551616 + lo
def divQ (hi lo d : Nat) : Nat := if d ≤ hi then 0 else num hi lo / d
def divR (hi lo d : Nat) : Nat := if d ≤ hi then 0 else num hi lo % d
def divE (hi d : Nat) : Nat := if d = 0 then 2 else if d ≤ hi then 1 else 0

theorem maskN (a : Nat) (ha : a < 18446744073709551616) : bits .and .u64 (a : Int) 4294967295 = ((a % 4294967296 : Nat) : Int) := by
  have h := bits_and_u64_nat a 4294967295 ha (by omega)
  have e : a &&& 4294967295 = a % 4294967296 := Nat.and_two_pow_sub_one_eq_mod a 32
  rw [e] at h
  exact h
theorem divN (a : Nat) : (a : Int) / 4294967296 = ((a / 4294967296 : Nat) : Int) := by omega
theorem modN (a : Nat) : (a : Int) % 4294967296 = ((a % 4294967296 : Nat) : Int) := by omega
theorem tdivN (a : Nat) : ((a : Int)).tdiv 4294967296 = ((a / 4294967296 : Nat) : Int) := by rw [Int.tdiv_eq_ediv_of_nonneg (by omega)]; omega
theorem tmodN (a : Nat) : ((a : Int)).tmod 4294967296 = ((a % 4294967296 : Nat) : Int) := by rw [Int.tmod_eq_emod_of_nonneg (by omega)]; omega
theorem mulN (a b : Nat) : (a : Int) * (b : Int) = ((a * b : Nat) : Int) := (Int.natCast_mul a b).symm
theorem addN (a b : Nat) : (a : Int) + (b : Int) = ((a + b : Nat) : Int) := (Int.natCast_add a b).symm
theorem wrapN (a : Nat) (ha : a < 18446744073709551616) : IntKind.u64.wrap (a : Int) = (a : Int) := by rw [IntKind.wrap_u64]; omega
theorem wrapM (a : Nat) : IntKind.u64.wrap (a : Int) = ((a % 18446744073709551616 : Nat) : Int) := by rw [IntKind.wrap_u64]; omega
theorem w64 (a : Nat) (ha : a < 18446744073709551616) : IntKind.u64.wrap (a : Int) = (a : Int) := by rw [IntKind.wrap_u64]; omega

theorem un_cases (c : Nat) : (c = 0 ∧ un c = 0) ∨ (1 ≤ c ∧ un c = 1) := by
  unfold un
  by_cases h : c = 0
  · exact Or.inl ⟨h, if_pos h⟩
  · exact Or.inr ⟨by omega, if_neg h⟩

theorem addC_le (a b c : Nat) (ha : a < 18446744073709551616) (hb : b < 18446744073709551616) : addC a b c ≤ 1 := by
  have := un_le c
  unfold addC; omega
theorem addS_lt (a b c : Nat) : addS a b c < 18446744073709551616 := Nat.mod_lt _ (by omega)
theorem back_d (a b c : Nat) (ha : a < 18446744073709551616) (hb : b < 18446744073709551616) : subD (addS a b c) b c = a := by
  have := un_le c
  unfold subD addS; omega
theorem back_b (a b c : Nat) (ha : a < 18446744073709551616) (hb : b < 18446744073709551616) : subB (addS a b c) b c = addC a b c := by
  have := un_le c
  unfold subB addS addC
  split <;> omega

theorem mulH_lt (a b : Nat) (ha : a < 18446744073709551616) (hb : b < 18446744073709551616) : mulH a b < 18446744073709551616 := by
  unfold mulH
  rw [Nat.div_lt_iff_lt_mul (by omega)]
  exact Nat.mul_lt_mul'' ha hb
theorem mulL_lt (a b : Nat) : mulL a b < 18446744073709551616 := Nat.mod_lt _ (by omega)
theorem mul_parts (a b : Nat) : mulH a b * 18446744073709551616 + mulL a b = a * b := Nat.div_add_mod' _ _
theorem mulH_comm (a b : Nat) : mulH a b = mulH b a := by unfold mulH; rw [Nat.mul_comm]
theorem mulL_comm (a b : Nat) : mulL a b = mulL b a := by unfold mulL; rw [Nat.mul_comm]

theorem add_parts (a b c : Nat) : addC a b c * 18446744073709551616 + addS a b c = a + b + un c := Nat.div_add_mod' _ _
theorem un_of_le (y : Nat) (h : y ≤ 1) : un y = y := by unfold un; split <;> omega

/-! ### The world: what only reads, in an order that is left open -/
def Q (w w' : World) : Prop := ∃ n, w' = w.drewN n
theorem Q.refl (w : World) : Q w w := ⟨0, rfl⟩
theorem Q.drewN {w w' : World} (h : Q w w') (n : Nat) : Q w (w'.drewN n) := by
  obtain ⟨m, rfl⟩ := h
  exact ⟨m + n, World.drewN_drewN _ _ _⟩
theorem Q.drew {w w' : World} (h : Q w w') : Q w w'.drew := h.drewN 1
theorem Q.trans {a b c : World} (h : Q a b) (h' : Q b c) : Q a c := by
  obtain ⟨n, rfl⟩ := h'
  exact h.drewN n
theorem Q.grown {w w' : World} (h : Q w w') : Grown w w' := by
  obtain ⟨n, rfl⟩ := h
  exact Grown.refl w
end Go.Proofs.YtdaglbjdgdokpaaDoor
namespace Go.Proofs.YtdaglbjdgdokpaaDoor
open Go.RowKit
set_option linter.unusedVariables false

theorem bl_le (x : Nat) (hx : x < 18446744073709551616) : Lib.bitLen x ≤ 64 := Lib.bitLen_le x 64 (by omega) hx

theorem bl_zero : Lib.bitLen 0 = 0 := Lib.bitLenAux_zero 64
end Go.Proofs.YtdaglbjdgdokpaaDoor
namespace Go.Proofs.YtdaglbjdgdokpaaDoor
open Go.RowKit
set_option linter.unusedVariables false

end Go.Proofs.YtdaglbjdgdokpaaDoor
namespace Go.Proofs.YtdaglbjdgdokpaaDoor
open Go.RowKit
set_option linter.unusedVariables false

theorem ret_b {a b : Bool} (h : a = b) : Ending.returned (.bool a) = .returned (.bool b) := by rw [h]

theorem take_eq_step {l m : List Nat} {i : Nat} (h : l.take i = m.take i) (hl : i < l.length) (hm : i < m.length) (e : l[i] = m[i]) : l.take (i + 1) = m.take (i + 1) := by
  rw [List.take_succ_eq_append_getElem hl, List.take_succ_eq_append_getElem hm, h, e]
theorem take_ne {l m : List Nat} {i : Nat} (hl : i < l.length) (hm : i < m.length) (e : l[i] ≠ m[i]) : l ≠ m := by
  intro h; subst h; exact e rfl

set_option maxRecDepth 100000 in
set_option maxHeartbeats 2000000 in
theorem rsame_any (v1 v2 : Value) (l m : List Nat) (hl : l.length < 1099511627776) (hm : m.length < 1099511627776) (w : World) (hr1 : Rw .u64 w v1 l) (hr2 : Rw .u64 w v2 m) :
    Calls Tryd.prog 20 #[v1, v2] w fun e w' => e = .returned (.bool (decide (l = m))) ∧ Bl w w' := by
  obtain ⟨A1, c1, rfl, _, _, _, hx1⟩ := hr1
  obtain ⟨A2, c2, rfl, _, _, _, hx2⟩ := hr2
  have H1 := Lib.hid hx1
  have H2 := Lib.hid hx2
  have hnb : (l.length : Int) ≤ 1099511627776 := by omega
  clear hx1 hx2 hl hm
  by_cases h : l.length = m.length
  · obtain ⟨n, hn⟩ : ∃ n, l.length = n := ⟨_, rfl⟩
    obtain ⟨b, hb⟩ : ∃ b, decide (l = m) = b := ⟨_, rfl⟩
    have HL := Lib.hid hn
    have HM := Lib.hid (h.symm.trans hn)
    have HB := Lib.hid hb
    rw [hb]
    rw [← h, hn]
    rw [hn] at hnb
    have r1 : ((n : Int) != (n : Int)) = false := by rw [bne_eq_false_iff_eq]
    clear hn h hb
    go_enter Tryd.func20, Tryd.ntmps20
    go_wp2
    go_loopw [5] (fun s wr => ∃ i : Nat, i ≤ n ∧ s = .int .i64 (i : Int) ∧ Hid (l.take i = m.take i) ∧ Hid (Bl w wr)) (fun s _ => n - (intOf s).toNat)
    case atStart => exact ⟨0, Nat.zero_le _, rfl, by show l.take 0 = m.take 0; simp, Bl.refl w⟩
    case round =>
      obtain ⟨i, hin, rfl, ht, hb⟩ := hrel
      by_cases hlt : i < n
      · obtain ⟨a1, hA1, hc1⟩ := (H1.out.bl hb.out).at_ (i := i) (by rw [HL.out]; exact hlt)
        obtain ⟨a2, hA2, hc2⟩ := (H2.out.bl hb.out).at_ (i := i) (by rw [HM.out]; exact hlt)
        have s1 := Lib.hid (take_eq_step ht.out (by rw [HL.out]; exact hlt) (by rw [HM.out]; exact hlt))
        have s2 := Lib.hid (take_ne (l := l) (m := m) (i := i) (by rw [HL.out]; exact hlt) (by rw [HM.out]; exact hlt))
        obtain ⟨d1, e1⟩ : ∃ d, l[i]'(by rw [HL.out]; exact hlt) = d := ⟨_, rfl⟩
        obtain ⟨d2, e2⟩ : ∃ d, m[i]'(by rw [HM.out]; exact hlt) = d := ⟨_, rfl⟩
        rw [e1] at s1 s2 hc1
        rw [e2] at s1 s2 hc2
        have b2 : (0 : Int) ≤ (i : Int) ∧ (i : Int) < (n : Int) := by omega
        subst hA1
        subst hA2
        clear e1 e2
        by_cases hd : d1 = d2
        · have HS := Lib.hid (s1.out hd)
          have t1 : ((d1 : Int) != (d2 : Int)) = false := by rw [bne_eq_false_iff_eq]; omega
          clear hd
          go_wp2
          go_quiet (fail)
          go_wp2
          go_roundw
          case rel => exact ⟨i + 1, by omega, by go_num, HS.out, hb.out.drewN _⟩
          case measure => simp [intOf] <;> omega
        · have HF : Hid (b = false) := by rw [← HB.out]; exact decide_eq_false (s2.out hd)
          have t1 : ((d1 : Int) != (d2 : Int)) = true := by rw [bne_iff_ne]; omega
          clear hd
          go_wp2
          go_quiet (fail)
          go_wp2
          go_ret
          exact ⟨ret_b HF.out.symm, hb.out.drewN _⟩
      · have hin' : i = n := by omega
        have HT : Hid (b = true) := by
          rw [← HB.out]
          refine decide_eq_true ?_
          have e := ht.out
          rw [hin', ← HL.out, List.take_length, HL.out, ← HM.out, List.take_length] at e
          exact e
        clear hin'
        go_wp2
        go_ret
        exact ⟨ret_b HT.out.symm, hb.out⟩
  · have HF : Hid (decide (l = m) = false) := decide_eq_false (fun e => h (by rw [e]))
    have r1 : ((l.length : Int) != (m.length : Int)) = true := by rw [bne_iff_ne]; omega
    clear h
    go_enter Tryd.func20, Tryd.ntmps20
    go_wp2
    go_ret
    exact ⟨ret_b HF.out.symm, Bl.refl w⟩

/-! ### How many bits -/
theorem bits_len (x : Nat) (hx : 0 < x) : 16 * ((dig 65536 x).length - 1) + Lib.bitLen (x / 65536 ^ ((dig 65536 x).length - 1)) = Nat.log2 x + 1 ∧ x / 65536 ^ ((dig 65536 x).length - 1) < 65536 := by
  obtain ⟨m, hm⟩ : ∃ m, (dig 65536 x).length - 1 = m := ⟨_, rfl⟩
  have hge := dig_ge 65536 (by decide) x hx
  have hlt := dig_lt 65536 (by decide) x
  have hl := dig_len_pos 65536 (by decide) x hx
  rw [show (dig 65536 x).length = m + 1 from by omega] at hlt
  rw [hm] at hge ⊢
  have hp : 0 < 65536 ^ m := Nat.pow_pos (by decide)
  have hy1 : x / 65536 ^ m < 65536 := by rw [Nat.div_lt_iff_lt_mul hp, Nat.mul_comm, ← Nat.pow_succ]; exact hlt
  have hy0 : 0 < x / 65536 ^ m := Nat.div_pos hge hp
  refine ⟨?_, hy1⟩
  obtain ⟨b1, b2, b3⟩ := Lib.bitLenAux_bounds 64 (x / 65536 ^ m) (by omega) (by omega)
  obtain ⟨b, hb⟩ : ∃ b, Lib.bitLen (x / 65536 ^ m) = b := ⟨_, rfl⟩
  have hb' : Lib.bitLenAux 64 (x / 65536 ^ m) = b := hb
  rw [hb'] at b1 b2 b3
  rw [hb]
  rw [two_pow16] at b2 b3
  have h1 : 2 ^ (16 * m + (b - 1)) ≤ x := by
    rw [Nat.pow_add, Nat.mul_comm]
    exact (Nat.le_div_iff_mul_le (Nat.two_pow_pos _)).1 b2
  have h2 : x < 2 ^ (16 * m + (b - 1) + 1) := by
    rw [show 16 * m + (b - 1) + 1 = b + 16 * m from by omega, Nat.pow_add]
    exact (Nat.div_lt_iff_lt_mul (Nat.two_pow_pos _)).1 b3
  have h3 : Nat.log2 x = 16 * m + (b - 1) := by
    have e1 : 16 * m + (b - 1) ≤ Nat.log2 x := (Nat.le_log2 (by omega)).2 h1
    have e2 : Nat.log2 x < 16 * m + (b - 1) + 1 := (Nat.log2_lt (by omega)).2 h2
    omega
  rw [h3]
  omega
/-- How many bits a number has. -/
def blen (x : Nat) : Nat := if x = 0 then 0 else Nat.log2 x + 1

end Go.Proofs.YtdaglbjdgdokpaaDoor
