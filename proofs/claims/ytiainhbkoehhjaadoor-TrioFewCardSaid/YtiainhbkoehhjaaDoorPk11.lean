/-
  The document's rows of digits (layer 4): Trim. · The document's rows of digits (layer 4): Cmp, digit, Same, Bits. · The document's answer for word.Len. · The document's rows of digits (layer 4): digit, Same, Bits.
-/
import Derived.Test.YtiainhbkoehhjaaDoorChecked
import Derived.Test.YtiainhbkoehhjaaDoorPk1
import Derived.Test.YtiainhbkoehhjaaDoorNtW
import Derived.Test.YtiainhbkoehhjaaDoorPk6
import Derived.BigQuiet
import Derived.LoopTactic
namespace Go.Proofs.YtiainhbkoehhjaaDoor
open Go.RowKit
set_option linter.unusedVariables false

theorem Tryd.infoInt : (Tryd.prog.info? 3).map (fun i => (i.zero, i.size, i.bytes)) = some (some (.int .i64 0), 1, 8) := by kernel_rfl

/-- What a call answers that hands back a row. -/
def RwEnd (k : IntKind) (W : World) (l : List Nat) (e : Ending) (w : World) : Prop := ∃ v, e = .returned v ∧ Rw k w v l ∧ Bl W w
theorem RwEnd.mk {k : IntKind} {W w : World} {l : List Nat} {v : Value} (h : Rw k w v l) (g : Bl W w) : RwEnd k W l (.returned v) w := ⟨v, rfl, h, g⟩
theorem RwEnd.of {k : IntKind} {W w : World} {l m : List Nat} {v : Value} (h : Rw k w v m) (g : Bl W w) (e : m = l) : RwEnd k W l (.returned v) w := ⟨v, rfl, e ▸ h, g⟩

/-- .. a row of its own. -/
def RwEndF (k : IntKind) (W : World) (l : List Nat) (e : Ending) (w : World) : Prop := ∃ v, e = .returned v ∧ Rw k w v l ∧ Bl W w ∧ Fs W.heap.size v
theorem RwEndF.of {k : IntKind} {W w : World} {e : TypeId} {l m : List Nat} {v : Value} (h : Ow k e W.heap.size w v m) (g : Bl W w) (e' : m = l) : RwEndF k W l (.returned v) w :=
  ⟨v, rfl, e' ▸ h.rw, g, fun b hb => (World.ownsRow.lt h b hb).1⟩
theorem RwEndF.weak {k : IntKind} {W w : World} {l : List Nat} {e : Ending} (h : RwEndF k W l e w) : RwEnd k W l e w := by
  obtain ⟨v, h1, h2, h3, _⟩ := h
  exact ⟨v, h1, h2, h3⟩

set_option maxRecDepth 100000 in
set_option maxHeartbeats 1000000 in
theorem rtrim_fresh (v : Value) (l : List Nat) (ha : All 65536 l) (hl : l.length < 1099511627776) (w : World) (hr : Rw .i64 w v l) :
    Calls Tryd.prog 50 #[v] w (RwEndF .i64 w (dig 65536 (val 65536 l))) := by
  obtain ⟨i0, hi, hz0, hz1, hz2⟩ := info_parts Tryd.infoInt
  obtain ⟨A, c, rfl, hc, hm, h0, hx⟩ := hr
  have hlc : (l.length : Int) ≤ 1099511627776 := by omega
  have hlen : ∀ n, n ≤ l.length → n = (l.take n).length := fun n h => by rw [List.length_take, Nat.min_eq_left h]
  have hlen2 : ∀ n, ([] : List Nat).length + (l.take n).length < 1099511627776 := fun n => by rw [List.length_take]; have := Nat.min_le_right n l.length; simp; omega
  have hl1 := Lib.hid hlen
  have hl2 := Lib.hid hlen2
  clear hlen hlen2
  have HA := Lib.hid ha
  have HX := Lib.hid hx
  have H0 := Lib.hid h0
  have HM := Lib.hid hm
  clear ha hx h0 hm
  go_enter Tryd.func50, Tryd.ntmps50
  go_wp2
  go_loop [3] (fun s => ∃ n : Nat, Hid (Zr l n) ∧ s = .int .i64 (n : Int)) (fun s => (intOf s).toNat)
  case atStart => exact ⟨l.length, zr_start l, rfl⟩
  case round =>
    obtain ⟨n, hz, rfl⟩ := hrel
    have hn := hz.out.1
    by_cases h0 : n = 0
    · have HE := Lib.hid (trim_eq 65536 (by omega) HA.out hz.out (Or.inl h0))
      subst h0
      go_wp2_with (at_builtin; refine app_many w _ .i64 59 3 i0 (.int .i64 0) 8 Tryd.underlying59 hi hz0 hz1 hz2 rfl (by decide) rfl _ _ rfl _ [] (l.take 0) _ _ _ rfl rfl (hl1.out _ (by omega)) H0.out (World.ownsRow_made w #[] 0 (Nat.le_refl _) (by decide) rfl) ((HX.out.bl ((Bl.refl w).alloc _)).take _) ((Bl.refl w).alloc _) (hl2.out _) ?_; intro v' w' hown hbl)
      go_wp2
      go_ret
      exact RwEndF.of hown.out hbl.out HE.out
    · obtain ⟨j, hj⟩ : ∃ j, n = j + 1 := ⟨n - 1, by omega⟩
      have hjl : j < l.length := by omega
      obtain ⟨ad, hA, hcell⟩ := HX.out.at_ hjl
      obtain ⟨x, hxe⟩ : ∃ x, l[j] = x := ⟨_, rfl⟩
      rw [hxe] at hcell
      by_cases h1 : x = 0
      · have hz' := Lib.hid (zr_step (hj ▸ hz.out) hjl (hxe.trans h1))
        subst hj
        subst hA
        subst h1
        clear hxe
        go_wp2
        go_round
        case rel => exact ⟨j, hz', by go_num⟩
        case measure => simp [intOf]
      · have HE := Lib.hid (trim_eq 65536 (by omega) HA.out hz.out (Or.inr ⟨by omega, by subst hj; simp only [Nat.add_sub_cancel]; rw [hxe]; exact h1⟩))
        subst hj
        subst hA
        have hb : ((x : Int) == 0) = false := by rw [beq_eq_false_iff_ne]; omega
        clear hxe h1
        go_wp2_with (at_builtin; refine app_many w _ .i64 59 3 i0 (.int .i64 0) 8 Tryd.underlying59 hi hz0 hz1 hz2 rfl (by decide) rfl _ _ rfl _ [] (l.take (j + 1)) _ _ _ rfl rfl (hl1.out _ (by omega)) H0.out (World.ownsRow_made w #[] 0 (Nat.le_refl _) (by decide) rfl) ((HX.out.bl ((Bl.refl w).alloc _)).take _) ((Bl.refl w).alloc _) (hl2.out _) ?_; intro v' w' hown hbl)
        go_wp2
        go_ret
        exact RwEndF.of hown.out hbl.out HE.out

theorem rtrim_any (v : Value) (l : List Nat) (ha : All 65536 l) (hl : l.length < 1099511627776) (w : World) (hr : Rw .i64 w v l) :
    Calls Tryd.prog 50 #[v] w (RwEnd .i64 w (dig 65536 (val 65536 l))) := (rtrim_fresh v l ha hl w hr).mono fun _ _ h => h.weak
end Go.Proofs.YtiainhbkoehhjaaDoor
namespace Go.Proofs.YtiainhbkoehhjaaDoor
open Go.RowKit
set_option linter.unusedVariables false

/-- Which of two is above. -/
def cmpi (x y : Nat) : Int := if x < y then -1 else if y < x then 1 else 0
theorem cmpi_lt {x y : Nat} (h : x < y) : cmpi x y = -1 := by unfold cmpi; rw [if_pos h]
theorem cmpi_gt {x y : Nat} (h : y < x) : cmpi x y = 1 := by unfold cmpi; rw [if_neg (by omega), if_pos h]
theorem cmpi_eq {x y : Nat} (h : x = y) : cmpi x y = 0 := by unfold cmpi; rw [if_neg (by omega), if_neg (by omega)]
theorem len_lt {B x y : Nat} (hB : 2 ≤ B) (h : (dig B x).length < (dig B y).length) : x < y := by
  have hy : 0 < y := by
    rcases Nat.eq_zero_or_pos y with e | e
    · subst e; rw [dig_zero] at h; simp at h
    · exact e
  exact Nat.lt_of_lt_of_le (dig_lt B hB x) (Nat.le_trans (Nat.pow_le_pow_right (by omega) (by omega)) (dig_ge B hB y hy))
/-- From place j on both are the same. -/
def Ab (B x y j : Nat) : Prop := x / B ^ j = y / B ^ j
theorem ab_start {B x y n : Nat} (hB : 2 ≤ B) (hx : (dig B x).length = n) (hy : (dig B y).length = n) : Ab B x y n := by
  unfold Ab
  rw [Nat.div_eq_of_lt (hx ▸ dig_lt B hB x), Nat.div_eq_of_lt (hy ▸ dig_lt B hB y)]
theorem ab_div {B x i : Nat} : x / B ^ i = B * (x / B ^ (i + 1)) + x / B ^ i % B := by
  rw [Nat.pow_succ, ← Nat.div_div_eq_div_mul]
  exact (Nat.div_add_mod _ _).symm
theorem ab_lt {B x y i : Nat} (h : Ab B x y (i + 1)) (hd : x / B ^ i % B < y / B ^ i % B) : x < y := by
  unfold Ab at h
  have e1 := ab_div (B := B) (x := x) (i := i)
  have e2 := ab_div (B := B) (x := y) (i := i)
  rw [h] at e1
  rcases Nat.lt_or_ge x y with h' | h'
  · exact h'
  · have := Nat.div_le_div_right (c := B ^ i) h'
    omega
theorem ab_step {B x y i : Nat} (h : Ab B x y (i + 1)) (hd : x / B ^ i % B = y / B ^ i % B) : Ab B x y i := by
  unfold Ab at h ⊢
  rw [ab_div (B := B) (x := x), ab_div (B := B) (x := y), h, hd]
theorem ab_end {B x y : Nat} (h : Ab B x y 0) : x = y := by
  unfold Ab at h
  simpa using h

theorem ret_i64 {a b : Int} (h : a = b) : Ending.returned (.int .i64 a) = .returned (.int .i64 b) := by rw [h]

set_option maxRecDepth 100000 in
set_option maxHeartbeats 2000000 in
theorem rcmp_any (v1 v2 : Value) (x y : Nat) (hl1 : (dig 65536 x).length < 1099511627776) (hl2 : (dig 65536 y).length < 1099511627776) (w : World) (hr1 : Rw .i64 w v1 (dig 65536 x)) (hr2 : Rw .i64 w v2 (dig 65536 y)) :
    Calls Tryd.prog 53 #[v1, v2] w fun e w' => e = .returned (.int .i64 (cmpi x y)) ∧ Bl w w' := by
  obtain ⟨A1, c1, rfl, _, _, _, hx1⟩ := hr1
  obtain ⟨A2, c2, rfl, _, _, _, hx2⟩ := hr2
  have H1 := Lib.hid hx1
  have H2 := Lib.hid hx2
  obtain ⟨n, hn⟩ : ∃ n, (dig 65536 x).length = n := ⟨_, rfl⟩
  obtain ⟨m, hm⟩ : ∃ m, (dig 65536 y).length = m := ⟨_, rfl⟩
  rw [hn] at hl1
  rw [hm] at hl2
  have hnb : (n : Int) ≤ 1099511627776 := by omega
  have hmb : (m : Int) ≤ 1099511627776 := by omega
  have HN := Lib.hid hn
  have HM := Lib.hid hm
  rw [hn, hm]
  clear hx1 hx2 hl1 hl2 hn hm
  rcases Nat.lt_trichotomy n m with h | h | h
  · have HC := Lib.hid (cmpi_lt (x := x) (y := y) (len_lt (B := 65536) (by decide) (by rw [HN.out, HM.out]; exact h)))
    have r1 : ((n : Int) != (m : Int)) = true := by rw [bne_iff_ne]; omega
    have r2 : decide (n < m) = true := decide_eq_true h
    go_enter Tryd.func53, Tryd.ntmps53
    go_wp2
    go_ret
    exact ⟨ret_i64 HC.out.symm, Bl.refl w⟩
  · have r1 : ((n : Int) != (m : Int)) = false := by rw [bne_eq_false_iff_eq]; omega
    have HA := Lib.hid (ab_start (B := 65536) (by decide) (HN.out.trans h) HM.out)
    subst h
    go_enter Tryd.func53, Tryd.ntmps53
    go_wp2
    go_loopw [5] (fun s wr => ∃ (j : Nat) (z : Int), j ≤ n ∧ s = .int .i64 z ∧ Hid (z = (j : Int) - 1) ∧ Hid (Ab 65536 x y j) ∧ Hid (Bl w wr)) (fun s _ => (intOf s + 1).toNat)
    case atStart => exact ⟨n, _, Nat.le_refl _, rfl, rfl, HA.out, Bl.refl w⟩
    case round =>
      obtain ⟨j, z, hj, rfl, hz, hab, hb⟩ := hrel
      by_cases h0 : j = 0
      · have hz' : z = -1 := by have := hz.out; omega
        subst hz'
        subst h0
        have HC := Lib.hid (cmpi_eq (ab_end hab.out))
        go_wp2
        go_ret
        exact ⟨ret_i64 HC.out.symm, hb.out⟩
      · obtain ⟨i, hij⟩ : ∃ i, j = i + 1 := ⟨j - 1, by omega⟩
        have him : i < n := by omega
        have hz' : z = (i : Int) := by have := hz.out; omega
        obtain ⟨a1, hA1, hc1⟩ := (H1.out.bl hb.out).at_ (i := i) (by rw [HN.out]; exact him)
        obtain ⟨a2, hA2, hc2⟩ := (H2.out.bl hb.out).at_ (i := i) (by rw [HM.out]; exact him)
        rw [dig_get 65536 (by decide)] at hc1 hc2
        have hab' := hab.out
        rw [hij] at hab'
        have s1 := Lib.hid (ab_lt hab')
        have s2 := Lib.hid (ab_lt (B := 65536) (x := y) (y := x) (i := i) hab'.symm)
        have s3 := Lib.hid (ab_step hab')
        obtain ⟨d1, e1⟩ : ∃ d, x / 65536 ^ i % 65536 = d := ⟨_, rfl⟩
        obtain ⟨d2, e2⟩ : ∃ d, y / 65536 ^ i % 65536 = d := ⟨_, rfl⟩
        rw [e1, e2] at s1 s3
        rw [e1, e2] at s2
        rw [e1] at hc1
        rw [e2] at hc2
        have b2 : (0 : Int) ≤ (i : Int) ∧ (i : Int) < (n : Int) := by omega
        subst hz'
        subst hA1
        subst hA2
        clear hij hz h0 hj hab hab' e1 e2
        rcases Nat.lt_trichotomy d1 d2 with h | h | h
        · have t1 : decide (d1 < d2) = true := decide_eq_true h
          have HC := Lib.hid (cmpi_lt (s1.out h))
          clear h
          go_wp2
          go_quiet (fail)
          go_wp2
          go_ret
          exact ⟨ret_i64 HC.out.symm, hb.out.drewN _⟩
        · subst h
          have t1 : decide (d1 < d1) = false := decide_eq_false (Nat.lt_irrefl _)
          have HS := Lib.hid (s3.out rfl)
          go_wp2
          go_quiet (fail)
          go_wp2
          go_quiet (fail)
          go_wp2
          go_roundw
          case rel => exact ⟨i, _, by omega, rfl, rfl, HS.out, hb.out.drewN _⟩
          case measure => simp [intOf] <;> omega
        · have t1 : decide (d1 < d2) = false := decide_eq_false (by omega)
          have t2 : decide (d2 < d1) = true := decide_eq_true h
          have HC := Lib.hid (cmpi_gt (s2.out h))
          clear h
          go_wp2
          go_quiet (fail)
          go_wp2
          go_quiet (fail)
          go_wp2
          go_ret
          exact ⟨ret_i64 HC.out.symm, (hb.out.drewN _).drewN _⟩
  · have HC := Lib.hid (cmpi_gt (x := x) (y := y) (len_lt (B := 65536) (by decide) (by rw [HN.out, HM.out]; exact h)))
    have r1 : ((n : Int) != (m : Int)) = true := by rw [bne_iff_ne]; omega
    have r2 : decide (n < m) = false := decide_eq_false (by omega)
    go_enter Tryd.func53, Tryd.ntmps53
    go_wp2
    go_ret
    exact ⟨ret_i64 HC.out.symm, Bl.refl w⟩
end Go.Proofs.YtiainhbkoehhjaaDoor
namespace Go.Proofs.YtiainhbkoehhjaaDoor
open Go.RowKit
set_option linter.unusedVariables false

end Go.Proofs.YtiainhbkoehhjaaDoor
namespace Go.Proofs.YtiainhbkoehhjaaDoor
open Go.RowKit
set_option linter.unusedVariables false

set_option maxRecDepth 100000 in
theorem rdigit_any (v : Value) (l : List Nat) (i : Nat) (hi : i < 2199023255552) (w : World) (hr : Rw .i64 w v l) :
    Calls Tryd.prog 49 #[v, .int .i64 (i : Int)] w fun e w' => e = .returned (.int .i64 ((l.getD i 0 : Nat) : Int)) ∧ w = w' := by
  obtain ⟨A, c, rfl, _, _, _, hx⟩ := hr
  by_cases h : i < l.length
  · obtain ⟨ad, hA, hc⟩ := hx.at_ h
    have e : l.getD i 0 = l[i] := by simp [h]
    rw [e]
    obtain ⟨d, hd⟩ : ∃ d, l[i] = d := ⟨_, rfl⟩
    rw [hd] at hc ⊢
    have b : (0 : Int) ≤ (i : Int) ∧ (i : Int) < (l.length : Int) := by omega
    subst hA
    clear hd e hx hi
    go_enter Tryd.func49, Tryd.ntmps49
    go_wp2
    go_ret
    exact ⟨rfl, rfl⟩
  · have e : l.getD i 0 = 0 := by simp [h]
    rw [e]
    have b : decide (i < l.length) = false := decide_eq_false h
    clear e hx hi
    go_enter Tryd.func49, Tryd.ntmps49
    go_wp2
    go_ret
    exact ⟨rfl, rfl⟩

theorem ret_b {a b : Bool} (h : a = b) : Ending.returned (.bool a) = .returned (.bool b) := by rw [h]

theorem take_eq_step {l m : List Nat} {i : Nat} (h : l.take i = m.take i) (hl : i < l.length) (hm : i < m.length) (e : l[i] = m[i]) : l.take (i + 1) = m.take (i + 1) := by
  rw [List.take_succ_eq_append_getElem hl, List.take_succ_eq_append_getElem hm, h, e]
theorem take_ne {l m : List Nat} {i : Nat} (hl : i < l.length) (hm : i < m.length) (e : l[i] ≠ m[i]) : l ≠ m := by
  intro h; subst h; exact e rfl

/-! ### How many bits -/
theorem bits_len (x : Nat) (hx : 0 < x) : 16 * ((dig 65536 x).length - 1) + Lib.bitLen (x / 65536 ^ ((dig 65536 x).length - 1)) = Nat.log2 x + 1 ∧ x / 65536 ^ ((dig 65536 x).length - 1) < 65536 := by
  obtain ⟨m, hm⟩ : ∃ m, (dig 65536 x).length - 1 = m := ⟨_, rfl⟩
  have hge := dig_ge 65536 (by decide) x hx
  have hlt := dig_lt 65536 (by decide) x
  have hl := dig_len_pos 65536 (by decide) x hx
  rw [show (dig 65536 x).length = m + 1 from by omega] at hlt
  rw [hm] at hge ⊢
  have hp : 0 < 65536 ^ m := Nat.pow_pos (by decide)
  have hy1 : x / 65536 ^ m < 65536 := by rw [Nat.div_lt_iff_lt_mul hp, Nat.mul_comm, ← Nat.pow_succ]; exact hlt
  have hy0 : 0 < x / 65536 ^ m := Nat.div_pos hge hp
  refine ⟨?_, hy1⟩
  obtain ⟨b1, b2, b3⟩ := Lib.bitLenAux_bounds 64 (x / 65536 ^ m) (by omega) (by omega)
  obtain ⟨b, hb⟩ : ∃ b, Lib.bitLen (x / 65536 ^ m) = b := ⟨_, rfl⟩
  have hb' : Lib.bitLenAux 64 (x / 65536 ^ m) = b := hb
  rw [hb'] at b1 b2 b3
  rw [hb]
  rw [two_pow16] at b2 b3
  have h1 : 2 ^ (16 * m + (b - 1)) ≤ x := by
    rw [Nat.pow_add, Nat.mul_comm]
    exact (Nat.le_div_iff_mul_le (Nat.two_pow_pos _)).1 b2
  have h2 : x < 2 ^ (16 * m + (b - 1) + 1) := by
    rw [show 16 * m + (b - 1) + 1 = b + 16 * m from by omega, Nat.pow_add]
    exact (Nat.div_lt_iff_lt_mul (Nat.two_pow_pos _)).1 b3
  have h3 : Nat.log2 x = 16 * m + (b - 1) := by
    have e1 : 16 * m + (b - 1) ≤ Nat.log2 x := (Nat.le_log2 (by omega)).2 h1
    have e2 : Nat.log2 x < 16 * m + (b - 1) + 1 := (Nat.log2_lt (by omega)).2 h2
    omega
  rw [h3]
  omega
/-- How many bits a number has. -/
def blen (x : Nat) : Nat := if x = 0 then 0 else Nat.log2 x + 1

end Go.Proofs.YtiainhbkoehhjaaDoor
