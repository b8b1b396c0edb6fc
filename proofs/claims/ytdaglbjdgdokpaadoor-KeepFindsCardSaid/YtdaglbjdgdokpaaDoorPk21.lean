/-
  A slice that reads as a number; what package nat's Norm, Cmp, Add, Sub, Shl, Scale are to answer, as properties. · Package nat (layer 4): its small functions: trim, widened, place, raise, times; the makers of words and chain; cmp.Compare. · The plain arithmetic under math/bits.Div64: one figure of a quotient, to the base 2^32, is guessed from the divisor's upper half and lowered till it is right. No program in sight.
-/
import Derived.Test.YtdaglbjdgdokpaaDoorPk20
import Derived.Test.YtdaglbjdgdokpaaDoorPk18
import Derived.Test.YtdaglbjdgdokpaaDoorPk19
import Derived.Lib.Strings
import Derived.Lib.Slices
import Derived.Lib.Small
import Derived.Lib.Walk
import Derived.Lib.BitFns
import Derived.Laws.Small
import Derived.Test.YtdaglbjdgdokpaaDoorPk6
namespace Go.Proofs.YtdaglbjdgdokpaaDoor
open Go.RowKit
set_option linter.unusedVariables false

/-- v reads as the number X. -/
def Nu (W : World) (v : Value) (X : Nat) : Prop := ∃ l, Rw .u64 W v l ∧ All 18446744073709551616 l ∧ l.length < 1048576 ∧ val 18446744073709551616 l = X
theorem Nu.bl {W w : World} {v : Value} {X : Nat} (h : Nu W v X) (g : Bl W w) : Nu w v X := by
  obtain ⟨l, h1, h2⟩ := h
  exact ⟨l, h1.bl g, h2⟩
theorem Nu.mk {W : World} {v : Value} {l : List Nat} (h : Rw .u64 W v l) (ha : All 18446744073709551616 l) (hl : l.length < 1048576) : Nu W v (val 18446744073709551616 l) := ⟨l, h, ha, hl, rfl⟩
/-- X has k words at most. -/
def Sz (k X : Nat) : Prop := X < 18446744073709551616 ^ k
theorem Sz.mono {k j X : Nat} (h : Sz k X) (hk : k ≤ j) : Sz j X := Nat.lt_of_lt_of_le h (Nat.pow_le_pow_right (by decide) hk)
theorem Sz.le {k X Y : Nat} (h : Sz k X) (hy : Y ≤ X) : Sz k Y := Nat.lt_of_le_of_lt hy h
theorem Sz.of_val {l : List Nat} (ha : All 18446744073709551616 l) {k : Nat} (hl : l.length ≤ k) : Sz k (val 18446744073709551616 l) := Sz.mono (val_lt _ (by decide) l ha) hl
theorem Sz.add {k X Y : Nat} (h : Sz k X) (h' : Sz k Y) : Sz (k + 1) (X + Y) := by
  unfold Sz at *
  rw [Nat.pow_succ]
  omega
theorem Sz.word {k X w : Nat} (h : Sz k X) (hw : w < 18446744073709551616) : Sz (k + 1) (X * w) := by
  unfold Sz at *
  rw [Nat.pow_succ]
  exact Nat.mul_lt_mul'' h hw
theorem Sz.shl {k X n j : Nat} (h : Sz k X) (hn : n ≤ 64 * j) : Sz (k + j) (X * 2 ^ n) := by
  unfold Sz at *
  have e : (18446744073709551616 : Nat) = 2 ^ 64 := by decide
  have h1 : 2 ^ n ≤ 18446744073709551616 ^ j := by
    rw [e, ← Nat.pow_mul]
    exact Nat.pow_le_pow_right (by decide) hn
  rw [Nat.pow_add]
  exact Nat.lt_of_lt_of_le (Nat.mul_lt_mul_of_pos_right h (Nat.two_pow_pos n)) (Nat.mul_le_mul_left _ h1)
theorem Nu.dig {W : World} {v : Value} {X k : Nat} (h : Rw .u64 W v (dig 18446744073709551616 X)) (hs : Sz k X) (hk : k < 1048576) : Nu W v X :=
  ⟨_, h, all_dig _ (by decide) X, Nat.lt_of_le_of_lt (dig_len_of_lt _ (by decide) X k hs) hk, val_dig _ (by decide) X⟩
theorem rw_len {k : IntKind} {w : World} {v : Value} {l : List Nat} (h : Rw k w v l) : l.length ≤ 9223372036854775807 := by
  obtain ⟨A, c, _, h1, h2, _⟩ := h
  unfold maxLen at h2
  omega

def CNorm : Prop := ∀ (W : World) (v : Value) (X : Nat), Nu W v X → Calls Tryd.prog 72 #[v] W (RwEnd .u64 W (dig 18446744073709551616 X))
end Go.Proofs.YtdaglbjdgdokpaaDoor
namespace Go.Proofs.YtdaglbjdgdokpaaDoor
open Go.RowKit
set_option linter.unusedVariables false

theorem infoW : (Tryd.prog.info? 68).map (fun i => (i.zero, i.size, i.bytes)) = some (some (.int .u64 0), 1, 8) := by kernel_rfl

/-- What a call answers that hands back a row and leaves the world as it was. -/
def RwSame (W : World) (l : List Nat) (e : Ending) (w : World) : Prop := ∃ v, e = .returned v ∧ W = w ∧ Rw .u64 W v l
theorem RwSame.of {W w : World} {l m : List Nat} {v : Value} (h : Rw .u64 W v m) (g : W = w) (e : m = l) : RwSame W l (.returned v) w := ⟨v, rfl, g, e ▸ h⟩

set_option maxRecDepth 100000 in
set_option maxHeartbeats 2000000 in
theorem ptrim_any (v : Value) (l : List Nat) (ha : All 18446744073709551616 l) (hl : l.length < 1099511627776) (w : World) (hr : Rw .u64 w v l) :
    Calls Tryd.prog 80 #[v] w (RwSame w (dig 18446744073709551616 (val 18446744073709551616 l))) := by
  obtain ⟨A, c, rfl, hc, hm, h0, hx⟩ := hr
  have hlc : (l.length : Int) ≤ 1099511627776 := by omega
  obtain ⟨L, hL⟩ : ∃ L, l.length = L := ⟨_, rfl⟩
  have HA := Lib.hid ha
  have HX := Lib.hid hx
  have H0 := Lib.hid h0
  have HL := Lib.hid hL
  have HM := Lib.hid hm
  have hcL : (L : Int) ≤ (c : Int) := by omega
  have HCL := Lib.hid hcL
  rw [hL] at hlc ⊢
  clear ha hx h0 hL hc hl hm
  go_enter Tryd.func80, Tryd.ntmps80
  go_wp2
  go_loop [3] (fun s => ∃ n : Nat, Hid (Zr l n) ∧ s = .int .i64 (n : Int)) (fun s => (intOf s).toNat)
  case atStart => exact ⟨l.length, zr_start l, by rw [HL.out]⟩
  case round =>
    obtain ⟨n, hz, rfl⟩ := hrel
    have hn := hz.out.1
    rw [HL.out] at hn
    have hni : (n : Int) ≤ (c : Int) := by omega
    have HTL := Lib.hid (show n = (l.take n).length by rw [List.length_take, HL.out]; omega)
    have HNM := Lib.hid (show n ≤ maxLen by have := HM.out; omega)
    by_cases h0 : n = 0
    · have HE := Lib.hid (trim_eq 18446744073709551616 (by omega) HA.out hz.out (Or.inl h0))
      have d0 : decide (0 < n) = false := decide_eq_false (by omega)
      have HN := Lib.hid hn
      have HZ := Lib.hid h0
      clear h0
      go_wp2
      go_ret
      exact RwSame.of ((HX.out.take _).rw HTL.out (Nat.le_refl _) HNM.out (fun _ => HZ.out)) rfl HE.out
    · obtain ⟨j, hj⟩ : ∃ j, n = j + 1 := ⟨n - 1, by omega⟩
      have hjl : j < l.length := by rw [HL.out]; omega
      obtain ⟨ad, hA, hcell⟩ := HX.out.at_ hjl
      obtain ⟨x, hxe⟩ : ∃ x, l[j] = x := ⟨_, rfl⟩
      rw [hxe] at hcell
      have d0 : decide (0 < n) = true := decide_eq_true (by omega)
      have r1 : (n : Int) - 1 = (j : Int) := by omega
      have b1 : (0 : Int) ≤ (j : Int) ∧ (j : Int) < (L : Int) := by omega
      have HN := Lib.hid hn
      have HJ := Lib.hid hj
      by_cases h1 : x = 0
      · have hz' := Lib.hid (zr_step (hj ▸ hz.out) hjl (hxe.trans h1))
        subst hA
        subst h1
        clear hxe hj h0
        go_wp2
        go_round
        case rel => exact ⟨j, hz', by go_num⟩
        case measure => have := HJ.out; simp [intOf] <;> omega
      · have HE := Lib.hid (trim_eq 18446744073709551616 (by omega) HA.out hz.out (Or.inr ⟨by omega, by subst hj; simp only [Nat.add_sub_cancel]; rw [hxe]; exact h1⟩))
        have hb : ((x : Int) == 0) = false := by rw [beq_eq_false_iff_ne]; omega
        subst hA
        clear hxe h1 hj h0
        go_wp2
        go_ret
        exact RwSame.of ((HX.out.take _).rw HTL.out (Nat.le_refl _) HNM.out (fun h => by cases h)) rfl HE.out

/-- .. a row of the call's own, laid in the next block. -/
def BkNew (W : World) (n : Nat) (l : List Nat) (e : Ending) (w : World) : Prop :=
  e = .returned (.slice (some ⟨W.heap.size, 0, none⟩) n n) ∧ Bk .u64 68 w W.heap.size l ∧ Bl W w ∧ w.heap.size = W.heap.size + 1
theorem splice_wide (l : List Nat) (n : Nat) (h : l.length ≤ n) : splice (List.replicate n 0) 0 (l.take n) = l ++ List.replicate (n - l.length) 0 := by
  rw [List.take_of_length_le h]
  simp [splice]

set_option maxRecDepth 100000 in
set_option maxHeartbeats 2000000 in
theorem pwidened_any (v : Value) (l : List Nat) (n : Nat) (hn : l.length ≤ n) (hb : n < 1099511627776) (w : World) (hr : Rw .u64 w v l) :
    Calls Tryd.prog 81 #[v, .int .i64 (n : Int)] w (BkNew w n (l ++ List.replicate (n - l.length) 0)) := by
  obtain ⟨i0, hi, hz0, hz1, hz2⟩ := info_parts infoW
  obtain ⟨A, c, rfl, hc, hm, h0, hx⟩ := hr
  have hmk := run_mk (P := Tryd.prog) .u64 41 68 i0 Tryd.underlying41 hi hz0 hz1 (by omega) n hb w
  have hlc : (l.length : Int) ≤ 1099511627776 := by omega
  have HS := Lib.hid (splice_wide l n hn)
  obtain ⟨L, hL⟩ : ∃ L, l.length = L := ⟨_, rfl⟩
  have HL := Lib.hid hL
  have HX := Lib.hid hx
  have HN := Lib.hid hn
  rw [hL] at hlc
  show Calls Tryd.prog 81 #[.slice A l.length c, .int .i64 (n : Int)] w _
  rw [hL]
  clear hx h0 hL hc hm hn hb
  go_enter Tryd.func81, Tryd.ntmps81
  go_wp2_with (refine copy_bk w _ .u64 68 rfl _ _ _ _ rfl 68 Tryd.underlying41 (by rw [hi]; simp [hz1]) w.heap.size 0 n n A L c rfl rfl (List.replicate n 0) l HL.out.symm (Bk.made _ _ _ _) (HX.out.bl ((Bl.refl w).alloc _)) (by simp; omega) ((Bl.refl w).alloc _) (Nat.le_refl _) ?_; intro w' hbk hbl hoth)
  go_ret
  refine ⟨rfl, ?_, hbl.out, ?_⟩
  · have := hbk.out
    rw [HS.out] at this
    rw [← HL.out]
    exact this
  · rw [hoth.out.1]; simp
end Go.Proofs.YtdaglbjdgdokpaaDoor
namespace Go.Proofs.YtdaglbjdgdokpaaDoor
set_option linter.unusedVariables false

/-- The figure that is sought. -/
def kq (u v y1 y0 : Nat) : Nat := (u * 4294967296 + v) / (y1 * 4294967296 + y0)
def kr (u v y1 y0 : Nat) : Nat := (u * 4294967296 + v) % (y1 * 4294967296 + y0)

/-- The divisor's halves, and what is to be divided by it. -/
def KD (u v y1 y0 : Nat) : Prop := 2147483648 ≤ y1 ∧ y1 < 4294967296 ∧ y0 < 4294967296 ∧ v < 4294967296 ∧ u < y1 * 4294967296 + y0

/-- What holds of a guess q and what is left r, at the loop's head. -/
def KI (u v y1 y0 q r : Nat) : Prop := KD u v y1 y0 ∧ q * y1 + r = u ∧ r < 4294967296 ∧ q ≤ 4294967297 ∧ kq u v y1 y0 ≤ q

theorem kq_lt {u v y1 y0 : Nat} (h : KD u v y1 y0) : kq u v y1 y0 < 4294967296 := by
  obtain ⟨a, b, c, d, e⟩ := h
  unfold kq
  rw [Nat.div_lt_iff_lt_mul (by omega)]
  omega

theorem kq_mul {u v y1 y0 : Nat} : kq u v y1 y0 * (y1 * 4294967296 + y0) ≤ u * 4294967296 + v := by
  unfold kq; exact Nat.div_mul_le_self _ _

theorem k_start {u v y1 y0 : Nat} (h : KD u v y1 y0) : KI u v y1 y0 (u / y1) (u % y1) := by
  have hk := h
  obtain ⟨a, b, c, d, e⟩ := h
  have hp : 0 < y1 := by omega
  refine ⟨hk, Nat.div_add_mod' u y1, Nat.lt_trans (Nat.mod_lt _ hp) b, ?_, ?_⟩
  · have : u / y1 < 4294967298 := by
      rw [Nat.div_lt_iff_lt_mul hp]; omega
    omega
  · rw [Nat.le_div_iff_mul_le hp]
    have hm := @kq_mul u v y1 y0
    rw [Nat.mul_add, ← Nat.mul_assoc] at hm
    generalize kq u v y1 y0 * y1 = p at *
    omega

theorem k_over {u v y1 y0 q r : Nat} (h : KI u v y1 y0 q r) (hc : 4294967296 ≤ q ∨ 4294967296 * r + v < q * y0) : kq u v y1 y0 < q := by
  obtain ⟨hk, e1, e2, e3, e4⟩ := h
  have hl := kq_lt hk
  rcases hc with hc | hc
  · omega
  · refine Nat.lt_of_not_le fun hle => ?_
    have hm := @kq_mul u v y1 y0
    have h2 := Nat.mul_le_mul_right (y1 * 4294967296 + y0) hle
    have h3 : q * (y1 * 4294967296 + y0) ≤ u * 4294967296 + v := Nat.le_trans h2 hm
    rw [Nat.mul_add, ← Nat.mul_assoc] at h3
    generalize q * y1 = p at *
    generalize q * y0 = p0 at *
    omega

theorem k_done {u v y1 y0 q r : Nat} (h : KI u v y1 y0 q r) (hc : q * y0 ≤ 4294967296 * r + v) : q = kq u v y1 y0 := by
  obtain ⟨hk, e1, e2, e3, e4⟩ := h
  obtain ⟨a, b, c, d, e⟩ := hk
  refine Nat.le_antisymm ?_ e4
  unfold kq
  rw [Nat.le_div_iff_mul_le (by omega), Nat.mul_add, ← Nat.mul_assoc]
  generalize q * y1 = p at *
  generalize q * y0 = p0 at *
  omega

theorem k_low {q y1 r u : Nat} (hq : 1 ≤ q) (e : q * y1 + r = u) : (q - 1) * y1 + (r + y1) = u := by
  obtain ⟨p, rfl⟩ : ∃ p, q = p + 1 := ⟨q - 1, by omega⟩
  rw [Nat.add_sub_cancel]
  rw [Nat.add_mul, Nat.one_mul] at e
  omega

theorem k_break {u v y1 y0 q r : Nat} (h : KI u v y1 y0 q r) (hc : 4294967296 ≤ q ∨ 4294967296 * r + v < q * y0) (hb : 4294967296 ≤ r + y1) : q - 1 = kq u v y1 y0 := by
  have ho := k_over h hc
  obtain ⟨hk, e1, e2, e3, e4⟩ := h
  have hl := k_low (by omega) e1
  obtain ⟨a, b, c, d, e⟩ := hk
  refine Nat.le_antisymm ?_ (by omega)
  have hy : (q - 1) * y0 ≤ 4294967296 * y0 := Nat.mul_le_mul_right y0 (by omega)
  unfold kq
  rw [Nat.le_div_iff_mul_le (by omega), Nat.mul_add, ← Nat.mul_assoc]
  generalize (q - 1) * y1 = p at *
  generalize (q - 1) * y0 = p0 at *
  omega

theorem k_next {u v y1 y0 q r : Nat} (h : KI u v y1 y0 q r) (hc : 4294967296 ≤ q ∨ 4294967296 * r + v < q * y0) (hb : r + y1 < 4294967296) : KI u v y1 y0 (q - 1) (r + y1) := by
  have ho := k_over h hc
  obtain ⟨hk, e1, e2, e3, e4⟩ := h
  exact ⟨hk, k_low (by omega) e1, hb, by omega, by omega⟩

/-! ### In the walk's own words -/

theorem k_prod {u v y1 y0 q r : Nat} (h : KI u v y1 y0 q r) (hq : q < 4294967296) : IntKind.u64.wrap ((q : Int) * (y0 : Int)) = ((q * y0 : Nat) : Int) := by
  obtain ⟨⟨a, b, c, d, e⟩, e1, e2, e3, e4⟩ := h
  rw [← Int.natCast_mul]
  refine w64 _ ?_
  have : q * y0 ≤ 4294967295 * 4294967295 := Nat.mul_le_mul (by omega) (by omega)
  omega

theorem k_sum {u v y1 y0 q r : Nat} (h : KI u v y1 y0 q r) : IntKind.u64.wrap (IntKind.u64.wrap (4294967296 * (r : Int)) + (v : Int)) = ((4294967296 * r + v : Nat) : Int) := by
  obtain ⟨⟨a, b, c, d, e⟩, e1, e2, e3, e4⟩ := h
  simp only [IntKind.wrap_u64]
  omega

theorem k_less {u v y1 y0 q r : Nat} (h : KI u v y1 y0 q r) (hc : 4294967296 ≤ q ∨ 4294967296 * r + v < q * y0) : IntKind.u64.wrap ((q : Int) - 1) = ((q - 1 : Nat) : Int) := by
  have ho := k_over h hc
  obtain ⟨⟨a, b, c, d, e⟩, e1, e2, e3, e4⟩ := h
  simp only [IntKind.wrap_u64]
  omega

theorem k_more {u v y1 y0 q r : Nat} (h : KI u v y1 y0 q r) : IntKind.u64.wrap ((r : Int) + (y1 : Int)) = ((r + y1 : Nat) : Int) := by
  obtain ⟨⟨a, b, c, d, e⟩, e1, e2, e3, e4⟩ := h
  simp only [IntKind.wrap_u64]
  omega

/-- What is left behind the figure, as the program takes it. -/
theorem k_rest {u v y1 y0 : Nat} (h : KD u v y1 y0) :
    IntKind.u64.wrap (IntKind.u64.wrap (IntKind.u64.wrap ((u : Int) * 4294967296) + (v : Int)) - IntKind.u64.wrap ((kq u v y1 y0 : Int) * ((y1 * 4294967296 + y0 : Nat) : Int))) = ((kr u v y1 y0 : Nat) : Int) := by
  obtain ⟨a, b, c, d, e⟩ := h
  have hd : kq u v y1 y0 * (y1 * 4294967296 + y0) + kr u v y1 y0 = u * 4294967296 + v := Nat.div_add_mod' _ _
  have hr : kr u v y1 y0 < y1 * 4294967296 + y0 := Nat.mod_lt _ (by omega)
  rw [← Int.natCast_mul]
  generalize kq u v y1 y0 * (y1 * 4294967296 + y0) = p at *
  generalize kr u v y1 y0 = x at *
  simp only [IntKind.wrap_u64]
  omega

/-- Two figures, one behind the other. -/
theorem k_two' (K u v1 v0 Y : Nat) (hY : 0 < Y) :
    ((u * K + v1) / Y) * K + (((u * K + v1) % Y) * K + v0) / Y = (u * (K * K) + (v1 * K + v0)) / Y ∧
    (((u * K + v1) % Y) * K + v0) % Y = (u * (K * K) + (v1 * K + v0)) % Y := by
  have h := Nat.div_add_mod (u * K + v1) Y
  generalize (u * K + v1) / Y = q at h ⊢
  generalize (u * K + v1) % Y = r at h ⊢
  have e : u * (K * K) + (v1 * K + v0) = (r * K + v0) + Y * (q * K) := by
    rw [← Nat.mul_assoc, ← Nat.mul_assoc, ← Nat.add_assoc, ← Nat.add_mul, ← h, Nat.add_mul]
    omega
  generalize r * K + v0 = x at e ⊢
  refine ⟨?_, ?_⟩
  · rw [e, Nat.add_mul_div_left _ _ hY]
    exact Nat.add_comm _ _
  · rw [e, Nat.add_mul_mod_self_left]
theorem k_two (u v1 v0 Y : Nat) (hY : 0 < Y) :
    ((u * 4294967296 + v1) / Y) * 4294967296 + (((u * 4294967296 + v1) % Y) * 4294967296 + v0) / Y = (u * 18446744073709551616 + (v1 * 4294967296 + v0)) / Y ∧
    (((u * 4294967296 + v1) % Y) * 4294967296 + v0) % Y = (u * 18446744073709551616 + (v1 * 4294967296 + v0)) % Y := k_two' 4294967296 u v1 v0 Y hY
end Go.Proofs.YtdaglbjdgdokpaaDoor
