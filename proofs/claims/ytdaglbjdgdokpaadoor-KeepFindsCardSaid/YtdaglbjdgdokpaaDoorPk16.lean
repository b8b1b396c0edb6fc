/-
  The document's rows of digits (layer 4): Digits. · The document's rows of digits (layer 4): Words. · The document's takeRow of layer 14.
-/
import Derived.Test.YtdaglbjdgdokpaaDoorPk6
import Derived.Test.YtdaglbjdgdokpaaDoorPk10
import Derived.RegionTactic
import Derived.BigRegion
import Derived.Test.YtdaglbjdgdokpaaDoorPk8
namespace Go.Proofs.YtdaglbjdgdokpaaDoor
open Go.RowKit
set_option linter.unusedVariables false

def W64 : Nat := 18446744073709551616
theorem W64_eq : W64 = 65536 ^ 4 := by decide
/-- Behind i words. -/
structure Dgt (l : List Nat) (i : Nat) (out : List Nat) : Prop where
  len : out.length = 4 * i
  all : All 65536 out
  num : val 65536 out = val W64 (l.take i)
/-- Behind i words, and k digits of the next one, of which y is left. -/
structure Dgi (l : List Nat) (i k : Nat) (out : List Nat) (y : Nat) : Prop where
  len : out.length = 4 * i + k
  all : All 65536 out
  num : val 65536 out + 65536 ^ (4 * i + k) * y = val W64 (l.take (i + 1))
  lt : y < 65536 ^ (4 - k)
theorem dgt_start (l : List Nat) : Dgt l 0 [] := ⟨rfl, all_nil _, by simp [val]⟩
theorem dgi_start {l : List Nat} {i : Nat} {out : List Nat} (h : Dgt l i out) (hi : i < l.length) (hw : l[i] < W64) : Dgi l i 0 out l[i] := by
  refine ⟨h.len, h.all, ?_, by rw [W64_eq] at hw; exact hw⟩
  rw [val_take_succ W64 l i hi, h.num, Nat.add_zero, Nat.pow_mul, ← W64_eq]
theorem dgi_step {l : List Nat} {i k : Nat} {out : List Nat} {y : Nat} (h : Dgi l i k out y) (hk : k < 4) : Dgi l i (k + 1) (out ++ [y % 65536]) (y / 65536) := by
  refine ⟨by rw [List.length_append, h.len]; rfl, all_snoc h.all (Nat.mod_lt _ (by decide)), ?_, ?_⟩
  · rw [← h.num, val_append, val_one, h.len, ← Nat.add_assoc, Nat.pow_succ, Nat.mul_assoc, Nat.add_assoc, ← Nat.mul_add, Nat.mod_add_div]
  · have e : 65536 ^ (4 - k) = 65536 ^ (4 - (k + 1)) * 65536 := by rw [← Nat.pow_succ]; congr 1; omega
    rw [Nat.div_lt_iff_lt_mul (by decide), ← e]
    exact h.lt
theorem dgi_end {l : List Nat} {i : Nat} {out : List Nat} {y : Nat} (h : Dgi l i 4 out y) : Dgt l (i + 1) out := by
  have hy : y = 0 := by have := h.lt; simp at this; exact this
  have hn := h.num
  rw [hy, Nat.mul_zero, Nat.add_zero] at hn
  exact ⟨by rw [h.len]; omega, h.all, hn⟩

end Go.Proofs.YtdaglbjdgdokpaaDoor
namespace Go.Proofs.YtdaglbjdgdokpaaDoor
open Go.RowKit
set_option linter.unusedVariables false

theorem Tryd.infoU64 : (Tryd.prog.info? 68).map (fun i => (i.zero, i.size, i.bytes)) = some (some (.int .u64 0), 1, 8) := by kernel_rfl

/-- One digit put into its word, as the walk reckons it. -/
theorem word_num (x i nw : Nat) (hi : i < (dig 65536 x).length) (hnw : ((dig 65536 x).length + 3) / 4 = nw) : ∃ q o d p r : Nat, i / 4 = q ∧ q < nw ∧ wq x (i + 1) q = o ∧ (dig 65536 x)[i] = d ∧ d < 65536 ∧ wq x i q = r ∧ (65536 * (o : Int)) = (p : Int) ∧
    IntKind.u64.wrap (p : Int) = (p : Int) ∧ IntKind.u64.wrap (d : Int) = (d : Int) ∧ IntKind.u64.wrap ((p : Int) + (d : Int)) = (r : Int) := by
  have hd : (dig 65536 x)[i] < 65536 := all_dig 65536 (by decide) x i hi
  have hs := wq_step x i (i / 4) rfl
  rw [← dig_get 65536 (by decide) x i hi] at hs
  have hlt := wq_lt x i (i / 4)
  refine ⟨i / 4, wq x (i + 1) (i / 4), (dig 65536 x)[i], 65536 * wq x (i + 1) (i / 4), wq x i (i / 4), rfl, by omega, rfl, rfl, hd, rfl, by omega, ?_, ?_, ?_⟩
  · rw [IntKind.wrap_u64]; omega
  · rw [IntKind.wrap_u64]; omega
  · rw [IntKind.wrap_u64]; omega

/-- A row of the call's own comes back. -/
def OwEnd (k : IntKind) (t : TypeId) (W : World) (l : List Nat) (e : Ending) (w : World) : Prop := ∃ v, e = .returned v ∧ Ow k t W.heap.size w v l ∧ Bl W w
theorem OwEnd.of {k : IntKind} {t : TypeId} {W w : World} {l m : List Nat} {v : Value} (h : Ow k t W.heap.size w v m) (g : Bl W w) (e' : m = l) : OwEnd k t W l (.returned v) w := ⟨v, rfl, e' ▸ h, g⟩
theorem Bk.ow {k : IntKind} {e : TypeId} {w : World} {g base n : Nat} {l : List Nat} (h : Bk k e w g l) (hb : base ≤ g) (hn : n = l.length) (hm : n ≤ maxLen) : Ow k e base w (.slice (some ⟨g, 0, none⟩) n n) l := by
  subst hn
  refine ⟨by rw [vs_length, Nat.mul_one], .inr ⟨g, l.length, _, rfl, hb, h, Nat.le_refl _, hm, by simp [vs], ?_⟩⟩
  rw [Nat.mul_one]
  apply List.take_of_length_le
  simp [vs]
end Go.Proofs.YtdaglbjdgdokpaaDoor
namespace Go.Proofs.YtdaglbjdgdokpaaDoor
open Go.RowKit
set_option linter.unusedVariables false
set_option linter.unusedSimpArgs false

theorem info14 : (Tryd.prog.info? 68).map (fun i => (i.zero, i.size, i.bytes)) = some (some (.int .u64 0), 1, 8) := by kernel_rfl
/-- What a call answers that hands back a row, bytes and an error. -/
def TkEnd (W : World) (x : Nat × List Nat × List Nat) (e : Ending) (w : World) : Prop := ∃ v, e = .returned (.tuple #[v, .string (bs x.2.2), .int .i64 (x.1 : Int)]) ∧ Rw .u64 w v x.2.1 ∧ Bl W w
theorem TkEnd.mk {W w : World} {x : Nat × List Nat × List Nat} {e : Nat} {l r : List Nat} {v : Value} (hx : x = (e, l, r)) (h : Rw .u64 w v l) (g : Bl W w) : TkEnd W x (.returned (.tuple #[v, .string (bs r), .int .i64 (e : Int)])) w := by
  subst hx; exact ⟨v, rfl, h, g⟩

/-- k words of n have been taken. -/
structure TkI (n : Nat) (s : List Nat) (k : Nat) (a r : List Nat) : Prop where
  le : k ≤ n
  eq : tkWords n s = (tkWords (n - k) r).map fun p => (a ++ p.1, p.2)
  len : a.length = k
  all : All 256 r
  wds : All 18446744073709551616 a
  short : r.length ≤ s.length
theorem tki_start {n : Nat} {s : List Nat} (ha : All 256 s) : TkI n s 0 [] s := ⟨Nat.zero_le _, by cases h : tkWords n s <;> simp [h], rfl, ha, all_nil _, Nat.le_refl _⟩
theorem tki_short {n k : Nat} {s a r : List Nat} (h : TkI n s k a r) (hk : k < n) (h8 : r.length < 8) : tkWords n s = none := by
  obtain ⟨m, hm⟩ : ∃ m, n - k = m + 1 := ⟨n - k - 1, by omega⟩
  rw [h.eq, hm]
  unfold tkWords
  rw [if_pos h8]; rfl
theorem tki_step {n k : Nat} {s a r : List Nat} (h : TkI n s k a r) (hk : k < n) (h8 : ¬ r.length < 8) : TkI n s (k + 1) (a ++ [bnum (r.take 8)]) (r.drop 8) := by
  refine ⟨hk, ?_, by rw [List.length_append, h.len]; rfl, all_dropc h.all 8, all_snoc h.wds (bnum_lt8 (all_take h.all 8) (by rw [List.length_take]; omega)), by rw [List.length_drop]; have := h.short; omega⟩
  obtain ⟨m, hm⟩ : ∃ m, n - k = m + 1 := ⟨n - k - 1, by omega⟩
  rw [h.eq, hm, show n - (k + 1) = m by omega]
  conv => lhs; unfold tkWords
  rw [if_neg h8]
  cases tkWords m (r.drop 8) with
  | none => rfl
  | some p => simp
theorem tki_end {n k : Nat} {s a r : List Nat} (h : TkI n s k a r) (hk : ¬ k < n) : tkWords n s = some (a, r) := by
  obtain rfl : k = n := by have := h.le; omega
  rw [h.eq, Nat.sub_self]
  unfold tkWords
  simp

set_option maxRecDepth 100000 in
set_option maxHeartbeats 4000000 in
theorem rtakeRow_any (s : List Nat) (ha : All 256 s) (hl : s.length ≤ 140737488355328) (w : World) :
    Calls Tryd.prog 37 #[.string (bs s)] w (TkEnd w (tkRow s)) := by
  obtain ⟨i0, hi, hz0, hz1, hz2⟩ := info_parts info14
  have hz := bs_size s
  have hsl : ((bs s).size : Int) ≤ 140737488355328 := by omega
  by_cases h4 : s.length < 4
  · have e0 : tkRow s = (5, [], []) := by unfold tkRow; rw [if_pos h4]
    have d0 : decide (((bs s).size : Int) < 4) = true := decide_eq_true (by omega)
    have d1 : decide ((bs s).size < 4) = true := decide_eq_true (by omega)
    obtain ⟨S, hS⟩ : ∃ S, bs s = S := ⟨_, rfl⟩
    rw [hS] at d0 d1 hsl ⊢
    have HE := Lib.hid e0
    clear hz h4 hS e0
    go_enter Tryd.func37, Tryd.ntmps37
    go_wp2
    go_ret3
    exact TkEnd.mk HE.out (Rw.nil _ _) (Bl.refl _)
  · have d0 : decide (((bs s).size : Int) < 4) = false := decide_eq_false (by omega)
    have d1 : decide ((bs s).size < 4) = false := decide_eq_false (by omega)
    have x1 : (bs s).extract 0 4 = bs (s.take 4) := by rw [bs_extract]; rfl
    have x2 : (bs s).extract 4 (bs s).size = bs (s.drop 4) := by rw [bs_extract, hz]; unfold seg; rw [List.take_length]
    have b1 : (0 : Int) ≤ 4 ∧ (4 : Int) ≤ ((bs s).size : Int) := by omega
    have K4 := Lib.hid (fun w => rnumber_any (s.take 4) (all_take ha 4) (by rw [List.length_take]; omega) w)
    have hn4 := bnum_lt (all_take ha 4)
    rw [List.length_take, show min 4 s.length = 4 by omega, w4] at hn4
    obtain ⟨n, hn⟩ : ∃ n, bnum (s.take 4) = n := ⟨_, rfl⟩
    rw [hn] at K4 hn4
    obtain ⟨S, hS⟩ : ∃ S, bs s = S := ⟨_, rfl⟩
    obtain ⟨T, hT⟩ : ∃ S, bs (s.take 4) = S := ⟨_, rfl⟩
    rw [hT] at K4 x1
    rw [hS] at d0 d1 hsl x1 x2 b1 ⊢
    have nb : (n : Int) ≤ 4294967296 := by omega
    by_cases hbig : 4096 < n
    · have e0 : tkRow s = (4, [], []) := by unfold tkRow; rw [if_neg h4, hn, if_pos hbig]
      have d2 : decide ((4096 : Int) < (n : Int)) = true := decide_eq_true (by omega)
      have d3 : decide (4096 < n) = true := decide_eq_true hbig
      have HE := Lib.hid e0
      clear hz h4 hS hT hn hn4 hbig e0 ha hl
      go_enter Tryd.func37, Tryd.ntmps37
      go_wp2_with (go_at_call 35; (with_reducible refine (K4.out _).mono ?_); rintro e w' ⟨rfl, rfl⟩)
      go_ret3
      exact TkEnd.mk HE.out (Rw.nil _ _) (Bl.refl _)
    · have d2 : decide ((4096 : Int) < (n : Int)) = false := decide_eq_false (by omega)
      have d3 : decide (4096 < n) = false := decide_eq_false hbig
      have nb2 : (n : Int) ≤ 4096 := by omega
      have HT : Hid (tkRow s = match tkWords n (s.drop 4) with
        | none => (5, [], [])
        | some (l, r) => if Nm l then (0, l, r) else (6, [], [])) := by show _ = _; unfold tkRow; rw [if_neg h4, hn, if_neg hbig]; rfl
      have H0 := Lib.hid (tki_start (n := n) (all_dropc ha 4))
      have HL : Hid ((s.drop 4).length ≤ 140737488355328) := by show _ ≤ _; rw [List.length_drop]; omega
      obtain ⟨u, hu⟩ : ∃ u, s.drop 4 = u := ⟨_, rfl⟩
      rw [hu] at x2 H0 HT HL
      obtain ⟨X, hX⟩ : ∃ X, tkRow s = X := ⟨_, rfl⟩
      rw [hX] at HT ⊢
      have KN := Lib.hid (fun (r : List Nat) (h : All 256 r) w => rnumber_any (r.take 8) (all_take h 8) (by rw [List.length_take]; omega) w)
      have HN4 : Hid (n ≤ 4096) := by show n ≤ 4096; omega
      clear hz h4 hS hT hn hn4 hbig ha hl hu hX
      go_enter Tryd.func37, Tryd.ntmps37
      go_wp2_with (go_at_call 35; (with_reducible refine (K4.out _).mono ?_); rintro e w' ⟨rfl, rfl⟩)
      clear d0 d1 d2 d3 x1 x2 b1 hsl
      go_loopw [0, 6, 7] (fun sv ov iv wr => ∃ (k : Nat) (a r : List Nat), sv = .string (bs r) ∧ iv = .int .u64 (k : Int) ∧ Hid (TkI n u k a r) ∧ Hid (Ow .u64 68 w.heap.size wr ov a) ∧ Hid (Bl w wr)) (fun _ _ iv _ => n - (intOf iv).toNat)
      case atStart => exact ⟨0, [], u, rfl, rfl, H0, Ow.nil _ _ _ _, Bl.refl _⟩
      case round =>
        clear H0
        obtain ⟨k, a, r, rfl, rfl, hI, hown, hb⟩ := hrel
        have hle := hI.out.le
        have hz := bs_size r
        have hrl : (bs r).size ≤ 140737488355328 := by rw [hz]; exact Nat.le_trans hI.out.short HL.out
        have kb : (k : Int) ≤ 4096 := by omega
        have rb : ((bs r).size : Int) ≤ 140737488355328 := by omega
        by_cases hlt : k < n
        · by_cases h8 : r.length < 8
          · have HE : Hid (X = (5, [], [])) := by show _ = _; rw [HT.out, tki_short hI.out hlt h8]
            have d0 : decide (((bs r).size : Int) < 8) = true := decide_eq_true (by omega)
            have d1 : decide ((bs r).size < 8) = true := decide_eq_true (by omega)
            obtain ⟨R, hR⟩ : ∃ R, bs r = R := ⟨_, rfl⟩
            rw [hR] at d0 d1 rb ⊢
            clear hz hrl h8 hR hI hle
            go_wp2
            go_ret3
            exact TkEnd.mk HE.out (Rw.nil _ _) hb.out
          · have d0 : decide (((bs r).size : Int) < 8) = false := decide_eq_false (by omega)
            have d1 : decide ((bs r).size < 8) = false := decide_eq_false (by omega)
            have x1 : (bs r).extract 0 8 = bs (r.take 8) := by rw [bs_extract]; rfl
            have x2 : (bs r).extract 8 (bs r).size = bs (r.drop 8) := by rw [bs_extract, hz]; unfold seg; rw [List.take_length]
            have b1 : (0 : Int) ≤ 8 ∧ (8 : Int) ≤ ((bs r).size : Int) := by omega
            have K8 := Lib.hid (fun w => KN.out r hI.out.all w)
            have HS := Lib.hid (tki_step hI.out hlt h8)
            obtain ⟨x, hx⟩ : ∃ x, bnum (r.take 8) = x := ⟨_, rfl⟩
            rw [hx] at K8 HS
            obtain ⟨R, hR⟩ : ∃ R, bs r = R := ⟨_, rfl⟩
            obtain ⟨T8, hT8⟩ : ∃ R, bs (r.take 8) = R := ⟨_, rfl⟩
            rw [hT8] at K8 x1
            rw [hR] at d0 d1 rb x1 x2 b1 ⊢
            have hal : a.length < 1099511627776 := by rw [hI.out.len]; have := HN4.out; omega
            have HAL := Lib.hid hal
            have w1 : IntKind.u64.wrap ((k : Int) + 1) = ((k + 1 : Nat) : Int) := by rw [IntKind.wrap_u64]; omega
            have HK1 : Hid (k + 1 ≤ n) := hlt
            clear hz hrl h8 hR hI hle hx hT8 hal
            go_wp2_with (first
              | (go_at_call 35; (with_reducible refine (K8.out _).mono ?_); rintro e w' ⟨rfl, rfl⟩)
              | (at_builtin; refine app_one w wr .u64 41 68 i0 (.int .u64 0) 8 Tryd.underlying41 hi hz0 hz1 hz2 rfl (by decide) rfl _ _ rfl u6 a x rfl rfl hown.out hb.out HAL.out ?_; intro v' w' hown' hbl'))
            go_roundw
            case rel => exact ⟨k + 1, _, r.drop 8, rfl, by go_num, HS, hown', hbl'⟩
            case measure => have := HK1.out; simp [intOf] <;> omega
        · have he := tki_end hI.out hlt
          have KO := Lib.hid (fun w' (h : Rw .u64 w' u6 a) => rordered_any u6 a w' h)
          have HR := Lib.hid hown.out.rw
          have d0 : decide ((k : Int) < (n : Int)) = false := decide_eq_false (by omega)
          have d1 : decide (k < n) = false := decide_eq_false hlt
          have hal : a.length ≤ 4096 := by rw [hI.out.len]; have := HN4.out; omega
          by_cases hm : Nm a
          · have HE : Hid (X = (0, a, r)) := by show _ = _; rw [HT.out, he]; exact if_pos hm
            rw [decide_eq_true (show Okr a from ⟨hal, hm⟩)] at KO
            clear hz hrl hI hle he hal hlt
            go_wp2_with (go_at_call 50; (with_reducible refine (KO.out _ HR.out).mono ?_); rintro e w' ⟨rfl, rfl⟩)
            go_ret3
            exact TkEnd.mk HE.out HR.out hb.out
          · have HE : Hid (X = (6, [], [])) := by show _ = _; rw [HT.out, he]; exact if_neg hm
            rw [decide_eq_false (p := Okr a) (fun h => hm h.2)] at KO
            clear hz hrl hI hle he hal hlt
            go_wp2_with (go_at_call 50; (with_reducible refine (KO.out _ HR.out).mono ?_); rintro e w' ⟨rfl, rfl⟩)
            go_ret3
            exact TkEnd.mk HE.out (Rw.nil _ _) hb.out
end Go.Proofs.YtdaglbjdgdokpaaDoor
