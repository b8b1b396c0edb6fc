/-
  The document's takeRow of layer 14.
-/
import Derived.Test.YtpdglbfnmilblaaDoorPk12
import Derived.Test.YtpdglbfnmilblaaDoorPk17
namespace Go.Proofs.YtpdglbfnmilblaaDoor
open Go.RowKit
set_option linter.unusedVariables false
set_option linter.unusedSimpArgs false

theorem info14 : (Tryd.prog.info? 59).map (fun i => (i.zero, i.size, i.bytes)) = some (some (.int .u64 0), 1, 8) := by kernel_rfl
/-- What a call answers that hands back a row, bytes and an error. -/
def TkEnd (W : World) (x : Nat × List Nat × List Nat) (e : Ending) (w : World) : Prop := ∃ v, e = .returned (.tuple #[v, .string (bs x.2.2), .int .i64 (x.1 : Int)]) ∧ Rw .u64 w v x.2.1 ∧ Bl W w
theorem TkEnd.mk {W w : World} {x : Nat × List Nat × List Nat} {e : Nat} {l r : List Nat} {v : Value} (hx : x = (e, l, r)) (h : Rw .u64 w v l) (g : Bl W w) : TkEnd W x (.returned (.tuple #[v, .string (bs r), .int .i64 (e : Int)])) w := by
  subst hx; exact ⟨v, rfl, h, g⟩

/-- k words of n have been taken. -/
structure TkI (n : Nat) (s : List Nat) (k : Nat) (a r : List Nat) : Prop where
  le : k ≤ n
  eq : tkWords n s = (tkWords (n - k) r).map fun p => (a ++ p.1, p.2)
  len : a.length = k
  all : All 256 r
  wds : All 18446744073709551616 a
  short : r.length ≤ s.length
theorem tki_start {n : Nat} {s : List Nat} (ha : All 256 s) : TkI n s 0 [] s := ⟨Nat.zero_le _, by cases h : tkWords n s <;> simp [h], rfl, ha, all_nil _, Nat.le_refl _⟩
theorem tki_short {n k : Nat} {s a r : List Nat} (h : TkI n s k a r) (hk : k < n) (h8 : r.length < 8) : tkWords n s = none := by
  obtain ⟨m, hm⟩ : ∃ m, n - k = m + 1 := ⟨n - k - 1, by omega⟩
  rw [h.eq, hm]
  unfold tkWords
  rw [if_pos h8]; rfl
theorem tki_step {n k : Nat} {s a r : List Nat} (h : TkI n s k a r) (hk : k < n) (h8 : ¬ r.length < 8) : TkI n s (k + 1) (a ++ [bnum (r.take 8)]) (r.drop 8) := by
  refine ⟨hk, ?_, by rw [List.length_append, h.len]; rfl, all_dropc h.all 8, all_snoc h.wds (bnum_lt8 (all_take h.all 8) (by rw [List.length_take]; omega)), by rw [List.length_drop]; have := h.short; omega⟩
  obtain ⟨m, hm⟩ : ∃ m, n - k = m + 1 := ⟨n - k - 1, by omega⟩
  rw [h.eq, hm, show n - (k + 1) = m by omega]
  conv => lhs; unfold tkWords
  rw [if_neg h8]
  cases tkWords m (r.drop 8) with
  | none => rfl
  | some p => simp
theorem tki_end {n k : Nat} {s a r : List Nat} (h : TkI n s k a r) (hk : ¬ k < n) : tkWords n s = some (a, r) := by
  obtain rfl : k = n := by have := h.le; omega
  rw [h.eq, Nat.sub_self]
  unfold tkWords
  simp

set_option maxRecDepth 100000 in
set_option maxHeartbeats 4000000 in
theorem rtakeRow_any (s : List Nat) (ha : All 256 s) (hl : s.length ≤ 140737488355328) (w : World) :
    Calls Tryd.prog 29 #[.string (bs s)] w (TkEnd w (tkRow s)) := by
  obtain ⟨i0, hi, hz0, hz1, hz2⟩ := info_parts info14
  have hz := bs_size s
  have hsl : ((bs s).size : Int) ≤ 140737488355328 := by omega
  by_cases h4 : s.length < 4
  · have e0 : tkRow s = (5, [], []) := by unfold tkRow; rw [if_pos h4]
    have d0 : decide (((bs s).size : Int) < 4) = true := decide_eq_true (by omega)
    have d1 : decide ((bs s).size < 4) = true := decide_eq_true (by omega)
    obtain ⟨S, hS⟩ : ∃ S, bs s = S := ⟨_, rfl⟩
    rw [hS] at d0 d1 hsl ⊢
    have HE := Lib.hid e0
    clear hz h4 hS e0
    go_enter Tryd.func29, Tryd.ntmps29
    go_wp2
    go_ret3
    exact TkEnd.mk HE.out (Rw.nil _ _) (Bl.refl _)
  · have d0 : decide (((bs s).size : Int) < 4) = false := decide_eq_false (by omega)
    have d1 : decide ((bs s).size < 4) = false := decide_eq_false (by omega)
    have x1 : (bs s).extract 0 4 = bs (s.take 4) := by rw [bs_extract]; rfl
    have x2 : (bs s).extract 4 (bs s).size = bs (s.drop 4) := by rw [bs_extract, hz]; unfold seg; rw [List.take_length]
    have b1 : (0 : Int) ≤ 4 ∧ (4 : Int) ≤ ((bs s).size : Int) := by omega
    have K4 := Lib.hid (fun w => rnumber_any (s.take 4) (all_take ha 4) (by rw [List.length_take]; omega) w)
    have hn4 := bnum_lt (all_take ha 4)
    rw [List.length_take, show min 4 s.length = 4 by omega, w4] at hn4
    obtain ⟨n, hn⟩ : ∃ n, bnum (s.take 4) = n := ⟨_, rfl⟩
    rw [hn] at K4 hn4
    obtain ⟨S, hS⟩ : ∃ S, bs s = S := ⟨_, rfl⟩
    obtain ⟨T, hT⟩ : ∃ S, bs (s.take 4) = S := ⟨_, rfl⟩
    rw [hT] at K4 x1
    rw [hS] at d0 d1 hsl x1 x2 b1 ⊢
    have nb : (n : Int) ≤ 4294967296 := by omega
    by_cases hbig : 4096 < n
    · have e0 : tkRow s = (4, [], []) := by unfold tkRow; rw [if_neg h4, hn, if_pos hbig]
      have d2 : decide ((4096 : Int) < (n : Int)) = true := decide_eq_true (by omega)
      have d3 : decide (4096 < n) = true := decide_eq_true hbig
      have HE := Lib.hid e0
      clear hz h4 hS hT hn hn4 hbig e0 ha hl
      go_enter Tryd.func29, Tryd.ntmps29
      go_wp2_with (go_at_call 28; (with_reducible refine (K4.out _).mono ?_); rintro e w' ⟨rfl, rfl⟩)
      go_ret3
      exact TkEnd.mk HE.out (Rw.nil _ _) (Bl.refl _)
    · have d2 : decide ((4096 : Int) < (n : Int)) = false := decide_eq_false (by omega)
      have d3 : decide (4096 < n) = false := decide_eq_false hbig
      have nb2 : (n : Int) ≤ 4096 := by omega
      have HT : Hid (tkRow s = match tkWords n (s.drop 4) with
        | none => (5, [], [])
        | some (l, r) => if Nm l then (0, l, r) else (6, [], [])) := by show _ = _; unfold tkRow; rw [if_neg h4, hn, if_neg hbig]; rfl
      have H0 := Lib.hid (tki_start (n := n) (all_dropc ha 4))
      have HL : Hid ((s.drop 4).length ≤ 140737488355328) := by show _ ≤ _; rw [List.length_drop]; omega
      obtain ⟨u, hu⟩ : ∃ u, s.drop 4 = u := ⟨_, rfl⟩
      rw [hu] at x2 H0 HT HL
      obtain ⟨X, hX⟩ : ∃ X, tkRow s = X := ⟨_, rfl⟩
      rw [hX] at HT ⊢
      have KN := Lib.hid (fun (r : List Nat) (h : All 256 r) w => rnumber_any (r.take 8) (all_take h 8) (by rw [List.length_take]; omega) w)
      have HN4 : Hid (n ≤ 4096) := by show n ≤ 4096; omega
      clear hz h4 hS hT hn hn4 hbig ha hl hu hX
      go_enter Tryd.func29, Tryd.ntmps29
      go_wp2_with (go_at_call 28; (with_reducible refine (K4.out _).mono ?_); rintro e w' ⟨rfl, rfl⟩)
      clear d0 d1 d2 d3 x1 x2 b1 hsl
      go_loopw [0, 6, 7] (fun sv ov iv wr => ∃ (k : Nat) (a r : List Nat), sv = .string (bs r) ∧ iv = .int .u64 (k : Int) ∧ Hid (TkI n u k a r) ∧ Hid (Ow .u64 59 w.heap.size wr ov a) ∧ Hid (Bl w wr)) (fun _ _ iv _ => n - (intOf iv).toNat)
      case atStart => exact ⟨0, [], u, rfl, rfl, H0, Ow.nil _ _ _ _, Bl.refl _⟩
      case round =>
        clear H0
        obtain ⟨k, a, r, rfl, rfl, hI, hown, hb⟩ := hrel
        have hle := hI.out.le
        have hz := bs_size r
        have hrl : (bs r).size ≤ 140737488355328 := by rw [hz]; exact Nat.le_trans hI.out.short HL.out
        have kb : (k : Int) ≤ 4096 := by omega
        have rb : ((bs r).size : Int) ≤ 140737488355328 := by omega
        by_cases hlt : k < n
        · by_cases h8 : r.length < 8
          · have HE : Hid (X = (5, [], [])) := by show _ = _; rw [HT.out, tki_short hI.out hlt h8]
            have d0 : decide (((bs r).size : Int) < 8) = true := decide_eq_true (by omega)
            have d1 : decide ((bs r).size < 8) = true := decide_eq_true (by omega)
            obtain ⟨R, hR⟩ : ∃ R, bs r = R := ⟨_, rfl⟩
            rw [hR] at d0 d1 rb ⊢
            clear hz hrl h8 hR hI hle
            go_wp2
            go_ret3
            exact TkEnd.mk HE.out (Rw.nil _ _) hb.out
          · have d0 : decide (((bs r).size : Int) < 8) = false := decide_eq_false (by omega)
            have d1 : decide ((bs r).size < 8) = false := decide_eq_false (by omega)
            have x1 : (bs r).extract 0 8 = bs (r.take 8) := by rw [bs_extract]; rfl
            have x2 : (bs r).extract 8 (bs r).size = bs (r.drop 8) := by rw [bs_extract, hz]; unfold seg; rw [List.take_length]
            have b1 : (0 : Int) ≤ 8 ∧ (8 : Int) ≤ ((bs r).size : Int) := by omega
            have K8 := Lib.hid (fun w => KN.out r hI.out.all w)
            have HS := Lib.hid (tki_step hI.out hlt h8)
            obtain ⟨x, hx⟩ : ∃ x, bnum (r.take 8) = x := ⟨_, rfl⟩
            rw [hx] at K8 HS
            obtain ⟨R, hR⟩ : ∃ R, bs r = R := ⟨_, rfl⟩
            obtain ⟨T8, hT8⟩ : ∃ R, bs (r.take 8) = R := ⟨_, rfl⟩
            rw [hT8] at K8 x1
            rw [hR] at d0 d1 rb x1 x2 b1 ⊢
            have hal : a.length < 1099511627776 := by rw [hI.out.len]; have := HN4.out; omega
            have HAL := Lib.hid hal
            have w1 : IntKind.u64.wrap ((k : Int) + 1) = ((k + 1 : Nat) : Int) := by rw [IntKind.wrap_u64]; omega
            have HK1 : Hid (k + 1 ≤ n) := hlt
            clear hz hrl h8 hR hI hle hx hT8 hal
            go_wp2_with (first
              | (go_at_call 28; (with_reducible refine (K8.out _).mono ?_); rintro e w' ⟨rfl, rfl⟩)
              | (at_builtin; refine app_one w wr .u64 26 59 i0 (.int .u64 0) 8 Tryd.underlying26 hi hz0 hz1 hz2 rfl (by decide) rfl _ _ rfl u6 a x rfl rfl hown.out hb.out HAL.out ?_; intro v' w' hown' hbl'))
            go_roundw
            case rel => exact ⟨k + 1, _, r.drop 8, rfl, by go_num, HS, hown', hbl'⟩
            case measure => have := HK1.out; simp [intOf] <;> omega
        · have he := tki_end hI.out hlt
          have KO := Lib.hid (fun w' (h : Rw .u64 w' u6 a) => rordered_any u6 a w' h)
          have HR := Lib.hid hown.out.rw
          have d0 : decide ((k : Int) < (n : Int)) = false := decide_eq_false (by omega)
          have d1 : decide (k < n) = false := decide_eq_false hlt
          have hal : a.length ≤ 4096 := by rw [hI.out.len]; have := HN4.out; omega
          by_cases hm : Nm a
          · have HE : Hid (X = (0, a, r)) := by show _ = _; rw [HT.out, he]; exact if_pos hm
            rw [decide_eq_true (show Okr a from ⟨hal, hm⟩)] at KO
            clear hz hrl hI hle he hal hlt
            go_wp2_with (go_at_call 35; (with_reducible refine (KO.out _ HR.out).mono ?_); rintro e w' ⟨rfl, rfl⟩)
            go_ret3
            exact TkEnd.mk HE.out HR.out hb.out
          · have HE : Hid (X = (6, [], [])) := by show _ = _; rw [HT.out, he]; exact if_neg hm
            rw [decide_eq_false (p := Okr a) (fun h => hm h.2)] at KO
            clear hz hrl hI hle he hal hlt
            go_wp2_with (go_at_call 35; (with_reducible refine (KO.out _ HR.out).mono ?_); rintro e w' ⟨rfl, rfl⟩)
            go_ret3
            exact TkEnd.mk HE.out (Rw.nil _ _) hb.out
end Go.Proofs.YtpdglbfnmilblaaDoor
