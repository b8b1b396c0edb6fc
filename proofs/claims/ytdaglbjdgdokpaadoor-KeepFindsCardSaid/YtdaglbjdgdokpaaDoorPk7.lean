/-
  Strings of bytes as lists of numbers; the document's Sum and number of layer 14.
-/
import Derived.Test.YtdaglbjdgdokpaaDoorPk5
import Derived.Test.YtdaglbjdgdokpaaDoorPk6
import Derived.Test.YtdaglbjdgdokpaaDoorReg
import Derived.Laws.BitsAllLaws
namespace Go.Proofs.YtdaglbjdgdokpaaDoor
open Go.RowKit
set_option linter.unusedVariables false
set_option linter.unusedSimpArgs false

/-- The string of bytes. -/
def bs (l : List Nat) : ByteArray := ⟨(l.map UInt8.ofNat).toArray⟩
theorem bs_size (l : List Nat) : (bs l).size = l.length := by show (l.map UInt8.ofNat).toArray.size = _; simp
theorem bs_append (l m : List Nat) : bs l ++ bs m = bs (l ++ m) := by unfold bs; rw [ByteArray.mk_append_mk, List.map_append]
theorem bs_extract (l : List Nat) (i j : Nat) : (bs l).extract i j = bs (seg l i j) := by
  unfold bs seg
  rw [ByteArray.extract_mk, List.map_drop, List.map_take, List.drop_take]
theorem mk_get (u : List UInt8) (i : Nat) (h : i < u.length) : (ByteArray.mk ⟨u⟩)[i]'h = u[i] := rfl
theorem bs_get {l : List Nat} (ha : All 256 l) (i : Nat) (h : i < l.length) (h' : i < (bs l).size) : ((bs l)[i]'h').toNat = l[i] := by
  have e : (bs l)[i]'h' = UInt8.ofNat l[i] := (mk_get (l.map UInt8.ofNat) i (by rw [List.length_map]; exact h)).trans (List.getElem_map _)
  rw [e]
  have := ha i h
  rw [UInt8.toNat_ofNat']
  omega
theorem bs_list (l : List Nat) : (bs l).toList = l.map UInt8.ofNat := by unfold bs; rw [ByteArray.toList_mk]
theorem bs_inj {l m : List Nat} (hl : All 256 l) (hm : All 256 m) (h : bs l = bs m) : l = m := by
  have e : l.length = m.length := by rw [← bs_size, ← bs_size, h]
  refine List.ext_getElem e fun i h1 h2 => ?_
  have a1 := bs_get hl i h1 (by rw [bs_size]; exact h1)
  have a2 := bs_get hm i h2 (by rw [bs_size]; exact h2)
  rw [← a1, ← a2]
  simp only [h]
/-- Any string is one of bytes. -/
theorem bs_of (s : ByteArray) : ∃ l, All 256 l ∧ s = bs l := by
  obtain ⟨⟨s⟩⟩ := s
  refine ⟨s.map UInt8.toNat, fun i h => ?_, ?_⟩
  · rw [List.getElem_map]
    exact UInt8.toNat_lt _
  · unfold bs
    rw [List.map_map]
    have : (UInt8.ofNat ∘ UInt8.toNat) = id := by funext x; simp
    rw [this, List.map_id]
/-- Comparison. -/
theorem bs_beq {l m : List Nat} (hl : All 256 l) (hm : All 256 m) : ((bs l).toList == (bs m).toList) = decide (l = m) := by
  rw [bs_list, bs_list]
  by_cases h : l = m
  · subst h; simp
  · rw [decide_eq_false h, beq_eq_false_iff_ne]
    intro e
    exact h (bs_inj hl hm (by unfold bs; rw [e]))

theorem crBit_alt (v b : Nat) (hv : v < 4294967296) (hb : b < 2) : (if ((v % 2 : Nat) : Int) != (b : Int) then v / 2 ^^^ 3988292384 else v / 2) = crBit v b := by
  unfold crBit
  by_cases h : v % 2 = b
  · rw [if_pos h, if_neg (by simp; omega)]
  · rw [if_neg h, if_pos (by simp; omega)]
set_option maxRecDepth 100000 in
set_option maxHeartbeats 4000000 in
theorem rsum_any (l : List Nat) (ha : All 256 l) (hl : l.length ≤ 140737488355328) (w : World) :
    Calls Tryd.prog 36 #[.string (bs l)] w fun e w' => e = .returned (.int .u32 ((crSum l : Nat) : Int)) ∧ w = w' := by
  have hz := bs_size l
  obtain ⟨n, hn⟩ : ∃ n, l.length = n := ⟨_, rfl⟩
  rw [hn] at hz hl
  have HN := Lib.hid hn
  have HG := Lib.hid (fun i h h' => bs_get ha i h h')
  obtain ⟨s, hs⟩ : ∃ s, bs l = s := ⟨_, rfl⟩
  rw [hs] at hz HG ⊢
  have nb : (n : Int) ≤ 140737488355328 := by omega
  have HA := Lib.hid ha
  have HT := Lib.hid (fun i (h : i < l.length) => crL_take 4294967295 l i h)
  have HE : Hid (crL 4294967295 (l.take n) = crL 4294967295 l) := by show _ = _; rw [← hn, List.take_length]
  have HV : Hid (∀ i, crL 4294967295 (l.take i) < 4294967296) := fun i => crL_lt (by decide) _
  have HC : Hid (crSum l = 4294967295 - crL 4294967295 l) := rfl
  obtain ⟨S, hS⟩ : ∃ S, crSum l = S := ⟨_, rfl⟩
  rw [hS] at HC ⊢
  clear hn hl hS ha hs
  go_enter Tryd.func36, Tryd.ntmps36
  go_wp2
  go_loop [3, 4] (fun v i => ∃ k : Nat, k ≤ n ∧ i = .int .i64 (k : Int) ∧ v = .int .u32 ((crL 4294967295 (l.take k) : Nat) : Int)) (fun _ i => n - (intOf i).toNat)
  case atStart => exact ⟨0, Nat.zero_le _, rfl, rfl⟩
  case round =>
    obtain ⟨k, hk, rfl, rfl⟩ := hrel
    by_cases hlt : k < n
    · have hkl : k < l.length := by rw [HN.out]; exact hlt
      have hg := HG.out k hkl
      have hx := HA.out k hkl
      have ht := HT.out k hkl
      have hv := HV.out k
      obtain ⟨x, ex⟩ : ∃ x, l[k] = x := ⟨_, rfl⟩
      rw [ex] at hg hx ht
      obtain ⟨V, eV⟩ : ∃ V, crL 4294967295 (l.take k) = V := ⟨_, rfl⟩
      rw [eV] at ht hv ⊢
      have HT1 := Lib.hid ht
      have HV1 := Lib.hid hv
      have HX := Lib.hid hx
      have b1 : (0 : Int) ≤ (k : Int) ∧ (k : Int) < (n : Int) := by omega
      clear ht hv eV ex
      go_wp2
      go_loop [3, 5] (fun v i => ∃ j : Nat, j ≤ 8 ∧ i = .int .i64 (j : Int) ∧ v = .int .u32 ((crK V x j : Nat) : Int)) (fun _ i => 8 - (intOf i).toNat)
      case atStart => exact ⟨0, by omega, rfl, rfl⟩
      case round =>
        obtain ⟨j, hj, rfl, rfl⟩ := hrel
        by_cases hj8 : j < 8
        · have hv := crK_lt (v := V) (x := x) HV1.out j
          have hst : crK V x (j + 1) = crBit (crK V x j) (x / 2 ^ j % 2) := rfl
          obtain ⟨v, ev⟩ : ∃ v, crK V x j = v := ⟨_, rfl⟩
          rw [ev] at hv hst ⊢
          have e1 : (x : Int) / 2 ^ j = ((x / 2 ^ j : Nat) : Int) := by rw [show (2 : Int) ^ j = ((2 ^ j : Nat) : Int) by rw [Int.natCast_pow]; rfl, ← Int.natCast_ediv]
          have hy : x / 2 ^ j < 256 := Nat.lt_of_le_of_lt (Nat.div_le_self _ _) HX.out
          obtain ⟨y, ey⟩ : ∃ y, x / 2 ^ j = y := ⟨_, rfl⟩
          rw [ey] at e1 hy hst
          have w1 : IntKind.u32.wrap (y : Int) = (y : Int) := by rw [IntKind.wrap_u32]; omega
          have w2 : bits .and .u32 (y : Int) 1 = ((y % 2 : Nat) : Int) := by have := u32_and_nat y 1 (by omega) (by decide); rw [Nat.and_one_is_mod] at this; exact this
          have w3 : bits .and .u32 (v : Int) 1 = ((v % 2 : Nat) : Int) := by have := u32_and_nat v 1 (by omega) (by decide); rw [Nat.and_one_is_mod] at this; exact this
          have w4 : bits .xor .u32 ((v / 2 : Nat) : Int) 3988292384 = ((v / 2 ^^^ 3988292384 : Nat) : Int) := u32_xor_nat _ _ (by omega) (by decide)
          have hst2 : crK V x (j + 1) = if v % 2 = y % 2 then v / 2 else v / 2 ^^^ 3988292384 := hst
          obtain ⟨p, ep⟩ : ∃ p, v / 2 = p := ⟨_, rfl⟩
          have w5 : (v : Int) / 2 = (p : Int) := by omega
          rw [ep] at w4 hst2
          obtain ⟨q, eq⟩ : ∃ q, p ^^^ 3988292384 = q := ⟨_, rfl⟩
          rw [eq] at w4 hst2
          obtain ⟨c, ec⟩ : ∃ q, y % 2 = q := ⟨_, rfl⟩
          obtain ⟨d, ed⟩ : ∃ q, v % 2 = q := ⟨_, rfl⟩
          rw [ec] at w2 hst2
          rw [ed] at w3 hst2
          have jb : (j : Int) ≤ 8 := by omega
          have xb : (x : Int) ≤ 255 := by omega
          have vb : (v : Int) ≤ 4294967295 := by omega
          have yb : (y : Int) ≤ 255 := by omega
          have HJ : Hid (j + 1 ≤ 8) := hj8
          by_cases hd : d = c
          · rw [if_pos hd] at hst2
            have HS := Lib.hid hst2
            have t0 : ((d : Int) != (c : Int)) = false := by rw [bne_eq_false_iff_eq]; omega
            clear hst hst2 ev ey ep eq ec ed hy hv hd
            go_wp2
            go_round
            case rel => exact ⟨j + 1, HJ.out, by go_num, by rw [HS.out]⟩
            case measure => have := HJ.out; simp [intOf] <;> omega
          · rw [if_neg hd] at hst2
            have HS := Lib.hid hst2
            have t0 : ((d : Int) != (c : Int)) = true := by rw [bne_iff_ne]; omega
            clear hst hst2 ev ey ep eq ec ed hy hv hd
            go_wp2
            go_round
            case rel => exact ⟨j + 1, HJ.out, by go_num, by rw [HS.out]⟩
            case measure => have := HJ.out; simp [intOf] <;> omega
        · obtain rfl : j = 8 := by omega
          rw [← HT1.out]
          have HK1 : Hid (k + 1 ≤ n) := by show k + 1 ≤ n; omega
          clear hj hj8
          go_wp2
          go_round
          case rel => exact ⟨k + 1, HK1.out, by go_num, rfl⟩
          case measure => have := HK1.out; simp [intOf] <;> omega
    · obtain rfl : k = n := by omega
      have hv := HV.out k
      rw [HE.out] at hv ⊢
      obtain ⟨V, eV⟩ : ∃ V, crL 4294967295 l = V := ⟨_, rfl⟩
      have hc := HC.out
      rw [eV] at hv hc ⊢
      have w1 : (4294967295 : Int) - (V : Int) = (S : Int) := by omega
      have w2 : IntKind.u32.wrap (S : Int) = (S : Int) := by rw [IntKind.wrap_u32]; omega
      have sb : (S : Int) ≤ 4294967295 := by omega
      clear hv hc eV
      go_wp2
      go_ret
      exact ⟨rfl, rfl⟩
end Go.Proofs.YtdaglbjdgdokpaaDoor
