/-
  Package crc: encoded, seal.
-/
import Derived.Test.YtdaglbjdgdokpaaDoorPk8
import Derived.Test.YtdaglbjdgdokpaaDoorPk10
import Derived.Test.YtdaglbjdgdokpaaDoorPk14
namespace Go.Proofs.YtdaglbjdgdokpaaDoor
open Go.RowKit
set_option linter.unusedVariables false
set_option linter.unusedSimpArgs false

/-- Numbers, each in k bytes. -/
def encL (k : Nat) : List Nat → List Nat
  | [] => []
  | x :: l => be k x ++ encL k l
theorem encL_append (k : Nat) (l m : List Nat) : encL k (l ++ m) = encL k l ++ encL k m := by
  induction l with
  | nil => rfl
  | cons x l ih => show be k x ++ encL k (l ++ m) = _; rw [ih, ← List.append_assoc]; rfl
theorem encL_len (k : Nat) (l : List Nat) : (encL k l).length = k * l.length := by
  induction l with
  | nil => rfl
  | cons x l ih => show (be k x ++ encL k l).length = _; rw [List.length_append, be_len, ih, List.length_cons, Nat.mul_succ]; omega
theorem encL_all (k : Nat) (l : List Nat) : All 256 (encL k l) := by
  induction l with
  | nil => exact all_nil _
  | cons x l ih => exact all_append (be_all k x) ih
theorem encL_words (l : List Nat) : encL 8 l = wordsB l := by
  induction l with
  | nil => rfl
  | cons x l ih => show be 8 x ++ encL 8 l = be 8 x ++ wordsB l; rw [ih]
theorem encL_one (k x : Nat) : encL k [x] = be k x := List.append_nil _
/-- What stands between two bytes: the words' bytes up to the word i, j of its own. -/
def encF (k : Nat) (l : List Nat) (i j : Nat) : List Nat := encL k (l.take i) ++ (be k (l.getD i 0)).take j
theorem encF_start (k : Nat) (l : List Nat) : encF k l 0 0 = [] := by unfold encF; rw [List.take_zero, List.take_zero]; rfl
theorem encF_next (k : Nat) (l : List Nat) (i : Nat) (h : i < l.length) : encF k l i k = encF k l (i + 1) 0 := by
  have e1 : ∀ x, (be k x).take k = be k x := fun x => List.take_of_length_le (by rw [be_len]; exact Nat.le_refl _)
  unfold encF
  rw [List.take_zero, List.append_nil, List.take_succ_eq_append_getElem h, encL_append, encL_one, e1]
  simp [List.getD_eq_getElem?_getD, h]
theorem encF_end (k : Nat) (l : List Nat) : encF k l l.length 0 = encL k l := by unfold encF; rw [List.take_zero, List.append_nil, List.take_length]
theorem be_at : ∀ (n v j : Nat) (h : j < (be n v).length), (be n v)[j] = v / 256 ^ (n - 1 - j) % 256 := by
  intro n
  induction n with
  | zero => intro v j h; exact absurd h (by simp [be])
  | succ n ih =>
    intro v j h
    have e := be_cons n v
    match j with
    | 0 => simp [e]
    | j + 1 =>
      simp only [e, List.getElem_cons_succ]
      rw [ih v j (by rw [e] at h; simpa using h)]
      rw [show n + 1 - 1 - (j + 1) = n - 1 - j by omega]
theorem encF_step (k : Nat) (l : List Nat) (i j : Nat) (h : j < k) : encF k l i (j + 1) = encF k l i j ++ [l.getD i 0 / 256 ^ (k - 1 - j) % 256] := by
  unfold encF
  have hl : j < (be k (l.getD i 0)).length := by rw [be_len]; exact h
  rw [List.take_succ_eq_append_getElem hl, be_at, List.append_assoc]
theorem encF_len (k : Nat) (l : List Nat) (i j : Nat) (hi : i ≤ l.length) (hj : j ≤ k) : (encF k l i j).length = k * i + j := by
  unfold encF
  rw [List.length_append, encL_len, List.length_take, List.length_take, be_len, Nat.min_eq_left hi, Nat.min_eq_left hj]
theorem info8 : (Tryd.prog.info? 5).map (fun i => (i.zero, i.size, i.bytes)) = some (some (.int .u8 0), 1, 1) := by kernel_rfl
/-- A slice of bytes as a string. -/
theorem bs_conv {P : Program} (w : World) (src dst e : TypeId) (hs : P.underlying src = some (.slice e)) (he : P.underlying e = some (.int .u8)) (hd : P.underlying dst = some .string) {v : Value} {l : List Nat} (h : Rw .u8 w v l) (ha : All 256 l) :
    (convert src dst v).run P w = .ok (.string (bs l)) w := by
  obtain ⟨A, c, rfl, h1, h2, h3, h4⟩ := h
  rcases Nat.eq_zero_or_pos l.length with h0 | h0
  · obtain rfl := List.length_eq_zero_iff.1 h0
    rw [run_convert_bytes_string w src dst e A _ c hs he hd]
    cases A with
    | none => simp [Conv.bytesToString, bs]; rfl
    | some ad =>
      have hl := run_loadCells_list (P := P) w ad [] (fun j v hj => by simp at hj)
      exact run_bytesToString w ad 0 c [] hl
  · obtain ⟨ad, rfl, hb, hc⟩ := h4 h0
    have hx := run_convert_bytes_back (P := P) w src dst e ad c (l.map UInt8.ofNat) hs he hd (fun j hj => by
      rw [List.length_map] at hj
      rw [hc j hj, List.getElem_map]
      have := ha j hj
      have e2 : (UInt8.ofNat l[j]).toNat = l[j] := by rw [UInt8.toNat_ofNat']; omega
      rw [e2])
    rw [List.length_map] at hx
    exact hx

/-- What a call answers that hands back a string. -/
def StEnd (W : World) (l : List Nat) (e : Ending) (w : World) : Prop := e = .returned (.string (bs l)) ∧ Bl W w
set_option maxRecDepth 100000 in
set_option maxHeartbeats 4000000 in
theorem pencoded_any (k : Nat) (v : Value) (l : List Nat) (hk : k ≤ 8) (hl : l.length ≤ 4096) (ha : All 18446744073709551616 l) (w : World) (hr : Rw .u64 w v l) :
    Calls Tryd.prog 55 #[.int .i64 (k : Int), v] w (StEnd w (encL k l)) := by
  obtain ⟨i0, hi, hz0, hz1, hz2⟩ := info_parts info8
  obtain ⟨A, c, rfl, h1, h2, _, hx⟩ := hr
  have HX := Lib.hid hx
  have HA := Lib.hid ha
  have HS0 := Lib.hid (encF_start k l)
  have HSN := Lib.hid (encF_next k l)
  have HSS := Lib.hid (encF_step k l)
  have HSL := Lib.hid (encF_len k l)
  have HSE := encF_end k l
  have hal := encL_all k l
  rw [← HSE] at hal ⊢
  have HG : Hid (∀ i (h : i < l.length), l.getD i 0 = l[i]) := fun i h => by simp [List.getD_eq_getElem?_getD, h]
  obtain ⟨n, hn⟩ : ∃ n, l.length = n := ⟨_, rfl⟩
  rw [hn] at hl HSL hal ⊢
  have HN := Lib.hid hn
  have HCV : Hid (∀ (W : World) v, Rw .u8 W v (encF k l n 0) → (convert 84 9 v).run Tryd.prog W = .ok (.string (bs (encF k l n 0))) W) := fun W v h => bs_conv W _ _ _ Tryd.underlying84 Tryd.underlying5 Tryd.underlying9 h hal
  obtain ⟨F, hF⟩ : ∃ F, encF k l = F := ⟨_, rfl⟩
  rw [hF] at HS0 HSN HSS HSL HCV ⊢
  have nb : (n : Int) ≤ 4096 := by omega
  have kb : (k : Int) ≤ 8 := by omega
  have hkn : k * n ≤ 8 * 4096 := Nat.mul_le_mul hk hl
  obtain ⟨m, hm⟩ : ∃ m, k * n = m := ⟨_, rfl⟩
  have r0 : (k : Int) * (n : Int) = (m : Int) := by rw [← hm, Int.natCast_mul]
  rw [hm] at hkn
  have mb : (m : Int) ≤ 32768 := by omega
  have HL := Lib.hid hl
  have HK := Lib.hid hk
  have HM := Lib.hid hkn
  clear hn hl h1 h2 hx ha hF HSE hal hk hm hkn
  go_enter Tryd.func55, Tryd.ntmps55
  go_wp2_with (at_make; refine wpList_make_own _ rfl _ _ 84 rfl w.heap.size 5 i0 (.int .u8 0) 1 Tryd.underlying84 hi hz0 hz1 .i64 .i64 _ m rfl rfl (by first | exact r0 | rfl | omega) (by rw [hz2]; have := HM.out; omega) (by unfold maxLen; have := HM.out; omega) (Nat.le_refl _) ?_; intro w0 ho0 hg0; have O0 : Hid (Ow .u8 5 w.heap.size w0 (.slice (some ⟨w.heap.size, 0, none⟩) 0 m) []) := ho0; have B0 := Lib.hid (Bl.of_grownBy hg0); clear ho0 hg0)
  go_loopw [5, 16] (fun bv iv wr => ∃ i : Nat, i ≤ n ∧ iv = .int .i64 (i : Int) ∧ Hid (Ow .u8 5 w.heap.size wr bv (F i 0)) ∧ Hid (Bl w wr)) (fun _ iv _ => n - (intOf iv).toNat)
  case atStart => exact ⟨0, Nat.zero_le _, rfl, by rw [HS0.out]; exact O0, B0⟩
  case round =>
    obtain ⟨i, hin, rfl, hown, hb⟩ := hrel
    by_cases hlt : i < n
    · have hil : i < l.length := by rw [HN.out]; exact hlt
      obtain ⟨ad, rfl, hc⟩ := (HX.out.bl hb.out).at_ hil
      have hx := HA.out i hil
      have hg := HG.out i hil
      obtain ⟨x, ex⟩ : ∃ x, l[i] = x := ⟨_, rfl⟩
      rw [ex] at hc hx hg
      have hst := HSS.out i
      rw [hg] at hst
      have HST := Lib.hid hst
      have HNX := HSN.out i hil
      have b1 : (0 : Int) ≤ (i : Int) ∧ (i : Int) < (n : Int) := by omega
      have HK1 : Hid (i + 1 ≤ n) := hlt
      have HLN : Hid (∀ j, j ≤ k → (F i j).length < 1099511627776) := fun j hj => by
        rw [HSL.out i j (by omega) hj]
        have h1 : k * i ≤ 8 * 4096 := Nat.mul_le_mul HK.out (Nat.le_trans (Nat.le_of_lt hlt) HL.out)
        have := HK.out
        omega
      have xb : (x : Int) ≤ 18446744073709551615 := by omega
      have HXB := Lib.hid hx
      clear hst ex hg hx
      go_wp2
      go_loopw [5, 21] (fun bv jv wr => ∃ j : Nat, j ≤ k ∧ jv = .int .i64 (j : Int) ∧ Hid (Ow .u8 5 w.heap.size wr bv (F i j)) ∧ Hid (Bl w wr)) (fun _ jv _ => k - (intOf jv).toNat)
      case atStart => exact ⟨0, Nat.zero_le _, rfl, hown, hb⟩
      case round =>
        obtain ⟨j, hjk, rfl, hown2, hb2⟩ := hrel
        by_cases hj : j < k
        · have hst := HST.out j hj
          have hlen := HLN.out j hjk
          obtain ⟨d, hd⟩ : ∃ d, k - 1 - j = d := ⟨_, rfl⟩
          have r1 : (k : Int) - 1 - (j : Int) = (d : Int) := by omega
          have r2 : (8 : Int) * (d : Int) = ((8 * d : Nat) : Int) := by omega
          rw [hd] at hst
          have hp : (256 : Nat) ^ d = 2 ^ (8 * d) := by rw [Nat.pow_mul]
          rw [hp] at hst
          have hd8 : 8 * d < 64 := by have := HK.out; omega
          obtain ⟨g, hg⟩ : ∃ g, 8 * d = g := ⟨_, rfl⟩
          rw [hg] at hst r2 hd8
          have r3 : (x : Int) / 2 ^ g = ((x / 2 ^ g : Nat) : Int) := by rw [show (2 : Int) ^ g = ((2 ^ g : Nat) : Int) by rw [Int.natCast_pow]; rfl, ← Int.natCast_ediv]
          obtain ⟨y, hy⟩ : ∃ y, x / 2 ^ g = y := ⟨_, rfl⟩
          rw [hy] at hst r3
          have r4 : IntKind.u8.wrap (y : Int) = ((y % 256 : Nat) : Int) := by rw [IntKind.wrap_u8]; omega
          obtain ⟨z, hz⟩ : ∃ z, y % 256 = z := ⟨_, rfl⟩
          rw [hz] at hst r4
          have HS := Lib.hid hst
          have HLE := Lib.hid hlen
          have gb : (g : Int) < 64 := by omega
          have db : (d : Int) ≤ 8 := by omega
          have jb : (j : Int) ≤ 8 := by omega
          have HJ1 : Hid (j + 1 ≤ k) := hj
          clear hst hlen hd hp hd8 hg hy hz
          go_wp2_with (at_builtin; refine app_one w wr .u8 84 5 i0 (.int .u8 0) 1 Tryd.underlying84 hi hz0 hz1 hz2 rfl (by decide) rfl _ _ rfl u5 (F i j) z rfl rfl hown2.out hb2.out HLE.out ?_; intro v' w' hown' hbl'; rw [← HS.out] at hown')
          go_roundw
          case rel => exact ⟨j + 1, HJ1.out, by go_num, hown', hbl'⟩
          case measure => have := HJ1.out; simp [intOf] <;> omega
        · obtain rfl : j = k := by omega
          rw [HNX] at hown2
          clear hjk hj hown
          go_wp2
          go_roundw
          case rel => exact ⟨i + 1, HK1.out, by go_num, hown2, hb2⟩
          case measure => have := HK1.out; simp [intOf] <;> omega
    · obtain rfl : i = n := by omega
      have hcv := HCV.out wr u5 hown.out.rw
      clear hin hlt HSN HSS HSL HA HG
      go_wp2
      go_ret
      exact ⟨rfl, hb.out⟩

/-- What a call answers that hands back bytes and an error. -/
def BsEnd (W : World) (l : List Nat) (err : Nat) (e : Ending) (w : World) : Prop := e = .returned (.tuple #[.string (bs l), .int .i64 (err : Int)]) ∧ Bl W w
theorem bs_sum {l m : List Nat} (h : l.length + m.length ≤ 1048576) (W : World) : (Op.stringOp .add (bs l) (bs m)).run Tryd.prog W = .ok (.string (bs (l ++ m))) W := by
  rw [run_string_add_sum W _ _ (by rw [bs_size, bs_size]; omega), bs_append]
/-- A row of words that a literal lays. -/
theorem rw_lit {W : World} {b n : Nat} {t : TypeId} (l : List Nat) (hb : b = W.heap.size) (hn : n = l.length) (hl : n ≤ 4096) : Rw .u64 (W.alloc (.cells (l.map fun (x : Nat) => Value.int .u64 (x : Int)).toArray t)) (.slice (some ⟨b, 0, none⟩) n n) l := by
  subst hb; subst hn
  refine ⟨some ⟨W.heap.size, 0, none⟩, l.length, rfl, Nat.le_refl _, by unfold maxLen; omega, (fun h => by cases h), fun h0 => ⟨_, rfl, by show W.heap.size < (W.heap.push _).size; simp, fun i hi => ?_⟩⟩
  rw [add_none, Nat.zero_add]
  exact (Bq.new W t (l.map fun (x : Nat) => Value.int .u64 (x : Int))).cell i (by rw [List.getElem?_map, List.getElem?_eq_getElem hi]; rfl)
set_option maxRecDepth 100000 in
theorem pseal_any (l : List Nat) (ha : All 256 l) (hl : l.length ≤ 281474976710656) (w : World) :
    Calls Tryd.prog 43 #[.string (bs l)] w (StEnd w (be 4 (crSum l))) := by
  have KS := Lib.hid (psum_any l ha hl w)
  have hs := crSum_lt l
  rw [← encL_one]
  obtain ⟨x, ex⟩ : ∃ x, crSum l = x := ⟨_, rfl⟩
  rw [ex] at KS hs ⊢
  have KE : Hid (∀ (W : World) (b : Nat), b = W.heap.size → Calls Tryd.prog 55 #[.int .i64 4, .slice (some ⟨b, 0, none⟩) 1 1] (W.alloc (.cells #[.int .u64 (x : Int)] 68)) (StEnd (W.alloc (.cells #[.int .u64 (x : Int)] 68)) (encL 4 [x]))) :=
    fun W b hb => pencoded_any 4 _ [x] (by decide) (by simp) (all_cons (by omega) (all_nil _)) _ (rw_lit [x] hb rfl (by decide))
  have w1 : IntKind.u64.wrap (x : Int) = (x : Int) := wrapN _ (by omega)
  obtain ⟨s, es⟩ : ∃ s, bs l = s := ⟨_, rfl⟩
  rw [es] at KS ⊢
  clear ex es hs ha hl
  go_enter Tryd.func43, Tryd.ntmps43
  go_wp2_with (first
    | (go_at_call 56; (with_reducible refine KS.out.mono ?_); rintro e w' ⟨rfl, rfl⟩)
    | (go_at_call 55; (with_reducible refine (KE.out _ _ rfl).mono ?_); rintro e w1 ⟨rfl, hb⟩; have B1 := Lib.hid (((Bl.refl w).alloc _).trans hb); clear hb))
  go_ret
  exact ⟨rfl, B1.out⟩
end Go.Proofs.YtdaglbjdgdokpaaDoor
