/-
  The names of ranges, as plain data (layer 16). · Package keep's names of ranges: decimal, joined, Name. · What the conditions on the library's tables give; the door's own heap meets them. · Package crc: Sum.
-/
import Derived.Test.YtdaglbjdgdokpaaDoorPk7
import Derived.Test.YtdaglbjdgdokpaaDoorPk13
import Derived.Test.YtdaglbjdgdokpaaDoorPk10
import Derived.Lib.SmallJoins
import Derived.Lib.AppendIntMem
import Derived.Laws.Small
import Derived.Deep.RegionWith
import Derived.Test.YtdaglbjdgdokpaaDoorRows
import Derived.ProofKit
import Derived.LaidMore
import Derived.LaidHandle
import Derived.OpenShut
import Derived.Stop.Joined
import Derived.Stop.LaidErr
namespace Go.Proofs.YtdaglbjdgdokpaaDoor
open Go.RowKit
set_option linter.unusedVariables false
set_option linter.unusedSimpArgs false

/-! ### Names -/
/-- A number's decimal. -/
def figs (n : Nat) : List Nat := if n < 10 then [48 + n] else figs (n / 10) ++ [48 + n % 10]
termination_by n
decreasing_by omega
theorem figs_small {n : Nat} (h : n < 10) : figs n = [48 + n] := by rw [figs, if_pos h]
theorem figs_big {n : Nat} (h : ¬ n < 10) : figs n = figs (n / 10) ++ [48 + n % 10] := by rw [figs, if_neg h]
theorem figs_mem : ∀ n : Nat, ∀ x ∈ figs n, 48 ≤ x ∧ x ≤ 57 := by
  intro n
  induction n using Nat.strongRecOn with
  | ind n ih =>
    intro x hx
    by_cases h : n < 10
    · rw [figs_small h] at hx
      have : x = 48 + n := by simpa using hx
      omega
    · rw [figs_big h] at hx
      rcases List.mem_append.1 hx with h1 | h1
      · exact ih (n / 10) (by omega) x h1
      · have : x = 48 + n % 10 := by simpa using h1
        omega
theorem figs_ne (n : Nat) : figs n ≠ [] := by
  by_cases h : n < 10
  · rw [figs_small h]; simp
  · rw [figs_big h]; simp
theorem figs_one {n : Nat} (h : (figs n).length = 1) : n < 10 := by
  by_cases h1 : n < 10
  · exact h1
  · rw [figs_big h1, List.length_append, List.length_singleton] at h
    have := List.length_pos_iff.2 (figs_ne (n / 10))
    omega
theorem figs_inj : ∀ n m : Nat, figs n = figs m → n = m := by
  intro n
  induction n using Nat.strongRecOn with
  | ind n ih =>
    intro m e
    by_cases h : n < 10
    · have h2 : m < 10 := figs_one (by rw [← e, figs_small h]; rfl)
      rw [figs_small h, figs_small h2] at e
      simp at e
      exact e
    · by_cases h2 : m < 10
      · exact absurd (figs_one (by rw [e, figs_small h2]; rfl)) h
      · rw [figs_big h, figs_big h2] at e
        have e1 := List.append_inj' e rfl
        have e2 := ih (n / 10) (by omega) (m / 10) e1.1
        have e3 : 48 + n % 10 = 48 + m % 10 := by simpa using e1.2
        omega
/-- The name of a range, byte by byte. -/
def nmL (f t : Int) : List Nat := 99 :: (figs f.toNat ++ 45 :: figs t.toNat)
def nmB (f t : Int) : ByteArray := bs (nmL f t)
theorem nmL_all (f t : Int) : All 256 (nmL f t) := by
  have hm : ∀ x ∈ nmL f t, x < 256 := by
    intro x hx
    rcases List.mem_cons.1 hx with rfl | h1
    · decide
    · rcases List.mem_append.1 h1 with h2 | h2
      · have := figs_mem _ x h2; omega
      · rcases List.mem_cons.1 h2 with rfl | h3
        · decide
        · have := figs_mem _ x h3; omega
  exact fun i h => hm _ (List.getElem_mem h)
theorem split_at {a b c d : List Nat} (ha : ∀ x ∈ a, x ≠ 45) (hc : ∀ x ∈ c, x ≠ 45) (e : a ++ 45 :: b = c ++ 45 :: d) : a = c ∧ b = d := by
  induction a generalizing c with
  | nil =>
    cases c with
    | nil => simp at e; exact ⟨rfl, e⟩
    | cons y c =>
      simp at e
      exact absurd e.1.symm (hc y (List.mem_cons_self ..))
  | cons x a ih =>
    cases c with
    | nil =>
      simp at e
      exact absurd e.1 (ha x (List.mem_cons_self ..))
    | cons y c =>
      simp at e
      obtain ⟨rfl, e⟩ := e
      obtain ⟨rfl, rfl⟩ := ih (fun z hz => ha z (List.mem_cons_of_mem _ hz)) (fun z hz => hc z (List.mem_cons_of_mem _ hz)) e
      exact ⟨rfl, rfl⟩
theorem figs_no (n : Nat) : ∀ x ∈ figs n, x ≠ 45 := fun x hx => by have := figs_mem n x hx; omega
theorem nmB_inj {f t g u : Int} (hf : 0 ≤ f) (ht : 0 ≤ t) (hg : 0 ≤ g) (hu : 0 ≤ u) (e : nmB f t = nmB g u) : f = g ∧ t = u := by
  have e1 := bs_inj (nmL_all f t) (nmL_all g u) e
  unfold nmL at e1
  have e2 := split_at (figs_no _) (figs_no _) (List.cons.inj e1).2
  have a := figs_inj _ _ e2.1
  have b := figs_inj _ _ e2.2
  omega
theorem nmB_size (f t : Int) : (nmB f t).size = (figs f.toNat).length + (figs t.toNat).length + 2 := by
  show (bs (nmL f t)).size = _
  rw [bs_size]
  unfold nmL
  simp
  omega
theorem figs_len {n : Nat} (h : n < 10000000000000000000) : (figs n).length ≤ 19 := by
  have : ∀ k n : Nat, n < 10 ^ (k + 1) → (figs n).length ≤ k + 1 := by
    intro k
    induction k with
    | zero => intro n hn; rw [figs_small (by simpa using hn)]; simp
    | succ k ih =>
      intro n hn
      by_cases h1 : n < 10
      · rw [figs_small h1]; simp
      · rw [figs_big h1, List.length_append]
        have h2 : n / 10 < 10 ^ (k + 1) := by
          rw [Nat.div_lt_iff_lt_mul (by decide)]
          rw [Nat.pow_succ] at hn
          exact hn
        have := ih (n / 10) h2
        simp
        omega
  exact this 18 n (by simpa using h)
/-- Does a name begin with c? -/
def isC (s : ByteArray) : Bool := match s.toList with
  | [] => false
  | x :: _ => x == 99
theorem nmB_c (f t : Int) : isC (nmB f t) = true := by
  unfold isC nmB
  rw [bs_list]
  rfl
def tN : ByteArray := ⟨#[116]⟩
theorem tN_c : isC tN = false := by unfold isC tN; rw [ByteArray.toList_mk]; rfl
theorem nmB_t (f t : Int) : nmB f t ≠ tN := by
  intro e
  have := nmB_c f t
  rw [e, tN_c] at this
  cases this
end Go.Proofs.YtdaglbjdgdokpaaDoor
namespace Go.Proofs.YtdaglbjdgdokpaaDoor
open Go.RowKit
set_option linter.unusedVariables false
set_option linter.unusedSimpArgs false

/-- The library's table of powers of ten reads as its text lays it. -/
def PowT (w : World) : Prop := Lib.TabIs Tryd.prog w "internal/strconv.uint64pow10" .u64 Lib.pow10Tab
theorem gPow : Tryd.prog.globalNamed "internal/strconv.uint64pow10" = some 2 := by kernel_rfl
theorem PowT.bl {w w' : World} (h : PowT w) (g : Bl w w') : PowT w' := Joins.tab_stays gPow h g (Nat.le_refl _)
theorem dec_figs (n : Nat) : Lib.decDigits n = (figs n).map UInt8.ofNat := by
  induction n using Nat.strongRecOn with
  | ind n ih =>
    by_cases h : n < 10
    · rw [Lib.decDigits, dif_pos h, figs_small h]; rfl
    · rw [Lib.decDigits, dif_neg h, figs_big h, List.map_append, ih (n / 10) (by omega)]; rfl
theorem itoa_figs (n : Nat) : (⟨(Lib.itoa (n : Int)).toArray⟩ : ByteArray) = bs (figs n) := by
  unfold Lib.itoa bs
  rw [if_neg (by omega), show ((n : Int)).toNat = n from rfl, dec_figs]
theorem pitoa_any (n : Nat) (h : n ≤ 9223372036854775807) (w : World) (hT : PowT w) : Calls Tryd.prog 28 #[.int .i64 (n : Int)] w fun e w' => e = .returned (.string (bs (figs n))) ∧ Bl w w' := by
  refine (Any.strconv_Itoa Tryd.laysM171 (n : Int) (by omega) (by omega) w hT).mono fun e w' hx => ?_
  obtain ⟨he, k, os, hw⟩ := hx
  exact ⟨by rw [he, itoa_figs], by rw [hw]; exact Lib.below_grow w.heap.size w (Nat.le_refl _) k os⟩
set_option maxRecDepth 100000 in
theorem pdecimal_any (n : Nat) (h : n ≤ 9223372036854775807) (w : World) (hT : PowT w) : Calls Tryd.prog 19 #[.int .i64 (n : Int)] w fun e w' => e = .returned (.string (bs (figs n))) ∧ Bl w w' := by
  have K := Lib.hid (pitoa_any n h w hT)
  have h0 : ¬ ((n : Int) < 0) := by omega
  go_enter Tryd.func19, Tryd.ntmps19
  go_wp2_with (go_at_call 28; (with_reducible refine K.out.mono ?_); rintro e w1 ⟨rfl, hb⟩)
  go_ret
  exact ⟨rfl, hb⟩
end Go.Proofs.YtdaglbjdgdokpaaDoor
namespace Go.Proofs.YtdaglbjdgdokpaaDoor
open Go.ChangeShapes Go.WideShapes Go.ChangeAt Go.RowKit
set_option linter.unusedVariables false

abbrev laidT : List (String × DataW Unit) := [("math/bits.deBruijn32tab", Rows.laid_math_bits_deBruijn32tab), ("math/bits.deBruijn64tab", Rows.laid_math_bits_deBruijn64tab), ("internal/strconv.uint64pow10", Rows.laid_internal_strconv_uint64pow10)]
theorem tab_pow : (Rows.laid_internal_strconv_uint64pow10 : DataW Unit) = Lib.tabData .u64 Lib.pow10Tab := by kernel_rfl
theorem pow_of_met {W : World} (h : laidMet Tryd.prog laidT W) : PowT W := by
  have h3 := h.tail.tail
  rw [tab_pow] at h3
  exact Lib.tabIs_of_head gPow (t := 143) (by kernel_rfl) Tryd.underlying143 Tryd.underlying68 (by kernel_rfl) (by kernel_rfl) h3
theorem pow_of_laidT {W : World} (h : laidMetH Tryd.prog laidT W) : PowT W := pow_of_met h
set_option maxRecDepth 100000 in
/-- The door's own heap meets the conditions. -/
theorem door_metT (os : Os) (args : Array Value) : laidMetH Tryd.prog laidT ((World.doorLaid Tryd.prog 31 os).forCall (fun _ _ => 0) ⟨#[], args, []⟩).memory :=
  laidMetH_of_parts3 (fuel := 8) (laidMet_of_run' 8 (by kernel_rfl) (by kernel_rfl)) (by kernel_rfl) (by kernel_rfl)
end Go.Proofs.YtdaglbjdgdokpaaDoor
namespace Go.Proofs.YtdaglbjdgdokpaaDoor
open Go.RowKit
set_option linter.unusedVariables false
set_option linter.unusedSimpArgs false

theorem crIter_all {l : List Nat} (ha : All 256 l) (i : Nat) (h : i < l.length) : crL 4294967295 (l.take (i + 1)) = crIter (crL 4294967295 (l.take i) ^^^ l[i]) 8 := by
  rw [crL_take _ _ _ h, crK_iter _ (ha i h)]
theorem crStep_mul (v : Nat) : crStep v = v / 2 ^^^ 3988292384 * (v % 2) := by
  unfold crStep
  rcases Nat.mod_two_eq_zero_or_one v with h | h
  · rw [h, if_pos rfl, Nat.mul_zero, Nat.xor_zero]
  · rw [h, if_neg (by decide), Nat.mul_one]

set_option maxRecDepth 100000 in
set_option maxHeartbeats 4000000 in
theorem psum_any (l : List Nat) (ha : All 256 l) (hl : l.length ≤ 281474976710656) (w : World) :
    Calls Tryd.prog 56 #[.string (bs l)] w fun e w' => e = .returned (.int .u32 ((crSum l : Nat) : Int)) ∧ w = w' := by
  have hz := bs_size l
  obtain ⟨n, hn⟩ : ∃ n, l.length = n := ⟨_, rfl⟩
  rw [hn] at hz hl
  have HN := Lib.hid hn
  have HG := Lib.hid (fun i h h' => bs_get ha i h h')
  obtain ⟨s, hs⟩ : ∃ s, bs l = s := ⟨_, rfl⟩
  rw [hs] at hz HG ⊢
  have nb : (n : Int) ≤ 281474976710656 := by omega
  have HA := Lib.hid ha
  have HT := Lib.hid (fun i (h : i < l.length) => crIter_all ha i h)
  have HE : Hid (crL 4294967295 (l.take n) = crL 4294967295 l) := by show _ = _; rw [← hn, List.take_length]
  have HV : Hid (∀ i, crL 4294967295 (l.take i) < 4294967296) := fun i => crL_lt (by decide) _
  have HC : Hid (crSum l = 4294967295 - crL 4294967295 l) := rfl
  obtain ⟨S, hS⟩ : ∃ S, crSum l = S := ⟨_, rfl⟩
  rw [hS] at HC ⊢
  clear hn hl hS ha hs
  go_enter Tryd.func56, Tryd.ntmps56
  go_wp2
  go_loop [3, 7] (fun v i => ∃ k : Nat, k ≤ n ∧ i = .int .i64 (k : Int) ∧ v = .int .u32 ((crL 4294967295 (l.take k) : Nat) : Int)) (fun _ i => n - (intOf i).toNat)
  case atStart => exact ⟨0, Nat.zero_le _, rfl, rfl⟩
  case round =>
    obtain ⟨k, hk, rfl, rfl⟩ := hrel
    by_cases hlt : k < n
    · have hkl : k < l.length := by rw [HN.out]; exact hlt
      have hg := HG.out k hkl
      have hx := HA.out k hkl
      have ht := HT.out k hkl
      have hv := HV.out k
      obtain ⟨x, ex⟩ : ∃ x, l[k] = x := ⟨_, rfl⟩
      rw [ex] at hg hx ht
      obtain ⟨V, eV⟩ : ∃ V, crL 4294967295 (l.take k) = V := ⟨_, rfl⟩
      rw [eV] at ht hv ⊢
      have hU : V ^^^ x < 4294967296 := by
        have := Nat.xor_lt_two_pow (x := V) (y := x) (n := 32) (by rw [p32]; exact hv) (by rw [p32]; omega)
        rwa [p32] at this
      have w0 : bits .xor .u32 (V : Int) (x : Int) = ((V ^^^ x : Nat) : Int) := u32_xor_nat _ _ hv (by omega)
      have w9 : IntKind.u32.wrap (x : Int) = (x : Int) := by rw [IntKind.wrap_u32]; omega
      obtain ⟨U, eU⟩ : ∃ V2, V ^^^ x = V2 := ⟨_, rfl⟩
      rw [eU] at ht hU w0
      have HT1 := Lib.hid ht
      have HU := Lib.hid hU
      have vb : (V : Int) ≤ 4294967295 := by omega
      have ub : (U : Int) ≤ 4294967295 := by omega
      have xb : (x : Int) ≤ 255 := by omega
      have b1 : (0 : Int) ≤ (k : Int) ∧ (k : Int) < (n : Int) := by omega
      have HK1 : Hid (k + 1 ≤ n) := hlt
      clear ht hv eV ex hU eU hx
      go_wp2
      go_loop [3, 16] (fun v i => ∃ j : Nat, j ≤ 8 ∧ i = .int .i64 (j : Int) ∧ v = .int .u32 ((crIter U j : Nat) : Int)) (fun _ i => 8 - (intOf i).toNat)
      case atStart => exact ⟨0, by omega, rfl, rfl⟩
      case round =>
        obtain ⟨j, hj, rfl, rfl⟩ := hrel
        by_cases hj8 : j < 8
        · have hv := crIter_lt HU.out j
          have hst : crIter U (j + 1) = crIter U j / 2 ^^^ 3988292384 * (crIter U j % 2) := crStep_mul _
          obtain ⟨v, ev⟩ : ∃ v, crIter U j = v := ⟨_, rfl⟩
          rw [ev] at hv hst ⊢
          have w3 : bits .and .u32 (v : Int) 1 = ((v % 2 : Nat) : Int) := by have := u32_and_nat v 1 (by omega) (by decide); rw [Nat.and_one_is_mod] at this; exact this
          have hd : v % 2 < 2 := Nat.mod_lt _ (by decide)
          obtain ⟨d, ed⟩ : ∃ q, v % 2 = q := ⟨_, rfl⟩
          rw [ed] at w3 hd hst
          have w4 : bits .xor .u32 ((v / 2 : Nat) : Int) ((3988292384 * d : Nat) : Int) = ((v / 2 ^^^ 3988292384 * d : Nat) : Int) := u32_xor_nat _ _ (by omega) (by omega)
          obtain ⟨m, em⟩ : ∃ m, 3988292384 * d = m := ⟨_, rfl⟩
          have w6 : (3988292384 : Int) * (d : Int) = (m : Int) := by omega
          have w7 : IntKind.u32.wrap (m : Int) = (m : Int) := by rw [IntKind.wrap_u32]; omega
          rw [em] at w4 hst
          obtain ⟨p, ep⟩ : ∃ p, v / 2 = p := ⟨_, rfl⟩
          have w5 : (v : Int) / 2 = (p : Int) := by omega
          rw [ep] at w4 hst
          obtain ⟨q, eq⟩ : ∃ q, p ^^^ m = q := ⟨_, rfl⟩
          rw [eq] at w4 hst
          have HS := Lib.hid hst
          have vb : (v : Int) ≤ 4294967295 := by omega
          have mb : (m : Int) ≤ 4294967295 := by omega
          have db : (d : Int) ≤ 1 := by omega
          have jb : (j : Int) ≤ 8 := by omega
          have HJ : Hid (j + 1 ≤ 8) := hj8
          clear hst ev hv ed hd em ep eq
          go_wp2
          go_round
          case rel => exact ⟨j + 1, HJ.out, by go_num, by rw [HS.out]⟩
          case measure => have := HJ.out; simp [intOf] <;> omega
        · obtain rfl : j = 8 := by omega
          rw [← HT1.out]
          clear hj hj8
          go_wp2
          go_round
          case rel => exact ⟨k + 1, HK1.out, by go_num, rfl⟩
          case measure => have := HK1.out; simp [intOf] <;> omega
    · obtain rfl : k = n := by omega
      have hv := HV.out k
      rw [HE.out] at hv ⊢
      obtain ⟨V, eV⟩ : ∃ V, crL 4294967295 l = V := ⟨_, rfl⟩
      have hc := HC.out
      rw [eV] at hv hc ⊢
      have w1 : (4294967295 : Int) - (V : Int) = (S : Int) := by omega
      have w2 : IntKind.u32.wrap (S : Int) = (S : Int) := by rw [IntKind.wrap_u32]; omega
      have w3 : bits .xor .u32 IntKind.u32.max (V : Int) = (S : Int) := by
        have := u32_xor_nat 4294967295 V (by decide) hv
        rw [Nat.xor_comm, crNot hv, ← hc] at this
        exact this
      have sb : (S : Int) ≤ 4294967295 := by omega
      clear hv hc eV
      go_wp2
      go_ret
      exact ⟨rfl, rfl⟩
end Go.Proofs.YtdaglbjdgdokpaaDoor
