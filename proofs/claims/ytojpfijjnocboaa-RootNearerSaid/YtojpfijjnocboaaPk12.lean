/-
  The document's rows of digits (layer 4): Words. · The document's rows of digits (layer 4): Power, Less. · A row and an error, handed back; how many digits words have.
-/
import Derived.Test.YtojpfijjnocboaaPk11
import Derived.Test.YtojpfijjnocboaaPk6
import Derived.RegionTactic
import Derived.BigRegion
import Derived.Test.YtojpfijjnocboaaPk10
namespace Go.Proofs.Ytojpfijjnocboaa
open Go.RowKit
set_option linter.unusedVariables false

theorem Try.infoU64 : (Try.prog.info? 23).map (fun i => (i.zero, i.size, i.bytes)) = some (some (.int .u64 0), 1, 8) := by kernel_rfl

/-- One digit put into its word, as the walk reckons it. -/
theorem word_num (x i nw : Nat) (hi : i < (dig 65536 x).length) (hnw : ((dig 65536 x).length + 3) / 4 = nw) : ∃ q o d p r : Nat, i / 4 = q ∧ q < nw ∧ wq x (i + 1) q = o ∧ (dig 65536 x)[i] = d ∧ d < 65536 ∧ wq x i q = r ∧ (65536 * (o : Int)) = (p : Int) ∧
    IntKind.u64.wrap (p : Int) = (p : Int) ∧ IntKind.u64.wrap (d : Int) = (d : Int) ∧ IntKind.u64.wrap ((p : Int) + (d : Int)) = (r : Int) := by
  have hd : (dig 65536 x)[i] < 65536 := all_dig 65536 (by decide) x i hi
  have hs := wq_step x i (i / 4) rfl
  rw [← dig_get 65536 (by decide) x i hi] at hs
  have hlt := wq_lt x i (i / 4)
  refine ⟨i / 4, wq x (i + 1) (i / 4), (dig 65536 x)[i], 65536 * wq x (i + 1) (i / 4), wq x i (i / 4), rfl, by omega, rfl, rfl, hd, rfl, by omega, ?_, ?_, ?_⟩
  · rw [IntKind.wrap_u64]; omega
  · rw [IntKind.wrap_u64]; omega
  · rw [IntKind.wrap_u64]; omega

/-- A row of the call's own comes back. -/
def OwEnd (k : IntKind) (t : TypeId) (W : World) (l : List Nat) (e : Ending) (w : World) : Prop := ∃ v, e = .returned v ∧ Ow k t W.heap.size w v l ∧ Bl W w
theorem OwEnd.of {k : IntKind} {t : TypeId} {W w : World} {l m : List Nat} {v : Value} (h : Ow k t W.heap.size w v m) (g : Bl W w) (e' : m = l) : OwEnd k t W l (.returned v) w := ⟨v, rfl, e' ▸ h, g⟩
theorem Bk.ow {k : IntKind} {e : TypeId} {w : World} {g base n : Nat} {l : List Nat} (h : Bk k e w g l) (hb : base ≤ g) (hn : n = l.length) (hm : n ≤ maxLen) : Ow k e base w (.slice (some ⟨g, 0, none⟩) n n) l := by
  subst hn
  refine ⟨by rw [vs_length, Nat.mul_one], .inr ⟨g, l.length, _, rfl, hb, h, Nat.le_refl _, hm, by simp [vs], ?_⟩⟩
  rw [Nat.mul_one]
  apply List.take_of_length_le
  simp [vs]
set_option maxRecDepth 100000 in
set_option maxHeartbeats 2000000 in
theorem rwords_own (v : Value) (l : List Nat) (ha : All 65536 l) (hl : l.length < 1099511627776) (w : World) (hr : Rw .i64 w v l) :
    Calls Try.prog 13 #[v] w (OwEnd .u64 23 w (dig 18446744073709551616 (val 65536 l))) := by
  obtain ⟨i0, hi, hz0, hz1, hz2⟩ := info_parts Try.infoU64
  have T := Lib.hid (fun W h => rtrim_any v l ha hl W h)
  have HR := Lib.hid hr
  obtain ⟨x, hx⟩ : ∃ x, val 65536 l = x := ⟨_, rfl⟩
  have hml := dig_len_le 65536 (by decide) l ha
  rw [hx] at T hml ⊢
  obtain ⟨m, hm⟩ : ∃ m, (dig 65536 x).length = m := ⟨_, rfl⟩
  rw [hm] at hml
  have hmb : (m : Int) ≤ 1099511627776 := by omega
  obtain ⟨nw, hnw⟩ : ∃ nw, (m + 3) / 4 = nw := ⟨_, rfl⟩
  have rq : ((m : Int) + 3) / 4 = (nw : Int) := by omega
  have hmk := fun W => run_mk (P := Try.prog) .u64 22 23 i0 Try.underlying22 hi hz0 hz1 (by omega) nw (by omega) W
  have HM := Lib.hid hm
  have HN := Lib.hid hnw
  clear ha hl hr hx hml hnw
  have HM2 : Hid (dig 65536 x = rowf m fun q => x / 65536 ^ q % 65536) := rowf_ext hm fun i hi => dig_get 65536 (by decide) x i hi
  go_enter Try.func13, Try.ntmps13
  go_wp2_with (go_at_call 32; (with_reducible refine (T.out _ HR.out).mono ?_); rintro e w1 ⟨v', rfl, hr, hb'⟩; obtain ⟨A, c, rfl, hc, hm', h0, hx⟩ := hr; rw [hm]; have HX := Lib.hid hx; have HB := Lib.hid hb'; clear hb' hx hc hm' h0)
  clear hm hmk
  have hw0 : rowf nw (wq x m) = List.replicate nw 0 := by
    rw [← rowf_zero]
    exact rowf_congr fun q _ => wq_start x m q (by have := dig_lt 65536 (by decide) x; rwa [HM.out] at this)
  go_loopw [4] (fun s wr => ∃ (j : Nat) (z : Int), j ≤ m ∧ s = .int .i64 z ∧ Hid (z = (j : Int) - 1) ∧ Hid (Bk .u64 23 wr w1.heap.size (rowf nw (wq x j))) ∧ Hid (Bl w1 wr)) (fun s _ => (intOf s + 1).toNat)
  case atStart => exact ⟨m, _, Nat.le_refl _, rfl, rfl, by rw [hw0]; exact Bk.made _ _ _ _, (Bl.refl w1).alloc _⟩
  case round =>
    obtain ⟨j, z, hj, rfl, hz, hbk, hb⟩ := hrel
    clear hw0
    by_cases h0 : j = 0
    · have hz' : z = -1 := by have := hz.out; omega
      subst hz'
      subst h0
      have HE : Hid (rowf nw (wq x 0) = dig 18446744073709551616 x) := by
        have := words_end x
        rw [HM.out, HN.out] at this
        exact this
      go_wp2
      go_ret
      exact OwEnd.of (hbk.out.ow (base := w.heap.size) HB.out.size (by rw [rowf_length]) (by unfold maxLen; omega)) (HB.out.trans hb.out) HE.out
    · obtain ⟨i, hij⟩ : ∃ i, j = i + 1 := ⟨j - 1, by omega⟩
      have him : i < m := by omega
      have hz' : z = (i : Int) := by have := hz.out; omega
      obtain ⟨q, o, d, p, r, hq, hqn, ho, hd, hdb, hr, r1, r2, r3, r4⟩ := word_num x i nw (by rw [HM.out]; exact him) (by rw [HM.out]; exact HN.out)
      obtain ⟨ad, hA, hcell⟩ := (HX.out.bl hb.out).at_ (i := i) (by rw [HM.out]; exact him)
      rw [hd] at hcell
      have hbq := hbk.out
      rw [hij] at hbq
      have hcell2 := hbq.cell q (by rw [rowf_length]; exact hqn)
      rw [rowf_get, ho] at hcell2
      have hfz := hbq.free q
      have HS := Lib.hid (hbq.set q r (by rw [rowf_length]; exact hqn))
      rw [rowf_set nw (wq x (i + 1)) (wq x i) q r (hr ▸ rfl) (fun q' hq' => wq_other x i q' (by omega))] at HS
      have r5 : (i : Int) / 4 = (q : Int) := by omega
      have r6 : (i : Int).tdiv 4 = (q : Int) := by rw [Int.tdiv_eq_ediv_of_nonneg (by omega)]; omega
      have b1 : (0 : Int) ≤ (q : Int) ∧ (q : Int) < (nw : Int) := by omega
      have b2 : (0 : Int) ≤ (i : Int) ∧ (i : Int) < (m : Int) := by omega
      subst hz'
      subst hA
      have hi1 : (i : Int) ≤ 1099511627776 := by omega
      clear hij hq ho hd hr hbq hz h0 hj hbk
      go_wp2
      go_region
      have HB2 := Lib.hid ((hb.out.setCell (p := ⟨w1.heap.size, q, none⟩) (Nat.le_refl _) (.int .u64 (r : Int))).drew)
      have HS2 := Lib.hid HS.out.drew
      clear hcell hcell2 hfz
      go_wp2
      go_roundw
      case rel => exact ⟨i, _, by omega, rfl, rfl, HS2.out, HB2.out⟩
      case measure => simp [intOf] <;> omega
theorem rwords_any (v : Value) (l : List Nat) (ha : All 65536 l) (hl : l.length < 1099511627776) (w : World) (hr : Rw .i64 w v l) :
    Calls Try.prog 13 #[v] w (RwEnd .u64 w (dig 18446744073709551616 (val 65536 l))) := (rwords_own v l ha hl w hr).mono fun _ _ ⟨v', h1, h2, h3⟩ => ⟨v', h1, h2.rw, h3⟩
end Go.Proofs.Ytojpfijjnocboaa
namespace Go.Proofs.Ytojpfijjnocboaa
open Go.RowKit
set_option linter.unusedVariables false

theorem power_row (n : Nat) : (List.replicate (n / 16 + 1) 0).set (n / 16) (2 ^ (n % 16)) = dig 65536 (2 ^ n) := by
  have hp : 2 ^ (n % 16) < 65536 := by
    have : 2 ^ (n % 16) ≤ 2 ^ 15 := Nat.pow_le_pow_right (by decide) (by omega)
    omega
  have ha : All 65536 ((List.replicate (n / 16 + 1) 0).set (n / 16) (2 ^ (n % 16))) := all_set (all_zeros _ _ (by decide)) _ _ hp
  have hv := val_set 65536 (List.replicate (n / 16 + 1) 0) (n / 16) (2 ^ (n % 16)) (by simp)
  rw [val_zeros, List.getElem_replicate, Nat.mul_zero, Nat.add_zero, Nat.zero_add, two_pow16, ← Nat.pow_add, show 16 * (n / 16) + n % 16 = n from by omega] at hv
  have hn : Nm ((List.replicate (n / 16 + 1) 0).set (n / 16) (2 ^ (n % 16))) := by
    intro hne
    rw [List.getLast_eq_getElem, List.getElem_set]
    simp only [List.length_set, List.length_replicate, Nat.add_sub_cancel, if_true]
    exact Nat.ne_of_gt (Nat.two_pow_pos _)
  have := dig_val 65536 (by decide) _ ha hn
  rw [hv] at this
  exact this.symm

theorem Bk.alloc_set (k : IntKind) (e : TypeId) (w : World) (l : List Nat) (h u : Nat) : Bk k e (w.alloc (.cells ((vs k l).set h (.int k (u : Int))).toArray e)) w.heap.size (l.set h u) := by
  have e1 : vs k (l.set h u) = (vs k l).set h (.int k (u : Int)) := by simp [vs, List.map_set]
  unfold Bk
  rw [e1]
  exact heap_alloc_new w _

set_option maxRecDepth 100000 in
set_option maxHeartbeats 2000000 in
theorem rpower_any (n : Nat) (hn : n < 1099511627776) (w : World) :
    Calls Try.prog 39 #[.int .i64 (n : Int)] w (RwEnd .i64 w (dig 65536 (2 ^ n))) := by
  obtain ⟨i0, hi, hz0, hz1, hz2⟩ := info_parts Try.infoInt
  have HP := Lib.hid (power_row n)
  obtain ⟨h, hh⟩ : ∃ h, n / 16 = h := ⟨_, rfl⟩
  obtain ⟨m, hm⟩ : ∃ m, n % 16 = m := ⟨_, rfl⟩
  rw [hh, hm] at HP
  have r1 : (n : Int) / 16 = (h : Int) := by omega
  have r2 : (n : Int) % 16 = (m : Int) := by omega
  obtain ⟨k, hk⟩ : ∃ k, h + 1 = k := ⟨_, rfl⟩
  have r3 : (h : Int) + 1 = (k : Int) := by omega
  rw [hk] at HP
  have hkl : k < 1099511627776 := by omega
  have hmk := fun W => run_mk (P := Try.prog) .i64 28 3 i0 Try.underlying28 hi hz0 hz1 (by omega) k hkl W
  have hmb : m < 16 := by omega
  have b1 : (0 : Int) ≤ (h : Int) ∧ (h : Int) < (k : Int) := by omega
  have hnb : (n : Int) ≤ 1099511627776 := by omega
  have hhb : (h : Int) ≤ 1099511627776 := by omega
  have HK := Lib.hid hkl
  have HH := Lib.hid (show h < k by omega)
  clear hn hh hm hk hkl
  go_enter Try.func39, Try.ntmps39
  go_wp2
  clear hmk
  go_loop [4, 5] (fun v s => ∃ j : Nat, j ≤ m ∧ s = .int .i64 (j : Int) ∧ v = .int .i64 ((2 ^ j : Nat) : Int)) (fun _ s => m - (intOf s).toNat)
  case atStart => exact ⟨0, Nat.zero_le _, rfl, rfl⟩
  case round =>
    obtain ⟨j, hj, rfl, rfl⟩ := hrel
    by_cases hlt : j < m
    · obtain ⟨P, hP⟩ : ∃ P, 2 ^ j = P := ⟨_, rfl⟩
      have hPb : P ≤ 32768 := by rw [← hP]; exact Nat.pow_le_pow_right (by omega) (show j ≤ 15 by omega)
      have hP2 : Hid (2 ^ (j + 1) = P + P) := by show 2 ^ (j + 1) = P + P; rw [Nat.pow_succ, hP]; omega
      have hPi : (P : Int) ≤ 32768 := by omega
      rw [hP]
      clear hP hPb
      go_wp2
      go_round
      case rel => exact ⟨j + 1, by omega, by go_num, by rw [hP2.out]; go_num⟩
      case measure => simp [intOf] <;> omega
    · have hjm : j = m := by omega
      subst hjm
      obtain ⟨P, hP⟩ : ∃ P, 2 ^ j = P := ⟨_, rfl⟩
      rw [hP] at HP ⊢
      have hc := (Bk.made .i64 3 w k).cell h (by simp; exact HH.out)
      have hf := (Bk.made .i64 3 w k).free h
      have hS := Lib.hid (Bk.alloc_set .i64 3 w (List.replicate k 0) h P)
      rw [HP.out] at hS
      have hlenk := congrArg List.length HP.out
      simp only [List.length_set, List.length_replicate] at hlenk
      have HL := Lib.hid hlenk
      clear hP hlenk
      go_wp2
      go_ret
      exact RwEnd.mk (hS.out.rw HL.out (by have := HK.out; unfold maxLen; omega)) ((Bl.refl w).alloc _)
end Go.Proofs.Ytojpfijjnocboaa
namespace Go.Proofs.Ytojpfijjnocboaa
open Go.RowKit
set_option linter.unusedVariables false

/-- What a call answers that hands back a row and an error. -/
def RwErr (k : IntKind) (W : World) (l : List Nat) (err : Int) (e : Ending) (w : World) : Prop := ∃ v, e = .returned (.tuple #[v, .int .i64 err]) ∧ Rw k w v l ∧ Bl W w
theorem RwErr.mk {k : IntKind} {W w : World} {l : List Nat} {v : Value} {err : Int} (h : Rw k w v l) (g : Bl W w) : RwErr k W l err (.returned (.tuple #[v, .int .i64 err])) w := ⟨v, rfl, h, g⟩

theorem digs_of_words (l : List Nat) (ha : All 18446744073709551616 l) (hl : l.length < 34359738368) : (dig 65536 (val 18446744073709551616 l)).length < 137438953472 := by
  have h := val_lt 18446744073709551616 (by decide) l ha
  rw [w64_pow] at h
  have := dig_len_of_lt 65536 (by decide) _ _ h
  omega
end Go.Proofs.Ytojpfijjnocboaa
