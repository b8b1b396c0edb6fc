/-
  The document's rows of digits (layer 4): Words.
-/
import Derived.Test.YtdoohlehglakfaaNtB
import Derived.Test.YtdoohlehglakfaaPk1
import Derived.RegionTactic
import Derived.BigRegion
namespace Go.Proofs.Ytdoohlehglakfaa
open Go.RowKit
set_option linter.unusedVariables false

theorem Try.infoU64 : (Try.prog.info? 33).map (fun i => (i.zero, i.size, i.bytes)) = some (some (.int .u64 0), 1, 8) := by kernel_rfl

/-- One digit put into its word, as the walk reckons it. -/
theorem word_num (x i nw : Nat) (hi : i < (dig 65536 x).length) (hnw : ((dig 65536 x).length + 3) / 4 = nw) : ∃ q o d p r : Nat, i / 4 = q ∧ q < nw ∧ wq x (i + 1) q = o ∧ (dig 65536 x)[i] = d ∧ d < 65536 ∧ wq x i q = r ∧ (65536 * (o : Int)) = (p : Int) ∧
    IntKind.u64.wrap (p : Int) = (p : Int) ∧ IntKind.u64.wrap (d : Int) = (d : Int) ∧ IntKind.u64.wrap ((p : Int) + (d : Int)) = (r : Int) := by
  have hd : (dig 65536 x)[i] < 65536 := all_dig 65536 (by decide) x i hi
  have hs := wq_step x i (i / 4) rfl
  rw [← dig_get 65536 (by decide) x i hi] at hs
  have hlt := wq_lt x i (i / 4)
  refine ⟨i / 4, wq x (i + 1) (i / 4), (dig 65536 x)[i], 65536 * wq x (i + 1) (i / 4), wq x i (i / 4), rfl, by omega, rfl, rfl, hd, rfl, by omega, ?_, ?_, ?_⟩
  · rw [IntKind.wrap_u64]; omega
  · rw [IntKind.wrap_u64]; omega
  · rw [IntKind.wrap_u64]; omega

/-- A row of the call's own comes back. -/
def OwEnd (k : IntKind) (t : TypeId) (W : World) (l : List Nat) (e : Ending) (w : World) : Prop := ∃ v, e = .returned v ∧ Ow k t W.heap.size w v l ∧ Bl W w
theorem OwEnd.of {k : IntKind} {t : TypeId} {W w : World} {l m : List Nat} {v : Value} (h : Ow k t W.heap.size w v m) (g : Bl W w) (e' : m = l) : OwEnd k t W l (.returned v) w := ⟨v, rfl, e' ▸ h, g⟩
theorem Bk.ow {k : IntKind} {e : TypeId} {w : World} {g base n : Nat} {l : List Nat} (h : Bk k e w g l) (hb : base ≤ g) (hn : n = l.length) (hm : n ≤ maxLen) : Ow k e base w (.slice (some ⟨g, 0, none⟩) n n) l := by
  subst hn
  refine ⟨by rw [vs_length, Nat.mul_one], .inr ⟨g, l.length, _, rfl, hb, h, Nat.le_refl _, hm, by simp [vs], ?_⟩⟩
  rw [Nat.mul_one]
  apply List.take_of_length_le
  simp [vs]
set_option maxRecDepth 100000 in
set_option maxHeartbeats 2000000 in
theorem rwords_own (v : Value) (l : List Nat) (ha : All 65536 l) (hl : l.length < 1099511627776) (w : World) (hr : Rw .i64 w v l) :
    Calls Try.prog 18 #[v] w (OwEnd .u64 33 w (dig 18446744073709551616 (val 65536 l))) := by
  obtain ⟨i0, hi, hz0, hz1, hz2⟩ := info_parts Try.infoU64
  have T := Lib.hid (fun W h => rtrim_any v l ha hl W h)
  have HR := Lib.hid hr
  obtain ⟨x, hx⟩ : ∃ x, val 65536 l = x := ⟨_, rfl⟩
  have hml := dig_len_le 65536 (by decide) l ha
  rw [hx] at T hml ⊢
  obtain ⟨m, hm⟩ : ∃ m, (dig 65536 x).length = m := ⟨_, rfl⟩
  rw [hm] at hml
  have hmb : (m : Int) ≤ 1099511627776 := by omega
  obtain ⟨nw, hnw⟩ : ∃ nw, (m + 3) / 4 = nw := ⟨_, rfl⟩
  have rq : ((m : Int) + 3) / 4 = (nw : Int) := by omega
  have hmk := fun W => run_mk (P := Try.prog) .u64 22 33 i0 Try.underlying22 hi hz0 hz1 (by omega) nw (by omega) W
  have HM := Lib.hid hm
  have HN := Lib.hid hnw
  clear ha hl hr hx hml hnw
  have HM2 : Hid (dig 65536 x = rowf m fun q => x / 65536 ^ q % 65536) := rowf_ext hm fun i hi => dig_get 65536 (by decide) x i hi
  go_enter Try.func18, Try.ntmps18
  go_wp2_with (go_at_call 16; (with_reducible refine (T.out _ HR.out).mono ?_); rintro e w1 ⟨v', rfl, hr, hb'⟩; obtain ⟨A, c, rfl, hc, hm', h0, hx⟩ := hr; rw [hm]; have HX := Lib.hid hx; have HB := Lib.hid hb'; clear hb' hx hc hm' h0)
  clear hm hmk
  have hw0 : rowf nw (wq x m) = List.replicate nw 0 := by
    rw [← rowf_zero]
    exact rowf_congr fun q _ => wq_start x m q (by have := dig_lt 65536 (by decide) x; rwa [HM.out] at this)
  go_loopw [4] (fun s wr => ∃ (j : Nat) (z : Int), j ≤ m ∧ s = .int .i64 z ∧ Hid (z = (j : Int) - 1) ∧ Hid (Bk .u64 33 wr w1.heap.size (rowf nw (wq x j))) ∧ Hid (Bl w1 wr)) (fun s _ => (intOf s + 1).toNat)
  case atStart => exact ⟨m, _, Nat.le_refl _, rfl, rfl, by rw [hw0]; exact Bk.made _ _ _ _, (Bl.refl w1).alloc _⟩
  case round =>
    obtain ⟨j, z, hj, rfl, hz, hbk, hb⟩ := hrel
    clear hw0
    by_cases h0 : j = 0
    · have hz' : z = -1 := by have := hz.out; omega
      subst hz'
      subst h0
      have HE : Hid (rowf nw (wq x 0) = dig 18446744073709551616 x) := by
        have := words_end x
        rw [HM.out, HN.out] at this
        exact this
      go_wp2
      go_ret
      exact OwEnd.of (hbk.out.ow (base := w.heap.size) HB.out.size (by rw [rowf_length]) (by unfold maxLen; omega)) (HB.out.trans hb.out) HE.out
    · obtain ⟨i, hij⟩ : ∃ i, j = i + 1 := ⟨j - 1, by omega⟩
      have him : i < m := by omega
      have hz' : z = (i : Int) := by have := hz.out; omega
      obtain ⟨q, o, d, p, r, hq, hqn, ho, hd, hdb, hr, r1, r2, r3, r4⟩ := word_num x i nw (by rw [HM.out]; exact him) (by rw [HM.out]; exact HN.out)
      obtain ⟨ad, hA, hcell⟩ := (HX.out.bl hb.out).at_ (i := i) (by rw [HM.out]; exact him)
      rw [hd] at hcell
      have hbq := hbk.out
      rw [hij] at hbq
      have hcell2 := hbq.cell q (by rw [rowf_length]; exact hqn)
      rw [rowf_get, ho] at hcell2
      have hfz := hbq.free q
      have HS := Lib.hid (hbq.set q r (by rw [rowf_length]; exact hqn))
      rw [rowf_set nw (wq x (i + 1)) (wq x i) q r (hr ▸ rfl) (fun q' hq' => wq_other x i q' (by omega))] at HS
      have r5 : (i : Int) / 4 = (q : Int) := by omega
      have r6 : (i : Int).tdiv 4 = (q : Int) := by rw [Int.tdiv_eq_ediv_of_nonneg (by omega)]; omega
      have b1 : (0 : Int) ≤ (q : Int) ∧ (q : Int) < (nw : Int) := by omega
      have b2 : (0 : Int) ≤ (i : Int) ∧ (i : Int) < (m : Int) := by omega
      subst hz'
      subst hA
      have hi1 : (i : Int) ≤ 1099511627776 := by omega
      clear hij hq ho hd hr hbq hz h0 hj hbk
      go_wp2
      go_region
      have HB2 := Lib.hid ((hb.out.setCell (p := ⟨w1.heap.size, q, none⟩) (Nat.le_refl _) (.int .u64 (r : Int))).drew)
      have HS2 := Lib.hid HS.out.drew
      clear hcell hcell2 hfz
      go_wp2
      go_roundw
      case rel => exact ⟨i, _, by omega, rfl, rfl, HS2.out, HB2.out⟩
      case measure => simp [intOf] <;> omega
theorem rwords_any (v : Value) (l : List Nat) (ha : All 65536 l) (hl : l.length < 1099511627776) (w : World) (hr : Rw .i64 w v l) :
    Calls Try.prog 18 #[v] w (RwEnd .u64 w (dig 18446744073709551616 (val 65536 l))) := (rwords_own v l ha hl w hr).mono fun _ _ ⟨v', h1, h2, h3⟩ => ⟨v', h1, h2.rw, h3⟩
end Go.Proofs.Ytdoohlehglakfaa
