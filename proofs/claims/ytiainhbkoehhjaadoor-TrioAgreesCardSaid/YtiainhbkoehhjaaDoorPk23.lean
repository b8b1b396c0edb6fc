/-
  The document's rows of digits (layer 4): Digits. · The document's rows of digits (layer 4): Words. · The document's rows of digits (layer 4): Power, Less. · A row and an error, handed back; how many digits words have.
-/
import Derived.Test.YtiainhbkoehhjaaDoorPk11
import Derived.Test.YtiainhbkoehhjaaDoorPk3
import Derived.Test.YtiainhbkoehhjaaDoorPk6
import Derived.RegionTactic
import Derived.BigRegion
import Derived.Test.YtiainhbkoehhjaaDoorPk14
namespace Go.Proofs.YtiainhbkoehhjaaDoor
open Go.RowKit
set_option linter.unusedVariables false

def W64 : Nat := 18446744073709551616
theorem W64_eq : W64 = 65536 ^ 4 := by decide
/-- Behind i words. -/
structure Dgt (l : List Nat) (i : Nat) (out : List Nat) : Prop where
  len : out.length = 4 * i
  all : All 65536 out
  num : val 65536 out = val W64 (l.take i)
/-- Behind i words, and k digits of the next one, of which y is left. -/
structure Dgi (l : List Nat) (i k : Nat) (out : List Nat) (y : Nat) : Prop where
  len : out.length = 4 * i + k
  all : All 65536 out
  num : val 65536 out + 65536 ^ (4 * i + k) * y = val W64 (l.take (i + 1))
  lt : y < 65536 ^ (4 - k)
theorem dgt_start (l : List Nat) : Dgt l 0 [] := ⟨rfl, all_nil _, by simp [val]⟩
theorem dgi_start {l : List Nat} {i : Nat} {out : List Nat} (h : Dgt l i out) (hi : i < l.length) (hw : l[i] < W64) : Dgi l i 0 out l[i] := by
  refine ⟨h.len, h.all, ?_, by rw [W64_eq] at hw; exact hw⟩
  rw [val_take_succ W64 l i hi, h.num, Nat.add_zero, Nat.pow_mul, ← W64_eq]
theorem dgi_step {l : List Nat} {i k : Nat} {out : List Nat} {y : Nat} (h : Dgi l i k out y) (hk : k < 4) : Dgi l i (k + 1) (out ++ [y % 65536]) (y / 65536) := by
  refine ⟨by rw [List.length_append, h.len]; rfl, all_snoc h.all (Nat.mod_lt _ (by decide)), ?_, ?_⟩
  · rw [← h.num, val_append, val_one, h.len, ← Nat.add_assoc, Nat.pow_succ, Nat.mul_assoc, Nat.add_assoc, ← Nat.mul_add, Nat.mod_add_div]
  · have e : 65536 ^ (4 - k) = 65536 ^ (4 - (k + 1)) * 65536 := by rw [← Nat.pow_succ]; congr 1; omega
    rw [Nat.div_lt_iff_lt_mul (by decide), ← e]
    exact h.lt
theorem dgi_end {l : List Nat} {i : Nat} {out : List Nat} {y : Nat} (h : Dgi l i 4 out y) : Dgt l (i + 1) out := by
  have hy : y = 0 := by have := h.lt; simp at this; exact this
  have hn := h.num
  rw [hy, Nat.mul_zero, Nat.add_zero] at hn
  exact ⟨by rw [h.len]; omega, h.all, hn⟩

set_option maxRecDepth 100000 in
set_option maxHeartbeats 2000000 in
theorem rdigits_any (v : Value) (l : List Nat) (ha : All W64 l) (hl : l.length < 137438953472) (w : World) (hr : Rw .u64 w v l) :
    Calls Tryd.prog 31 #[v] w (RwEnd .i64 w (dig 65536 (val W64 l))) := by
  obtain ⟨i0, hi, hz0, hz1, hz2⟩ := info_parts Tryd.infoInt
  obtain ⟨A, c, rfl, hc, hm, h0, hx⟩ := hr
  have hlc : (l.length : Int) ≤ 137438953472 := by omega
  have HA := Lib.hid ha
  have HX := Lib.hid hx
  have HL := Lib.hid hl
  clear ha hx h0 hm hc hl
  go_enter Tryd.func31, Tryd.ntmps31
  go_wp2
  go_loopw [3, 4] (fun s t wr => ∃ (i : Nat) (out : List Nat), i ≤ l.length ∧ t = .int .i64 (i : Int) ∧ Hid (Ow .i64 3 w.heap.size wr s out) ∧ Hid (Dgt l i out) ∧ Hid (Bl w wr)) (fun _ t _ => l.length - (intOf t).toNat)
  case atStart => exact ⟨0, [], Nat.zero_le _, rfl, Ow.nil _ _ _ _, dgt_start l, Bl.refl w⟩
  case round =>
    obtain ⟨i, out, hil, rfl, hown, hd, hb⟩ := hrel
    by_cases hlt : i < l.length
    · obtain ⟨ad, hA, hcell⟩ := (HX.out.bl hb.out).at_ hlt
      have hx0 := dgi_start hd.out hlt (HA.out i hlt)
      obtain ⟨x, hxe⟩ : ∃ x, l[i] = x := ⟨_, rfl⟩
      rw [hxe] at hcell hx0
      have HD := Lib.hid hx0
      subst hA
      clear hxe hx0 hd
      go_wp2
      go_loopw [3, 5, 6] (fun s y t wr => ∃ (k n : Nat) (out : List Nat), k ≤ 4 ∧ t = .int .i64 (k : Int) ∧ y = .int .u64 (n : Int) ∧ Hid (Ow .i64 3 w.heap.size wr s out) ∧ Hid (Dgi l i k out n) ∧ Hid (Bl w wr)) (fun _ _ t _ => 4 - (intOf t).toNat)
      case atStart => exact ⟨0, x, out, by omega, rfl, rfl, hown, HD, hb⟩
      case round =>
        clear hcell hown hb HD
        obtain ⟨k, n, out', hk, rfl, rfl, hown, hd, hb⟩ := hrel
        by_cases hlt4 : k < 4
        · have HS := Lib.hid (dgi_step hd.out hlt4)
          have hlen : out'.length < 1099511627776 := by have := hd.out.len; have := HL.out; omega
          have hy64 : n < 18446744073709551616 := by
            have := hd.out.lt
            have h2 : 65536 ^ (4 - k) ≤ 65536 ^ 4 := Nat.pow_le_pow_right (by decide) (by omega)
            rw [← W64_eq] at h2
            unfold W64 at h2
            omega
          obtain ⟨d, hd1⟩ : ∃ d, n % 65536 = d := ⟨_, rfl⟩
          obtain ⟨q, hq1⟩ : ∃ q, n / 65536 = q := ⟨_, rfl⟩
          have r1 : (n : Int) % 65536 = (d : Int) := by omega
          have r2 : (n : Int) / 65536 = (q : Int) := by omega
          have r3 : IntKind.i64.wrap (d : Int) = (d : Int) := IntWalk.i64_in _ (by omega)
          have r4 := w64 q (by omega)
          rw [hd1, hq1] at HS
          clear hd hd1 hq1 hy64
          go_wp2_with (at_builtin; refine app_one w wr .i64 59 3 i0 (.int .i64 0) 8 Tryd.underlying59 hi hz0 hz1 hz2 rfl (by decide) rfl _ _ rfl u3 out' d rfl rfl hown.out hb.out hlen ?_; intro v' w' hown' hbl')
          go_roundw
          case rel => exact ⟨k + 1, q, _, by omega, by go_num, rfl, hown', HS, hbl'⟩
          case measure => simp [intOf]; omega
        · have hk4 : k = 4 := by omega
          subst hk4
          have HE := Lib.hid (dgi_end hd.out)
          clear hd
          go_wp2
          go_roundw
          case rel => exact ⟨i + 1, _, by omega, by go_num, hown, HE, hb⟩
          case measure => simp [intOf]; omega
    · have hil2 : i = l.length := by omega
      have hd' := hd.out
      have hlen : out.length < 1099511627776 := by have := hd'.len; have := HL.out; omega
      have T := Lib.hid (fun W h => rtrim_any u3 out hd'.all hlen W h)
      have en := hd'.num
      rw [hil2, List.take_length] at en
      rw [en] at T
      have hown' := hown.out.rw
      subst hil2
      clear hd hd' hlen en
      have HR := Lib.hid hown'
      clear hown'
      go_wp2_with (go_at_call 50; (with_reducible refine (T.out _ HR.out).mono ?_); rintro e w' ⟨v', rfl, hr, hb'⟩; have HR' := Lib.hid hr; have HB' := Lib.hid hb'; clear hr hb')
      go_ret
      exact RwEnd.mk HR'.out (hb.out.trans HB'.out)
end Go.Proofs.YtiainhbkoehhjaaDoor
namespace Go.Proofs.YtiainhbkoehhjaaDoor
open Go.RowKit
set_option linter.unusedVariables false

theorem Tryd.infoU64 : (Tryd.prog.info? 22).map (fun i => (i.zero, i.size, i.bytes)) = some (some (.int .u64 0), 1, 8) := by kernel_rfl

/-- One digit put into its word, as the walk reckons it. -/
theorem word_num (x i nw : Nat) (hi : i < (dig 65536 x).length) (hnw : ((dig 65536 x).length + 3) / 4 = nw) : ∃ q o d p r : Nat, i / 4 = q ∧ q < nw ∧ wq x (i + 1) q = o ∧ (dig 65536 x)[i] = d ∧ d < 65536 ∧ wq x i q = r ∧ (65536 * (o : Int)) = (p : Int) ∧
    IntKind.u64.wrap (p : Int) = (p : Int) ∧ IntKind.u64.wrap (d : Int) = (d : Int) ∧ IntKind.u64.wrap ((p : Int) + (d : Int)) = (r : Int) := by
  have hd : (dig 65536 x)[i] < 65536 := all_dig 65536 (by decide) x i hi
  have hs := wq_step x i (i / 4) rfl
  rw [← dig_get 65536 (by decide) x i hi] at hs
  have hlt := wq_lt x i (i / 4)
  refine ⟨i / 4, wq x (i + 1) (i / 4), (dig 65536 x)[i], 65536 * wq x (i + 1) (i / 4), wq x i (i / 4), rfl, by omega, rfl, rfl, hd, rfl, by omega, ?_, ?_, ?_⟩
  · rw [IntKind.wrap_u64]; omega
  · rw [IntKind.wrap_u64]; omega
  · rw [IntKind.wrap_u64]; omega

/-- A row of the call's own comes back. -/
def OwEnd (k : IntKind) (t : TypeId) (W : World) (l : List Nat) (e : Ending) (w : World) : Prop := ∃ v, e = .returned v ∧ Ow k t W.heap.size w v l ∧ Bl W w
theorem OwEnd.of {k : IntKind} {t : TypeId} {W w : World} {l m : List Nat} {v : Value} (h : Ow k t W.heap.size w v m) (g : Bl W w) (e' : m = l) : OwEnd k t W l (.returned v) w := ⟨v, rfl, e' ▸ h, g⟩
theorem Bk.ow {k : IntKind} {e : TypeId} {w : World} {g base n : Nat} {l : List Nat} (h : Bk k e w g l) (hb : base ≤ g) (hn : n = l.length) (hm : n ≤ maxLen) : Ow k e base w (.slice (some ⟨g, 0, none⟩) n n) l := by
  subst hn
  refine ⟨by rw [vs_length, Nat.mul_one], .inr ⟨g, l.length, _, rfl, hb, h, Nat.le_refl _, hm, by simp [vs], ?_⟩⟩
  rw [Nat.mul_one]
  apply List.take_of_length_le
  simp [vs]
set_option maxRecDepth 100000 in
set_option maxHeartbeats 2000000 in
theorem rwords_own (v : Value) (l : List Nat) (ha : All 65536 l) (hl : l.length < 1099511627776) (w : World) (hr : Rw .i64 w v l) :
    Calls Tryd.prog 55 #[v] w (OwEnd .u64 22 w (dig 18446744073709551616 (val 65536 l))) := by
  obtain ⟨i0, hi, hz0, hz1, hz2⟩ := info_parts Tryd.infoU64
  have T := Lib.hid (fun W h => rtrim_any v l ha hl W h)
  have HR := Lib.hid hr
  obtain ⟨x, hx⟩ : ∃ x, val 65536 l = x := ⟨_, rfl⟩
  have hml := dig_len_le 65536 (by decide) l ha
  rw [hx] at T hml ⊢
  obtain ⟨m, hm⟩ : ∃ m, (dig 65536 x).length = m := ⟨_, rfl⟩
  rw [hm] at hml
  have hmb : (m : Int) ≤ 1099511627776 := by omega
  obtain ⟨nw, hnw⟩ : ∃ nw, (m + 3) / 4 = nw := ⟨_, rfl⟩
  have rq : ((m : Int) + 3) / 4 = (nw : Int) := by omega
  have hmk := fun W => run_mk (P := Tryd.prog) .u64 33 22 i0 Tryd.underlying33 hi hz0 hz1 (by omega) nw (by omega) W
  have HM := Lib.hid hm
  have HN := Lib.hid hnw
  clear ha hl hr hx hml hnw
  have HM2 : Hid (dig 65536 x = rowf m fun q => x / 65536 ^ q % 65536) := rowf_ext hm fun i hi => dig_get 65536 (by decide) x i hi
  go_enter Tryd.func55, Tryd.ntmps55
  go_wp2_with (go_at_call 50; (with_reducible refine (T.out _ HR.out).mono ?_); rintro e w1 ⟨v', rfl, hr, hb'⟩; obtain ⟨A, c, rfl, hc, hm', h0, hx⟩ := hr; rw [hm]; have HX := Lib.hid hx; have HB := Lib.hid hb'; clear hb' hx hc hm' h0)
  clear hm hmk
  have hw0 : rowf nw (wq x m) = List.replicate nw 0 := by
    rw [← rowf_zero]
    exact rowf_congr fun q _ => wq_start x m q (by have := dig_lt 65536 (by decide) x; rwa [HM.out] at this)
  go_loopw [4] (fun s wr => ∃ (j : Nat) (z : Int), j ≤ m ∧ s = .int .i64 z ∧ Hid (z = (j : Int) - 1) ∧ Hid (Bk .u64 22 wr w1.heap.size (rowf nw (wq x j))) ∧ Hid (Bl w1 wr)) (fun s _ => (intOf s + 1).toNat)
  case atStart => exact ⟨m, _, Nat.le_refl _, rfl, rfl, by rw [hw0]; exact Bk.made _ _ _ _, (Bl.refl w1).alloc _⟩
  case round =>
    obtain ⟨j, z, hj, rfl, hz, hbk, hb⟩ := hrel
    clear hw0
    by_cases h0 : j = 0
    · have hz' : z = -1 := by have := hz.out; omega
      subst hz'
      subst h0
      have HE : Hid (rowf nw (wq x 0) = dig 18446744073709551616 x) := by
        have := words_end x
        rw [HM.out, HN.out] at this
        exact this
      go_wp2
      go_ret
      exact OwEnd.of (hbk.out.ow (base := w.heap.size) HB.out.size (by rw [rowf_length]) (by unfold maxLen; omega)) (HB.out.trans hb.out) HE.out
    · obtain ⟨i, hij⟩ : ∃ i, j = i + 1 := ⟨j - 1, by omega⟩
      have him : i < m := by omega
      have hz' : z = (i : Int) := by have := hz.out; omega
      obtain ⟨q, o, d, p, r, hq, hqn, ho, hd, hdb, hr, r1, r2, r3, r4⟩ := word_num x i nw (by rw [HM.out]; exact him) (by rw [HM.out]; exact HN.out)
      obtain ⟨ad, hA, hcell⟩ := (HX.out.bl hb.out).at_ (i := i) (by rw [HM.out]; exact him)
      rw [hd] at hcell
      have hbq := hbk.out
      rw [hij] at hbq
      have hcell2 := hbq.cell q (by rw [rowf_length]; exact hqn)
      rw [rowf_get, ho] at hcell2
      have hfz := hbq.free q
      have HS := Lib.hid (hbq.set q r (by rw [rowf_length]; exact hqn))
      rw [rowf_set nw (wq x (i + 1)) (wq x i) q r (hr ▸ rfl) (fun q' hq' => wq_other x i q' (by omega))] at HS
      have r5 : (i : Int) / 4 = (q : Int) := by omega
      have r6 : (i : Int).tdiv 4 = (q : Int) := by rw [Int.tdiv_eq_ediv_of_nonneg (by omega)]; omega
      have b1 : (0 : Int) ≤ (q : Int) ∧ (q : Int) < (nw : Int) := by omega
      have b2 : (0 : Int) ≤ (i : Int) ∧ (i : Int) < (m : Int) := by omega
      subst hz'
      subst hA
      have hi1 : (i : Int) ≤ 1099511627776 := by omega
      clear hij hq ho hd hr hbq hz h0 hj hbk
      go_wp2
      go_region
      have HB2 := Lib.hid ((hb.out.setCell (p := ⟨w1.heap.size, q, none⟩) (Nat.le_refl _) (.int .u64 (r : Int))).drew)
      have HS2 := Lib.hid HS.out.drew
      clear hcell hcell2 hfz
      go_wp2
      go_roundw
      case rel => exact ⟨i, _, by omega, rfl, rfl, HS2.out, HB2.out⟩
      case measure => simp [intOf] <;> omega
theorem rwords_any (v : Value) (l : List Nat) (ha : All 65536 l) (hl : l.length < 1099511627776) (w : World) (hr : Rw .i64 w v l) :
    Calls Tryd.prog 55 #[v] w (RwEnd .u64 w (dig 18446744073709551616 (val 65536 l))) := (rwords_own v l ha hl w hr).mono fun _ _ ⟨v', h1, h2, h3⟩ => ⟨v', h1, h2.rw, h3⟩
end Go.Proofs.YtiainhbkoehhjaaDoor
namespace Go.Proofs.YtiainhbkoehhjaaDoor
open Go.RowKit
set_option linter.unusedVariables false

theorem power_row (n : Nat) : (List.replicate (n / 16 + 1) 0).set (n / 16) (2 ^ (n % 16)) = dig 65536 (2 ^ n) := by
  have hp : 2 ^ (n % 16) < 65536 := by
    have : 2 ^ (n % 16) ≤ 2 ^ 15 := Nat.pow_le_pow_right (by decide) (by omega)
    omega
  have ha : All 65536 ((List.replicate (n / 16 + 1) 0).set (n / 16) (2 ^ (n % 16))) := all_set (all_zeros _ _ (by decide)) _ _ hp
  have hv := val_set 65536 (List.replicate (n / 16 + 1) 0) (n / 16) (2 ^ (n % 16)) (by simp)
  rw [val_zeros, List.getElem_replicate, Nat.mul_zero, Nat.add_zero, Nat.zero_add, two_pow16, ← Nat.pow_add, show 16 * (n / 16) + n % 16 = n from by omega] at hv
  have hn : Nm ((List.replicate (n / 16 + 1) 0).set (n / 16) (2 ^ (n % 16))) := by
    intro hne
    rw [List.getLast_eq_getElem, List.getElem_set]
    simp only [List.length_set, List.length_replicate, Nat.add_sub_cancel, if_true]
    exact Nat.ne_of_gt (Nat.two_pow_pos _)
  have := dig_val 65536 (by decide) _ ha hn
  rw [hv] at this
  exact this.symm

theorem Bk.alloc_set (k : IntKind) (e : TypeId) (w : World) (l : List Nat) (h u : Nat) : Bk k e (w.alloc (.cells ((vs k l).set h (.int k (u : Int))).toArray e)) w.heap.size (l.set h u) := by
  have e1 : vs k (l.set h u) = (vs k l).set h (.int k (u : Int)) := by simp [vs, List.map_set]
  unfold Bk
  rw [e1]
  exact heap_alloc_new w _

end Go.Proofs.YtiainhbkoehhjaaDoor
namespace Go.Proofs.YtiainhbkoehhjaaDoor
open Go.RowKit
set_option linter.unusedVariables false

/-- What a call answers that hands back a row and an error. -/
def RwErr (k : IntKind) (W : World) (l : List Nat) (err : Int) (e : Ending) (w : World) : Prop := ∃ v, e = .returned (.tuple #[v, .int .i64 err]) ∧ Rw k w v l ∧ Bl W w
theorem RwErr.mk {k : IntKind} {W w : World} {l : List Nat} {v : Value} {err : Int} (h : Rw k w v l) (g : Bl W w) : RwErr k W l err (.returned (.tuple #[v, .int .i64 err])) w := ⟨v, rfl, h, g⟩

theorem digs_of_words (l : List Nat) (ha : All 18446744073709551616 l) (hl : l.length < 34359738368) : (dig 65536 (val 18446744073709551616 l)).length < 137438953472 := by
  have h := val_lt 18446744073709551616 (by decide) l ha
  rw [w64_pow] at h
  have := dig_len_of_lt 65536 (by decide) _ _ h
  omega
end Go.Proofs.YtiainhbkoehhjaaDoor
