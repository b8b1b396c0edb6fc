/-
  The document's rows of digits (layer 4): Div.
-/
import Derived.Test.YtojpfijjnocboaaPk12
namespace Go.Proofs.Ytojpfijjnocboaa
open Go.RowKit
set_option linter.unusedVariables false

/-- What is left behind the places from j on, and the quotient's digits. -/
def dq (X D j i : Nat) : Nat := if j ≤ i then X / D / 65536 ^ i % 65536 else 0
theorem dq_start (X D n : Nat) : rowf n (dq X D n) = List.replicate n 0 := by
  rw [← rowf_zero]
  exact rowf_congr fun i hi => by unfold dq; rw [if_neg (by omega)]
theorem dq_end (X D n : Nat) (hX : (dig 65536 X).length = n) : val 65536 (rowf n (dq X D 0)) = X / D := by
  have e : rowf n (dq X D 0) = rowf n fun q => X / D / 65536 ^ q % 65536 := rowf_congr fun i _ => by unfold dq; rw [if_pos (Nat.zero_le _)]
  rw [e, rowf_val _ _ (by decide), Nat.mod_eq_of_lt]
  have := dig_lt 65536 (by decide) X
  rw [hX] at this
  exact Nat.lt_of_le_of_lt (Nat.div_le_self _ _) this
theorem dq_all (X D n j : Nat) : All 65536 (rowf n (dq X D j)) := fun i hi => by
  rw [rowf_get]; unfold dq; split
  · exact Nat.mod_lt _ (by decide)
  · decide
/-- One place: t is what is divided there. -/
theorem dq_step (X D i : Nat) (hD : 0 < D) : ∃ t q : Nat, X / 65536 ^ i % 65536 + 65536 * (X / 65536 ^ (i + 1) % D) = t ∧ t / D = q ∧ q < 65536 ∧ q = X / D / 65536 ^ i % 65536 ∧ t - D * q = X / 65536 ^ i % D ∧ D * q ≤ t ∧ t < 65536 * D := by
  obtain ⟨W, hW⟩ : ∃ W, X / 65536 ^ (i + 1) = W := ⟨_, rfl⟩
  obtain ⟨d, hd⟩ : ∃ d, X / 65536 ^ i % 65536 = d := ⟨_, rfl⟩
  have hdl : d < 65536 := by rw [← hd]; exact Nat.mod_lt _ (by decide)
  have hz := ab_div (B := 65536) (x := X) (i := i)
  rw [hW, hd] at hz
  have hr : W % D < D := Nat.mod_lt _ hD
  have ht : d + 65536 * (W % D) < 65536 * D := by
    have : 65536 * (W % D + 1) ≤ 65536 * D := Nat.mul_le_mul_left _ hr
    omega
  have hq : (d + 65536 * (W % D)) / D < 65536 := by rw [Nat.div_lt_iff_lt_mul hD]; exact ht
  have hZ : X / 65536 ^ i = D * (65536 * (W / D)) + (d + 65536 * (W % D)) := by
    have e := Nat.div_add_mod W D
    have e2 : 65536 * W = 65536 * (D * (W / D) + W % D) := by rw [e]
    rw [Nat.mul_add, Nat.mul_left_comm] at e2
    omega
  rw [hW, hd]
  refine ⟨_, _, rfl, rfl, hq, ?_, ?_, ?_, ht⟩
  · rw [Nat.div_div_eq_div_mul, Nat.mul_comm D, ← Nat.div_div_eq_div_mul, hZ, Nat.mul_add_div hD, Nat.mul_add_mod, Nat.mod_eq_of_lt hq]
  · rw [hZ, Nat.mul_add_mod]
    have := Nat.div_add_mod (d + 65536 * (W % D)) D
    omega
  · exact Nat.mul_div_le _ _
theorem dq_set (X D n i q : Nat) (hq : q = X / D / 65536 ^ i % 65536) : (rowf n (dq X D (i + 1))).set i q = rowf n (dq X D i) := by
  refine rowf_set n _ _ i q ?_ fun k hk => ?_
  · unfold dq; rw [if_pos (Nat.le_refl _)]; exact hq
  · unfold dq
    by_cases h : i ≤ k
    · rw [if_pos (by omega), if_pos h]
    · rw [if_neg (by omega), if_neg h]
theorem cmpi_le {D mid t : Nat} (hD : 0 < D) : (cmpi (D * mid) t ≤ 0 ↔ mid ≤ t / D) := by
  rw [Nat.le_div_iff_mul_le hD, Nat.mul_comm mid D]
  unfold cmpi
  by_cases h : D * mid < t
  · rw [if_pos h]; omega
  · by_cases h2 : t < D * mid
    · rw [if_neg h, if_pos h2]; omega
    · rw [if_neg h, if_neg h2]; omega
theorem all_one {x : Nat} (h : x < 65536) : All 65536 [x] := all_cons h (all_nil _)
theorem lit_own (k : IntKind) (e : TypeId) (w : World) (x : Nat) : Ow k e w.heap.size (w.alloc (.cells #[.int k (x : Int)] e)) (.slice (some ⟨w.heap.size, 0, none⟩) 1 1) [x] :=
  World.ownsRow_lit w #[.int k (x : Int)] 1 (Nat.le_refl _) (by decide) rfl
theorem lit_rw (k : IntKind) (e : TypeId) (w : World) (x : Nat) : Rw k (w.alloc (.cells #[.int k (x : Int)] e)) (.slice (some ⟨w.heap.size, 0, none⟩) 1 1) [x] := (lit_own k e w x).rw

theorem lit_at {k : IntKind} {e : TypeId} {w : World} {x b : Nat} (hb : b = w.heap.size) : Rw k (w.alloc (.cells #[.int k (x : Int)] e)) (.slice (some ⟨b, 0, none⟩) 1 1) [x] := by
  subst hb; exact lit_rw k e w x

/-- What a call answers that hands back two rows. -/
def RwEnd2 (k : IntKind) (W : World) (l m : List Nat) (e : Ending) (w : World) : Prop := ∃ q r, e = .returned (.tuple #[q, r]) ∧ Rw k w q l ∧ Rw k w r m ∧ Bl W w
theorem RwEnd2.mk {k : IntKind} {W w : World} {l m : List Nat} {q r : Value} (h : Rw k w q l) (h' : Rw k w r m) (g : Bl W w) : RwEnd2 k W l m (.returned (.tuple #[q, r])) w := ⟨q, r, rfl, h, h', g⟩

set_option maxRecDepth 100000 in
set_option maxHeartbeats 8000000 in
theorem rdiv4_any (v1 v2 : Value) (X D : Nat) (hD : 0 < D) (hl1 : (dig 65536 X).length < 34359738368) (hl2 : (dig 65536 D).length < 34359738368) (w : World) (hr1 : Rw .i64 w v1 (dig 65536 X)) (hr2 : Rw .i64 w v2 (dig 65536 D)) :
    Calls Try.prog 36 #[v1, v2] w (RwEnd2 .i64 w (dig 65536 (X / D)) (dig 65536 (X % D))) := by
  obtain ⟨i0, hi, hz0, hz1, hz2⟩ := info_parts Try.infoInt
  have R2 := Lib.hid hr2
  obtain ⟨A1, c1, rfl, _, _, _, hx1⟩ := hr1
  have H1 := Lib.hid hx1
  obtain ⟨n, hn⟩ : ∃ n, (dig 65536 X).length = n := ⟨_, rfl⟩
  rw [hn] at hl1
  have HN := Lib.hid hn
  have HL2 := Lib.hid hl2
  have HD := Lib.hid hD
  have hnb : (n : Int) ≤ 34359738368 := by omega
  have hmk := fun W => run_mk (P := Try.prog) .i64 28 3 i0 Try.underlying28 hi hz0 hz1 (by omega) n (by omega) W
  have HB := Lib.hid hl1
  rw [hn]
  clear hn hl1 hl2 hx1 hr2 hD
  go_enter Try.func36, Try.ntmps36
  go_wp2
  clear hmk
  go_loopw [7, 8] (fun rv s wo => ∃ (j : Nat) (z : Int), j ≤ n ∧ s = .int .i64 z ∧ Hid (z = (j : Int) - 1) ∧ Hid (Bk .i64 3 wo w.heap.size (rowf n (dq X D j))) ∧ Hid (Rw .i64 wo rv (dig 65536 (X / 65536 ^ j % D))) ∧ Hid (Bl w wo)) (fun _ s _ => (intOf s + 1).toNat)
  case atStart =>
    refine ⟨n, _, Nat.le_refl _, rfl, rfl, by rw [dq_start]; exact Bk.made _ _ _ _, ?_, (Bl.refl w).alloc _⟩
    have e : X / 65536 ^ n = 0 := Nat.div_eq_of_lt (by have := dig_lt 65536 (by decide) X; rwa [HN.out] at this)
    rw [e, Nat.zero_mod, dig_zero]
    exact Rw.nil _ _
  case round =>
    obtain ⟨j, z, hj, rfl, hz, hbk, hrv, hb⟩ := hrel
    by_cases h0 : j = 0
    · have hz' : z = -1 := by have := hz.out; omega
      subst hz'
      subst h0
      have T := Lib.hid (fun W v h => rtrim_any v (rowf n (dq X D 0)) (dq_all X D n 0) (by rw [rowf_length]; have := HB.out; omega) W h)
      rw [dq_end X D n HN.out] at T
      have HQ := Lib.hid (hbk.out.rw (n := n) (by rw [rowf_length]) (by have := HB.out; unfold maxLen; omega))
      have HR0 := hrv.out
      rw [Nat.pow_zero, Nat.div_one] at HR0
      have HR := Lib.hid HR0
      clear HR0 hrv hbk
      go_wp2_with (go_at_call 32; (with_reducible refine (T.out _ _ HQ.out).mono ?_); rintro e w2 ⟨v', rfl, hr, hb'⟩; have HR' := Lib.hid hr; have HB' := Lib.hid hb'; clear hr hb')
      go_ret2
      exact RwEnd2.mk HR'.out (HR.out.bl HB'.out) (hb.out.trans HB'.out)
    · obtain ⟨i, hij⟩ : ∃ i, j = i + 1 := ⟨j - 1, by omega⟩
      have hin : i < n := by omega
      have hz' : z = (i : Int) := by have := hz.out; omega
      obtain ⟨ad, hA, hc⟩ := (H1.out.bl hb.out).at_ (i := i) (by rw [HN.out]; exact hin)
      rw [dig_get 65536 (by decide)] at hc
      obtain ⟨t, q, et, eq, hq, hqd, htq, hqt, htD⟩ := dq_step X D i HD.out
      have hrv' := hrv.out
      rw [hij] at hrv'
      have hset := Lib.hid (dq_set X D n i q hqd)
      have hbk' := hbk.out
      rw [hij] at hbk'
      obtain ⟨R', eR⟩ : ∃ R', X / 65536 ^ (i + 1) % D = R' := ⟨_, rfl⟩
      have hRD : R' < D := by rw [← eR]; exact Nat.mod_lt _ HD.out
      rw [eR] at hrv' et
      have hd0 : X / 65536 ^ i % 65536 < 65536 := Nat.mod_lt _ (by decide)
      obtain ⟨d, ed⟩ : ∃ d, X / 65536 ^ i % 65536 = d := ⟨_, rfl⟩
      rw [ed] at hc et hd0
      -- how long the numbers are
      have hDl := dig_lt 65536 (by decide) D
      have hlR : (dig 65536 R').length < 34359738368 := Nat.lt_of_le_of_lt (dig_len_of_lt 65536 (by decide) R' _ (Nat.lt_trans hRD hDl)) HL2.out
      have htl : (dig 65536 t).length ≤ (dig 65536 D).length + 1 := dig_len_of_lt 65536 (by decide) t _ (by
        rw [Nat.pow_succ, Nat.mul_comm]
        exact Nat.lt_of_lt_of_le htD (Nat.mul_le_mul_left _ (Nat.le_of_lt hDl)))
      have hml : ∀ mid, mid < 65536 → (dig 65536 (D * mid)).length ≤ (dig 65536 D).length + 1 := fun mid hm => dig_len_of_lt 65536 (by decide) _ _ (by rw [Nat.pow_succ]; exact Nat.mul_lt_mul'' hDl hm)
      have hl2 := HL2.out
      have T1 : Hid (∀ W v, Rw .i64 W v (d :: dig 65536 R') → Calls Try.prog 32 #[v] W (RwEndF .i64 W (dig 65536 t))) := fun W v h => by
        have c := rtrim_fresh v (d :: dig 65536 R') (all_cons hd0 (all_dig 65536 (by decide) R')) (by rw [List.length_cons]; omega) W h
        have e : val 65536 (d :: dig 65536 R') = t := by show d + 65536 * val 65536 (dig 65536 R') = t; rw [val_dig 65536 (by decide)]; exact et
        rw [e] at c
        exact c
      have T2 : Hid (∀ mid, mid < 65536 → ∀ W v, Rw .i64 W v [mid] → Calls Try.prog 32 #[v] W (RwEnd .i64 W (dig 65536 mid))) := fun mid hm W v h => by
        have c := rtrim_any v [mid] (all_one hm) (by simp) W h
        rw [val_one] at c
        exact c
      have M : Hid (∀ mid, mid < 65536 → ∀ W a b, Rw .i64 W a (dig 65536 D) → Rw .i64 W b (dig 65536 mid) → Calls Try.prog 22 #[a, b] W (RwEnd .i64 W (dig 65536 (D * mid)))) := fun mid hm W a b h1 h2 =>
        rmul4_any a b D mid (by omega) (Nat.lt_of_le_of_lt (dig_len_of_lt 65536 (by decide) mid 1 (by simpa using hm)) (by decide)) W h1 h2
      have C : Hid (∀ mid, mid < 65536 → ∀ W a b, Rw .i64 W a (dig 65536 (D * mid)) → Rw .i64 W b (dig 65536 t) → Calls Try.prog 24 #[a, b] W fun e w' => e = .returned (.int .i64 (cmpi (D * mid) t)) ∧ Bl W w') := fun mid hm W a b h1 h2 =>
        rcmp_any a b (D * mid) t (by have := hml mid hm; omega) (by omega) W h1 h2
      have SU : Hid (∀ W a b, Rw .i64 W a (dig 65536 t) → Rw .i64 W b (dig 65536 (D * q)) → Calls Try.prog 31 #[a, b] W (RwEnd .i64 W (dig 65536 (X / 65536 ^ i % D)))) := fun W a b h1 h2 => by
        have c := rsub4_any a b t (D * q) hqt (by omega) W h1 h2
        rw [htq] at c
        exact c
      have HQ := Lib.hid hq
      have HEQ := Lib.hid eq
      have HBK := Lib.hid hbk'
      obtain ⟨Ar, cr, hu7, hle7, hm7, h07, hs7⟩ := hrv'
      have hlen : [d].length + (dig 65536 R').length < 1099511627776 := by simp; omega
      have HLEN := Lib.hid hlen
      have HS7 := Lib.hid hs7
      have H07 := Lib.hid h07
      obtain ⟨nr, hnr⟩ : ∃ nr, (dig 65536 R').length = nr := ⟨_, rfl⟩
      have HNR := Lib.hid hnr.symm
      rw [hnr] at hu7
      subst hu7
      subst hA
      subst hz'
      have b1 : (0 : Int) ≤ (i : Int) ∧ (i : Int) < (n : Int) := by omega
      have HIN := Lib.hid hin
      clear hrv hbk hbk' hz h0 hj hij et eq hq hqd htq hqt htD eR hRD hd0 ed hDl hlR htl hml hl2 hle7 hm7 h07 hs7 hlen hnr
      go_wp2_with (first
        | (at_builtin; refine app_many wr (wr.alloc (.cells #[.int .i64 (d : Int)] 3)) .i64 28 3 i0 (.int .i64 0) 8 Try.underlying28 hi hz0 hz1 hz2 rfl (by decide) rfl _ _ rfl (.slice (some ⟨wr.heap.size, 0, none⟩) 1 1) [d] (dig 65536 R') Ar nr cr rfl rfl HNR.out H07.out (lit_own _ _ _ _) (HS7.out.bl ((Bl.refl wr).alloc _)) ((Bl.refl wr).alloc _) HLEN.out ?_; intro v' w1 hown hbl)
        | (go_at_call 32; (with_reducible refine (T1.out _ _ hown.out.rw).mono ?_); rintro e w2 ⟨vt, rfl, hr, hb', hf'⟩; have HRT := Lib.hid hr; have HBT := Lib.hid (hbl.out.trans hb'); have HF := Lib.hid hf'; clear hr hb' hf'))
      have HBK2 := Lib.hid (HBK.out.bl HBT.out)
      have HB2 := Lib.hid (hb.out.trans HBT.out)
      have HFS : Hid (Fs (w.heap.size + 1) vt) := fun b h => by
        have h1 := HF.out b h
        have h2 := hbl.out.size
        have h3 := HBK.out.lt
        omega
      have HRD := Lib.hid (R2.out.bl HB2.out)
      clear hown hbl HBT HF HBK hb hc
      go_loopw [9, 10] (fun a b wi => ∃ lo up : Nat, Hid (lo ≤ q) ∧ Hid (q ≤ up) ∧ up ≤ 65535 ∧ lo ≤ up ∧ a = .int .i64 (lo : Int) ∧ b = .int .i64 (up : Int) ∧ Hid (Bl w2 wi)) (fun a b _ => (intOf b - intOf a).toNat)
      case atStart => exact ⟨0, 65535, Nat.zero_le _, (by show q ≤ 65535; have := HQ.out; omega), by omega, by omega, rfl, rfl, Bl.refl w2⟩
      case round =>
        obtain ⟨lo, up, hlo, hup, hu5, hlu, rfl, rfl, hbi⟩ := hrel
        have HRi := Lib.hid (HRT.out.bl hbi.out)
        have HRDi := Lib.hid (HRD.out.bl hbi.out)
        by_cases hlt : lo < up
        · obtain ⟨mid, hmid⟩ : ∃ mid, (lo + up + 1) / 2 = mid := ⟨_, rfl⟩
          have r1 : ((lo : Int) + (up : Int) + 1) / 2 = (mid : Int) := by omega
          have hm1 : lo < mid := by omega
          have hm2 : mid ≤ up := by omega
          have hm3 : Hid (mid < 65536) := by show mid < 65536; omega
          have hu6 : (up : Int) ≤ 65535 := by omega
          have hmi : (1 : Int) ≤ (mid : Int) := by omega
          have hmj : (mid : Int) ≤ 65535 := by omega
          have T2m := Lib.hid (T2.out mid hm3.out)
          have Mm := Lib.hid (M.out mid hm3.out)
          have hcm := cmpi_le (mid := mid) (t := t) HD.out
          rw [HEQ.out] at hcm
          have Cm := C.out mid hm3.out
          obtain ⟨cc, ecc⟩ : ∃ cc, cmpi (D * mid) t = cc := ⟨_, rfl⟩
          rw [ecc] at hcm Cm
          have HC := Lib.hid Cm
          have hm1' := Lib.hid hm1
          have hm2' := Lib.hid hm2
          by_cases hmq : mid ≤ q
          · have hcc : cc ≤ 0 := hcm.2 hmq
            have hmq' := Lib.hid hmq
            clear hcm Cm ecc hmid hm1 hm2 hmq
            go_wp2_with (first
              | (go_at_call 32; (with_reducible refine (T2m.out _ _ (lit_rw _ _ _ _)).mono ?_); rintro e w3 ⟨va, rfl, hr, hb'⟩; have Ha := Lib.hid hr; have Ga := Lib.hid (((Bl.refl _).alloc _).trans hb'); clear hr hb')
              | (go_at_call 22; (with_reducible refine (Mm.out _ _ _ (HRDi.out.bl Ga.out) Ha.out).mono ?_); rintro e w4 ⟨vm, rfl, hr, hb'⟩; have Hm := Lib.hid hr; have Gm := Lib.hid (Ga.out.trans hb'); clear hr hb')
              | (go_at_call 24; (with_reducible refine (HC.out _ _ _ Hm.out (HRi.out.bl Gm.out)).mono ?_); rintro e w5 ⟨rfl, hb'⟩; have Gc := Lib.hid (Gm.out.trans hb'); clear hb'))
            go_roundw
            case rel => exact ⟨mid, up, hmq', hup, hu5, hm2'.out, rfl, rfl, hbi.out.trans Gc.out⟩
            case measure => have := hm1'.out; have := hm2'.out; simp [intOf] <;> omega
          · have hcc : ¬ cc ≤ 0 := fun h => hmq (hcm.1 h)
            have hmq' : Hid (q ≤ mid - 1) := by show q ≤ mid - 1; omega
            clear hcm Cm ecc hmid hm1 hm2 hmq
            go_wp2_with (first
              | (go_at_call 32; (with_reducible refine (T2m.out _ _ (lit_rw _ _ _ _)).mono ?_); rintro e w3 ⟨va, rfl, hr, hb'⟩; have Ha := Lib.hid hr; have Ga := Lib.hid (((Bl.refl _).alloc _).trans hb'); clear hr hb')
              | (go_at_call 22; (with_reducible refine (Mm.out _ _ _ (HRDi.out.bl Ga.out) Ha.out).mono ?_); rintro e w4 ⟨vm, rfl, hr, hb'⟩; have Hm := Lib.hid hr; have Gm := Lib.hid (Ga.out.trans hb'); clear hr hb')
              | (go_at_call 24; (with_reducible refine (HC.out _ _ _ Hm.out (HRi.out.bl Gm.out)).mono ?_); rintro e w5 ⟨rfl, hb'⟩; have Gc := Lib.hid (Gm.out.trans hb'); clear hb'))
            go_roundw
            case rel => exact ⟨lo, mid - 1, hlo, hmq', by have := hm2'.out; omega, by have := hm1'.out; omega, rfl, by have := hm1'.out; go_num, hbi.out.trans Gc.out⟩
            case measure => have := hm1'.out; have := hm2'.out; simp [intOf] <;> omega
        · have elo : q = lo := by have := hlo.out; have := hup.out; omega
          have eup : q = up := by have := hlo.out; have := hup.out; omega
          subst elo
          subst eup
          have hq65 := HQ.out
          have hBi := HBK2.out.bl hbi.out
          have hcq := hBi.cell i (by rw [rowf_length]; exact HIN.out)
          have hfq := hBi.free i
          have hBs := hBi.set i q (by rw [rowf_length]; exact HIN.out)
          rw [hset.out] at hBs
          have HBs := Lib.hid hBs
          have HRs := Lib.hid (HRi.out.setCell HFS.out (p := ⟨w.heap.size, i, none⟩) (Nat.lt_succ_self _) (.int .i64 (q : Int)))
          have HBls := Lib.hid ((HB2.out.trans hbi.out).setCell (p := ⟨w.heap.size, i, none⟩) (Nat.le_refl _) (.int .i64 (q : Int)))
          have HRDs := Lib.hid (R2.out.bl HBls.out)
          have T2q := Lib.hid (T2.out q HQ.out)
          have Mq := Lib.hid (M.out q HQ.out)
          clear hBi hBs hq65
          go_wp2_with (first
            | (go_at_call 32; (with_reducible refine (T2q.out _ _ (lit_at (by simp [World.setCell]))).mono ?_); rintro e w3 ⟨va, rfl, hr, hb'⟩; have Ha := Lib.hid hr; have Ga := Lib.hid (((Bl.refl _).alloc _).trans hb'); clear hr hb')
            | (go_at_call 22; (with_reducible refine (Mq.out _ _ _ (HRDs.out.bl Ga.out) Ha.out).mono ?_); rintro e w4 ⟨vm, rfl, hr, hb'⟩; have Hm := Lib.hid hr; have Gm := Lib.hid (Ga.out.trans hb'); clear hr hb')
            | (go_at_call 31; (with_reducible refine (SU.out _ _ _ (HRs.out.bl Gm.out) Hm.out).mono ?_); rintro e w5 ⟨vs', rfl, hr, hb'⟩; have Hs := Lib.hid hr; have Gs := Lib.hid (Gm.out.trans hb'); clear hr hb'))
          have hin' := HIN.out
          go_roundw
          case rel => exact ⟨i, _, by omega, rfl, rfl, HBs.out.bl Gs.out, Hs.out, HBls.out.trans Gs.out⟩
          case measure => simp [intOf] <;> omega
end Go.Proofs.Ytojpfijjnocboaa
