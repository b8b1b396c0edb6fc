/-
  Package nat: Norm, Add, Scale over numbers. · Package crc: within, normalized, storable, valid.
-/
import Derived.Test.YtdaglbjdgdokpaaDoorPk24
import Derived.Test.YtdaglbjdgdokpaaDoorPk8
import Derived.Test.YtdaglbjdgdokpaaDoorPk10
namespace Go.Proofs.YtdaglbjdgdokpaaDoor
open Go.RowKit
set_option linter.unusedVariables false

theorem trimN (W : World) (v : Value) (X : Nat) (h : Nu W v X) : Calls Tryd.prog 80 #[v] W (RwSame W (dig 18446744073709551616 X)) := by
  obtain ⟨l, h1, ha, hl, hx⟩ := h
  have := ptrim_any v l ha (by omega) W h1
  rwa [hx] at this
theorem nu_len {W : World} {v : Value} {X : Nat} (h : Nu W v X) : (dig 18446744073709551616 X).length < 1048576 := by
  obtain ⟨l, h1, ha, hl, hx⟩ := h
  have := dig_len_le 18446744073709551616 (by decide) l ha
  rw [hx] at this
  omega

set_option maxRecDepth 100000 in
theorem pNorm : CNorm := by
  intro W v X hv
  have hln := (nu_len hv)
  have KT := Lib.hid (trimN W v X hv)
  have KW := Lib.hid (fun v2 (h : Rw .u64 W v2 (dig 18446744073709551616 X)) => pwidened_any v2 _ _ (Nat.le_refl _) (by omega) W h)
  obtain ⟨l, hl⟩ : ∃ l, dig 18446744073709551616 X = l := ⟨_, rfl⟩
  rw [hl] at KT KW hln ⊢
  have HL := Lib.hid hln
  clear hl hln
  go_enter Tryd.func72, Tryd.ntmps72
  go_wp2_with (first
    | (go_at_call 80; refine KT.out.mono ?_; rintro e w' ⟨v2, rfl, rfl, hv2⟩; have HV := Lib.hid hv2; obtain ⟨A, c, rfl, _⟩ := hv2)
    | (go_at_call 81; refine (KW.out _ HV.out).mono ?_; rintro e w' ⟨rfl, hbk, hbl, hsz⟩))
  go_ret
  exact RwEnd.of (hbk.rw (n := l.length) (by simp) (by unfold maxLen; have := HL.out; omega)) hbl (by simp)

end Go.Proofs.YtdaglbjdgdokpaaDoor
namespace Go.Proofs.YtdaglbjdgdokpaaDoor
open Go.RowKit
set_option linter.unusedVariables false
set_option linter.unusedSimpArgs false

/-- A row of ints in memory. -/
def Zs (w : World) (b : Nat) (zs : List Int) : Prop := ∀ i (h : i < zs.length), w.cell? ⟨b, i, none⟩ = some (.int .i64 zs[i])
/-- Are all from 0 to m? -/
def inAll (m : Int) (zs : List Int) : Bool := zs.all fun z => decide (0 ≤ z) && decide (z ≤ m)
theorem inAll_bad {m : Int} {zs : List Int} {i : Nat} (h : i < zs.length) (hb : ¬ (0 ≤ zs[i] ∧ zs[i] ≤ m)) : inAll m zs = false := by
  unfold inAll
  rw [List.all_eq_false]
  refine ⟨zs[i], List.getElem_mem h, ?_⟩
  simp only [Bool.and_eq_true, decide_eq_true_eq]
  exact hb
theorem inAll_good {m : Int} {zs : List Int} (h : ∀ i (h : i < zs.length), 0 ≤ zs[i] ∧ zs[i] ≤ m) : inAll m zs = true := by
  unfold inAll
  rw [List.all_eq_true]
  intro z hz
  obtain ⟨i, hi, rfl⟩ := List.getElem_of_mem hz
  simp only [Bool.and_eq_true, decide_eq_true_eq]
  exact h i hi

set_option maxRecDepth 100000 in
set_option maxHeartbeats 2000000 in
theorem pwithin_any (m : Int) (b n : Nat) (zs : List Int) (hn : zs.length = n) (hl : n ≤ 8) (w : World) (hc : Zs w b zs) :
    Calls Tryd.prog 73 #[.int .i64 m, .slice (some ⟨b, 0, none⟩) n n] w fun e w' => e = .returned (.bool (inAll m zs)) ∧ w = w' := by
  have nb : (n : Int) ≤ 8 := by omega
  have HC := Lib.hid hc
  have HN := Lib.hid hn
  have HG := Lib.hid (fun h => inAll_good (m := m) (zs := zs) h)
  have HB := Lib.hid (fun i h hb => inAll_bad (m := m) (zs := zs) (i := i) h hb)
  obtain ⟨r, hr⟩ : ∃ r, inAll m zs = r := ⟨_, rfl⟩
  rw [hr] at HG HB ⊢
  clear hr hl hn hc
  go_enter Tryd.func73, Tryd.ntmps73
  go_wp2
  go_loop [9] (fun i => ∃ k : Nat, k ≤ n ∧ i = .int .i64 (k : Int) ∧ Hid (∀ j (h : j < zs.length), j < k → 0 ≤ zs[j] ∧ zs[j] ≤ m)) (fun i => n - (intOf i).toNat)
  case atStart => exact ⟨0, Nat.zero_le _, rfl, fun j h h' => absurd h' (by omega)⟩
  case round =>
    obtain ⟨k, hk, rfl, hI⟩ := hrel
    by_cases hlt : k < n
    · have hkl : k < zs.length := by rw [HN.out]; exact hlt
      have hcell := HC.out k hkl
      have hbad := HB.out k hkl
      have hnext : Hid ((0 ≤ zs[k] ∧ zs[k] ≤ m) → ∀ j (h : j < zs.length), j < k + 1 → 0 ≤ zs[j] ∧ zs[j] ≤ m) := fun hz j h hj => by
        rcases Nat.lt_or_ge j k with h' | h'
        · exact hI.out j h h'
        · obtain rfl : j = k := by omega
          exact hz
      obtain ⟨z, ez⟩ : ∃ z, zs[k] = z := ⟨_, rfl⟩
      rw [ez] at hcell hbad hnext
      have b1 : (0 : Int) ≤ (k : Int) ∧ (k : Int) < (n : Int) := by omega
      have HK1 : Hid (k + 1 ≤ n) := hlt
      by_cases h0 : z < 0
      · have HR : Hid (r = false) := hbad (by omega)
        have t0 : decide (z < 0) = true := decide_eq_true h0
        clear hbad hnext ez h0
        go_wp2
        go_ret
        exact ⟨by rw [HR.out]; rfl, rfl⟩
      · have t0 : decide (z < 0) = false := decide_eq_false h0
        by_cases h1 : m < z
        · have HR : Hid (r = false) := hbad (by omega)
          have t1 : decide (m < z) = true := decide_eq_true h1
          clear hbad hnext ez h0 h1
          go_wp2
          go_ret
          exact ⟨by rw [HR.out]; rfl, rfl⟩
        · have t1 : decide (m < z) = false := decide_eq_false h1
          have HX := Lib.hid (hnext.out ⟨by omega, by omega⟩)
          clear hbad hnext ez h0 h1 hI
          go_wp2
          go_round
          case rel => exact ⟨k + 1, HK1.out, by go_num, HX⟩
          case measure => have := HK1.out; simp [intOf] <;> omega
    · obtain rfl : k = n := by omega
      have HR : Hid (r = true) := HG.out fun j h => hI.out j h (by rw [HN.out] at h; exact h)
      clear hk hI HC HB HG
      go_wp2
      go_ret
      exact ⟨by rw [HR.out]; rfl, rfl⟩

theorem norm_len {l : List Nat} (ha : All 18446744073709551616 l) : ((((dig 18446744073709551616 (val 18446744073709551616 l)).length : Nat) : Int) == ((l.length : Nat) : Int)) = decide (Nm l) := by
  by_cases h : Nm l
  · rw [dig_val _ (by decide) l ha h, decide_eq_true h]; simp
  · rw [decide_eq_false h, beq_eq_false_iff_ne]
    have hne : l ≠ [] := fun e => h (by subst e; exact fun h' => absurd rfl h')
    have h0 : l.getLast hne = 0 := by
      rcases Nat.eq_zero_or_pos (l.getLast hne) with h' | h'
      · exact h'
      · exact absurd (fun _ => Nat.pos_iff_ne_zero.1 h') h
    have e : l = l.dropLast ++ [0] := by
      have := (List.dropLast_concat_getLast hne).symm
      rwa [h0] at this
    have hd : All 18446744073709551616 l.dropLast := fun i hi => by rw [List.getElem_dropLast]; exact ha i _
    have hv : val 18446744073709551616 l = val 18446744073709551616 l.dropLast := by
      conv => lhs; rw [e, val_append]
      simp [val]
    have := dig_len_le 18446744073709551616 (by decide) l.dropLast hd
    rw [hv]
    have hl : l.dropLast.length + 1 = l.length := by
      have := congrArg List.length e
      rw [List.length_append] at this
      simpa using this.symm
    omega

set_option maxRecDepth 100000 in
theorem pnormalized_any (v : Value) (l : List Nat) (ha : All 18446744073709551616 l) (hl : l.length < 1048576) (w : World) (hr : Rw .u64 w v l) :
    Calls Tryd.prog 61 #[v] w fun e w' => e = .returned (.bool (decide (Nm l))) ∧ Bl w w' := by
  have KN := Lib.hid (pNorm w v (val 18446744073709551616 l) (Nu.mk hr ha hl))
  have t0 := norm_len ha
  obtain ⟨n, hn⟩ : ∃ n, l.length = n := ⟨_, rfl⟩
  obtain ⟨A, c, rfl⟩ := rw_open hr hn
  obtain ⟨m, hm⟩ : ∃ m, (dig 18446744073709551616 (val 18446744073709551616 l)).length = m := ⟨_, rfl⟩
  have HM := Lib.hid hm
  rw [hn, hm] at t0
  obtain ⟨D, hD⟩ : ∃ D, dig 18446744073709551616 (val 18446744073709551616 l) = D := ⟨_, rfl⟩
  rw [hD] at KN HM
  obtain ⟨r, hr'⟩ : ∃ r, decide (Nm l) = r := ⟨_, rfl⟩
  rw [hr'] at t0 ⊢
  clear hr' hD hm hn hl ha hr
  go_enter Tryd.func61, Tryd.ntmps61
  go_wp2_with (go_at_call 72; (with_reducible refine KN.out.mono ?_); rintro e w1 ⟨v1, rfl, hr1, hb1⟩; obtain ⟨A1, c1, e1⟩ := rw_open hr1 HM.out; subst e1; have B1 := Lib.hid hb1; clear hr1 hb1)
  go_ret
  exact ⟨rfl, B1.out⟩

theorem okr_bool (l : List Nat) : decide (Okr l) = (decide (l.length ≤ 4096) && decide (Nm l)) := by unfold Okr; exact Bool.decide_and _ _
set_option maxRecDepth 100000 in
theorem pstorable_any (v : Value) (l : List Nat) (ha : All 18446744073709551616 l) (w : World) (hr : Rw .u64 w v l) :
    Calls Tryd.prog 74 #[v] w fun e w' => e = .returned (.bool (decide (Okr l))) ∧ Bl w w' := by
  rw [okr_bool]
  have KN := Lib.hid (fun (h : l.length ≤ 4096) => pnormalized_any v l ha (by omega) w hr)
  obtain ⟨n, hn⟩ : ∃ n, l.length = n := ⟨_, rfl⟩
  have hml := rw_len hr
  obtain ⟨A, c, rfl⟩ := rw_open hr hn
  rw [hn] at KN hml ⊢
  have nb : (n : Int) ≤ 9223372036854775807 := by omega
  obtain ⟨r, hr'⟩ : ∃ r, decide (Nm l) = r := ⟨_, rfl⟩
  rw [hr'] at KN ⊢
  by_cases h : n ≤ 4096
  · have K := Lib.hid (KN.out h)
    have d0 : decide ((n : Int) ≤ 4096) = true := decide_eq_true (by omega)
    have d1 : decide (n ≤ 4096) = true := decide_eq_true h
    clear hr' hn ha hr KN h hml
    go_enter Tryd.func74, Tryd.ntmps74
    go_wp2_with (go_at_call 61; (with_reducible refine K.out.mono ?_); rintro e w1 ⟨rfl, hb1⟩; have B1 := Lib.hid hb1; clear hb1)
    go_ret
    exact ⟨by simp [d1], B1.out⟩
  · have d0 : decide ((n : Int) ≤ 4096) = false := decide_eq_false (by omega)
    have d1 : decide (n ≤ 4096) = false := decide_eq_false h
    clear hr' hn ha hr KN h hml
    go_enter Tryd.func74, Tryd.ntmps74
    go_wp2
    go_ret
    exact ⟨by simp [d1], Bl.refl _⟩
end Go.Proofs.YtdaglbjdgdokpaaDoor
