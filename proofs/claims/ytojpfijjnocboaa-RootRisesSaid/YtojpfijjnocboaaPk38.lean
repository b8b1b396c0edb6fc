/-
  Package nat: Sub, Shl, Shr, Low over numbers. · Package quot: Gcd, over numbers. · The document's answers of layer 4 as contracts over numbers, for the walks of the statements. · The document's answers of layer 5 over numbers: Times, Half.
-/
import Derived.Test.YtojpfijjnocboaaPk37
import Derived.Test.YtojpfijjnocboaaPk33
import Derived.Test.YtojpfijjnocboaaPk35
import Derived.Test.YtojpfijjnocboaaPk21
namespace Go.Proofs.Ytojpfijjnocboaa
open Go.RowKit
set_option linter.unusedVariables false
set_option linter.unusedSimpArgs false

theorem nu_of_rw {W : World} {v : Value} {X : Nat} (h : Rw .u64 W v (dig 18446744073709551616 X)) (hl : (dig 18446744073709551616 X).length < 1048576) : Nu W v X := ⟨_, h, all_dig _ (by decide) X, hl, val_dig _ (by decide) X⟩
theorem dig_le_len {X Y : Nat} (h : Y ≤ X) : (dig 18446744073709551616 Y).length ≤ (dig 18446744073709551616 X).length :=
  dig_len_of_lt _ (by decide) Y _ (Nat.lt_of_le_of_lt h (dig_lt _ (by decide) X))

set_option maxRecDepth 100000 in
set_option maxHeartbeats 1000000 in
theorem pSub : CSub := by
  intro W v u X Y hv hu
  have h1 := nu_len hv
  have h2 := nu_len hu
  have a1 := all_dig 18446744073709551616 (by decide) X
  have a2 := all_dig 18446744073709551616 (by decide) Y
  have KT := Lib.hid (trimN W v X hv)
  have KU := Lib.hid (trimN W u Y hu)
  have KC := Lib.hid (fun v2 u2 (h : Rw .u64 W v2 (dig 18446744073709551616 X)) (h' : Rw .u64 W u2 (dig 18446744073709551616 Y)) => pCmp W v2 u2 X Y (nu_of_rw h h1) (nu_of_rw h' h2))
  by_cases hlt : X < Y
  · rw [if_pos hlt]
    rw [cmpi_lt hlt] at KC
    clear hlt a1 a2 hv hu
    go_enter Try.func27, Try.ntmps27
    go_wp2_with (first
      | (go_at_call 42; (with_reducible refine KT.out.mono ?_); rintro e w' ⟨v2, rfl, rfl, hv2⟩; have HV := Lib.hid hv2; obtain ⟨A, c, rfl, _⟩ := hv2)
      | (go_at_call 42; (with_reducible refine KU.out.mono ?_); rintro e w' ⟨u2, rfl, rfl, hu2⟩; have HU := Lib.hid hu2; obtain ⟨B, d, rfl, _⟩ := hu2)
      | (go_at_call 29; refine (KC.out _ _ HV.out HU.out).mono ?_; rintro e w' ⟨rfl, hb3⟩; have HB3 := Lib.hid hb3; clear hb3))
    go_ret2
    exact ⟨_, rfl, Rw.nil _ _, HB3.out⟩
  · rw [if_neg hlt]
    have hle : Y ≤ X := by omega
    have hml := dig_le_len hle
    have KM := Lib.hid (fun w v2 u2 (h : Rw .u64 w v2 (dig 18446744073709551616 X)) (h' : Rw .u64 w u2 (dig 18446744073709551616 Y)) =>
      pmerged_any 44 (dig 18446744073709551616 X).length subD subB _ sub_nx v2 u2 _ _ a1 (Nat.le_refl _) (by omega) h2 (getD_lt a2) (wds_sub _ a2) w h h')
    rw [sub_made _ _ a1 a2 (by rw [val_dig _ (by decide), val_dig _ (by decide)]; exact hle) _ rfl, val_dig _ (by decide), val_dig _ (by decide)] at KM
    obtain ⟨r, hr⟩ : ∃ r, cmpi X Y = r := ⟨_, rfl⟩
    have hr0 : decide (r < 0) = false := by
      rw [← hr]
      rcases Nat.lt_or_ge Y X with h | h
      · rw [cmpi_gt h]; rfl
      · rw [cmpi_eq (by omega)]; rfl
    rw [hr] at KC
    obtain ⟨l, hl⟩ : ∃ l, dig 18446744073709551616 X = l := ⟨_, rfl⟩
    obtain ⟨m, hm⟩ : ∃ l, dig 18446744073709551616 Y = l := ⟨_, rfl⟩
    rw [hl] at KT KM KC
    rw [hm] at KU KM KC
    clear hlt hle hml hl hm a1 a2 hv hu h1 h2 hr
    go_enter Try.func27, Try.ntmps27
    go_wp2_with (first
      | (go_at_call 42; (with_reducible refine KT.out.mono ?_); rintro e w' ⟨v2, rfl, rfl, hv2⟩; have HV := Lib.hid hv2; obtain ⟨A, c, rfl, _⟩ := hv2)
      | (go_at_call 42; (with_reducible refine KU.out.mono ?_); rintro e w' ⟨u2, rfl, rfl, hu2⟩; have HU := Lib.hid hu2; obtain ⟨B, d, rfl, _⟩ := hu2)
      | (go_at_call 29; refine (KC.out _ _ HV.out HU.out).mono ?_; rintro e w2 ⟨rfl, hb3⟩; have HB3 := Lib.hid hb3; clear hb3)
      | (go_at_call 43; refine (KM.out _ _ _ (HV.out.bl HB3.out) (HU.out.bl HB3.out)).mono ?_; rintro e w' ⟨v3, rfl, hv3, hb4⟩; have HV3 := Lib.hid hv3; have HB4 := Lib.hid hb4; clear hv3 hb4))
    go_ret2
    exact ⟨_, rfl, HV3.out, HB3.out.trans HB4.out⟩
end Go.Proofs.Ytojpfijjnocboaa
namespace Go.Proofs.Ytojpfijjnocboaa
open Go.RowKit
set_option linter.unusedVariables false
set_option linter.unusedSimpArgs false

/-- A value reads as one row alone. -/
theorem rw_inj {k : IntKind} {w : World} {v : Value} {l m : List Nat} (h : Rw k w v l) (h' : Rw k w v m) : l = m := by
  obtain ⟨A, c, rfl, _, _, _, hx⟩ := h
  obtain ⟨A', c', e, _, _, _, hy⟩ := h'
  injection e with e1 e2 e3
  subst e1
  refine List.ext_getElem e2 fun i h1 h2 => ?_
  obtain ⟨ad, ea, hc⟩ := Src.at_ hx h1
  obtain ⟨ad', ea', hc'⟩ := Src.at_ hy h2
  rw [ea] at ea'
  cases ea'
  rw [hc] at hc'
  injection hc' with hc'
  injection hc' with _ hc'
  exact Int.ofNat.inj hc'
/-- The number that a value reads as (0, if as none): a loop's measure. -/
noncomputable def nuOf (k : IntKind) (B : Nat) (w : World) (v : Value) : Nat := by
  classical exact if h : ∃ Y, Rw k w v (dig B Y) then Classical.choose h else 0
theorem nuOf_eq {k : IntKind} {B : Nat} (hB : 2 ≤ B) {w : World} {v : Value} {Y : Nat} (h : Rw k w v (dig B Y)) : nuOf k B w v = Y := by
  have hx : ∃ Y, Rw k w v (dig B Y) := ⟨Y, h⟩
  have e : nuOf k B w v = Classical.choose hx := by unfold nuOf; rw [dif_pos hx]
  rw [e]
  have := rw_inj (Classical.choose_spec hx) h
  rw [← val_dig B hB (Classical.choose hx), this, val_dig B hB]

end Go.Proofs.Ytojpfijjnocboaa
namespace Go.Proofs.Ytojpfijjnocboaa
open Go.RowKit
set_option linter.unusedVariables false

/-- v reads as the digits of X. -/
abbrev De (W : World) (v : Value) (X : Nat) : Prop := Rw .i64 W v (dig 65536 X)
theorem De.bl {W w : World} {v : Value} {X : Nat} (h : De W v X) (g : Bl W w) : De w v X := Rw.bl h g
/-- X has 200 words at most. -/
def Sd (X : Nat) : Prop := Sz 200 X
theorem Sz.sd {k X : Nat} (h : Sz k X) (hk : k ≤ 200) : Sd X := h.mono hk
theorem dlen (X k : Nat) (h : Sz k X) : (dig 65536 X).length ≤ 4 * k := by
  unfold Sz at h
  rw [w64_pow] at h
  exact dig_len_of_lt 65536 (by decide) X _ h
theorem Sd.len {X : Nat} (h : Sd X) : (dig 65536 X).length ≤ 800 := by have := dlen X 200 h; omega
theorem Sd.lenw {X : Nat} (h : Sd X) : (dig 18446744073709551616 X).length ≤ 200 := dig_len_of_lt _ (by decide) X 200 h

theorem kDigits {v : Value} {l : List Nat} {A : Nat} (ha : All 18446744073709551616 l) (hl : l.length ≤ 40) (e : val 18446744073709551616 l = A) (W : World) (h : Rw .u64 W v l) :
    Calls Try.prog 14 #[v] W (RwEnd .i64 W (dig 65536 A)) := by
  subst e
  exact rdigits_any v l ha (by omega) W h
theorem kDigit {v : Value} {x : Nat} (hx : x < 18446744073709551616) (W : World) (h : Rw .u64 W v [x]) :
    Calls Try.prog 14 #[v] W (RwEnd .i64 W (dig 65536 x)) :=
  kDigits (all_cons hx (all_nil _)) (by simp) (val_one _ x) W h
theorem kWords (X : Nat) (hs : Sd X) (W : World) (v : Value) (h : De W v X) : Calls Try.prog 13 #[v] W (RwEnd .u64 W (dig 18446744073709551616 X)) := by
  have c := rwords_any v (dig 65536 X) (all_dig _ (by decide) X) (by have := hs.len; omega) W h
  rw [val_dig _ (by decide)] at c
  exact c
theorem kSame (X : Nat) (hs : Sd X) (W : World) (v u : Value) (h : Rw .u64 W v (dig 18446744073709551616 X)) (h' : Rw .u64 W u (dig 18446744073709551616 X)) :
    Calls Try.prog 16 #[v, u] W fun e w => e = .returned (.bool true) ∧ Bl W w := by
  have c := rsame_any v u _ _ (by have := hs.lenw; omega) (by have := hs.lenw; omega) W h h'
  rw [decide_eq_true rfl] at c
  exact c
theorem kSame0 (W : World) (v u : Value) (h : Rw .u64 W v []) (h' : Rw .u64 W u []) :
    Calls Try.prog 16 #[v, u] W fun e w => e = .returned (.bool true) ∧ Bl W w := by
  have c := rsame_any v u _ _ (by simp) (by simp) W h h'
  rw [decide_eq_true rfl] at c
  exact c
theorem kAdd (X Y : Nat) (hs : Sd X) (hs' : Sd Y) (W : World) (v u : Value) (h : De W v X) (h' : De W u Y) : Calls Try.prog 23 #[v, u] W (RwEnd .i64 W (dig 65536 (X + Y))) :=
  radd4_any v u X Y (by have := hs.len; omega) (by have := hs'.len; omega) W h h'
theorem kMul (X Y : Nat) (hs : Sd X) (hs' : Sd Y) (W : World) (v u : Value) (h : De W v X) (h' : De W u Y) : Calls Try.prog 22 #[v, u] W (RwEnd .i64 W (dig 65536 (X * Y))) :=
  rmul4_any v u X Y (by have := hs.len; omega) (by have := hs'.len; omega) W h h'
theorem kCmp (X Y : Nat) (hs : Sd X) (hs' : Sd Y) (W : World) (v u : Value) (h : De W v X) (h' : De W u Y) : Calls Try.prog 24 #[v, u] W fun e w => e = .returned (.int .i64 (cmpi X Y)) ∧ Bl W w :=
  rcmp_any v u X Y (by have := hs.len; omega) (by have := hs'.len; omega) W h h'
theorem kDiv (X D : Nat) (hD : 0 < D) (hs : Sd X) (hs' : Sd D) (W : World) (v u : Value) (h : De W v X) (h' : De W u D) : Calls Try.prog 36 #[v, u] W (RwEnd2 .i64 W (dig 65536 (X / D)) (dig 65536 (X % D))) :=
  rdiv4_any v u X D hD (by have := hs.len; omega) (by have := hs'.len; omega) W h h'
theorem kBits (X : Nat) (hs : Sd X) (W : World) (v : Value) (h : De W v X) : Calls Try.prog 40 #[v] W fun e w => e = .returned (.int .i64 ((blen X : Nat) : Int)) ∧ W = w :=
  rbits_any v X (by have := hs.len; omega) W h
theorem kPower (n : Nat) (hn : n ≤ 3000) (W : World) : Calls Try.prog 39 #[.int .i64 (n : Int)] W (RwEnd .i64 W (dig 65536 (2 ^ n))) := rpower_any n (by omega) W
theorem sz_pow' (n k : Nat) (hn : n < 64 * k) : Sz k (2 ^ n) := by
  unfold Sz
  have e : (18446744073709551616 : Nat) = 2 ^ 64 := by decide
  rw [e, ← Nat.pow_mul]
  exact Nat.pow_lt_pow_right (by decide) hn
theorem sz_pow (n : Nat) (hn : n ≤ 3000) : Sz 47 (2 ^ n) := sz_pow' n 47 (by omega)
end Go.Proofs.Ytojpfijjnocboaa
namespace Go.Proofs.Ytojpfijjnocboaa
open Go.RowKit
set_option linter.unusedVariables false
set_option linter.unusedSimpArgs false

theorem kDg {W : World} {v : Value} {X : Nat} (h : Nu W v X) : Calls Try.prog 14 #[v] W (RwEnd .i64 W (dig 65536 X)) := by
  obtain ⟨l, h1, ha, hl, hx⟩ := h
  subst hx
  exact rdigits_any v l ha (by omega) W h1
theorem szmul {X Y j k : Nat} (h : Sz j X) (h' : Sz k Y) : Sz (j + k) (X * Y) := by
  unfold Sz
  rw [Nat.pow_add]
  exact Nat.mul_lt_mul'' h h'
theorem sd_mul {X Y j k : Nat} (h : Sz j X) (h' : Sz k Y) (hk : j + k ≤ 200) : Sd (X * Y) := by
  refine Sz.mono (k := j + k) ?_ hk
  unfold Sz
  rw [Nat.pow_add]
  exact Nat.mul_lt_mul'' h h'

theorem w64_two (n : Nat) : 18446744073709551616 ^ n = 2 ^ (64 * n) := by rw [Nat.pow_mul]
theorem kPow (n : Nat) (hn : n ≤ 100) (W : World) : Calls Try.prog 39 #[.int .i64 ((64 * n : Nat) : Int)] W (RwEnd .i64 W (dig 65536 (18446744073709551616 ^ n))) := by
  rw [w64_two]
  exact rpower_any (64 * n) (by omega) W
theorem sz_pw (n : Nat) : Sz (n + 1) (18446744073709551616 ^ n) := Nat.pow_lt_pow_right (by decide) (by omega)

end Go.Proofs.Ytojpfijjnocboaa
