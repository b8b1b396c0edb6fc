/-
  The document's rows of digits (layer 4): Less.
-/
import Derived.Test.YtdbmfbfdiadiaaaNtI
namespace Go.Proofs.Ytdbmfbfdiadiaaa
open Go.RowKit
set_option linter.unusedVariables false

/-- What a call answers that hands back a row and an error. -/
def RwErr (k : IntKind) (W : World) (l : List Nat) (err : Int) (e : Ending) (w : World) : Prop := ∃ v, e = .returned (.tuple #[v, .int .i64 err]) ∧ Rw k w v l ∧ Bl W w
theorem RwErr.mk {k : IntKind} {W w : World} {l : List Nat} {v : Value} {err : Int} (h : Rw k w v l) (g : Bl W w) : RwErr k W l err (.returned (.tuple #[v, .int .i64 err])) w := ⟨v, rfl, h, g⟩

theorem digs_of_words (l : List Nat) (ha : All 18446744073709551616 l) (hl : l.length < 34359738368) : (dig 65536 (val 18446744073709551616 l)).length < 137438953472 := by
  have h := val_lt 18446744073709551616 (by decide) l ha
  rw [w64_pow] at h
  have := dig_len_of_lt 65536 (by decide) _ _ h
  omega

set_option maxRecDepth 100000 in
set_option maxHeartbeats 2000000 in
theorem rless_any (v1 v2 : Value) (l m : List Nat) (ha : All 18446744073709551616 l) (hb : All 18446744073709551616 m) (hl : l.length < 34359738368) (hm : m.length < 34359738368) (w : World) (hr1 : Rw .u64 w v1 l) (hr2 : Rw .u64 w v2 m) :
    Calls Try.prog 15 #[v1, v2] w
      (if val 18446744073709551616 l < val 18446744073709551616 m then RwErr .u64 w [] 3 else RwErr .u64 w (dig 18446744073709551616 (val 18446744073709551616 l - val 18446744073709551616 m)) 0) := by
  have D1 := Lib.hid (fun W h => rdigits_any v1 l ha (by omega) W h)
  have D2 := Lib.hid (fun W h => rdigits_any v2 m hb (by omega) W h)
  have lX := digs_of_words l ha hl
  have lY := digs_of_words m hb hm
  have e64 : W64 = 18446744073709551616 := rfl
  rw [e64] at D1 D2
  obtain ⟨X, eX⟩ : ∃ X, val 18446744073709551616 l = X := ⟨_, rfl⟩
  obtain ⟨Y, eY⟩ : ∃ Y, val 18446744073709551616 m = Y := ⟨_, rfl⟩
  rw [eX] at D1 lX
  rw [eY] at D2 lY
  rw [eX, eY]
  have R1 := Lib.hid hr1
  have R2 := Lib.hid hr2
  have C := fun W a b h1 h2 => rcmp_any a b X Y (by omega) (by omega) W h1 h2
  by_cases h : X < Y
  · rw [if_pos h]
    rw [cmpi_lt h] at C
    have HC := Lib.hid C
    clear C hr1 hr2 ha hb hl hm lX lY e64 h eX eY
    go_enter Try.func15, Try.ntmps15
    go_wp2_with (first
      | (go_at_call 13; (with_reducible refine (D1.out _ R1.out).mono ?_); rintro e w1 ⟨va, rfl, hr, hb'⟩; have Ha := Lib.hid hr; have Ga := Lib.hid hb'; clear hr hb')
      | (go_at_call 13; (with_reducible refine (D2.out _ (R2.out.bl Ga.out)).mono ?_); rintro e w2 ⟨vb, rfl, hr, hb'⟩; have Hb := Lib.hid hr; have Gb := Lib.hid hb'; clear hr hb')
      | (go_at_call 24; (with_reducible refine (HC.out _ _ _ (Ha.out.bl Gb.out) Hb.out).mono ?_); rintro e w3 ⟨rfl, hb'⟩; have Gc := Lib.hid (Ga.out.trans (Gb.out.trans hb')); clear hb'))
    go_ret2
    exact RwErr.mk (Rw.nil _ _) Gc.out
  · rw [if_neg h]
    have hcc : ¬ cmpi X Y < 0 := by
      unfold cmpi
      rw [if_neg h]
      split <;> omega
    obtain ⟨cc, ecc⟩ : ∃ cc, cmpi X Y = cc := ⟨_, rfl⟩
    rw [ecc] at C hcc
    have HC := Lib.hid C
    have SU := Lib.hid (fun W a b h1 h2 => rsub4_any a b X Y (by omega) (by omega) W h1 h2)
    have lS : (dig 65536 (X - Y)).length < 1099511627776 := by
      have := dig_len_of_lt 65536 (by decide) (X - Y) _ (Nat.lt_of_le_of_lt (Nat.sub_le X Y) (dig_lt 65536 (by decide) X))
      omega
    have WO := fun W v h => rwords_any v (dig 65536 (X - Y)) (all_dig 65536 (by decide) _) lS W h
    rw [val_dig 65536 (by decide)] at WO
    have HW := Lib.hid WO
    clear C WO hr1 hr2 ha hb hl hm lX lY e64 h ecc lS eX eY
    go_enter Try.func15, Try.ntmps15
    go_wp2_with (first
      | (go_at_call 13; (with_reducible refine (D1.out _ R1.out).mono ?_); rintro e w1 ⟨va, rfl, hr, hb'⟩; have Ha := Lib.hid hr; have Ga := Lib.hid hb'; clear hr hb')
      | (go_at_call 13; (with_reducible refine (D2.out _ (R2.out.bl Ga.out)).mono ?_); rintro e w2 ⟨vb, rfl, hr, hb'⟩; have Hb := Lib.hid hr; have Gb := Lib.hid hb'; clear hr hb')
      | (go_at_call 24; (with_reducible refine (HC.out _ _ _ (Ha.out.bl Gb.out) Hb.out).mono ?_); rintro e w3 ⟨rfl, hb'⟩; have Gc := Lib.hid hb'; clear hb')
      | (go_at_call 37; (with_reducible refine (SU.out _ _ _ (Ha.out.bl (Gb.out.trans Gc.out)) (Hb.out.bl Gc.out)).mono ?_); rintro e w4 ⟨vd, rfl, hr, hb'⟩; have Hd := Lib.hid hr; have Gd := Lib.hid hb'; clear hr hb')
      | (go_at_call 18; (with_reducible refine (HW.out _ _ Hd.out).mono ?_); rintro e w5 ⟨ve, rfl, hr, hb'⟩; have He := Lib.hid hr; have Ge := Lib.hid (Ga.out.trans (Gb.out.trans (Gc.out.trans (Gd.out.trans hb')))); clear hr hb'))
    go_ret2
    exact RwErr.mk He.out Ge.out
end Go.Proofs.Ytdbmfbfdiadiaaa
