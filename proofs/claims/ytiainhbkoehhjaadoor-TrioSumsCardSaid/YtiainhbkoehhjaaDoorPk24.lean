/-
  Package trio: isOne, refusal, isLarge, Mod.
-/
import Derived.Test.YtiainhbkoehhjaaDoorPk22
import Derived.Test.YtiainhbkoehhjaaDoorPk16
import Derived.Test.YtiainhbkoehhjaaDoorPk23
namespace Go.Proofs.YtiainhbkoehhjaaDoor
open Go.RowKit
set_option linter.unusedVariables false
set_option linter.unusedSimpArgs false

/-- The three primes, in their order. -/
def p3 : Nat → Nat
  | 0 => 998244353
  | 1 => 167772161
  | _ => 469762049
/-- They lie in the package's variable. -/
def PrW (w : World) : Prop := 0 < w.heap.size ∧ ∀ i, i < 3 → w.cell? ⟨0, i, none⟩ = some (.int .u32 ((p3 i : Nat) : Int))
theorem PrW.bl {W w : World} (h : PrW W) (g : Bl W w) : PrW w := ⟨Nat.lt_of_lt_of_le h.1 g.size, fun i hi => (g.cell (p := ⟨0, i, none⟩) h.1).trans (h.2 i hi)⟩
theorem p3_is (i : Nat) : P3 (p3 i) := by
  match i with
  | 0 => exact .inl rfl
  | 1 => exact .inr (.inl rfl)
  | _ + 2 => exact .inr (.inr rfl)
theorem p3_lt (i : Nat) : p3 i < 4294967296 := by have := (p3_is i).ge; omega
theorem p3_one {m : Nat} (h : P3 m) : ∃ i, i < 3 ∧ p3 i = m := by
  rcases h with h | h | h
  · exact ⟨0, by decide, h.symm⟩
  · exact ⟨1, by decide, h.symm⟩
  · exact ⟨2, by decide, h.symm⟩

set_option maxRecDepth 100000 in
theorem isOne_yes (m : Nat) (h : P3 m) (w : World) (hw : PrW w) : Calls Tryd.prog 36 #[.int .u32 (m : Int)] w fun e w' => e = .returned (.bool true) ∧ w = w' := by
  have HW := Lib.hid hw
  have HP := Lib.hid h
  clear h hw
  go_enter Tryd.func36, Tryd.ntmps36
  go_wp2
  go_loopw [4] (fun sv wr => ∃ i : Nat, i ≤ 3 ∧ sv = .int .i64 (i : Int) ∧ Hid (∀ j, j < i → p3 j ≠ m) ∧ w = wr) (fun sv _ => 3 - (intOf sv).toNat)
  case atStart => exact ⟨0, by decide, rfl, (fun j hj => absurd hj (by omega)), rfl⟩
  case round =>
    obtain ⟨i, hi, rfl, hno, rfl⟩ := hrel
    by_cases hlt : i < 3
    · have q := HW.out.2 i hlt
      obtain ⟨p, hp⟩ : ∃ p, p3 i = p := ⟨_, rfl⟩
      rw [hp] at q
      have HPI := Lib.hid hp
      have b1 : (0 : Int) ≤ (i : Int) ∧ (i : Int) < 3 := by omega
      by_cases he : p = m
      · have t : ((p : Int) == (m : Int)) = true := by rw [beq_iff_eq]; omega
        clear he hp
        go_wp2
        go_ret
        exact ⟨rfl, rfl⟩
      · have t : ((p : Int) == (m : Int)) = false := by rw [beq_eq_false_iff_ne]; omega
        have hno2 : Hid (∀ j, j < i + 1 → p3 j ≠ m) := fun j hj => by
          rcases Nat.lt_or_ge j i with h | h
          · exact hno.out j h
          · rw [show j = i from by omega, HPI.out]; exact he
        clear he hp
        go_wp2
        go_roundw
        case rel => exact ⟨i + 1, hlt, by go_num, hno2, trivial⟩
        case measure => simp [intOf] <;> omega
    · exfalso
      obtain ⟨j, hj, hjm⟩ := p3_one HP.out
      exact hno.out j (by omega) hjm

set_option maxRecDepth 100000 in
theorem isOne_no (m : Nat) (h : ¬ P3 m) (w : World) (hw : PrW w) : Calls Tryd.prog 36 #[.int .u32 (m : Int)] w fun e w' => e = .returned (.bool false) ∧ w = w' := by
  have HW := Lib.hid hw
  have HP := Lib.hid h
  clear h hw
  go_enter Tryd.func36, Tryd.ntmps36
  go_wp2
  go_loopw [4] (fun sv wr => ∃ i : Nat, i ≤ 3 ∧ sv = .int .i64 (i : Int) ∧ w = wr) (fun sv _ => 3 - (intOf sv).toNat)
  case atStart => exact ⟨0, by decide, rfl, rfl⟩
  case round =>
    obtain ⟨i, hi, rfl, rfl⟩ := hrel
    by_cases hlt : i < 3
    · have q := HW.out.2 i hlt
      have hne : p3 i ≠ m := fun e => HP.out (e ▸ p3_is i)
      obtain ⟨p, hp⟩ : ∃ p, p3 i = p := ⟨_, rfl⟩
      rw [hp] at q hne
      have b1 : (0 : Int) ≤ (i : Int) ∧ (i : Int) < 3 := by omega
      have t : ((p : Int) == (m : Int)) = false := by rw [beq_eq_false_iff_ne]; omega
      clear hp hne
      go_wp2
      go_roundw
      case rel => exact ⟨i + 1, hlt, by go_num, trivial⟩
      case measure => simp [intOf] <;> omega
    · have h3 : i = 3 := by omega
      subst h3
      go_wp2
      go_ret
      exact ⟨rfl, rfl⟩

theorem refusal_any (b : Bool) (n : Nat) (hn : n ≤ 20000) (w : World) : Calls Tryd.prog 35 #[.bool b, .int .i64 (n : Int)] w fun e w' => e = .returned (.int .i64 (if b then 1 else 0)) ∧ w = w' := by
  have d : decide (1048576 < (n : Int)) = false := decide_eq_false (by omega)
  have d2 : decide (1048576 < n) = false := decide_eq_false (by omega)
  have hni : (n : Int) ≤ 20000 := by omega
  clear hn
  cases b
  · go_enter Tryd.func35, Tryd.ntmps35
    go_wp2
    go_ret
    exact ⟨rfl, rfl⟩
  · go_enter Tryd.func35, Tryd.ntmps35
    go_wp2
    go_ret
    exact ⟨rfl, rfl⟩

theorem large_yes (x : Nat) (h : 4294967296 ≤ x) (w : World) : Calls Tryd.prog 63 #[.int .u64 (x : Int)] w fun e w' => e = .returned (.bool true) ∧ w = w' := by
  have d : decide ((4294967296 : Int) ≤ (x : Int)) = true := decide_eq_true (by omega)
  clear h
  go_enter Tryd.func63, Tryd.ntmps63
  go_wp2
  go_ret
  exact ⟨rfl, rfl⟩
theorem large_no (x : Nat) (h : ¬ 4294967296 ≤ x) (w : World) : Calls Tryd.prog 63 #[.int .u64 (x : Int)] w fun e w' => e = .returned (.bool false) ∧ w = w' := by
  have d : decide ((4294967296 : Int) ≤ (x : Int)) = false := decide_eq_false (by omega)
  clear h
  go_enter Tryd.func63, Tryd.ntmps63
  go_wp2
  go_ret
  exact ⟨rfl, rfl⟩

/-- The first element that is too great, if there is one. -/
theorem first_large (l : List Nat) (h : ¬ All 4294967296 l) : ∃ r, ∃ hr : r < l.length, 4294967296 ≤ l[r] ∧ ∀ j (hj : j < r), l[j]'(by omega) < 4294967296 := by
  have key : ∀ n, (∃ r, ∃ hr : r < l.length, r < n ∧ 4294967296 ≤ l[r] ∧ ∀ j (hj : j < r), l[j]'(by omega) < 4294967296) ∨ ∀ j (hj : j < l.length), j < n → l[j] < 4294967296 := by
    intro n
    induction n with
    | zero => exact .inr fun j _ hj => by omega
    | succ n ih =>
      rcases ih with ⟨r, hr, h1, h2⟩ | h1
      · exact .inl ⟨r, hr, by omega, h2⟩
      · by_cases hn : n < l.length
        · by_cases h2 : 4294967296 ≤ l[n]
          · exact .inl ⟨n, hn, by omega, h2, fun j hj => h1 j (by omega) hj⟩
          · refine .inr fun j hj hjn => ?_
            by_cases e : j = n
            · subst e; omega
            · exact h1 j hj (by omega)
        · exact .inr fun j hj hjn => h1 j hj (by omega)
  rcases key l.length with ⟨r, hr, _, h1, h2⟩ | h1
  · exact ⟨r, hr, h1, h2⟩
  · exact absurd (fun i hi => h1 i hi hi) h

def lgv : Value := .func (.func 63) #[] #[]
set_option maxRecDepth 100000 in
theorem index_no (v : Value) (l : List Nat) (hl : l.length ≤ 10000) (ha : All 4294967296 l) (w : World) (hv : Rw .u64 w v l) :
    Calls Tryd.prog 76 #[v, lgv] w fun e w' => e = .returned (.int .i64 (-1)) ∧ w = w' := by
  obtain ⟨A, c, rfl, _, _, _, hx⟩ := hv
  have HX := Lib.hid hx
  have HA := Lib.hid ha
  obtain ⟨n, hn⟩ : ∃ n, l.length = n := ⟨_, rfl⟩
  have HN := Lib.hid hn
  have hni : (n : Int) ≤ 10000 := by omega
  rw [hn]
  clear hx ha hn hl
  unfold lgv
  go_enter Tryd.func76, Tryd.ntmps76
  go_wp2
  go_loopw [8] (fun sv wr => ∃ i : Nat, i ≤ n ∧ sv = .int .i64 (i : Int) ∧ w = wr) (fun sv _ => n - (intOf sv).toNat)
  case atStart => exact ⟨0, Nat.zero_le _, rfl, rfl⟩
  case round =>
    obtain ⟨i, hi, rfl, rfl⟩ := hrel
    by_cases hlt : i < n
    · obtain ⟨ad, hA, hc⟩ := HX.out.at_ (i := i) (by rw [HN.out]; exact hlt)
      have hd := HA.out i (by rw [HN.out]; exact hlt)
      obtain ⟨d, ed⟩ : ∃ d, l[i]'(by rw [HN.out]; exact hlt) = d := ⟨_, rfl⟩
      rw [ed] at hc hd
      have LG := Lib.hid (fun w => large_no d (by omega) w)
      have b1 : (0 : Int) ≤ (i : Int) ∧ (i : Int) < (n : Int) := by omega
      subst hA
      clear ed hd
      go_wp2_with (go_at_call 63; (with_reducible refine (LG.out _).mono ?_); rintro e w' ⟨rfl, rfl⟩)
      go_roundw
      case rel => exact ⟨i + 1, hlt, by go_num, trivial⟩
      case measure => simp [intOf] <;> omega
    · have hin' : i = n := by omega
      subst hin'
      go_wp2
      go_ret
      exact ⟨rfl, rfl⟩
set_option maxRecDepth 100000 in
theorem index_yes (v : Value) (l : List Nat) (hl : l.length ≤ 10000) (r : Nat) (hr : r < l.length) (hr1 : 4294967296 ≤ l[r]) (hr2 : ∀ j (hj : j < r), l[j]'(by omega) < 4294967296) (w : World) (hv : Rw .u64 w v l) :
    Calls Tryd.prog 76 #[v, lgv] w fun e w' => e = .returned (.int .i64 (r : Int)) ∧ w = w' := by
  obtain ⟨A, c, rfl, _, _, _, hx⟩ := hv
  have HX := Lib.hid hx
  have H1 := Lib.hid hr1
  have H2 := Lib.hid hr2
  have HR := Lib.hid hr
  obtain ⟨n, hn⟩ : ∃ n, l.length = n := ⟨_, rfl⟩
  have HN := Lib.hid hn
  have hni : (n : Int) ≤ 10000 := by omega
  have hrn : r < n := by omega
  rw [hn]
  clear hx hn hl hr1 hr2
  unfold lgv
  go_enter Tryd.func76, Tryd.ntmps76
  go_wp2
  go_loopw [8] (fun sv wr => ∃ i : Nat, i ≤ r ∧ sv = .int .i64 (i : Int) ∧ w = wr) (fun sv _ => n - (intOf sv).toNat)
  case atStart => exact ⟨0, Nat.zero_le _, rfl, rfl⟩
  case round =>
    obtain ⟨i, hi, rfl, rfl⟩ := hrel
    have hlt : i < n := by omega
    obtain ⟨ad, hA, hc⟩ := HX.out.at_ (i := i) (by rw [HN.out]; exact hlt)
    have b1 : (0 : Int) ≤ (i : Int) ∧ (i : Int) < (n : Int) := by omega
    subst hA
    by_cases hir : i < r
    · have hd := H2.out i hir
      obtain ⟨d, ed⟩ : ∃ d, l[i]'(by rw [HN.out]; exact hlt) = d := ⟨_, rfl⟩
      rw [ed] at hc hd
      have LG := Lib.hid (fun w => large_no d (by omega) w)
      clear ed hd
      go_wp2_with (go_at_call 63; (with_reducible refine (LG.out _).mono ?_); rintro e w' ⟨rfl, rfl⟩)
      go_roundw
      case rel => exact ⟨i + 1, hir, by go_num, trivial⟩
      case measure => simp [intOf] <;> omega
    · have hir' : i = r := by omega
      subst hir'
      have hd := H1.out
      obtain ⟨d, ed⟩ : ∃ d, l[i]'(by rw [HN.out]; exact hlt) = d := ⟨_, rfl⟩
      rw [ed] at hc hd
      have LG := Lib.hid (fun w => large_yes d hd w)
      clear ed hd H1
      go_wp2_with (go_at_call 63; (with_reducible refine (LG.out _).mono ?_); rintro e w' ⟨rfl, rfl⟩)
      go_ret
      exact ⟨rfl, rfl⟩

theorem contains_any (v : Value) (l : List Nat) (hl : l.length ≤ 10000) (b : Bool) (hb : b = true ↔ ¬ All 4294967296 l) (w : World) (hv : Rw .u64 w v l) :
    Calls Tryd.prog 62 #[v, lgv] w fun e w' => e = .returned (.bool b) ∧ w = w' := by
  have hv' := hv
  obtain ⟨A, c, rfl, _, _, _, _⟩ := hv'
  by_cases ha : All 4294967296 l
  · have hbf : b = false := by cases b; rfl; exact absurd ha (hb.1 rfl)
    have K := Lib.hid (index_no _ l hl ha w hv)
    subst hbf
    obtain ⟨n, hn⟩ : ∃ n, l.length = n := ⟨_, rfl⟩
    rw [hn] at K ⊢
    clear hb ha hv hn hl
    unfold lgv at K ⊢
    go_enter Tryd.func62, Tryd.ntmps62
    go_wp2_with (go_at_call 76; (with_reducible refine K.out.mono ?_); rintro e w' ⟨rfl, rfl⟩)
    go_ret
    exact ⟨rfl, rfl⟩
  · have hbt : b = true := hb.2 ha
    obtain ⟨r, hr, h1, h2⟩ := first_large l ha
    have K := Lib.hid (index_yes _ l hl r hr h1 h2 w hv)
    have d : decide ((0 : Int) ≤ (r : Int)) = true := decide_eq_true (by omega)
    subst hbt
    obtain ⟨n, hn⟩ : ∃ n, l.length = n := ⟨_, rfl⟩
    have h1' := Lib.hid h1
    clear hb ha h2 hl h1
    rw [hn] at K ⊢
    unfold lgv at K ⊢
    go_enter Tryd.func62, Tryd.ntmps62
    go_wp2_with (go_at_call 76; (with_reducible refine K.out.mono ?_); rintro e w' ⟨rfl, rfl⟩)
    go_ret
    exact ⟨rfl, rfl⟩

theorem isLarge_any (v : Value) (l : List Nat) (hl : l.length ≤ 10000) (b : Bool) (hb : b = true ↔ ¬ All 4294967296 l) (w : World) (hv : Rw .u64 w v l) :
    Calls Tryd.prog 41 #[v] w fun e w' => e = .returned (.bool b) ∧ w = w' := by
  have hv' := hv
  have K := Lib.hid (contains_any v l hl b hb w hv)
  obtain ⟨A, c, rfl, _, _, _, _⟩ := hv'
  obtain ⟨n, hn⟩ : ∃ n, l.length = n := ⟨_, rfl⟩
  rw [hn] at K ⊢
  clear hb hv hn hl
  unfold lgv at K
  go_enter Tryd.func41, Tryd.ntmps41
  go_wp2_with (go_at_call 62; (with_reducible refine K.out.mono ?_); rintro e w' ⟨rfl, rfl⟩)
  go_ret
  exact ⟨rfl, rfl⟩

/-- What Mod comes to. -/
inductive M9 (W : World) (a b : List Nat) (m : Nat) (e : Ending) (w : World) : Prop
  | bad (h : ¬ P3 m) (he : RwErr .u32 W [] 1 e w) : M9 W a b m e w
  | ok (h : P3 m) (he : RwErr .u32 W ((cvs a b).map (· % m)) 0 e w) : M9 W a b m e w

set_option maxRecDepth 100000 in
set_option maxHeartbeats 1000000 in
theorem mod_any (v1 v2 : Value) (a b : List Nat) (m : Nat) (ha : All 18446744073709551616 a) (hb : All 18446744073709551616 b) (hal : a.length ≤ 10000) (hbl : b.length ≤ 10000) (w : World) (hw : PrW w) (h1 : Rw .u64 w v1 a) (h2 : Rw .u64 w v2 b) :
    Calls Tryd.prog 17 #[v1, v2, .int .u32 (m : Int)] w (M9 w a b m) := by
  have h1' := h1
  have h2' := h2
  obtain ⟨A1, c1, rfl, _, _, _, _⟩ := h1'
  obtain ⟨A2, c2, rfl, _, _, _, _⟩ := h2'
  have EL := Lib.hid (fun w => elements_any A1 A2 a.length b.length c1 c2 hal hbl w)
  obtain ⟨L, hL⟩ : ∃ L, (if a.length = 0 ∨ b.length = 0 then 0 else a.length + b.length - 1) = L := ⟨_, rfl⟩
  rw [hL] at EL
  have hLb : L ≤ 20000 := by rw [← hL]; split <;> omega
  by_cases hP : P3 m
  · have IS := Lib.hid (fun w hw => isOne_yes m hP w hw)
    have RF := Lib.hid (fun w => refusal_any false L hLb w)
    have PD := Lib.hid (product_any m hP w _ _ a b h1 h2 ha hb hal hbl)
    have HP := Lib.hid hP
    have HW := Lib.hid hw
    obtain ⟨x, hx⟩ : ∃ x, a.length = x := ⟨_, rfl⟩
    obtain ⟨y, hy⟩ : ∃ x, b.length = x := ⟨_, rfl⟩
    rw [hx, hy] at EL PD ⊢
    clear h1 h2 hw hP ha hb hal hbl hx hy hL hLb
    go_enter Tryd.func17, Tryd.ntmps17
    go_wp2_with (first
      | (go_at_call 36; (with_reducible refine (IS.out _ HW.out).mono ?_); rintro e w' ⟨rfl, rfl⟩)
      | (go_at_call 37; (with_reducible refine (EL.out _).mono ?_); rintro e w' ⟨rfl, rfl⟩)
      | (go_at_call 35; (with_reducible refine (RF.out _).mono ?_); rintro e w' ⟨rfl, rfl⟩)
      | (go_at_call 38; (with_reducible refine PD.out.mono ?_); rintro e w' ⟨v, rfl, hr, hb', _⟩))
    go_ret2
    exact .ok HP.out (RwErr.mk hr hb')
  · have IS := Lib.hid (fun w hw => isOne_no m hP w hw)
    have RF := Lib.hid (fun w => refusal_any true L hLb w)
    have HP := Lib.hid hP
    have HW := Lib.hid hw
    obtain ⟨x, hx⟩ : ∃ x, a.length = x := ⟨_, rfl⟩
    obtain ⟨y, hy⟩ : ∃ x, b.length = x := ⟨_, rfl⟩
    rw [hx, hy] at EL ⊢
    clear h1 h2 hw hP ha hb hal hbl hx hy hL hLb
    go_enter Tryd.func17, Tryd.ntmps17
    go_wp2_with (first
      | (go_at_call 36; (with_reducible refine (IS.out _ HW.out).mono ?_); rintro e w' ⟨rfl, rfl⟩)
      | (go_at_call 37; (with_reducible refine (EL.out _).mono ?_); rintro e w' ⟨rfl, rfl⟩)
      | (go_at_call 35; (with_reducible refine (RF.out _).mono ?_); rintro e w' ⟨rfl, rfl⟩))
    go_ret2
    exact .bad HP.out (RwErr.mk (Rw.nil _ _) (Bl.refl _))
end Go.Proofs.YtiainhbkoehhjaaDoor
