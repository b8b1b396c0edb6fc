/-
  The walks of the statements of layer 3: the head of each; MontForms, MontNeg.
-/
import Derived.Test.YtpdbdnhjibkflaaMontS
namespace Go.Proofs.Ytpdbdnhjibkflaa
open Go.RowKit
set_option linter.unusedVariables false

theorem make_shown (w : World) : Calls Try.prog 11 #[.int .u32 3] w
    fun e w' => e = .returned (.tuple #[.agg #[.int .u32 3, .int .u32 1431655765, .int .u32 1, .int .u32 1], .int .i64 0]) ∧ Gr w w' := by
  have h := make_yes 3 ⟨by decide, by decide, by decide⟩ w
  have e1 : ngn 3 = 1431655765 := by decide +kernel
  have e2 : fm 3 1 = 1 := by decide +kernel
  rw [e1, e2, e2] at h
  exact h

set_option maxRecDepth 100000 in
set_option maxHeartbeats 1000000 in
theorem mshown_any (w : World) : Calls Try.prog 10 #[] w fun e w' => e = .returned (.bool true) ∧ Gr w w' := by
  go_enter Try.func10, Try.ntmps10
  go_wp2_with (go_at_call 11; (with_reducible refine (make_shown _).mono ?_); rintro e w1 ⟨rfl, hg⟩; have HG := Lib.hid hg; clear hg)
  go_ret
  exact ⟨rfl, HG.out.alloc _ _⟩

set_option maxRecDepth 100000 in
set_option maxHeartbeats 1000000 in
theorem montForms_walk (m : Nat) (hm : m < 4294967296) (w : World) :
    Calls Try.prog 3 #[.int .u32 (m : Int)] w fun e w' => e = .returned (.bool true) ∧ Gr w w' := by
  obtain ⟨m0, g, o, q, c, M, R⟩ : ∃ m0 g o q : Nat, ∃ c : Int, (∀ w, Calls Try.prog 11 #[.int .u32 (m : Int)] w fun e w' => e = .returned (mk m0 g o q c) ∧ Gr w w') ∧
      (∀ w, Calls Try.prog 12 #[.int .u32 (m : Int)] w fun e w' => e = .returned (mk m0 g o q c) ∧ Gr w w') := by
    by_cases h : May m
    · exact ⟨_, _, _, _, _, make_yes m h, rmake_yes m h⟩
    · exact ⟨_, _, _, _, _, make_no m hm h, rmake_no m h⟩
  unfold mk frm at M R
  have HM := Lib.hid M
  have HR := Lib.hid R
  clear M R hm
  go_enter Try.func3, Try.ntmps3
  go_wp2_with (first
    | (go_at_call 10; (with_reducible refine (mshown_any _).mono ?_); rintro e w1 ⟨rfl, hg⟩; have H1 := Lib.hid hg; clear hg)
    | (go_at_call 11; (with_reducible refine (HM.out _).mono ?_); rintro e w2 ⟨rfl, hg⟩; have H2 := Lib.hid (H1.out.trans hg); clear hg)
    | (go_at_call 12; (with_reducible refine (HR.out _).mono ?_); rintro e w3 ⟨rfl, hg⟩; obtain ⟨k0, k1, k2, k3, kb⟩ := (four_box w2 _ _ _ _ _).kept hg; have H3 := Lib.hid ((H2.out.alloc _ _).trans hg); clear hg))
  go_ret
  exact ⟨rfl, H3.out.alloc _ _⟩

set_option maxRecDepth 100000 in
set_option maxHeartbeats 1000000 in
theorem montNeg_walk (m : Nat) (hm : m < 4294967296) (w : World) :
    Calls Try.prog 7 #[.int .u32 (m : Int)] w fun e w' => e = .returned (.bool true) ∧ Gr w w' := by
  by_cases h : May m
  · have M := Lib.hid (make_yes m h)
    have p := pm_of m h
    have m0 : 0 < m := by have := h.2.1; omega
    have ho := fm_lt m 1 m0
    have hq := fm_lt m (fm m 1) m0
    obtain ⟨o, hoe⟩ : ∃ o, fm m 1 = o := ⟨_, rfl⟩
    rw [hoe] at M ho hq
    obtain ⟨q, hqe⟩ : ∃ q, fm m o = q := ⟨_, rfl⟩
    rw [hqe] at M hq
    have hn := p.ok
    obtain ⟨g, hge⟩ : ∃ g, ngn m = g := ⟨_, rfl⟩
    rw [hge] at M hn
    obtain ⟨x, hx⟩ : ∃ x, g * m = x := ⟨_, rfl⟩
    unfold NegOk at hn
    rw [hx] at hn
    have r1 : (g : Int) * (m : Int) % 4294967296 = ((x % 4294967296 : Nat) : Int) := by rw [← Int.natCast_mul, hx]; rfl
    have r2 : (((x % 4294967296 : Nat) : Int) + 1) % 4294967296 = 0 := by omega
    obtain ⟨y, hy⟩ : ∃ y, x % 4294967296 = y := ⟨_, rfl⟩
    rw [hy] at r1 r2
    have d1 : decide (o < m) = true := decide_eq_true ho
    have d2 : decide (q < m) = true := decide_eq_true hq
    unfold mk frm at M
    clear p hn hx hy hoe hqe hge h hm ho hq m0
    go_enter Try.func7, Try.ntmps7
    go_wp2_with (first
      | (go_at_call 10; (with_reducible refine (mshown_any _).mono ?_); rintro e w1 ⟨rfl, hg⟩; have H1 := Lib.hid hg; clear hg)
      | (go_at_call 11; (with_reducible refine (M.out _).mono ?_); rintro e w2 ⟨rfl, hg⟩; have H2 := Lib.hid (H1.out.trans hg); clear hg))
    go_ret
    exact ⟨rfl, H2.out.alloc _ _⟩
  · have M := Lib.hid (make_no m hm h)
    unfold mk frm at M
    clear h hm
    go_enter Try.func7, Try.ntmps7
    go_wp2_with (first
      | (go_at_call 10; (with_reducible refine (mshown_any _).mono ?_); rintro e w1 ⟨rfl, hg⟩; have H1 := Lib.hid hg; clear hg)
      | (go_at_call 11; (with_reducible refine (M.out _).mono ?_); rintro e w2 ⟨rfl, hg⟩; have H2 := Lib.hid (H1.out.trans hg); clear hg))
    go_ret
    exact ⟨rfl, H2.out.alloc _ _⟩
end Go.Proofs.Ytpdbdnhjibkflaa
