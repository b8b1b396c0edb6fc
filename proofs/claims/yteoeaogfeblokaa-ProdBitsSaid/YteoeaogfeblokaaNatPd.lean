/-
  Package nat: the closure that keeps the carry.
-/
import Derived.Test.YteoeaogfeblokaaNatPb
namespace Go.Proofs.Yteoeaogfeblokaa
open Go.RowKit
set_option linter.unusedVariables false

/-- What the closure answers over the carrier fid: a word by F, the next carry by G; Pb: the second words that it is asked of. -/
def Nx (fid : Nat) (F G : Nat → Nat → Nat → Nat) (Pb : Nat → Prop) : Prop := ∀ (a b c bf bc : Nat) (w : World), a < 18446744073709551616 → Pb b → c < 18446744073709551616 →
  w.cell? ⟨bf, 0, none⟩ = some (.func (.func fid) #[] #[]) → w.cell? ⟨bc, 0, none⟩ = some (.int .u64 (c : Int)) → w.frozen? ⟨bc, 0, none⟩ = false →
  Calls Try.prog 63 #[.int .u64 (a : Int), .int .u64 (b : Int), .pointer (some ⟨bf, 0, none⟩), .pointer (some ⟨bc, 0, none⟩)] w
    fun e w' => e = .returned (.int .u64 ((F a b c : Nat) : Int)) ∧ w' = w.setCell ⟨bc, 0, none⟩ (.int .u64 ((G a b c : Nat) : Int))

set_option maxRecDepth 100000 in
theorem add_nx : Nx 43 addS addC (fun b => b < 18446744073709551616) := by
  intro a b c bf bc w ha hb hc h1 h2 h3
  have HF := Lib.hid (fun w => add_any a b c w)
  obtain ⟨x, hx⟩ : ∃ x, addS a b c = x := ⟨_, rfl⟩
  obtain ⟨y, hy⟩ : ∃ x, addC a b c = x := ⟨_, rfl⟩
  rw [hx, hy] at HF ⊢
  clear hx hy ha hb hc
  go_enter Try.func63, Try.ntmps63
  go_wp2_with (go_at_call 43; refine (HF.out _).mono ?_; rintro e w' ⟨rfl, rfl⟩)
  go_ret
  exact ⟨rfl, rfl⟩

set_option maxRecDepth 100000 in
theorem sub_nx : Nx 56 subD subB (fun b => b < 18446744073709551616) := by
  intro a b c bf bc w ha hb hc h1 h2 h3
  have HF := Lib.hid (fun w => sub_any a b c w)
  obtain ⟨x, hx⟩ : ∃ x, subD a b c = x := ⟨_, rfl⟩
  obtain ⟨y, hy⟩ : ∃ x, subB a b c = x := ⟨_, rfl⟩
  rw [hx, hy] at HF ⊢
  clear hx hy ha hb hc
  go_enter Try.func63, Try.ntmps63
  go_wp2_with (go_at_call 56; refine (HF.out _).mono ?_; rintro e w' ⟨rfl, rfl⟩)
  go_ret
  exact ⟨rfl, rfl⟩

set_option maxRecDepth 100000 in
theorem raise_nx : Nx 50 raF raG (fun b => b ≤ 64) := by
  intro a b c bf bc w ha hb hc h1 h2 h3
  have HF := Lib.hid (fun w => praise_any a b c ha hb hc w)
  obtain ⟨x, hx⟩ : ∃ x, raF a b c = x := ⟨_, rfl⟩
  obtain ⟨y, hy⟩ : ∃ x, raG a b c = x := ⟨_, rfl⟩
  rw [hx, hy] at HF ⊢
  clear hx hy ha hb hc
  go_enter Try.func63, Try.ntmps63
  go_wp2_with (go_at_call 50; refine (HF.out _).mono ?_; rintro e w' ⟨rfl, rfl⟩)
  go_ret
  exact ⟨rfl, rfl⟩

set_option maxRecDepth 100000 in
theorem times_nx : Nx 51 tiF tiG (fun b => b < 18446744073709551616) := by
  intro a b c bf bc w ha hb hc h1 h2 h3
  have HF := Lib.hid (fun w => ptimes_any a b c ha hb hc w)
  obtain ⟨x, hx⟩ : ∃ x, tiF a b c = x := ⟨_, rfl⟩
  obtain ⟨y, hy⟩ : ∃ x, tiG a b c = x := ⟨_, rfl⟩
  rw [hx, hy] at HF ⊢
  clear hx hy ha hb hc
  go_enter Try.func63, Try.ntmps63
  go_wp2_with (go_at_call 51; refine (HF.out _).mono ?_; rintro e w' ⟨rfl, rfl⟩)
  go_ret
  exact ⟨rfl, rfl⟩
end Go.Proofs.Yteoeaogfeblokaa
