/-
  The parameters of a number, and mont.Make: what they answer.
-/
import Derived.Test.YtpdbdnhjibkflaaMontC
namespace Go.Proofs.Ytpdbdnhjibkflaa
open Go.RowKit
set_option linter.unusedVariables false

/-- Has a number a form? -/
def May (m : Nat) : Prop := m % 2 = 1 ∧ 3 ≤ m ∧ m < 2147483648
theorem pm_of (m : Nat) (h : May m) : Pm m (ngn m) (fm m 1) (fm m (fm m 1)) := by
  obtain ⟨h1, h2, h3⟩ := h
  obtain ⟨a, b⟩ := ngn_ok m h1 (by omega)
  refine ⟨h1, h2, h3, b, a, rfl, ?_⟩
  unfold fm
  rw [Nat.one_mul, ← Nat.mul_mod, Nat.mod_mul_mod]

theorem params_no (m : Nat) (hm : m < 4294967296) (h : ¬ May m) (w : World) :
    Calls Try.prog 21 #[.int .u32 (m : Int)] w fun e w' => e = .returned (frm 0 0 0 0) ∧ Gr w w' := by
  unfold frm
  by_cases h1 : m < 3
  · clear h
    go_enter Try.func21, Try.ntmps21
    go_wp2
    refine bodyPost_ret (v := .agg #[.int .u32 0, .int .u32 0, .int .u32 0, .int .u32 0]) (by simp [results, Try.results21, go_sem]) rfl ⟨rfl, (Gr.refl _).alloc _ _⟩
  · by_cases h2 : m % 2 = 0
    · have hb : ((m : Int) % 2 == 0) = true := by rw [beq_iff_eq]; omega
      clear h h2
      go_enter Try.func21, Try.ntmps21
      go_wp2
      refine bodyPost_ret (v := .agg #[.int .u32 0, .int .u32 0, .int .u32 0, .int .u32 0]) (by simp [results, Try.results21, go_sem]) rfl ⟨rfl, (Gr.refl _).alloc _ _⟩
    · have hb : ((m : Int) % 2 == 0) = false := by rw [beq_eq_false_iff_ne]; omega
      have h3 : ¬ m < 2147483648 := fun h3 => h ⟨by omega, by omega, h3⟩
      have hc : decide ((2147483648 : Int) ≤ (m : Int)) = true := by rw [decide_eq_true_iff]; omega
      clear h h2 h3
      go_enter Try.func21, Try.ntmps21
      go_wp2
      refine bodyPost_ret (v := .agg #[.int .u32 0, .int .u32 0, .int .u32 0, .int .u32 0]) (by simp [results, Try.results21, go_sem]) rfl ⟨rfl, (Gr.refl _).alloc _ _⟩

set_option maxRecDepth 100000 in
set_option maxHeartbeats 1000000 in
theorem params_yes (m : Nat) (h : May m) (w : World) :
    Calls Try.prog 21 #[.int .u32 (m : Int)] w fun e w' => e = .returned (frm m (ngn m) (fm m 1) (fm m (fm m 1))) ∧ Gr w w' := by
  unfold frm
  obtain ⟨m1, m2, m3⟩ := h
  have h1 : ¬ m < 3 := by omega
  have hb : ((m : Int) % 2 == 0) = false := by rw [beq_eq_false_iff_ne]; omega
  have hc : decide ((2147483648 : Int) ≤ (m : Int)) = false := by rw [decide_eq_false_iff_not]; omega
  have S1 := Lib.hid (fun w => shifted_any m 1 m3 (by omega) w)
  have S2 := Lib.hid (fun w => shifted_any m (fm m 1) m3 (fm_lt m 1 (by omega)) w)
  have I := Lib.hid (fun w => inverse_any m w)
  have r : -((itn m 4 : Nat) : Int) % 4294967296 = ((ngn m : Nat) : Int) := by
    have := itn_lt m 4 (by omega)
    unfold ngn; omega
  obtain ⟨v, hv⟩ : ∃ v, itn m 4 = v := ⟨_, rfl⟩
  obtain ⟨g, hg⟩ : ∃ g, ngn m = g := ⟨_, rfl⟩
  obtain ⟨o, ho⟩ : ∃ o, fm m 1 = o := ⟨_, rfl⟩
  rw [ho] at S1 S2
  rw [show ((1 : Nat) : Int) = 1 from rfl] at S1
  obtain ⟨q, hq⟩ : ∃ q, fm m o = q := ⟨_, rfl⟩
  rw [hq] at S2
  rw [hv] at I r
  rw [hg] at r
  rw [hg, ho, hq]
  have F0 := Lib.hid (four_box w (.int .u32 0) (.int .u32 0) (.int .u32 0) (.int .u32 0) 25)
  clear hv hg ho hq m1 m2 m3
  go_enter Try.func21, Try.ntmps21
  go_wp2_with (first
    | (go_at_call 25; (with_reducible refine (S1.out _).mono ?_); rintro e w' ⟨rfl, rfl⟩)
    | (go_at_call 25; (with_reducible refine (S2.out _).mono ?_); rintro e w' ⟨rfl, rfl⟩)
    | (go_at_call 26; (with_reducible refine (I.out _).mono ?_); rintro e w1 ⟨rfl, hg⟩; obtain ⟨k0, k1, k2, k3, kb⟩ := F0.out.kept hg; have hf := hg.2; have HG := Lib.hid hg; clear hg))
  have hG : Gr w (((((w1.setCell ⟨w.heap.size, 0, none⟩ (.int .u32 (m : Int))).setCell ⟨w.heap.size, 1, none⟩ (.int .u32 (g : Int))).setCell ⟨w.heap.size, 2, none⟩ (.int .u32 (o : Int))).setCell ⟨w.heap.size, 3, none⟩ (.int .u32 (q : Int)))) :=
    ((((((Gr.refl w).alloc _ _).trans HG.out).setCell (Nat.le_refl _) _).setCell (Nat.le_refl _) _).setCell (Nat.le_refl _) _).setCell (Nat.le_refl _) _
  refine bodyPost_ret (v := .agg #[.int .u32 (m : Int), .int .u32 (g : Int), .int .u32 (o : Int), .int .u32 (q : Int)]) (by simp [results, Try.results21, go_sem, k0, k1, k2, k3]) rfl ⟨rfl, hG⟩

/-- What Make answers. -/
def mk (m n o s : Nat) (e : Int) : Value := .tuple #[frm m n o s, .int .i64 e]

set_option maxRecDepth 100000 in
set_option maxHeartbeats 1000000 in
theorem make_yes (m : Nat) (h : May m) (w : World) :
    Calls Try.prog 11 #[.int .u32 (m : Int)] w fun e w' => e = .returned (mk m (ngn m) (fm m 1) (fm m (fm m 1)) 0) ∧ Gr w w' := by
  have P := Lib.hid (fun w => params_yes m h w)
  unfold frm at P
  unfold mk frm
  have m1 := h.2.1
  have hb : ((m : Int) == 0) = false := by rw [beq_eq_false_iff_ne]; omega
  obtain ⟨g, hg⟩ : ∃ g, ngn m = g := ⟨_, rfl⟩
  obtain ⟨o, ho⟩ : ∃ o, fm m 1 = o := ⟨_, rfl⟩
  rw [ho] at P
  obtain ⟨q, hq⟩ : ∃ q, fm m o = q := ⟨_, rfl⟩
  rw [hg, hq] at P
  rw [hg, ho, hq]
  have F0 := Lib.hid (four_box w (.int .u32 0) (.int .u32 0) (.int .u32 0) (.int .u32 0) 25)
  clear hg ho hq m1 h
  go_enter Try.func11, Try.ntmps11
  go_wp2_with (go_at_call 21; (with_reducible refine (P.out _).mono ?_); rintro e w1 ⟨rfl, hg⟩; obtain ⟨k0, k1, k2, k3, kb⟩ := F0.out.kept hg; have hf := hg.2; have HG := Lib.hid hg; clear hg)
  have hG : Gr w ((((((w1.setCell ⟨w.heap.size, 0, none⟩ (.int .u32 (m : Int))).setCell ⟨w.heap.size, 1, none⟩ (.int .u32 (g : Int))).setCell ⟨w.heap.size, 2, none⟩ (.int .u32 (o : Int))).setCell ⟨w.heap.size, 3, none⟩ (.int .u32 (q : Int)))).alloc (.cells #[.int .u32 (m : Int), .int .u32 (g : Int), .int .u32 (o : Int), .int .u32 (q : Int)] 25)) :=
    (((((((Gr.refl w).alloc _ _).trans HG.out).setCell (Nat.le_refl _) _).setCell (Nat.le_refl _) _).setCell (Nat.le_refl _) _).setCell (Nat.le_refl _) _).alloc _ _
  refine bodyPost_ret (v := .tuple #[.agg #[.int .u32 (m : Int), .int .u32 (g : Int), .int .u32 (o : Int), .int .u32 (q : Int)], .int .i64 0]) (by simp [results, Try.results11, go_sem, k0, k1, k2, k3, kb]) rfl ⟨rfl, hG⟩

set_option maxRecDepth 100000 in
set_option maxHeartbeats 1000000 in
theorem make_no (m : Nat) (hm : m < 4294967296) (h : ¬ May m) (w : World) :
    Calls Try.prog 11 #[.int .u32 (m : Int)] w fun e w' => e = .returned (mk 0 0 0 0 1) ∧ Gr w w' := by
  have P := Lib.hid (fun w => params_no m hm h w)
  unfold frm at P
  unfold mk frm
  rw [show ((0 : Nat) : Int) = 0 from rfl] at P ⊢
  have F0 := Lib.hid (four_box w (.int .u32 0) (.int .u32 0) (.int .u32 0) (.int .u32 0) 25)
  clear hm h
  go_enter Try.func11, Try.ntmps11
  go_wp2_with (go_at_call 21; (with_reducible refine (P.out _).mono ?_); rintro e w1 ⟨rfl, hg⟩; obtain ⟨k0, k1, k2, k3, kb⟩ := F0.out.kept hg; have hf := hg.2; have HG := Lib.hid hg; clear hg)
  have hG : Gr w ((((((w1.setCell ⟨w.heap.size, 0, none⟩ (.int .u32 0)).setCell ⟨w.heap.size, 1, none⟩ (.int .u32 0)).setCell ⟨w.heap.size, 2, none⟩ (.int .u32 0)).setCell ⟨w.heap.size, 3, none⟩ (.int .u32 0))).alloc (.cells #[.int .u32 0, .int .u32 0, .int .u32 0, .int .u32 0] 25)) :=
    (((((((Gr.refl w).alloc _ _).trans HG.out).setCell (Nat.le_refl _) _).setCell (Nat.le_refl _) _).setCell (Nat.le_refl _) _).setCell (Nat.le_refl _) _).alloc _ _
  refine bodyPost_ret (v := .tuple #[.agg #[.int .u32 0, .int .u32 0, .int .u32 0, .int .u32 0], .int .i64 1]) (by simp [results, Try.results11, go_sem, k0, k1, k2, k3, kb]) rfl ⟨rfl, hG⟩
end Go.Proofs.Ytpdbdnhjibkflaa
