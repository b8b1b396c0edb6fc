/-
  The calls of package mont that divide by 2^32 and multiply: what they answer. · The calls of package mont that multiply, take out, and take in: what they answer.
-/
import Derived.Test.YtiainhbkoehhjaaDoorChecked
import Derived.Test.YtiainhbkoehhjaaDoorPk3
import Derived.Test.YtiainhbkoehhjaaDoorPk8
import Derived.Deep.RegionHeld3
namespace Go.Proofs.YtiainhbkoehhjaaDoor
open Go.RowKit
set_option linter.unusedVariables false

theorem below_any (m a : Nat) (hm : m < 4294967296) (ha : a < 4294967296) (w : World) :
    Calls Tryd.prog 79 #[.int .u32 (m : Int), .int .u32 (a : Int)] w fun e w' => e = .returned (.int .u32 ((bel m a : Nat) : Int)) ∧ w = w' := by
  by_cases h : m ≤ a
  · have e : IntKind.u32.wrap ((a : Int) - (m : Int)) = ((bel m a : Nat) : Int) := by
      unfold bel; rw [if_pos h, IntKind.wrap_u32]; omega
    go_enter Tryd.func79, Tryd.ntmps79
    go_wp2
    go_ret
    first | exact ⟨rfl, rfl⟩ | exact ⟨int_eq e, rfl⟩
  · have e : bel m a = a := by unfold bel; rw [if_neg h]
    have E := Lib.hid e
    clear e
    go_enter Tryd.func79, Tryd.ntmps79
    go_wp2
    go_ret
    exact ⟨int_eq (by rw [E.out]), rfl⟩

/-- A form's parameters. -/
def frm (m n o s : Nat) : Value := .agg #[.int .u32 (m : Int), .int .u32 (n : Int), .int .u32 (o : Int), .int .u32 (s : Int)]
/-- The parameters of a number that has a form. -/
structure Pm (m n o s : Nat) : Prop where
  odd : m % 2 = 1
  lo : 3 ≤ m
  hi : m < 2147483648
  neg : n < 4294967296
  ok : NegOk m n
  one : o = fm m 1
  sq : s = fm m 1 * fm m 1 % m

theorem redc_num {m n o s : Nat} (p : Pm m n o s) (t : Nat) (ht : t < m * 4294967296) : ∃ q z v u : Nat,
    (t : Int) % 4294967296 * (n : Int) % 4294967296 = (q : Int) ∧ IntKind.u64.wrap (m : Int) = (m : Int) ∧ IntKind.u64.wrap ((q : Int) * (m : Int)) = (z : Int) ∧
    IntKind.u64.wrap ((t : Int) + (z : Int)) = (v : Int) ∧ (v : Int) / 4294967296 % 4294967296 = (u : Int) ∧ u < 4294967296 ∧ bel m u = rd m t := by
  have hm := p.hi
  have ht' := tm_lt m t hm ht
  have hq := rqm_lt m n t hm
  obtain ⟨hu, hb⟩ := redc_eq m n t p.odd p.ok ht
  have e : rs m n t = t + rq n t * m := rfl
  refine ⟨rq n t, rq n t * m, rs m n t, rs m n t / 4294967296, ?_, ?_, ?_, ?_, ?_, ?_, hb⟩
  · unfold rq; simp only [Int.natCast_emod, Int.natCast_mul]; rfl
  · rw [IntKind.wrap_u64]; omega
  · rw [← Int.natCast_mul, wrapN _ (by omega)]
  · rw [e, IntKind.wrap_u64]; omega
  · omega
  · omega

set_option maxRecDepth 100000 in
set_option maxHeartbeats 400000 in
theorem redc_any {m n o s : Nat} (p : Pm m n o s) (t : Nat) (ht : t < m * 4294967296) (w : World) :
    Calls Tryd.prog 75 #[frm m n o s, .int .u64 (t : Int)] w fun e w' => e = .returned (.int .u32 ((rd m t : Nat) : Int)) ∧ Gr w w' := by
  unfold frm
  obtain ⟨q, z, v, u, r1, r2, r3, r4, r5, hu, hb⟩ := redc_num p t ht
  have HB := Lib.hid hb
  have B := Lib.hid (fun w => below_any m u (by have := p.hi; omega) hu w)
  clear hb p ht hu
  go_enter Tryd.func75, Tryd.ntmps75
  go_wp2_with (go_at_call 79; (with_reducible refine (B.out _).mono ?_); rintro e w' ⟨rfl, rfl⟩)
  go_ret
  exact ⟨int_eq (by rw [HB.out]), (Gr.refl _).alloc _ _⟩
end Go.Proofs.YtiainhbkoehhjaaDoor
namespace Go.Proofs.YtiainhbkoehhjaaDoor
open Go.RowKit
set_option linter.unusedVariables false

theorem conv64 (a : Nat) (h : a < 4294967296) : IntKind.u64.wrap (a : Int) = (a : Int) := by rw [IntKind.wrap_u64]; omega

set_option maxRecDepth 100000 in
set_option maxHeartbeats 400000 in
theorem mmul_any {m n o s : Nat} (p : Pm m n o s) (a b : Nat) (ha : a < 4294967296) (hb : b < 4294967296) (hab : a * b < m * 4294967296) (w : World) :
    Calls Tryd.prog 59 #[frm m n o s, .int .u32 (a : Int), .int .u32 (b : Int)] w fun e w' => e = .returned (.int .u32 ((rd m (a * b) : Nat) : Int)) ∧ Gr w w' := by
  obtain ⟨c, hc⟩ : ∃ c, a * b = c := ⟨_, rfl⟩
  have r3 : IntKind.u64.wrap ((a : Int) * (b : Int)) = (c : Int) := by
    have := tm_lt m (a * b) p.hi hab
    rw [← Int.natCast_mul, hc, IntKind.wrap_u64]; omega
  have r1 := conv64 a ha
  have r2 := conv64 b hb
  rw [hc] at hab ⊢
  have R := Lib.hid (fun w => redc_any p c hab w)
  unfold frm at R ⊢
  clear hab p hc ha hb
  go_enter Tryd.func59, Tryd.ntmps59
  go_wp2_with (go_at_call 75; (with_reducible refine (R.out _).mono ?_); rintro e w' ⟨rfl, hg⟩)
  go_ret
  exact ⟨rfl, ((Gr.refl _).alloc _ _).trans hg⟩

set_option maxRecDepth 100000 in
set_option maxHeartbeats 400000 in
theorem out_any {m n o s : Nat} (p : Pm m n o s) (a : Nat) (ha : a < 4294967296) (w : World) :
    Calls Tryd.prog 61 #[frm m n o s, .int .u32 (a : Int)] w fun e w' => e = .returned (.int .u32 ((rd m a : Nat) : Int)) ∧ Gr w w' := by
  have r1 := conv64 a ha
  have R := Lib.hid (fun w => redc_any p a (by have := p.lo; omega) w)
  unfold frm at R ⊢
  clear p ha
  go_enter Tryd.func61, Tryd.ntmps61
  go_wp2_with (go_at_call 75; (with_reducible refine (R.out _).mono ?_); rintro e w' ⟨rfl, hg⟩)
  go_ret
  exact ⟨rfl, ((Gr.refl _).alloc _ _).trans hg⟩

theorem keepS {w0 W w : World} {b : Nat} {c0 c1 c2 c3 : Value}
    (h : W.cell? ⟨b, 0, none⟩ = some c0 ∧ W.cell? ⟨b, 1, none⟩ = some c1 ∧ W.cell? ⟨b, 2, none⟩ = some c2 ∧ W.cell? ⟨b, 3, none⟩ = some c3 ∧ b < W.heap.size ∧ Gr w0 W) (g : Gr W w) :
    w.cell? ⟨b, 0, none⟩ = some c0 ∧ w.cell? ⟨b, 1, none⟩ = some c1 ∧ w.cell? ⟨b, 2, none⟩ = some c2 ∧ w.cell? ⟨b, 3, none⟩ = some c3 ∧ b < w.heap.size ∧ Gr w0 w := by
  obtain ⟨h0, h1, h2, h3, hb, hg⟩ := h
  exact ⟨(g.cell _ _ hb).trans h0, (g.cell _ _ hb).trans h1, (g.cell _ _ hb).trans h2, (g.cell _ _ hb).trans h3, Nat.lt_of_lt_of_le hb g.size, hg.trans g⟩

/-- The two halves of a word are taken in apart. -/
theorem in_num {m n o s : Nat} (p : Pm m n o s) (a : Nat) (ha : a < 18446744073709551616) : ∃ lo hi l h1 h2 u : Nat,
    (a : Int) % 4294967296 = (lo : Int) ∧ (a : Int) / 4294967296 % 4294967296 = (hi : Int) ∧ lo < 4294967296 ∧ hi < 4294967296 ∧ rd m (lo * s) = l ∧ rd m (hi * s) = h1 ∧ rd m (h1 * s) = h2 ∧
    ((l : Int) + (h2 : Int)) % 4294967296 = (u : Int) ∧ u < 4294967296 ∧ bel m u = fm m a ∧ s < m ∧ h1 < m := by
  have ho := p.odd
  have hm := p.hi
  have hl := p.lo
  refine ⟨a % 4294967296, a / 4294967296, fm m (a % 4294967296), fm m (a / 4294967296), fm m (fm m (a / 4294967296)), fm m (a % 4294967296) + fm m (fm m (a / 4294967296)), by omega, by omega, by omega, by omega, ?_, ?_, ?_, ?_, ?_, ?_, ?_, fm_lt _ _ (by omega)⟩
  · rw [p.sq, rd_sq m _ ho]
  · rw [p.sq, rd_sq m _ ho]
  · rw [p.sq, rd_sq m _ ho]
  · have h1 := fm_lt m (a % 4294967296) (by omega)
    have h2 := fm_lt m (fm m (a / 4294967296)) (by omega)
    omega
  · have h1 := fm_lt m (a % 4294967296) (by omega)
    have h2 := fm_lt m (fm m (a / 4294967296)) (by omega)
    omega
  · have h1 := fm_lt m (a % 4294967296) (by omega)
    have h2 := fm_lt m (fm m (a / 4294967296)) (by omega)
    rw [bel_mod m _ (by omega)]
    have e : fm m (fm m (a / 4294967296)) = fm m (a / 4294967296 * 4294967296) := fm_mod m _
    rw [e]
    unfold fm
    rw [← Nat.add_mod, ← Nat.add_mul]
    congr 2
    omega
  · rw [p.sq]; exact Nat.mod_lt _ (by omega)

theorem prod_lt (m a b : Nat) (ha : a < 4294967296) (hb : b < m) : a * b < m * 4294967296 := by
  rw [Nat.mul_comm m]; exact Nat.mul_lt_mul'' ha hb

set_option maxRecDepth 100000 in
set_option maxHeartbeats 1000000 in
theorem in_any {m n o s : Nat} (p : Pm m n o s) (a : Nat) (ha : a < 18446744073709551616) (w : World) :
    Calls Tryd.prog 67 #[frm m n o s, .int .u64 (a : Int)] w fun e w' => e = .returned (.int .u32 ((fm m a : Nat) : Int)) ∧ Gr w w' := by
  obtain ⟨lo, hi, l, h1, h2, u, r1, r2, hlo, hhi, el, e1, e2, r3, hu, hb, hs, hh1⟩ := in_num p a ha
  have hm := p.hi
  have M1 := fun w => mmul_any p lo s hlo (by omega) (prod_lt m lo s hlo hs) w
  have M2 := fun w => mmul_any p hi s hhi (by omega) (prod_lt m hi s hhi hs) w
  have M3 := fun w => mmul_any p h1 s (by omega) (by omega) (prod_lt m h1 s (by omega) hs) w
  rw [el] at M1
  rw [e1] at M2
  rw [e2] at M3
  have B := Lib.hid (fun w => below_any m u (by omega) hu w)
  rw [hb] at B
  have H1 := Lib.hid M1
  have H2 := Lib.hid M2
  have H3 := Lib.hid M3
  have r4 : IntKind.u32.wrap ((a : Int) / 4294967296) = (hi : Int) := by rw [IntKind.wrap_u32]; exact r2
  unfold frm at H1 H2 H3 ⊢
  clear M1 M2 M3 el e1 e2 hb p ha hlo hhi hu hs hh1 hm
  go_enter Tryd.func67, Tryd.ntmps67
  have f0 := four_box w (.int .u32 (m : Int)) (.int .u32 (n : Int)) (.int .u32 (o : Int)) (.int .u32 (s : Int)) 77
  have F0 := Lib.hid f0
  clear f0
  go_wp2_with (go_at_call 59; (with_reducible refine (H1.out _).mono ?_); rintro e w1 ⟨rfl, hg⟩)
  have HG := Lib.hid hg
  obtain ⟨k0, k1, k2, k3, kb⟩ := F0.out.kept hg
  clear hg
  go_region_held3 (fun w' => w'.cell? ⟨w.heap.size, 0, none⟩ = some (.int .u32 (m : Int)) ∧ w'.cell? ⟨w.heap.size, 1, none⟩ = some (.int .u32 (n : Int)) ∧ w'.cell? ⟨w.heap.size, 2, none⟩ = some (.int .u32 (o : Int)) ∧ w'.cell? ⟨w.heap.size, 3, none⟩ = some (.int .u32 (s : Int)) ∧ w.heap.size < w'.heap.size ∧ Gr w1 w')
    (first | assumption | exact ⟨k0, k1, k2, k3, kb, (Gr.refl _).drew⟩ | exact keepS ‹_› hg | exact keepS ‹_› (Gr.drew hg))
    (first
     | (go_at_call 59; (with_reducible refine (H2.out _).mono ?_); rintro e w2 ⟨rfl, hg⟩)
     | (go_at_call 59; (with_reducible refine (H3.out _).mono ?_); rintro e w2 ⟨rfl, hg⟩))
  rename_i hH
  obtain ⟨q0, q1, q2, q3, qb, hg2⟩ := hH
  have HG2 := Lib.hid (((Gr.refl w).alloc _ _).trans (HG.out.trans hg2))
  clear hg2 hg k0 k1 k2 k3 kb HG
  go_wp2_with (go_at_call 79; (with_reducible refine (B.out _).mono ?_); rintro e w' ⟨rfl, rfl⟩)
  go_ret
  exact ⟨rfl, HG2.out⟩
end Go.Proofs.YtiainhbkoehhjaaDoor
