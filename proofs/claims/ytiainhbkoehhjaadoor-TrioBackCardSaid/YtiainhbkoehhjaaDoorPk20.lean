/-
  Package trio: elements, inverse; math/bits.Len; slices.Reverse of all places but the first. · slices.Reverse of all places of a row but the first.
-/
import Derived.Test.YtiainhbkoehhjaaDoorPk19
namespace Go.Proofs.YtiainhbkoehhjaaDoor
open Go.RowKit
set_option linter.unusedVariables false
set_option linter.unusedSimpArgs false

theorem elements_any (A1 A2 : Option Addr) (n m c1 c2 : Nat) (hn : n ≤ 10000) (hm : m ≤ 10000) (w : World) :
    Calls Tryd.prog 37 #[.slice A1 n c1, .slice A2 m c2] w fun e w' => e = .returned (.int .i64 (((if n = 0 ∨ m = 0 then 0 else n + m - 1 : Nat)) : Int)) ∧ w = w' := by
  have hni : (n : Int) ≤ 10000 := by omega
  have hmi : (m : Int) ≤ 10000 := by omega
  by_cases h1 : n = 0
  · subst h1
    rw [if_pos (.inl rfl)]
    go_enter Tryd.func37, Tryd.ntmps37
    go_wp2
    go_ret
    exact ⟨rfl, rfl⟩
  · have t1 : ((n : Int) == 0) = false := by rw [beq_eq_false_iff_ne]; omega
    by_cases h2 : m = 0
    · subst h2
      rw [if_pos (.inr rfl)]
      clear h1
      go_enter Tryd.func37, Tryd.ntmps37
      go_wp2
      go_ret
      exact ⟨rfl, rfl⟩
    · have t2 : ((m : Int) == 0) = false := by rw [beq_eq_false_iff_ne]; omega
      rw [if_neg (by omega)]
      obtain ⟨s, hs⟩ : ∃ s, n + m = s := ⟨_, rfl⟩
      obtain ⟨r, hr⟩ : ∃ r, n + m - 1 = r := ⟨_, rfl⟩
      have e1 : (n : Int) + (m : Int) = (s : Int) := by omega
      have e2 : IntKind.i64.wrap (s : Int) = (s : Int) := IntWalk.i64_in _ (by omega)
      have e3 : (s : Int) - 1 = (r : Int) := by omega
      have e4 : IntKind.i64.wrap (r : Int) = (r : Int) := IntWalk.i64_in _ (by omega)
      rw [hr]
      clear h1 h2 hs hr
      go_enter Tryd.func37, Tryd.ntmps37
      go_wp2
      go_ret
      exact ⟨rfl, rfl⟩

theorem blen_any (x : Nat) (hx : x < 18446744073709551616) (w : World) :
    Calls Tryd.prog 56 #[.int .u64 (x : Int)] w fun e w' => e = .returned (.int .i64 ((Lib.bitLen x : Nat) : Int)) ∧ w = w' := by
  have K := Lib.hid (fun w => mlen_any x hx w)
  obtain ⟨l, hl⟩ : ∃ l, Lib.bitLen x = l := ⟨_, rfl⟩
  rw [hl] at K ⊢
  have e1 : IntKind.u64.wrap (x : Int) = (x : Int) := IntWalk.u64_in _ (by omega)
  clear hl hx
  go_enter Tryd.func56, Tryd.ntmps56
  go_wp2_with (go_at_call 70; (with_reducible refine (K.out _).mono ?_); rintro e w' ⟨rfl, rfl⟩)
  go_ret
  exact ⟨rfl, rfl⟩

set_option maxRecDepth 100000 in
set_option maxHeartbeats 1000000 in
theorem inverse_t {m n o s : Nat} (pm : Pm m n o s) (a : Nat) (ha : a < 18446744073709551616) (w : World) :
    Calls Tryd.prog 45 #[frm m n o s, .int .u64 (a : Int)] w fun e w' => e = .returned (.int .u32 ((fm m (a ^ (m - 2)) : Nat) : Int)) ∧ Gr w w' := by
  have hlo := pm.lo
  have hhi := pm.hi
  have MI := Lib.hid (fun w => in_any pm a ha w)
  have hx := fm_lt m a (by omega)
  obtain ⟨E, hE⟩ : ∃ E, m - 2 = E := ⟨_, rfl⟩
  have PW := fun w => mpow_any pm (fm m a) E hx (by omega) w
  have hv : pw m (rd m (fm m a)) E = fm m (a ^ E) := by
    rw [rd_of_fm m a pm.odd]
    exact fm_same ((Cg.mod m a).pow E)
  rw [hv] at PW
  rw [hE]
  have HP := Lib.hid PW
  obtain ⟨x, ex⟩ : ∃ x, fm m a = x := ⟨_, rfl⟩
  rw [ex] at MI HP
  obtain ⟨y, ey⟩ : ∃ y, fm m (a ^ E) = y := ⟨_, rfl⟩
  rw [ey] at HP ⊢
  have F0 := four_box w (.int .u32 (m : Int)) (.int .u32 (n : Int)) (.int .u32 (o : Int)) (.int .u32 (s : Int)) 77
  obtain ⟨W1, hW1⟩ : ∃ W1, w.alloc (.cells #[.int .u32 (m : Int), .int .u32 (n : Int), .int .u32 (o : Int), .int .u32 (s : Int)] 77) = W1 := ⟨_, rfl⟩
  rw [hW1] at F0
  have HG1 : Hid (Gr w W1) := by rw [← hW1]; exact (Gr.refl w).alloc _ _
  have a1 : (m : Int) - 2 = (E : Int) := by omega
  have a2 : IntKind.u32.wrap (E : Int) = (E : Int) := IntWalk.u32_in _ (by omega)
  have a3 : IntKind.u64.wrap (E : Int) = (E : Int) := IntWalk.u64_in _ (by omega)
  obtain ⟨k0, k1, k2, k3, kb⟩ := F0
  have HC : Hid (∀ w', Gr W1 w' → w'.cell? ⟨w.heap.size, 0, none⟩ = some (.int .u32 (m : Int)) ∧ w'.cell? ⟨w.heap.size, 1, none⟩ = some (.int .u32 (n : Int)) ∧ w'.cell? ⟨w.heap.size, 2, none⟩ = some (.int .u32 (o : Int)) ∧ w'.cell? ⟨w.heap.size, 3, none⟩ = some (.int .u32 (s : Int)) ∧ w.heap.size < w'.heap.size ∧ Gr W1 w') := fun w' hg => ⟨(hg.cell _ _ kb).trans k0, (hg.cell _ _ kb).trans k1, (hg.cell _ _ kb).trans k2, (hg.cell _ _ kb).trans k3, Nat.lt_of_lt_of_le kb hg.size, hg⟩
  unfold frm at MI HP ⊢
  clear hlo hhi hx hE PW hv ex ey k0 k1 k2 k3 kb pm ha
  go_enter Tryd.func45, Tryd.ntmps45
  go_wp2
  go_region_held3 (fun w' => w'.cell? ⟨w.heap.size, 0, none⟩ = some (.int .u32 (m : Int)) ∧ w'.cell? ⟨w.heap.size, 1, none⟩ = some (.int .u32 (n : Int)) ∧ w'.cell? ⟨w.heap.size, 2, none⟩ = some (.int .u32 (o : Int)) ∧ w'.cell? ⟨w.heap.size, 3, none⟩ = some (.int .u32 (s : Int)) ∧ w.heap.size < w'.heap.size ∧ Gr W1 w')
    (first | assumption | exact HC.out _ ((Gr.refl _).drew) | exact keepS ‹_› hg)
    (first
     | (go_at_call 67; (with_reducible refine (MI.out _).mono ?_); rintro e w2 ⟨rfl, hg⟩)
     | (go_at_call 66; (with_reducible refine (HP.out _).mono ?_); rintro e w3 ⟨rfl, hg⟩))
  rename_i hH
  have HGG := Lib.hid hH.2.2.2.2.2
  go_wp2
  go_ret
  exact ⟨rfl, HG1.out.trans HGG.out⟩
end Go.Proofs.YtiainhbkoehhjaaDoor
namespace Go.Proofs.YtiainhbkoehhjaaDoor
open Go.RowKit
set_option linter.unusedVariables false
set_option linter.unusedSimpArgs false

/-- All places but the first the other way round. -/
def rvt (N : Nat) (F : Nat → Nat) (p : Nat) : Nat := if p = 0 then F 0 else F (N - p)
/-- .. the first i of them, and the last i. -/
def rvs (N i : Nat) (F : Nat → Nat) (p : Nat) : Nat := if (1 ≤ p ∧ p < 1 + i) ∨ (N - i ≤ p ∧ p < N) then F (N - p) else F p
theorem rvs_zero (N : Nat) (F : Nat → Nat) (p : Nat) : rvs N 0 F p = F p := if_neg (by omega)
theorem rvs_all {N i j : Nat} (h : i + j + 1 + 1 = N) (hij : j ≤ i) (F : Nat → Nat) (p : Nat) (hp : p < N) : rvs N i F p = rvt N F p := by
  unfold rvs rvt
  by_cases h0 : p = 0
  · subst h0
    rw [if_pos rfl]
    by_cases h1 : (1 ≤ 0 ∧ 0 < 1 + i) ∨ (N - i ≤ 0 ∧ 0 < N)
    · omega
    · rw [if_neg h1]
  · rw [if_neg h0]
    by_cases h1 : (1 ≤ p ∧ p < 1 + i) ∨ (N - i ≤ p ∧ p < N)
    · rw [if_pos h1]
    · rw [if_neg h1, show N - p = p from by omega]
theorem rvs_step {N i j : Nat} (h : i + j + 1 + 1 = N) (hij : i < j) (F : Nat → Nat) : rvs N i F (1 + i) = F (1 + i) ∧ rvs N i F (1 + j) = F (1 + j) ∧ rvs N (i + 1) F (1 + i) = F (1 + j) ∧ rvs N (i + 1) F (1 + j) = F (1 + i) ∧ ∀ p, p ≠ 1 + i → p ≠ 1 + j → rvs N (i + 1) F p = rvs N i F p := by
  unfold rvs
  refine ⟨if_neg (by omega), if_neg (by omega), ?_, ?_, fun p h1 h2 => ?_⟩
  · rw [if_pos (by omega), show N - (1 + i) = 1 + j from by omega]
  · rw [if_pos (by omega), show N - (1 + j) = 1 + i from by omega]
  · by_cases h3 : (1 ≤ p ∧ p < 1 + i) ∨ (N - i ≤ p ∧ p < N)
    · rw [if_pos h3, if_pos (by omega)]
    · rw [if_neg h3, if_neg (by omega)]
theorem rvt_small {N : Nat} (h : N ≤ 2) (F : Nat → Nat) (p : Nat) (hp : p < N) : rvt N F p = F p := by
  unfold rvt
  by_cases h0 : p = 0
  · rw [if_pos h0, h0]
  · rw [if_neg h0, show N - p = p from by omega]

theorem rev_small (A : Option Addr) (n c : Nat) (hn : n ≤ 1) (w : World) :
    Calls Tryd.prog 60 #[.slice A n c] w fun e w' => e = .returned (.tuple #[]) ∧ w = w' := by
  have hni : (n : Int) ≤ 1 := by omega
  by_cases h : n = 0
  · subst h
    clear hn hni
    go_enter Tryd.func60, Tryd.ntmps60
    go_wp2
    go_loopw [2, 3] (fun x y wr => x = .int .i64 0 ∧ y = .int .i64 (-1) ∧ w = wr) (fun _ _ _ => 0)
    case atStart => exact ⟨rfl, by first | rfl | go_num, rfl⟩
    case round =>
      obtain ⟨rfl, rfl, rfl⟩ := hrel
      go_wp2
      go_end0
      exact ⟨rfl, rfl⟩
  · have h1 : n = 1 := by omega
    subst h1
    clear hn hni h
    go_enter Tryd.func60, Tryd.ntmps60
    go_wp2
    go_loopw [2, 3] (fun x y wr => x = .int .i64 0 ∧ y = .int .i64 0 ∧ w = wr) (fun _ _ _ => 0)
    case atStart => exact ⟨rfl, by first | rfl | go_num, rfl⟩
    case round =>
      obtain ⟨rfl, rfl, rfl⟩ := hrel
      go_wp2
      go_end0
      exact ⟨rfl, rfl⟩

set_option maxRecDepth 100000 in
set_option maxHeartbeats 1000000 in
theorem rev_tail (W : World) (g n N C : Nat) (F : Nat → Nat) (hn : n + 1 = N) (h2 : 2 ≤ n) (hNb : N ≤ 1048576) (hb : Bk .u32 25 W g (ml N F)) :
    Calls Tryd.prog 60 #[.slice (some ⟨g, 1, none⟩) n C] W fun e w => e = .returned (.tuple #[]) ∧ Bk .u32 25 w g (ml N (rvt N F)) ∧ Og g W w := by
  have hnb : (n : Int) ≤ 1048576 := by omega
  have HN := Lib.hid hn
  have HB := Lib.hid hb
  obtain ⟨n1, hn1⟩ : ∃ x, n - 1 = x := ⟨_, rfl⟩
  have e1 : (n : Int) - 1 = (n1 : Int) := by omega
  have e2 : IntKind.i64.wrap (n1 : Int) = (n1 : Int) := IntWalk.i64_in _ (by omega)
  have HN1 : Hid (0 + n1 + 1 = n) := by show _ = _; omega
  clear hb hn hn1 hNb h2
  go_enter Tryd.func60, Tryd.ntmps60
  go_wp2
  go_loopw [2, 3] (fun x y wr => ∃ i j : Nat, Hid (i + j + 1 = n) ∧ x = .int .i64 (i : Int) ∧ y = .int .i64 (j : Int) ∧ Hid (Bk .u32 25 wr g (ml N (rvs N i F))) ∧ Hid (Og g W wr)) (fun x y _ => (intOf y).toNat)
  case atStart => exact ⟨0, n1, HN1, rfl, rfl, (by show Bk _ _ _ _ _; rw [ml_congr (fun p _ => rvs_zero N F p)]; exact HB.out), Og.refl _ _⟩
  case round =>
    obtain ⟨i, j, hij, rfl, rfl, hbk, ho⟩ := hrel
    by_cases hlt : i < j
    · have d : decide (i < j) = true := decide_eq_true hlt
      have hs : i + j + 1 + 1 = N := by rw [hij.out]; exact HN.out
      obtain ⟨t1, t2, t3, t4, t5⟩ := rvs_step hs hlt F
      have l1 : 1 + i < N := by omega
      have l2 : 1 + j < N := by omega
      have q1 := hbk.out.cell (1 + i) (by rw [ml_length]; exact l1)
      have q2 := hbk.out.cell (1 + j) (by rw [ml_length]; exact l2)
      rw [ml_get, t1] at q1
      rw [ml_get, t2] at q2
      have zf1 := hbk.out.free (1 + i)
      have zf2 := hbk.out.free (1 + j)
      have hset := (hbk.out.set (1 + i) (F (1 + j)) (by rw [ml_length]; exact l1)).set (1 + j) (F (1 + i)) (by rw [List.length_set, ml_length]; exact l2)
      have hl : ((ml N (rvs N i F)).set (1 + i) (F (1 + j))).set (1 + j) (F (1 + i)) = ml N (rvs N (i + 1) F) := by
        rw [← t3, ← t4]
        exact ml_set2 (fun p _ h1 h2 => t5 p h1 h2) (by omega)
      rw [hl] at hset
      have HS := Lib.hid hset
      have HO := Lib.hid ((ho.out.setCell (1 + i) (.int .u32 ((F (1 + j) : Nat) : Int))).setCell (1 + j) (.int .u32 ((F (1 + i) : Nat) : Int)))
      obtain ⟨x, hx⟩ : ∃ x, F (1 + i) = x := ⟨_, rfl⟩
      obtain ⟨z, hz⟩ : ∃ x, F (1 + j) = x := ⟨_, rfl⟩
      rw [hx] at q1 HS HO
      rw [hz] at q2 HS HO
      have q3 : (wr.setCell ⟨g, 1 + i, none⟩ (.int .u32 (z : Int))).cell? ⟨g, 1 + j, none⟩ = some (.int .u32 (z : Int)) := (World.cell?_setCell_other _ _ _ _ (fun e => by have := congrArg Addr.off e; have e' : 1 + i = 1 + j := this; omega)).trans q2
      obtain ⟨j1, hj1⟩ : ∃ x, j - 1 = x := ⟨_, rfl⟩
      have a1 : (j : Int) - 1 = (j1 : Int) := by omega
      have a2 : IntKind.i64.wrap (j1 : Int) = (j1 : Int) := IntWalk.i64_in _ (by have := hij.out; omega)
      have b1 : (0 : Int) ≤ (i : Int) ∧ (i : Int) < (n : Int) := by have := hij.out; omega
      have b2 : (0 : Int) ≤ (j : Int) ∧ (j : Int) < (n : Int) := by have := hij.out; omega
      have HIJ : Hid (i + 1 + j1 + 1 = n) := by have := hij.out; show _ = _; omega
      have HJ1 : Hid (j1 < j) := by show _ < _; omega
      clear hx hz hset hl t1 t2 t3 t4 t5 l1 l2 hs hj1 hbk ho hij
      go_wp2
      go_region
      go_wp2
      go_roundw
      case rel => exact ⟨i + 1, j1, HIJ, by go_num, by first | rfl | go_num, HS, HO.out.drew⟩
      case measure => have := HJ1.out; simp [intOf] <;> omega
    · have d : decide (i < j) = false := decide_eq_false hlt
      have HS : Hid (Bk .u32 25 wr g (ml N (rvt N F))) := by
        show Bk _ _ _ _ _
        rw [ml_congr (fun p hp => (rvs_all (i := i) (j := j) (by rw [hij.out]; exact HN.out) (by omega) F p hp).symm)]
        exact hbk.out
      clear hbk hij
      go_wp2
      go_end0
      exact ⟨rfl, HS.out, ho.out⟩
end Go.Proofs.YtiainhbkoehhjaaDoor
