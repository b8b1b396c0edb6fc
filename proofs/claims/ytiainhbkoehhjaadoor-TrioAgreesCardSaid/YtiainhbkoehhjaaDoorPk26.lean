/-
  The document's answer for products of words. · The document's mod, Split and Bound (layer 9).
-/
import Derived.Test.YtiainhbkoehhjaaDoorChecked
import Derived.Test.YtiainhbkoehhjaaDoorPk3
import Derived.Lib.Mul64
import Derived.Test.YtiainhbkoehhjaaDoorPk15
import Derived.Test.YtiainhbkoehhjaaDoorPk25
import Derived.Deep.RegionHeld3
namespace Go.Proofs.YtiainhbkoehhjaaDoor
open Go.RowKit
set_option linter.unusedVariables false

/-- The school method on halves, in the order in which the document's answer takes them. -/
theorem rmul_hi (x y : Nat) (hx : x < 18446744073709551616) (hy : y < 18446744073709551616) :
    (x % 4294967296) * (y % 4294967296) < 18446744073709551616 ∧
    (x % 4294967296) * (y / 4294967296) + (x % 4294967296) * (y % 4294967296) / 4294967296 < 18446744073709551616 ∧
    (x / 4294967296) * (y % 4294967296) + ((x % 4294967296) * (y / 4294967296) + (x % 4294967296) * (y % 4294967296) / 4294967296) % 4294967296 < 18446744073709551616 ∧
    (x / 4294967296) * (y / 4294967296) + ((x % 4294967296) * (y / 4294967296) + (x % 4294967296) * (y % 4294967296) / 4294967296) / 4294967296 +
      ((x / 4294967296) * (y % 4294967296) + ((x % 4294967296) * (y / 4294967296) + (x % 4294967296) * (y % 4294967296) / 4294967296) % 4294967296) / 4294967296 = x * y / 18446744073709551616 := by
  have h := Lib.mul64_hi y x hy hx
  rw [Nat.mul_comm (y / 4294967296) (x % 4294967296), Nat.mul_comm (y % 4294967296) (x % 4294967296), Nat.mul_comm (y % 4294967296) (x / 4294967296), Nat.mul_comm (y / 4294967296) (x / 4294967296), Nat.mul_comm y x] at h
  obtain ⟨h1, h2, h3, h4⟩ := h
  refine ⟨h1, h2, by omega, ?_⟩
  rw [Nat.add_comm (x / 4294967296 * (y % 4294967296))]
  exact h4

set_option maxHeartbeats 1000000 in
theorem rmul_any (x y : Nat) (hx : x < 18446744073709551616) (hy : y < 18446744073709551616) (w : World) :
    Calls Tryd.prog 34 #[.int .u64 (x : Int), .int .u64 (y : Int)] w
      fun e w' => e = .returned (.tuple #[.int .u64 ((mulH x y : Nat) : Int), .int .u64 ((mulL x y : Nat) : Int)]) ∧ w = w' := by
  obtain ⟨bd, bt, bw, hhi⟩ := rmul_hi x y hx hy
  have ba := Lib.half_mul_le (a := x / 4294967296) (b := y / 4294967296) (by omega) (by omega)
  have bb := Lib.half_mul_le (a := x / 4294967296) (b := y % 4294967296) (by omega) (by omega)
  have bc := Lib.half_mul_le (a := x % 4294967296) (b := y / 4294967296) (by omega) (by omega)
  have ba' : x / 4294967296 * (y / 4294967296) < 18446744073709551616 := by omega
  have bb' : x / 4294967296 * (y % 4294967296) < 18446744073709551616 := by omega
  have bc' : x % 4294967296 * (y / 4294967296) < 18446744073709551616 := by omega
  have bh1 : x / 4294967296 * (y / 4294967296) + (x % 4294967296 * (y / 4294967296) + x % 4294967296 * (y % 4294967296) / 4294967296) / 4294967296 < 18446744073709551616 := by omega
  have bh : x / 4294967296 * (y / 4294967296) + (x % 4294967296 * (y / 4294967296) + x % 4294967296 * (y % 4294967296) / 4294967296) / 4294967296 + (x / 4294967296 * (y % 4294967296) + (x % 4294967296 * (y / 4294967296) + x % 4294967296 * (y % 4294967296) / 4294967296) % 4294967296) / 4294967296 < 18446744073709551616 := by omega
  have bq : x % 4294967296 * (y % 4294967296) / 4294967296 < 18446744073709551616 := by omega
  have bm : (x % 4294967296 * (y / 4294967296) + x % 4294967296 * (y % 4294967296) / 4294967296) / 4294967296 < 18446744073709551616 := by omega
  have bo : (x / 4294967296 * (y % 4294967296) + (x % 4294967296 * (y / 4294967296) + x % 4294967296 * (y % 4294967296) / 4294967296) % 4294967296) / 4294967296 < 18446744073709551616 := by omega
  have HH := Lib.hid hhi
  clear hhi
  go_enter Tryd.func34, Tryd.ntmps34
  go_wp2
  simp only [tdivN, tmodN, wrapN _ bq, wrapN _ bm, wrapN _ bo, divN, modN, mulN, addN, wrapN _ bd, wrapN _ bb', wrapN _ bt, wrapN _ bc', wrapN _ bw, wrapN _ ba', wrapN _ bh1, wrapN _ bh, wrapM (x * y)]
  rw [HH.out]
  go_ret2
  exact ⟨rfl, rfl⟩
end Go.Proofs.YtiainhbkoehhjaaDoor
namespace Go.Proofs.YtiainhbkoehhjaaDoor
open Go.RowKit
set_option linter.unusedVariables false

theorem mod_two (hi lo m : Nat) : num (hi % m) lo % m = num hi lo % m := by
  unfold num
  rw [Nat.add_mod, Nat.mul_mod, Nat.mod_mod, ← Nat.mul_mod, ← Nat.add_mod]

set_option maxRecDepth 100000 in
theorem rmod9_any (hi lo m : Nat) (h0 : 0 < m) (hm : m < 4294967296) (hlo : lo < 18446744073709551616) (w : World) :
    Calls Tryd.prog 26 #[.agg #[.int .u64 (hi : Int), .int .u64 (lo : Int)], .int .u64 (m : Int)] w fun e w' => e = .returned (.int .u32 ((num hi lo % m : Nat) : Int)) ∧ Bl w w' := by
  obtain ⟨x, hx⟩ : ∃ x, hi % m = x := ⟨_, rfl⟩
  have hxm : x < m := hx ▸ Nat.mod_lt _ h0
  have KD := Lib.hid (fun W => rdiv_any x lo m hlo (by omega) W)
  have hr : Hid (divR x lo m = num hi lo % m) := by
    show (if _ then _ else _) = _
    rw [if_neg (by omega), ← hx, mod_two]
  have hrl : num hi lo % m < m := Nat.mod_lt _ h0
  obtain ⟨r, er⟩ : ∃ r, num hi lo % m = r := ⟨_, rfl⟩
  rw [er] at hr hrl ⊢
  rw [hr.out] at KD
  have r1 : (hi : Int) % (m : Int) = (x : Int) := by omega
  have r2 : (m : Int) ≠ 0 := by omega
  have r3 : ((m : Int) == 0) = false := by rw [beq_eq_false_iff_ne]; omega
  have r4 : IntKind.u32.wrap (r : Int) = (r : Int) := IntWalk.u32_in _ (by omega)
  obtain ⟨q, hq⟩ : ∃ q, divQ x lo m = q := ⟨_, rfl⟩
  obtain ⟨c, hc⟩ : ∃ c, divE x m = c := ⟨_, rfl⟩
  rw [hq, hc] at KD
  clear hq hc hx hxm hr er hrl h0 hm hlo
  go_enter Tryd.func26, Tryd.ntmps26
  go_wp2
  go_quiet ((go_at_call 43; exact quiet_left (KD.out _)))
  go_wp2
  go_ret
  exact ⟨rfl, ((Bl.refl w).alloc _).drewN _⟩

theorem rmod9_lit (hi lo m : Nat) (M : Int) (hM : (m : Int) = M) (h0 : 0 < m) (hm : m < 4294967296) (hlo : lo < 18446744073709551616) (w : World) :
    Calls Tryd.prog 26 #[.agg #[.int .u64 (hi : Int), .int .u64 (lo : Int)], .int .u64 M] w fun e w' => e = .returned (.int .u32 ((num hi lo % m : Nat) : Int)) ∧ Bl w w' := hM ▸ rmod9_any hi lo m h0 hm hlo w
theorem Bl.frozen {W w : World} (h : Bl W w) (b o : Nat) (hb : b < W.heap.size) : w.frozen? ⟨b, o, none⟩ = W.frozen? ⟨b, o, none⟩ := by
  have e : w.heap[b]? = W.heap[b]? := h.block b hb
  simp [World.frozen?, e]
theorem keepT {w0 W w' : World} {b : Nat} {c0 c1 : Value} (h : W.cell? ⟨b, 0, none⟩ = some c0 ∧ W.cell? ⟨b, 1, none⟩ = some c1 ∧ (W.cell? ⟨b + 1, 0, none⟩).isSome = true ∧ (W.cell? ⟨b + 1, 1, none⟩).isSome = true ∧ (W.cell? ⟨b + 1, 2, none⟩).isSome = true ∧ W.frozen? ⟨b + 1, 0, none⟩ = false ∧ W.frozen? ⟨b + 1, 1, none⟩ = false ∧ W.frozen? ⟨b + 1, 2, none⟩ = false ∧ b + 1 < W.heap.size ∧ Bl w0 W) (g : Bl W w') :
    w'.cell? ⟨b, 0, none⟩ = some c0 ∧ w'.cell? ⟨b, 1, none⟩ = some c1 ∧ (w'.cell? ⟨b + 1, 0, none⟩).isSome = true ∧ (w'.cell? ⟨b + 1, 1, none⟩).isSome = true ∧ (w'.cell? ⟨b + 1, 2, none⟩).isSome = true ∧ w'.frozen? ⟨b + 1, 0, none⟩ = false ∧ w'.frozen? ⟨b + 1, 1, none⟩ = false ∧ w'.frozen? ⟨b + 1, 2, none⟩ = false ∧ b + 1 < w'.heap.size ∧ Bl w0 w' := by
  obtain ⟨h0, h1, h2, h3, h4, h5, h6, h7, h8, h9⟩ := h
  have hb : b < W.heap.size := by omega
  exact ⟨(g.cell hb).trans h0, (g.cell hb).trans h1, by rw [g.cell h8]; exact h2, by rw [g.cell h8]; exact h3, by rw [g.cell h8]; exact h4, (g.frozen _ _ h8).trans h5, (g.frozen _ _ h8).trans h6, (g.frozen _ _ h8).trans h7, Nat.lt_of_lt_of_le h8 g.size, h9.trans g⟩
theorem some_setCell (W : World) (p q : Addr) (u : Value) (h : (W.cell? q).isSome = true) : ((W.setCell p u).cell? q).isSome = true := by
  by_cases e : p = q
  · subst e
    obtain ⟨x, hx⟩ := Option.isSome_iff_exists.1 h
    rw [World.cell?_setCell_same _ _ _ hx]; rfl
  · rw [World.cell?_setCell_other _ _ _ _ e]; exact h
theorem setT {w0 W : World} {b : Nat} {c0 c1 : Value} (hb : w0.heap.size ≤ b) (h : W.cell? ⟨b, 0, none⟩ = some c0 ∧ W.cell? ⟨b, 1, none⟩ = some c1 ∧ (W.cell? ⟨b + 1, 0, none⟩).isSome = true ∧ (W.cell? ⟨b + 1, 1, none⟩).isSome = true ∧ (W.cell? ⟨b + 1, 2, none⟩).isSome = true ∧ W.frozen? ⟨b + 1, 0, none⟩ = false ∧ W.frozen? ⟨b + 1, 1, none⟩ = false ∧ W.frozen? ⟨b + 1, 2, none⟩ = false ∧ b + 1 < W.heap.size ∧ Bl w0 W) (o : Nat) (u : Value) : (W.setCell ⟨b + 1, o, none⟩ u).cell? ⟨b, 0, none⟩ = some c0 ∧ (W.setCell ⟨b + 1, o, none⟩ u).cell? ⟨b, 1, none⟩ = some c1 ∧ ((W.setCell ⟨b + 1, o, none⟩ u).cell? ⟨b + 1, 0, none⟩).isSome = true ∧ ((W.setCell ⟨b + 1, o, none⟩ u).cell? ⟨b + 1, 1, none⟩).isSome = true ∧ ((W.setCell ⟨b + 1, o, none⟩ u).cell? ⟨b + 1, 2, none⟩).isSome = true ∧ (W.setCell ⟨b + 1, o, none⟩ u).frozen? ⟨b + 1, 0, none⟩ = false ∧ (W.setCell ⟨b + 1, o, none⟩ u).frozen? ⟨b + 1, 1, none⟩ = false ∧ (W.setCell ⟨b + 1, o, none⟩ u).frozen? ⟨b + 1, 2, none⟩ = false ∧ b + 1 < (W.setCell ⟨b + 1, o, none⟩ u).heap.size ∧ Bl w0 (W.setCell ⟨b + 1, o, none⟩ u) := by
  obtain ⟨h0, h1, h2, h3, h4, h5, h6, h7, h8, h9⟩ := h
  have ne : ∀ k, (⟨b + 1, o, none⟩ : Addr) ≠ ⟨b, k, none⟩ := fun k e => by
    have := congrArg Addr.block e
    have e' : b + 1 = b := this
    omega
  exact ⟨(World.cell?_setCell_other _ _ _ _ (ne 0)).trans h0, (World.cell?_setCell_other _ _ _ _ (ne 1)).trans h1, some_setCell _ _ _ _ h2, some_setCell _ _ _ _ h3, some_setCell _ _ _ _ h4,
    (World.frozen?_setCell _ _ _ _).trans h5, (World.frozen?_setCell _ _ _ _).trans h6, (World.frozen?_setCell _ _ _ _).trans h7, by rw [World.size_setCell]; exact h8, h9.setCell (p := ⟨b + 1, o, none⟩) (Nat.le_trans hb (Nat.le_succ b)) u⟩
theorem sets3 {W : World} {b : Nat} {x y z : Value} (h0 : W.cell? ⟨b, 0, none⟩ = some x) (h1 : W.cell? ⟨b, 1, none⟩ = some y) (h2 : W.cell? ⟨b, 2, none⟩ = some z) (u v t : Value) :
    (((W.setCell ⟨b, 0, none⟩ u).setCell ⟨b, 1, none⟩ v).setCell ⟨b, 2, none⟩ t).cell? ⟨b, 0, none⟩ = some u ∧ (((W.setCell ⟨b, 0, none⟩ u).setCell ⟨b, 1, none⟩ v).setCell ⟨b, 2, none⟩ t).cell? ⟨b, 1, none⟩ = some v ∧ (((W.setCell ⟨b, 0, none⟩ u).setCell ⟨b, 1, none⟩ v).setCell ⟨b, 2, none⟩ t).cell? ⟨b, 2, none⟩ = some t := by
  have n : ∀ i j : Nat, i ≠ j → (⟨b, i, none⟩ : Addr) ≠ ⟨b, j, none⟩ := fun i j h e => h (by have := congrArg Addr.off e; exact this)
  refine ⟨?_, ?_, ?_⟩
  · rw [World.cell?_setCell_other _ _ _ _ (n 2 0 (by decide)), World.cell?_setCell_other _ _ _ _ (n 1 0 (by decide)), World.cell?_setCell_same _ _ _ h0]
  · rw [World.cell?_setCell_other _ _ _ _ (n 2 1 (by decide)), World.cell?_setCell_same _ _ _ (by rw [World.cell?_setCell_other _ _ _ _ (n 0 1 (by decide))]; exact h1)]
  · rw [World.cell?_setCell_same _ _ _ (by rw [World.cell?_setCell_other _ _ _ _ (n 1 2 (by decide)), World.cell?_setCell_other _ _ _ _ (n 0 2 (by decide))]; exact h2)]
theorem sets2 {W : World} {b : Nat} {x y : Value} (h0 : W.cell? ⟨b, 0, none⟩ = some x) (h1 : W.cell? ⟨b, 1, none⟩ = some y) (u v : Value) :
    ((W.setCell ⟨b, 0, none⟩ u).setCell ⟨b, 1, none⟩ v).cell? ⟨b, 0, none⟩ = some u ∧ ((W.setCell ⟨b, 0, none⟩ u).setCell ⟨b, 1, none⟩ v).cell? ⟨b, 1, none⟩ = some v := by
  have n : ∀ i j : Nat, i ≠ j → (⟨b, i, none⟩ : Addr) ≠ ⟨b, j, none⟩ := fun i j h e => h (by have := congrArg Addr.off e; exact this)
  refine ⟨?_, ?_⟩
  · rw [World.cell?_setCell_other _ _ _ _ (n 1 0 (by decide)), World.cell?_setCell_same _ _ _ h0]
  · rw [World.cell?_setCell_same _ _ _ (by rw [World.cell?_setCell_other _ _ _ _ (n 0 1 (by decide))]; exact h1)]
theorem cellsT {w0 W : World} {b : Nat} {c0 c1 : Value} (h : W.cell? ⟨b, 0, none⟩ = some c0 ∧ W.cell? ⟨b, 1, none⟩ = some c1 ∧ (W.cell? ⟨b + 1, 0, none⟩).isSome = true ∧ (W.cell? ⟨b + 1, 1, none⟩).isSome = true ∧ (W.cell? ⟨b + 1, 2, none⟩).isSome = true ∧ W.frozen? ⟨b + 1, 0, none⟩ = false ∧ W.frozen? ⟨b + 1, 1, none⟩ = false ∧ W.frozen? ⟨b + 1, 2, none⟩ = false ∧ b + 1 < W.heap.size ∧ Bl w0 W) :
    ∃ x y z : Value, W.cell? ⟨b + 1, 0, none⟩ = some x ∧ W.cell? ⟨b + 1, 1, none⟩ = some y ∧ W.cell? ⟨b + 1, 2, none⟩ = some z ∧ W.frozen? ⟨b + 1, 0, none⟩ = false ∧ W.frozen? ⟨b + 1, 1, none⟩ = false ∧ W.frozen? ⟨b + 1, 2, none⟩ = false ∧ b + 1 < W.heap.size := by
  obtain ⟨_, _, h2, h3, h4, h5, h6, h7, h8, _⟩ := h
  obtain ⟨x, hx⟩ := Option.isSome_iff_exists.1 h2
  obtain ⟨y, hy⟩ := Option.isSome_iff_exists.1 h3
  obtain ⟨z, hz⟩ := Option.isSome_iff_exists.1 h4
  exact ⟨x, y, z, hx, hy, hz, h5, h6, h7, h8⟩
@[go_sem] theorem build_three (a b c : Int) (w : World) : (Instr.build 27 #[(0, .int .u32 a), (1, .int .u32 b), (2, .int .u32 c)]).run Tryd.prog w = .ok (.agg #[.int .u32 a, .int .u32 b, .int .u32 c]) w := run_build w 27 _ _ (by kernel_rfl)
def three (a b c : Nat) : Value := .agg #[.int .u32 (a : Int), .int .u32 (b : Int), .int .u32 (c : Int)]
def pairv (a b : Nat) : Value := .agg #[.int .u64 (a : Int), .int .u64 (b : Int)]

set_option maxRecDepth 100000 in
set_option maxHeartbeats 1000000 in
theorem rsplit9_any (hi lo : Nat) (hlo : lo < 18446744073709551616) (w : World) :
    Calls Tryd.prog 12 #[.agg #[.int .u64 (hi : Int), .int .u64 (lo : Int)]] w fun e w' => e = .returned (three (num hi lo % 998244353) (num hi lo % 167772161) (num hi lo % 469762049)) ∧ Bl w w' := by
  have K1 := Lib.hid (fun W => rmod9_lit hi lo 998244353 998244353 rfl (by decide) (by decide) hlo W)
  have K2 := Lib.hid (fun W => rmod9_lit hi lo 167772161 167772161 rfl (by decide) (by decide) hlo W)
  have K3 := Lib.hid (fun W => rmod9_lit hi lo 469762049 469762049 rfl (by decide) (by decide) hlo W)
  obtain ⟨x, hx⟩ : ∃ x, num hi lo % 998244353 = x := ⟨_, rfl⟩
  obtain ⟨y, hy⟩ : ∃ x, num hi lo % 167772161 = x := ⟨_, rfl⟩
  obtain ⟨z, hz⟩ : ∃ x, num hi lo % 469762049 = x := ⟨_, rfl⟩
  rw [hx] at K1 ⊢
  rw [hy] at K2 ⊢
  rw [hz] at K3 ⊢
  clear hx hy hz hlo
  unfold three
  have a24 := Tryd.isAgg24
  have z24 := Tryd.sizeOf24
  have a27 := Tryd.isAgg27
  have z27 := Tryd.sizeOf27
  go_enter Tryd.func12, Tryd.ntmps12
  go_wp2
  have hS : (fun w' => w'.cell? ⟨w.heap.size, 0, none⟩ = some (.int .u64 (hi : Int)) ∧ w'.cell? ⟨w.heap.size, 1, none⟩ = some (.int .u64 (lo : Int)) ∧ (w'.cell? ⟨w.heap.size + 1, 0, none⟩).isSome = true ∧ (w'.cell? ⟨w.heap.size + 1, 1, none⟩).isSome = true ∧ (w'.cell? ⟨w.heap.size + 1, 2, none⟩).isSome = true ∧ w'.frozen? ⟨w.heap.size + 1, 0, none⟩ = false ∧ w'.frozen? ⟨w.heap.size + 1, 1, none⟩ = false ∧ w'.frozen? ⟨w.heap.size + 1, 2, none⟩ = false ∧ w.heap.size + 1 < w'.heap.size ∧ Bl w w') (((w.alloc (.cells #[.int .u64 (hi : Int), .int .u64 (lo : Int)] 24)).alloc (.cells #[.int .u32 0, .int .u32 0, .int .u32 0] 27)).drew) := by
    refine ⟨?_, ?_, ?_, ?_, ?_, ?_, ?_, ?_, ?_, (((Bl.refl w).alloc _).alloc _).drew⟩ <;> go_simp
  go_region_held3 (fun w' => w'.cell? ⟨w.heap.size, 0, none⟩ = some (.int .u64 (hi : Int)) ∧ w'.cell? ⟨w.heap.size, 1, none⟩ = some (.int .u64 (lo : Int)) ∧ (w'.cell? ⟨w.heap.size + 1, 0, none⟩).isSome = true ∧ (w'.cell? ⟨w.heap.size + 1, 1, none⟩).isSome = true ∧ (w'.cell? ⟨w.heap.size + 1, 2, none⟩).isSome = true ∧ w'.frozen? ⟨w.heap.size + 1, 0, none⟩ = false ∧ w'.frozen? ⟨w.heap.size + 1, 1, none⟩ = false ∧ w'.frozen? ⟨w.heap.size + 1, 2, none⟩ = false ∧ w.heap.size + 1 < w'.heap.size ∧ Bl w w')
    (first | assumption | exact hS | exact keepT ‹_› hb' | exact setT (Nat.le_refl _) (setT (Nat.le_refl _) (setT (Nat.le_refl _) ‹_› _ _) _ _) _ _)
    (first
     | (go_at_call 26; (with_reducible refine (K1.out _).mono ?_); rintro e w' ⟨rfl, hb'⟩)
     | (go_at_call 26; (with_reducible refine (K2.out _).mono ?_); rintro e w' ⟨rfl, hb'⟩)
     | (go_at_call 26; (with_reducible refine (K3.out _).mono ?_); rintro e w' ⟨rfl, hb'⟩; obtain ⟨x0, x1, x2, t0, t1, t2, t3, t4, t5, t6⟩ := cellsT (keepT ‹_› hb')))
  rename_i hH
  obtain ⟨u0, u1, u2, u3, u4, u5, u6, u7, u8, u9⟩ := hH
  have hc := sets3 t0 t1 t2 (.int .u32 (x : Int)) (.int .u32 (y : Int)) (.int .u32 (z : Int))
  obtain ⟨W9, hW9⟩ : ∃ W, ((w'.setCell ⟨w.heap.size + 1, 0, none⟩ (.int .u32 (x : Int))).setCell ⟨w.heap.size + 1, 1, none⟩ (.int .u32 (y : Int))).setCell ⟨w.heap.size + 1, 2, none⟩ (.int .u32 (z : Int)) = W := ⟨_, rfl⟩
  rw [hW9] at hc u9 ⊢
  obtain ⟨hc0, hc1, hc2⟩ := hc
  have HB9 := Lib.hid u9
  clear hW9 u0 u1 u2 u3 u4 u5 u6 u7 u8 u9 t0 t1 t2 t3 t4 t5 t6 hS
  go_wp2
  refine bodyPost_ret (v := .agg #[.int .u32 (x : Int), .int .u32 (y : Int), .int .u32 (z : Int)]) (by simp [results, Tryd.results12, go_sem, a27, z27, hc0, hc1, hc2]) rfl ⟨rfl, HB9.out⟩
end Go.Proofs.YtiainhbkoehhjaaDoor
