/-
  The walk of the statement TrioFew. · A pair appended to a row of pairs of the call's own.
-/
import Derived.Test.YtiainhbkoehhjaaDoorPk41
import Derived.Test.YtiainhbkoehhjaaDoorPk43
import Derived.Test.YtiainhbkoehhjaaDoorPk15
import Derived.Deep.RegionLaw
import Derived.Deep.AppendLies
namespace Go.Proofs.YtiainhbkoehhjaaDoor
open Go.RowKit
set_option linter.unusedVariables false
set_option linter.unusedSimpArgs false

set_option maxRecDepth 100000 in
set_option maxHeartbeats 4000000 in
theorem trioFew_walk (n0 n1 n2 : Nat) (b0 : n0 < 18446744073709551616) (b1 : n1 < 18446744073709551616) (b2 : n2 < 18446744073709551616) (W : World) (hw : PrW W) :
    Calls Tryd.prog 8 #[.int .u64 (n0 : Int), .agg #[.int .u64 (n1 : Int), .int .u64 (n2 : Int)]] W fun e w' => e = .returned (.bool true) ∧ Bl W w' := by
  have SH := Lib.hid (fun w hw => shown9 w hw)
  have HW := Lib.hid hw
  have a24 := Tryd.isAgg24
  have z24 := Tryd.sizeOf24
  have a27 := Tryd.isAgg27
  have z27 := Tryd.sizeOf27
  have hb2 : Bl W (W.alloc (.cells #[.int .u64 (n1 : Int), .int .u64 (n2 : Int)] 24)) := (Bl.refl W).alloc _
  have HB2 := Lib.hid hb2
  clear hb2 hw
  by_cases hv : n0 < 167772161
  · have k1 : n0 % 998244353 = n0 := Nat.mod_eq_of_lt (by omega)
    have k2 : n0 % 167772161 = n0 := Nat.mod_eq_of_lt (by omega)
    have k3 : n0 % 469762049 = n0 := Nat.mod_eq_of_lt (by omega)
    have hj : jn n0 n0 n0 = n0 := by
      have h := jn_cv (X := n0) (Nat.lt_trans hv (by decide))
      rwa [k1, k2, k3] at h
    have e0 : num 0 n0 = n0 := by unfold num; omega
    have S1 : ∀ w, PrW w → Calls Tryd.prog 11 #[.agg #[.int .u64 0, .int .u64 (n0 : Int)]] w fun e w' => e = .returned (.agg #[.int .u32 (n0 : Int), .int .u32 (n0 : Int), .int .u32 (n0 : Int)]) ∧ Bl w w' := fun w hw => by
      have h := split_any 0 n0 b0 w hw
      rw [e0, k1, k2, k3] at h
      exact h
    have J1 : ∀ w, Calls Tryd.prog 13 #[.agg #[.int .u32 (n0 : Int), .int .u32 (n0 : Int), .int .u32 (n0 : Int)]] w fun e w' => e = .returned (.agg #[.int .u64 0, .int .u64 (n0 : Int)]) ∧ Bl w w' := fun w => by
      have h := join_any n0 n0 n0 (by omega) (by omega) (by omega) w
      rw [hj, show n0 / 18446744073709551616 = 0 by omega, show n0 % 18446744073709551616 = n0 by omega] at h
      exact h
    have HS1 := Lib.hid S1
    have HJ1 := Lib.hid J1
    have S2 := Lib.hid (fun w hw => split_any n1 n2 b2 w hw)
    unfold three at S2
    obtain ⟨ra, hra⟩ : ∃ x, num n1 n2 % 998244353 = x := ⟨_, rfl⟩
    obtain ⟨rb, hrb⟩ : ∃ x, num n1 n2 % 167772161 = x := ⟨_, rfl⟩
    obtain ⟨rc, hrc⟩ : ∃ x, num n1 n2 % 469762049 = x := ⟨_, rfl⟩
    rw [hra, hrb, hrc] at S2
    obtain ⟨P, hP⟩ : ∃ P : Int, 998244353 = P := ⟨_, rfl⟩
    obtain ⟨R, hR⟩ : ∃ P : Int, 167772161 = P := ⟨_, rfl⟩
    obtain ⟨T, hT⟩ : ∃ P : Int, 469762049 = P := ⟨_, rfl⟩
    have g1 : decide ((ra : Int) < P) = true := decide_eq_true (by have := Nat.mod_lt (num n1 n2) (show 0 < 998244353 by decide); omega)
    have g2 : decide ((rb : Int) < R) = true := decide_eq_true (by have := Nat.mod_lt (num n1 n2) (show 0 < 167772161 by decide); omega)
    have g3 : decide ((rc : Int) < T) = true := decide_eq_true (by have := Nat.mod_lt (num n1 n2) (show 0 < 469762049 by decide); omega)
    have d1 : decide (R ≤ (n0 : Int)) = false := decide_eq_false (by omega)
    have m1 : (n0 : Int) % 4294967296 = (n0 : Int) := Int.emod_eq_of_lt (by omega) (by omega)
    have m2 : IntKind.u32.wrap (n0 : Int) = (n0 : Int) := by rw [show IntKind.u32.wrap (n0 : Int) = (n0 : Int) % 4294967296 from rfl, m1]
    clear k1 k2 k3 hj e0 S1 J1 hra hrb hrc b0 b1 b2 hv
    go_enter Tryd.func8, Tryd.ntmps8
    rw [hP, hR, hT]
    clear hP hR hT
    go_wp2_with (first
      | (go_at_call 10; (with_reducible refine (SH.out _ (HW.out.bl HB2.out)).mono ?_); rintro e w1 ⟨rfl, hb'⟩; have I1 := Lib.hid hb'; have G1 := Lib.hid (HB2.out.trans hb'); clear hb')
      | (go_at_call 11; (with_reducible refine (HS1.out _ (HW.out.bl G1.out)).mono ?_); rintro e w2 ⟨rfl, hb'⟩; have I2 := Lib.hid (I1.out.trans hb'); have G2 := Lib.hid (G1.out.trans hb'); obtain ⟨x0, x1, x2⟩ := box2 I2.out; clear hb')
      | (go_at_call 11; (with_reducible refine (S2.out _ (HW.out.bl (G2.out.alloc _))).mono ?_); rintro e w3 ⟨rfl, hb'⟩; have I3 := Lib.hid hb'; have G3 := Lib.hid ((G2.out.alloc _).trans hb'); obtain ⟨y0, y1, y2, y3⟩ := box3 I3.out; clear hb' x0 x1 x2)
      | (go_at_call 13; (with_reducible refine (HJ1.out _).mono ?_); rintro e w4 ⟨rfl, hb'⟩; have I4 := Lib.hid hb'; have G4 := Lib.hid ((G3.out.alloc _).trans hb'); clear hb' y0 y1 y2 y3 m1 m2; obtain ⟨y0, y1, y2, y3⟩ := box3 I4.out))
    go_ret
    exact ⟨rfl, G4.out⟩
  · have d1 : decide ((167772161 : Int) ≤ (n0 : Int)) = true := decide_eq_true (by omega)
    have d2 : decide (167772161 ≤ n0) = true := decide_eq_true (by omega)
    clear hv
    go_enter Tryd.func8, Tryd.ntmps8
    go_wp2_with (first
      | (go_at_call 10; (with_reducible refine (SH.out _ (HW.out.bl HB2.out)).mono ?_); rintro e w1 ⟨rfl, hb'⟩; have G1 := Lib.hid (HB2.out.trans hb'); clear hb'))
    go_ret
    exact ⟨rfl, G1.out⟩
end Go.Proofs.YtiainhbkoehhjaaDoor
namespace Go.Proofs.YtiainhbkoehhjaaDoor
open Go.RowKit
set_option linter.unusedVariables false

def pcs (l : List (Nat × Nat)) : List Value := l.flatMap fun p => [.int .u64 (p.1 : Int), .int .u64 (p.2 : Int)]
theorem pcs_cons (p : Nat × Nat) (l : List (Nat × Nat)) : pcs (p :: l) = .int .u64 (p.1 : Int) :: .int .u64 (p.2 : Int) :: pcs l := by simp [pcs]
theorem pcs_snoc (l : List (Nat × Nat)) (p : Nat × Nat) : pcs (l ++ [p]) = pcs l ++ [.int .u64 (p.1 : Int), .int .u64 (p.2 : Int)] := by simp [pcs]
theorem pcs_length : ∀ l : List (Nat × Nat), (pcs l).length = l.length * 2
  | [] => rfl
  | p :: l => by rw [pcs_cons, List.length_cons, List.length_cons, pcs_length l, List.length_cons]; omega
theorem pcs_get : ∀ (l : List (Nat × Nat)) (i : Nat) (h : i < l.length), (pcs l)[i * 2]? = some (.int .u64 (l[i].1 : Int)) ∧ (pcs l)[i * 2 + 1]? = some (.int .u64 (l[i].2 : Int))
  | [], i, h => absurd h (by simp)
  | p :: l, 0, h => by rw [pcs_cons]; exact ⟨rfl, rfl⟩
  | p :: l, i + 1, h => by
    have hi : i < l.length := by simpa using h
    have := pcs_get l i hi
    rw [pcs_cons, show (i + 1) * 2 = i * 2 + 1 + 1 by omega]
    exact this
/-- The value v owns a row that reads as l. -/
def Owp (e : TypeId) (base : Nat) (w : World) (v : Value) (l : List (Nat × Nat)) : Prop := w.ownsRow base e 2 v l.length (pcs l)
theorem Owp.nil (e : TypeId) (base : Nat) (w : World) : Owp e base w (.slice none 0 0) [] := World.ownsRow_nil w base e 2
theorem Owp.pq {e : TypeId} {base : Nat} {w : World} {v : Value} {l : List (Nat × Nat)} (h : Owp e base w v l) : Pq w v l := by
  obtain ⟨h1, h2⟩ := h
  rcases h2 with ⟨rfl, h0⟩ | ⟨g, cap, cur, rfl, hb, hg, hc, hm, hs, ht⟩
  · have : l = [] := List.length_eq_zero_iff.1 h0
    subst this
    exact Pq.nil w
  · refine ⟨some ⟨g, 0, none⟩, cap, rfl, hc, hm, (fun h => by cases h), fun hl => ⟨⟨g, 0, none⟩, rfl, (Array.getElem?_eq_some_iff.1 hg).1, fun i hi => ?_⟩⟩
    have hown : w.ownsRow base e 2 (.slice (some ⟨g, 0, none⟩) l.length cap) l.length (pcs l) := ⟨h1, .inr ⟨g, cap, cur, rfl, hb, hg, hc, hm, hs, ht⟩⟩
    rw [add_none, Nat.zero_add, hown.cellAt (i * 2) (by omega)]
    have := pcs_get l i hi
    exact ⟨this.1, (hown.cellAt (i * 2 + 1) (by omega)).trans this.2⟩
theorem Owp.alloc {e : TypeId} {base : Nat} {w : World} {v : Value} {l : List (Nat × Nat)} (h : Owp e base w v l) (o : Obj) : Owp e base (w.alloc o) v l := World.ownsRow.alloc h o
theorem Owp.bl {e : TypeId} {base : Nat} {w w' : World} {v : Value} {l : List (Nat × Nat)} (h : Owp e base w v l) (g : Bl w w') : Owp e base w' v l :=
  World.ownsRow.kept h (row := none) ⟨g.os, g.tape, g.output, Below.size g, fun i hi _ => g.block i hi⟩ (by cases hv : v.ownBlock <;> simp)
/-- A pair appended, that lies in a block of its own. -/
theorem app_pair {P : Program} {ops : Array Oper} {rest : List Oper} {o : Oper} {a : Act} {Q : Exit → Act → World → Prop} (W w : World) (t e : TypeId) (i : TypeInfo) (z : Value) (bytes : Nat)
    (ht : P.underlying t = some (.slice e)) (hi : P.info? e = some i) (hz : i.zero = some z) (hsize : i.size = 2) (hby : i.bytes = bytes) (hzs : z.cells.size = 2) (hb8 : bytes ≤ 16)
    (hgd : o.guard = none) (s x : Operand) (ho : o.op = .call { callee := .builtin .append, args := #[s, x], argTypes := #[t, t] })
    (v : Value) (l : List (Nat × Nat)) (u1 u2 : Nat) (hs : a.eval s = v) (g c : Nat) (hx : a.eval x = .slice (some ⟨g, 0, none⟩) 1 c) (hx1 : w.cell? ⟨g, 0, none⟩ = some (.int .u64 (u1 : Int))) (hx2 : w.cell? ⟨g, 1, none⟩ = some (.int .u64 (u2 : Int))) (hown : Owp e W.heap.size w v l) (hbl : Bl W w) (hl : l.length < 1099511627776)
    (h : ∀ v' w', Hid (Owp e W.heap.size w' v' (l ++ [(u1, u2)])) → Hid (Bl W w') → wpList P ops Q rest (a.put o.dst v') w') : wpList P ops Q (o :: rest) a w := by
  refine wpList_append_own _ hgd s x t ho W.heap.size e i z 2 bytes ht hi hz hsize hby hzs (by decide) v l.length (pcs l) hs hown ⟨g, 0, none⟩ 1 c [.int .u64 (u1 : Int), .int .u64 (u2 : Int)] hx rfl ?_ ?_ ?_ ?_ ?_ ?_
  · intro j y hj
    match j, hj with
    | 0, hj => simp at hj; subst hj; rw [add_none]; exact hx1
    | 1, hj => simp at hj; subst hj; rw [add_none]; exact hx2
  · intro y hy; simp at hy; rcases hy with rfl | rfl <;> rfl
  · unfold maxLen; omega
  · have : (l.length + 1) * bytes ≤ (l.length + 1) * 16 := Nat.mul_le_mul_left _ hb8
    omega
  · exact hbl.size
  · intro v' w' h1 h2 _
    refine h v' w' ?_ ?_
    · have h1' : w'.ownsRow W.heap.size e 2 v' (l.length + 1) (pcs l ++ [.int .u64 (u1 : Int), .int .u64 (u2 : Int)]) := h1
      show w'.ownsRow W.heap.size e 2 v' (l ++ [(u1, u2)]).length (pcs (l ++ [(u1, u2)]))
      rw [pcs_snoc, List.length_append]
      exact h1'
    · exact hbl.grown h2 (fun g hg => (World.ownsRow.lt hown g hg).1)
/-- An element appended at a step of a region that draws its order. -/
theorem step_app_one {P : Program} {ops : Array Oper} {o : Oper} {a : Act} {K : Act → World → Prop} {Q : Exit → Act → World → Prop} {E : Prop} (W w : World) (k : IntKind) (t e : TypeId) (i : TypeInfo) (z : Value) (bytes : Nat)
    (ht : P.underlying t = some (.slice e)) (hi : P.info? e = some i) (hz : i.zero = some z) (hsize : i.size = 1) (hby : i.bytes = bytes) (hzs : z.cells.size = 1) (hb8 : bytes ≤ 8)
    (hgd : o.guard = none) (s x : Operand) (ho : o.op = .call { callee := .builtin .append, args := #[s, x], argTypes := #[t, t] })
    (v : Value) (l : List Nat) (u : Nat) (hs : a.eval s = v) (hx : a.eval x = .slice (some ⟨w.heap.size, 0, none⟩) 1 1) (hown : Ow k e W.heap.size w v l) (hbl : Bl W w) (hl : l.length < 1099511627776)
    (h : ∀ v' w', Hid (Ow k e W.heap.size w' v' (l ++ [u])) → Hid (Bl W w') → K (a.put o.dst v') w') :
    if Region.wanted o (yielded ops a.tmps) = true then Oper.wp P o a (w.alloc (.cells #[.int k (u : Int)] e)) K Q else E := by
  have hw : Region.wanted o (yielded ops a.tmps) = true := by simp [Region.wanted, hgd]
  rw [if_pos hw]
  refine wp_append_own _ s x t ho W.heap.size e i z 1 bytes ht hi hz hsize hby hzs (by decide) v l.length (vs k l) hs (World.ownsRow.alloc hown _) ⟨w.heap.size, 0, none⟩ 1 1 [.int k (u : Int)] hx rfl ?_ ?_ ?_ ?_ ?_ ?_
  · intro j y hj
    match j, hj with
    | 0, hj => simp at hj; subst hj; simp [Addr.add]
  · intro y hy; simp at hy; subst hy; rfl
  · unfold maxLen; omega
  · have : (l.length + 1) * bytes ≤ (l.length + 1) * 8 := Nat.mul_le_mul_left _ hb8
    omega
  · have := hbl.size; simp; omega
  · intro v' w' h1 h2 _
    refine h v' w' ?_ ?_
    · have h1' : w'.ownsRow W.heap.size e 1 v' (l.length + 1) (vs k l ++ [.int k (u : Int)]) := h1
      show w'.ownsRow W.heap.size e 1 v' (l ++ [u]).length (vs k (l ++ [u]))
      rw [vs_snoc, List.length_append]
      exact h1'
    · exact (hbl.alloc _).grown h2 (fun g hg => (World.ownsRow.lt hown g hg).1)
/-- A pair appended at such a step. -/
theorem step_app_pair {P : Program} {ops : Array Oper} {o : Oper} {a : Act} {K : Act → World → Prop} {Q : Exit → Act → World → Prop} {E : Prop} (W w : World) (t e : TypeId) (i : TypeInfo) (z : Value) (bytes : Nat)
    (ht : P.underlying t = some (.slice e)) (hi : P.info? e = some i) (hz : i.zero = some z) (hsize : i.size = 2) (hby : i.bytes = bytes) (hzs : z.cells.size = 2) (hb8 : bytes ≤ 16)
    (hgd : o.guard = none) (s x : Operand) (ho : o.op = .call { callee := .builtin .append, args := #[s, x], argTypes := #[t, t] })
    (v : Value) (l : List (Nat × Nat)) (u1 u2 : Nat) (hs : a.eval s = v) (hx : a.eval x = .slice (some ⟨w.heap.size, 0, none⟩) 1 1) (hown : Owp e W.heap.size w v l) (hbl : Bl W w) (hl : l.length < 1099511627776)
    (h : ∀ v' w', Hid (Owp e W.heap.size w' v' (l ++ [(u1, u2)])) → Hid (Bl W w') → K (a.put o.dst v') w') :
    if Region.wanted o (yielded ops a.tmps) = true then Oper.wp P o a (w.alloc (.cells #[.int .u64 (u1 : Int), .int .u64 (u2 : Int)] e)) K Q else E := by
  have hw : Region.wanted o (yielded ops a.tmps) = true := by simp [Region.wanted, hgd]
  rw [if_pos hw]
  refine wp_append_own _ s x t ho W.heap.size e i z 2 bytes ht hi hz hsize hby hzs (by decide) v l.length (pcs l) hs (World.ownsRow.alloc hown _) ⟨w.heap.size, 0, none⟩ 1 1 [.int .u64 (u1 : Int), .int .u64 (u2 : Int)] hx rfl ?_ ?_ ?_ ?_ ?_ ?_
  · intro j y hj
    match j, hj with
    | 0, hj => simp at hj; subst hj; simp [Addr.add]
    | 1, hj => simp at hj; subst hj; simp [Addr.add]
  · intro y hy; simp at hy; rcases hy with rfl | rfl <;> rfl
  · unfold maxLen; omega
  · have : (l.length + 1) * bytes ≤ (l.length + 1) * 16 := Nat.mul_le_mul_left _ hb8
    omega
  · have := hbl.size; simp; omega
  · intro v' w' h1 h2 _
    refine h v' w' ?_ ?_
    · have h1' : w'.ownsRow W.heap.size e 2 v' (l.length + 1) (pcs l ++ [.int .u64 (u1 : Int), .int .u64 (u2 : Int)]) := h1
      show w'.ownsRow W.heap.size e 2 v' (l ++ [(u1, u2)]).length (pcs (l ++ [(u1, u2)]))
      rw [pcs_snoc, List.length_append]
      exact h1'
    · exact (hbl.alloc _).grown h2 (fun g hg => (World.ownsRow.lt hown g hg).1)
theorem Owp.drew {e : TypeId} {base : Nat} {w : World} {v : Value} {l : List (Nat × Nat)} (h : Owp e base w v l) : Owp e base w.drew v l := h.bl (Bl.refl w).drew
theorem ow_drew {k : IntKind} {e : TypeId} {base : Nat} {w : World} {v : Value} {l : List Nat} (h : Ow k e base w v l) : Ow k e base w.drew v l := h.bl (Bl.refl w).drew
end Go.Proofs.YtiainhbkoehhjaaDoor
