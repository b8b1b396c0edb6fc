/-
  The world behind a call that makes memory of its own: all old blocks are as they were, nothing old or new is frozen anew. · Package trio: below; the world behind a call that writes one block and makes others; turn: a row's places by their bits the other way round.
-/
import Derived.WalkKit
import Derived.Below
import Derived.RowKit3
import Derived.Lib.Hide
import Derived.Deep.QuietTactic
import Derived.Test.YtiainhbkoehhjaaDoorPk7
import Derived.Deep.RegionHeld3
namespace Go.Proofs.YtiainhbkoehhjaaDoor
open Go.RowKit
set_option linter.unusedVariables false

def Gr (W w : World) : Prop := Below W.heap.size W w ∧ ∀ a, w.frozen? a = W.frozen? a
theorem Gr.refl (W : World) : Gr W W := ⟨Below.refl _ _, fun _ => rfl⟩
theorem Gr.size {W w : World} (h : Gr W w) : W.heap.size ≤ w.heap.size := h.1.size
theorem Gr.trans {a b c : World} (h : Gr a b) (k : Gr b c) : Gr a c := ⟨h.1.trans (k.1.mono h.1.size), fun x => (k.2 x).trans (h.2 x)⟩
theorem Gr.alloc {W w : World} (h : Gr W w) (c : Array Value) (t : TypeId) : Gr W (w.alloc (.cells c t)) :=
  ⟨h.1.alloc h.1.size _, fun a => (frozen?_alloc_cells _ _ _ a).trans (h.2 a)⟩
theorem Gr.setCell {W w : World} (h : Gr W w) {p : Addr} (hp : W.heap.size ≤ p.block) (u : Value) : Gr W (w.setCell p u) :=
  ⟨h.1.setCell hp u, fun a => (World.frozen?_setCell _ _ _ _).trans (h.2 a)⟩
theorem Gr.drew {W w : World} (h : Gr W w) : Gr W w.drew := ⟨h.1.drew, h.2⟩
theorem Gr.drewN {W w : World} (h : Gr W w) (n : Nat) : Gr W (w.drewN n) := ⟨⟨h.1.os, h.1.tape, h.1.output, h.1.size, h.1.block⟩, h.2⟩
theorem Gr.cell {W w : World} (h : Gr W w) (b o : Nat) (hb : b < W.heap.size) : w.cell? ⟨b, o, none⟩ = W.cell? ⟨b, o, none⟩ := h.1.cell (p := ⟨b, o, none⟩) hb
theorem Gr.block {W w : World} (h : Gr W w) (b : Nat) (hb : b < W.heap.size) : w.heap[b]? = W.heap[b]? := h.1.block b hb
theorem Gr.grown {W w : World} (h : Gr W w) : Grown W w := ⟨h.1.frame _, h.2, h.1.size⟩
theorem Gr.of_eq {W w : World} (h : W = w) : Gr W w := h ▸ Gr.refl W

/-- Four cells that stand at a block's head. -/
def Four (b : Nat) (c0 c1 c2 c3 : Value) (w : World) : Prop :=
  w.cell? ⟨b, 0, none⟩ = some c0 ∧ w.cell? ⟨b, 1, none⟩ = some c1 ∧ w.cell? ⟨b, 2, none⟩ = some c2 ∧ w.cell? ⟨b, 3, none⟩ = some c3 ∧ b < w.heap.size
theorem four_box (W : World) (c0 c1 c2 c3 : Value) (t : TypeId) : Four W.heap.size c0 c1 c2 c3 (W.alloc (.cells #[c0, c1, c2, c3] t)) := by
  refine ⟨?_, ?_, ?_, ?_, ?_⟩ <;> simp
theorem Four.kept {b : Nat} {c0 c1 c2 c3 : Value} {W w : World} (h : Four b c0 c1 c2 c3 W) (g : Gr W w) : Four b c0 c1 c2 c3 w := by
  obtain ⟨h0, h1, h2, h3, hb⟩ := h
  exact ⟨(g.cell _ _ hb).trans h0, (g.cell _ _ hb).trans h1, (g.cell _ _ hb).trans h2, (g.cell _ _ hb).trans h3, Nat.lt_of_lt_of_le hb g.size⟩
end Go.Proofs.YtiainhbkoehhjaaDoor
namespace Go.Proofs.YtiainhbkoehhjaaDoor
open Go.RowKit
set_option linter.unusedVariables false
set_option linter.unusedSimpArgs false

theorem Tryd.infoU32 : (Tryd.prog.info? 25).map (fun i => (i.zero, i.size, i.bytes)) = some (some (.int .u32 0), 1, 4) := by kernel_rfl

/-- Of what was there only block g has turned. -/
structure Og (g : Nat) (W w : World) : Prop where
  os : w.os = W.os
  tape : w.tape = W.tape
  output : w.output = W.output
  size : W.heap.size ≤ w.heap.size
  block : ∀ j, j < W.heap.size → j ≠ g → w.heap[j]? = W.heap[j]?
theorem Og.refl (g : Nat) (W : World) : Og g W W := ⟨rfl, rfl, rfl, Nat.le_refl _, fun _ _ _ => rfl⟩
theorem Og.trans {g : Nat} {a b c : World} (h : Og g a b) (k : Og g b c) : Og g a c :=
  ⟨k.os.trans h.os, k.tape.trans h.tape, k.output.trans h.output, Nat.le_trans h.size k.size, fun j hj hne => (k.block j (Nat.lt_of_lt_of_le hj h.size) hne).trans (h.block j hj hne)⟩
theorem Og.of_bl {g : Nat} {W w : World} (h : Bl W w) : Og g W w := ⟨h.os, h.tape, h.output, Below.size h, fun j hj _ => Below.block h j hj⟩
theorem Og.setCell {g : Nat} {W w : World} (h : Og g W w) (i : Nat) (u : Value) : Og g W (w.setCell ⟨g, i, none⟩ u) :=
  ⟨h.os, h.tape, h.output, by rw [World.size_setCell]; exact h.size, fun j hj hne => (Below.heap_setCell _ _ _ _ hne).trans (h.block j hj hne)⟩
theorem Og.drew {g : Nat} {W w : World} (h : Og g W w) : Og g W w.drew := ⟨h.os, h.tape, h.output, h.size, h.block⟩
theorem Og.drewN {g : Nat} {W w : World} (h : Og g W w) (n : Nat) : Og g W (w.drewN n) := ⟨h.os, h.tape, h.output, h.size, h.block⟩
theorem Og.bl {g : Nat} {W0 W w : World} (h : Og g W w) (b : Bl W0 W) (hg : W0.heap.size ≤ g) : Bl W0 w :=
  Below.mk (h.os.trans b.os) (h.tape.trans b.tape) (h.output.trans b.output) (Nat.le_trans (Below.size b) h.size) fun j hj => (h.block j (Nat.lt_of_lt_of_le hj (Below.size b)) (by omega)).trans (Below.block b j hj)
theorem Og.cell {g : Nat} {W w : World} (h : Og g W w) {p : Addr} (hp : p.block < W.heap.size) (hne : p.block ≠ g) : w.cell? p = W.cell? p := World.cell?_of_block (w := W) (h.block p.block hp hne)
theorem Og.frozen {g : Nat} {W w : World} (h : Og g W w) {p : Addr} (hp : p.block < W.heap.size) (hne : p.block ≠ g) : w.frozen? p = W.frozen? p := World.frozen?_of_block (w := W) (h.block p.block hp hne)
theorem Bk.og {k : IntKind} {e : TypeId} {w w' : World} {b g : Nat} {l : List Nat} (h : Bk k e w b l) (o : Og g w w') (hne : b ≠ g) : Bk k e w' b l := (o.block b h.lt hne).trans h
theorem Src.og {k : IntKind} {w w' : World} {A : Option Addr} {l : List Nat} {g : Nat} (h : Src k w A l) (o : Og g w w') (hne : ∀ ad, A = some ad → ad.block ≠ g) : Src k w' A l := by
  intro hl
  obtain ⟨ad, ha, hb, hx⟩ := h hl
  exact ⟨ad, ha, Nat.lt_of_lt_of_le hb o.size, fun i hi => (o.cell (by rw [blk_add]; exact hb) (by rw [blk_add]; exact hne ad ha)).trans (hx i hi)⟩
theorem Four.og {b g : Nat} {c0 c1 c2 c3 : Value} {W w : World} (h : Four b c0 c1 c2 c3 W) (o : Og g W w) (hne : b ≠ g) : Four b c0 c1 c2 c3 w := by
  obtain ⟨h0, h1, h2, h3, hb⟩ := h
  exact ⟨(o.cell hb hne).trans h0, (o.cell hb hne).trans h1, (o.cell hb hne).trans h2, (o.cell hb hne).trans h3, Nat.lt_of_lt_of_le hb o.size⟩

set_option maxRecDepth 100000 in
theorem tbelow_any (m a : Nat) (hm : m < 4294967296) (ha : a < 4294967296) (w : World) :
    Calls Tryd.prog 68 #[.int .u32 (m : Int), .int .u32 (a : Int)] w fun e w' => e = .returned (.int .u32 ((bel m a : Nat) : Int)) ∧ w = w' := by
  unfold bel
  by_cases h : m ≤ a
  · rw [if_pos h]
    have d : decide (m ≤ a) = true := decide_eq_true h
    obtain ⟨c, hc⟩ : ∃ c, a - m = c := ⟨_, rfl⟩
    have r1 : (a : Int) - (m : Int) = (c : Int) := by omega
    have r2 : IntKind.u32.wrap (c : Int) = (c : Int) := IntWalk.u32_in _ (by omega)
    have r3 : (c : Int) % 4294967296 = (c : Int) := by omega
    rw [hc]
    clear hc h
    go_enter Tryd.func68, Tryd.ntmps68
    go_wp2
    go_ret
    exact ⟨rfl, rfl⟩
  · rw [if_neg h]
    have d : decide (m ≤ a) = false := decide_eq_false h
    clear h
    go_enter Tryd.func68, Tryd.ntmps68
    go_wp2
    go_ret
    exact ⟨rfl, rfl⟩

/-- What one round of turn reckons with. -/
theorem trturn_num (k i : Nat) (hk : k ≤ 20) (hi : i < 2 ^ k) : ∃ y j c : Nat, turned (rev64 i) = y ∧ rv k i = j ∧ 64 - k = c ∧ (64 : Int) - (k : Int) = (c : Int) ∧ (y : Int) / 2 ^ c = (j : Int) ∧ j < 2 ^ k ∧ c ≤ 64 ∧ 44 ≤ c ∧ i < 1048576 ∧ j < 1048576 := by
  have hp : 2 ^ k ≤ 2 ^ 20 := Nat.pow_le_pow_right (by decide) hk
  have hj := rv_lt k i
  have e : turned (rev64 i) / 2 ^ (64 - k) = rv k i := rev_rv i k (by omega) hi
  refine ⟨_, _, _, rfl, rfl, rfl, by omega, ?_, hj, by omega, by omega, by omega, by omega⟩
  rw [← e, Int.natCast_ediv, Int.natCast_pow]
  rfl

set_option maxRecDepth 100000 in
set_option maxHeartbeats 1000000 in
theorem trturn_any (W : World) (g k N C : Nat) (f : Nat → Nat) (hN : N = 2 ^ k) (hk : k ≤ 20) (hb : Bk .u32 25 W g (ml N f)) :
    Calls Tryd.prog 73 #[.slice (some ⟨g, 0, none⟩) N C, .int .i64 (k : Int)] W fun e w => e = .returned (.tuple #[]) ∧ Bk .u32 25 w g (ml N fun p => f (rv k p)) ∧ Og g W w := by
  have hNb : N ≤ 1048576 := by rw [hN]; exact Nat.pow_le_pow_right (n := 2) (by decide) hk
  have hNi : (N : Int) ≤ 1048576 := by omega
  have HN := Lib.hid hN
  have HK := Lib.hid hk
  have HB := Lib.hid hb
  have hki : (k : Int) ≤ 20 := by omega
  clear hN hb hNb hk
  go_enter Tryd.func73, Tryd.ntmps73
  go_wp2
  go_loopw [8] (fun s wr => ∃ i : Nat, i ≤ N ∧ s = .int .i64 (i : Int) ∧ Hid (Bk .u32 25 wr g (ml N (trn k i f))) ∧ Hid (Og g W wr)) (fun s _ => N - (intOf s).toNat)
  case atStart => exact ⟨0, Nat.zero_le _, rfl, (by show Bk _ _ _ _ _; rw [ml_congr (fun p _ => trn_zero k f p)]; exact HB.out), Og.refl _ _⟩
  case round =>
    obtain ⟨i, hin, rfl, hbk, ho⟩ := hrel
    by_cases hlt : i < N
    · have hi2 : i < 2 ^ k := HN.out ▸ hlt
      obtain ⟨y, j, c, e1, e2, e3, r1, r2, hj, hc, hc', hi20, hj20⟩ := trturn_num k i HK.out hi2
      have hjN : j < N := by rw [HN.out]; exact hj
      have RV := Lib.hid (fun w => reverse_any i (by omega) w)
      rw [e1] at RV
      have c1 : IntKind.u64.wrap (i : Int) = (i : Int) := IntWalk.u64_in _ (by omega)
      have c2 : IntKind.i64.wrap (j : Int) = (j : Int) := IntWalk.i64_in _ (by omega)
      have c3 : IntKind.i64.wrap (c : Int) = (c : Int) := IntWalk.i64_in _ (by omega)
      by_cases hji : j < i
      · have d : decide (j < i) = true := decide_eq_true hji
        obtain ⟨t1, t2, t3, t4, t5⟩ := trn_swap hi2 e2 hji f
        have q1 := hbk.out.cell i (by rw [ml_length]; exact hlt)
        have q2 := hbk.out.cell j (by rw [ml_length]; exact hjN)
        rw [ml_get, t1] at q1
        rw [ml_get, t2] at q2
        have zf1 := hbk.out.free i
        have zf2 := hbk.out.free j
        have hset := (hbk.out.set i (f j) (by rw [ml_length]; exact hlt)).set j (f i) (by rw [List.length_set, ml_length]; exact hjN)
        have hl : ((ml N (trn k i f)).set i (f j)).set j (f i) = ml N (trn k (i + 1) f) := by
          apply List.ext_getElem
          · simp [ml]
          · intro p p1 p2
            have hpN : p < N := by rw [ml_length] at p2; exact p2
            rw [List.getElem_set, List.getElem_set, ml_get, ml_get]
            by_cases a1 : j = p
            · rw [if_pos a1, ← a1, t4]
            · rw [if_neg a1]
              by_cases a2 : i = p
              · rw [if_pos a2, ← a2, t3]
              · rw [if_neg a2, t5 p (by rw [← HN.out]; exact hpN) (fun e => a2 e.symm) (fun e => a1 e.symm)]
        rw [hl] at hset
        have HS := Lib.hid hset
        have HO := Lib.hid ((ho.out.setCell i (.int .u32 ((f j : Nat) : Int))).setCell j (.int .u32 ((f i : Nat) : Int)))
        have b1 : (0 : Int) ≤ (i : Int) ∧ (i : Int) < (N : Int) := by omega
        have b2 : (0 : Int) ≤ (j : Int) ∧ (j : Int) < (N : Int) := by omega
        obtain ⟨x, hx⟩ : ∃ x, f i = x := ⟨_, rfl⟩
        obtain ⟨z, hz⟩ : ∃ x, f j = x := ⟨_, rfl⟩
        rw [hx] at q1 HS HO
        rw [hz] at q2 HS HO
        have q3 : (wr.setCell ⟨g, i, none⟩ (.int .u32 (z : Int))).cell? ⟨g, j, none⟩ = some (.int .u32 (z : Int)) := (World.cell?_setCell_other _ _ _ _ (fun e => by have := congrArg Addr.off e; have e' : i = j := this; omega)).trans q2
        clear hx hz hset hl t1 t2 t3 t4 t5 e1 e2 e3 hj hji hi2 hjN hbk ho
        go_wp2_with (go_at_call 80; (with_reducible refine (RV.out _).mono ?_); rintro e w' ⟨rfl, rfl⟩)
        go_region
        go_wp2
        go_roundw
        case rel => exact ⟨i + 1, by omega, by go_num, HS, HO.out.drew⟩
        case measure => simp [intOf] <;> omega
      · have d : decide (j < i) = false := decide_eq_false hji
        have HS : Hid (Bk .u32 25 wr g (ml N (trn k (i + 1) f))) := by
          show Bk _ _ _ _ _
          rw [ml_congr (fun p hp => trn_stay hi2 (by rw [e2]; exact hji) f p (by rw [← HN.out]; exact hp))]
          exact hbk.out
        clear e1 e2 e3 hj hji hi2 hjN hbk
        go_wp2_with (go_at_call 80; (with_reducible refine (RV.out _).mono ?_); rintro e w' ⟨rfl, rfl⟩)
        go_roundw
        case rel => exact ⟨i + 1, by omega, by go_num, HS, ho⟩
        case measure => simp [intOf] <;> omega
    · have hin' : i = N := by omega
      have HS : Hid (Bk .u32 25 wr g (ml N fun p => f (rv k p))) := by
        show Bk _ _ _ _ _
        rw [← ml_congr (fun p hp => trn_all k f p (by rw [← HN.out]; exact hp)), ← HN.out, ← hin']
        rw [← hin'] at hbk
        exact hbk.out
      clear hin' hbk
      go_wp2
      go_end0
      exact ⟨rfl, HS.out, ho.out⟩
end Go.Proofs.YtiainhbkoehhjaaDoor
