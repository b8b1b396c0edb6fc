/-
  Rows of parts in memory, each in six cells; a part appended to a row of the call's own, whose block holds no word, so that no part's words lie in it.
-/
import Derived.Test.YtdaglbjdgdokpaaDoorPk36
import Derived.Test.YtdaglbjdgdokpaaDoorPk10
import Derived.Deep.RegionLaw
import Derived.Maps.AppendAt
namespace Go.Proofs.YtdaglbjdgdokpaaDoor
open Go.RowKit
set_option linter.unusedVariables false
set_option linter.unusedSimpArgs false

/-- A part with the values of its rows. -/
structure Pt where
  r : Rc
  vp : Value
  vq : Value
  vt : Value
def Pt.ok (w : World) (x : Pt) : Prop := Rw .u64 w x.vp x.r.p ∧ Rw .u64 w x.vq x.r.q ∧ Rw .u64 w x.vt x.r.t
def Pt.cs (x : Pt) : List Value := parC x.r.frm x.r.til x.vp x.vq x.vt x.r.minus
theorem Pt.cs_len (x : Pt) : x.cs.length = 6 := rfl
theorem Pt.ok.bl {w w' : World} {x : Pt} (h : x.ok w) (g : Bl w w') : x.ok w' := ⟨h.1.bl g, h.2.1.bl g, h.2.2.bl g⟩
def pcs (l : List Pt) : List Value := l.flatMap Pt.cs
theorem pcs_cons (x : Pt) (l : List Pt) : pcs (x :: l) = x.cs ++ pcs l := by simp [pcs]
theorem pcs_append (l m : List Pt) : pcs (l ++ m) = pcs l ++ pcs m := by simp [pcs]
theorem pcs_length : ∀ l : List Pt, (pcs l).length = l.length * 6
  | [] => rfl
  | x :: l => by rw [pcs_cons, List.length_append, pcs_length l, Pt.cs_len, List.length_cons]; omega
theorem pcs_get : ∀ (l : List Pt) (i : Nat) (h : i < l.length) (k : Nat) (v : Value), l[i].cs[k]? = some v → (pcs l)[i * 6 + k]? = some v
  | [], i, h, _, _, _ => absurd h (by simp)
  | x :: l, 0, h, k, v, hv => by
    have hk : k < x.cs.length := (List.getElem?_eq_some_iff.1 hv).1
    rw [pcs_cons, Nat.zero_mul, Nat.zero_add, List.getElem?_append_left hk]
    exact hv
  | x :: l, i + 1, h, k, v, hv => by
    have hi : i < l.length := by simpa using h
    have := pcs_get l i hi k v hv
    rw [pcs_cons, List.getElem?_append_right (by rw [Pt.cs_len]; omega), Pt.cs_len, show (i + 1) * 6 + k - 6 = i * 6 + k by omega]
    exact this
/-- No word of 64 bits. -/
def NU (v : Value) : Prop := ∀ x, v ≠ .int .u64 x
theorem rw_nu {w : World} {v : Value} {l : List Nat} (h : Rw .u64 w v l) : NU v ∧ v.oneCell' = true := by
  obtain ⟨A, c, rfl, _⟩ := h
  exact ⟨fun x e => (by cases e), rfl⟩
theorem Pt.ok.nu {w : World} {x : Pt} (h : x.ok w) {u : Value} (hu : u ∈ x.cs) : NU u ∧ u.oneCell' = true := by
  have h1 := rw_nu h.1
  have h2 := rw_nu h.2.1
  have h3 := rw_nu h.2.2
  unfold Pt.cs parC at hu
  simp at hu
  rcases hu with rfl | rfl | rfl | rfl | rfl | rfl
  · exact ⟨fun x e => (by cases e), rfl⟩
  · exact ⟨fun x e => (by cases e), rfl⟩
  · exact h1
  · exact h2
  · exact h3
  · exact ⟨fun x e => (by cases e), rfl⟩
/-- A slice that reads as parts. -/
def PtW (w : World) (v : Value) (l : List Pt) : Prop :=
  ∃ A c, v = .slice A l.length c ∧ (0 < l.length → ∃ b o, A = some ⟨b, o, none⟩ ∧ b < w.heap.size ∧ ∀ i (h : i < l.length) k u, l[i].cs[k]? = some u → w.cell? ⟨b, o + i * 6 + k, none⟩ = some u) ∧ ∀ x ∈ l, x.ok w
theorem PtW.bl {w w' : World} {v : Value} {l : List Pt} (h : PtW w v l) (g : Bl w w') : PtW w' v l := by
  obtain ⟨A, c, hv, hx, ho⟩ := h
  refine ⟨A, c, hv, fun hl => ?_, fun x hm => (ho x hm).bl g⟩
  obtain ⟨b, o, ha, hb, hc⟩ := hx hl
  exact ⟨b, o, ha, Nat.lt_of_lt_of_le hb g.size, fun i hi k u hu => (g.cell (p := ⟨b, o + i * 6 + k, none⟩) hb).trans (hc i hi k u hu)⟩
/-- A row of parts of the call's own: its block holds no word. -/
def PtO (base : Nat) (w : World) (v : Value) (l : List Pt) : Prop :=
  w.ownsRow base 43 6 v l.length (pcs l) ∧ (∀ g cur, v.ownBlock = some g → w.heap[g]? = some (.cells cur 43 (0, 0)) → ∀ u ∈ cur.toList, NU u) ∧ ∀ x ∈ l, x.ok w
theorem PtO.nil (base : Nat) (w : World) : PtO base w (.slice none 0 0) [] := ⟨World.ownsRow_nil w base _ 6, fun g cur h => by simp [Value.ownBlock] at h, fun x h => by cases h⟩
theorem PtO.bl {base : Nat} {w w' : World} {v : Value} {l : List Pt} (h : PtO base w v l) (g : Bl w w') : PtO base w' v l := by
  refine ⟨World.ownsRow.kept h.1 (row := none) ⟨g.os, g.tape, g.output, Below.size g, fun i hi _ => g.block i hi⟩ (by cases hv : v.ownBlock <;> simp), fun b cur hb hc => ?_, fun x hm => (h.2.2 x hm).bl g⟩
  have hlt := (World.ownsRow.lt h.1 b hb).2
  exact h.2.1 b cur hb ((g.block b hlt).symm.trans hc)
theorem PtO.ptw {base : Nat} {w : World} {v : Value} {l : List Pt} (h : PtO base w v l) : PtW w v l := by
  obtain ⟨⟨h1, h2⟩, _, h3⟩ := h
  rcases h2 with ⟨rfl, h0⟩ | ⟨g, cap, cur, rfl, hb, hg, hc, hm, hs, ht⟩
  · have : l = [] := List.length_eq_zero_iff.1 h0
    subst this
    exact ⟨none, 0, rfl, fun h => absurd h (by simp), h3⟩
  · refine ⟨some ⟨g, 0, none⟩, cap, rfl, fun hl => ⟨g, 0, rfl, (Array.getElem?_eq_some_iff.1 hg).1, fun i hi k u hu => ?_⟩, h3⟩
    have hown : w.ownsRow base 43 6 (.slice (some ⟨g, 0, none⟩) l.length cap) l.length (pcs l) := ⟨h1, .inr ⟨g, cap, cur, rfl, hb, hg, hc, hm, hs, ht⟩⟩
    have hk : k < l[i].cs.length := (List.getElem?_eq_some_iff.1 hu).1
    rw [Pt.cs_len] at hk
    rw [Nat.zero_add]
    exact (hown.cellAt (i * 6 + k) (by omega)).trans (pcs_get l i hi k u hu)
theorem PtO.mono {base base' : Nat} {w : World} {v : Value} {l : List Pt} (h : PtO base w v l) (hb : base' ≤ base) : PtO base' w v l := by
  obtain ⟨⟨h1, h2⟩, h3, h4⟩ := h
  refine ⟨⟨h1, ?_⟩, h3, h4⟩
  rcases h2 with h2 | ⟨g, cap, cur, e, hg, rest⟩
  · exact .inl h2
  · exact .inr ⟨g, cap, cur, e, Nat.le_trans hb hg, rest⟩
theorem cell_bare {w : World} {p : Addr} {v : Value} (h : w.cell? p = some v) : w.cell? ⟨p.block, p.off, none⟩ = some v := by
  unfold World.cell? at h ⊢
  dsimp only
  split at h
  · split at h
    · cases h
    · exact h
  · cases h
/-- Words that lie in no block but such as stand are as they were. -/
theorem rw_apart {w w' : World} {v : Value} {l : List Nat} {og : Option Nat} (h : Rw .u64 w v l) (hs : w.heap.size ≤ w'.heap.size) (hk : ∀ b, b < w.heap.size → og ≠ some b → w'.heap[b]? = w.heap[b]?)
    (hn : ∀ b i x, og = some b → w.cell? ⟨b, i, none⟩ ≠ some (.int .u64 x)) : Rw .u64 w' v l := by
  obtain ⟨A, c, hv, h1, h2, h3, h4⟩ := h
  refine ⟨A, c, hv, h1, h2, h3, fun hl => ?_⟩
  obtain ⟨ad, ha, hb, hx⟩ := h4 hl
  refine ⟨ad, ha, Nat.lt_of_lt_of_le hb hs, fun i hi => ?_⟩
  have hne : og ≠ some ad.block := fun e => by
    have h0 := hx i hi
    have h5 := cell_bare h0
    rw [blk_add] at h5
    exact hn ad.block _ _ e h5
  exact (World.cell?_of_block (by rw [blk_add]; exact hk _ hb hne)).trans (hx i hi)
theorem infoPt : ∃ i z, Tryd.prog.info? 43 = some i ∧ i.zero = some z ∧ i.size = 6 ∧ i.bytes = 96 ∧ z.cells = #[.int .i64 0, .int .i64 0, .slice none 0 0, .slice none 0 0, .slice none 0 0, .bool false] := by
  have h : (Tryd.prog.info? 43).map (fun i => (i.zero, i.size, i.bytes)) = some (some (.agg #[.int .i64 0, .int .i64 0, .slice none 0 0, .slice none 0 0, .slice none 0 0, .bool false]), 6, 96) := by kernel_rfl
  cases hi : Tryd.prog.info? 43 with
  | none => rw [hi] at h; cases h
  | some i =>
    rw [hi] at h
    simp only [Option.map_some, Option.some.injEq, Prod.mk.injEq] at h
    exact ⟨i, _, rfl, h.1, h.2.1, h.2.2, rfl⟩
theorem zeros_nu {z : Array Value} (h : ∀ u ∈ z.toList, NU u) (hz : 0 < z.size) (n : Nat) : ∀ u ∈ (Builtin.zeroCells z n).toList, NU u := by
  intro u hu
  unfold Builtin.zeroCells at hu
  simp only [Array.toList_map, List.mem_map] at hu
  obtain ⟨i, _, rfl⟩ := hu
  have hlt : i % z.size < z.size := Nat.mod_lt _ hz
  rw [getElem!_pos z (i % z.size) hlt]
  exact h _ (by simp)
/-- A part appended to a row of the call's own: what the call answers. -/
theorem run_app_part (W w : World) (ty : TypeId) (v : Value) (l : List Pt) (x : Pt) (a : Addr) (c : Nat) (hown : PtO W.heap.size w v l) (hbl : Bl W w) (hx : x.ok w) (hl : l.length < 1000) (hnews : ∀ j u, x.cs[j]? = some u → w.cell? (a.add j) = some u) :
    ∃ v' w', (Builtin.append_ #[30, 30] ty #[v, .slice (some a) 1 c]).run Tryd.prog w = .ok v' w' ∧ PtO W.heap.size w' v' (l ++ [x]) ∧ Bl W w' ∧ ∀ b, b < w.heap.size → v.ownBlock ≠ some b → w'.heap[b]? = w.heap[b]? := by
  obtain ⟨i, z, hi, hz, hsize, hby, hzc⟩ := infoPt
  have hzs : z.cells.size = 6 := by rw [hzc]; rfl
  have hznu : ∀ u ∈ z.cells.toList, NU u := by
    intro u hu
    rw [hzc] at hu
    simp at hu
    rcases hu with rfl | rfl | rfl <;> exact fun y e => by cases e
  have hxn : ∀ u ∈ x.cs, NU u := fun u hu => (hx.nu hu).1
  obtain ⟨ho, hcl, hok⟩ := hown
  have ho' := ho
  obtain ⟨v', w', hr, k1, k2, _⟩ := run_append_own (P := Tryd.prog) w W.heap.size 30 ty 43 i z 6 96 Tryd.underlying30 hi hz hsize hby hzs (by decide) v l.length (pcs l) ho a 1 c x.cs (by rw [Pt.cs_len]) hnews (fun u hu => (hx.nu hu).2) (by unfold maxLen; omega) (by omega) hbl.size
  have hkeep : ∀ b, b < w.heap.size → v.ownBlock ≠ some b → w'.heap[b]? = w.heap[b]? := fun b hb hne => k2.block b hb (fun e => hne e.symm)
  have hcell : ∀ b j y, v.ownBlock = some b → w.cell? ⟨b, j, none⟩ ≠ some (.int .u64 y) := by
    intro b j y hb hc
    rcases ho'.2 with ⟨rfl, h0⟩ | ⟨g, cap, cur, rfl, hbg, hg, hnc, hcm, hcs, htake⟩
    · simp [Value.ownBlock] at hb
    · have : g = b := by simpa [Value.ownBlock] using hb
      subst this
      have hc' : cur[j]? = some (.int .u64 y) := by simpa [World.cell?, hg] using hc
      exact hcl g cur rfl hg _ (Array.mem_toList_iff.2 (Array.mem_of_getElem? hc')) y rfl
  refine ⟨v', w', hr, ⟨?_, ?_, ?_⟩, hbl.grown k2 (fun g hg => (World.ownsRow.lt ho g hg).1), hkeep⟩
  · have h1' : w'.ownsRow W.heap.size 43 6 v' (l.length + 1) (pcs l ++ x.cs) := k1
    show w'.ownsRow W.heap.size 43 6 v' (l ++ [x]).length (pcs (l ++ [x]))
    rw [pcs_append, List.length_append, show pcs [x] = x.cs by simp [pcs]]
    exact h1'
  · have hpn : ∀ u ∈ pcs l, NU u := by
      intro u hu
      obtain ⟨y, hy, hu⟩ := List.mem_flatMap.1 hu
      exact ((hok y hy).nu hu).1
    intro g cur hg hc
    rcases ho'.2 with ⟨rfl, h0⟩ | ⟨g0, cap, cur0, rfl, hbg, hg0, hnc, hcm, hcs, htake⟩
    · have hr2 := run_append_nil (P := Tryd.prog) w 30 ty 43 i z Tryd.underlying30 hi hz a 1 c x.cs (by rw [Pt.cs_len, hsize]) hnews (by decide) (by decide) (by rw [hby]; decide)
      rw [hr] at hr2
      injection hr2 with e1 e2
      subst e1; subst e2
      have : w.heap.size = g := by simpa [Value.ownBlock] using hg
      subst this
      have hc2 := heap_alloc_new w.drew (.cells (x.cs.toArray ++ Builtin.zeroCells z.cells (grownCap w 1 0 43 - 1)) 43)
      rw [show w.drew.heap.size = w.heap.size from rfl] at hc2
      rw [hc2] at hc
      simp only [Option.some.injEq, Obj.cells.injEq] at hc
      rw [← hc.1]
      intro u hu
      rw [Array.toList_append, List.mem_append] at hu
      rcases hu with hu | hu
      · exact hxn u (by simpa using hu)
      · exact zeros_nu hznu (by rw [hzs]; decide) _ u hu
    · by_cases hroom : l.length + 1 ≤ cap
      · have hfit : l.length * i.size + x.cs.length ≤ cur0.size := by rw [hsize, hcs, Pt.cs_len]; omega
        have hr2 := run_append_room (P := Tryd.prog) w 30 ty 43 i Tryd.underlying30 hi g0 l.length cap cur0 hg0 a 1 c x.cs (by rw [Pt.cs_len, hsize]) hnews (fun u hu => (hx.nu hu).2) hroom hfit
        rw [hr] at hr2
        injection hr2 with e1 e2
        subst e1; subst e2
        have : g0 = g := by simpa [Value.ownBlock] using hg
        subst this
        rw [setRow_heap w g0 cur0 _ 43 _ hg0] at hc
        simp only [Option.some.injEq, Obj.cells.injEq] at hc
        rw [← hc.1]
        intro u hu
        simp only [List.mem_append] at hu
        rcases hu with (hu | hu) | hu
        · exact hcl g0 cur0 rfl hg0 u (List.mem_of_mem_take hu)
        · exact hxn u hu
        · exact hcl g0 cur0 rfl hg0 u (List.mem_of_mem_drop hu)
      · have hlen6 : (pcs l).length = l.length * i.size := by rw [pcs_length, hsize]
        have hr2 := run_append_grow (P := Tryd.prog) w 30 ty 43 i z Tryd.underlying30 hi hz ⟨g0, 0, none⟩ l.length cap (pcs l) hlen6 (ho.cells (g := g0) rfl) a 1 c x.cs (by rw [Pt.cs_len, hsize]) hnews (by omega) (by omega) (growslice_fits (by omega) (by rw [hby]; omega))
        rw [hr] at hr2
        injection hr2 with e1 e2
        subst e1; subst e2
        have : w.heap.size = g := by simpa [Value.ownBlock] using hg
        subst this
        have hc2 := heap_alloc_new w.drew (.cells ((pcs l).toArray ++ x.cs.toArray ++ Builtin.zeroCells z.cells (grownCap w (l.length + 1) cap 43 - (l.length + 1))) 43)
        rw [show w.drew.heap.size = w.heap.size from rfl] at hc2
        rw [hc2] at hc
        simp only [Option.some.injEq, Obj.cells.injEq] at hc
        rw [← hc.1]
        intro u hu
        rw [Array.toList_append, Array.toList_append, List.mem_append, List.mem_append] at hu
        rcases hu with (hu | hu) | hu
        · exact hpn u (by simpa using hu)
        · exact hxn u (by simpa using hu)
        · exact zeros_nu hznu (by rw [hzs]; decide) _ u hu
  · have hap : ∀ y : Pt, y.ok w → y.ok w' := fun y hy => ⟨rw_apart hy.1 k2.size hkeep hcell, rw_apart hy.2.1 k2.size hkeep hcell, rw_apart hy.2.2 k2.size hkeep hcell⟩
    intro y hy
    rcases List.mem_append.1 hy with h | h
    · exact hap y (hok y h)
    · obtain rfl := List.mem_singleton.1 h
      exact hap y hx
end Go.Proofs.YtdaglbjdgdokpaaDoor
