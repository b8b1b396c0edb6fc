/-
  Rows of files in memory, each in three cells; rows of strings; what is appended to a row of the call's own; rows that are cut.
-/
import Derived.Test.YtdaglbjdgdokpaaDoorChecked
import Derived.Test.YtdaglbjdgdokpaaDoorDkM
import Derived.Test.YtdaglbjdgdokpaaDoorPk10
import Derived.Lib.AppendZeros
import Derived.Deep.RegionLaw
import Derived.Deep.AppendLies
namespace Go.Proofs.YtdaglbjdgdokpaaDoor
open Go.RowKit
set_option linter.unusedVariables false
set_option linter.unusedSimpArgs false

/-- A slice's places hold the files l. -/
def Fq (w : World) (A : Option Addr) (l : List Fl) : Prop := 0 < l.length → ∃ b o, A = some ⟨b, o, none⟩ ∧ b < w.heap.size ∧ ∀ i (h : i < l.length), w.cell? ⟨b, o + i * 3, none⟩ = some (.string l[i].n) ∧ w.cell? ⟨b, o + i * 3 + 1, none⟩ = some (.string l[i].d) ∧ w.cell? ⟨b, o + i * 3 + 2, none⟩ = some (.string l[i].s)
theorem Fq.bl {w w' : World} {A : Option Addr} {l : List Fl} (h : Fq w A l) (g : Bl w w') : Fq w' A l := by
  intro hl
  obtain ⟨b, o, ha, hb, hx⟩ := h hl
  exact ⟨b, o, ha, Nat.lt_of_lt_of_le hb g.size, fun i hi => ⟨(g.cell hb).trans (hx i hi).1, (g.cell hb).trans (hx i hi).2.1, (g.cell hb).trans (hx i hi).2.2⟩⟩
theorem Fq.at_ {w : World} {A : Option Addr} {l : List Fl} {i : Nat} (h : Fq w A l) (hi : i < l.length) : ∃ b o, A = some ⟨b, o, none⟩ ∧ w.cell? ⟨b, o + i * 3, none⟩ = some (.string l[i].n) ∧ w.cell? ⟨b, o + i * 3 + 1, none⟩ = some (.string l[i].d) ∧ w.cell? ⟨b, o + i * 3 + 2, none⟩ = some (.string l[i].s) := by
  obtain ⟨b, o, ha, hb, hx⟩ := h (by omega)
  exact ⟨b, o, ha, hx i hi⟩
/-- A slice that reads as the files l. -/
def Fw (w : World) (v : Value) (l : List Fl) : Prop := ∃ A c, v = .slice A l.length c ∧ l.length ≤ c ∧ c ≤ maxLen ∧ (A = none → c = 0) ∧ Fq w A l
theorem Fw.bl {w w' : World} {v : Value} {l : List Fl} (h : Fw w v l) (g : Bl w w') : Fw w' v l := by
  obtain ⟨A, c, hv, h1, h2, h3, h4⟩ := h
  exact ⟨A, c, hv, h1, h2, h3, h4.bl g⟩
theorem Fw.nil (w : World) : Fw w (.slice none 0 0) [] := ⟨none, 0, rfl, Nat.le_refl _, by decide, fun _ => rfl, fun h => absurd h (by simp)⟩
theorem fw_open {w : World} {v : Value} {l : List Fl} {n : Nat} (h : Fw w v l) (hn : l.length = n) : ∃ A c, v = .slice A n c ∧ n ≤ c ∧ c ≤ maxLen ∧ (A = none → c = 0) ∧ Fq w A l := by
  obtain ⟨A, c, hv, h1, h2, h3, h4⟩ := h
  exact ⟨A, c, by rw [hv, hn], by omega, h2, h3, h4⟩
theorem fw_shape {w : World} {v : Value} {l : List Fl} (h : Fw w v l) : ∃ A c, v = .slice A l.length c := by
  obtain ⟨A, c, hv, _⟩ := h
  exact ⟨A, c, hv⟩
theorem fw_len {w : World} {v : Value} {l : List Fl} (h : Fw w v l) : l.length ≤ 9223372036854775807 := by
  obtain ⟨A, c, hv, h1, h2, _⟩ := h
  unfold maxLen at h2
  omega
theorem fw_cut_to {w : World} {A : Option Addr} {n c : Nat} {l : List Fl} (h : Fw w (.slice A n c) l) (i : Nat) (hi : i ≤ n) : Fw w (sliced A 0 i c 3) (l.take i) := by
  obtain ⟨A', c', hv, h1, h2, h3, h4⟩ := h
  simp only [Value.slice.injEq] at hv
  obtain ⟨rfl, rfl, rfl⟩ := hv
  have hl : (l.take i).length = i := by rw [List.length_take]; omega
  have e : (if c = 0 then A else A.map (·.add (0 * 3))) = A := by
    split
    · rfl
    · cases A <;> simp [Addr.add]
  refine ⟨A, c, ?_, by omega, h2, h3, fun h0 => ?_⟩
  · show Value.slice (if c = 0 then A else A.map (·.add (0 * 3))) (i - 0) (c - 0) = _
    rw [e, hl, Nat.sub_zero, Nat.sub_zero]
  · obtain ⟨b, o, ha, hb, hx⟩ := h4 (by omega)
    refine ⟨b, o, ha, hb, fun j hj => ?_⟩
    rw [List.getElem_take]
    exact hx j (by omega)
theorem fw_cut_from {w : World} {A : Option Addr} {n c : Nat} {l : List Fl} (h : Fw w (.slice A n c) l) (i : Nat) (hi : i ≤ n) : Fw w (sliced A i n c 3) (l.drop i) := by
  obtain ⟨A', c', hv, h1, h2, h3, h4⟩ := h
  simp only [Value.slice.injEq] at hv
  obtain ⟨rfl, rfl, rfl⟩ := hv
  have hl : (l.drop i).length = l.length - i := List.length_drop
  refine ⟨if c = i then A else A.map (·.add (i * 3)), c - i, ?_, by omega, by omega, ?_, fun h0 => ?_⟩
  · rw [hl]
    rfl
  · intro h0
    split at h0
    · omega
    · cases A with
      | none => have := h3 rfl; omega
      | some a => simp at h0
  · obtain ⟨b, o, ha, hb, hx⟩ := h4 (by omega)
    refine ⟨b, o + i * 3, ?_, hb, fun j hj => ?_⟩
    · rw [if_neg (by omega), ha]
      simp only [Option.map_some]
      rw [add_none]
    · rw [List.getElem_drop, show o + i * 3 + j * 3 = o + (i + j) * 3 by omega]
      exact hx (i + j) (by omega)
set_option maxRecDepth 100000 in
theorem fw_to {w : World} {v : Value} {l : List Fl} (h : Fw w v l) (i : Nat) (hi : i ≤ l.length) : ∃ u, Fw w u (l.take i) ∧ ∀ W, (Instr.slice 22 v none (some (.int .i64 (i : Int))) none).run Tryd.prog W = .ok u W := by
  have h' := h
  obtain ⟨A, c, rfl, h1, h2, _⟩ := h'
  refine ⟨_, fw_cut_to h i hi, fun W => ?_⟩
  have z := Tryd.sizeOf39
  rw [run_slice_h W 22 A l.length c Tryd.underlying22 .i64 (i : Int) (by omega) (by omega)]
  go_simp
set_option maxRecDepth 100000 in
theorem fw_from {w : World} {v : Value} {l : List Fl} (h : Fw w v l) (i : Nat) (hi : i ≤ l.length) : ∃ u, Fw w u (l.drop i) ∧ ∀ W, (Instr.slice 22 v (some (.int .i64 (i : Int))) none none).run Tryd.prog W = .ok u W := by
  have h' := h
  obtain ⟨A, c, rfl, h1, h2, _⟩ := h'
  refine ⟨_, fw_cut_from h i hi, fun W => ?_⟩
  have z := Tryd.sizeOf39
  rw [run_slice_l W 22 A l.length c Tryd.underlying22 .i64 (i : Int) (by omega) (by omega)]
  go_simp

/-! ### Rows of the call's own -/
def fcs (l : List Fl) : List Value := l.flatMap fun f => [.string f.n, .string f.d, .string f.s]
theorem fcs_cons (f : Fl) (l : List Fl) : fcs (f :: l) = .string f.n :: .string f.d :: .string f.s :: fcs l := by simp [fcs]
theorem fcs_append (l m : List Fl) : fcs (l ++ m) = fcs l ++ fcs m := by simp [fcs]
theorem fcs_length : ∀ l : List Fl, (fcs l).length = l.length * 3
  | [] => rfl
  | p :: l => by rw [fcs_cons, List.length_cons, List.length_cons, List.length_cons, fcs_length l, List.length_cons]; omega
theorem fcs_get : ∀ (l : List Fl) (i : Nat) (h : i < l.length), (fcs l)[i * 3]? = some (.string l[i].n) ∧ (fcs l)[i * 3 + 1]? = some (.string l[i].d) ∧ (fcs l)[i * 3 + 2]? = some (.string l[i].s)
  | [], i, h => absurd h (by simp)
  | p :: l, 0, h => by rw [fcs_cons]; exact ⟨rfl, rfl, rfl⟩
  | p :: l, i + 1, h => by
    have hi : i < l.length := by simpa using h
    have := fcs_get l i hi
    rw [fcs_cons, show (i + 1) * 3 = i * 3 + 1 + 1 + 1 by omega]
    exact this
theorem fcs_one {l : List Fl} {v : Value} (h : v ∈ fcs l) : v.oneCell' = true := by
  obtain ⟨f, _, hf⟩ := List.mem_flatMap.1 h
  simp at hf
  rcases hf with rfl | rfl | rfl <;> rfl
theorem Fq.cells {w : World} {b o : Nat} {l : List Fl} (h : Fq w (some ⟨b, o, none⟩) l) (j : Nat) (v : Value) (hj : (fcs l)[j]? = some v) : w.cell? ((⟨b, o, none⟩ : Addr).add j) = some v := by
  have hl : j < (fcs l).length := (List.getElem?_eq_some_iff.1 hj).1
  rw [fcs_length] at hl
  obtain ⟨b', o', e, hb, hx⟩ := h (by omega)
  simp only [Option.some.injEq, Addr.mk.injEq, and_true] at e
  obtain ⟨rfl, rfl⟩ := e
  rw [add_none]
  have hi : j / 3 < l.length := by omega
  have hc := hx (j / 3) hi
  have hg := fcs_get l (j / 3) hi
  have h3 : j % 3 = 0 ∨ j % 3 = 1 ∨ j % 3 = 2 := by omega
  rcases h3 with h0 | h0 | h0
  · rw [show j = j / 3 * 3 by omega] at hj ⊢
    rw [hg.1] at hj
    rw [← hj]
    exact hc.1
  · rw [show j = j / 3 * 3 + 1 by omega] at hj ⊢
    rw [hg.2.1] at hj
    rw [← hj]
    exact hc.2.1
  · rw [show j = j / 3 * 3 + 2 by omega] at hj ⊢
    rw [hg.2.2] at hj
    rw [← hj]
    exact hc.2.2
/-- The value v owns a row that reads as l. -/
def Of (base : Nat) (w : World) (v : Value) (l : List Fl) : Prop := w.ownsRow base 39 3 v l.length (fcs l)
theorem Of.nil (base : Nat) (w : World) : Of base w (.slice none 0 0) [] := World.ownsRow_nil w base _ 3
theorem Of.fw {base : Nat} {w : World} {v : Value} {l : List Fl} (h : Of base w v l) : Fw w v l := by
  obtain ⟨h1, h2⟩ := h
  rcases h2 with ⟨rfl, h0⟩ | ⟨g, cap, cur, rfl, hb, hg, hc, hm, hs, ht⟩
  · have : l = [] := List.length_eq_zero_iff.1 h0
    subst this
    exact Fw.nil w
  · refine ⟨some ⟨g, 0, none⟩, cap, rfl, hc, hm, (fun h => by cases h), fun hl => ⟨g, 0, rfl, (Array.getElem?_eq_some_iff.1 hg).1, fun i hi => ?_⟩⟩
    have hown : w.ownsRow base 39 3 (.slice (some ⟨g, 0, none⟩) l.length cap) l.length (fcs l) := ⟨h1, .inr ⟨g, cap, cur, rfl, hb, hg, hc, hm, hs, ht⟩⟩
    have := fcs_get l i hi
    rw [Nat.zero_add]
    exact ⟨(hown.cellAt (i * 3) (by omega)).trans this.1, (hown.cellAt (i * 3 + 1) (by omega)).trans this.2.1, (hown.cellAt (i * 3 + 2) (by omega)).trans this.2.2⟩
theorem Of.alloc {base : Nat} {w : World} {v : Value} {l : List Fl} (h : Of base w v l) (o : Obj) : Of base (w.alloc o) v l := World.ownsRow.alloc h o
theorem Of.bl {base : Nat} {w w' : World} {v : Value} {l : List Fl} (h : Of base w v l) (g : Bl w w') : Of base w' v l :=
  World.ownsRow.kept h (row := none) ⟨g.os, g.tape, g.output, Below.size g, fun i hi _ => g.block i hi⟩ (by cases hv : v.ownBlock <;> simp)
theorem Of.mono {base base' : Nat} {w : World} {v : Value} {l : List Fl} (h : Of base w v l) (hb : base' ≤ base) : Of base' w v l := by
  obtain ⟨h1, h2⟩ := h
  refine ⟨h1, ?_⟩
  rcases h2 with h2 | ⟨g, cap, cur, e, hg, rest⟩
  · exact .inl h2
  · exact .inr ⟨g, cap, cur, e, Nat.le_trans hb hg, rest⟩
/-- A row of the call's own is an empty one, or a block. -/
theorem Of.open_ {base : Nat} {w : World} {v : Value} {l : List Fl} (h : Of base w v l) : (v = .slice none 0 0 ∧ l = []) ∨ ∃ g c, v = .slice (some ⟨g, 0, none⟩) l.length c ∧ base ≤ g ∧ g < w.heap.size ∧ l.length ≤ c ∧ c ≤ maxLen ∧ ∀ i, w.frozen? ⟨g, i, none⟩ = false := by
  obtain ⟨h1, h2⟩ := h
  rcases h2 with ⟨rfl, h0⟩ | ⟨g, cap, cur, rfl, hb, hg, hc, hm, hs, ht⟩
  · exact .inl ⟨rfl, List.length_eq_zero_iff.1 h0⟩
  · exact .inr ⟨g, cap, rfl, hb, (Array.getElem?_eq_some_iff.1 hg).1, hc, hm, fun i => by simp [World.frozen?, hg]⟩
/-- One file is written. -/
theorem Of.set {base : Nat} {w : World} {l : List Fl} {g n c : Nat} (h : Of base w (.slice (some ⟨g, 0, none⟩) n c) l) (i : Nat) (hi : i < l.length) (f : Fl) :
    Of base (((w.setCell ⟨g, i * 3, none⟩ (.string f.n)).setCell ⟨g, i * 3 + 1, none⟩ (.string f.d)).setCell ⟨g, i * 3 + 2, none⟩ (.string f.s)) (.slice (some ⟨g, 0, none⟩) n c) (l.set i f) := by
  obtain ⟨h1, h2⟩ := h
  rcases h2 with ⟨e, h0⟩ | ⟨g', cap, cur, e, hb, hg, hc, hm, hs, ht⟩
  · cases e
  · simp only [Value.slice.injEq, Option.some.injEq, Addr.mk.injEq, and_true] at e
    obtain ⟨rfl, rfl, rfl⟩ := e
    have hset : ∀ (W : World) (cu : Array Value) (k : Nat) (v : Value), W.heap[g]? = some (.cells cu 39 (0, 0)) → (W.setCell ⟨g, k, none⟩ v).heap[g]? = some (.cells (cu.setIfInBounds k v) 39 (0, 0)) := by
      intro W cu k v hW
      have hlt : g < W.heap.size := (Array.getElem?_eq_some_iff.1 hW).1
      have h' : W.heap[g] = .cells cu 39 (0, 0) := by simpa [Array.getElem?_eq_getElem hlt] using hW
      show (W.heap.modify g _)[g]? = _
      rw [Array.getElem?_eq_getElem (by simpa using hlt), Array.getElem_modify_self, h']
      simp
    have k1 := hset w cur (i * 3) (.string f.n) hg
    have k2 := hset _ _ (i * 3 + 1) (.string f.d) k1
    have k3 := hset _ _ (i * 3 + 2) (.string f.s) k2
    refine ⟨by rw [fcs_length, List.length_set], .inr ⟨g, c, _, by rw [List.length_set], hb, k3, by rw [List.length_set]; exact hc, hm, by simpa using hs, ?_⟩⟩
    rw [List.length_set]
    refine List.ext_getElem? fun j => ?_
    have htj : ∀ j : Nat, j < l.length * 3 → cur.toList[j]? = (fcs l)[j]? := fun j hj => by rw [← ht, List.getElem?_take, if_pos hj]
    by_cases hj : j < l.length * 3
    · rw [List.getElem?_take, if_pos hj]
      simp only [Array.toList_setIfInBounds, List.getElem?_set, Array.length_toList, List.length_set]
      have hcs : j < cur.size := by omega
      have hsz : i * 3 + 2 < cur.size := by omega
      have hi3 : j / 3 < (l.set i f).length := by rw [List.length_set]; omega
      have hgs := fcs_get (l.set i f) (j / 3) hi3
      have hgl := fcs_get l (j / 3) (by omega)
      rw [List.getElem_set] at hgs
      have h3 : j % 3 = 0 ∨ j % 3 = 1 ∨ j % 3 = 2 := by omega
      rw [htj j hj]
      by_cases hij : i = j / 3
      · subst hij
        simp only [if_true] at hgs
        rcases h3 with h0 | h0 | h0
        · have ej : j = j / 3 * 3 := by omega
          rw [if_neg (by omega), if_neg (by omega), if_pos (by omega), if_pos (by omega)]
          rw [← ej] at hgs
          exact hgs.1.symm
        · have ej : j = j / 3 * 3 + 1 := by omega
          rw [if_neg (by omega), if_pos (by omega), if_pos (by omega)]
          have := hgs.2.1
          rw [← ej] at this
          exact this.symm
        · have ej : j = j / 3 * 3 + 2 := by omega
          rw [if_pos (by omega), if_pos (by omega)]
          have := hgs.2.2
          rw [← ej] at this
          exact this.symm
      · simp only [if_neg hij] at hgs
        rw [if_neg (by omega), if_neg (by omega), if_neg (by omega)]
        rcases h3 with h0 | h0 | h0
        · have ej : j = j / 3 * 3 := by omega
          rw [ej, hgs.1, hgl.1]
        · have ej : j = j / 3 * 3 + 1 := by omega
          rw [ej, hgs.2.1, hgl.2.1]
        · have ej : j = j / 3 * 3 + 2 := by omega
          rw [ej, hgs.2.2, hgl.2.2]
    · rw [List.getElem?_eq_none (by rw [List.length_take]; omega), List.getElem?_eq_none (by rw [fcs_length, List.length_set]; omega)]
theorem infoF : ∃ i z, Tryd.prog.info? 39 = some i ∧ i.zero = some z ∧ i.size = 3 ∧ i.bytes = 48 ∧ z.cells.size = 3 := by
  have h : (Tryd.prog.info? 39).map (fun i => (i.zero, i.size, i.bytes)) = some (some (.agg #[.string ⟨#[]⟩, .string ⟨#[]⟩, .string ⟨#[]⟩]), 3, 48) := by kernel_rfl
  cases hi : Tryd.prog.info? 39 with
  | none => rw [hi] at h; cases h
  | some i =>
    rw [hi] at h
    simp only [Option.map_some, Option.some.injEq, Prod.mk.injEq] at h
    exact ⟨i, _, rfl, h.1, h.2.1, h.2.2, rfl⟩
/-- The files of a slice appended. -/
theorem app_files {ops : Array Oper} {rest : List Oper} {o : Oper} {a : Act} {Q : Exit → Act → World → Prop} (W w : World)
    (hgd : o.guard = none) (s x : Operand) (ho : o.op = .call { callee := .builtin .append, args := #[s, x], argTypes := #[22, 22] })
    (v u : Value) (l m : List Fl) (hs : a.eval s = v) (hx : a.eval x = u) (hown : Of W.heap.size w v l) (hu : Fw w u m) (hbl : Bl W w) (hl : l.length + m.length < 1048576)
    (h : ∀ v' w', Hid (Of W.heap.size w' v' (l ++ m)) → Hid (Bl W w') → wpList Tryd.prog ops Q rest (a.put o.dst v') w') : wpList Tryd.prog ops Q (o :: rest) a w := by
  obtain ⟨i, z, hi, hz, hsize, hby, hzs⟩ := infoF
  obtain ⟨A, c, rfl, h1, h2, h3, h4⟩ := hu
  rcases Nat.eq_zero_or_pos m.length with hm | hm
  · have em : m = [] := List.length_eq_zero_iff.1 hm
    subst em
    have hh := h v
    rw [List.append_nil] at hh
    cases A with
    | none =>
      have hc0 := h3 rfl
      subst hc0
      exact wpList_append_own_none hgd s x 22 ho W.heap.size 39 i 3 Tryd.underlying22 hi v l.length (fcs l) hs hown hx (hh w hown hbl)
    | some ad =>
      refine wpList_append_own _ hgd s x 22 ho W.heap.size 39 i z 3 48 Tryd.underlying22 hi hz hsize hby hzs (by decide) v l.length (fcs l) hs hown ad 0 c [] hx rfl (fun j u hj => by simp at hj) (fun u hu => by simp at hu) (by unfold maxLen; simp at hl; omega) (by simp at hl; omega) hbl.size ?_
      intro v' w' k1 k2 _
      have hh := h v' w'
      rw [List.append_nil] at hh
      refine hh ?_ (hbl.grown k2 (fun g hg => (World.ownsRow.lt hown g hg).1))
      have k1' : w'.ownsRow W.heap.size 39 3 v' (l.length + 0) (fcs l ++ []) := k1
      rw [List.append_nil, Nat.add_zero] at k1'
      exact k1'
  · obtain ⟨b, o', rfl, hb, hc⟩ := h4 hm
    refine wpList_append_own _ hgd s x 22 ho W.heap.size 39 i z 3 48 Tryd.underlying22 hi hz hsize hby hzs (by decide) v l.length (fcs l) hs hown ⟨b, o', none⟩ m.length c (fcs m) hx (by rw [fcs_length]) (fun j y hj => h4.cells j y hj) (fun y hy => fcs_one hy) (by unfold maxLen; omega) (by omega) hbl.size ?_
    intro v' w' k1 k2 _
    refine h v' w' ?_ ?_
    · have h1' : w'.ownsRow W.heap.size 39 3 v' (l.length + m.length) (fcs l ++ fcs m) := k1
      show w'.ownsRow W.heap.size 39 3 v' (l ++ m).length (fcs (l ++ m))
      rw [fcs_append, List.length_append]
      exact h1'
    · exact hbl.grown k2 (fun g hg => (World.ownsRow.lt hown g hg).1)
end Go.Proofs.YtdaglbjdgdokpaaDoor
