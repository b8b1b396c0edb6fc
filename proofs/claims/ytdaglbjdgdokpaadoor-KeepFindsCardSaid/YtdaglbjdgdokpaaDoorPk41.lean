/-
  Rows of strings; the document's Strings of layer 15; strings.HasPrefix. · Package disk: the names of files as an iterator: its contract.
-/
import Derived.Test.YtdaglbjdgdokpaaDoorPk12
import Derived.Laws.Strings2
import Derived.RangeFuncNested
import Derived.RangeFuncBound
import Derived.RangeFuncCalls
import Derived.RangeFuncLeaves
import Derived.RangeFuncBox
import Derived.Shelf.Abstract
import Derived.Shelf.RegionOpen
import Derived.WalkKit
import Derived.OwnWalkIn
import Derived.TacticsInMore
import Derived.LoopNIn
import Derived.LoopIn
namespace Go.Proofs.YtdaglbjdgdokpaaDoor
open Go.RowKit
set_option linter.unusedVariables false
set_option linter.unusedSimpArgs false

/-- A slice's places hold the strings l. -/
def Sq (w : World) (A : Option Addr) (l : List ByteArray) : Prop := 0 < l.length → ∃ b o, A = some ⟨b, o, none⟩ ∧ b < w.heap.size ∧ ∀ i (h : i < l.length), w.cell? ⟨b, o + i, none⟩ = some (.string l[i])
theorem Sq.bl {w w' : World} {A : Option Addr} {l : List ByteArray} (h : Sq w A l) (g : Bl w w') : Sq w' A l := by
  intro hl
  obtain ⟨b, o, ha, hb, hx⟩ := h hl
  exact ⟨b, o, ha, Nat.lt_of_lt_of_le hb g.size, fun i hi => (g.cell hb).trans (hx i hi)⟩
theorem Sq.at_ {w : World} {A : Option Addr} {l : List ByteArray} {i : Nat} (h : Sq w A l) (hi : i < l.length) : ∃ b o, A = some ⟨b, o, none⟩ ∧ w.cell? ⟨b, o + i, none⟩ = some (.string l[i]) := by
  obtain ⟨b, o, ha, hb, hx⟩ := h (by omega)
  exact ⟨b, o, ha, hx i hi⟩
def Sw (w : World) (v : Value) (l : List ByteArray) : Prop := ∃ A c, v = .slice A l.length c ∧ l.length ≤ c ∧ c ≤ maxLen ∧ (A = none → c = 0) ∧ Sq w A l
theorem Sw.bl {w w' : World} {v : Value} {l : List ByteArray} (h : Sw w v l) (g : Bl w w') : Sw w' v l := by
  obtain ⟨A, c, hv, h1, h2, h3, h4⟩ := h
  exact ⟨A, c, hv, h1, h2, h3, h4.bl g⟩
theorem sw_shape {w : World} {v : Value} {l : List ByteArray} (h : Sw w v l) : ∃ A c, v = .slice A l.length c := by
  obtain ⟨A, c, hv, _⟩ := h
  exact ⟨A, c, hv⟩
theorem sw_len {w : World} {v : Value} {l : List ByteArray} (h : Sw w v l) : l.length ≤ 9223372036854775807 := by
  obtain ⟨A, c, hv, h1, h2, _⟩ := h
  unfold maxLen at h2
  omega
/-- A row of the call's own. -/
def Os (base : Nat) (w : World) (v : Value) (l : List ByteArray) : Prop := w.ownsRow base 9 1 v l.length (l.map Value.string)
theorem Os.nil (base : Nat) (w : World) : Os base w (.slice none 0 0) [] := World.ownsRow_nil w base _ 1
theorem Os.sw {base : Nat} {w : World} {v : Value} {l : List ByteArray} (h : Os base w v l) : Sw w v l := by
  obtain ⟨h1, h2⟩ := h
  rcases h2 with ⟨rfl, h0⟩ | ⟨g, cap, cur, rfl, hb, hg, hc, hm, hs, ht⟩
  · have : l = [] := List.length_eq_zero_iff.1 h0
    subst this
    exact ⟨none, 0, rfl, Nat.le_refl _, by decide, fun _ => rfl, fun h => absurd h (by simp)⟩
  · refine ⟨some ⟨g, 0, none⟩, cap, rfl, hc, hm, (fun h => by cases h), fun hl => ⟨g, 0, rfl, (Array.getElem?_eq_some_iff.1 hg).1, fun i hi => ?_⟩⟩
    have hown : w.ownsRow base 9 1 (.slice (some ⟨g, 0, none⟩) l.length cap) l.length (l.map Value.string) := ⟨h1, .inr ⟨g, cap, cur, rfl, hb, hg, hc, hm, hs, ht⟩⟩
    rw [Nat.zero_add, hown.cellAt i (by omega)]
    simp [hi]
theorem Os.bl {base : Nat} {w w' : World} {v : Value} {l : List ByteArray} (h : Os base w v l) (g : Bl w w') : Os base w' v l :=
  World.ownsRow.kept h (row := none) ⟨g.os, g.tape, g.output, Below.size g, fun i hi _ => g.block i hi⟩ (by cases hv : v.ownBlock <;> simp)
theorem takeS_step {l m : List ByteArray} {i : Nat} (h : l.take i = m.take i) (hl : i < l.length) (hm : i < m.length) (e : sEq l[i] m[i] = true) : l.take (i + 1) = m.take (i + 1) := by
  rw [List.take_add_one, List.take_add_one, h, List.getElem?_eq_getElem hl, List.getElem?_eq_getElem hm, sEq_iff.1 e]
noncomputable def ssEq (l m : List ByteArray) : Bool := @decide (l = m) (Classical.propDecidable _)
theorem ssEq_iff {l m : List ByteArray} : ssEq l m = true ↔ l = m := by unfold ssEq; exact @decide_eq_true_iff _ (Classical.propDecidable _)
theorem ssEq_not {l m : List ByteArray} : ssEq l m = false ↔ l ≠ m := by rw [← Bool.not_eq_true, Ne, ssEq_iff]
theorem takeS_ne {l m : List ByteArray} {i : Nat} (hl : i < l.length) (hm : i < m.length) (e : sEq l[i] m[i] = false) : ssEq l m = false := by
  rw [ssEq_not]
  rintro rfl
  rw [sEq_self] at e
  cases e
theorem takeS_end {l m : List ByteArray} {i n : Nat} (hl : l.length = n) (hm : m.length = n) (h : l.take i = m.take i) (hi : i = n) : ssEq l m = true := by
  subst hi
  rw [ssEq_iff]
  have h1 := List.take_of_length_le (Nat.le_of_eq hl)
  have h2 := List.take_of_length_le (Nat.le_of_eq hm)
  rw [h1, h2] at h
  exact h
set_option maxRecDepth 100000 in
/-- Every string begins with the empty one. -/
theorem phas_none (s : ByteArray) (hs : s.size ≤ 140737488355328) (w : World) : Calls Tryd.prog 22 #[.string s, .string ⟨#[]⟩] w fun e w' => e = .returned (.bool true) ∧ w = w' := by
  have K : Calls Tryd.prog 30 #[.string s, .string ⟨#[]⟩] w fun e w' => e = .returned (.bool true) ∧ w = w' := by
    have hnb : (s.size : Int) ≤ 140737488355328 := by omega
    have e0 : s.extract 0 0 = ⟨#[]⟩ := by
      obtain ⟨⟨s⟩⟩ := s
      rw [ByteArray.extract_mk]
      simp
    have e1 : (⟨#[]⟩ : ByteArray).size = 0 := rfl
    go_enter Tryd.func30, Tryd.ntmps30
    go_wp2
    go_ret
    exact ⟨by simp, rfl⟩
  have HK := Lib.hid K
  clear K
  go_enter Tryd.func22, Tryd.ntmps22
  go_wp2_with (go_at_call 30; (with_reducible refine HK.out.mono ?_); rintro e w' ⟨rfl, rfl⟩)
  go_ret
  exact ⟨rfl, rfl⟩
end Go.Proofs.YtdaglbjdgdokpaaDoor
namespace Go.Proofs.YtdaglbjdgdokpaaDoor
open Go.RowKit Go.Shelf
set_option linter.unusedVariables false
set_option linter.unusedSimpArgs false
attribute [local go_sem] Oper.semAt_some

/-- A name of bounded size. -/
abbrev Nam := { s : ByteArray // s.size ≤ 140737488355328 }
def toNm (s : ByteArray) : Nam := if h : s.size ≤ 140737488355328 then ⟨s, h⟩ else ⟨⟨#[]⟩, by decide⟩
theorem toNm_val {s : ByteArray} (h : s.size ≤ 140737488355328) : (toNm s).1 = s := by unfold toNm; rw [dif_pos h]
def nms (l : List Fl) : List Nam := l.map fun f => toNm f.n
theorem nms_len (l : List Fl) : (nms l).length = l.length := by simp [nms]
theorem nms_get (l : List Fl) (k : Nat) (h : k < l.length) : (nms l)[k]'(by rw [nms_len]; exact h) = toNm l[k].n := by simp [nms]
theorem nms_take {l : List Fl} {k : Nat} (h : k < l.length) : (nms l).take k ++ [toNm l[k].n] = (nms l).take (k + 1) := by
  rw [List.take_add_one, List.getElem?_eq_getElem (by rw [nms_len]; exact h), nms_get l k h]
  rfl
theorem nms_vals {l : List Fl} (h : Szs l) : (nms l).map (·.1) = l.map Fl.n := by
  refine List.ext_getElem (by simp [nms]) fun i h1 h2 => ?_
  have hi : i < l.length := by simpa using h2
  rw [List.getElem_map, List.getElem_map, nms_get l i hi]
  exact toNm_val (h _ (List.getElem_mem hi)).1
theorem pnames_any (A : Option Addr) (L c : Nat) (w : World) :
    Calls Tryd.prog 21 #[.slice A L c] w fun e w' => e = .returned (.func (.func 29) #[] #[.pointer (some ⟨w.heap.size, 0, none⟩)]) ∧ w' = w.alloc (.cells #[.slice A L c] 22) := by
  go_enter Tryd.func21, Tryd.ntmps21
  go_wp2
  go_ret
  exact ⟨rfl, rfl⟩

set_option maxRecDepth 100000 in
set_option maxHeartbeats 2000000 in
theorem names1_in (F : Fence) (d : Nat) (hf : F.fn 29) (hro : F.round = none) (hd : 1 ≤ d) (y Bn n₀ c : Nat) (A : Option Addr) (l : List Fl) (hl : l.length ≤ 1000) (hz : Szs l) (J Jx : List Nam → World → Prop)
    (hY : ∀ pre (x : Nam) W, J pre W → pre.length < l.length → YieldAt F (d - 1) Tryd.prog y #[.string x.1] W fun e W' =>
      (e = .returned (.bool true) ∧ J (pre ++ [x]) W' ∧ Below n₀ W W') ∨ (e = .returned (.bool false) ∧ Jx (pre ++ [x]) W'))
    (W : World) (hn : n₀ ≤ W.heap.size) (hJ : AbidesFrom W.heap.size J) (hBn : W.cell? ⟨Bn, 0, none⟩ = some (.slice A l.length c))
    (hc : ∀ i (h : i < l.length), ∃ b o, A = some ⟨b, o, none⟩ ∧ b < n₀ ∧ W.cell? ⟨b, o + i * 3, none⟩ = some (.string l[i].n) ∧ W.cell? ⟨b, o + i * 3 + 1, none⟩ = some (.string l[i].d) ∧ W.cell? ⟨b, o + i * 3 + 2, none⟩ = some (.string l[i].s)) (h0 : J [] W) :
    CallsIn F d Tryd.prog 29 #[.func (.yield y) #[] #[], .pointer (some ⟨Bn, 0, none⟩)] W fun e W' => (∃ v, e = .returned v) ∧
      ((∃ ys, ys = nms l ∧ J ys W') ∨ (∃ pre, True ∧ Jx pre W')) := by
  refine callsIn_of_wp Tryd.func29 rfl hf ?_ hro
  simp only [Tryd.ntmps29, List.size_toArray, List.length_cons, List.length_nil, Nat.reduceAdd, Nat.reduceSub, Array.replicate_succ, Array.replicate_zero, List.push_toArray, List.append_toArray, List.nil_append, List.cons_append]
  obtain ⟨N, hN⟩ : ∃ N, l.length = N := ⟨_, rfl⟩
  have HL := Lib.hid hN
  have HC := Lib.hid hc
  have HY := Lib.hid hY
  have HZ := Lib.hid hz
  have HJ := Lib.hid hJ
  have HN0 := Lib.hid hn
  rw [hN] at hBn hl
  have hNb : (N : Int) ≤ 1000 := by omega
  have a24 := Tryd.isAgg39
  have z24 := Tryd.sizeOf39
  clear hN hc hY hz hJ hn hl
  gi_wp2
  gi_loopw [7] (fun i wr => ∃ k : Nat, k ≤ N ∧ i = .int .i64 (k : Int) ∧ J ((nms l).take k) wr ∧ Hid (Below n₀ W wr) ∧ Hid (W.heap.size ≤ wr.heap.size)) (fun i _ => N - (intOf i).toNat)
  case atStart => exact ⟨0, Nat.zero_le _, rfl, h0, Below.refl _ _, Nat.le_refl _⟩
  case round =>
    obtain ⟨k, hk, rfl, hJs, hb, hsz⟩ := hrel
    by_cases hlt : k < N
    · have hkl : k < l.length := by rw [HL.out]; exact hlt
      obtain ⟨b, o, rfl, hbn, e1, e2, e3⟩ := HC.out k hkl
      have c1 := (hb.out.cell (p := ⟨b, o + k * 3, none⟩) hbn).trans e1
      have c2 := (hb.out.cell (p := ⟨b, o + k * 3 + 1, none⟩) hbn).trans e2
      have c3 := (hb.out.cell (p := ⟨b, o + k * 3 + 2, none⟩) hbn).trans e3
      have hsn := toNm_val (HZ.out _ (List.getElem_mem hkl)).1
      have htk := nms_take hkl
      have hlen : ((nms l).take k).length < l.length := by rw [List.length_take, nms_len]; omega
      obtain ⟨nm, hnm⟩ : ∃ x, toNm l[k].n = x := ⟨_, rfl⟩
      obtain ⟨sd, esd⟩ : ∃ x, l[k].d = x := ⟨_, rfl⟩
      obtain ⟨ss, ess⟩ : ∃ x, l[k].s = x := ⟨_, rfl⟩
      rw [← hsn, hnm] at c1
      rw [hnm] at htk
      rw [esd] at c2
      rw [ess] at c3
      have hJa := HJ.out _ _ (wr.alloc (.cells #[.string nm.1, .string sd, .string ss] 39)) none hJs (World.grownBy_alloc wr _ none) (fun r e => by cases e)
      obtain ⟨fn, tmps, assign, body, hy, hR⟩ := HY.out ((nms l).take k) nm (wr.alloc (.cells #[.string nm.1, .string sd, .string ss] 39)) hJa hlen
      try dsimp only at hy hR
      have HB' : Hid (Below n₀ W (wr.alloc (.cells #[.string nm.1, .string sd, .string ss] 39))) := hb.out.alloc (Nat.le_trans HN0.out hsz.out) _
      have HT := Lib.hid htk
      have b0 : decide (k < N) = true := decide_eq_true hlt
      have b1 : (0 : Int) ≤ (k : Int) ∧ (k : Int) < (N : Int) := by omega
      have hlt' := Lib.hid hlt
      have HSZ : Hid (W.heap.size + 1 ≤ (wr.alloc (.cells #[.string nm.1, .string sd, .string ss] 39)).heap.size) := by show _ ≤ _; rw [World.size_alloc]; have := hsz.out; omega
      clear e1 e2 e3 hsn htk hlen hnm esd ess hkl hbn hJs hJa
      gi_wp2
      refine hR.mono ?_
      rintro e W3 (⟨rfl, hJ3, hk3⟩ | ⟨rfl, hJx3⟩)
      · gi_wp2
        go_roundw
        case rel => exact ⟨k + 1, hlt'.out, by go_num, by rw [← HT.out]; exact hJ3, HB'.out.trans hk3, by have h1 := HSZ.out; have h2 := hk3.size; show _ ≤ _; omega⟩
        case measure => have := hlt'.out; simp [intOf] <;> omega
      · gi_wp2
        refine bodyPost_ret (results_none rfl _ _ _) rfl ?_
        exact ⟨⟨_, rfl⟩, .inr ⟨_, trivial, hJx3⟩⟩
    · obtain rfl : k = N := by omega
      have e : (nms l).take k = nms l := List.take_of_length_le (by rw [nms_len, HL.out]; exact Nat.le_refl _)
      rw [e] at hJs
      have b0 : decide (k < k) = false := decide_eq_false hlt
      clear hlt e
      gi_wp2
      go_end0
      exact ⟨⟨_, rfl⟩, .inl ⟨_, rfl, hJs⟩⟩
theorem names_stops (F : Fence) (d : Nat) (hf : F.fn 29) (hro : F.round = none) (hd : 1 ≤ d) (Bn n₀ c : Nat) (A : Option Addr) (l : List Fl) (hl : l.length ≤ 1000) (hz : Szs l)
    (w : World) (hBl : Bn < w.heap.size) (hn : n₀ ≤ w.heap.size) (hBn : w.cell? ⟨Bn, 0, none⟩ = some (.slice A l.length c))
    (hc : ∀ i (h : i < l.length), ∃ b o, A = some ⟨b, o, none⟩ ∧ b < n₀ ∧ w.cell? ⟨b, o + i * 3, none⟩ = some (.string l[i].n) ∧ w.cell? ⟨b, o + i * 3 + 1, none⟩ = some (.string l[i].d) ∧ w.cell? ⟨b, o + i * 3 + 2, none⟩ = some (.string l[i].s)) :
    SeqStopsK F d Tryd.prog 29 #[.pointer (some ⟨Bn, 0, none⟩)] (fun x : Nam => #[.string x.1]) (Below n₀) (fun ys => ys = nms l) (fun _ => True) l.length w := fun y J Jx W hW hJ hJx hY h0 =>
  names1_in F d hf hro hd y Bn n₀ c A l hl hz J Jx hY W (Nat.le_trans hn hW.size) hJ ((hW.cell (p := ⟨Bn, 0, none⟩) hBl).trans hBn)
    (fun i h => by
      obtain ⟨b, o, h1, h2, h3, h4, h5⟩ := hc i h
      have hb : b < w.heap.size := Nat.lt_of_lt_of_le h2 hn
      exact ⟨b, o, h1, h2, (hW.cell (p := ⟨b, _, none⟩) hb).trans h3, (hW.cell (p := ⟨b, _, none⟩) hb).trans h4, (hW.cell (p := ⟨b, _, none⟩) hb).trans h5⟩) h0
end Go.Proofs.YtdaglbjdgdokpaaDoor
