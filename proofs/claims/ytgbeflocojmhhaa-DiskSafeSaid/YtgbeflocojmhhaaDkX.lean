/-
  Package disk: the names of files as an iterator: its contract.
-/
import Derived.RangeFuncNested
import Derived.RangeFuncBound
import Derived.RangeFuncCalls
import Derived.RangeFuncLeaves
import Derived.RangeFuncBox
import Derived.Shelf.Abstract
import Derived.Shelf.RegionOpen
import Derived.WalkKit
import Derived.OwnWalkIn
import Derived.TacticsInMore
import Derived.LoopNIn
import Derived.LoopIn
import Derived.Test.YtgbeflocojmhhaaDkC
import Derived.Test.YtgbeflocojmhhaaDkU
namespace Go.Proofs.Ytgbeflocojmhhaa
open Go.RowKit Go.Shelf
set_option linter.unusedVariables false
set_option linter.unusedSimpArgs false
attribute [local go_sem] Oper.semAt_some

/-- A name of bounded size. -/
abbrev Nam := { s : ByteArray // s.size ≤ 140737488355328 }
def toNm (s : ByteArray) : Nam := if h : s.size ≤ 140737488355328 then ⟨s, h⟩ else ⟨⟨#[]⟩, by decide⟩
theorem toNm_val {s : ByteArray} (h : s.size ≤ 140737488355328) : (toNm s).1 = s := by unfold toNm; rw [dif_pos h]
def nms (l : List Fl) : List Nam := l.map fun f => toNm f.n
theorem nms_len (l : List Fl) : (nms l).length = l.length := by simp [nms]
theorem nms_get (l : List Fl) (k : Nat) (h : k < l.length) : (nms l)[k]'(by rw [nms_len]; exact h) = toNm l[k].n := by simp [nms]
theorem nms_take {l : List Fl} {k : Nat} (h : k < l.length) : (nms l).take k ++ [toNm l[k].n] = (nms l).take (k + 1) := by
  rw [List.take_add_one, List.getElem?_eq_getElem (by rw [nms_len]; exact h), nms_get l k h]
  rfl
theorem nms_vals {l : List Fl} (h : Szs l) : (nms l).map (·.1) = l.map Fl.n := by
  refine List.ext_getElem (by simp [nms]) fun i h1 h2 => ?_
  have hi : i < l.length := by simpa using h2
  rw [List.getElem_map, List.getElem_map, nms_get l i hi]
  exact toNm_val (h _ (List.getElem_mem hi)).1
theorem pnames_any (A : Option Addr) (L c : Nat) (w : World) :
    Calls Try.prog 32 #[.slice A L c] w fun e w' => e = .returned (.func (.func 41) #[] #[.pointer (some ⟨w.heap.size, 0, none⟩)]) ∧ w' = w.alloc (.cells #[.slice A L c] 22) := by
  go_enter Try.func32, Try.ntmps32
  go_wp2
  go_ret
  exact ⟨rfl, rfl⟩

set_option maxRecDepth 100000 in
set_option maxHeartbeats 2000000 in
theorem names1_in (F : Fence) (d : Nat) (hf : F.fn 41) (hro : F.round = none) (hd : 1 ≤ d) (y Bn n₀ c : Nat) (A : Option Addr) (l : List Fl) (hl : l.length ≤ 1000) (hz : Szs l) (J Jx : List Nam → World → Prop)
    (hY : ∀ pre (x : Nam) W, J pre W → pre.length < l.length → YieldAt F (d - 1) Try.prog y #[.string x.1] W fun e W' =>
      (e = .returned (.bool true) ∧ J (pre ++ [x]) W' ∧ Below n₀ W W') ∨ (e = .returned (.bool false) ∧ Jx (pre ++ [x]) W'))
    (W : World) (hn : n₀ ≤ W.heap.size) (hJ : AbidesFrom W.heap.size J) (hBn : W.cell? ⟨Bn, 0, none⟩ = some (.slice A l.length c))
    (hc : ∀ i (h : i < l.length), ∃ b o, A = some ⟨b, o, none⟩ ∧ b < n₀ ∧ W.cell? ⟨b, o + i * 3, none⟩ = some (.string l[i].n) ∧ W.cell? ⟨b, o + i * 3 + 1, none⟩ = some (.string l[i].d) ∧ W.cell? ⟨b, o + i * 3 + 2, none⟩ = some (.string l[i].s)) (h0 : J [] W) :
    CallsIn F d Try.prog 41 #[.func (.yield y) #[] #[], .pointer (some ⟨Bn, 0, none⟩)] W fun e W' => (∃ v, e = .returned v) ∧
      ((∃ ys, ys = nms l ∧ J ys W') ∨ (∃ pre, True ∧ Jx pre W')) := by
  refine callsIn_of_wp Try.func41 rfl hf ?_ hro
  simp only [Try.ntmps41, List.size_toArray, List.length_cons, List.length_nil, Nat.reduceAdd, Nat.reduceSub, Array.replicate_succ, Array.replicate_zero, List.push_toArray, List.append_toArray, List.nil_append, List.cons_append]
  obtain ⟨N, hN⟩ : ∃ N, l.length = N := ⟨_, rfl⟩
  have HL := Lib.hid hN
  have HC := Lib.hid hc
  have HY := Lib.hid hY
  have HZ := Lib.hid hz
  have HJ := Lib.hid hJ
  have HN0 := Lib.hid hn
  rw [hN] at hBn hl
  have hNb : (N : Int) ≤ 1000 := by omega
  have a24 := Try.isAgg49
  have z24 := Try.sizeOf49
  clear hN hc hY hz hJ hn hl
  gi_wp2
  gi_loopw [7] (fun i wr => ∃ k : Nat, k ≤ N ∧ i = .int .i64 (k : Int) ∧ J ((nms l).take k) wr ∧ Hid (Below n₀ W wr) ∧ Hid (W.heap.size ≤ wr.heap.size)) (fun i _ => N - (intOf i).toNat)
  case atStart => exact ⟨0, Nat.zero_le _, rfl, h0, Below.refl _ _, Nat.le_refl _⟩
  case round =>
    obtain ⟨k, hk, rfl, hJs, hb, hsz⟩ := hrel
    by_cases hlt : k < N
    · have hkl : k < l.length := by rw [HL.out]; exact hlt
      obtain ⟨b, o, rfl, hbn, e1, e2, e3⟩ := HC.out k hkl
      have c1 := (hb.out.cell (p := ⟨b, o + k * 3, none⟩) hbn).trans e1
      have c2 := (hb.out.cell (p := ⟨b, o + k * 3 + 1, none⟩) hbn).trans e2
      have c3 := (hb.out.cell (p := ⟨b, o + k * 3 + 2, none⟩) hbn).trans e3
      have hsn := toNm_val (HZ.out _ (List.getElem_mem hkl)).1
      have htk := nms_take hkl
      have hlen : ((nms l).take k).length < l.length := by rw [List.length_take, nms_len]; omega
      obtain ⟨nm, hnm⟩ : ∃ x, toNm l[k].n = x := ⟨_, rfl⟩
      obtain ⟨sd, esd⟩ : ∃ x, l[k].d = x := ⟨_, rfl⟩
      obtain ⟨ss, ess⟩ : ∃ x, l[k].s = x := ⟨_, rfl⟩
      rw [← hsn, hnm] at c1
      rw [hnm] at htk
      rw [esd] at c2
      rw [ess] at c3
      have hJa := HJ.out _ _ (wr.alloc (.cells #[.string nm.1, .string sd, .string ss] 49)) none hJs (World.grownBy_alloc wr _ none) (fun r e => by cases e)
      obtain ⟨fn, tmps, assign, body, hy, hR⟩ := HY.out ((nms l).take k) nm (wr.alloc (.cells #[.string nm.1, .string sd, .string ss] 49)) hJa hlen
      try dsimp only at hy hR
      have HB' : Hid (Below n₀ W (wr.alloc (.cells #[.string nm.1, .string sd, .string ss] 49))) := hb.out.alloc (Nat.le_trans HN0.out hsz.out) _
      have HT := Lib.hid htk
      have b0 : decide (k < N) = true := decide_eq_true hlt
      have b1 : (0 : Int) ≤ (k : Int) ∧ (k : Int) < (N : Int) := by omega
      have hlt' := Lib.hid hlt
      have HSZ : Hid (W.heap.size + 1 ≤ (wr.alloc (.cells #[.string nm.1, .string sd, .string ss] 49)).heap.size) := by show _ ≤ _; rw [World.size_alloc]; have := hsz.out; omega
      clear e1 e2 e3 hsn htk hlen hnm esd ess hkl hbn hJs hJa
      gi_wp2
      refine hR.mono ?_
      rintro e W3 (⟨rfl, hJ3, hk3⟩ | ⟨rfl, hJx3⟩)
      · gi_wp2
        go_roundw
        case rel => exact ⟨k + 1, hlt'.out, by go_num, by rw [← HT.out]; exact hJ3, HB'.out.trans hk3, by have h1 := HSZ.out; have h2 := hk3.size; show _ ≤ _; omega⟩
        case measure => have := hlt'.out; simp [intOf] <;> omega
      · gi_wp2
        refine bodyPost_ret (results_none rfl _ _ _) rfl ?_
        exact ⟨⟨_, rfl⟩, .inr ⟨_, trivial, hJx3⟩⟩
    · obtain rfl : k = N := by omega
      have e : (nms l).take k = nms l := List.take_of_length_le (by rw [nms_len, HL.out]; exact Nat.le_refl _)
      rw [e] at hJs
      have b0 : decide (k < k) = false := decide_eq_false hlt
      clear hlt e
      gi_wp2
      go_end0
      exact ⟨⟨_, rfl⟩, .inl ⟨_, rfl, hJs⟩⟩
theorem names_stops (F : Fence) (d : Nat) (hf : F.fn 41) (hro : F.round = none) (hd : 1 ≤ d) (Bn n₀ c : Nat) (A : Option Addr) (l : List Fl) (hl : l.length ≤ 1000) (hz : Szs l)
    (w : World) (hBl : Bn < w.heap.size) (hn : n₀ ≤ w.heap.size) (hBn : w.cell? ⟨Bn, 0, none⟩ = some (.slice A l.length c))
    (hc : ∀ i (h : i < l.length), ∃ b o, A = some ⟨b, o, none⟩ ∧ b < n₀ ∧ w.cell? ⟨b, o + i * 3, none⟩ = some (.string l[i].n) ∧ w.cell? ⟨b, o + i * 3 + 1, none⟩ = some (.string l[i].d) ∧ w.cell? ⟨b, o + i * 3 + 2, none⟩ = some (.string l[i].s)) :
    SeqStopsK F d Try.prog 41 #[.pointer (some ⟨Bn, 0, none⟩)] (fun x : Nam => #[.string x.1]) (Below n₀) (fun ys => ys = nms l) (fun _ => True) l.length w := fun y J Jx W hW hJ hJx hY h0 =>
  names1_in F d hf hro hd y Bn n₀ c A l hl hz J Jx hY W (Nat.le_trans hn hW.size) hJ ((hW.cell (p := ⟨Bn, 0, none⟩) hBl).trans hBn)
    (fun i h => by
      obtain ⟨b, o, h1, h2, h3, h4, h5⟩ := hc i h
      have hb : b < w.heap.size := Nat.lt_of_lt_of_le h2 hn
      exact ⟨b, o, h1, h2, (hW.cell (p := ⟨b, _, none⟩) hb).trans h3, (hW.cell (p := ⟨b, _, none⟩) hb).trans h4, (hW.cell (p := ⟨b, _, none⟩) hb).trans h5⟩) h0
end Go.Proofs.Ytgbeflocojmhhaa
