/-
  slices.Backward over a row of words: its contract; both iterators in the form that a caller takes. · Package nat: merged: words made one after the other, with a carry. First what comes out, without a program. · A region that draws its order, inside a round of a range over a function: from the plain walk of its orders.
-/
import Derived.Test.YtojpfijjnocboaaPk17
import Derived.RangeFuncNested
import Derived.RangeFuncCalls
import Derived.Shelf.RegionOpen
import Derived.OwnWalkIn
import Derived.OrdersHeld
import Derived.Deep.RegionHeld
import Derived.Test.YtojpfijjnocboaaProg
namespace Go.Proofs.Ytojpfijjnocboaa
open Go.RowKit Go.Shelf
set_option linter.unusedVariables false
attribute [local go_sem] Oper.semAt_some

set_option maxRecDepth 100000 in
set_option maxHeartbeats 2000000 in
theorem back1_in (F : Fence) (d : Nat) (hf : F.fn 68) (hro : F.round = none) (hd : 1 ≤ d) (l n c Ba : Nat) (K : Nat → Prop) (A : Option Addr) (m : List Nat) (hm : m.length = n) (hn : n ≤ 1099511627776) (J Jx : List (Pl n) → World → Prop)
    (hY : ∀ pre (x : Pl n) W, J pre W → pre.length < n → YieldAt F (d - 1) Try.prog l #[.int .i64 (x.1 : Int), .int .u64 ((m[x.1]?.getD 0 : Nat) : Int)] W fun e W' =>
      (e = .returned (.bool true) ∧ J (pre ++ [x]) W' ∧ KpB K W W') ∨ (e = .returned (.bool false) ∧ Jx (pre ++ [x]) W'))
    (W : World) (hKa : K Ba) (hBa : W.cell? ⟨Ba, 0, none⟩ = some (.slice A n c))
    (hc : ∀ i (h : i < m.length), ∃ ad, A = some ad ∧ K ad.block ∧ W.cell? (ad.add i) = some (.int .u64 (m[i] : Int))) (h0 : J [] W) :
    CallsIn F d Try.prog 68 #[.func (.yield l) #[] #[], .pointer (some ⟨Ba, 0, none⟩)] W fun e W' => (∃ v, e = .returned v) ∧
      ((∃ ys, ys.map (·.1) = down n n ∧ J ys W') ∨ (∃ pre, (∃ k, k ≤ n ∧ pre.map (·.1) = down n k) ∧ Jx pre W')) := by
  refine callsIn_of_wp Try.func68 rfl hf ?_ hro
  simp only [Try.ntmps68, List.size_toArray, List.length_cons, List.length_nil, Nat.reduceAdd, Nat.reduceSub, Array.replicate_succ, Array.replicate_zero, List.push_toArray, List.append_toArray, List.nil_append, List.cons_append]
  have HM := Lib.hid hm
  have HC := Lib.hid hc
  have HY := Lib.hid hY
  have HKa := Lib.hid hKa
  have HBa := Lib.hid hBa
  have hni : (n : Int) ≤ 1099511627776 := by omega
  clear hm hc hY hn hKa
  gi_wp2
  gi_loopw [3] (fun i wr => ∃ (z : Int) (j : Nat) (pre : List (Pl n)), i = .int .i64 z ∧ z = (j : Int) - 1 ∧ j ≤ n ∧ Hid (pre.map (·.1) = down n (n - j)) ∧ J pre wr ∧ Hid (KpB K W wr)) (fun i _ => (intOf i + 1).toNat)
  case atStart => exact ⟨_, n, [], rfl, rfl, Nat.le_refl _, by show _ = _; rw [Nat.sub_self]; rfl, h0, KpB.refl _ _⟩
  case round =>
    obtain ⟨z, j, pre, rfl, hz, hj, hpre, hJs, hkp⟩ := hrel
    have hbx := (hkp.out.cell (p := ⟨Ba, 0, none⟩) HKa.out).trans HBa.out
    clear hBa
    by_cases h0 : j = 0
    · subst h0
      obtain rfl : z = -1 := by omega
      clear hz
      gi_wp2
      go_end0
      exact ⟨⟨_, rfl⟩, .inl ⟨_, by have := hpre.out; rwa [Nat.sub_zero] at this, hJs⟩⟩
    · obtain ⟨k, rfl⟩ : ∃ k, j = k + 1 := ⟨j - 1, by omega⟩
      obtain rfl : z = (k : Int) := by omega
      have hlt : k < n := hj
      have e1 : n - 1 - (n - (k + 1)) = k := by omega
      obtain ⟨fn, tmps, assign, body, hy, hR⟩ := HY.out pre ⟨k, hlt⟩ wr hJs (by rw [len_of_map hpre.out, down_length]; omega)
      dsimp only at hy hR
      have EU := Lib.hid (down_snoc pre (n - (k + 1)) (by omega) hpre.out)
      have ex : (⟨n - 1 - (n - (k + 1)), by omega⟩ : Pl n) = ⟨k, hlt⟩ := Subtype.ext e1
      rw [ex, show n - (k + 1) + 1 = n - k by omega] at EU
      have hlt' := Lib.hid hlt
      obtain ⟨ad, rfl, hab, hcx0⟩ := HC.out k (by rw [HM.out]; exact hlt)
      have hcx := (hkp.out.cell (p := ad.add k) (by rw [blk_add]; exact hab)).trans hcx0
      clear hcx0
      have ez : m[k]?.getD 0 = m[k]'(by rw [HM.out]; exact hlt) := by simp [HM.out, hlt]
      rw [← ez] at hcx
      obtain ⟨y, hz2⟩ : ∃ z, m[k]?.getD 0 = z := ⟨_, rfl⟩
      rw [hz2] at hcx hy
      have b1 : (0 : Int) ≤ (k : Int) ∧ (k : Int) < (n : Int) := by omega
      have b2 : decide ((0 : Int) ≤ (k : Int)) = true := decide_eq_true (by omega)
      clear ez hz2 hz h0 hj e1 ex
      gi_wp2
      refine hR.mono ?_
      rintro e W3 (⟨rfl, hJ3, hk3⟩ | ⟨rfl, hJx3⟩)
      · gi_wp2
        go_roundw
        case rel => exact ⟨_, k, _, rfl, rfl, Nat.le_of_lt hlt'.out, EU.out, hJ3, hkp.out.trans hk3⟩
        case measure => simp [intOf] <;> omega
      · gi_wp2
        refine bodyPost_ret (results_none rfl _ _ _) rfl ?_
        exact ⟨⟨_, rfl⟩, .inr ⟨_, ⟨_, Nat.sub_le _ _, EU.out⟩, hJx3⟩⟩

/-! ### In the form that a caller takes -/
theorem words_stops (F : Fence) (d : Nat) (hf : F.fn 76) (hro : F.round = none) (hd : 1 ≤ d) (n c Bn Ba : Nat) (K : Nat → Prop) (A : Option Addr) (m : List Nat) (hn : n ≤ 1099511627776) (hm : m.length ≤ 1099511627776)
    (w : World) (hKn : K Bn) (hBn : w.cell? ⟨Bn, 0, none⟩ = some (.int .i64 (n : Int))) (hKa : K Ba) (hBa : w.cell? ⟨Ba, 0, none⟩ = some (.slice A m.length c))
    (hK : ∀ j, K j → j < w.heap.size) (hc : ∀ i (h : i < m.length), ∃ ad, A = some ad ∧ K ad.block ∧ w.cell? (ad.add i) = some (.int .u64 (m[i] : Int))) :
    SeqStopsK F d Try.prog 76 #[.pointer (some ⟨Bn, 0, none⟩), .pointer (some ⟨Ba, 0, none⟩)] (fun x : Pl n => #[.int .i64 (x.1 : Int), .int .u64 ((m[x.1]?.getD 0 : Nat) : Int)]) (KpB K)
      (fun ys => ys.map (·.1) = List.range n) (fun _ => True) n w := fun l J Jx W hW hJ hJx hY h0 =>
  words1_in F d hf hro hd l n c Bn Ba K A m hn hm J Jx hY W hKn ((hW.cell (p := ⟨Bn, 0, none⟩) (hK _ hKn)).trans hBn) hKa ((hW.cell (p := ⟨Ba, 0, none⟩) (hK _ hKa)).trans hBa)
    (fun i h => by obtain ⟨ad, h1, h2, h3⟩ := hc i h; exact ⟨ad, h1, h2, (hW.cell (p := ad.add i) (by rw [blk_add]; exact hK _ h2)).trans h3⟩) h0
theorem back_stops (F : Fence) (d : Nat) (hf : F.fn 68) (hro : F.round = none) (hd : 1 ≤ d) (n c Ba : Nat) (K : Nat → Prop) (A : Option Addr) (m : List Nat) (hm : m.length = n) (hn : n ≤ 1099511627776)
    (w : World) (hKa : K Ba) (hBa : w.cell? ⟨Ba, 0, none⟩ = some (.slice A n c))
    (hK : ∀ j, K j → j < w.heap.size) (hc : ∀ i (h : i < m.length), ∃ ad, A = some ad ∧ K ad.block ∧ w.cell? (ad.add i) = some (.int .u64 (m[i] : Int))) :
    SeqStopsK F d Try.prog 68 #[.pointer (some ⟨Ba, 0, none⟩)] (fun x : Pl n => #[.int .i64 (x.1 : Int), .int .u64 ((m[x.1]?.getD 0 : Nat) : Int)]) (KpB K)
      (fun ys => ys.map (·.1) = down n n) (fun pre => ∃ k, k ≤ n ∧ pre.map (·.1) = down n k) n w := fun l J Jx W hW hJ hJx hY h0 =>
  back1_in F d hf hro hd l n c Ba K A m hm hn J Jx hY W hKa ((hW.cell (p := ⟨Ba, 0, none⟩) (hK _ hKa)).trans hBa)
    (fun i h => by obtain ⟨ad, h1, h2, h3⟩ := hc i h; exact ⟨ad, h1, h2, (hW.cell (p := ad.add i) (by rw [blk_add]; exact hK _ h2)).trans h3⟩) h0
end Go.Proofs.Ytojpfijjnocboaa
namespace Go.Proofs.Ytojpfijjnocboaa
open Go.RowKit Go.Shelf
set_option linter.unusedVariables false
attribute [local go_sem] Oper.semAt_some

/-- One word made: at place i, of what lies there and of what is carried. -/
def stp (P Q : Nat → Nat → Nat → Nat) (s : List Nat × Nat) (i : Nat) : List Nat × Nat := (s.1.set i (P i (s.1[i]?.getD 0) s.2), Q i (s.1[i]?.getD 0) s.2)
def mrun (P Q : Nat → Nat → Nat → Nat) (l : List Nat) (is : List Nat) : List Nat × Nat := is.foldl (stp P Q) (l, 0)
theorem mrun_snoc (P Q : Nat → Nat → Nat → Nat) (l is : List Nat) (i : Nat) : mrun P Q l (is ++ [i]) = stp P Q (mrun P Q l is) i := by simp [mrun, List.foldl_append]
/-- What the carriers answer are words. -/
def Wds (P Q : Nat → Nat → Nat → Nat) : Prop := ∀ i a c, a < 18446744073709551616 → c < 18446744073709551616 → P i a c < 18446744073709551616 ∧ Q i a c < 18446744073709551616
theorem getD_lt {l : List Nat} (h : All 18446744073709551616 l) (i : Nat) : l[i]?.getD 0 < 18446744073709551616 := by
  by_cases hi : i < l.length
  · have := h i hi
    simpa [hi] using this
  · rw [List.getElem?_eq_none (by omega)]
    decide
theorem wall_set {B : Nat} {l : List Nat} (h : All B l) (i u : Nat) (hu : u < B) : All B (l.set i u) := fun j hj => by
  rw [List.getElem_set]
  split
  · exact hu
  · exact h j (by simpa using hj)
theorem stp_ok {P Q : Nat → Nat → Nat → Nat} (hw : Wds P Q) {s : List Nat × Nat} (h : All 18446744073709551616 s.1 ∧ s.2 < 18446744073709551616) (i : Nat) : All 18446744073709551616 (stp P Q s i).1 ∧ (stp P Q s i).2 < 18446744073709551616 := by
  have h1 := hw i (s.1[i]?.getD 0) s.2 (getD_lt h.1 i) h.2
  exact ⟨wall_set h.1 i _ h1.1, h1.2⟩
theorem mrun_ok {P Q : Nat → Nat → Nat → Nat} (hw : Wds P Q) {l : List Nat} (h : All 18446744073709551616 l) (is : List Nat) : All 18446744073709551616 (mrun P Q l is).1 ∧ (mrun P Q l is).2 < 18446744073709551616 := by
  have : ∀ (is : List Nat) (s : List Nat × Nat), (All 18446744073709551616 s.1 ∧ s.2 < 18446744073709551616) → All 18446744073709551616 (is.foldl (stp P Q) s).1 ∧ (is.foldl (stp P Q) s).2 < 18446744073709551616 := by
    intro is
    induction is with
    | nil => intro s h; exact h
    | cons i is ih => intro s h; exact ih _ (stp_ok hw h i)
  exact this is (l, 0) ⟨h, show 0 < 18446744073709551616 by decide⟩
theorem mrun_len (P Q : Nat → Nat → Nat → Nat) (l is : List Nat) : (mrun P Q l is).1.length = l.length := by
  have : ∀ (is : List Nat) (s : List Nat × Nat), (is.foldl (stp P Q) s).1.length = s.1.length := by
    intro is
    induction is with
    | nil => intro s; rfl
    | cons i is ih => intro s; rw [List.foldl_cons, ih]; simp [stp]
  exact this is (l, 0)
theorem rowf_getD (n i : Nat) (f : Nat → Nat) (h : i < n) : (rowf n f)[i]?.getD 0 = f i := by simp [rowf, h]
/-- From the lowest to the highest place: if the words and the carries are known, the row is known. -/
theorem mrun_range (P Q : Nat → Nat → Nat → Nat) (n : Nat) (x rs cs : Nat → Nat) (h0 : cs 0 = 0) (h : ∀ i, i < n → P i (x i) (cs i) = rs i ∧ Q i (x i) (cs i) = cs (i + 1)) :
    ∀ k, k ≤ n → mrun P Q (rowf n x) (List.range k) = (rowf n (fun i => if i < k then rs i else x i), cs k) := by
  intro k
  induction k with
  | zero => intro _; simp [mrun, h0]
  | succ k ih =>
    intro hk
    rw [List.range_succ, mrun_snoc, ih (by omega)]
    have e : (rowf n (fun i => if i < k then rs i else x i))[k]?.getD 0 = x k := by rw [rowf_getD n k _ (by omega)]; simp
    obtain ⟨h1, h2⟩ := h k (by omega)
    unfold stp
    dsimp only
    rw [e, h1, h2]
    rw [rowf_set n _ (fun i => if i < k + 1 then rs i else x i) k (rs k) (by simp) (fun i hi => by
      by_cases h3 : i < k
      · rw [if_pos h3, if_pos (by omega)]
      · rw [if_neg h3, if_neg (by omega)])]
theorem mrun_end (P Q : Nat → Nat → Nat → Nat) (n : Nat) (x rs cs : Nat → Nat) (h0 : cs 0 = 0) (h : ∀ i, i < n → P i (x i) (cs i) = rs i ∧ Q i (x i) (cs i) = cs (i + 1)) :
    (mrun P Q (rowf n x) (List.range n)).1 = rowf n rs := by
  rw [mrun_range P Q n x rs cs h0 h n (Nat.le_refl _)]
  exact rowf_congr fun i hi => if_pos hi
theorem wide_rowf (l : List Nat) (n : Nat) (h : l.length ≤ n) : l ++ List.replicate (n - l.length) 0 = rowf n (fun i => l[i]?.getD 0) := by
  refine rowf_ext (by simp; omega) fun i hi => ?_
  rw [List.getElem_append]
  split
  · rename_i h1; simp [h1]
  · rename_i h1; rw [List.getElem?_eq_none (by omega)]; simp

/-- A block of cells abides what is no cells. -/
theorem cells_kept {W W' : World} {row : Option Nat} {b : Nat} {a : Array Value} {t : TypeId} {x : Nat × Nat} (h : W.heap[b]? = some (.cells a t x)) (hg : W.grownBy W' row) (hr : ∀ r, row = some r → ∃ o : Obj, W.heap[r]? = some o ∧ o.isCells = false) :
    W'.heap[b]? = some (.cells a t x) := by
  refine (hg.block b (Array.getElem?_eq_some_iff.1 h).1 (fun e => ?_)).trans h
  obtain ⟨o, h1, h2⟩ := hr b e.symm
  rw [h] at h1
  cases h1
  cases h2
end Go.Proofs.Ytojpfijjnocboaa
namespace Go.Proofs.Ytojpfijjnocboaa
open Go.RowKit Go.Shelf
set_option linter.unusedVariables false

theorem wp_inRound {P : Program} {o : Oper} {a : Act} {w : World} {K : Act → World → Prop} {Q : Exit → Act → World → Prop} {l n : Nat} (hd : ∀ c, o.op ≠ .defer c) (h : o.wp P a w K Q) : o.wpIn (Fence.wide.inRound l) n P a w K Q := by
  unfold Oper.wpIn
  refine ⟨fun _ _ => trivial, ?_⟩
  rw [Oper.semAt_plain _ _ _ hd]
  unfold Oper.wp at h
  generalize (execOp a.eval o).run P w = r at *
  cases r with
  | ok x w' =>
    cases x <;> simp only [Oper.upon, Oper.uponIn] at h ⊢
    case value => exact h
    case skip => exact h
    case defer => exact h
    case enter => exact ⟨fun h => (by cases h), CallsIn.inRound l (callsIn_wide.2 h)⟩
    case row => exact ⟨fun h => (by cases h), fun c cs _ => let ⟨v, w', r, s⟩ := h c cs; ⟨v, w', r, stepsIn_wide.2 s⟩⟩
  | halt x w' => cases x <;> simp only [Oper.upon, Oper.uponIn] at h ⊢ <;> exact h

/-- No operation defers. -/
def NoDefer (ops : Array Oper) : Prop := ∀ (i : Nat) (o : Oper), ops[i]? = some o → ∀ c, o.op ≠ .defer c
theorem wpAny_inRound {P : Program} {ops : Array Oper} {Q : Exit → Act → World → Prop} {md : Region.Mode} {l n : Nat} (hd : NoDefer ops) (hQ : ¬ LetsOut Q) :
    ∀ (fuel : Nat) (listed : Array Bool) (a : Act) (w : World), wpAny P md ops Q fuel listed a w → wpAnyIn (Fence.wide.inRound l) n P md ops Q fuel listed a w := by
  intro fuel
  induction fuel with
  | zero => intro listed a w h; exact h
  | succ fuel ih =>
    intro listed a w h
    refine ⟨h.1, fun i hi => ?_⟩
    have h2 := h.2 i hi
    unfold wpOp at h2
    unfold wpOpIn
    cases ho : ops[i]? with
    | none =>
      simp only [ho] at h2 ⊢
      exact ih _ _ _ h2
    | some o =>
      simp only [ho] at h2 ⊢
      by_cases hw : Region.wanted o (yielded ops a.tmps) = true
      · rw [if_pos hw] at h2 ⊢
        rcases h2 with h2 | ⟨_, h2⟩
        · exact Oper.wpIn_mono (fun a w h => ih _ a w h) (wp_inRound (hd i o ho) h2)
        · exact absurd h2 hQ
      · rw [if_neg hw] at h2 ⊢
        exact ⟨fun _ _ => trivial, ih _ _ _ h2⟩
def noDef (ops : Array Oper) : Bool := ops.all fun o => match o.op with
  | .defer _ => false
  | _ => true
theorem noDef_spec {ops : Array Oper} (h : noDef ops = true) : NoDefer ops := by
  intro i o ho c hc
  obtain ⟨hi, rfl⟩ := Array.getElem?_eq_some_iff.1 ho
  have h1 := Array.all_eq_true.1 h i hi
  rw [hc] at h1
  cases h1
/-- The beginning: a region that draws, in a round. S: what the loads read. -/
theorem region_inRound {P : Program} {id : Nat} {ops : Array Oper} {Q : Exit → Act → World → Prop} {l n : Nat} {a : Act} {w : World} (S : World → Prop) (hm : P.follows .mixedOrders = true) (hd : NoDefer ops) (hQ : ¬ LetsOut Q)
    (h : wpAnyH P .any ops Q S ops.size (Array.replicate ops.size false) a w.drew) : (Code.region id ops true).wpIn (Fence.wide.inRound l) n P Q a w :=
  wpIn_region_any hm (wpAny_inRound hd hQ _ _ _ _ (wpAny_of_held _ _ _ _ h))
end Go.Proofs.Ytojpfijjnocboaa
