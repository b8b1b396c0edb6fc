/-
  Package nat: the closure that keeps the carry. · Package nat: the words of a row with their places, and a row backward, as iterators: their contracts.
-/
import Derived.Test.YtojpfijjnocboaaPk16
import Derived.RangeFuncNested
import Derived.RangeFuncBound
import Derived.RangeFuncCalls
import Derived.RangeFuncLeaves
import Derived.RangeFuncBox
import Derived.Shelf.Abstract
import Derived.Shelf.RegionOpen
import Derived.WalkKit
import Derived.OwnWalkIn
import Derived.TacticsInMore
import Derived.LoopNIn
import Derived.LoopIn
namespace Go.Proofs.Ytojpfijjnocboaa
open Go.RowKit
set_option linter.unusedVariables false

/-- What the closure answers over the carrier fid: a word by F, the next carry by G; Pb: the second words that it is asked of. -/
def Nx (fid : Nat) (F G : Nat → Nat → Nat → Nat) (Pb : Nat → Prop) : Prop := ∀ (a b c bf bc : Nat) (w : World), a < 18446744073709551616 → Pb b → c < 18446744073709551616 →
  w.cell? ⟨bf, 0, none⟩ = some (.func (.func fid) #[] #[]) → w.cell? ⟨bc, 0, none⟩ = some (.int .u64 (c : Int)) → w.frozen? ⟨bc, 0, none⟩ = false →
  Calls Try.prog 75 #[.int .u64 (a : Int), .int .u64 (b : Int), .pointer (some ⟨bf, 0, none⟩), .pointer (some ⟨bc, 0, none⟩)] w
    fun e w' => e = .returned (.int .u64 ((F a b c : Nat) : Int)) ∧ w' = w.setCell ⟨bc, 0, none⟩ (.int .u64 ((G a b c : Nat) : Int))

set_option maxRecDepth 100000 in
theorem add_nx : Nx 58 addS addC (fun b => b < 18446744073709551616) := by
  intro a b c bf bc w ha hb hc h1 h2 h3
  have HF := Lib.hid (fun w => add_any a b c w)
  obtain ⟨x, hx⟩ : ∃ x, addS a b c = x := ⟨_, rfl⟩
  obtain ⟨y, hy⟩ : ∃ x, addC a b c = x := ⟨_, rfl⟩
  rw [hx, hy] at HF ⊢
  clear hx hy ha hb hc
  go_enter Try.func75, Try.ntmps75
  go_wp2_with (go_at_call 58; refine (HF.out _).mono ?_; rintro e w' ⟨rfl, rfl⟩)
  go_ret
  exact ⟨rfl, rfl⟩

set_option maxRecDepth 100000 in
theorem sub_nx : Nx 44 subD subB (fun b => b < 18446744073709551616) := by
  intro a b c bf bc w ha hb hc h1 h2 h3
  have HF := Lib.hid (fun w => sub_any a b c w)
  obtain ⟨x, hx⟩ : ∃ x, subD a b c = x := ⟨_, rfl⟩
  obtain ⟨y, hy⟩ : ∃ x, subB a b c = x := ⟨_, rfl⟩
  rw [hx, hy] at HF ⊢
  clear hx hy ha hb hc
  go_enter Try.func75, Try.ntmps75
  go_wp2_with (go_at_call 44; refine (HF.out _).mono ?_; rintro e w' ⟨rfl, rfl⟩)
  go_ret
  exact ⟨rfl, rfl⟩

set_option maxRecDepth 100000 in
theorem raise_nx : Nx 57 raF raG (fun b => b ≤ 64) := by
  intro a b c bf bc w ha hb hc h1 h2 h3
  have HF := Lib.hid (fun w => praise_any a b c ha hb hc w)
  obtain ⟨x, hx⟩ : ∃ x, raF a b c = x := ⟨_, rfl⟩
  obtain ⟨y, hy⟩ : ∃ x, raG a b c = x := ⟨_, rfl⟩
  rw [hx, hy] at HF ⊢
  clear hx hy ha hb hc
  go_enter Try.func75, Try.ntmps75
  go_wp2_with (go_at_call 57; refine (HF.out _).mono ?_; rintro e w' ⟨rfl, rfl⟩)
  go_ret
  exact ⟨rfl, rfl⟩

end Go.Proofs.Ytojpfijjnocboaa
namespace Go.Proofs.Ytojpfijjnocboaa
open Go.RowKit Go.Shelf
set_option linter.unusedVariables false
attribute [local go_sem] Oper.semAt_some

/-- The blocks in K lie as they lay. -/
def KpB (K : Nat → Prop) (W W' : World) : Prop := ∀ j, K j → W'.heap[j]? = W.heap[j]?
theorem KpB.refl (K : Nat → Prop) (W : World) : KpB K W W := fun _ _ => rfl
theorem KpB.trans {K : Nat → Prop} {a b c : World} (h : KpB K a b) (k : KpB K b c) : KpB K a c := fun j hj => (k j hj).trans (h j hj)
theorem KpB.cell {K : Nat → Prop} {a b : World} (h : KpB K a b) {p : Addr} (hp : K p.block) : b.cell? p = a.cell? p := by simp [World.cell?, h _ hp]
theorem KpB.put {K : Nat → Prop} {w : World} (hK : ∀ j, K j → j < w.heap.size) (W : World) (l : Nat) (o o' : Obj) (hl : w.heap.size ≤ l) (h : W.heap[l]? = some o) (_ : o.isCells = false) (_ : o.isWalk = false) : KpB K W (W.putObj l o') := fun j hj => by
  have := hK j hj
  exact (grownBy_putObj' W l o').block j (by have := (Array.getElem?_eq_some_iff.1 h).1; omega) (fun e => by cases e; omega)

/-- A place below n. -/
abbrev Pl (n : Nat) := { i : Nat // i < n }
theorem range_snoc {n : Nat} (pre : List (Pl n)) (k : Nat) (hk : k < n) (h : pre.map (·.1) = List.range k) : (pre ++ [(⟨k, hk⟩ : Pl n)]).map (·.1) = List.range (k + 1) := by
  rw [List.map_append, h, List.range_succ]
  rfl
theorem len_of_map {n : Nat} {pre : List (Pl n)} {l : List Nat} (h : pre.map (·.1) = l) : pre.length = l.length := by rw [← h, List.length_map]
/-- The first k places from the highest. -/
def down (n k : Nat) : List Nat := (List.range k).map fun j => n - 1 - j
theorem down_snoc {n : Nat} (pre : List (Pl n)) (k : Nat) (hk : n - 1 - k < n) (h : pre.map (·.1) = down n k) : (pre ++ [(⟨n - 1 - k, hk⟩ : Pl n)]).map (·.1) = down n (k + 1) := by
  rw [List.map_append, h]
  simp [down, List.range_succ]
theorem down_length (n k : Nat) : (down n k).length = k := by simp [down]

set_option maxRecDepth 100000 in
set_option maxHeartbeats 2000000 in
theorem words1_in (F : Fence) (d : Nat) (hf : F.fn 76) (hro : F.round = none) (hd : 1 ≤ d) (l n c Bn Ba : Nat) (K : Nat → Prop) (A : Option Addr) (m : List Nat) (hn : n ≤ 1099511627776) (hm : m.length ≤ 1099511627776) (J Jx : List (Pl n) → World → Prop)
    (hY : ∀ pre (x : Pl n) W, J pre W → pre.length < n → YieldAt F (d - 1) Try.prog l #[.int .i64 (x.1 : Int), .int .u64 ((m[x.1]?.getD 0 : Nat) : Int)] W fun e W' =>
      (e = .returned (.bool true) ∧ J (pre ++ [x]) W' ∧ KpB K W W') ∨ (e = .returned (.bool false) ∧ Jx (pre ++ [x]) W'))
    (W : World) (hKn : K Bn) (hBn : W.cell? ⟨Bn, 0, none⟩ = some (.int .i64 (n : Int))) (hKa : K Ba) (hBa : W.cell? ⟨Ba, 0, none⟩ = some (.slice A m.length c))
    (hc : ∀ i (h : i < m.length), ∃ ad, A = some ad ∧ K ad.block ∧ W.cell? (ad.add i) = some (.int .u64 (m[i] : Int))) (h0 : J [] W) :
    CallsIn F d Try.prog 76 #[.func (.yield l) #[] #[], .pointer (some ⟨Bn, 0, none⟩), .pointer (some ⟨Ba, 0, none⟩)] W fun e W' => (∃ v, e = .returned v) ∧
      ((∃ ys, ys.map (·.1) = List.range n ∧ J ys W') ∨ (∃ pre, True ∧ Jx pre W')) := by
  refine callsIn_of_wp Try.func76 rfl hf ?_ hro
  simp only [Try.ntmps76, List.size_toArray, List.length_cons, List.length_nil, Nat.reduceAdd, Nat.reduceSub, Array.replicate_succ, Array.replicate_zero, List.push_toArray, List.append_toArray, List.nil_append, List.cons_append]
  obtain ⟨M, hM⟩ : ∃ L, m.length = L := ⟨_, rfl⟩
  have HM := Lib.hid hM
  have HC := Lib.hid hc
  have HY := Lib.hid hY
  have HKa := Lib.hid hKa
  have HBa := Lib.hid hBa
  rw [hM] at hm
  have hni : (n : Int) ≤ 1099511627776 := by omega
  have hmi : (M : Int) ≤ 1099511627776 := by omega
  clear hM hc hY hm hn hKa hKn hBa
  gi_wp2
  gi_loopw [7] (fun i wr => ∃ (k : Nat) (pre : List (Pl n)), k ≤ n ∧ i = .int .i64 (k : Int) ∧ Hid (pre.map (·.1) = List.range k) ∧ J pre wr ∧ Hid (KpB K W wr)) (fun i _ => n - (intOf i).toNat)
  case atStart => exact ⟨0, [], Nat.zero_le _, rfl, rfl, h0, KpB.refl _ _⟩
  case round =>
    obtain ⟨k, pre, hk, rfl, hpre, hJs, hkp⟩ := hrel
    by_cases hlt : k < n
    · have hbx := (hkp.out.cell (p := ⟨Ba, 0, none⟩) HKa.out).trans HBa.out
      rw [HM.out] at hbx
      obtain ⟨fn, tmps, assign, body, hy, hR⟩ := HY.out pre ⟨k, hlt⟩ wr hJs (by rw [len_of_map hpre.out, List.length_range]; exact hlt)
      dsimp only at hy hR
      have EU := Lib.hid (range_snoc pre k hlt hpre.out)
      have b0 : decide (k < n) = true := decide_eq_true hlt
      have hlt' := Lib.hid hlt
      by_cases hkm : k < M
      · obtain ⟨ad, rfl, hab, hcx0⟩ := HC.out k (by rw [HM.out]; exact hkm)
        have hcx := (hkp.out.cell (p := ad.add k) (by rw [blk_add]; exact hab)).trans hcx0
        clear hcx0
        have ez : m[k]?.getD 0 = m[k]'(by rw [HM.out]; exact hkm) := by simp [HM.out, hkm]
        rw [← ez] at hcx
        obtain ⟨z, hz⟩ : ∃ z, m[k]?.getD 0 = z := ⟨_, rfl⟩
        rw [hz] at hcx hy
        have b1 : (0 : Int) ≤ (k : Int) ∧ (k : Int) < (M : Int) := by omega
        have b2 : decide (k < M) = true := decide_eq_true hkm
        clear ez hz hkm
        gi_wp2
        refine hR.mono ?_
        rintro e W3 (⟨rfl, hJ3, hk3⟩ | ⟨rfl, hJx3⟩)
        · gi_wp2
          go_roundw
          case rel => exact ⟨k + 1, _, hlt'.out, by go_num, EU.out, hJ3, hkp.out.trans hk3⟩
          case measure => have := hlt'.out; simp [intOf] <;> omega
        · gi_wp2
          refine bodyPost_ret (results_none rfl _ _ _) rfl ?_
          exact ⟨⟨_, rfl⟩, .inr ⟨_, trivial, hJx3⟩⟩
      · have ez : m[k]?.getD 0 = 0 := by simp [HM.out, Nat.le_of_not_lt hkm]
        rw [ez] at hy
        have b2 : decide (k < M) = false := decide_eq_false hkm
        have r0 : ((0 : Nat) : Int) = 0 := rfl
        rw [r0] at hy
        clear ez hkm r0
        gi_wp2
        refine hR.mono ?_
        rintro e W3 (⟨rfl, hJ3, hk3⟩ | ⟨rfl, hJx3⟩)
        · gi_wp2
          go_roundw
          case rel => exact ⟨k + 1, _, hlt'.out, by go_num, EU.out, hJ3, hkp.out.trans hk3⟩
          case measure => have := hlt'.out; simp [intOf] <;> omega
        · gi_wp2
          refine bodyPost_ret (results_none rfl _ _ _) rfl ?_
          exact ⟨⟨_, rfl⟩, .inr ⟨_, trivial, hJx3⟩⟩
    · obtain rfl : k = n := by omega
      gi_wp2
      go_end0
      exact ⟨⟨_, rfl⟩, .inl ⟨_, hpre.out, hJs⟩⟩
end Go.Proofs.Ytojpfijjnocboaa
