/-
  slices.Backward over a row of words: its contract; both iterators in the form that a caller takes.
-/
import Derived.Test.YtdoohlehglakfaaPk11
namespace Go.Proofs.Ytdoohlehglakfaa
open Go.RowKit Go.Shelf
set_option linter.unusedVariables false
attribute [local go_sem] Oper.semAt_some

set_option maxRecDepth 100000 in
set_option maxHeartbeats 2000000 in
theorem back1_in (F : Fence) (d : Nat) (hf : F.fn 27) (hro : F.round = none) (hd : 1 ≤ d) (l n c Ba : Nat) (K : Nat → Prop) (A : Option Addr) (m : List Nat) (hm : m.length = n) (hn : n ≤ 1099511627776) (J Jx : List (Pl n) → World → Prop)
    (hY : ∀ pre (x : Pl n) W, J pre W → pre.length < n → YieldAt F (d - 1) Try.prog l #[.int .i64 (x.1 : Int), .int .u64 ((m[x.1]?.getD 0 : Nat) : Int)] W fun e W' =>
      (e = .returned (.bool true) ∧ J (pre ++ [x]) W' ∧ KpB K W W') ∨ (e = .returned (.bool false) ∧ Jx (pre ++ [x]) W'))
    (W : World) (hKa : K Ba) (hBa : W.cell? ⟨Ba, 0, none⟩ = some (.slice A n c))
    (hc : ∀ i (h : i < m.length), ∃ ad, A = some ad ∧ K ad.block ∧ W.cell? (ad.add i) = some (.int .u64 (m[i] : Int))) (h0 : J [] W) :
    CallsIn F d Try.prog 27 #[.func (.yield l) #[] #[], .pointer (some ⟨Ba, 0, none⟩)] W fun e W' => (∃ v, e = .returned v) ∧
      ((∃ ys, ys.map (·.1) = down n n ∧ J ys W') ∨ (∃ pre, (∃ k, k ≤ n ∧ pre.map (·.1) = down n k) ∧ Jx pre W')) := by
  refine callsIn_of_wp Try.func27 rfl hf ?_ hro
  simp only [Try.ntmps27, List.size_toArray, List.length_cons, List.length_nil, Nat.reduceAdd, Nat.reduceSub, Array.replicate_succ, Array.replicate_zero, List.push_toArray, List.append_toArray, List.nil_append, List.cons_append]
  have HM := Lib.hid hm
  have HC := Lib.hid hc
  have HY := Lib.hid hY
  have HKa := Lib.hid hKa
  have HBa := Lib.hid hBa
  have hni : (n : Int) ≤ 1099511627776 := by omega
  clear hm hc hY hn hKa
  gi_wp2
  gi_loopw [3] (fun i wr => ∃ (z : Int) (j : Nat) (pre : List (Pl n)), i = .int .i64 z ∧ z = (j : Int) - 1 ∧ j ≤ n ∧ Hid (pre.map (·.1) = down n (n - j)) ∧ J pre wr ∧ Hid (KpB K W wr)) (fun i _ => (intOf i + 1).toNat)
  case atStart => exact ⟨_, n, [], rfl, rfl, Nat.le_refl _, by show _ = _; rw [Nat.sub_self]; rfl, h0, KpB.refl _ _⟩
  case round =>
    obtain ⟨z, j, pre, rfl, hz, hj, hpre, hJs, hkp⟩ := hrel
    have hbx := (hkp.out.cell (p := ⟨Ba, 0, none⟩) HKa.out).trans HBa.out
    clear hBa
    by_cases h0 : j = 0
    · subst h0
      obtain rfl : z = -1 := by omega
      clear hz
      gi_wp2
      go_end0
      exact ⟨⟨_, rfl⟩, .inl ⟨_, by have := hpre.out; rwa [Nat.sub_zero] at this, hJs⟩⟩
    · obtain ⟨k, rfl⟩ : ∃ k, j = k + 1 := ⟨j - 1, by omega⟩
      obtain rfl : z = (k : Int) := by omega
      have hlt : k < n := hj
      have e1 : n - 1 - (n - (k + 1)) = k := by omega
      obtain ⟨fn, tmps, assign, body, hy, hR⟩ := HY.out pre ⟨k, hlt⟩ wr hJs (by rw [len_of_map hpre.out, down_length]; omega)
      dsimp only at hy hR
      have EU := Lib.hid (down_snoc pre (n - (k + 1)) (by omega) hpre.out)
      have ex : (⟨n - 1 - (n - (k + 1)), by omega⟩ : Pl n) = ⟨k, hlt⟩ := Subtype.ext e1
      rw [ex, show n - (k + 1) + 1 = n - k by omega] at EU
      have hlt' := Lib.hid hlt
      obtain ⟨ad, rfl, hab, hcx0⟩ := HC.out k (by rw [HM.out]; exact hlt)
      have hcx := (hkp.out.cell (p := ad.add k) (by rw [blk_add]; exact hab)).trans hcx0
      clear hcx0
      have ez : m[k]?.getD 0 = m[k]'(by rw [HM.out]; exact hlt) := by simp [HM.out, hlt]
      rw [← ez] at hcx
      obtain ⟨y, hz2⟩ : ∃ z, m[k]?.getD 0 = z := ⟨_, rfl⟩
      rw [hz2] at hcx hy
      have b1 : (0 : Int) ≤ (k : Int) ∧ (k : Int) < (n : Int) := by omega
      have b2 : decide ((0 : Int) ≤ (k : Int)) = true := decide_eq_true (by omega)
      clear ez hz2 hz h0 hj e1 ex
      gi_wp2
      refine hR.mono ?_
      rintro e W3 (⟨rfl, hJ3, hk3⟩ | ⟨rfl, hJx3⟩)
      · gi_wp2
        go_roundw
        case rel => exact ⟨_, k, _, rfl, rfl, Nat.le_of_lt hlt'.out, EU.out, hJ3, hkp.out.trans hk3⟩
        case measure => simp [intOf] <;> omega
      · gi_wp2
        refine bodyPost_ret (results_none rfl _ _ _) rfl ?_
        exact ⟨⟨_, rfl⟩, .inr ⟨_, ⟨_, Nat.sub_le _ _, EU.out⟩, hJx3⟩⟩

/-! ### In the form that a caller takes -/
theorem back_stops (F : Fence) (d : Nat) (hf : F.fn 27) (hro : F.round = none) (hd : 1 ≤ d) (n c Ba : Nat) (K : Nat → Prop) (A : Option Addr) (m : List Nat) (hm : m.length = n) (hn : n ≤ 1099511627776)
    (w : World) (hKa : K Ba) (hBa : w.cell? ⟨Ba, 0, none⟩ = some (.slice A n c))
    (hK : ∀ j, K j → j < w.heap.size) (hc : ∀ i (h : i < m.length), ∃ ad, A = some ad ∧ K ad.block ∧ w.cell? (ad.add i) = some (.int .u64 (m[i] : Int))) :
    SeqStopsK F d Try.prog 27 #[.pointer (some ⟨Ba, 0, none⟩)] (fun x : Pl n => #[.int .i64 (x.1 : Int), .int .u64 ((m[x.1]?.getD 0 : Nat) : Int)]) (KpB K)
      (fun ys => ys.map (·.1) = down n n) (fun pre => ∃ k, k ≤ n ∧ pre.map (·.1) = down n k) n w := fun l J Jx W hW hJ hJx hY h0 =>
  back1_in F d hf hro hd l n c Ba K A m hm hn J Jx hY W hKa ((hW.cell (p := ⟨Ba, 0, none⟩) (hK _ hKa)).trans hBa)
    (fun i h => by obtain ⟨ad, h1, h2, h3⟩ := hc i h; exact ⟨ad, h1, h2, (hW.cell (p := ad.add i) (by rw [blk_add]; exact hK _ h2)).trans h3⟩) h0
end Go.Proofs.Ytdoohlehglakfaa
