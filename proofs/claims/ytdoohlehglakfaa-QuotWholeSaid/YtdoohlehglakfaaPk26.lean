/-
  slices.Backward over a row of words that the caller writes meanwhile: what it hands on beside the place is whatever lies there.
-/
import Derived.Test.YtdoohlehglakfaaPk12
import Derived.Test.YtdoohlehglakfaaPk14
namespace Go.Proofs.Ytdoohlehglakfaa
open Go.RowKit Go.Shelf
set_option linter.unusedVariables false
attribute [local go_sem] Oper.semAt_some

/-- The blocks in K lie as they lay; block g holds n words still. -/
def KpR (K : Nat → Prop) (g n : Nat) (W W' : World) : Prop := KpB K W W' ∧ ((∃ l, l.length = n ∧ Bk .u64 33 W g l) → ∃ l, l.length = n ∧ Bk .u64 33 W' g l)
theorem KpR.refl (K : Nat → Prop) (g n : Nat) (W : World) : KpR K g n W W := ⟨KpB.refl _ _, fun h => h⟩
theorem KpR.trans {K : Nat → Prop} {g n : Nat} {a b c : World} (h : KpR K g n a b) (k : KpR K g n b c) : KpR K g n a c := ⟨h.1.trans k.1, fun x => k.2 (h.2 x)⟩
theorem KpR.put {K : Nat → Prop} {g n : Nat} {w : World} (hK : ∀ j, K j → j < w.heap.size) (W : World) (l : Nat) (o o' : Obj) (hl : w.heap.size ≤ l) (h : W.heap[l]? = some o) (h1 : o.isCells = false) (h2 : o.isWalk = false) : KpR K g n W (W.putObj l o') :=
  ⟨KpB.put hK W l o o' hl h h1 h2, fun ⟨m, hm, hb⟩ => ⟨m, hm, cells_kept hb (grownBy_putObj' W l o') (fun r e => by cases e; exact ⟨o, h, h1⟩)⟩⟩

set_option maxRecDepth 100000 in
set_option maxHeartbeats 2000000 in
theorem back2_in (F : Fence) (d : Nat) (hf : F.fn 27) (hro : F.round = none) (hd : 1 ≤ d) (l n Ba g : Nat) (K : Nat → Prop) (hn : n ≤ 1099511627776) (J Jx : List (Pl n × Nat) → World → Prop)
    (hY : ∀ pre (x : Pl n × Nat) W, J pre W → pre.length < n → YieldAt F (d - 1) Try.prog l #[.int .i64 (x.1.1 : Int), .int .u64 (x.2 : Int)] W fun e W' =>
      (e = .returned (.bool true) ∧ J (pre ++ [x]) W' ∧ KpR K g n W W') ∨ (e = .returned (.bool false) ∧ Jx (pre ++ [x]) W'))
    (W : World) (hKa : K Ba) (hBa : W.cell? ⟨Ba, 0, none⟩ = some (.slice (some ⟨g, 0, none⟩) n n))
    (hc : ∃ m, m.length = n ∧ Bk .u64 33 W g m) (h0 : J [] W) :
    CallsIn F d Try.prog 27 #[.func (.yield l) #[] #[], .pointer (some ⟨Ba, 0, none⟩)] W fun e W' => (∃ v, e = .returned v) ∧
      ((∃ ys, ys.map (·.1.1) = down n n ∧ J ys W') ∨ (∃ pre, (∃ k, k ≤ n ∧ pre.map (·.1.1) = down n k) ∧ Jx pre W')) := by
  refine callsIn_of_wp Try.func27 rfl hf ?_ hro
  simp only [Try.ntmps27, List.size_toArray, List.length_cons, List.length_nil, Nat.reduceAdd, Nat.reduceSub, Array.replicate_succ, Array.replicate_zero, List.push_toArray, List.append_toArray, List.nil_append, List.cons_append]
  have HC := Lib.hid hc
  have HY := Lib.hid hY
  have HKa := Lib.hid hKa
  have HBa := Lib.hid hBa
  have hni : (n : Int) ≤ 1099511627776 := by omega
  clear hc hY hn hKa
  gi_wp2
  gi_loopw [3] (fun i wr => ∃ (z : Int) (j : Nat) (pre : List (Pl n × Nat)), i = .int .i64 z ∧ z = (j : Int) - 1 ∧ j ≤ n ∧ Hid (pre.map (·.1.1) = down n (n - j)) ∧ J pre wr ∧ Hid (KpR K g n W wr)) (fun i _ => (intOf i + 1).toNat)
  case atStart => exact ⟨_, n, [], rfl, rfl, Nat.le_refl _, by show _ = _; rw [Nat.sub_self]; rfl, h0, KpR.refl _ _ _ _⟩
  case round =>
    obtain ⟨z, j, pre, rfl, hz, hj, hpre, hJs, hkp⟩ := hrel
    have hbx := (hkp.out.1.cell (p := ⟨Ba, 0, none⟩) HKa.out).trans HBa.out
    clear hBa
    by_cases h0 : j = 0
    · subst h0
      obtain rfl : z = -1 := by omega
      clear hz
      gi_wp2
      go_end0
      exact ⟨⟨_, rfl⟩, .inl ⟨_, by have := hpre.out; rwa [Nat.sub_zero] at this, hJs⟩⟩
    · obtain ⟨k, rfl⟩ : ∃ k, j = k + 1 := ⟨j - 1, by omega⟩
      obtain rfl : z = (k : Int) := by omega
      have hlt : k < n := hj
      have e1 : n - 1 - (n - (k + 1)) = k := by omega
      obtain ⟨m, hm, hbm⟩ := hkp.out.2 HC.out
      have hcx := hbm.cell k (by omega)
      obtain ⟨y, hy2⟩ : ∃ y, m[k]'(by omega) = y := ⟨_, rfl⟩
      rw [hy2] at hcx
      have hplen : pre.length < n := by
        have := congrArg List.length hpre.out
        rw [List.length_map, down_length] at this
        omega
      obtain ⟨fn, tmps, assign, body, hy, hR⟩ := HY.out pre (⟨k, hlt⟩, y) wr hJs hplen
      dsimp only at hy hR
      have EU : Hid ((pre ++ [((⟨k, hlt⟩ : Pl n), y)]).map (·.1.1) = down n (n - k)) := by
        have h1 := hpre.out
        show List.map _ (pre ++ [_]) = _
        rw [List.map_append, h1, show n - k = (n - (k + 1)) + 1 by omega]
        simp [down, List.range_succ, e1]
      have hlt' := Lib.hid hlt
      have b1 : (0 : Int) ≤ (k : Int) ∧ (k : Int) < (n : Int) := by omega
      have b2 : decide ((0 : Int) ≤ (k : Int)) = true := decide_eq_true (by omega)
      clear hz h0 hj e1 hm hbm hy2 hplen
      gi_wp2
      refine hR.mono ?_
      rintro e W3 (⟨rfl, hJ3, hk3⟩ | ⟨rfl, hJx3⟩)
      · gi_wp2
        go_roundw
        case rel => exact ⟨_, k, _, rfl, rfl, Nat.le_of_lt hlt'.out, EU.out, hJ3, hkp.out.trans hk3⟩
        case measure => simp [intOf] <;> omega
      · gi_wp2
        refine bodyPost_ret (results_none rfl _ _ _) rfl ?_
        exact ⟨⟨_, rfl⟩, .inr ⟨_, ⟨_, Nat.sub_le _ _, EU.out⟩, hJx3⟩⟩
theorem back2_stops (F : Fence) (d : Nat) (hf : F.fn 27) (hro : F.round = none) (hd : 1 ≤ d) (n Ba g : Nat) (K : Nat → Prop) (hn : n ≤ 1099511627776)
    (w : World) (hKa : K Ba) (hBa : w.cell? ⟨Ba, 0, none⟩ = some (.slice (some ⟨g, 0, none⟩) n n)) (hK : ∀ j, K j → j < w.heap.size) (hc : ∃ m, m.length = n ∧ Bk .u64 33 w g m) :
    SeqStopsK F d Try.prog 27 #[.pointer (some ⟨Ba, 0, none⟩)] (fun x : Pl n × Nat => #[.int .i64 (x.1.1 : Int), .int .u64 (x.2 : Int)]) (KpR K g n)
      (fun ys => ys.map (·.1.1) = down n n) (fun pre => ∃ k, k ≤ n ∧ pre.map (·.1.1) = down n k) n w := fun l J Jx W hW hJ hJx hY h0 =>
  back2_in F d hf hro hd l n Ba g K hn J Jx hY W hKa ((hW.cell (p := ⟨Ba, 0, none⟩) (hK _ hKa)).trans hBa)
    (by obtain ⟨m, h1, h2⟩ := hc; exact ⟨m, h1, (hW.block g h2.lt).trans h2⟩) h0
end Go.Proofs.Ytdoohlehglakfaa
