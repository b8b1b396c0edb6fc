/-
  append(r, make([]T, n)...): noughts appended to a row of the call's own.
-/
import Derived.Test.YteoeaogfeblokaaNtK
import Derived.Lib.AppendZeros
import Derived.Laws.BitsLemmas
namespace Go.Proofs.Yteoeaogfeblokaa
open Go.RowKit
set_option linter.unusedVariables false
set_option linter.unusedSimpArgs false

theorem zeros_vs (k : IntKind) (n : Nat) : Builtin.zeroCells (Value.int k 0).cells n = (vs k (List.replicate n 0)).toArray := by
  have h1 : (Value.int k 0).cells = #[.int k 0] := rfl
  rw [h1]
  apply Array.ext'
  simp [Builtin.zeroCells, vs, Nat.mod_one]
  rw [List.map_const', List.length_range]
section
variable {P : Program} (w : World)
theorem run_zeros_room (k kn : IntKind) (t tn ty e : TypeId) (i : TypeInfo) (ht : P.underlying t = some (.slice e)) (htn : P.underlying tn = some (.int kn)) (hi : P.info? e = some i) (hz : i.zero = some (.int k 0)) (hs : i.size = 1) (hb8 : i.bytes ≤ 8)
    (g sLen sCap : Nat) (cur : Array Value) (hg : w.heap[g]? = some (.cells cur e (0, 0))) (n : Nat) (hroom : sLen + n ≤ sCap) (hfit : sLen + n ≤ cur.size) (hn : n < 1099511627776) :
    (Builtin.append_ #[t, tn] ty #[.slice (some ⟨g, 0, none⟩) sLen sCap, .int .i64 (n : Int)]).run P w =
      .ok (.slice (some ⟨g, 0, none⟩) (sLen + n) sCap) (w.setRow g (cur.toList.take sLen ++ vs k (List.replicate n 0) ++ cur.toList.drop (sLen + n)).toArray) := by
  have hw : IntKind.i64.wrap (n : Int) = n := by rw [IntKind.wrap_i64]; omega
  have hb : i.bytes * n ≤ 8 * n := Nat.mul_le_mul_right _ hb8
  have h48i : ¬ (281474976710656 < (n : Int) * (i.bytes : Int)) := by
    rw [← Int.natCast_mul, Nat.mul_comm]
    omega
  have hneg : ¬ ((n : Int) < 0) := by omega
  have h1 : ∀ u ∈ vs k (List.replicate n 0), u.oneCell' = true := by intro u hu; simp [vs] at hu; rw [hu.2]; rfl
  have hst := run_storeCells_at P g sLen e (vs k (List.replicate n 0)) 0 cur w hg (by simp [vs_length]; omega) h1
  simp only [Nat.add_zero, vs_length, List.length_replicate] at hst
  have hzc := zeros_vs k n
  rcases Nat.eq_zero_or_pos n with h0 | h0
  · subst h0
    have e0 : vs k (List.replicate 0 0) = [] := rfl
    rw [e0] at hst ⊢
    have hw0 : IntKind.i64.wrap 0 = 0 := rfl
    simp [storeCells] at hst hroom
    simp [Builtin.append_, run_underlying ht, run_underlying htn, sizeOf, typeInfo, zeroValue, hi, hz, hs, asInt, asIntOf, hw0, Question.forced, hroom, storeCells, Addr.add_lit]
    exact hst
  · have hn0 : n ≠ 0 := by omega
    simp [Builtin.append_, run_underlying ht, run_underlying htn, sizeOf, typeInfo, zeroValue, hi, hz, hs, asInt, asIntOf, hw, hneg, h48i, hn0, Question.forced, hroom, hzc, Addr.add_lit, hst]
theorem run_zeros_grow (k kn : IntKind) (t tn ty e : TypeId) (i : TypeInfo) (ht : P.underlying t = some (.slice e)) (htn : P.underlying tn = some (.int kn)) (hi : P.info? e = some i) (hz : i.zero = some (.int k 0)) (hs : i.size = 1) (hb8 : i.bytes ≤ 8)
    (b : Option Addr) (sLen sCap : Nat) (olds : List Value) (hold : (Builtin.firstCells 1 sLen (.slice b sLen sCap)).run P w.drew = .ok olds.toArray w.drew) (n : Nat) (hg : sCap < sLen + n) (hn : sLen + n < 1099511627776) :
    (Builtin.append_ #[t, tn] ty #[.slice b sLen sCap, .int .i64 (n : Int)]).run P w =
      .ok (.slice (some ⟨w.heap.size, 0, none⟩) (sLen + n) (grownCap w (sLen + n) sCap e))
        (w.drew.alloc (.cells (olds.toArray ++ (vs k (List.replicate n 0)).toArray ++ Builtin.zeroCells (Value.int k 0).cells (grownCap w (sLen + n) sCap e - (sLen + n))) e)) := by
  have hw : IntKind.i64.wrap (n : Int) = n := by rw [IntKind.wrap_i64]; omega
  have hb : i.bytes * n ≤ 8 * n := Nat.mul_le_mul_right _ hb8
  have h48i : ¬ (281474976710656 < (n : Int) * (i.bytes : Int)) := by
    rw [← Int.natCast_mul, Nat.mul_comm]
    omega
  have hneg : ¬ ((n : Int) < 0) := by omega
  have hng : ¬ (sLen + n ≤ sCap) := by omega
  have h63' : ¬ (9223372036854775807 < ((sLen : Int) + (n : Int))) := by omega
  have hfit := growslice_fits (bytes := i.bytes) hg (by have : (sLen + n) * i.bytes ≤ (sLen + n) * 8 := Nat.mul_le_mul_left _ hb8; omega)
  have h48' : ¬ (281474976710656 < Builtin.nextslicecap (sLen + n) sCap * i.bytes) := by omega
  have hzc := zeros_vs k n
  rcases Nat.eq_zero_or_pos n with h0 | h0
  · subst h0
    have hw0 : IntKind.i64.wrap 0 = 0 := rfl
    simp at hng h63' h48'
    have hng' : ¬ (sLen ≤ sCap) := by omega
    have h63'' : ¬ (9223372036854775807 < (sLen : Int)) := by omega
    have h48'' : ¬ (281474976710656 < Builtin.nextslicecap sLen sCap * i.bytes) := by omega
    simp [Builtin.append_, run_underlying ht, run_underlying htn, sizeOf, typeInfo, zeroValue, hi, hz, hs, asInt, asIntOf, hw0, hng', h63'', h48'', Question.forced, hold, newRow, grownCap, vs]
  · have hn0 : n ≠ 0 := by omega
    simp [Builtin.append_, run_underlying ht, run_underlying htn, sizeOf, typeInfo, zeroValue, hi, hz, hs, asInt, asIntOf, hw, hneg, h48i, hn0, hng, h63', h48', Question.forced, hold, hzc, newRow, grownCap]
    try (congr 2; apply Array.ext'; simp [List.append_assoc])
theorem run_zeros_own (k kn : IntKind) (t tn ty e : TypeId) (i : TypeInfo) (ht : P.underlying t = some (.slice e)) (htn : P.underlying tn = some (.int kn)) (hi : P.info? e = some i) (hz : i.zero = some (.int k 0)) (hs : i.size = 1) (hb8 : i.bytes ≤ 8)
    (base : Nat) (v : Value) (l : List Nat) (hown : Ow k e base w v l) (n : Nat) (hn : l.length + n < 1099511627776) (hbase : base ≤ w.heap.size) :
    ∃ v' w', (Builtin.append_ #[t, tn] ty #[v, .int .i64 (n : Int)]).run P w = .ok v' w' ∧ Ow k e base w' v' (l ++ List.replicate n 0) ∧ w.grownBy w' v.ownBlock := by
  have hlen : (vs k (l ++ List.replicate n 0)).length = (l ++ List.replicate n 0).length * 1 := by rw [vs_length, Nat.mul_one]
  have hsplit : vs k (l ++ List.replicate n 0) = vs k l ++ vs k (List.replicate n 0) := by simp [vs]
  have hll : (l ++ List.replicate n 0).length = l.length + n := by simp
  have hm : l.length + n ≤ maxLen := by unfold maxLen; omega
  have grown : ∀ (old : Nat) (row : Option Nat), Ow k e base (w.drew.alloc (.cells ((vs k l).toArray ++ (vs k (List.replicate n 0)).toArray ++ Builtin.zeroCells (Value.int k 0).cells (grownCap w (l.length + n) old e - (l.length + n))) e))
        (.slice (some ⟨w.heap.size, 0, none⟩) (l.length + n) (grownCap w (l.length + n) old e)) (l ++ List.replicate n 0) ∧
      w.grownBy (w.drew.alloc (.cells ((vs k l).toArray ++ (vs k (List.replicate n 0)).toArray ++ Builtin.zeroCells (Value.int k 0).cells (grownCap w (l.length + n) old e - (l.length + n))) e)) row := by
    intro old row
    have hge := grownCap_ge w (l.length + n) old e
    have hcm : grownCap w (l.length + n) old e ≤ maxLen := grownCap_le_maxLen w (l.length + n) old e hm
    refine ⟨⟨hlen, .inr ⟨w.heap.size, _, _, by rw [hll], hbase, heap_alloc_new w.drew _, by rw [hll]; exact hge, hcm, ?_, ?_⟩⟩, ⟨rfl, rfl, rfl, by simp, fun k hk _ => heap_alloc_old w.drew _ hk⟩⟩
    · rw [zeros_vs]
      simp only [Array.size_append, List.size_toArray, vs_length, List.length_replicate]
      omega
    · rw [zeros_vs, hsplit, hll]
      simp only [Array.toList_append, List.append_assoc, Nat.mul_one]
      rw [← List.append_assoc, List.take_left' (by simp [vs_length])]
  obtain ⟨_, h2⟩ := hown
  rcases h2 with ⟨rfl, h0⟩ | ⟨g, cap, cur, rfl, hbg, hg, hc, hcm, hcs, htake⟩
  · have hl0 : l = [] := List.length_eq_zero_iff.1 h0
    subst hl0
    rcases Nat.eq_zero_or_pos n with hn0 | hn0
    · subst hn0
      refine ⟨.slice none 0 0, w, ?_, Ow.nil k e base w, ⟨rfl, rfl, rfl, Nat.le_refl _, fun _ _ _ => rfl⟩⟩
      have hw0 : IntKind.i64.wrap 0 = 0 := rfl
      simp [Builtin.append_, run_underlying ht, run_underlying htn, sizeOf, typeInfo, zeroValue, hi, hz, hs, asInt, asIntOf, hw0, Question.forced, storeCells]
    · have hr := run_zeros_grow (P := P) w k kn t tn ty e i ht htn hi hz hs hb8 none 0 0 [] (run_firstCells_none w.drew 1 0 0 0) n (by omega) (by simpa using hn)
      have hgr := grown 0 (Value.ownBlock (.slice none 0 0))
      simp only [Nat.zero_add, List.length_nil] at hr hgr
      exact ⟨_, _, hr, hgr.1, hgr.2⟩
  · by_cases hroom : l.length + n ≤ cap
    · have hr := run_zeros_room (P := P) w k kn t tn ty e i ht htn hi hz hs hb8 g l.length cap cur hg n hroom (by omega) (by omega)
      refine ⟨_, _, hr, ⟨hlen, .inr ⟨g, cap, _, by rw [hll], hbg, setRow_heap w g cur _ e _ hg, by rw [hll]; exact hroom, hcm, ?_, ?_⟩⟩, ⟨rfl, rfl, rfl, by simp, fun k _ hk => setRow_other w g k _ (fun e => hk (by simp [Value.ownBlock, e]))⟩⟩
      · simp only [List.size_toArray, List.length_append, List.length_take, List.length_drop, Array.length_toList, vs_length, List.length_replicate]
        omega
      · rw [Nat.mul_one] at htake
        rw [htake, hsplit, Nat.mul_one, hll, List.take_left' (by simp [vs_length])]
    · have holds : ∀ j u, (vs k l)[j]? = some u → w.cell? ((⟨g, 0, none⟩ : Addr).add j) = some u := World.ownsRow.cells (g := g) (show w.ownsRow base e 1 (.slice (some ⟨g, 0, none⟩) l.length cap) l.length (vs k l) from ⟨by rw [vs_length, Nat.mul_one], .inr ⟨g, cap, cur, rfl, hbg, hg, hc, hcm, hcs, htake⟩⟩) rfl
      have hfo := run_firstCells_some (P := P) w.drew 1 l.length ⟨g, 0, none⟩ l.length cap (vs k l) (by rw [vs_length, Nat.mul_one]) (by simpa using holds)
      have hr := run_zeros_grow (P := P) w k kn t tn ty e i ht htn hi hz hs hb8 (some ⟨g, 0, none⟩) l.length cap (vs k l) hfo n (by omega) hn
      have hgr := grown cap (Value.ownBlock (.slice (some ⟨g, 0, none⟩) l.length cap))
      exact ⟨_, _, hr, hgr.1, hgr.2⟩
end
/-- Noughts appended to a row of the call's own, as many as a number says. -/
theorem app_zeros {P : Program} {ops : Array Oper} {rest : List Oper} {o : Oper} {a : Act} {Q : Exit → Act → World → Prop} (W w : World) (k kn : IntKind) (t tn e : TypeId) (i : TypeInfo)
    (ht : P.underlying t = some (.slice e)) (htn : P.underlying tn = some (.int kn)) (hi : P.info? e = some i) (hz : i.zero = some (.int k 0)) (hs : i.size = 1) (hb8 : i.bytes ≤ 8)
    (hgd : o.guard = none) (s x : Operand) (ho : o.op = .call { callee := .builtin .append, args := #[s, x], argTypes := #[t, tn] })
    (v : Value) (l : List Nat) (n : Nat) (hv : a.eval s = v) (hx : a.eval x = .int .i64 (n : Int)) (hown : Ow k e W.heap.size w v l) (hbl : Bl W w) (hl : l.length + n < 1099511627776)
    (h : ∀ v' w', Hid (Ow k e W.heap.size w' v' (l ++ List.replicate n 0)) → Hid (Bl W w') → wpList P ops Q rest (a.put o.dst v') w') : wpList P ops Q (o :: rest) a w := by
  obtain ⟨v', w', hr, h1, h2⟩ := run_zeros_own (P := P) w k kn t tn o.type e i ht htn hi hz hs hb8 W.heap.size v l hown n hl hbl.size
  exact Lib.wpList_append_run w hgd s x t tn ho v (.int .i64 (n : Int)) hv hx v' w' hr (h v' w' h1 (hbl.grown h2 (fun g hg => (World.ownsRow.lt hown g hg).1)))
end Go.Proofs.Yteoeaogfeblokaa
