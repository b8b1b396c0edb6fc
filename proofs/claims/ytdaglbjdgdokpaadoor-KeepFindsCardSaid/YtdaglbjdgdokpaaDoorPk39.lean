/-
  Package keep: joined, Name. · The example at the head of layer 16's statements; KeepOrder.
-/
import Derived.Test.YtdaglbjdgdokpaaDoorPk14
import Derived.Test.YtdaglbjdgdokpaaDoorPk38
import Derived.Deep.RegionHeld3
import Derived.Test.YtdaglbjdgdokpaaDoorDkM
namespace Go.Proofs.YtdaglbjdgdokpaaDoor
open Go.RowKit
set_option linter.unusedVariables false
set_option linter.unusedSimpArgs false

theorem join_bare (xs : List (List UInt8)) : Lib.join xs [] = xs.flatten := by
  cases xs with
  | nil => rfl
  | cons x r =>
    rw [Lib.join_cons]
    unfold Lib.joinTail
    simp
set_option maxRecDepth 100000 in
theorem pjoined_any (bk c : Nat) (xs : List ByteArray) (w : World) (hc : ∀ (j : Nat) x, xs[j]? = some x → w.cell? ⟨bk, 0 + j, none⟩ = some (.string x)) (hb : bk < w.heap.size) (hN : xs.length ≤ 1000) (hcap : xs.length ≤ c) (hlen : ((xs.map (·.data.toList)).flatten).length ≤ 140737488355328) :
    Calls Tryd.prog 18 #[.slice (some ⟨bk, 0, none⟩) xs.length c] w fun e w' => e = .returned (.string ⟨((xs.map (·.data.toList)).flatten).toArray⟩) ∧ Bl w w' := by
  have K0 : Calls Tryd.prog 27 #[.slice (some ⟨bk, 0, none⟩) xs.length c, .string ⟨#[]⟩] w fun e w' => e = .returned (.string ⟨((xs.map (·.data.toList)).flatten).toArray⟩) ∧ Bl w w' := by
    have h := Any.strings_Join Tryd.lays156 Tryd.Builder_Extra_156 bk 0 c xs ⟨#[]⟩ w hc hb (by omega) hcap (by rw [join_bare]; exact hlen)
    refine Calls.mono h fun e w' hx => ⟨by rw [hx.1, join_bare], hx.2⟩
  obtain ⟨n, hn⟩ : ∃ n, xs.length = n := ⟨_, rfl⟩
  obtain ⟨R, hR⟩ : ∃ R, (⟨((xs.map (·.data.toList)).flatten).toArray⟩ : ByteArray) = R := ⟨_, rfl⟩
  rw [hn, hR] at K0 ⊢
  have K := Lib.hid K0
  clear K0 hc hb hN hcap hlen hn hR
  go_enter Tryd.func18, Tryd.ntmps18
  go_wp2_with (go_at_call 27; (with_reducible refine K.out.mono ?_); rintro e w1 ⟨rfl, hb⟩)
  go_ret
  exact ⟨rfl, hb⟩
theorem size_data (s : ByteArray) : s.data.toList.length = s.size := by rw [Array.length_toList]; rfl
theorem pjoined_four (w : World) (t : TypeId) (a b c d : ByteArray) (h : a.size + b.size + c.size + d.size ≤ 1048576) :
    Calls Tryd.prog 18 #[.slice (some ⟨w.heap.size, 0, none⟩) 4 4] (w.alloc (.cells #[.string a, .string b, .string c, .string d] t)) fun e w' => e = .returned (.string ⟨(a.data.toList ++ (b.data.toList ++ (c.data.toList ++ d.data.toList))).toArray⟩) ∧ Bl (w.alloc (.cells #[.string a, .string b, .string c, .string d] t)) w' := by
  have e : (([a, b, c, d] : List ByteArray).map (·.data.toList)).flatten = a.data.toList ++ (b.data.toList ++ (c.data.toList ++ d.data.toList)) := by simp
  have hb := Bq.new w t [.string a, .string b, .string c, .string d]
  refine (pjoined_any w.heap.size 4 [a, b, c, d] (w.alloc (.cells #[.string a, .string b, .string c, .string d] t)) ?_ ?_ (by simp) (by simp) ?_).mono fun e' w' hx => ⟨by rw [hx.1, e], hx.2⟩
  · intro j x hj
    rw [Nat.zero_add]
    match j, hj with
    | 0, hj => simp at hj; subst hj; exact hb.cell 0 rfl
    | 1, hj => simp at hj; subst hj; exact hb.cell 1 rfl
    | 2, hj => simp at hj; subst hj; exact hb.cell 2 rfl
    | 3, hj => simp at hj; subst hj; exact hb.cell 3 rfl
  · rw [World.size_alloc]; omega
  · rw [e]
    simp only [List.length_append, size_data]
    omega
set_option maxRecDepth 100000 in
set_option maxHeartbeats 2000000 in
theorem pName_any (n m : Nat) (hn : n ≤ 9223372036854775807) (hm : m ≤ 9223372036854775807) (w : World) (hT : PowT w) : Calls Tryd.prog 10 #[.agg #[.int .i64 (n : Int), .int .i64 (m : Int)]] w fun e w' => e = .returned (.string (nmB n m)) ∧ Bl w w' := by
  have KN := Lib.hid (fun W g => pdecimal_any n hn W (hT.bl g))
  have KM := Lib.hid (fun W g => pdecimal_any m hm W (hT.bl g))
  have ln := figs_len (n := n) (by omega)
  have lm := figs_len (n := m) (by omega)
  have e : (⟨((⟨#[99]⟩ : ByteArray).data.toList ++ ((bs (figs n)).data.toList ++ ((⟨#[45]⟩ : ByteArray).data.toList ++ (bs (figs m)).data.toList))).toArray⟩ : ByteArray) = nmB n m := by
    unfold nmB nmL
    rw [show ((n : Int)).toNat = n from rfl, show ((m : Int)).toNat = m from rfl]
    unfold bs
    simp
  obtain ⟨N, eN⟩ : ∃ N, bs (figs n) = N := ⟨_, rfl⟩
  obtain ⟨M, eM⟩ : ∃ M, bs (figs m) = M := ⟨_, rfl⟩
  have sN : N.size ≤ 19 := by rw [← eN, bs_size]; exact ln
  have sM : M.size ≤ 19 := by rw [← eM, bs_size]; exact lm
  have KJ0 := fun W t => pjoined_four W t ⟨#[99]⟩ N ⟨#[45]⟩ M (by show 1 + _ + 1 + _ ≤ _; omega)
  rw [eN, eM] at e
  rw [eN] at KN
  rw [eM] at KM
  obtain ⟨RR, hRR⟩ : ∃ RR, nmB n m = RR := ⟨_, rfl⟩
  rw [hRR] at e ⊢
  rw [e] at KJ0
  have KJ := Lib.hid KJ0
  clear KJ0 e hRR eN eM ln lm sN sM hT
  go_enter Tryd.func10, Tryd.ntmps10
  go_wp2
  have HQ0 : Hid (((w.alloc (.cells #[.int .i64 (n : Int), .int .i64 (m : Int)] 34)).cell? ⟨w.heap.size, 0, none⟩ = some (.int .i64 (n : Int)) ∧ (w.alloc (.cells #[.int .i64 (n : Int), .int .i64 (m : Int)] 34)).cell? ⟨w.heap.size, 1, none⟩ = some (.int .i64 (m : Int)) ∧ w.heap.size < (w.alloc (.cells #[.int .i64 (n : Int), .int .i64 (m : Int)] 34)).heap.size ∧ Bl w (w.alloc (.cells #[.int .i64 (n : Int), .int .i64 (m : Int)] 34)))) := by
    have h := Bq.new w 34 [.int .i64 (n : Int), .int .i64 (m : Int)]
    exact ⟨h.cell 0 rfl, h.cell 1 rfl, h.lt, (Bl.refl w).alloc _⟩
  go_region_held3 (fun W => W.cell? ⟨w.heap.size, 0, none⟩ = some (.int .i64 (n : Int)) ∧ W.cell? ⟨w.heap.size, 1, none⟩ = some (.int .i64 (m : Int)) ∧ w.heap.size < W.heap.size ∧ Bl w W)
    (first | assumption | exact HQ0.out | exact keepA HQ0.out (Bl.refl _).drew | exact keepA ‹_› hb | exact keepA ‹_› ((Bl.refl _).alloc _) | exact keepA ‹_› hb3)
    (first
     | (go_at_call 19; (with_reducible refine (KN.out _ (And.right (And.right (And.right (by assumption))))).mono ?_); rintro e w1 ⟨rfl, hb⟩)
     | (go_at_call 19; (with_reducible refine (KM.out _ (And.right (And.right (And.right (by assumption))))).mono ?_); rintro e w2 ⟨rfl, hb⟩)
     | (go_at_call 18; (with_reducible refine (KJ.out _ _).mono ?_); rintro e w3 ⟨rfl, hb3⟩))
  go_wp2
  go_ret
  exact ⟨rfl, And.right (And.right (And.right (by assumption)))⟩
end Go.Proofs.YtdaglbjdgdokpaaDoor
namespace Go.Proofs.YtdaglbjdgdokpaaDoor
open Go.RowKit
set_option linter.unusedVariables false
set_option linter.unusedSimpArgs false

theorem nm_8_16 : nmB ((8 : Nat) : Int) ((16 : Nat) : Int) = ⟨#[99, 56, 45, 49, 54]⟩ := by
  unfold nmB nmL
  rw [show (((8 : Nat) : Int)).toNat = 8 from rfl, show (((16 : Nat) : Int)).toNat = 16 from rfl, figs_small (show 8 < 10 by decide), figs_big (show ¬ 16 < 10 by decide), figs_small (show 16 / 10 < 10 by decide)]
  rfl
set_option maxRecDepth 100000 in
theorem shown16 (w : World) (hT : PowT w) : Calls Tryd.prog 5 #[] w fun e w' => e = .returned (.bool true) ∧ Bl w w' := by
  have K0 := pName_any 8 16 (by decide) (by decide) w hT
  rw [nm_8_16] at K0
  have K : Hid (Calls Tryd.prog 10 #[.agg #[.int .i64 8, .int .i64 16]] w fun e w' => e = .returned (.string ⟨#[99, 56, 45, 49, 54]⟩) ∧ Bl w w') := K0
  clear K0 hT
  go_enter Tryd.func5, Tryd.ntmps5
  go_wp2_with (go_at_call 10; (with_reducible refine K.out.mono ?_); rintro e w1 ⟨rfl, hb⟩)
  go_ret
  exact ⟨by first | rfl | simp, hb⟩
theorem two_r (w : World) (t0 t1 : TypeId) (c0 c1 : List Value) : Bq ((w.alloc (.cells c0.toArray t0)).alloc (.cells c1.toArray t1)) w.heap.size t0 c0 ∧ Bq ((w.alloc (.cells c0.toArray t0)).alloc (.cells c1.toArray t1)) (w.heap.size + 1) t1 c1 := by
  have h1 := Bq.new (w.alloc (.cells c0.toArray t0)) t1 c1
  rw [World.size_alloc] at h1
  exact ⟨(Bq.new w t0 c0).alloc _, h1⟩
theorem keepC {w0 W w : World} {b c : Nat} {v0 v1 v2 v3 : Value} (h : W.cell? ⟨b, 0, none⟩ = some v0 ∧ W.cell? ⟨b, 1, none⟩ = some v1 ∧ W.cell? ⟨c, 0, none⟩ = some v2 ∧ W.cell? ⟨c, 1, none⟩ = some v3 ∧ b < W.heap.size ∧ c < W.heap.size ∧ Bl w0 W) (g : Bl W w) :
    w.cell? ⟨b, 0, none⟩ = some v0 ∧ w.cell? ⟨b, 1, none⟩ = some v1 ∧ w.cell? ⟨c, 0, none⟩ = some v2 ∧ w.cell? ⟨c, 1, none⟩ = some v3 ∧ b < w.heap.size ∧ c < w.heap.size ∧ Bl w0 w := by
  obtain ⟨h0, h1, h2, h3, hb, hc, hg⟩ := h
  exact ⟨(g.cell (p := ⟨b, 0, none⟩) hb).trans h0, (g.cell (p := ⟨b, 1, none⟩) hb).trans h1, (g.cell (p := ⟨c, 0, none⟩) hc).trans h2, (g.cell (p := ⟨c, 1, none⟩) hc).trans h3, Nat.lt_of_lt_of_le hb g.size, Nat.lt_of_lt_of_le hc g.size, hg.trans g⟩
theorem keql_range (a b c d : Int) (w : World) : (binOp .eql 34 (.agg #[.int .i64 a, .int .i64 b]) (.agg #[.int .i64 c, .int .i64 d])).run Tryd.prog w = .ok (.bool (a == c && b == d)) w := by
  go_simp
  by_cases h1 : a = c <;> by_cases h2 : b = d <;> simp [h1, h2]
theorem eql_string (A B : ByteArray) (w : World) : (binOp .eql 9 (.string A) (.string B)).run Tryd.prog w = .ok (.bool (sEq A B)) w := by
  go_simp
  rfl
theorem nm_head (n m : Nat) (W : World) : (Instr.index 9 (.string (nmB n m)) (.int .i64 0)).run Tryd.prog W = .ok (.int .u8 99) W := by
  obtain ⟨r, hr⟩ : ∃ r : List UInt8, nmB n m = ⟨⟨99 :: r⟩⟩ := ⟨_, rfl⟩
  rw [hr, run_index_string W 9 _ .i64 0 Tryd.underlying9, dif_pos ⟨by decide, by show (0 : Int) < ((r.length + 1 : Nat) : Int); omega⟩]
  rfl
set_option maxRecDepth 100000 in
set_option maxHeartbeats 2000000 in
theorem keepOrder_walk (f t : Int) (hf : -9223372036854775808 ≤ f ∧ f ≤ 9223372036854775807) (ht : -9223372036854775808 ≤ t ∧ t ≤ 9223372036854775807) (g u : Int) (hg : -9223372036854775808 ≤ g ∧ g ≤ 9223372036854775807) (hu : -9223372036854775808 ≤ u ∧ u ≤ 9223372036854775807) (w : World) (hT : PowT w) :
    Calls Tryd.prog 4 #[.agg #[.int .i64 f, .int .i64 t], .agg #[.int .i64 g, .int .i64 u]] w fun e w' => e = .returned (.bool true) ∧ Bl w w' := by
  have KS := Lib.hid (fun W hb => shown16 W (hT.bl hb))
  have C0 := Lib.hid (two_r w 34 34 [.int .i64 f, .int .i64 t] [.int .i64 g, .int .i64 u])
  by_cases h0 : 0 ≤ f ∧ 0 ≤ t ∧ 0 ≤ g ∧ 0 ≤ u
  · obtain ⟨n, rfl⟩ : ∃ n : Nat, f = n := ⟨f.toNat, by omega⟩
    obtain ⟨m, rfl⟩ : ∃ m : Nat, t = m := ⟨t.toNat, by omega⟩
    obtain ⟨k, rfl⟩ : ∃ k : Nat, g = k := ⟨g.toNat, by omega⟩
    obtain ⟨l, rfl⟩ : ∃ l : Nat, u = l := ⟨u.toNat, by omega⟩
    have KA := Lib.hid (fun W hb => pName_any n m (by omega) (by omega) W (hT.bl hb))
    have KB := Lib.hid (fun W hb => pName_any k l (by omega) (by omega) W (hT.bl hb))
    have hij : (nmB n m = nmB k l) ↔ (n = k ∧ m = l) := ⟨fun e => by have := nmB_inj (by omega) (by omega) (by omega) (by omega) e; omega, fun h => by rw [h.1, h.2]⟩
    have xi := nm_head n m
    have xe := eql_string (nmB n m) (nmB k l)
    have xr := keql_range n m k l
    have er : ((n : Int) == (k : Int) && (m : Int) == (l : Int)) = sEq (nmB n m) (nmB k l) := by
      rw [Bool.eq_iff_iff, sEq_iff, hij, Bool.and_eq_true, beq_iff_eq, beq_iff_eq]
      omega
    rw [er] at xr
    obtain ⟨A, hA⟩ : ∃ A, nmB n m = A := ⟨_, rfl⟩
    obtain ⟨B, hB⟩ : ∃ A, nmB k l = A := ⟨_, rfl⟩
    rw [hA] at KA xi xe xr
    rw [hB] at KB xe xr
    obtain ⟨r, hr⟩ : ∃ r, sEq A B = r := ⟨_, rfl⟩
    rw [hr] at xe xr
    have xb : (A.toList == B.toList) = r := hr
    clear hij er hA hB hr hT
    cases r
    all_goals
      clear hf ht hg hu h0
      go_enter Tryd.func4, Tryd.ntmps4
      go_wp2_with (first
        | (go_at_call 5; (with_reducible refine (KS.out _ (((Bl.refl w).alloc _).alloc _)).mono ?_); rintro e w1 ⟨rfl, hb1⟩; have C1 := Lib.hid (C0.out.1.bl hb1); have D1 := Lib.hid (C0.out.2.bl hb1); have G1 := Lib.hid ((((Bl.refl w).alloc _).alloc _).trans hb1); have c0 := C1.out.cell 0 rfl; have c1 := C1.out.cell 1 rfl; have d0 := D1.out.cell 0 rfl; have d1 := D1.out.cell 1 rfl; clear hb1))
      have HQ0 : Hid (w1.cell? ⟨w.heap.size, 0, none⟩ = some (.int .i64 (n : Int)) ∧ w1.cell? ⟨w.heap.size, 1, none⟩ = some (.int .i64 (m : Int)) ∧ w1.cell? ⟨w.heap.size + 1, 0, none⟩ = some (.int .i64 (k : Int)) ∧ w1.cell? ⟨w.heap.size + 1, 1, none⟩ = some (.int .i64 (l : Int)) ∧ w.heap.size < w1.heap.size ∧ w.heap.size + 1 < w1.heap.size ∧ Bl w w1) := ⟨c0, c1, d0, d1, C1.out.lt, D1.out.lt, G1.out⟩
      go_region_held3 (fun W => W.cell? ⟨w.heap.size, 0, none⟩ = some (.int .i64 (n : Int)) ∧ W.cell? ⟨w.heap.size, 1, none⟩ = some (.int .i64 (m : Int)) ∧ W.cell? ⟨w.heap.size + 1, 0, none⟩ = some (.int .i64 (k : Int)) ∧ W.cell? ⟨w.heap.size + 1, 1, none⟩ = some (.int .i64 (l : Int)) ∧ w.heap.size < W.heap.size ∧ w.heap.size + 1 < W.heap.size ∧ Bl w W)
        (first | assumption | exact HQ0.out | exact keepC HQ0.out (Bl.refl _).drew | exact keepC ‹_› hb)
        (first
         | (go_at_call 10; (with_reducible refine (KA.out _ (And.right (And.right (And.right (And.right (And.right (And.right (by assumption)))))))).mono ?_); rintro e w2 ⟨rfl, hb⟩)
         | (go_at_call 10; (with_reducible refine (KB.out _ (And.right (And.right (And.right (And.right (And.right (And.right (by assumption)))))))).mono ?_); rintro e w3 ⟨rfl, hb⟩))
      go_wp2
      go_ret
      exact ⟨by first | rfl | simp, And.right (And.right (And.right (And.right (And.right (And.right (by assumption))))))⟩
  · have hs : f < 0 ∨ 0 ≤ f ∧ t < 0 ∨ 0 ≤ f ∧ 0 ≤ t ∧ g < 0 ∨ 0 ≤ f ∧ 0 ≤ t ∧ 0 ≤ g ∧ u < 0 := by omega
    clear hf ht hg hu h0
    rcases hs with h1 | ⟨h1, h2⟩ | ⟨h1, h2, h3⟩ | ⟨h1, h2, h3, h4⟩
    all_goals
      go_enter Tryd.func4, Tryd.ntmps4
      go_wp2_with (first
        | (go_at_call 5; (with_reducible refine (KS.out _ (((Bl.refl w).alloc _).alloc _)).mono ?_); rintro e w1 ⟨rfl, hb1⟩; have C1 := Lib.hid (C0.out.1.bl hb1); have D1 := Lib.hid (C0.out.2.bl hb1); have G1 := Lib.hid ((((Bl.refl w).alloc _).alloc _).trans hb1); have c0 := C1.out.cell 0 rfl; have c1 := C1.out.cell 1 rfl; have d0 := D1.out.cell 0 rfl; have d1 := D1.out.cell 1 rfl; clear hb1))
      go_ret
      exact ⟨rfl, G1.out⟩
end Go.Proofs.YtdaglbjdgdokpaaDoor
