/-
  Package keep: joined, Name.
-/
import Derived.Test.YtdaglbjdgdokpaaDoorKpA
import Derived.Test.YtdaglbjdgdokpaaDoorKpC
import Derived.Deep.RegionHeld3
namespace Go.Proofs.YtdaglbjdgdokpaaDoor
open Go.RowKit
set_option linter.unusedVariables false
set_option linter.unusedSimpArgs false

theorem join_bare (xs : List (List UInt8)) : Lib.join xs [] = xs.flatten := by
  cases xs with
  | nil => rfl
  | cons x r =>
    rw [Lib.join_cons]
    unfold Lib.joinTail
    simp
set_option maxRecDepth 100000 in
theorem pjoined_any (bk c : Nat) (xs : List ByteArray) (w : World) (hc : ∀ (j : Nat) x, xs[j]? = some x → w.cell? ⟨bk, 0 + j, none⟩ = some (.string x)) (hb : bk < w.heap.size) (hN : xs.length ≤ 1000) (hcap : xs.length ≤ c) (hlen : ((xs.map (·.data.toList)).flatten).length ≤ 140737488355328) :
    Calls Tryd.prog 18 #[.slice (some ⟨bk, 0, none⟩) xs.length c] w fun e w' => e = .returned (.string ⟨((xs.map (·.data.toList)).flatten).toArray⟩) ∧ Bl w w' := by
  have K0 : Calls Tryd.prog 27 #[.slice (some ⟨bk, 0, none⟩) xs.length c, .string ⟨#[]⟩] w fun e w' => e = .returned (.string ⟨((xs.map (·.data.toList)).flatten).toArray⟩) ∧ Bl w w' := by
    have h := Any.strings_Join Tryd.lays156 Tryd.Builder_Extra_156 bk 0 c xs ⟨#[]⟩ w hc hb (by omega) hcap (by rw [join_bare]; exact hlen)
    refine Calls.mono h fun e w' hx => ⟨by rw [hx.1, join_bare], hx.2⟩
  obtain ⟨n, hn⟩ : ∃ n, xs.length = n := ⟨_, rfl⟩
  obtain ⟨R, hR⟩ : ∃ R, (⟨((xs.map (·.data.toList)).flatten).toArray⟩ : ByteArray) = R := ⟨_, rfl⟩
  rw [hn, hR] at K0 ⊢
  have K := Lib.hid K0
  clear K0 hc hb hN hcap hlen hn hR
  go_enter Tryd.func18, Tryd.ntmps18
  go_wp2_with (go_at_call 27; (with_reducible refine K.out.mono ?_); rintro e w1 ⟨rfl, hb⟩)
  go_ret
  exact ⟨rfl, hb⟩
theorem size_data (s : ByteArray) : s.data.toList.length = s.size := by rw [Array.length_toList]; rfl
theorem pjoined_four (w : World) (t : TypeId) (a b c d : ByteArray) (h : a.size + b.size + c.size + d.size ≤ 1048576) :
    Calls Tryd.prog 18 #[.slice (some ⟨w.heap.size, 0, none⟩) 4 4] (w.alloc (.cells #[.string a, .string b, .string c, .string d] t)) fun e w' => e = .returned (.string ⟨(a.data.toList ++ (b.data.toList ++ (c.data.toList ++ d.data.toList))).toArray⟩) ∧ Bl (w.alloc (.cells #[.string a, .string b, .string c, .string d] t)) w' := by
  have e : (([a, b, c, d] : List ByteArray).map (·.data.toList)).flatten = a.data.toList ++ (b.data.toList ++ (c.data.toList ++ d.data.toList)) := by simp
  have hb := Bq.new w t [.string a, .string b, .string c, .string d]
  refine (pjoined_any w.heap.size 4 [a, b, c, d] (w.alloc (.cells #[.string a, .string b, .string c, .string d] t)) ?_ ?_ (by simp) (by simp) ?_).mono fun e' w' hx => ⟨by rw [hx.1, e], hx.2⟩
  · intro j x hj
    rw [Nat.zero_add]
    match j, hj with
    | 0, hj => simp at hj; subst hj; exact hb.cell 0 rfl
    | 1, hj => simp at hj; subst hj; exact hb.cell 1 rfl
    | 2, hj => simp at hj; subst hj; exact hb.cell 2 rfl
    | 3, hj => simp at hj; subst hj; exact hb.cell 3 rfl
  · rw [World.size_alloc]; omega
  · rw [e]
    simp only [List.length_append, size_data]
    omega
set_option maxRecDepth 100000 in
set_option maxHeartbeats 2000000 in
theorem pName_any (n m : Nat) (hn : n ≤ 9223372036854775807) (hm : m ≤ 9223372036854775807) (w : World) (hT : PowT w) : Calls Tryd.prog 10 #[.agg #[.int .i64 (n : Int), .int .i64 (m : Int)]] w fun e w' => e = .returned (.string (nmB n m)) ∧ Bl w w' := by
  have KN := Lib.hid (fun W g => pdecimal_any n hn W (hT.bl g))
  have KM := Lib.hid (fun W g => pdecimal_any m hm W (hT.bl g))
  have ln := figs_len (n := n) (by omega)
  have lm := figs_len (n := m) (by omega)
  have e : (⟨((⟨#[99]⟩ : ByteArray).data.toList ++ ((bs (figs n)).data.toList ++ ((⟨#[45]⟩ : ByteArray).data.toList ++ (bs (figs m)).data.toList))).toArray⟩ : ByteArray) = nmB n m := by
    unfold nmB nmL
    rw [show ((n : Int)).toNat = n from rfl, show ((m : Int)).toNat = m from rfl]
    unfold bs
    simp
  obtain ⟨N, eN⟩ : ∃ N, bs (figs n) = N := ⟨_, rfl⟩
  obtain ⟨M, eM⟩ : ∃ M, bs (figs m) = M := ⟨_, rfl⟩
  have sN : N.size ≤ 19 := by rw [← eN, bs_size]; exact ln
  have sM : M.size ≤ 19 := by rw [← eM, bs_size]; exact lm
  have KJ0 := fun W t => pjoined_four W t ⟨#[99]⟩ N ⟨#[45]⟩ M (by show 1 + _ + 1 + _ ≤ _; omega)
  rw [eN, eM] at e
  rw [eN] at KN
  rw [eM] at KM
  obtain ⟨RR, hRR⟩ : ∃ RR, nmB n m = RR := ⟨_, rfl⟩
  rw [hRR] at e ⊢
  rw [e] at KJ0
  have KJ := Lib.hid KJ0
  clear KJ0 e hRR eN eM ln lm sN sM hT
  go_enter Tryd.func10, Tryd.ntmps10
  go_wp2
  have HQ0 : Hid (((w.alloc (.cells #[.int .i64 (n : Int), .int .i64 (m : Int)] 34)).cell? ⟨w.heap.size, 0, none⟩ = some (.int .i64 (n : Int)) ∧ (w.alloc (.cells #[.int .i64 (n : Int), .int .i64 (m : Int)] 34)).cell? ⟨w.heap.size, 1, none⟩ = some (.int .i64 (m : Int)) ∧ w.heap.size < (w.alloc (.cells #[.int .i64 (n : Int), .int .i64 (m : Int)] 34)).heap.size ∧ Bl w (w.alloc (.cells #[.int .i64 (n : Int), .int .i64 (m : Int)] 34)))) := by
    have h := Bq.new w 34 [.int .i64 (n : Int), .int .i64 (m : Int)]
    exact ⟨h.cell 0 rfl, h.cell 1 rfl, h.lt, (Bl.refl w).alloc _⟩
  go_region_held3 (fun W => W.cell? ⟨w.heap.size, 0, none⟩ = some (.int .i64 (n : Int)) ∧ W.cell? ⟨w.heap.size, 1, none⟩ = some (.int .i64 (m : Int)) ∧ w.heap.size < W.heap.size ∧ Bl w W)
    (first | assumption | exact HQ0.out | exact keepA HQ0.out (Bl.refl _).drew | exact keepA ‹_› hb | exact keepA ‹_› ((Bl.refl _).alloc _) | exact keepA ‹_› hb3)
    (first
     | (go_at_call 19; (with_reducible refine (KN.out _ (And.right (And.right (And.right (by assumption))))).mono ?_); rintro e w1 ⟨rfl, hb⟩)
     | (go_at_call 19; (with_reducible refine (KM.out _ (And.right (And.right (And.right (by assumption))))).mono ?_); rintro e w2 ⟨rfl, hb⟩)
     | (go_at_call 18; (with_reducible refine (KJ.out _ _).mono ?_); rintro e w3 ⟨rfl, hb3⟩))
  go_wp2
  go_ret
  exact ⟨rfl, And.right (And.right (And.right (by assumption)))⟩
end Go.Proofs.YtdaglbjdgdokpaaDoor
