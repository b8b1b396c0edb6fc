/-
  Package disk: torn, walked.
-/
import Derived.Test.YtgbeflocojmhhaaDkG
namespace Go.Proofs.Ytgbeflocojmhhaa
open Go.RowKit
set_option linter.unusedVariables false
set_option linter.unusedSimpArgs false

set_option maxRecDepth 100000 in
set_option maxHeartbeats 4000000 in
theorem ptorn_s (fn fd fs : ByteArray) (m : Nat) (hm : m < 18446744073709551616) (hd : fd.size ≤ 140737488355328) (hs : fs.size ≤ 140737488355328) (hmm : m % 2 = 0) (w : World) :
    Calls Try.prog 26 #[.agg #[.string fn, .string fd, .string fs], .int .u64 (m : Int)] w fun e w' => e = .returned (.string (torn ⟨fn, fd, fs⟩ m)) ∧ Bl w w' := by
  obtain ⟨n, hn⟩ : ∃ n, tLen ⟨fn, fd, fs⟩ m = n := ⟨_, rfl⟩
  have hn47 : n ≤ 140737488355328 := by rw [← hn]; unfold tLen; split <;> assumption
  have HS := Lib.hid (fun k (h : 16 * k < n) => (by rw [← hn] at h ⊢; exact tRow_step h : splice (tRow ⟨fn, fd, fs⟩ m k) (16 * k) (((tSrc ⟨fn, fd, fs⟩ m k).extract (Nat.min (16 * k) (tSrc ⟨fn, fd, fs⟩ m k).size) (tSrc ⟨fn, fd, fs⟩ m k).size).data.toList.take (Nat.min ((tSrc ⟨fn, fd, fs⟩ m k).size - Nat.min (16 * k) (tSrc ⟨fn, fd, fs⟩ m k).size) (Nat.min (16 * k + 16) n - 16 * k))) = tRow ⟨fn, fd, fs⟩ m (k + 1)))
  have HZ := Lib.hid (fun k => tSrc_size (f := ⟨fn, fd, fs⟩) hd hs m k)
  have HLR := Lib.hid (fun k => (tRow_len ⟨fn, fd, fs⟩ m k).trans hn)
  have hmk := fun W => made8 n hn47 W
  obtain ⟨nk, hnk⟩ : ∃ nk, (n + 15) / 16 = nk := ⟨_, rfl⟩
  have HE := Lib.hid (tRow_end (f := ⟨fn, fd, fs⟩) (m := m) (k := nk) (by omega))
  have HT0 : Hid (List.replicate n 0 = tRow ⟨fn, fd, fs⟩ m 0) := by show _ = _; rw [tRow_zero, hn]
  have HNK : Hid (∀ k, k < nk → 16 * k < n) := fun k hk => by omega
  have HB : Hid (∀ k, m / 2 ^ (1 + k % 63) % 2 = 1 → tSrc ⟨fn, fd, fs⟩ m k = fd) := fun k h => by unfold tSrc; rw [if_pos h]
  have HB' : Hid (∀ k, ¬ m / 2 ^ (1 + k % 63) % 2 = 1 → tSrc ⟨fn, fd, fs⟩ m k = fs) := fun k h => by unfold tSrc; rw [if_neg h]
  have HM := Lib.hid hm
  have r0 : ((n : Int) + 16 - 1) / 16 = (nk : Int) := by omega
  have nb : (n : Int) ≤ 140737488355328 := by omega
  have kb : (nk : Int) ≤ 140737488355328 := by omega
  have w3 : bits .and .u64 (m : Int) 1 = ((m % 2 : Nat) : Int) := by have := u64_and_nat m 1 hm (by decide); rw [Nat.and_one_is_mod] at this; exact this
  have B0 := Lib.hid (Bq.new w 49 [.string fn, .string fd, .string fs])
  obtain ⟨T, hT⟩ : ∃ T, torn ⟨fn, fd, fs⟩ m = T := ⟨_, rfl⟩
  rw [hT] at HE ⊢
  have hp : m % 2 = 0 := hmm
  rw [hp] at w3
  have hl : fs.size = n := by unfold tLen at hn; rw [if_neg (by omega)] at hn; exact hn
  clear hm hn hn47 hnk hT hp hmm
  have HL0 := Lib.hid hl
  obtain ⟨z, hz⟩ : ∃ z, fd.size = z := ⟨_, rfl⟩
  have hz47 : z ≤ 140737488355328 := by rw [← hz]; exact hd
  have zb : (z : Int) ≤ 140737488355328 := by omega
  clear hd hs hz47
  go_enter Try.func26, Try.ntmps26
  go_wp2
  obtain ⟨W0, hW0⟩ : ∃ W0, (w.alloc (.cells #[.string fn, .string fd, .string fs] 49)).alloc (.cells (bcs (List.replicate n 0)).toArray 5) = W0 := ⟨_, rfl⟩
  have G0 : Hid (Bl w W0) := by show Bl w W0; rw [← hW0]; exact ((Bl.refl w).alloc _).alloc _
  have X0 : Hid (Bq W0 w.heap.size 49 [.string fn, .string fd, .string fs]) := by show Bq _ _ _ _; rw [← hW0]; exact B0.out.alloc _
  have Y0 : Hid (Bb W0 (w.heap.size + 1) (tRow ⟨fn, fd, fs⟩ m 0)) := by show Bb _ _ _; rw [← HT0.out, ← hW0]; have := World.alloc_heap_new (w.alloc (.cells #[.string fn, .string fd, .string fs] 49)) (.cells (bcs (List.replicate n 0)).toArray 5); rw [World.size_alloc] at this; exact this
  rw [hW0]
  rw [r0]
  clear hW0 B0 HT0 hmk hl r0
  go_loopw [26] (fun s wr => ∃ k : Nat, k ≤ nk ∧ s = .int .i64 (k : Int) ∧ Hid (Bl w wr) ∧ Hid (Bq wr w.heap.size 49 [.string fn, .string fd, .string fs]) ∧ Hid (Bb wr (w.heap.size + 1) (tRow ⟨fn, fd, fs⟩ m k))) (fun s _ => nk - (intOf s).toNat)
  case atStart => exact ⟨0, Nat.zero_le _, rfl, G0.out, X0.out, Y0.out⟩
  case round =>
    obtain ⟨k, hk, rfl, hb, hbx, hrow⟩ := hrel
    by_cases hlt : k < nk
    · have hko := HNK.out k hlt
      by_cases hbit : m / 2 ^ (1 + k % 63) % 2 = 1
      · rcases Nat.lt_or_ge n (16 * k + 16) with h1 | h1
        · rcases Nat.lt_or_ge z (16 * k) with h2 | h2
          · have hS : tSrc ⟨fn, fd, fs⟩ m k = fd := HB.out k hbit
            have hst := HS.out k hko
            rw [hS] at hst
            rw [hz] at hst
            obtain ⟨o, ho⟩ : ∃ o, 16 * k = o := ⟨_, rfl⟩
            obtain ⟨e, he⟩ : ∃ e, o + 16 = e := ⟨_, rfl⟩
            rw [ho, he] at hst
            have hx : Nat.min o z = z := by show min o z = _; omega
            have hE : Nat.min e n = n := by show min e n = _; omega
            rw [hx, hE] at hst
            have hxs : (fd.extract z z).size = z - z := by rw [ByteArray.size_extract, hz]; omega
            have HR : Hid (splice (tRow ⟨fn, fd, fs⟩ m k) o ((fd.extract z z).data.toList.take (Nat.min (fd.extract z z).size (n - o))) = tRow ⟨fn, fd, fs⟩ m (k + 1)) := by show _ = _; rw [hxs]; exact hst
            have HF : Hid (o + Nat.min (fd.extract z z).size (n - o) ≤ (tRow ⟨fn, fd, fs⟩ m k).length) := by show _ ≤ _; rw [HLR.out, hxs]; have : Nat.min (z - z) (n - o) ≤ n - o := Nat.min_le_right _ _; omega
            have r1 : (k : Int) * 16 = (o : Int) := by omega
            have r2 : ((k : Int) + 1) * 16 = (e : Int) := by omega
            have r3 : (1 : Int) + (k : Int) % 63 = ((1 + k % 63 : Nat) : Int) := by omega
            obtain ⟨j, hj⟩ : ∃ j, 1 + k % 63 = j := ⟨_, rfl⟩
            rw [hj] at r3 hbit
            have hj63 : j < 64 := by rw [← hj]; have := Nat.mod_lt k (show 0 < 63 by decide); omega
            have r4 : (m : Int) / 2 ^ j = ((m / 2 ^ j : Nat) : Int) := by rw [show (2 : Int) ^ j = ((2 ^ j : Nat) : Int) by rw [Int.natCast_pow]; rfl, ← Int.natCast_ediv]
            have hP : m / 2 ^ j < 18446744073709551616 := Nat.lt_of_le_of_lt (Nat.div_le_self _ _) HM.out
            obtain ⟨P, hPe⟩ : ∃ P, m / 2 ^ j = P := ⟨_, rfl⟩
            rw [hPe] at r4 hP hbit
            have w4 : bits .and .u64 (P : Int) 1 = ((P % 2 : Nat) : Int) := by have := u64_and_nat P 1 hP (by decide); rw [Nat.and_one_is_mod] at this; exact this
            rw [show P % 2 = 1 from hbit] at w4
            have q1 : n < e := by omega
            have q2 : z < o := by omega
            have b1 : (0 : Int) ≤ (k : Int) ∧ (k : Int) < (nk : Int) := by omega
            have b2 : (o : Int) ≤ (n : Int) := by omega
            have b3 : (n : Int) ≤ (n : Int) := by omega
            have b4 : (z : Int) ≤ (z : Int) := by omega
            have b5 : ¬ n = o := by omega
            have b6 : (j : Int) < 64 := by omega
            have b7 : (e : Int) ≤ 281474976710656 := by omega
            have b8 : (0 : Int) ≤ (o : Int) := by omega
            have b9 : (0 : Int) ≤ (n : Int) := by omega
            have b10 : (k : Int) ≤ 140737488355328 := by omega
            have x1 : IntKind.i64.wrap (o : Int) = (o : Int) := by rw [IntKind.wrap_i64]; omega
            have HI : Hid (k + 1 ≤ nk) := hlt
            have c1 := hbx.out.cell 1 rfl
            have c2 := hbx.out.cell 2 rfl
            have HRD := Lib.hid hrow.out.drew
            clear hS hst hx ho hE hxs he hj hj63 hP hPe hbit hlt hko h1 h2
            go_wp2
            go_region_law (refine step_copy_str rfl (.tmp 50) (.tmp 56) 70 9 rfl 5 Try.underlying70 (by kernel_rfl) (w.heap.size + 1) o (n - o) (n - o) (fd.extract z z) (by simp [Act.eval, Act.put]) (by simp [Act.eval, Act.put]) _ _ HRD.out HF.out HR.out ?_; intro v' w' hrow' hk')
            all_goals
              go_wp2
              go_roundw
              case rel => exact ⟨k + 1, HI.out, by go_num, (show Bl w w' from Below.trans hb.out.drew (Below.mono hk' (Nat.le_succ _))), (hk'.block _ (Nat.lt_succ_self _)).trans hbx.out, hrow'.out⟩
              case measure => have := HI.out; simp [intOf] <;> omega
          · have hS : tSrc ⟨fn, fd, fs⟩ m k = fd := HB.out k hbit
            have hst := HS.out k hko
            rw [hS] at hst
            rw [hz] at hst
            obtain ⟨o, ho⟩ : ∃ o, 16 * k = o := ⟨_, rfl⟩
            obtain ⟨e, he⟩ : ∃ e, o + 16 = e := ⟨_, rfl⟩
            rw [ho, he] at hst
            have hx : Nat.min o z = o := by show min o z = _; omega
            have hE : Nat.min e n = n := by show min e n = _; omega
            rw [hx, hE] at hst
            have hxs : (fd.extract o z).size = z - o := by rw [ByteArray.size_extract, hz]; omega
            have HR : Hid (splice (tRow ⟨fn, fd, fs⟩ m k) o ((fd.extract o z).data.toList.take (Nat.min (fd.extract o z).size (n - o))) = tRow ⟨fn, fd, fs⟩ m (k + 1)) := by show _ = _; rw [hxs]; exact hst
            have HF : Hid (o + Nat.min (fd.extract o z).size (n - o) ≤ (tRow ⟨fn, fd, fs⟩ m k).length) := by show _ ≤ _; rw [HLR.out, hxs]; have : Nat.min (z - o) (n - o) ≤ n - o := Nat.min_le_right _ _; omega
            have r1 : (k : Int) * 16 = (o : Int) := by omega
            have r2 : ((k : Int) + 1) * 16 = (e : Int) := by omega
            have r3 : (1 : Int) + (k : Int) % 63 = ((1 + k % 63 : Nat) : Int) := by omega
            obtain ⟨j, hj⟩ : ∃ j, 1 + k % 63 = j := ⟨_, rfl⟩
            rw [hj] at r3 hbit
            have hj63 : j < 64 := by rw [← hj]; have := Nat.mod_lt k (show 0 < 63 by decide); omega
            have r4 : (m : Int) / 2 ^ j = ((m / 2 ^ j : Nat) : Int) := by rw [show (2 : Int) ^ j = ((2 ^ j : Nat) : Int) by rw [Int.natCast_pow]; rfl, ← Int.natCast_ediv]
            have hP : m / 2 ^ j < 18446744073709551616 := Nat.lt_of_le_of_lt (Nat.div_le_self _ _) HM.out
            obtain ⟨P, hPe⟩ : ∃ P, m / 2 ^ j = P := ⟨_, rfl⟩
            rw [hPe] at r4 hP hbit
            have w4 : bits .and .u64 (P : Int) 1 = ((P % 2 : Nat) : Int) := by have := u64_and_nat P 1 hP (by decide); rw [Nat.and_one_is_mod] at this; exact this
            rw [show P % 2 = 1 from hbit] at w4
            have q1 : n < e := by omega
            have q2 : ¬ z < o := by omega
            have b1 : (0 : Int) ≤ (k : Int) ∧ (k : Int) < (nk : Int) := by omega
            have b2 : (o : Int) ≤ (n : Int) := by omega
            have b3 : (n : Int) ≤ (n : Int) := by omega
            have b4 : (o : Int) ≤ (z : Int) := by omega
            have b5 : ¬ n = o := by omega
            have b6 : (j : Int) < 64 := by omega
            have b7 : (e : Int) ≤ 281474976710656 := by omega
            have b8 : (0 : Int) ≤ (o : Int) := by omega
            have b9 : (0 : Int) ≤ (n : Int) := by omega
            have b10 : (k : Int) ≤ 140737488355328 := by omega
            have x1 : IntKind.i64.wrap (o : Int) = (o : Int) := by rw [IntKind.wrap_i64]; omega
            have HI : Hid (k + 1 ≤ nk) := hlt
            have c1 := hbx.out.cell 1 rfl
            have c2 := hbx.out.cell 2 rfl
            have HRD := Lib.hid hrow.out.drew
            clear hS hst hx ho hE hxs he hj hj63 hP hPe hbit hlt hko h1 h2
            go_wp2
            go_region_law (refine step_copy_str rfl (.tmp 50) (.tmp 56) 70 9 rfl 5 Try.underlying70 (by kernel_rfl) (w.heap.size + 1) o (n - o) (n - o) (fd.extract o z) (by simp [Act.eval, Act.put]) (by simp [Act.eval, Act.put]) _ _ HRD.out HF.out HR.out ?_; intro v' w' hrow' hk')
            all_goals
              go_wp2
              go_roundw
              case rel => exact ⟨k + 1, HI.out, by go_num, (show Bl w w' from Below.trans hb.out.drew (Below.mono hk' (Nat.le_succ _))), (hk'.block _ (Nat.lt_succ_self _)).trans hbx.out, hrow'.out⟩
              case measure => have := HI.out; simp [intOf] <;> omega
        · rcases Nat.lt_or_ge z (16 * k) with h2 | h2
          · have hS : tSrc ⟨fn, fd, fs⟩ m k = fd := HB.out k hbit
            have hst := HS.out k hko
            rw [hS] at hst
            rw [hz] at hst
            obtain ⟨o, ho⟩ : ∃ o, 16 * k = o := ⟨_, rfl⟩
            obtain ⟨e, he⟩ : ∃ e, o + 16 = e := ⟨_, rfl⟩
            rw [ho, he] at hst
            have hx : Nat.min o z = z := by show min o z = _; omega
            have hE : Nat.min e n = e := by show min e n = _; omega
            rw [hx, hE] at hst
            have hxs : (fd.extract z z).size = z - z := by rw [ByteArray.size_extract, hz]; omega
            have HR : Hid (splice (tRow ⟨fn, fd, fs⟩ m k) o ((fd.extract z z).data.toList.take (Nat.min (fd.extract z z).size (e - o))) = tRow ⟨fn, fd, fs⟩ m (k + 1)) := by show _ = _; rw [hxs]; exact hst
            have HF : Hid (o + Nat.min (fd.extract z z).size (e - o) ≤ (tRow ⟨fn, fd, fs⟩ m k).length) := by show _ ≤ _; rw [HLR.out, hxs]; have : Nat.min (z - z) (e - o) ≤ e - o := Nat.min_le_right _ _; omega
            have r1 : (k : Int) * 16 = (o : Int) := by omega
            have r2 : ((k : Int) + 1) * 16 = (e : Int) := by omega
            have r3 : (1 : Int) + (k : Int) % 63 = ((1 + k % 63 : Nat) : Int) := by omega
            obtain ⟨j, hj⟩ : ∃ j, 1 + k % 63 = j := ⟨_, rfl⟩
            rw [hj] at r3 hbit
            have hj63 : j < 64 := by rw [← hj]; have := Nat.mod_lt k (show 0 < 63 by decide); omega
            have r4 : (m : Int) / 2 ^ j = ((m / 2 ^ j : Nat) : Int) := by rw [show (2 : Int) ^ j = ((2 ^ j : Nat) : Int) by rw [Int.natCast_pow]; rfl, ← Int.natCast_ediv]
            have hP : m / 2 ^ j < 18446744073709551616 := Nat.lt_of_le_of_lt (Nat.div_le_self _ _) HM.out
            obtain ⟨P, hPe⟩ : ∃ P, m / 2 ^ j = P := ⟨_, rfl⟩
            rw [hPe] at r4 hP hbit
            have w4 : bits .and .u64 (P : Int) 1 = ((P % 2 : Nat) : Int) := by have := u64_and_nat P 1 hP (by decide); rw [Nat.and_one_is_mod] at this; exact this
            rw [show P % 2 = 1 from hbit] at w4
            have q1 : ¬ n < e := by omega
            have q2 : z < o := by omega
            have b1 : (0 : Int) ≤ (k : Int) ∧ (k : Int) < (nk : Int) := by omega
            have b2 : (o : Int) ≤ (e : Int) := by omega
            have b3 : (e : Int) ≤ (n : Int) := by omega
            have b4 : (z : Int) ≤ (z : Int) := by omega
            have b5 : ¬ n = o := by omega
            have b6 : (j : Int) < 64 := by omega
            have b7 : (e : Int) ≤ 281474976710656 := by omega
            have b8 : (0 : Int) ≤ (o : Int) := by omega
            have b9 : (0 : Int) ≤ (n : Int) := by omega
            have b10 : (k : Int) ≤ 140737488355328 := by omega
            have x1 : IntKind.i64.wrap (o : Int) = (o : Int) := by rw [IntKind.wrap_i64]; omega
            have HI : Hid (k + 1 ≤ nk) := hlt
            have c1 := hbx.out.cell 1 rfl
            have c2 := hbx.out.cell 2 rfl
            have HRD := Lib.hid hrow.out.drew
            clear hS hst hx ho hE hxs he hj hj63 hP hPe hbit hlt hko h1 h2
            go_wp2
            go_region_law (refine step_copy_str rfl (.tmp 50) (.tmp 56) 70 9 rfl 5 Try.underlying70 (by kernel_rfl) (w.heap.size + 1) o (e - o) (n - o) (fd.extract z z) (by simp [Act.eval, Act.put]) (by simp [Act.eval, Act.put]) _ _ HRD.out HF.out HR.out ?_; intro v' w' hrow' hk')
            all_goals
              go_wp2
              go_roundw
              case rel => exact ⟨k + 1, HI.out, by go_num, (show Bl w w' from Below.trans hb.out.drew (Below.mono hk' (Nat.le_succ _))), (hk'.block _ (Nat.lt_succ_self _)).trans hbx.out, hrow'.out⟩
              case measure => have := HI.out; simp [intOf] <;> omega
          · have hS : tSrc ⟨fn, fd, fs⟩ m k = fd := HB.out k hbit
            have hst := HS.out k hko
            rw [hS] at hst
            rw [hz] at hst
            obtain ⟨o, ho⟩ : ∃ o, 16 * k = o := ⟨_, rfl⟩
            obtain ⟨e, he⟩ : ∃ e, o + 16 = e := ⟨_, rfl⟩
            rw [ho, he] at hst
            have hx : Nat.min o z = o := by show min o z = _; omega
            have hE : Nat.min e n = e := by show min e n = _; omega
            rw [hx, hE] at hst
            have hxs : (fd.extract o z).size = z - o := by rw [ByteArray.size_extract, hz]; omega
            have HR : Hid (splice (tRow ⟨fn, fd, fs⟩ m k) o ((fd.extract o z).data.toList.take (Nat.min (fd.extract o z).size (e - o))) = tRow ⟨fn, fd, fs⟩ m (k + 1)) := by show _ = _; rw [hxs]; exact hst
            have HF : Hid (o + Nat.min (fd.extract o z).size (e - o) ≤ (tRow ⟨fn, fd, fs⟩ m k).length) := by show _ ≤ _; rw [HLR.out, hxs]; have : Nat.min (z - o) (e - o) ≤ e - o := Nat.min_le_right _ _; omega
            have r1 : (k : Int) * 16 = (o : Int) := by omega
            have r2 : ((k : Int) + 1) * 16 = (e : Int) := by omega
            have r3 : (1 : Int) + (k : Int) % 63 = ((1 + k % 63 : Nat) : Int) := by omega
            obtain ⟨j, hj⟩ : ∃ j, 1 + k % 63 = j := ⟨_, rfl⟩
            rw [hj] at r3 hbit
            have hj63 : j < 64 := by rw [← hj]; have := Nat.mod_lt k (show 0 < 63 by decide); omega
            have r4 : (m : Int) / 2 ^ j = ((m / 2 ^ j : Nat) : Int) := by rw [show (2 : Int) ^ j = ((2 ^ j : Nat) : Int) by rw [Int.natCast_pow]; rfl, ← Int.natCast_ediv]
            have hP : m / 2 ^ j < 18446744073709551616 := Nat.lt_of_le_of_lt (Nat.div_le_self _ _) HM.out
            obtain ⟨P, hPe⟩ : ∃ P, m / 2 ^ j = P := ⟨_, rfl⟩
            rw [hPe] at r4 hP hbit
            have w4 : bits .and .u64 (P : Int) 1 = ((P % 2 : Nat) : Int) := by have := u64_and_nat P 1 hP (by decide); rw [Nat.and_one_is_mod] at this; exact this
            rw [show P % 2 = 1 from hbit] at w4
            have q1 : ¬ n < e := by omega
            have q2 : ¬ z < o := by omega
            have b1 : (0 : Int) ≤ (k : Int) ∧ (k : Int) < (nk : Int) := by omega
            have b2 : (o : Int) ≤ (e : Int) := by omega
            have b3 : (e : Int) ≤ (n : Int) := by omega
            have b4 : (o : Int) ≤ (z : Int) := by omega
            have b5 : ¬ n = o := by omega
            have b6 : (j : Int) < 64 := by omega
            have b7 : (e : Int) ≤ 281474976710656 := by omega
            have b8 : (0 : Int) ≤ (o : Int) := by omega
            have b9 : (0 : Int) ≤ (n : Int) := by omega
            have b10 : (k : Int) ≤ 140737488355328 := by omega
            have x1 : IntKind.i64.wrap (o : Int) = (o : Int) := by rw [IntKind.wrap_i64]; omega
            have HI : Hid (k + 1 ≤ nk) := hlt
            have c1 := hbx.out.cell 1 rfl
            have c2 := hbx.out.cell 2 rfl
            have HRD := Lib.hid hrow.out.drew
            clear hS hst hx ho hE hxs he hj hj63 hP hPe hbit hlt hko h1 h2
            go_wp2
            go_region_law (refine step_copy_str rfl (.tmp 50) (.tmp 56) 70 9 rfl 5 Try.underlying70 (by kernel_rfl) (w.heap.size + 1) o (e - o) (n - o) (fd.extract o z) (by simp [Act.eval, Act.put]) (by simp [Act.eval, Act.put]) _ _ HRD.out HF.out HR.out ?_; intro v' w' hrow' hk')
            all_goals
              go_wp2
              go_roundw
              case rel => exact ⟨k + 1, HI.out, by go_num, (show Bl w w' from Below.trans hb.out.drew (Below.mono hk' (Nat.le_succ _))), (hk'.block _ (Nat.lt_succ_self _)).trans hbx.out, hrow'.out⟩
              case measure => have := HI.out; simp [intOf] <;> omega
      · rcases Nat.lt_or_ge n (16 * k + 16) with h1 | h1
        · rcases Nat.lt_or_ge n (16 * k) with h2 | h2
          · exact absurd h2 (by omega)
          · have hS : tSrc ⟨fn, fd, fs⟩ m k = fs := HB'.out k hbit
            have hst := HS.out k hko
            rw [hS] at hst
            have hz : fs.size = n := HL0.out
            rw [hz] at hst
            obtain ⟨o, ho⟩ : ∃ o, 16 * k = o := ⟨_, rfl⟩
            obtain ⟨e, he⟩ : ∃ e, o + 16 = e := ⟨_, rfl⟩
            rw [ho, he] at hst
            have hx : Nat.min o n = o := by show min o n = _; omega
            have hE : Nat.min e n = n := by show min e n = _; omega
            rw [hx, hE] at hst
            have hxs : (fs.extract o n).size = n - o := by rw [ByteArray.size_extract, hz]; omega
            have HR : Hid (splice (tRow ⟨fn, fd, fs⟩ m k) o ((fs.extract o n).data.toList.take (Nat.min (fs.extract o n).size (n - o))) = tRow ⟨fn, fd, fs⟩ m (k + 1)) := by show _ = _; rw [hxs]; exact hst
            have HF : Hid (o + Nat.min (fs.extract o n).size (n - o) ≤ (tRow ⟨fn, fd, fs⟩ m k).length) := by show _ ≤ _; rw [HLR.out, hxs]; have : Nat.min (n - o) (n - o) ≤ n - o := Nat.min_le_right _ _; omega
            have r1 : (k : Int) * 16 = (o : Int) := by omega
            have r2 : ((k : Int) + 1) * 16 = (e : Int) := by omega
            have r3 : (1 : Int) + (k : Int) % 63 = ((1 + k % 63 : Nat) : Int) := by omega
            obtain ⟨j, hj⟩ : ∃ j, 1 + k % 63 = j := ⟨_, rfl⟩
            rw [hj] at r3 hbit
            have hj63 : j < 64 := by rw [← hj]; have := Nat.mod_lt k (show 0 < 63 by decide); omega
            have r4 : (m : Int) / 2 ^ j = ((m / 2 ^ j : Nat) : Int) := by rw [show (2 : Int) ^ j = ((2 ^ j : Nat) : Int) by rw [Int.natCast_pow]; rfl, ← Int.natCast_ediv]
            have hP : m / 2 ^ j < 18446744073709551616 := Nat.lt_of_le_of_lt (Nat.div_le_self _ _) HM.out
            obtain ⟨P, hPe⟩ : ∃ P, m / 2 ^ j = P := ⟨_, rfl⟩
            rw [hPe] at r4 hP hbit
            have w4 : bits .and .u64 (P : Int) 1 = ((P % 2 : Nat) : Int) := by have := u64_and_nat P 1 hP (by decide); rw [Nat.and_one_is_mod] at this; exact this
            rw [show P % 2 = 0 by omega] at w4
            have q1 : n < e := by omega
            have q2 : ¬ n < o := by omega
            have b1 : (0 : Int) ≤ (k : Int) ∧ (k : Int) < (nk : Int) := by omega
            have b2 : (o : Int) ≤ (n : Int) := by omega
            have b3 : (n : Int) ≤ (n : Int) := by omega
            have b4 : (o : Int) ≤ (n : Int) := by omega
            have b5 : ¬ n = o := by omega
            have b6 : (j : Int) < 64 := by omega
            have b7 : (e : Int) ≤ 281474976710656 := by omega
            have b8 : (0 : Int) ≤ (o : Int) := by omega
            have b9 : (0 : Int) ≤ (n : Int) := by omega
            have b10 : (k : Int) ≤ 140737488355328 := by omega
            have x1 : IntKind.i64.wrap (o : Int) = (o : Int) := by rw [IntKind.wrap_i64]; omega
            have HI : Hid (k + 1 ≤ nk) := hlt
            have c1 := hbx.out.cell 1 rfl
            have c2 := hbx.out.cell 2 rfl
            have HRD := Lib.hid hrow.out.drew
            clear hS hst hx ho hE hxs he hj hj63 hP hPe hbit hlt hko h1 h2
            go_wp2
            go_region_law (refine step_copy_str rfl (.tmp 50) (.tmp 56) 70 9 rfl 5 Try.underlying70 (by kernel_rfl) (w.heap.size + 1) o (n - o) (n - o) (fs.extract o n) (by simp [Act.eval, Act.put]) (by simp [Act.eval, Act.put]) _ _ HRD.out HF.out HR.out ?_; intro v' w' hrow' hk')
            all_goals
              go_wp2
              go_roundw
              case rel => exact ⟨k + 1, HI.out, by go_num, (show Bl w w' from Below.trans hb.out.drew (Below.mono hk' (Nat.le_succ _))), (hk'.block _ (Nat.lt_succ_self _)).trans hbx.out, hrow'.out⟩
              case measure => have := HI.out; simp [intOf] <;> omega
        · rcases Nat.lt_or_ge n (16 * k) with h2 | h2
          · exact absurd h2 (by omega)
          · have hS : tSrc ⟨fn, fd, fs⟩ m k = fs := HB'.out k hbit
            have hst := HS.out k hko
            rw [hS] at hst
            have hz : fs.size = n := HL0.out
            rw [hz] at hst
            obtain ⟨o, ho⟩ : ∃ o, 16 * k = o := ⟨_, rfl⟩
            obtain ⟨e, he⟩ : ∃ e, o + 16 = e := ⟨_, rfl⟩
            rw [ho, he] at hst
            have hx : Nat.min o n = o := by show min o n = _; omega
            have hE : Nat.min e n = e := by show min e n = _; omega
            rw [hx, hE] at hst
            have hxs : (fs.extract o n).size = n - o := by rw [ByteArray.size_extract, hz]; omega
            have HR : Hid (splice (tRow ⟨fn, fd, fs⟩ m k) o ((fs.extract o n).data.toList.take (Nat.min (fs.extract o n).size (e - o))) = tRow ⟨fn, fd, fs⟩ m (k + 1)) := by show _ = _; rw [hxs]; exact hst
            have HF : Hid (o + Nat.min (fs.extract o n).size (e - o) ≤ (tRow ⟨fn, fd, fs⟩ m k).length) := by show _ ≤ _; rw [HLR.out, hxs]; have : Nat.min (n - o) (e - o) ≤ e - o := Nat.min_le_right _ _; omega
            have r1 : (k : Int) * 16 = (o : Int) := by omega
            have r2 : ((k : Int) + 1) * 16 = (e : Int) := by omega
            have r3 : (1 : Int) + (k : Int) % 63 = ((1 + k % 63 : Nat) : Int) := by omega
            obtain ⟨j, hj⟩ : ∃ j, 1 + k % 63 = j := ⟨_, rfl⟩
            rw [hj] at r3 hbit
            have hj63 : j < 64 := by rw [← hj]; have := Nat.mod_lt k (show 0 < 63 by decide); omega
            have r4 : (m : Int) / 2 ^ j = ((m / 2 ^ j : Nat) : Int) := by rw [show (2 : Int) ^ j = ((2 ^ j : Nat) : Int) by rw [Int.natCast_pow]; rfl, ← Int.natCast_ediv]
            have hP : m / 2 ^ j < 18446744073709551616 := Nat.lt_of_le_of_lt (Nat.div_le_self _ _) HM.out
            obtain ⟨P, hPe⟩ : ∃ P, m / 2 ^ j = P := ⟨_, rfl⟩
            rw [hPe] at r4 hP hbit
            have w4 : bits .and .u64 (P : Int) 1 = ((P % 2 : Nat) : Int) := by have := u64_and_nat P 1 hP (by decide); rw [Nat.and_one_is_mod] at this; exact this
            rw [show P % 2 = 0 by omega] at w4
            have q1 : ¬ n < e := by omega
            have q2 : ¬ n < o := by omega
            have b1 : (0 : Int) ≤ (k : Int) ∧ (k : Int) < (nk : Int) := by omega
            have b2 : (o : Int) ≤ (e : Int) := by omega
            have b3 : (e : Int) ≤ (n : Int) := by omega
            have b4 : (o : Int) ≤ (n : Int) := by omega
            have b5 : ¬ n = o := by omega
            have b6 : (j : Int) < 64 := by omega
            have b7 : (e : Int) ≤ 281474976710656 := by omega
            have b8 : (0 : Int) ≤ (o : Int) := by omega
            have b9 : (0 : Int) ≤ (n : Int) := by omega
            have b10 : (k : Int) ≤ 140737488355328 := by omega
            have x1 : IntKind.i64.wrap (o : Int) = (o : Int) := by rw [IntKind.wrap_i64]; omega
            have HI : Hid (k + 1 ≤ nk) := hlt
            have c1 := hbx.out.cell 1 rfl
            have c2 := hbx.out.cell 2 rfl
            have HRD := Lib.hid hrow.out.drew
            clear hS hst hx ho hE hxs he hj hj63 hP hPe hbit hlt hko h1 h2
            go_wp2
            go_region_law (refine step_copy_str rfl (.tmp 50) (.tmp 56) 70 9 rfl 5 Try.underlying70 (by kernel_rfl) (w.heap.size + 1) o (e - o) (n - o) (fs.extract o n) (by simp [Act.eval, Act.put]) (by simp [Act.eval, Act.put]) _ _ HRD.out HF.out HR.out ?_; intro v' w' hrow' hk')
            all_goals
              go_wp2
              go_roundw
              case rel => exact ⟨k + 1, HI.out, by go_num, (show Bl w w' from Below.trans hb.out.drew (Below.mono hk' (Nat.le_succ _))), (hk'.block _ (Nat.lt_succ_self _)).trans hbx.out, hrow'.out⟩
              case measure => have := HI.out; simp [intOf] <;> omega
    · obtain rfl : k = nk := by omega
      have hcv : (convert 70 9 (.slice (some ⟨w.heap.size + 1, 0, none⟩) n n)).run Try.prog wr = .ok (.string T) wr := by
        have := run_convert_bytes_back (P := Try.prog) wr 70 9 5 ⟨w.heap.size + 1, 0, none⟩ n (tRow ⟨fn, fd, fs⟩ m k) Try.underlying70 Try.underlying5 Try.underlying9 (fun j hj => by rw [add_none, Nat.zero_add]; exact hrow.out.cell j hj)
        rw [HLR.out, HE.out] at this
        exact this
      clear hlt hk
      go_wp2
      go_ret
      exact ⟨rfl, hb.out⟩
end Go.Proofs.Ytgbeflocojmhhaa
