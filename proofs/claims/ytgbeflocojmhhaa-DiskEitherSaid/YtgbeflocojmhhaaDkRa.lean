/-
  The document's kept of layer 15.
-/
import Derived.Test.YtgbeflocojmhhaaDkR
namespace Go.Proofs.Ytgbeflocojmhhaa
open Go.RowKit
set_option linter.unusedVariables false
set_option linter.unusedSimpArgs false

/-- A byte appended: 'own' is what was, the new byte lies in a block of its own. -/
theorem app_byte {ops : Array Oper} {rest : List Oper} {o : Oper} {a : Act} {Q : Exit → Act → World → Prop} (W w : World)
    (hgd : o.guard = none) (s x : Operand) (ho : o.op = .call { callee := .builtin .append, args := #[s, x], argTypes := #[70, 70] })
    (v : Value) (l : List Nat) (z : Int) (u : Nat) (hzu : z = (u : Int)) (hs : a.eval s = v) (hx : a.eval x = .slice (some ⟨w.heap.size, 0, none⟩) 1 1) (hown : Ow .u8 5 W.heap.size w v l) (hbl : Bl W w) (hl : l.length < 140737488355328)
    (h : ∀ v' w', Hid (Ow .u8 5 W.heap.size w' v' (l ++ [u])) → Hid (Bl W w') → wpList Try.prog ops Q rest (a.put o.dst v') w') : wpList Try.prog ops Q (o :: rest) a (w.alloc (.cells #[.int .u8 z] 5)) := by
  subst hzu
  cases hi : Try.prog.info? 5 with
  | none => have := info8'; rw [hi] at this; cases this
  | some i =>
    have hh := info8'
    rw [hi] at hh
    simp only [Option.map_some, Option.some.injEq, Prod.mk.injEq] at hh
    obtain ⟨hz, hsz, hb⟩ := hh
    refine wpList_append_own _ hgd s x 70 ho W.heap.size 5 i (.int .u8 0) 1 1 Try.underlying70 hi hz hsz hb rfl (by decide) v l.length (vs .u8 l) hs (World.ownsRow.alloc hown _) ⟨w.heap.size, 0, none⟩ 1 1 [.int .u8 (u : Int)] hx rfl ?_ ?_ ?_ ?_ ?_ ?_
    · intro j y hj
      match j, hj with
      | 0, hj => simp at hj; subst hj; simp [Addr.add]
    · intro y hy; simp at hy; subst hy; rfl
    · unfold maxLen; omega
    · omega
    · have := hbl.size; simp; omega
    · intro v' w' h1 h2 _
      refine h v' w' ?_ ?_
      · have h1' : w'.ownsRow W.heap.size 5 1 v' (l.length + 1) (vs .u8 l ++ [.int .u8 (u : Int)]) := h1
        show w'.ownsRow W.heap.size 5 1 v' (l ++ [u]).length (vs .u8 (l ++ [u]))
        rw [vs_snoc, List.length_append]
        exact h1'
      · exact (hbl.alloc _).grown h2 (fun g hg => (World.ownsRow.lt hown g hg).1)
def kR (f : Fl) (m i : Nat) : List Nat := ((List.range i).map (tByte f m)).map UInt8.toNat
theorem kR_len (f : Fl) (m i : Nat) : (kR f m i).length = i := by simp [kR]
theorem kR_step (f : Fl) (m i : Nat) : kR f m (i + 1) = kR f m i ++ [(tByte f m i).toNat] := by unfold kR; rw [List.range_succ]; simp
theorem byte_at {s : ByteArray} {i : Nat} (h : i < s.size) : s[i] = (s.data.toList[i]?).getD 0 := by
  obtain ⟨⟨s⟩⟩ := s
  have h' : i < s.length := h
  show s[i] = (s[i]?).getD 0
  rw [List.getElem?_eq_getElem h']
  rfl
theorem tByte_in {f : Fl} {m i : Nat} {S : ByteArray} (hS : tSrc f m (i / 16) = S) (h : i < S.size) : tByte f m i = S[i] := by unfold tByte; rw [hS, byte_at h]
theorem tByte_out {f : Fl} {m i : Nat} {S : ByteArray} (hS : tSrc f m (i / 16) = S) (h : ¬ i < S.size) : tByte f m i = 0 := by
  unfold tByte
  rw [hS]
  obtain ⟨⟨s⟩⟩ := S
  have h' : ¬ i < s.length := h
  show (s[i]?).getD 0 = 0
  rw [List.getElem?_eq_none (by omega)]
  rfl
theorem kept_same (fn fd fs : ByteArray) (m : Nat) (he : sEq fd fs = true) (w : World) :
    Calls Try.prog 28 #[.agg #[.string fn, .string fd, .string fs], .int .u64 (m : Int)] w fun e w' => e = .returned (.string (ktp ⟨fn, fd, fs⟩ m)) ∧ Bl w w' := by
  have e1 : ktp ⟨fn, fd, fs⟩ m = fd := ktp_same (sEq_iff.1 he) m
  have t1 : (fd.toList == fs.toList) = true := he
  have t2 : fd.toList = fs.toList := by rw [sEq_iff.1 he]
  rw [e1]
  clear he e1
  go_enter Try.func28, Try.ntmps28
  go_wp2
  go_ret
  exact ⟨rfl, (Bl.refl w).alloc _⟩
theorem rw_shape7 {k : IntKind} {w : World} {v : Value} {l : List Nat} (h : Rw k w v l) : ∃ A c, v = .slice A l.length c := by
  obtain ⟨A, c, hv, _⟩ := h
  exact ⟨A, c, hv⟩
set_option maxRecDepth 100000 in
set_option maxHeartbeats 4000000 in
theorem kept_d (fn fd fs : ByteArray) (m : Nat) (hm : m < 18446744073709551616) (hd : fd.size ≤ 140737488355328) (hs : fs.size ≤ 140737488355328) (hmm : m % 2 = 1) (he : sEq fd fs = false) (w : World) :
    Calls Try.prog 28 #[.agg #[.string fn, .string fd, .string fs], .int .u64 (m : Int)] w fun e w' => e = .returned (.string (ktp ⟨fn, fd, fs⟩ m)) ∧ Bl w w' := by
  obtain ⟨n, hn⟩ : ∃ n, tLen ⟨fn, fd, fs⟩ m = n := ⟨_, rfl⟩
  have hn47 : n ≤ 140737488355328 := by rw [← hn]; unfold tLen; split <;> assumption
  have hl : fd.size = n := by unfold tLen at hn; rw [if_pos hmm] at hn; exact hn
  have HS := Lib.hid (fun i => kR_step ⟨fn, fd, fs⟩ m i)
  have HE : Hid (ktp ⟨fn, fd, fs⟩ m = ⟨((List.range n).map (tByte ⟨fn, fd, fs⟩ m)).toArray⟩) := by show _ = _; unfold ktp; rw [he, ← hn]; rfl
  have HB : Hid (∀ k, m / 2 ^ (1 + k % 63) % 2 = 1 → tSrc ⟨fn, fd, fs⟩ m k = fd) := fun k h => by unfold tSrc; rw [if_pos h]
  have HB' : Hid (∀ k, ¬ m / 2 ^ (1 + k % 63) % 2 = 1 → tSrc ⟨fn, fd, fs⟩ m k = fs) := fun k h => by unfold tSrc; rw [if_neg h]
  have KB := Lib.hid (fun W k (hk : k ≤ 64) => rbit_any m k hm hk W)
  have KB0 := Lib.hid (fun W => rbit_any m 0 hm (by decide) W)
  rw [show ((0 : Nat) : Int) = 0 from rfl, Nat.pow_zero, Nat.div_one, hmm] at KB0
  rw [show decide (1 = 1) = true from rfl] at KB0
  have t1 : (fd.toList == fs.toList) = false := he
  have t2 : ¬ fd.toList = fs.toList := by have := sEq_not.1 he; exact fun e => this (tl_inj.1 e)
  have nb : (n : Int) ≤ 140737488355328 := by omega
  have HL0 := Lib.hid hl
  obtain ⟨z, hz⟩ : ∃ z, fs.size = z := ⟨_, rfl⟩
  have hz47 : z ≤ 140737488355328 := by rw [← hz]; exact hs
  have zb : (z : Int) ≤ 140737488355328 := by omega
  obtain ⟨T, hT⟩ : ∃ T, ktp ⟨fn, fd, fs⟩ m = T := ⟨_, rfl⟩
  rw [hT] at HE ⊢
  have B0 := Lib.hid (Bq.new w 49 [.string fn, .string fd, .string fs])
  clear hm hn hd hs hmm he hT hz47
  go_enter Try.func28, Try.ntmps28
  go_wp2_with (go_at_call 37; (with_reducible refine (KB0.out _).mono ?_); rintro e w' ⟨rfl, rfl⟩)
  obtain ⟨W0, hW0⟩ : ∃ W0, w.alloc (.cells #[.string fn, .string fd, .string fs] 49) = W0 := ⟨_, rfl⟩
  have G0 : Hid (Bl w W0) := by show Bl w W0; rw [← hW0]; exact (Bl.refl w).alloc _
  have X0 : Hid (Bq W0 w.heap.size 49 [.string fn, .string fd, .string fs]) := by show Bq _ _ _ _; rw [← hW0]; exact B0.out
  rw [hW0]
  clear hW0 B0 KB0 hl
  go_loopw [7, 8] (fun r s wr => ∃ i : Nat, i ≤ n ∧ s = .int .i64 (i : Int) ∧ Hid (Ow .u8 5 W0.heap.size wr r (kR ⟨fn, fd, fs⟩ m i)) ∧ Hid (Bl W0 wr)) (fun _ s _ => n - (intOf s).toNat)
  case atStart => exact ⟨0, Nat.zero_le _, rfl, Ow.nil _ _ _ _, Bl.refl _⟩
  case round =>
    obtain ⟨i, hi, rfl, hown, hb⟩ := hrel
    by_cases hlt : i < n
    · by_cases hbit : m / 2 ^ (1 + i / 16 % 63) % 2 = 1
      · by_cases hin : i < n
        · have hS : tSrc ⟨fn, fd, fs⟩ m (i / 16) = fd := HB.out _ hbit
          have hst := HS.out i
          have hz' : fd.size = n := HL0.out
          have hiz : i < fd.size := by rw [hz']; exact hin
          have hty := tByte_in hS hiz
          obtain ⟨u, hu⟩ : ∃ u, (tByte ⟨fn, fd, fs⟩ m i).toNat = u := ⟨_, rfl⟩
          have hg : ∀ h' : i < fd.size, ((fd[i]'h').toNat : Int) = (u : Int) := fun _ => by rw [← hu, hty]
          have hg2 : ∀ h' : i < fd.size, (fd[i]'h').toNat = u := fun _ => by rw [← hu, hty]
          rw [hu] at hst
          have q1 : i < n := hin
          have q2 : (i : Int) < (n : Int) := by omega
          have HR := Lib.hid hst
          obtain ⟨a, ha⟩ : ∃ a, i / 16 = a := ⟨_, rfl⟩
          rw [ha] at hbit
          have r1 : (i : Int) / 16 = (a : Int) := by omega
          obtain ⟨j, hj⟩ : ∃ j, 1 + a % 63 = j := ⟨_, rfl⟩
          have r2 : (1 : Int) + (a : Int) % 63 = (j : Int) := by omega
          rw [hj] at hbit
          have hj64 : j ≤ 64 := by have := Nat.mod_lt a (show 0 < 63 by decide); omega
          have KJ := Lib.hid (fun W => KB.out W j hj64)
          rw [decide_eq_true hbit] at KJ
          have b1 : (0 : Int) ≤ (i : Int) ∧ (i : Int) < (n : Int) := by omega
          have HI : Hid (i + 1 ≤ n) := hlt
          have HLE : Hid ((kR ⟨fn, fd, fs⟩ m i).length < 140737488355328) := by show _ < _; rw [kR_len]; omega
          have hb2 := hb.out
          have c1 := (X0.out.bl hb2).cell 1 rfl
          have c2 := (X0.out.bl hb2).cell 2 rfl
          clear hS hst hiz hty ha hj hj64 hbit hb2 hlt hin hu
          go_wp2_with (first
            | (go_at_call 37; (with_reducible refine (KJ.out _).mono ?_); rintro e w' ⟨rfl, rfl⟩)
            | (at_builtin; refine app_byte W0 wr rfl _ _ rfl u7 (kR ⟨fn, fd, fs⟩ m i) _ u rfl rfl rfl hown.out hb.out HLE.out ?_; intro v' w' hown' hbl'; rw [← HR.out] at hown'))
          go_roundw
          case rel => exact ⟨i + 1, HI.out, by go_num, hown'.out, hbl'.out⟩
          case measure => have := HI.out; simp [intOf] <;> omega
        · exact absurd hlt hin
      · by_cases hin : i < z
        · have hS : tSrc ⟨fn, fd, fs⟩ m (i / 16) = fs := HB'.out _ hbit
          have hst := HS.out i
          have hz' : fs.size = z := hz
          have hiz : i < fs.size := by rw [hz']; exact hin
          have hty := tByte_in hS hiz
          obtain ⟨u, hu⟩ : ∃ u, (tByte ⟨fn, fd, fs⟩ m i).toNat = u := ⟨_, rfl⟩
          have hg : ∀ h' : i < fs.size, ((fs[i]'h').toNat : Int) = (u : Int) := fun _ => by rw [← hu, hty]
          have hg2 : ∀ h' : i < fs.size, (fs[i]'h').toNat = u := fun _ => by rw [← hu, hty]
          rw [hu] at hst
          have q1 : i < z := hin
          have q2 : (i : Int) < (z : Int) := by omega
          have HR := Lib.hid hst
          obtain ⟨a, ha⟩ : ∃ a, i / 16 = a := ⟨_, rfl⟩
          rw [ha] at hbit
          have r1 : (i : Int) / 16 = (a : Int) := by omega
          obtain ⟨j, hj⟩ : ∃ j, 1 + a % 63 = j := ⟨_, rfl⟩
          have r2 : (1 : Int) + (a : Int) % 63 = (j : Int) := by omega
          rw [hj] at hbit
          have hj64 : j ≤ 64 := by have := Nat.mod_lt a (show 0 < 63 by decide); omega
          have KJ := Lib.hid (fun W => KB.out W j hj64)
          rw [decide_eq_false hbit] at KJ
          have b1 : (0 : Int) ≤ (i : Int) ∧ (i : Int) < (n : Int) := by omega
          have HI : Hid (i + 1 ≤ n) := hlt
          have HLE : Hid ((kR ⟨fn, fd, fs⟩ m i).length < 140737488355328) := by show _ < _; rw [kR_len]; omega
          have hb2 := hb.out
          have c1 := (X0.out.bl hb2).cell 1 rfl
          have c2 := (X0.out.bl hb2).cell 2 rfl
          clear hS hst hiz hty ha hj hj64 hbit hb2 hlt hin hu
          go_wp2_with (first
            | (go_at_call 37; (with_reducible refine (KJ.out _).mono ?_); rintro e w' ⟨rfl, rfl⟩)
            | (at_builtin; refine app_byte W0 wr rfl _ _ rfl u7 (kR ⟨fn, fd, fs⟩ m i) _ u rfl rfl rfl hown.out hb.out HLE.out ?_; intro v' w' hown' hbl'; rw [← HR.out] at hown'))
          go_roundw
          case rel => exact ⟨i + 1, HI.out, by go_num, hown'.out, hbl'.out⟩
          case measure => have := HI.out; simp [intOf] <;> omega
        · have hS : tSrc ⟨fn, fd, fs⟩ m (i / 16) = fs := HB'.out _ hbit
          have hst := HS.out i
          have hz' : fs.size = z := hz
          have hiz : ¬ i < fs.size := by rw [hz']; exact hin
          have hty := tByte_out hS hiz
          rw [hty] at hst
          have hu0 : (0 : UInt8).toNat = 0 := rfl
          rw [hu0] at hst
          have q1 : ¬ i < z := hin
          have q2 : ¬ (i : Int) < (z : Int) := by omega
          have HR := Lib.hid hst
          obtain ⟨a, ha⟩ : ∃ a, i / 16 = a := ⟨_, rfl⟩
          rw [ha] at hbit
          have r1 : (i : Int) / 16 = (a : Int) := by omega
          obtain ⟨j, hj⟩ : ∃ j, 1 + a % 63 = j := ⟨_, rfl⟩
          have r2 : (1 : Int) + (a : Int) % 63 = (j : Int) := by omega
          rw [hj] at hbit
          have hj64 : j ≤ 64 := by have := Nat.mod_lt a (show 0 < 63 by decide); omega
          have KJ := Lib.hid (fun W => KB.out W j hj64)
          rw [decide_eq_false hbit] at KJ
          have b1 : (0 : Int) ≤ (i : Int) ∧ (i : Int) < (n : Int) := by omega
          have HI : Hid (i + 1 ≤ n) := hlt
          have HLE : Hid ((kR ⟨fn, fd, fs⟩ m i).length < 140737488355328) := by show _ < _; rw [kR_len]; omega
          have hb2 := hb.out
          have c1 := (X0.out.bl hb2).cell 1 rfl
          have c2 := (X0.out.bl hb2).cell 2 rfl
          clear hS hst hiz hty ha hj hj64 hbit hb2 hlt hin hu0
          go_wp2_with (first
            | (go_at_call 37; (with_reducible refine (KJ.out _).mono ?_); rintro e w' ⟨rfl, rfl⟩)
            | (at_builtin; refine app_byte W0 wr rfl _ _ rfl u7 (kR ⟨fn, fd, fs⟩ m i) _ 0 rfl rfl rfl hown.out hb.out HLE.out ?_; intro v' w' hown' hbl'; rw [← HR.out] at hown'))
          go_roundw
          case rel => exact ⟨i + 1, HI.out, by go_num, hown'.out, hbl'.out⟩
          case measure => have := HI.out; simp [intOf] <;> omega
    · obtain rfl : i = n := by omega
      have hcv := bytes_conv (P := Try.prog) wr 70 9 5 Try.underlying70 Try.underlying5 Try.underlying9 _ hown.out.rw
      rw [← HE.out] at hcv
      obtain ⟨A7, c7, h7⟩ := rw_shape7 hown.out.rw
      rw [h7] at hcv
      subst h7
      clear hlt hi
      go_wp2
      go_ret
      exact ⟨rfl, G0.out.trans hb.out⟩
set_option maxRecDepth 100000 in
set_option maxHeartbeats 4000000 in
theorem kept_s (fn fd fs : ByteArray) (m : Nat) (hm : m < 18446744073709551616) (hd : fd.size ≤ 140737488355328) (hs : fs.size ≤ 140737488355328) (hmm : m % 2 = 0) (he : sEq fd fs = false) (w : World) :
    Calls Try.prog 28 #[.agg #[.string fn, .string fd, .string fs], .int .u64 (m : Int)] w fun e w' => e = .returned (.string (ktp ⟨fn, fd, fs⟩ m)) ∧ Bl w w' := by
  obtain ⟨n, hn⟩ : ∃ n, tLen ⟨fn, fd, fs⟩ m = n := ⟨_, rfl⟩
  have hn47 : n ≤ 140737488355328 := by rw [← hn]; unfold tLen; split <;> assumption
  have hl : fs.size = n := by unfold tLen at hn; rw [if_neg (by omega)] at hn; exact hn
  have HS := Lib.hid (fun i => kR_step ⟨fn, fd, fs⟩ m i)
  have HE : Hid (ktp ⟨fn, fd, fs⟩ m = ⟨((List.range n).map (tByte ⟨fn, fd, fs⟩ m)).toArray⟩) := by show _ = _; unfold ktp; rw [he, ← hn]; rfl
  have HB : Hid (∀ k, m / 2 ^ (1 + k % 63) % 2 = 1 → tSrc ⟨fn, fd, fs⟩ m k = fd) := fun k h => by unfold tSrc; rw [if_pos h]
  have HB' : Hid (∀ k, ¬ m / 2 ^ (1 + k % 63) % 2 = 1 → tSrc ⟨fn, fd, fs⟩ m k = fs) := fun k h => by unfold tSrc; rw [if_neg h]
  have KB := Lib.hid (fun W k (hk : k ≤ 64) => rbit_any m k hm hk W)
  have KB0 := Lib.hid (fun W => rbit_any m 0 hm (by decide) W)
  rw [show ((0 : Nat) : Int) = 0 from rfl, Nat.pow_zero, Nat.div_one, hmm] at KB0
  rw [show decide (0 = 1) = false from rfl] at KB0
  have t1 : (fd.toList == fs.toList) = false := he
  have t2 : ¬ fd.toList = fs.toList := by have := sEq_not.1 he; exact fun e => this (tl_inj.1 e)
  have nb : (n : Int) ≤ 140737488355328 := by omega
  have HL0 := Lib.hid hl
  obtain ⟨z, hz⟩ : ∃ z, fd.size = z := ⟨_, rfl⟩
  have hz47 : z ≤ 140737488355328 := by rw [← hz]; exact hd
  have zb : (z : Int) ≤ 140737488355328 := by omega
  obtain ⟨T, hT⟩ : ∃ T, ktp ⟨fn, fd, fs⟩ m = T := ⟨_, rfl⟩
  rw [hT] at HE ⊢
  have B0 := Lib.hid (Bq.new w 49 [.string fn, .string fd, .string fs])
  clear hm hn hd hs hmm he hT hz47
  go_enter Try.func28, Try.ntmps28
  go_wp2_with (go_at_call 37; (with_reducible refine (KB0.out _).mono ?_); rintro e w' ⟨rfl, rfl⟩)
  obtain ⟨W0, hW0⟩ : ∃ W0, w.alloc (.cells #[.string fn, .string fd, .string fs] 49) = W0 := ⟨_, rfl⟩
  have G0 : Hid (Bl w W0) := by show Bl w W0; rw [← hW0]; exact (Bl.refl w).alloc _
  have X0 : Hid (Bq W0 w.heap.size 49 [.string fn, .string fd, .string fs]) := by show Bq _ _ _ _; rw [← hW0]; exact B0.out
  rw [hW0]
  clear hW0 B0 KB0 hl
  go_loopw [7, 8] (fun r s wr => ∃ i : Nat, i ≤ n ∧ s = .int .i64 (i : Int) ∧ Hid (Ow .u8 5 W0.heap.size wr r (kR ⟨fn, fd, fs⟩ m i)) ∧ Hid (Bl W0 wr)) (fun _ s _ => n - (intOf s).toNat)
  case atStart => exact ⟨0, Nat.zero_le _, rfl, Ow.nil _ _ _ _, Bl.refl _⟩
  case round =>
    obtain ⟨i, hi, rfl, hown, hb⟩ := hrel
    by_cases hlt : i < n
    · by_cases hbit : m / 2 ^ (1 + i / 16 % 63) % 2 = 1
      · by_cases hin : i < z
        · have hS : tSrc ⟨fn, fd, fs⟩ m (i / 16) = fd := HB.out _ hbit
          have hst := HS.out i
          have hz' : fd.size = z := hz
          have hiz : i < fd.size := by rw [hz']; exact hin
          have hty := tByte_in hS hiz
          obtain ⟨u, hu⟩ : ∃ u, (tByte ⟨fn, fd, fs⟩ m i).toNat = u := ⟨_, rfl⟩
          have hg : ∀ h' : i < fd.size, ((fd[i]'h').toNat : Int) = (u : Int) := fun _ => by rw [← hu, hty]
          have hg2 : ∀ h' : i < fd.size, (fd[i]'h').toNat = u := fun _ => by rw [← hu, hty]
          rw [hu] at hst
          have q1 : i < z := hin
          have q2 : (i : Int) < (z : Int) := by omega
          have HR := Lib.hid hst
          obtain ⟨a, ha⟩ : ∃ a, i / 16 = a := ⟨_, rfl⟩
          rw [ha] at hbit
          have r1 : (i : Int) / 16 = (a : Int) := by omega
          obtain ⟨j, hj⟩ : ∃ j, 1 + a % 63 = j := ⟨_, rfl⟩
          have r2 : (1 : Int) + (a : Int) % 63 = (j : Int) := by omega
          rw [hj] at hbit
          have hj64 : j ≤ 64 := by have := Nat.mod_lt a (show 0 < 63 by decide); omega
          have KJ := Lib.hid (fun W => KB.out W j hj64)
          rw [decide_eq_true hbit] at KJ
          have b1 : (0 : Int) ≤ (i : Int) ∧ (i : Int) < (n : Int) := by omega
          have HI : Hid (i + 1 ≤ n) := hlt
          have HLE : Hid ((kR ⟨fn, fd, fs⟩ m i).length < 140737488355328) := by show _ < _; rw [kR_len]; omega
          have hb2 := hb.out
          have c1 := (X0.out.bl hb2).cell 1 rfl
          have c2 := (X0.out.bl hb2).cell 2 rfl
          clear hS hst hiz hty ha hj hj64 hbit hb2 hlt hin hu
          go_wp2_with (first
            | (go_at_call 37; (with_reducible refine (KJ.out _).mono ?_); rintro e w' ⟨rfl, rfl⟩)
            | (at_builtin; refine app_byte W0 wr rfl _ _ rfl u7 (kR ⟨fn, fd, fs⟩ m i) _ u rfl rfl rfl hown.out hb.out HLE.out ?_; intro v' w' hown' hbl'; rw [← HR.out] at hown'))
          go_roundw
          case rel => exact ⟨i + 1, HI.out, by go_num, hown'.out, hbl'.out⟩
          case measure => have := HI.out; simp [intOf] <;> omega
        · have hS : tSrc ⟨fn, fd, fs⟩ m (i / 16) = fd := HB.out _ hbit
          have hst := HS.out i
          have hz' : fd.size = z := hz
          have hiz : ¬ i < fd.size := by rw [hz']; exact hin
          have hty := tByte_out hS hiz
          rw [hty] at hst
          have hu0 : (0 : UInt8).toNat = 0 := rfl
          rw [hu0] at hst
          have q1 : ¬ i < z := hin
          have q2 : ¬ (i : Int) < (z : Int) := by omega
          have HR := Lib.hid hst
          obtain ⟨a, ha⟩ : ∃ a, i / 16 = a := ⟨_, rfl⟩
          rw [ha] at hbit
          have r1 : (i : Int) / 16 = (a : Int) := by omega
          obtain ⟨j, hj⟩ : ∃ j, 1 + a % 63 = j := ⟨_, rfl⟩
          have r2 : (1 : Int) + (a : Int) % 63 = (j : Int) := by omega
          rw [hj] at hbit
          have hj64 : j ≤ 64 := by have := Nat.mod_lt a (show 0 < 63 by decide); omega
          have KJ := Lib.hid (fun W => KB.out W j hj64)
          rw [decide_eq_true hbit] at KJ
          have b1 : (0 : Int) ≤ (i : Int) ∧ (i : Int) < (n : Int) := by omega
          have HI : Hid (i + 1 ≤ n) := hlt
          have HLE : Hid ((kR ⟨fn, fd, fs⟩ m i).length < 140737488355328) := by show _ < _; rw [kR_len]; omega
          have hb2 := hb.out
          have c1 := (X0.out.bl hb2).cell 1 rfl
          have c2 := (X0.out.bl hb2).cell 2 rfl
          clear hS hst hiz hty ha hj hj64 hbit hb2 hlt hin hu0
          go_wp2_with (first
            | (go_at_call 37; (with_reducible refine (KJ.out _).mono ?_); rintro e w' ⟨rfl, rfl⟩)
            | (at_builtin; refine app_byte W0 wr rfl _ _ rfl u7 (kR ⟨fn, fd, fs⟩ m i) _ 0 rfl rfl rfl hown.out hb.out HLE.out ?_; intro v' w' hown' hbl'; rw [← HR.out] at hown'))
          go_roundw
          case rel => exact ⟨i + 1, HI.out, by go_num, hown'.out, hbl'.out⟩
          case measure => have := HI.out; simp [intOf] <;> omega
      · by_cases hin : i < n
        · have hS : tSrc ⟨fn, fd, fs⟩ m (i / 16) = fs := HB'.out _ hbit
          have hst := HS.out i
          have hz' : fs.size = n := HL0.out
          have hiz : i < fs.size := by rw [hz']; exact hin
          have hty := tByte_in hS hiz
          obtain ⟨u, hu⟩ : ∃ u, (tByte ⟨fn, fd, fs⟩ m i).toNat = u := ⟨_, rfl⟩
          have hg : ∀ h' : i < fs.size, ((fs[i]'h').toNat : Int) = (u : Int) := fun _ => by rw [← hu, hty]
          have hg2 : ∀ h' : i < fs.size, (fs[i]'h').toNat = u := fun _ => by rw [← hu, hty]
          rw [hu] at hst
          have q1 : i < n := hin
          have q2 : (i : Int) < (n : Int) := by omega
          have HR := Lib.hid hst
          obtain ⟨a, ha⟩ : ∃ a, i / 16 = a := ⟨_, rfl⟩
          rw [ha] at hbit
          have r1 : (i : Int) / 16 = (a : Int) := by omega
          obtain ⟨j, hj⟩ : ∃ j, 1 + a % 63 = j := ⟨_, rfl⟩
          have r2 : (1 : Int) + (a : Int) % 63 = (j : Int) := by omega
          rw [hj] at hbit
          have hj64 : j ≤ 64 := by have := Nat.mod_lt a (show 0 < 63 by decide); omega
          have KJ := Lib.hid (fun W => KB.out W j hj64)
          rw [decide_eq_false hbit] at KJ
          have b1 : (0 : Int) ≤ (i : Int) ∧ (i : Int) < (n : Int) := by omega
          have HI : Hid (i + 1 ≤ n) := hlt
          have HLE : Hid ((kR ⟨fn, fd, fs⟩ m i).length < 140737488355328) := by show _ < _; rw [kR_len]; omega
          have hb2 := hb.out
          have c1 := (X0.out.bl hb2).cell 1 rfl
          have c2 := (X0.out.bl hb2).cell 2 rfl
          clear hS hst hiz hty ha hj hj64 hbit hb2 hlt hin hu
          go_wp2_with (first
            | (go_at_call 37; (with_reducible refine (KJ.out _).mono ?_); rintro e w' ⟨rfl, rfl⟩)
            | (at_builtin; refine app_byte W0 wr rfl _ _ rfl u7 (kR ⟨fn, fd, fs⟩ m i) _ u rfl rfl rfl hown.out hb.out HLE.out ?_; intro v' w' hown' hbl'; rw [← HR.out] at hown'))
          go_roundw
          case rel => exact ⟨i + 1, HI.out, by go_num, hown'.out, hbl'.out⟩
          case measure => have := HI.out; simp [intOf] <;> omega
        · exact absurd hlt hin
    · obtain rfl : i = n := by omega
      have hcv := bytes_conv (P := Try.prog) wr 70 9 5 Try.underlying70 Try.underlying5 Try.underlying9 _ hown.out.rw
      rw [← HE.out] at hcv
      obtain ⟨A7, c7, h7⟩ := rw_shape7 hown.out.rw
      rw [h7] at hcv
      subst h7
      clear hlt hi
      go_wp2
      go_ret
      exact ⟨rfl, G0.out.trans hb.out⟩
theorem rkept_any (fn fd fs : ByteArray) (m : Nat) (hm : m < 18446744073709551616) (hd : fd.size ≤ 140737488355328) (hs : fs.size ≤ 140737488355328) (w : World) :
    Calls Try.prog 28 #[.agg #[.string fn, .string fd, .string fs], .int .u64 (m : Int)] w fun e w' => e = .returned (.string (ktp ⟨fn, fd, fs⟩ m)) ∧ Bl w w' := by
  cases he : sEq fd fs with
  | true => exact kept_same fn fd fs m he w
  | false =>
    by_cases h : m % 2 = 1
    · exact kept_d fn fd fs m hm hd hs h he w
    · exact kept_s fn fd fs m hm hd hs (by omega) he w
end Go.Proofs.Ytgbeflocojmhhaa
