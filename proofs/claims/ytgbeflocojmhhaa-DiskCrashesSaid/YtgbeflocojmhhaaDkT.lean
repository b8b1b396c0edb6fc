/-
  The document's Crash of layer 15.
-/
import Derived.Test.YtgbeflocojmhhaaDkH
import Derived.Test.YtgbeflocojmhhaaDkRa
import Derived.Deep.RegionLaw
namespace Go.Proofs.Ytgbeflocojmhhaa
open Go.RowKit
set_option linter.unusedVariables false
set_option linter.unusedSimpArgs false

theorem Of.not_disk {base : Nat} {w : World} {v : Value} {l : List Fl} (h : Of base w v l) {b : Nat} {cs : List Value} (hb : Bq w b 24 cs) : v.ownBlock ≠ some b := by
  obtain ⟨h1, h2⟩ := h
  rcases h2 with ⟨rfl, h0⟩ | ⟨g, cap, cur, rfl, hb', hg, hc, hm, hs, ht⟩
  · intro e; cases e
  · intro e
    have e1 : some g = some b := e
    obtain rfl := Option.some.inj e1
    unfold Bq at hb
    rw [hg] at hb
    injection hb with hb
    injection hb with _ hb _
    exact absurd hb (by decide)
theorem Of.other {base : Nat} {w : World} {v : Value} {l : List Fl} (h : Of base w v l) {g : Nat} (hg : v.ownBlock ≠ some g) (i : Nat) (u : Value) : Of base (w.setCell ⟨g, i, none⟩ u) v l := by
  refine World.ownsRow.kept h (row := some g) ⟨rfl, rfl, rfl, by show w.heap.size ≤ (w.heap.modify g _).size; rw [Array.size_modify]; exact Nat.le_refl _, fun k hk hne => ?_⟩ (.inr hg)
  have : g ≠ k := fun e => hne (by rw [e])
  show (w.heap.modify g _)[k]? = _
  rw [Array.getElem?_modify, if_neg this]
/-- A file appended at a step of a region that draws its order. -/
theorem step_app_file {ops : Array Oper} {o : Oper} {a : Act} {K : Act → World → Prop} {Q : Exit → Act → World → Prop} {E : Prop} (W w : World)
    (hgd : o.guard = none) (s x : Operand) (ho : o.op = .call { callee := .builtin .append, args := #[s, x], argTypes := #[22, 22] })
    (v : Value) (l : List Fl) (n d f : ByteArray) (hs : a.eval s = v) (hx : a.eval x = .slice (some ⟨w.heap.size, 0, none⟩) 1 1) (hown : Of W.heap.size w v l) (hbl : Bl W w) (hl : l.length < 1048576)
    (h : ∀ v' w', Hid (Of W.heap.size w' v' (l ++ [⟨n, d, f⟩])) → Hid (Bl W w') → Hid (∀ b, b < w.heap.size → v.ownBlock ≠ some b → w'.heap[b]? = w.heap[b]?) → K (a.put o.dst v') w') :
    if Region.wanted o (yielded ops a.tmps) = true then Oper.wp Try.prog o a (w.alloc (.cells #[.string n, .string d, .string f] 49)) K Q else E := by
  obtain ⟨i, z, hi, hz, hsize, hby, hzs⟩ := infoF
  have hw : Region.wanted o (yielded ops a.tmps) = true := by simp [Region.wanted, hgd]
  rw [if_pos hw]
  refine wp_append_own _ s x 22 ho W.heap.size 49 i z 3 48 Try.underlying22 hi hz hsize hby hzs (by decide) v l.length (fcs l) hs (World.ownsRow.alloc hown _) ⟨w.heap.size, 0, none⟩ 1 1 [.string n, .string d, .string f] hx rfl ?_ ?_ ?_ ?_ ?_ ?_
  · intro j y hj
    match j, hj with
    | 0, hj => simp at hj; subst hj; simp [Addr.add]
    | 1, hj => simp at hj; subst hj; simp [Addr.add]
    | 2, hj => simp at hj; subst hj; simp [Addr.add]
  · intro y hy; simp at hy; rcases hy with rfl | rfl | rfl <;> rfl
  · unfold maxLen; omega
  · omega
  · have := hbl.size; simp; omega
  · intro v' w' h1 h2 _
    refine h v' w' ?_ ?_ ?_
    · have h1' : w'.ownsRow W.heap.size 49 3 v' (l.length + 1) (fcs l ++ [.string n, .string d, .string f]) := h1
      show w'.ownsRow W.heap.size 49 3 v' (l ++ ([⟨n, d, f⟩] : List Fl)).length (fcs (l ++ ([⟨n, d, f⟩] : List Fl)))
      rw [fcs_append, List.length_append]
      exact h1'
    · exact (hbl.alloc _).grown h2 (fun g hg => (World.ownsRow.lt hown g hg).1)
    · intro b hb hne
      refine (h2.block b (by rw [World.size_alloc]; omega) (fun e => hne e.symm)).trans ?_
      exact heap_alloc_old w _ hb
theorem three_at (w : World) (t0 t1 t2 : TypeId) (c0 c1 c2 : List Value) : Bq (((w.alloc (.cells c0.toArray t0)).alloc (.cells c1.toArray t1)).alloc (.cells c2.toArray t2)) w.heap.size t0 c0 ∧ Bq (((w.alloc (.cells c0.toArray t0)).alloc (.cells c1.toArray t1)).alloc (.cells c2.toArray t2)) (w.heap.size + 1) t1 c1 ∧ Bq (((w.alloc (.cells c0.toArray t0)).alloc (.cells c1.toArray t1)).alloc (.cells c2.toArray t2)) (w.heap.size + 1 + 1) t2 c2 := by
  have h1 := Bq.new (w.alloc (.cells c0.toArray t0)) t1 c1
  have h2 := Bq.new ((w.alloc (.cells c0.toArray t0)).alloc (.cells c1.toArray t1)) t2 c2
  rw [World.size_alloc] at h1
  rw [World.size_alloc, World.size_alloc] at h2
  exact ⟨((Bq.new w t0 c0).alloc _).alloc _, h1.alloc _, h2⟩
theorem cr_take {l : List Fl} {ms : List Nat} {i : Nat} (h : i < l.length) : (cr l ms).take (i + 1) = (cr l ms).take i ++ [crF ms i l[i]] := by
  have hi : i < (cr l ms).length := by rw [cr_len]; exact h
  rw [List.take_add_one, List.getElem?_eq_getElem hi, cr_get l ms i h]
  rfl
set_option maxRecDepth 100000 in
set_option maxHeartbeats 4000000 in
theorem rCrash_any (room : Int) (v vm : Value) (l : List Fl) (ms : List Nat) (w : World) (hv : Fw w v l) (hm : Rw .u64 w vm ms) (hw : All 18446744073709551616 ms) (hl : l.length < 1000) (hz : Szs l) :
    Calls Try.prog 14 #[.agg #[.int .i64 room, v], vm] w (OneEnd w room (cr l ms)) := by
  have HV := Lib.hid hv
  have HM := Lib.hid hm
  have HW := Lib.hid hw
  have HZ := Lib.hid hz
  have KT := Lib.hid (fun W fn fd fs m (hm : m < 18446744073709551616) (hd : fd.size ≤ 140737488355328) (hs : fs.size ≤ 140737488355328) => rkept_any fn fd fs m hm hd hs W)
  obtain ⟨n, hn⟩ : ∃ n, l.length = n := ⟨_, rfl⟩
  have HL := Lib.hid hn
  have hnb : (n : Int) ≤ 1000 := by omega
  have HNB := Lib.hid (show n < 1000 by omega)
  have HEND : Hid ((cr l ms).take n = cr l ms) := List.take_of_length_le (by rw [cr_len]; omega)
  obtain ⟨A, c, rfl, _, _, _, hx⟩ := fw_open hv hn
  have HX := Lib.hid hx
  have hml := rw_len hm
  obtain ⟨L, hL⟩ : ∃ L, ms.length = L := ⟨_, rfl⟩
  have HLM := Lib.hid hL
  obtain ⟨A2, c2, rfl⟩ := rw_open hm hL
  rw [hL] at hml
  have hLb : (L : Int) ≤ 9223372036854775807 := by omega
  have B0 := Lib.hid (three_at w 24 24 24 [.int .i64 room, .slice A n c] [.int .i64 0, .slice none 0 0] [.int .i64 room, .slice none 0 0])
  have a24 := Try.isAgg49
  have z24 := Try.sizeOf49
  clear hv hm hw hl hz hn hL hml hx
  go_enter Try.func14, Try.ntmps14
  go_wp2
  obtain ⟨W0, hW0⟩ : ∃ W0, (((w.alloc (.cells #[.int .i64 room, .slice A n c] 24)).alloc (.cells #[.int .i64 0, .slice none 0 0] 24)).alloc (.cells #[.int .i64 room, .slice none 0 0] 24)) = W0 := ⟨_, rfl⟩
  have G0 : Hid (Bl w W0) := by show Bl w W0; rw [← hW0]; exact (((Bl.refl w).alloc _).alloc _).alloc _
  have B1 : Hid (Bq W0 w.heap.size 24 [.int .i64 room, .slice A n c] ∧ Bq W0 (w.heap.size + 1) 24 [.int .i64 0, .slice none 0 0] ∧ Bq W0 (w.heap.size + 1 + 1) 24 [.int .i64 room, .slice none 0 0]) := by show _ ∧ _; rw [← hW0]; exact B0.out
  rw [hW0]
  clear hW0 B0
  go_loopw [6] (fun s wr => ∃ i : Nat, i ≤ n ∧ s = .int .i64 (i : Int) ∧ ∃ ov, Hid (Of w.heap.size wr ov ((cr l ms).take i)) ∧ Hid (Bq wr (w.heap.size + 1 + 1) 24 [.int .i64 room, ov]) ∧ Hid (Bl w wr) ∧ Hid (Bq wr w.heap.size 24 [.int .i64 room, .slice A n c]) ∧ Hid (Bq wr (w.heap.size + 1) 24 [.int .i64 0, .slice none 0 0])) (fun s _ => n - (intOf s).toNat)
  case atStart => exact ⟨0, Nat.zero_le _, rfl, .slice none 0 0, Of.nil _ _, B1.out.2.2, G0.out, B1.out.1, B1.out.2.1⟩
  case round =>
    obtain ⟨i, hin, rfl, ov, ho, hbz, hb, hbx, hby⟩ := hrel
    clear B1 G0
    by_cases hlt : i < n
    · have hil : i < l.length := by rw [HL.out]; exact hlt
      have hzf := HZ.out _ (List.getElem_mem hil)
      obtain ⟨a1, o1, hA1, hc1, hc2, hc3⟩ := HX.out.at_ hil
      have hab := World.block_lt_of_cell? w _ hc1
      obtain ⟨f, ef⟩ : ∃ f, l[i] = f := ⟨_, rfl⟩
      rw [ef] at hc1 hc2 hc3 hzf
      obtain ⟨fn, fd, fs⟩ := f
      dsimp only at hc1 hc2 hc3 hzf
      have HCN : Hid (∀ W, Bl w W → W.cell? ⟨a1, o1 + i * 3, none⟩ = some (.string fn)) := fun W g => (g.cell (p := ⟨a1, o1 + i * 3, none⟩) hab).trans hc1
      have c1 := (hb.out.cell (p := ⟨a1, o1 + i * 3, none⟩) hab).trans hc1
      have c2 := (hb.out.cell (p := ⟨a1, o1 + i * 3 + 1, none⟩) hab).trans hc2
      have c3 := (hb.out.cell (p := ⟨a1, o1 + i * 3 + 2, none⟩) hab).trans hc3
      have b2 : (0 : Int) ≤ (i : Int) ∧ (i : Int) < (n : Int) := by omega
      subst hA1
      clear hc1 hc2 hc3 hab
      by_cases h0 : L = 0
      · have hM : mk ms i = 0 := mk_none (HLM.out.trans h0) i
        subst h0
        have hst : (cr l ms).take (i + 1) = (cr l ms).take i ++ [⟨fn, ktp ⟨fn, fd, fs⟩ 0, ktp ⟨fn, fd, fs⟩ 0⟩] := by
          rw [cr_take hil, ef]
          congr 2
          show (⟨fn, ktp ⟨fn, fd, fs⟩ (mk ms i), ktp ⟨fn, fd, fs⟩ (mk ms i)⟩ : Fl) = _
          rw [hM]
        obtain ⟨T, hT⟩ : ∃ T, ktp ⟨fn, fd, fs⟩ 0 = T := ⟨_, rfl⟩
        have KM := Lib.hid (fun W => KT.out W fn fd fs 0 (by decide) hzf.2.1 hzf.2.2)
        rw [show ((0 : Nat) : Int) = 0 from rfl] at KM
        rw [hT] at KM hst
        have HST := Lib.hid hst
        have HI : Hid (i + 1 ≤ n) := hlt
        have HLC : Hid (((cr l ms).take i).length < 1048576) := by show _ < _; rw [List.length_take]; have := HNB.out; omega
        clear ef hst hT hil hlt hzf hM
        have k0 := hbx.out.cell 1 rfl
        go_wp2_with (go_at_call 28; (with_reducible refine (KM.out _).mono ?_); rintro e w2 ⟨rfl, hb2⟩; have O2 := Lib.hid ((ho.out.bl hb2).bl (Bl.refl _).drew); have X2 := Lib.hid (hbx.out.bl hb2); have Y2 := Lib.hid (hby.out.bl hb2); have Z2 := Lib.hid (hbz.out.bl hb2); have G2 := Lib.hid ((hb.out.trans hb2).drew); have q0 := X2.out.cell 1 rfl; have q1 := Z2.out.cell 1 rfl; have q2 := HCN.out w2 (hb.out.trans hb2); have q3 := (Z2.out.alloc (.cells #[.string fn, .string T, .string T] 49)).cell 1 rfl; clear hb2)
        have HND := Lib.hid (O2.out.not_disk Z2.out.drew)
        obtain ⟨q7, hq7⟩ : ∃ q, ((cr l ms).take i ++ ([⟨fn, T, T⟩] : List Fl)).length = q := ⟨_, rfl⟩
        have HQ7 := Lib.hid hq7
        clear hq7
        go_region_law (refine step_app_file w w2.drew rfl (.tmp 37) (.tmp 47) rfl ov ((cr l ms).take i) fn T T (by simp [Act.eval, Act.put]) (by simp [Act.eval, Act.put]) O2.out G2.out HLC.out ?_; intro v' w' h1 h2 h3; obtain ⟨A', c', rfl, -⟩ := fw_open h1.out.fw HQ7.out; have Z3 : Hid (Bq w' (w.heap.size + 1 + 1) 24 [.int .i64 room, ov]) := (h3.out _ Z2.out.lt HND.out).trans Z2.out; have Y3 : Hid (Bq w' (w.heap.size + 1) 24 [.int .i64 0, .slice none 0 0]) := (h3.out _ Y2.out.lt (O2.out.not_disk Y2.out.drew)).trans Y2.out; have X3 : Hid (Bq w' w.heap.size 24 [.int .i64 room, .slice (some ⟨a1, o1, none⟩) n c]) := (h3.out _ X2.out.lt (O2.out.not_disk X2.out.drew)).trans X2.out; have z1 := Z3.out.cell 1 rfl; have z2 := Z3.out.free 1)
        all_goals
          go_wp2
          go_roundw
          case rel =>
            refine ⟨i + 1, HI.out, by go_num, _, ?_, Z3.out.set 1 _, h2.out.setCell (p := ⟨w.heap.size + 1 + 1, 1, none⟩) (by show w.heap.size ≤ w.heap.size + 1 + 1; omega) _, X3.out.oth 1 _ (by omega), Y3.out.oth 1 _ (by omega)⟩
            rw [HST.out]
            exact h1.out.other (h1.out.not_disk Z3.out) 1 _
          case measure => have := HI.out; simp [intOf] <;> omega
      · have hLp : 0 < L := by omega
        have hmod : i % L < L := Nat.mod_lt _ hLp
        have hM : mk ms i = ms[i % ms.length]'(by rw [HLM.out]; exact hmod) := mk_some (by rw [HLM.out]; exact hmod)
        have hr := HM.out.bl hb.out
        obtain ⟨A', c', e', _, _, _, hsrc⟩ := hr
        simp only [Value.slice.injEq] at e'
        obtain ⟨rfl, -, rfl⟩ := e'
        obtain ⟨ad, rfl, hmc⟩ := hsrc.at_ (i := i % L) (by rw [HLM.out]; exact hmod)
        have hms : mk ms i = ms[i % L]'(by rw [HLM.out]; exact hmod) := by rw [hM]; simp only [HLM.out]
        obtain ⟨M, eM⟩ : ∃ M, mk ms i = M := ⟨_, rfl⟩
        rw [← hms, eM] at hmc
        have hM2 : M < 18446744073709551616 := by rw [← eM, hms]; exact HW.out _ _
        have MB : (M : Int) ≤ 18446744073709551615 := by omega
        obtain ⟨r, hr⟩ : ∃ r, i % L = r := ⟨_, rfl⟩
        rw [hr] at hmc hmod
        have r1 : (i : Int) % (L : Int) = (r : Int) := by rw [← hr]; exact (Int.natCast_emod i L).symm
        have b5 : (0 : Int) < (L : Int) := by omega
        have b6 : ¬ L = 0 := h0
        have b7 : ¬ (L : Int) = 0 := by omega
        have b8 : (0 : Int) ≤ (r : Int) ∧ (r : Int) < (L : Int) := by omega
        have hst : (cr l ms).take (i + 1) = (cr l ms).take i ++ [⟨fn, ktp ⟨fn, fd, fs⟩ M, ktp ⟨fn, fd, fs⟩ M⟩] := by
          rw [cr_take hil, ef]
          congr 2
          show (⟨fn, ktp ⟨fn, fd, fs⟩ (mk ms i), ktp ⟨fn, fd, fs⟩ (mk ms i)⟩ : Fl) = _
          rw [eM]
        obtain ⟨T, hT⟩ : ∃ T, ktp ⟨fn, fd, fs⟩ M = T := ⟨_, rfl⟩
        have KM := Lib.hid (fun W => KT.out W fn fd fs M (by omega) hzf.2.1 hzf.2.2)
        rw [hT] at KM hst
        have HST := Lib.hid hst
        have HI : Hid (i + 1 ≤ n) := hlt
        have HLC : Hid (((cr l ms).take i).length < 1048576) := by show _ < _; rw [List.length_take]; have := HNB.out; omega
        clear ef hst hT hil hlt hzf hM hms eM hM2 hr hsrc hLp hmod
        have k0 := hbx.out.cell 1 rfl
        go_wp2_with (go_at_call 28; (with_reducible refine (KM.out _).mono ?_); rintro e w2 ⟨rfl, hb2⟩; have O2 := Lib.hid ((ho.out.bl hb2).bl (Bl.refl _).drew); have X2 := Lib.hid (hbx.out.bl hb2); have Y2 := Lib.hid (hby.out.bl hb2); have Z2 := Lib.hid (hbz.out.bl hb2); have G2 := Lib.hid ((hb.out.trans hb2).drew); have q0 := X2.out.cell 1 rfl; have q1 := Z2.out.cell 1 rfl; have q2 := HCN.out w2 (hb.out.trans hb2); have q3 := (Z2.out.alloc (.cells #[.string fn, .string T, .string T] 49)).cell 1 rfl; clear hb2)
        have HND := Lib.hid (O2.out.not_disk Z2.out.drew)
        obtain ⟨q7, hq7⟩ : ∃ q, ((cr l ms).take i ++ ([⟨fn, T, T⟩] : List Fl)).length = q := ⟨_, rfl⟩
        have HQ7 := Lib.hid hq7
        clear hq7
        go_region_law (refine step_app_file w w2.drew rfl (.tmp 37) (.tmp 47) rfl ov ((cr l ms).take i) fn T T (by simp [Act.eval, Act.put]) (by simp [Act.eval, Act.put]) O2.out G2.out HLC.out ?_; intro v' w' h1 h2 h3; obtain ⟨A', c', rfl, -⟩ := fw_open h1.out.fw HQ7.out; have Z3 : Hid (Bq w' (w.heap.size + 1 + 1) 24 [.int .i64 room, ov]) := (h3.out _ Z2.out.lt HND.out).trans Z2.out; have Y3 : Hid (Bq w' (w.heap.size + 1) 24 [.int .i64 0, .slice none 0 0]) := (h3.out _ Y2.out.lt (O2.out.not_disk Y2.out.drew)).trans Y2.out; have X3 : Hid (Bq w' w.heap.size 24 [.int .i64 room, .slice (some ⟨a1, o1, none⟩) n c]) := (h3.out _ X2.out.lt (O2.out.not_disk X2.out.drew)).trans X2.out; have z1 := Z3.out.cell 1 rfl; have z2 := Z3.out.free 1)
        all_goals
          go_wp2
          go_roundw
          case rel =>
            refine ⟨i + 1, HI.out, by go_num, _, ?_, Z3.out.set 1 _, h2.out.setCell (p := ⟨w.heap.size + 1 + 1, 1, none⟩) (by show w.heap.size ≤ w.heap.size + 1 + 1; omega) _, X3.out.oth 1 _ (by omega), Y3.out.oth 1 _ (by omega)⟩
            rw [HST.out]
            exact h1.out.other (h1.out.not_disk Z3.out) 1 _
          case measure => have := HI.out; simp [intOf] <;> omega
    · obtain rfl : i = n := by omega
      rw [HEND.out] at ho
      obtain ⟨A3, c3, hov⟩ := fw_shape ho.out.fw
      subst hov
      have k1 := hbx.out.cell 1 rfl
      have z0 := hbz.out.cell 0 rfl
      have z1 := hbz.out.cell 1 rfl
      have m0 := hby.out.cell 0 rfl
      have m1 := hby.out.cell 1 rfl
      have f0 := hby.out.free 0
      have f1 := hby.out.free 1
      clear hin hlt
      go_wp2
      exact ret_one rfl rfl hby.out ho.out.fw hb.out (Nat.le_succ _)
end Go.Proofs.Ytgbeflocojmhhaa
