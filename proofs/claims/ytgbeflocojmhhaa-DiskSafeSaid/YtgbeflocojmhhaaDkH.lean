/-
  Package disk: Crash.
-/
import Derived.Test.YtgbeflocojmhhaaDkD
import Derived.Test.YtgbeflocojmhhaaDkGc
import Derived.Test.YtgbeflocojmhhaaNatCa
import Derived.Deep.RegionHeld3
namespace Go.Proofs.Ytgbeflocojmhhaa
open Go.RowKit
set_option linter.unusedVariables false
set_option linter.unusedSimpArgs false

theorem two_at' (w : World) (t0 t1 : TypeId) (c0 c1 : List Value) : Bq ((w.alloc (.cells c0.toArray t0)).alloc (.cells c1.toArray t1)) w.heap.size t0 c0 ∧ Bq ((w.alloc (.cells c0.toArray t0)).alloc (.cells c1.toArray t1)) (w.heap.size + 1) t1 c1 := by
  have h1 := Bq.new (w.alloc (.cells c0.toArray t0)) t1 c1
  rw [World.size_alloc] at h1
  exact ⟨(Bq.new w t0 c0).alloc _, h1⟩
/-- The files behind i of them. -/
def crTo (l : List Fl) (ms : List Nat) (i : Nat) : List Fl := (cr l ms).take i ++ l.drop i
theorem crTo_zero (l : List Fl) (ms : List Nat) : crTo l ms 0 = l := by simp [crTo]
theorem crTo_len (l : List Fl) (ms : List Nat) (i : Nat) : (crTo l ms i).length = l.length := by simp [crTo, cr_len]; omega
theorem crTo_end {l : List Fl} {ms : List Nat} {n : Nat} (h : l.length = n) : crTo l ms n = cr l ms := by
  unfold crTo
  rw [List.drop_of_length_le (by omega), List.append_nil, List.take_of_length_le (by rw [cr_len]; omega)]
theorem crTo_at {l : List Fl} {ms : List Nat} {i : Nat} (h : i < l.length) : (crTo l ms i)[i]'(by rw [crTo_len]; exact h) = l[i] := by
  unfold crTo
  rw [List.getElem_append_right (by simp [cr_len]; omega)]
  simp only [List.length_take, cr_len, Nat.min_eq_left (Nat.le_of_lt h), List.getElem_drop]
  congr 1
  omega
theorem crTo_step {l : List Fl} {ms : List Nat} {i : Nat} (h : i < l.length) : (crTo l ms i).set i (crF ms i l[i]) = crTo l ms (i + 1) := by
  refine List.ext_getElem? fun j => ?_
  have hl1 : (cr l ms).length = l.length := cr_len l ms
  rw [List.getElem?_set]
  unfold crTo
  have hlt : ((cr l ms).take i).length = i := by rw [List.length_take]; omega
  have hlt1 : ((cr l ms).take (i + 1)).length = i + 1 := by rw [List.length_take]; omega
  rcases Nat.lt_trichotomy j i with h1 | h1 | h1
  · rw [if_neg (by omega), List.getElem?_append_left (by omega), List.getElem?_append_left (by omega), List.getElem?_take, List.getElem?_take, if_pos h1, if_pos (by omega)]
  · subst h1
    rw [if_pos rfl, if_pos (by rw [List.length_append, hlt, List.length_drop]; omega), List.getElem?_append_left (by omega), List.getElem?_take, if_pos (by omega), List.getElem?_eq_getElem (by omega), cr_get l ms j h]
  · rw [if_neg (by omega), List.getElem?_append_right (by omega), List.getElem?_append_right (by omega), hlt, hlt1, List.getElem?_drop, List.getElem?_drop]
    congr 1
    omega
theorem crF_same {f : Fl} (h : f.d = f.s) (ms : List Nat) (i : Nat) : crF ms i f = f := by
  show (⟨f.n, ktp f (mk ms i), ktp f (mk ms i)⟩ : Fl) = f
  rw [ktp_same h]
  obtain ⟨a, b, c⟩ := f
  dsimp only at h
  rw [h]
theorem crTo_same {l : List Fl} {ms : List Nat} {i : Nat} (h : i < l.length) (hs : sEq l[i].d l[i].s = true) : crTo l ms (i + 1) = crTo l ms i := by
  rw [← crTo_step h, crF_same (sEq_iff.1 hs)]
  have hi : i < (crTo l ms i).length := by rw [crTo_len]; exact h
  have := List.set_getElem_self hi
  rwa [crTo_at h] at this
theorem Of.at_ {base : Nat} {w : World} {l : List Fl} {g n c : Nat} (h : Of base w (.slice (some ⟨g, 0, none⟩) n c) l) (i : Nat) (hi : i < l.length) : w.cell? ⟨g, i * 3, none⟩ = some (.string l[i].n) ∧ w.cell? ⟨g, i * 3 + 1, none⟩ = some (.string l[i].d) ∧ w.cell? ⟨g, i * 3 + 2, none⟩ = some (.string l[i].s) := by
  obtain ⟨A, c', e, h1, h2, h3, h4⟩ := h.fw
  simp only [Value.slice.injEq] at e
  obtain ⟨rfl, rfl, rfl⟩ := e
  obtain ⟨b, o, e, hx⟩ := h4.at_ hi
  simp only [Option.some.injEq, Addr.mk.injEq, and_true] at e
  obtain ⟨rfl, rfl⟩ := e
  rw [Nat.zero_add] at hx
  exact hx
theorem Of.free {base : Nat} {w : World} {l : List Fl} {g n c : Nat} (h : Of base w (.slice (some ⟨g, 0, none⟩) n c) l) (i : Nat) : w.frozen? ⟨g, i, none⟩ = false := by
  rcases h.open_ with ⟨e, _⟩ | ⟨g', c', e, _, _, _, _, hf⟩
  · cases e
  · simp only [Value.slice.injEq, Option.some.injEq, Addr.mk.injEq, and_true] at e
    obtain ⟨rfl, rfl, rfl⟩ := e
    exact hf i
theorem ktp_torn {f : Fl} (h : sEq f.d f.s = false) (m : Nat) : ktp f m = torn f m := by unfold ktp; rw [h]; rfl
theorem mk_none {ms : List Nat} (h : ms.length = 0) (i : Nat) : mk ms i = 0 := by unfold mk; rw [if_pos h]
theorem mk_some {ms : List Nat} {i : Nat} (h : i % ms.length < ms.length) : mk ms i = ms[i % ms.length] := by unfold mk; rw [if_neg (by intro e; rw [e] at h; omega), List.getElem?_eq_getElem h]; rfl
def OneEnd (W : World) (room : Int) (l : List Fl) (e : Ending) (w : World) : Prop := ∃ v, e = .returned (.agg #[.int .i64 room, v]) ∧ Fw w v l ∧ Bl W w
theorem OneEnd.mk {W w : World} {room : Int} {l : List Fl} {v : Value} (h : Fw w v l) (g : Bl W w) : OneEnd W room l (.returned (.agg #[.int .i64 room, v])) w := ⟨v, rfl, h, g⟩
theorem ret_one {W w : World} {fn : Func} {p : Tmp} {b : Nat} {tmps : Array Value} {room r0 : Int} {v : Value} {l : List Fl} {A : Option Addr} {n c : Nat} (h : fn.results = #[.cell p 24]) (hp : tmps.getD p undef = .pointer (some ⟨b, 0, none⟩))
    (hb : Bq w b 24 [.int .i64 r0, .slice A n c]) (hf : Fw w v l) (hg : Bl W w) (hbb : W.heap.size ≤ b) : bodyPost Try.prog fn (OneEnd W room l) Exit.ret { tmps := tmps, defers := [] } (set2 w b room v) :=
  bodyPost_ret (ret_disk h hp (set2_at hb room v)) rfl (OneEnd.mk (fw_set2 hf hb room v) (set2_bl hg hbb room v))
set_option maxRecDepth 100000 in
set_option maxHeartbeats 4000000 in
theorem pCrash_any (room : Int) (v vm : Value) (l : List Fl) (ms : List Nat) (w : World) (hv : Fw w v l) (hm : Rw .u64 w vm ms) (hw : All 18446744073709551616 ms) (hl : l.length < 1000) (hz : Szs l) :
    Calls Try.prog 13 #[.agg #[.int .i64 room, v], vm] w (OneEnd w room (cr l ms)) := by
  have KR := Lib.hid (fun W (g : Bl w W) => preplaced_any v (.slice none 0 0) l [] 0 0 (Nat.le_refl _) (Nat.zero_le _) W (hv.bl g) (Fw.nil _) (by simp; omega))
  have e0 : l.take 0 ++ ([] ++ l.drop 0) = l := by simp
  rw [e0, show ((0 : Nat) : Int) = 0 from rfl] at KR
  have KH := Lib.hid (fun A n c B m k W => pholding_any room A B n c m k W)
  have HM := Lib.hid hm
  have HW := Lib.hid hw
  have HZ := Lib.hid hz
  have KT := Lib.hid (fun W fn fd fs m (hm : m < 18446744073709551616) (hd : fd.size ≤ 140737488355328) (hs : fs.size ≤ 140737488355328) => ptorn_any fn fd fs m hm hd hs W)
  obtain ⟨n, hn⟩ : ∃ n, l.length = n := ⟨_, rfl⟩
  have HL := Lib.hid hn
  have hnb : (n : Int) ≤ 1000 := by omega
  have HEND := Lib.hid (crTo_end (ms := ms) hn)
  obtain ⟨A, c, rfl⟩ := fw_shape hv
  have hml := rw_len hm
  obtain ⟨L, hL⟩ : ∃ L, ms.length = L := ⟨_, rfl⟩
  have HLM := Lib.hid hL
  obtain ⟨A2, c2, rfl⟩ := rw_open hm hL
  rw [hL] at hml
  have hLb : (L : Int) ≤ 9223372036854775807 := by omega
  rw [hn] at KR ⊢
  have B0 := Lib.hid (two_at' w 24 24 [.int .i64 room, .slice A n c] [.int .i64 0, .slice none 0 0])
  have a24 := Try.isAgg49
  have z24 := Try.sizeOf49
  clear hv hm hw hl hz e0 hn hL hml
  go_enter Try.func13, Try.ntmps13
  go_wp2_with (go_at_call 25; (with_reducible refine (KR.out _ (((Bl.refl w).alloc _).alloc _)).mono ?_); rintro e w1 ⟨u, rfl, ho, hb1⟩; obtain ⟨Au, cu, rfl, -⟩ := fw_open ho.fw HL.out; have HO := Lib.hid ho; have G1 := Lib.hid ((((Bl.refl w).alloc _).alloc _).trans hb1); have Q1 := Lib.hid (B0.out.1.bl hb1); have P1 := Lib.hid (B0.out.2.bl hb1); clear hb1 ho)
  have HO' := HO.out.open_
  rcases HO' with ⟨ev, hl0⟩ | ⟨g, cg, ev, hge, hgl, hcg, _, hfr⟩
  · simp only [Value.slice.injEq] at ev
    obtain ⟨rfl, -, rfl⟩ := ev
    subst hl0
    obtain rfl : n = 0 := HL.out.symm
    have k0 := Q1.out.cell 0 rfl
    have k1 := Q1.out.cell 1 rfl
    have ecr : cr [] ms = [] := rfl
    rw [ecr]
    clear HO
    go_loop [15] (fun i => i = .int .i64 0) (fun _ => 0)
    case atStart => rfl
    case round =>
      subst hrel
      go_wp2_with (go_at_call 27; (with_reducible refine (KH.out _ _ _ _ _ _ _).mono ?_); rintro e w2 ⟨rfl, hb2⟩; have G2 := Lib.hid (G1.out.trans hb2); have P2 := Lib.hid (P1.out.bl hb2); have m0 := P2.out.cell 0 rfl; have m1 := P2.out.cell 1 rfl; have f0 := P2.out.free 0; have f1 := P2.out.free 1)
      exact ret_one rfl rfl P2.out (Fw.nil _) G2.out (Nat.le_succ _)
  · simp only [Value.slice.injEq] at ev
    obtain ⟨rfl, -, rfl⟩ := ev
    rw [World.size_alloc, World.size_alloc] at hge
    have HG : Hid (w.heap.size ≤ g ∧ g ≠ w.heap.size ∧ g ≠ w.heap.size + 1) := ⟨by omega, by omega, by omega⟩
    have HCG : Hid (n ≤ cu) := by show n ≤ cu; rw [← HL.out]; exact hcg
    obtain ⟨base, hbase⟩ : ∃ b, ((w.alloc (.cells #[.int .i64 room, .slice A n c] 24)).alloc (.cells #[.int .i64 0, .slice none 0 0] 24)).heap.size = b := ⟨_, rfl⟩
    rw [hbase] at HO
    have HC0 := Lib.hid (crTo_zero l ms)
    clear hge hgl hcg hfr hbase B0 KR
    go_loopw [15] (fun s wr => ∃ i : Nat, i ≤ n ∧ s = .int .i64 (i : Int) ∧ Hid (Of base wr (.slice (some ⟨g, 0, none⟩) n cu) (crTo l ms i)) ∧ Hid (Bl w wr) ∧ Hid (Bq wr w.heap.size 24 [.int .i64 room, .slice A n c]) ∧ Hid (Bq wr (w.heap.size + 1) 24 [.int .i64 0, .slice none 0 0])) (fun s _ => n - (intOf s).toNat)
    case atStart => exact ⟨0, Nat.zero_le _, rfl, by rw [HC0.out]; exact HO.out, G1.out, Q1.out, P1.out⟩
    case round =>
      obtain ⟨i, hin, rfl, ho, hb, hbx, hby⟩ := hrel
      clear HO Q1 P1
      by_cases hlt : i < n
      · have hil : i < l.length := by rw [HL.out]; exact hlt
        have hcl := ho.out.at_ i (by rw [crTo_len]; exact hil)
        rw [crTo_at hil] at hcl
        have hzf := HZ.out _ (List.getElem_mem hil)
        have hsame := fun h => crTo_same (ms := ms) hil h
        obtain ⟨f, ef⟩ : ∃ f, l[i] = f := ⟨_, rfl⟩
        rw [ef] at hcl hzf hsame
        obtain ⟨fn, fd, fs⟩ := f
        dsimp only at hcl hzf hsame
        obtain ⟨hc1, hc2, hc3⟩ := hcl
        have b2 : (0 : Int) ≤ (i : Int) ∧ (i : Int) < (n : Int) := by omega
        cases eq : sEq fd fs with
        | true =>
          have hs := Lib.hid (hsame eq)
          have t1 : (fd.toList == fs.toList) = true := eq
          have t2 : fd.toList = fs.toList := by rw [sEq_iff.1 eq]
          have HI : Hid (i + 1 ≤ n) := hlt
          clear hsame ef eq hil hlt hzf
          go_wp2
          go_roundw
          case rel => exact ⟨i + 1, HI.out, by go_num, by rw [hs.out]; exact ho.out.alloc _, hb.out.alloc _, hbx.out.alloc _, hby.out.alloc _⟩
          case measure => have := HI.out; simp [intOf] <;> omega
        | false =>
          clear hsame
          by_cases h0 : L = 0
          · have hM : mk ms i = 0 := mk_none (HLM.out.trans h0) i
            subst h0
            have hst : (crTo l ms i).set i ⟨fn, torn ⟨fn, fd, fs⟩ 0, torn ⟨fn, fd, fs⟩ 0⟩ = crTo l ms (i + 1) := by
              rw [← crTo_step hil, ef]
              congr 1
              show _ = (⟨fn, ktp ⟨fn, fd, fs⟩ (mk ms i), ktp ⟨fn, fd, fs⟩ (mk ms i)⟩ : Fl)
              rw [ktp_torn (f := ⟨fn, fd, fs⟩) eq, hM]
            obtain ⟨T, hT⟩ : ∃ T, torn ⟨fn, fd, fs⟩ 0 = T := ⟨_, rfl⟩
            have KM := Lib.hid (fun W => KT.out W fn fd fs 0 (by decide) hzf.2.1 hzf.2.2)
            rw [show ((0 : Nat) : Int) = 0 from rfl] at KM
            rw [hT] at KM hst
            have HST := Lib.hid hst
            have HI : Hid (i + 1 ≤ n) := hlt
            have HLC : Hid (i < (crTo l ms i).length) := by show _ < _; rw [crTo_len]; exact hil
            have t1 : (fd.toList == fs.toList) = false := eq
            have t2 : ¬ fd.toList = fs.toList := by have := sEq_not.1 eq; exact fun e => this (tl_inj.1 e)
            have X1 := Lib.hid (hbx.out.alloc (.cells #[.string fn, .string fd, .string fs] 49))
            have F1 := Lib.hid (Bq.new wr 49 [.string fn, .string fd, .string fs])
            have f0 := F1.out.cell 0 rfl
            have f1 := F1.out.cell 1 rfl
            have f2 := F1.out.cell 2 rfl
            clear ef eq hst hT hil hlt hzf hM
            go_wp2_with (go_at_call 26; (with_reducible refine (KM.out _).mono ?_); rintro e w2 ⟨rfl, hb2⟩; have O2 := Lib.hid ((ho.out.alloc (.cells #[.string fn, .string fd, .string fs] 49)).bl hb2); have X2 := Lib.hid (X1.out.bl hb2); have Y2 := Lib.hid ((hby.out.alloc (.cells #[.string fn, .string fd, .string fs] 49)).bl hb2); have G2 := Lib.hid ((hb.out.alloc (.cells #[.string fn, .string fd, .string fs] 49)).trans hb2); have F2 := Lib.hid (F1.out.bl hb2); have k0 := F2.out.cell 0 rfl; have k1 := F2.out.cell 1 rfl; have k2 := F2.out.cell 2 rfl; have d0 := O2.out.free (i * 3); have d1 := O2.out.free (i * 3 + 1); have d2 := O2.out.free (i * 3 + 2); obtain ⟨e0, e1, e2⟩ := O2.out.at_ i HLC.out; clear hb2)
            go_roundw
            case rel =>
              have hO := O2.out.set i HLC.out ⟨fn, T, T⟩
              rw [HST.out] at hO
              exact ⟨i + 1, HI.out, by go_num, hO, ((G2.out.setCell (p := ⟨g, i * 3, none⟩) HG.out.1 _).setCell (p := ⟨g, i * 3 + 1, none⟩) HG.out.1 _).setCell (p := ⟨g, i * 3 + 2, none⟩) HG.out.1 _, ((X2.out.oth (i * 3) _ HG.out.2.1).oth (i * 3 + 1) _ HG.out.2.1).oth (i * 3 + 2) _ HG.out.2.1, ((Y2.out.oth (i * 3) _ HG.out.2.2).oth (i * 3 + 1) _ HG.out.2.2).oth (i * 3 + 2) _ HG.out.2.2⟩
            case measure => have := HI.out; simp [intOf] <;> omega
          · have hLp : 0 < L := by omega
            have hmod : i % L < L := Nat.mod_lt _ hLp
            have hM : mk ms i = ms[i % ms.length]'(by rw [HLM.out]; exact hmod) := mk_some (by rw [HLM.out]; exact hmod)
            have hr := HM.out.bl hb.out
            obtain ⟨A', c', e', _, _, _, hsrc⟩ := hr
            simp only [Value.slice.injEq] at e'
            obtain ⟨rfl, -, rfl⟩ := e'
            obtain ⟨ad, rfl, hmc⟩ := hsrc.at_ (i := i % L) (by rw [HLM.out]; exact hmod)
            have hms : mk ms i = ms[i % L]'(by rw [HLM.out]; exact hmod) := by rw [hM]; simp only [HLM.out]
            obtain ⟨M, eM⟩ : ∃ M, mk ms i = M := ⟨_, rfl⟩
            rw [← hms, eM] at hmc
            have hM2 : M < 18446744073709551616 := by rw [← eM, hms]; exact HW.out _ _
            have MB : (M : Int) ≤ 18446744073709551615 := by omega
            obtain ⟨r, hr⟩ : ∃ r, i % L = r := ⟨_, rfl⟩
            rw [hr] at hmc hmod
            have hmc2 : (wr.alloc (.cells #[.string fn, .string fd, .string fs] 49)).cell? (ad.add r) = some (.int .u64 (M : Int)) := (((Bl.refl wr).alloc _).cell (World.block_lt_of_cell? _ _ hmc)).trans hmc
            have r1 : (i : Int) % (L : Int) = (r : Int) := by rw [← hr]; exact (Int.natCast_emod i L).symm
            have b5 : (0 : Int) < (L : Int) := by omega
            have b6 : ¬ L = 0 := h0
            have b7 : ¬ (L : Int) = 0 := by omega
            have b8 : (0 : Int) ≤ (r : Int) ∧ (r : Int) < (L : Int) := by omega
            have hst : (crTo l ms i).set i ⟨fn, torn ⟨fn, fd, fs⟩ M, torn ⟨fn, fd, fs⟩ M⟩ = crTo l ms (i + 1) := by
              rw [← crTo_step hil, ef]
              congr 1
              show _ = (⟨fn, ktp ⟨fn, fd, fs⟩ (mk ms i), ktp ⟨fn, fd, fs⟩ (mk ms i)⟩ : Fl)
              rw [ktp_torn (f := ⟨fn, fd, fs⟩) eq, eM]
            obtain ⟨T, hT⟩ : ∃ T, torn ⟨fn, fd, fs⟩ M = T := ⟨_, rfl⟩
            have KM := Lib.hid (fun W => KT.out W fn fd fs M (by omega) hzf.2.1 hzf.2.2)
            rw [hT] at KM hst
            have HST := Lib.hid hst
            have HI : Hid (i + 1 ≤ n) := hlt
            have HLC : Hid (i < (crTo l ms i).length) := by show _ < _; rw [crTo_len]; exact hil
            have t1 : (fd.toList == fs.toList) = false := eq
            have t2 : ¬ fd.toList = fs.toList := by have := sEq_not.1 eq; exact fun e => this (tl_inj.1 e)
            have X1 := Lib.hid (hbx.out.alloc (.cells #[.string fn, .string fd, .string fs] 49))
            have F1 := Lib.hid (Bq.new wr 49 [.string fn, .string fd, .string fs])
            have f0 := F1.out.cell 0 rfl
            have f1 := F1.out.cell 1 rfl
            have f2 := F1.out.cell 2 rfl
            clear ef eq hst hT hil hlt hzf hM hms eM hM2 hr hsrc hLp hmod
            go_wp2_with (go_at_call 26; (with_reducible refine (KM.out _).mono ?_); rintro e w2 ⟨rfl, hb2⟩; have O2 := Lib.hid ((ho.out.alloc (.cells #[.string fn, .string fd, .string fs] 49)).bl hb2); have X2 := Lib.hid (X1.out.bl hb2); have Y2 := Lib.hid ((hby.out.alloc (.cells #[.string fn, .string fd, .string fs] 49)).bl hb2); have G2 := Lib.hid ((hb.out.alloc (.cells #[.string fn, .string fd, .string fs] 49)).trans hb2); have F2 := Lib.hid (F1.out.bl hb2); have k0 := F2.out.cell 0 rfl; have k1 := F2.out.cell 1 rfl; have k2 := F2.out.cell 2 rfl; have d0 := O2.out.free (i * 3); have d1 := O2.out.free (i * 3 + 1); have d2 := O2.out.free (i * 3 + 2); obtain ⟨e0, e1, e2⟩ := O2.out.at_ i HLC.out; clear hb2)
            go_roundw
            case rel =>
              have hO := O2.out.set i HLC.out ⟨fn, T, T⟩
              rw [HST.out] at hO
              exact ⟨i + 1, HI.out, by go_num, hO, ((G2.out.setCell (p := ⟨g, i * 3, none⟩) HG.out.1 _).setCell (p := ⟨g, i * 3 + 1, none⟩) HG.out.1 _).setCell (p := ⟨g, i * 3 + 2, none⟩) HG.out.1 _, ((X2.out.oth (i * 3) _ HG.out.2.1).oth (i * 3 + 1) _ HG.out.2.1).oth (i * 3 + 2) _ HG.out.2.1, ((Y2.out.oth (i * 3) _ HG.out.2.2).oth (i * 3 + 1) _ HG.out.2.2).oth (i * 3 + 2) _ HG.out.2.2⟩
            case measure => have := HI.out; simp [intOf] <;> omega
      · obtain rfl : i = n := by omega
        rw [HEND.out] at ho
        have k0 := hbx.out.cell 0 rfl
        have k1 := hbx.out.cell 1 rfl
        clear hin hlt
        go_wp2_with (go_at_call 27; (with_reducible refine (KH.out _ _ _ _ _ _ _).mono ?_); rintro e w2 ⟨rfl, hb2⟩; have G2 := Lib.hid (hb.out.trans hb2); have P2 := Lib.hid (hby.out.bl hb2); have O2 := Lib.hid (ho.out.bl hb2); have m0 := P2.out.cell 0 rfl; have m1 := P2.out.cell 1 rfl; have f0 := P2.out.free 0; have f1 := P2.out.free 1)
        exact ret_one rfl rfl P2.out O2.out.fw G2.out (Nat.le_succ _)
end Go.Proofs.Ytgbeflocojmhhaa
