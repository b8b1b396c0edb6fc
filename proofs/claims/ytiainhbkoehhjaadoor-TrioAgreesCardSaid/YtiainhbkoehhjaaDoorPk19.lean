/-
  Package trio: transformer, and the transform that it makes, in place.
-/
import Derived.Test.YtiainhbkoehhjaaDoorPk18
import Derived.Deep.RegionWith
namespace Go.Proofs.YtiainhbkoehhjaaDoor
open Go.RowKit
set_option linter.unusedVariables false
set_option linter.unusedSimpArgs false

/-- What the transform captures: how many times 2, the form's parameters, the powers. -/
structure Tf (m n o s k N : Nat) (W0 : World) (bk bx bp pb : Nat) (w : World) : Prop where
  k : w.cell? ⟨bk, 0, none⟩ = some (.int .i64 (k : Int))
  x : Four bx (.int .u32 (m : Int)) (.int .u32 (n : Int)) (.int .u32 (o : Int)) (.int .u32 (s : Int)) w
  p : w.cell? ⟨bp, 0, none⟩ = some (.slice (some ⟨pb, 0, none⟩) N N)
  r : Bk .u32 25 w pb (ml N (rt m))
  lk : bk < w.heap.size
  lp : bp < w.heap.size
  gk : W0.heap.size ≤ bk
  gx : W0.heap.size ≤ bx
  gp : W0.heap.size ≤ bp
  gr : W0.heap.size ≤ pb
theorem Tf.bl {m n o s k N : Nat} {W0 : World} {bk bx bp pb : Nat} {w w' : World} (h : Tf m n o s k N W0 bk bx bp pb w) (g : Bl w w') : Tf m n o s k N W0 bk bx bp pb w' := by
  obtain ⟨h0, h1, h2, h3, hb⟩ := h.x
  exact ⟨(g.cell (p := ⟨bk, 0, none⟩) h.lk).trans h.k, ⟨(g.cell (p := ⟨bx, 0, none⟩) hb).trans h0, (g.cell (p := ⟨bx, 1, none⟩) hb).trans h1, (g.cell (p := ⟨bx, 2, none⟩) hb).trans h2, (g.cell (p := ⟨bx, 3, none⟩) hb).trans h3, Nat.lt_of_lt_of_le hb g.size⟩,
    (g.cell (p := ⟨bp, 0, none⟩) h.lp).trans h.p, h.r.bl g, Nat.lt_of_lt_of_le h.lk g.size, Nat.lt_of_lt_of_le h.lp g.size, h.gk, h.gx, h.gp, h.gr⟩
theorem Tf.og {m n o s k N : Nat} {W0 : World} {bk bx bp pb g : Nat} {w w' : World} (h : Tf m n o s k N W0 bk bx bp pb w) (ho : Og g w w') (n1 : bk ≠ g) (n2 : bx ≠ g) (n3 : bp ≠ g) (n4 : pb ≠ g) : Tf m n o s k N W0 bk bx bp pb w' :=
  ⟨(ho.cell (p := ⟨bk, 0, none⟩) h.lk n1).trans h.k, h.x.og ho n2, (ho.cell (p := ⟨bp, 0, none⟩) h.lp n3).trans h.p, h.r.og ho n4, Nat.lt_of_lt_of_le h.lk ho.size, Nat.lt_of_lt_of_le h.lp ho.size, h.gk, h.gx, h.gp, h.gr⟩
/-- The transform. -/
def tfv (bk bx bp : Nat) : Value := .func (.func 72) #[] #[.pointer (some ⟨bk, 0, none⟩), .pointer (some ⟨bx, 0, none⟩), .pointer (some ⟨bp, 0, none⟩)]
def TfEnd (m n o s k N : Nat) (W : World) (e : Ending) (w : World) : Prop := ∃ bk bx bp pb, e = .returned (tfv bk bx bp) ∧ Tf m n o s k N W bk bx bp pb w ∧ Bl W w

set_option maxRecDepth 100000 in
set_option maxHeartbeats 4000000 in
theorem transformer_any {m n o s : Nat} (pm : Pm m n o s) (W : World) (k N : Nat) (hN : N = 2 ^ k) (hk : k ≤ 20) (hm3 : 3 < m) :
    Calls Tryd.prog 57 #[frm m n o s, .int .i64 (k : Int)] W (TfEnd m n o s k N W) := by
  have hmf : ∀ (fn : Fn) (first cap : Array Value) (w : World), (Instr.makeFunc fn first cap).run Tryd.prog w = .ok (.func fn first cap) w := fun _ _ _ _ => rfl
  have RT := Lib.hid (fun W => roots_any pm W k N hN hk hm3)
  have F0 := Lib.hid (four_box W (.int .u32 (m : Int)) (.int .u32 (n : Int)) (.int .u32 (o : Int)) (.int .u32 (s : Int)) 77)
  clear hN hk hm3 pm
  unfold frm at RT ⊢
  go_enter Tryd.func57, Tryd.ntmps57
  go_wp2_with (go_at_call 71; (with_reducible refine (RT.out _).mono ?_); rintro e w2 ⟨pb, rfl, hpb, hr, hb⟩)
  go_ret
  obtain ⟨W1, hW1⟩ : ∃ W1, (W.alloc (.cells #[.int .u32 (m : Int), .int .u32 (n : Int), .int .u32 (o : Int), .int .u32 (s : Int)] 77)).alloc (.cells #[.int .i64 (k : Int)] 3) = W1 := ⟨_, rfl⟩
  have c1 : W1.cell? ⟨W.heap.size + 1, 0, none⟩ = some (.int .i64 (k : Int)) := by rw [← hW1]; simp
  have c2 := F0.out.kept ((Gr.refl _).alloc #[.int .i64 (k : Int)] 3)
  have c3 : W1.heap.size = W.heap.size + 2 := by rw [← hW1]; simp
  have c4 : Bl W W1 := by rw [← hW1]; exact ((Bl.refl W).alloc _).alloc _
  rw [hW1] at c2 hpb hb
  have hb2 : Bl W1 (w2.alloc (.cells #[.slice (some ⟨pb, 0, none⟩) N N] 34)) := hb.alloc _
  have hsz := hb.size
  have c5 : (w2.alloc (.cells #[.slice (some ⟨pb, 0, none⟩) N N] 34)).cell? ⟨w2.heap.size, 0, none⟩ = some (.slice (some ⟨pb, 0, none⟩) N N) := by simp
  have c6 : (w2.alloc (.cells #[.slice (some ⟨pb, 0, none⟩) N N] 34)).heap.size = w2.heap.size + 1 := by simp
  have c7 := hr.bl ((Bl.refl w2).alloc (.cells #[.slice (some ⟨pb, 0, none⟩) N N] 34))
  obtain ⟨d0, d1, d2, d3, d4⟩ := c2
  exact ⟨W.heap.size + 1, W.heap.size, w2.heap.size, pb, rfl, ⟨(hb2.cell (p := ⟨W.heap.size + 1, 0, none⟩) (by rw [c3]; show W.heap.size + 1 < _; omega)).trans c1, ⟨(hb2.cell (p := ⟨W.heap.size, 0, none⟩) d4).trans d0, (hb2.cell (p := ⟨W.heap.size, 1, none⟩) d4).trans d1, (hb2.cell (p := ⟨W.heap.size, 2, none⟩) d4).trans d2, (hb2.cell (p := ⟨W.heap.size, 3, none⟩) d4).trans d3, Nat.lt_of_lt_of_le d4 hb2.size⟩,
    c5, c7, by omega, by omega, by omega, Nat.le_refl _, by omega, by omega⟩, c4.trans hb2⟩

/-- A row of forms between two blocks of a stage. -/
def stg (m k : Nat) (f : Nat → Nat) (s at' p : Nat) : Nat := if p < at' then fm m (st m k f (s + 1) p) else fm m (st m k f s p)
theorem stg_lt (m k : Nat) (f : Nat → Nat) (s a p : Nat) (h : 0 < m) : stg m k f s a p < m := by
  unfold stg
  split <;> exact fm_lt _ _ h
theorem stg_zero (m k : Nat) (f : Nat → Nat) (s p : Nat) : stg m k f s 0 p = fm m (st m k f s p) := if_neg (by omega)
theorem stg_all (m k : Nat) (f : Nat → Nat) (s a p : Nat) (h : p < a) : stg m k f s a p = fm m (st m k f (s + 1) p) := if_pos h
theorem stg_next (m k : Nat) (f : Nat → Nat) (s a H : Nat) (p : Nat) : mx (stg m k f s a) (fun p => fm m (st m k f (s + 1) p)) a H H p = stg m k f s (a + 2 * H) p := by
  unfold mx stg
  by_cases h1 : p < a
  · rw [if_neg (by omega), if_pos h1, if_pos (by omega)]
  · by_cases h2 : p < a + 2 * H
    · rw [if_pos (by omega), if_pos h2]
    · rw [if_neg (by omega), if_neg h1, if_neg h2]
/-- What mix is to make of two halves. -/
theorem stg_mix {m k s : Nat} (hP : P3 m) (hs : s < k) (hk : k ≤ 20) (f : Nat → Nat) (q j : Nat) (hj : j < 2 ^ s) :
    fm m (st m k f (s + 1) (q * 2 ^ (s + 1) + j)) = bel m (stg m k f s (q * 2 ^ (s + 1)) (q * 2 ^ (s + 1) + j) + rd m (stg m k f s (q * 2 ^ (s + 1)) (q * 2 ^ (s + 1) + 2 ^ s + j) * fm m (vr m (s + 1) ^ j))) ∧
    fm m (st m k f (s + 1) (q * 2 ^ (s + 1) + 2 ^ s + j)) = bel m (stg m k f s (q * 2 ^ (s + 1)) (q * 2 ^ (s + 1) + j) + m - rd m (stg m k f s (q * 2 ^ (s + 1)) (q * 2 ^ (s + 1) + 2 ^ s + j) * fm m (vr m (s + 1) ^ j))) := by
  have hm0 : 0 < m := by have := hP.ge; omega
  obtain ⟨b1, b2⟩ := st_both hs (vr_sq hP s (by omega)) (vr_full hP (s + 1) (by omega)) f q j hj
  obtain ⟨a, ha⟩ : ∃ a, q * 2 ^ (s + 1) = a := ⟨_, rfl⟩
  rw [ha] at b1 b2 ⊢
  have e1 : stg m k f s a (a + j) = fm m (st m k f s (a + j)) := if_neg (by omega)
  have e2 : stg m k f s a (a + 2 ^ s + j) = fm m (st m k f s (a + 2 ^ s + j)) := if_neg (by omega)
  rw [e1, e2, rd_fm m _ _ hP.odd]
  constructor
  · rw [fm_add m _ _ hm0, b1, Nat.mul_comm (vr m (s + 1) ^ j)]
  · rw [fm_sub m _ _ (vr m (s + 1) ^ 2 ^ s) hm0 (vr_half hP (s + 1) (by omega) s rfl)]
    refine fm_same (b2.trans (Cg.of_eq ?_))
    rw [Nat.pow_add, Nat.mul_comm (vr m (s + 1) ^ j), Nat.mul_assoc, Nat.mul_comm (vr m (s + 1) ^ j)]

set_option maxRecDepth 100000 in
set_option maxHeartbeats 8000000 in
theorem transform_any {m n o s : Nat} (pm : Pm m n o s) (hP3 : P3 m) (W W0 : World) (k N g C bk bx bp pb : Nat) (f : Nat → Nat) (hN : N = 2 ^ k) (hk : k ≤ 20) (hT : Tf m n o s k N W0 bk bx bp pb W) (hNC : N ≤ C) (n1 : bk ≠ g) (n2 : bx ≠ g) (n3 : bp ≠ g) (n4 : pb ≠ g) (hb : Bk .u32 25 W g (ml N fun i => fm m (f i))) :
    Calls Tryd.prog 72 #[.slice (some ⟨g, 0, none⟩) N C, .pointer (some ⟨bk, 0, none⟩), .pointer (some ⟨bx, 0, none⟩), .pointer (some ⟨bp, 0, none⟩)] W fun e w => e = .returned (.tuple #[]) ∧ Bk .u32 25 w g (ml N fun j => fm m (dft (vr m k) N f j)) ∧ Og g W w := by
  have TN := Lib.hid (trturn_any W g k N C _ hN hk hb)
  have hp := pow20 k hk
  rw [← hN] at hp
  have hNb : (N : Int) ≤ 1048576 := by omega
  have HT := Lib.hid (fun w (ho : Og g W w) => hT.og ho n1 n2 n3 n4)
  have HN := Lib.hid hN
  have HK := Lib.hid hk
  have HPM := Lib.hid pm
  have HP3 := Lib.hid hP3
  have HG := Lib.hid hb.lt
  have N4 := Lib.hid n4
  have HNC := Lib.hid hNC
  have k0 := hT.k
  clear hN hk pm hP3 hT hb hp n1 n2 n3 n4 hNC
  go_enter Tryd.func72, Tryd.ntmps72
  go_wp2_with (go_at_call 73; (with_reducible refine TN.out.mono ?_); rintro e w1 ⟨rfl, hb1, ho1⟩; have HB1 := Lib.hid hb1; have HO1 := Lib.hid ho1; clear hb1 ho1)
  clear k0
  go_loopw [5] (fun sv wr => ∃ s' H : Nat, s' ≤ k ∧ H = 2 ^ s' ∧ sv = .int .i64 (H : Int) ∧ Hid (Bk .u32 25 wr g (ml N fun p => fm m (st m k f s' p))) ∧ Hid (Og g W wr)) (fun sv _ => N - (intOf sv).toNat)
  case atStart => exact ⟨0, 1, Nat.zero_le _, by rw [Nat.pow_zero], rfl, (by show Bk _ _ _ _ _; rw [ml_congr (fun p _ => by rw [st_zero])]; exact HB1.out), HO1⟩
  case round =>
    clear HB1 HO1
    obtain ⟨s', H, hsk, hH, rfl, hbk, ho⟩ := hrel
    by_cases hlt : s' < k
    · obtain ⟨D, hD⟩ : ∃ D, 2 ^ (s' + 1) = D := ⟨_, rfl⟩
      obtain ⟨B, hB⟩ : ∃ B, 2 ^ (k - (s' + 1)) = B := ⟨_, rfl⟩
      have hDH : D = H + H := by rw [← hD, hH, Nat.pow_succ]; omega
      have hNB : N = B * D := by rw [HN.out, ← hB, ← hD, ← Nat.pow_add]; congr 1; omega
      have hB0 : 0 < B := by rw [← hB]; exact Nat.pow_pos (by decide)
      have hH0 : 0 < H := by rw [hH]; exact Nat.pow_pos (by decide)
      have hDN : D ≤ N := by rw [hNB]; exact Nat.le_mul_of_pos_left _ hB0
      have d1 : decide (H < N) = true := decide_eq_true (by omega)
      have hHb : (H : Int) ≤ 1048576 := by omega
      have HS := Lib.hid hlt
      have HD := Lib.hid hD
      have HH := Lib.hid hH
      have HDH := Lib.hid hDH
      have HNB := Lib.hid hNB
      have HDN := Lib.hid hDN
      have HH0 := Lib.hid hH0
      clear hB hDH hNB hB0 hH0 hDN hlt hD hH hsk
      go_wp2
      go_loopw [6] (fun sv wr => ∃ q a : Nat, q ≤ B ∧ Hid (a = q * D) ∧ sv = .int .i64 (a : Int) ∧ Hid (Bk .u32 25 wr g (ml N (stg m k f s' a))) ∧ Hid (Og g W wr)) (fun sv _ => N - (intOf sv).toNat)
      case atStart => exact ⟨0, 0, Nat.zero_le _, (by show 0 = 0 * D; rw [Nat.zero_mul]), rfl, (by show Bk _ _ _ _ _; rw [ml_congr (fun p _ => stg_zero m k f s' p)]; exact hbk.out), ho⟩
      case round =>
        clear hbk ho
        obtain ⟨q, a, hqB, ha, rfl, hbk, ho⟩ := hrel
        by_cases hlt2 : q < B
        · have haN : a + D ≤ N := by
            have h := Nat.mul_le_mul_right D (show q + 1 ≤ B from hlt2)
            rw [Nat.add_mul, Nat.one_mul, ← ha.out, ← HNB.out] at h
            exact h
          have hDH := HDH.out
          have hH0 := HH0.out
          have hNC := HNC.out
          have MX := fun (w : World) (hw : Bk .u32 25 w g (ml N (stg m k f s' a))) (hT : Tf m n o s k N W0 bk bx bp pb w) => mix_any HPM.out w g a H N (C - a) (C - (a + H)) (N - H) pb H (stg m k f s' a) (fun p => fm m (st m k f (s' + 1) p)) (fun j => fm m (vr m (s' + 1) ^ j)) hw
            (fun j hj => by
              have hjN : H + j < N := by omega
              have h := hT.r.cell (H + j) (by rw [ml_length]; exact hjN)
              rw [ml_get] at h
              rw [h, HH.out, rt_at m s' j (by rw [← HH.out]; exact hj)]) hT.r.lt N4.out (by omega) (by omega) (fun p => stg_lt _ _ _ _ _ _ (by have := HPM.out.lo; omega)) (fun j => fm_lt _ _ (by have := HPM.out.lo; omega))
            (fun j hj => by
              have h := (stg_mix HP3.out HS.out HK.out f q j (by rw [← HH.out]; exact hj)).1
              rw [HD.out, ← ha.out, ← HH.out] at h
              exact h)
            (fun j hj => by
              have h := (stg_mix HP3.out HS.out HK.out f q j (by rw [← HH.out]; exact hj)).2
              rw [HD.out, ← ha.out, ← HH.out] at h
              exact h)
          obtain ⟨a1, ha1⟩ : ∃ x, a + H = x := ⟨_, rfl⟩
          rw [ha1] at MX
          obtain ⟨h2, hh2⟩ : ∃ x, 2 * H = x := ⟨_, rfl⟩
          obtain ⟨a2, ha2⟩ : ∃ x, a + h2 = x := ⟨_, rfl⟩
          have HM := Lib.hid (MX _ hbk.out.drew (HT.out _ ho.out.drew))
          have d2 : decide (a < N) = true := decide_eq_true (by omega)
          have e1 : (a : Int) + (H : Int) = (a1 : Int) := by omega
          have e2 : (2 : Int) * (H : Int) = (h2 : Int) := by omega
          have e3 : (a : Int) + (h2 : Int) = (a2 : Int) := by omega
          have f1 : IntKind.i64.wrap (a1 : Int) = (a1 : Int) := IntWalk.i64_in _ (by omega)
          have f2 : IntKind.i64.wrap (a2 : Int) = (a2 : Int) := IntWalk.i64_in _ (by omega)
          have f3 : IntKind.i64.wrap (h2 : Int) = (h2 : Int) := IntWalk.i64_in _ (by omega)
          have l1 : a1 - a = H := by omega
          have l2 : a2 - a1 = H := by omega
          have l3 : h2 - H = H := by omega
          have b1 : (0 : Int) ≤ (a : Int) ∧ (a : Int) ≤ (a1 : Int) := by omega
          have b2 : (a1 : Int) ≤ (C : Int) := by omega
          have b3 : (0 : Int) ≤ (a1 : Int) ∧ (a1 : Int) ≤ (a2 : Int) := by omega
          have b4 : (a2 : Int) ≤ (C : Int) := by omega
          have b5 : (0 : Int) ≤ (H : Int) ∧ (H : Int) ≤ (h2 : Int) := by omega
          have b6 : (h2 : Int) ≤ (N : Int) := by omega
          have c1 : ¬ C = a := by omega
          have c2 : ¬ C = a1 := by omega
          have c3 : ¬ N = H := by omega
          have HA2 : Hid (a2 = a + 2 * H) := by show _ = _; omega
          have hT := HT.out wr ho.out
          have k0 := hT.k
          obtain ⟨k1, k2, k3, k4, kb⟩ := hT.x
          have k5 := hT.p
          unfold frm at HM
          clear MX hT hh2 ha1 ha2 haN hDH hH0 hNC
          go_wp2
          go_region_with (go_at_call 74; (with_reducible refine HM.out.mono ?_); rintro e w' ⟨rfl, hb', ho'⟩; have HBK := Lib.hid hb'; have HO := Lib.hid ((ho.out.drew).trans ho'); clear hb' ho')
          all_goals
            have HBK2 : Hid (Bk .u32 25 w' g (ml N (stg m k f s' a2))) := by
              show Bk _ _ _ _ _
              rw [HA2.out, ← ml_congr (fun p _ => stg_next m k f s' a H p)]
              exact HBK.out
            clear HBK
            go_wp2
            go_roundw
            case rel => exact ⟨q + 1, a2, hlt2, (by show _ = _; rw [HA2.out, ha.out, HDH.out, Nat.add_mul]; omega), rfl, HBK2, HO⟩
            case measure => have h1 := HA2.out; have h2 := HH0.out; have h3 := of_decide_eq_true d2; simp [intOf] <;> omega
        · have hqB' : q = B := by omega
          have haN : a = N := by rw [ha.out, hqB', ← HNB.out]
          have HBK2 : Hid (Bk .u32 25 wr g (ml N fun p => fm m (st m k f (s' + 1) p))) := by
            show Bk _ _ _ _ _
            rw [ml_congr (fun p hp => (stg_all m k f s' a p (by rw [haN]; exact hp)).symm)]
            exact hbk.out
          have d2 : decide (a < N) = false := decide_eq_false (by omega)
          have e1 : (H : Int) * 2 = (D : Int) := by have := HDH.out; omega
          have e2 : IntKind.i64.wrap (D : Int) = (D : Int) := IntWalk.i64_in _ (by have := HDN.out; omega)
          clear hbk haN hqB'
          go_wp2
          go_roundw
          case rel => exact ⟨s' + 1, D, HS.out, HD.out.symm, rfl, HBK2, ho⟩
          case measure => have h1 := HDH.out; have h2 := HH0.out; have h3 := of_decide_eq_true d1; simp [intOf] <;> omega
    · have hin' : s' = k := by omega
      have HS : Hid (Bk .u32 25 wr g (ml N fun j => fm m (dft (vr m k) N f j))) := by
        show Bk _ _ _ _ _
        rw [ml_congr (g := fun p => fm m (st m k f s' p)) (fun p hp => by rw [hin', st_all m k f p (by rw [← HN.out]; exact hp), ← HN.out])]
        exact hbk.out
      have d1 : decide (H < N) = false := decide_eq_false (by rw [hH, hin', ← HN.out]; omega)
      clear hin' hbk hH
      go_wp2
      go_end0
      exact ⟨rfl, HS.out, ho.out⟩
end Go.Proofs.YtiainhbkoehhjaaDoor
