/-
  Package trio: product: the plain part; the row that it hands back.
-/
import Derived.Test.YtiainhbkoehhjaaDoorPk20
import Derived.Test.YtiainhbkoehhjaaDoorPk21
namespace Go.Proofs.YtiainhbkoehhjaaDoor
open Go.RowKit
open Plain (fermat_one)
set_option linter.unusedVariables false
set_option linter.unusedSimpArgs false

theorem P3.may {m : Nat} (h : P3 m) : May m := ⟨h.odd, h.ge.1, h.ge.2⟩
theorem P3.gt {m : Nat} (h : P3 m) : 1048576 < m := by rcases h with h | h | h <;> omega
/-- What lies behind three transforms and a turn. -/
theorem prod_row {m k N : Nat} (h : P3 m) (hk : k ≤ 20) (hN : N = 2 ^ k) (c : Nat → Nat) (p : Nat) (hp : p < N) :
    rvt N (fun t => fm m (dft (vr m k) N (fun j => dft (vr m k) N c j) t)) p = fm m (N * c p) := by
  have key : ∀ t, t < N → fm m (dft (vr m k) N (fun j => dft (vr m k) N c j) t) = fm m (N * c ((N - t) % N)) := by
    intro t ht
    have h2 := dft_twice (m := m) (v := vr m k) (k := k) (vr_half h k (by omega)) (vr_full h k (by omega)) c t (by rw [← hN]; exact ht)
    rw [← hN] at h2
    exact fm_same h2
  unfold rvt
  by_cases h0 : p = 0
  · rw [if_pos h0]
    refine (key 0 (by omega)).trans ?_
    rw [Nat.sub_zero, Nat.mod_self, h0]
  · rw [if_neg h0]
    refine (key (N - p) (by omega)).trans ?_
    rw [show N - (N - p) = p from by omega, Nat.mod_eq_of_lt hp]
/-- .. and the division by how many places there are. -/
theorem prod_end {m k N : Nat} (h : P3 m) (hk : k ≤ 20) (hN : N = 2 ^ k) (c : Nat) : rd m (fm m (N * c) * rd m (fm m (N ^ (m - 2)))) = c % m := by
  have hp := pow20 k hk
  rw [← hN] at hp
  have hg := h.gt
  have ho := h.odd
  have hf : Cg m (N ^ (m - 1)) 1 := by
    have h1 := fermat_one h.pr (a := N) (by rw [Nat.mod_eq_of_lt (by omega)]; omega)
    show _ % m = 1 % m
    rw [h1, Nat.mod_eq_of_lt (by omega)]
  rw [rd_of_fm m _ ho]
  refine (rd_only m _ _ ho (Nat.mod_lt _ (by omega)) ?_).symm
  refine Cg.trans ((Cg.mod m c).mul (Cg.refl m _)) (Cg.symm ?_)
  refine Cg.trans ((fm_cg m _).mul (Cg.mod m _)) ?_
  have e : N * c * 4294967296 * N ^ (m - 2) = N ^ (m - 1) * (c * 4294967296) := by
    have : N ^ (m - 1) = N ^ (m - 2) * N := by rw [← Nat.pow_succ]; congr 1; omega
    rw [this]; ac_rfl
  rw [e]
  have := hf.mul (Cg.refl m (c * 4294967296))
  rwa [Nat.one_mul] at this
/-- The places that have been divided. -/
def dvd' (m N : Nat) (c : Nat → Nat) (i p : Nat) : Nat := if p < i then c p % m else fm m (N * c p)
theorem dvd_zero' (m N : Nat) (c : Nat → Nat) (p : Nat) : dvd' m N c 0 p = fm m (N * c p) := if_neg (by omega)
theorem dvd_at' (m N : Nat) (c : Nat → Nat) (i : Nat) : dvd' m N c i i = fm m (N * c i) ∧ dvd' m N c (i + 1) i = c i % m := ⟨if_neg (by omega), if_pos (by omega)⟩
theorem dvd_other' (m N : Nat) (c : Nat → Nat) (i p : Nat) (h : p ≠ i) : dvd' m N c (i + 1) p = dvd' m N c i p := by
  unfold dvd'
  by_cases h2 : p < i
  · rw [if_pos h2, if_pos (by omega)]
  · rw [if_neg h2, if_neg (by omega)]
/-- The places that have been multiplied. -/
def mls (F G H : Nat → Nat) (i p : Nat) : Nat := if p < i then H p else F p
theorem mls_zero (F G H : Nat → Nat) (p : Nat) : mls F G H 0 p = F p := if_neg (by omega)
theorem mls_at (F G H : Nat → Nat) (i : Nat) : mls F G H i i = F i ∧ mls F G H (i + 1) i = H i := ⟨if_neg (by omega), if_pos (by omega)⟩
theorem mls_other (F G H : Nat → Nat) (i p : Nat) (h : p ≠ i) : mls F G H (i + 1) p = mls F G H i p := by
  unfold mls
  by_cases h2 : p < i
  · rw [if_pos h2, if_pos (by omega)]
  · rw [if_neg h2, if_neg (by omega)]
theorem Four.bl {b : Nat} {c0 c1 c2 c3 : Value} {W w : World} (h : Four b c0 c1 c2 c3 W) (g : Bl W w) : Four b c0 c1 c2 c3 w := by
  obtain ⟨h0, h1, h2, h3, hb⟩ := h
  exact ⟨(g.cell (p := ⟨b, 0, none⟩) hb).trans h0, (g.cell (p := ⟨b, 1, none⟩) hb).trans h1, (g.cell (p := ⟨b, 2, none⟩) hb).trans h2, (g.cell (p := ⟨b, 3, none⟩) hb).trans h3, Nat.lt_of_lt_of_le hb g.size⟩
theorem keepB {w0 W w : World} {b : Nat} {c0 c1 c2 c3 : Value}
    (h : W.cell? ⟨b, 0, none⟩ = some c0 ∧ W.cell? ⟨b, 1, none⟩ = some c1 ∧ W.cell? ⟨b, 2, none⟩ = some c2 ∧ W.cell? ⟨b, 3, none⟩ = some c3 ∧ b < W.heap.size ∧ Bl w0 W) (g : Bl W w) :
    w.cell? ⟨b, 0, none⟩ = some c0 ∧ w.cell? ⟨b, 1, none⟩ = some c1 ∧ w.cell? ⟨b, 2, none⟩ = some c2 ∧ w.cell? ⟨b, 3, none⟩ = some c3 ∧ b < w.heap.size ∧ Bl w0 w := by
  obtain ⟨h0, h1, h2, h3, hb, hg⟩ := h
  exact ⟨(g.cell (p := ⟨b, 0, none⟩) hb).trans h0, (g.cell (p := ⟨b, 1, none⟩) hb).trans h1, (g.cell (p := ⟨b, 2, none⟩) hb).trans h2, (g.cell (p := ⟨b, 3, none⟩) hb).trans h3, Nat.lt_of_lt_of_le hb g.size, hg.trans g⟩

/-- A new row. -/
def RwF (k : IntKind) (W : World) (l : List Nat) (e : Ending) (w : World) : Prop := ∃ v, e = .returned v ∧ Rw k w v l ∧ Bl W w ∧ Fs W.heap.size v

set_option maxRecDepth 100000 in
set_option maxHeartbeats 8000000 in
theorem product_any (m : Nat) (hP : P3 m) (W : World) (v1 v2 : Value) (a b : List Nat) (h1 : Rw .u64 W v1 a) (h2 : Rw .u64 W v2 b) (ha : All 18446744073709551616 a) (hb : All 18446744073709551616 b) (hal : a.length ≤ 10000) (hbl : b.length ≤ 10000) :
    Calls Tryd.prog 38 #[v1, v2, .int .u32 (m : Int)] W (RwF .u32 W ((cvs a b).map (· % m))) := by
  have EL : ∀ (A1 A2 : Option Addr) (c1 c2 : Nat) w, Calls Tryd.prog 37 #[.slice A1 a.length c1, .slice A2 b.length c2] w fun e w' => e = .returned (.int .i64 ((cl a b : Nat) : Int)) ∧ w = w' := fun A1 A2 c1 c2 w => elements_any A1 A2 a.length b.length c1 c2 hal hbl w
  have h1' := h1
  have h2' := h2
  obtain ⟨A1, c1, rfl, _, _, _, _⟩ := h1'
  obtain ⟨A2, c2, rfl, _, _, _, _⟩ := h2'
  have HE := Lib.hid (fun w => EL A1 A2 c1 c2 w)
  obtain ⟨L, hL⟩ : ∃ L, cl a b = L := ⟨_, rfl⟩
  rw [hL] at HE
  have R1 := Lib.hid h1
  have R2 := Lib.hid h2
  by_cases hL0 : L = 0
  · have hres : Hid ((cvs a b).map (· % m) = []) := by
      show (ml (cl a b) _).map (· % m) = []
      rw [hL, hL0]; rfl
    subst hL0
    obtain ⟨x, hx⟩ : ∃ x, a.length = x := ⟨_, rfl⟩
    obtain ⟨y, hy⟩ : ∃ x, b.length = x := ⟨_, rfl⟩
    rw [hx, hy] at HE ⊢
    clear h1 h2 EL hL hx hy hal hbl R1 R2 ha hb hP
    go_enter Tryd.func38, Tryd.ntmps38
    go_wp2_with (go_at_call 37; (with_reducible refine (HE.out _).mono ?_); rintro e w' ⟨rfl, rfl⟩)
    go_ret
    rw [hres.out]
    exact ⟨_, rfl, Rw.nil _ _, Bl.refl _, fun b h => by cases h⟩
  · have hal0 : 0 < a.length := by
      rcases Nat.eq_zero_or_pos a.length with h | h
      · exact absurd (hL.symm.trans (cl_zero (.inl h))) hL0
      · exact h
    have hbl0 : 0 < b.length := by
      rcases Nat.eq_zero_or_pos b.length with h | h
      · exact absurd (hL.symm.trans (cl_zero (.inr h))) hL0
      · exact h
    have hLab : L = a.length + b.length - 1 := by rw [← hL, cl_pos hal0 hbl0]
    obtain ⟨L1, hL1⟩ : ∃ x, L - 1 = x := ⟨_, rfl⟩
    obtain ⟨k, hk0⟩ : ∃ k, Lib.bitLen L1 = k := ⟨_, rfl⟩
    have hk : k ≤ 20 := by rw [← hk0]; exact Lib.bitLen_le L1 20 (by omega) (by omega)
    obtain ⟨N, hN⟩ : ∃ N, N = 2 ^ k := ⟨_, rfl⟩
    have hLN : L ≤ N := by
      have := low_all L1 (by omega)
      rw [hk0, ← hN] at this
      have h3 : L1 % N < N := Nat.mod_lt _ (by rw [hN]; exact Nat.pow_pos (by decide))
      omega
    have BL := Lib.hid (fun w => blen_any L1 (by omega) w)
    rw [hk0] at BL
    have hpm := pm_of m hP.may
    have MK := make_yes m hP.may
    obtain ⟨n, hn⟩ : ∃ n, ngn m = n := ⟨_, rfl⟩
    obtain ⟨o, ho⟩ : ∃ o, fm m 1 = o := ⟨_, rfl⟩
    obtain ⟨s, hs⟩ : ∃ s, fm m o = s := ⟨_, rfl⟩
    rw [hn, ho, hs] at hpm MK
    unfold mk frm at MK
    have HMK := Lib.hid MK
    have HPM := Lib.hid hpm
    have TF := Lib.hid (fun w => transformer_any hpm w k N hN hk (by have := hP.gt; omega))
    have FA := Lib.hid (fun w h => forms_any hpm w (.slice A1 a.length c1) a k N hN hk h ha (by omega))
    have FB := Lib.hid (fun w h => forms_any hpm w (.slice A2 b.length c2) b k N hN hk h hb (by omega))
    unfold frm at TF FA FB
    have hp20 := pow20 k hk
    rw [← hN] at hp20
    have hLi : (L : Int) ≤ 20000 := by omega
    have t1 : ((L : Int) == 0) = false := by rw [beq_eq_false_iff_ne]; omega
    have e1 : (L : Int) - 1 = (L1 : Int) := by omega
    have e2 : IntKind.u64.wrap (L1 : Int) = (L1 : Int) := IntWalk.u64_in _ (by omega)
    have e3 : IntKind.i64.wrap (L1 : Int) = (L1 : Int) := IntWalk.i64_in _ (by omega)
    have HN := Lib.hid hN
    have HK := Lib.hid hk
    have HLN := Lib.hid hLN
    have HL := Lib.hid hL
    have HLAB := Lib.hid hLab
    have HA0 := Lib.hid hal0
    have HB0 := Lib.hid hbl0
    have HP := Lib.hid hP
    have HN20 := Lib.hid hp20
    obtain ⟨x, hx⟩ : ∃ x, a.length = x := ⟨_, rfl⟩
    obtain ⟨y, hy⟩ : ∃ x, b.length = x := ⟨_, rfl⟩
    have HX := Lib.hid hx
    have HY := Lib.hid hy
    rw [hx] at HE FA R1
    rw [hy] at HE FB R2
    rw [hx, hy]
    clear h1 h2 EL hL hx hy hal hbl ha hb hP hal0 hbl0 hLab hL1 hk0 hk hN hLN hpm MK hn ho hs hp20 hL0
    go_enter Tryd.func38, Tryd.ntmps38
    go_wp2_with (first
      | (go_at_call 37; (with_reducible refine (HE.out _).mono ?_); rintro e w' ⟨rfl, rfl⟩)
      | (go_at_call 44; (with_reducible refine (HMK.out _).mono ?_); rintro e w4 ⟨rfl, hg⟩; have HG4 := Lib.hid (show Bl W w4 from hg.1); clear hg)
      | (go_at_call 56; (with_reducible refine (BL.out _).mono ?_); rintro e w' ⟨rfl, rfl⟩)
      | (go_at_call 57; (with_reducible refine (TF.out _).mono ?_); rintro e w6 ⟨bk, bx, bp, pb, rfl, hT, hb'⟩; have HT6 := Lib.hid hT; have HG6 := Lib.hid hb'; clear hT hb'))
    obtain ⟨W5, hW5⟩ : ∃ w, w4.alloc (.cells #[.int .u32 (m : Int), .int .u32 (n : Int), .int .u32 (o : Int), .int .u32 (s : Int)] 77) = w := ⟨_, rfl⟩
    have F5 := four_box w4 (.int .u32 (m : Int)) (.int .u32 (n : Int)) (.int .u32 (o : Int)) (.int .u32 (s : Int)) 77
    have HB5 : Hid (Bl W W5) := by rw [← hW5]; exact HG4.out.alloc _
    rw [hW5] at F5 HT6 HG6
    have F6 := Lib.hid (F5.bl HG6.out)
    have HB6 := Lib.hid (HB5.out.trans HG6.out)
    have HX5 : Hid (w4.heap.size < W5.heap.size) := by rw [← hW5, World.size_alloc]; exact Nat.lt_succ_self _
    obtain ⟨bX, hbX⟩ : ∃ x, w4.heap.size = x := ⟨_, rfl⟩
    rw [hbX] at F6 HX5 ⊢
    have HWX : Hid (W.heap.size ≤ bX) := by rw [← hbX]; exact HG4.out.size
    obtain ⟨k0, k1, k2, k3, kb⟩ := F6.out
    have HC : Hid (∀ w', Bl w6 w' → w'.cell? ⟨bX, 0, none⟩ = some (.int .u32 (m : Int)) ∧ w'.cell? ⟨bX, 1, none⟩ = some (.int .u32 (n : Int)) ∧ w'.cell? ⟨bX, 2, none⟩ = some (.int .u32 (o : Int)) ∧ w'.cell? ⟨bX, 3, none⟩ = some (.int .u32 (s : Int)) ∧ bX < w'.heap.size ∧ Bl w6 w') := fun w' hg => ⟨(hg.cell (p := ⟨bX, 0, none⟩) kb).trans k0, (hg.cell (p := ⟨bX, 1, none⟩) kb).trans k1, (hg.cell (p := ⟨bX, 2, none⟩) kb).trans k2, (hg.cell (p := ⟨bX, 3, none⟩) kb).trans k3, Nat.lt_of_lt_of_le kb hg.size, hg⟩
    clear F5 hW5 hbX k0 k1 k2 k3 kb HG4 HE HMK BL TF
    go_region_held3 (fun w' => w'.cell? ⟨bX, 0, none⟩ = some (.int .u32 (m : Int)) ∧ w'.cell? ⟨bX, 1, none⟩ = some (.int .u32 (n : Int)) ∧ w'.cell? ⟨bX, 2, none⟩ = some (.int .u32 (o : Int)) ∧ w'.cell? ⟨bX, 3, none⟩ = some (.int .u32 (s : Int)) ∧ bX < w'.heap.size ∧ Bl w6 w')
      (first | assumption | exact HC.out _ ((Bl.refl _).drew) | exact keepB ‹_› hg)
      (first
       | (go_at_call 58; (with_reducible refine (FA.out _ (R1.out.bl HB6.out.drew)).mono ?_); rintro e w7 ⟨ga, rfl, hga, hra, hg⟩; have HRA := Lib.hid hra; have HGA := Lib.hid hga; have HG7 := Lib.hid hg; clear hra hga)
       | (go_at_call 58; (with_reducible refine (FB.out _ (R2.out.bl ((HB6.out.drew).trans hg))).mono ?_); rintro e w8 ⟨gb, rfl, hgb, hrb, hg⟩; have HRB := Lib.hid hrb; have HGB := Lib.hid hgb; have HG8 := Lib.hid hg; clear hrb hgb))
    have hW8 : Bl w6 w8 := ((Bl.refl w6).drew.trans HG7.out).trans HG8.out
    have HT8 := Lib.hid (HT6.out.bl hW8)
    have F8 := Lib.hid (F6.out.bl hW8)
    have HB8 := Lib.hid (HB6.out.trans hW8)
    have HA8 := Lib.hid (HRA.out.bl HG8.out)
    have h6 : W5.heap.size ≤ w6.heap.size := HG6.out.size
    have h7 : w6.heap.size ≤ w7.heap.size := HG7.out.size
    have h8 : w6.heap.size ≤ ga := HGA.out
    have h9 : ga < w7.heap.size := HRA.out.lt
    have h10 : w7.heap.size ≤ gb := HGB.out
    have h11 := HT6.out.lk
    have h12 := HT6.out.lp
    have h13 := HT6.out.x.2.2.2.2
    have h14 := HT6.out.r.lt
    have h15 := HX5.out
    have h16 := HB5.out.size
    have HNE : Hid ((bk ≠ ga ∧ bx ≠ ga ∧ bp ≠ ga ∧ pb ≠ ga) ∧ (bk ≠ gb ∧ bx ≠ gb ∧ bp ≠ gb ∧ pb ≠ gb) ∧ ga ≠ gb ∧ bX ≠ ga ∧ bX ≠ gb ∧ W.heap.size ≤ ga ∧ W.heap.size ≤ gb) := by
      refine ⟨⟨?_, ?_, ?_, ?_⟩, ⟨?_, ?_, ?_, ?_⟩, ?_, ?_, ?_, ?_, ?_⟩ <;> omega
    have T1 := Lib.hid (fun w (f : Nat → Nat) (hT : Tf m n o s k N W5 bk bx bp pb w) (hb : Bk .u32 25 w ga (ml N fun i => fm m (f i))) => transform_any HPM.out HP.out w W5 k N ga N bk bx bp pb f HN.out HK.out hT (Nat.le_refl _) HNE.out.1.1 HNE.out.1.2.1 HNE.out.1.2.2.1 HNE.out.1.2.2.2 hb)
    have T2 := Lib.hid (fun w (f : Nat → Nat) (hT : Tf m n o s k N W5 bk bx bp pb w) (hb : Bk .u32 25 w gb (ml N fun i => fm m (f i))) => transform_any HPM.out HP.out w W5 k N gb N bk bx bp pb f HN.out HK.out hT (Nat.le_refl _) HNE.out.2.1.1 HNE.out.2.1.2.1 HNE.out.2.1.2.2.1 HNE.out.2.1.2.2.2 hb)
    clear hW8 h6 h7 h8 h9 h10 h11 h12 h13 h14 h15 h16 HG6 HT6 HB5 HB6 F6 HC HRA HGA HG7 HGB HG8 hg FA FB R1 R2
    unfold tfv
    go_wp2_with (first
      | (go_at_call 72; (with_reducible refine (T1.out _ _ HT8.out HA8.out).mono ?_); rintro e w9 ⟨rfl, hb', ho'⟩; have HA9 := Lib.hid hb'; have HT9 := Lib.hid (HT8.out.og ho' HNE.out.1.1 HNE.out.1.2.1 HNE.out.1.2.2.1 HNE.out.1.2.2.2); have HRB9 := Lib.hid (HRB.out.og ho' (Ne.symm HNE.out.2.2.1)); have F9 := Lib.hid (F8.out.og ho' HNE.out.2.2.2.1); have HB9 := Lib.hid (ho'.bl HB8.out HNE.out.2.2.2.2.2.1); clear hb' ho')
      | (go_at_call 72; (with_reducible refine (T2.out _ _ HT9.out HRB9.out).mono ?_); rintro e w10 ⟨rfl, hb', ho'⟩; have HRB10 := Lib.hid hb'; have HT10 := Lib.hid (HT9.out.og ho' HNE.out.2.1.1 HNE.out.2.1.2.1 HNE.out.2.1.2.2.1 HNE.out.2.1.2.2.2); have HA10 := Lib.hid (HA9.out.og ho' HNE.out.2.2.1); have F10 := Lib.hid (F9.out.og ho' HNE.out.2.2.2.2.1); have HB10 := Lib.hid (ho'.bl HB9.out HNE.out.2.2.2.2.2.2); clear hb' ho'))
    obtain ⟨V, hV⟩ : ∃ V, vr m k = V := ⟨_, rfl⟩
    have HV := Lib.hid hV
    obtain ⟨F, hF⟩ : ∃ F : Nat → Nat, (fun j => fm m (dft V N (fun i => a.getD i 0) j)) = F := ⟨_, rfl⟩
    obtain ⟨G, hG⟩ : ∃ F : Nat → Nat, (fun j => fm m (dft V N (fun i => b.getD i 0) j)) = F := ⟨_, rfl⟩
    rw [hV, hF] at HA10
    rw [hV, hG] at HRB10
    have hmlo := HPM.out.lo
    have hmhi := HPM.out.hi
    have HFL : Hid (∀ i, F i < m) := fun i => by rw [← hF]; exact fm_lt _ _ (by omega)
    have HGL : Hid (∀ i, G i < m) := fun i => by rw [← hG]; exact fm_lt _ _ (by omega)
    obtain ⟨H, hH⟩ : ∃ F : Nat → Nat, (fun j => fm m (dft V N (fun n => cv a b a.length n) j)) = F := ⟨_, rfl⟩
    have HFG : Hid (∀ i, rd m (F i * G i) = H i) := fun i => by
      have h1 := HA0.out
      have h2 := HB0.out
      have h3 := HLN.out
      have h4 := HLAB.out
      rw [← hF, ← hG, ← hH]
      show rd m (fm m _ * fm m _) = fm m _
      rw [rd_fm m _ _ HP.out.odd, dft_prod a b V N i h1 h2 (by omega)]
    have HHH := Lib.hid hH
    have hNi : (N : Int) ≤ 1048576 := by have := HN20.out; omega
    clear hF hG hH hV HB8 HA8 HT8 F8 HT9 F9 HB9 HA9 HRB9 HRB hg
    go_loopw [50] (fun sv wr => ∃ i : Nat, i ≤ N ∧ sv = .int .i64 (i : Int) ∧ Hid (Bk .u32 25 wr ga (ml N (mls F G H i))) ∧ Hid (Bk .u32 25 wr gb (ml N G)) ∧ Hid (Tf m n o s k N W5 bk bx bp pb wr) ∧ Hid (Four bX (.int .u32 (m : Int)) (.int .u32 (n : Int)) (.int .u32 (o : Int)) (.int .u32 (s : Int)) wr) ∧ Hid (Bl W wr)) (fun sv _ => N - (intOf sv).toNat)
    case atStart => exact ⟨0, Nat.zero_le _, rfl, (by show Bk _ _ _ _ _; rw [ml_congr (fun p _ => mls_zero F G H p)]; exact HA10.out), HRB10, HT10, F10, HB10⟩
    case round =>
      clear HA10 HRB10 HT10 F10 HB10
      obtain ⟨i, hiN, rfl, hA, hB, hT, hF, hb⟩ := hrel
      by_cases hlt : i < N
      · have q1 := hA.out.cell i (by rw [ml_length]; exact hlt)
        have q2 := hB.out.cell i (by rw [ml_length]; exact hlt)
        rw [ml_get, (mls_at F G H i).1] at q1
        rw [ml_get] at q2
        have g1 := HFL.out i
        have g2 := HGL.out i
        have g3 := HFG.out i
        obtain ⟨x1, ex⟩ : ∃ x, F i = x := ⟨_, rfl⟩
        obtain ⟨z1', ez⟩ : ∃ x, G i = x := ⟨_, rfl⟩
        obtain ⟨y1, ey⟩ : ∃ x, H i = x := ⟨_, rfl⟩
        rw [ex] at q1 g1 g3
        rw [ez] at q2 g2 g3
        rw [ey] at g3
        have MM := Lib.hid (fun w => mmul_any HPM.out x1 z1' (by omega) (by omega) (prod_lt m x1 z1' (by omega) g2) w)
        rw [g3] at MM
        unfold frm at MM
        have hst : Hid (∀ w, Bk .u32 25 w ga (ml N (mls F G H i)) → (∃ y, w.cell? ⟨ga, i, none⟩ = some y) ∧ w.frozen? ⟨ga, i, none⟩ = false ∧ Bk .u32 25 (w.setCell ⟨ga, i, none⟩ (.int .u32 (y1 : Int))) ga (ml N (mls F G H (i + 1)))) := by
          intro w hw
          refine ⟨⟨_, hw.cell i (by rw [ml_length]; exact hlt)⟩, hw.free _, ?_⟩
          have h := hw.set i y1 (by rw [ml_length]; exact hlt)
          have e : y1 = mls F G H (i + 1) i := by rw [(mls_at F G H i).2, ey]
          rw [e, ml_set (g := mls F G H (i + 1)) (fun p hp => mls_other F G H i p hp), ← e] at h
          exact h
        obtain ⟨k0, k1, k2, k3, kb⟩ := hF.out
        have b1 : (0 : Int) ≤ (i : Int) ∧ (i : Int) < (N : Int) := by omega
        clear g1 g2 g3 ex ez ey
        go_wp2
        go_region_with (go_at_call 59; (with_reducible refine (MM.out _).mono ?_); rintro e w' ⟨rfl, hg⟩; have hbl : Bl wr w' := (Bl.refl wr).drew.trans hg.1; obtain ⟨⟨y, p1⟩, p2, p3⟩ := hst.out w' (hA.out.bl hbl); have HA' := Lib.hid p3; have HO := Lib.hid ((Og.of_bl (g := ga) hbl).setCell i (.int .u32 (y1 : Int))); have HBL := Lib.hid ((hb.out.trans hbl).setCell (p := ⟨ga, i, none⟩) HNE.out.2.2.2.2.2.1 (.int .u32 (y1 : Int))); clear p3 hbl hg)
        all_goals
          have HT' := Lib.hid (hT.out.og HO.out HNE.out.1.1 HNE.out.1.2.1 HNE.out.1.2.2.1 HNE.out.1.2.2.2)
          have HF' := Lib.hid (hF.out.og HO.out HNE.out.2.2.2.1)
          have HB' := Lib.hid (hB.out.og HO.out (Ne.symm HNE.out.2.2.1))
          clear k0 k1 k2 k3 kb q1 q2 p1 p2
          go_wp2
          go_roundw
          case rel => exact ⟨i + 1, hlt, by go_num, HA', HB', HT', HF', HBL⟩
          case measure => simp [intOf] <;> omega
      · have hin' : i = N := by omega
        have HH1 : Hid (Bk .u32 25 wr ga (ml N fun j => fm m (dft V N (fun n => cv a b a.length n) j))) := by
          show Bk _ _ _ _ _
          rw [HHH.out, ml_congr (fun p hp => (show H p = mls F G H i p from (if_pos (by omega)).symm))]
          exact hA.out
        obtain ⟨A3, hA3⟩ : ∃ A3, (if N = 1 then some (⟨ga, 0, none⟩ : Addr) else some ⟨ga, 1, none⟩) = A3 := ⟨_, rfl⟩
        obtain ⟨n3, hn3⟩ : ∃ x, N - 1 = x := ⟨_, rfl⟩
        have hN1 : (1 : Int) ≤ (N : Int) := by have := HN20.out; omega
        have RV : Hid (∀ (w : World) (F : Nat → Nat), Bk .u32 25 w ga (ml N F) → Calls Tryd.prog 60 #[.slice A3 n3 n3] w fun e w' => e = .returned (.tuple #[]) ∧ Bk .u32 25 w' ga (ml N (rvt N F)) ∧ Og ga w w') := by
          intro w F hw
          by_cases h : n3 ≤ 1
          · refine (rev_small A3 n3 n3 h w).mono fun e w' ⟨he, hw'⟩ => ⟨he, ?_, hw' ▸ Og.refl _ _⟩
            rw [← hw', ml_congr (fun p hp => rvt_small (by omega) F p hp)]
            exact hw
          · rw [if_neg (by omega)] at hA3
            rw [← hA3]
            exact rev_tail w ga n3 N n3 F (by omega) (by omega) (by omega) hw
        clear hA hin' HFL HGL HFG
        go_wp2_with (first
          | (go_at_call 60; (with_reducible refine (RV.out _ _ HA11.out).mono ?_); rintro e w12 ⟨rfl, hb', ho'⟩; have HA12 := Lib.hid hb'; have F12 := Lib.hid (F11.out.og ho' HNE.out.2.2.2.1); have HB12 := Lib.hid (ho'.bl HB11.out HNE.out.2.2.2.2.2.1); clear hb' ho')
          | (go_at_call 72; (with_reducible refine (T1.out _ _ hT.out HH1.out).mono ?_); rintro e w11 ⟨rfl, hb', ho'⟩; have HA11 := Lib.hid hb'; have F11 := Lib.hid (hF.out.og ho' HNE.out.2.2.2.1); have HB11 := Lib.hid (ho'.bl hb.out HNE.out.2.2.2.2.2.1); clear hb' ho'))
        obtain ⟨c, hc⟩ : ∃ c : Nat → Nat, (fun n => cv a b a.length n) = c := ⟨_, rfl⟩
        have hrow : Hid (Bk .u32 25 w12 ga (ml N (dvd' m N c 0))) := by
          have e : ml N (dvd' m N c 0) = ml N (rvt N fun j => fm m (dft (vr m k) N (dft V N fun n => cv a b a.length n) j)) := ml_congr fun p hp => by
            rw [dvd_zero', hc, ← HV.out]
            exact (prod_row HP.out HK.out HN.out c p hp).symm
          show Bk _ _ _ _ _
          rw [e]
          exact HA12.out
        have hmlo := HPM.out.lo
        have hmhi := HPM.out.hi
        have hend := fun i => prod_end HP.out HK.out HN.out (c i)
        have IV := fun w => inverse_t HPM.out N (by have := HN20.out; omega) w
        have hy3 := fm_lt m (N ^ (m - 2)) (by omega)
        obtain ⟨y3, ey3⟩ : ∃ x, fm m (N ^ (m - 2)) = x := ⟨_, rfl⟩
        rw [ey3] at IV hy3 hend
        have OT := fun w => out_any HPM.out y3 (by omega) w
        have hy4 := rd_lt m y3 (by omega)
        obtain ⟨y4, ey4⟩ : ∃ x, rd m y3 = x := ⟨_, rfl⟩
        rw [ey4] at OT hy4 hend
        have HEND := Lib.hid hend
        have HY4 := Lib.hid hy4
        unfold frm at IV OT
        have HIV := Lib.hid IV
        have HOT := Lib.hid OT
        have HCC := Lib.hid hc
        have HN3 := Lib.hid hn3
        have s1 : (2 : Int) ^ k = (N : Int) := by rw [HN.out, Int.natCast_pow]; rfl
        have s2 : IntKind.u64.wrap (N : Int) = (N : Int) := IntWalk.u64_in _ (by omega)
        have s3 : (0 : Int) ≤ (k : Int) := by omega
        have s4 : (k : Int) ≤ 20 := by have := HK.out; omega
        obtain ⟨k0, k1, k2, k3, kb⟩ := F12.out
        have HC : Hid (∀ w', Gr w12 w' → w'.cell? ⟨bX, 0, none⟩ = some (.int .u32 (m : Int)) ∧ w'.cell? ⟨bX, 1, none⟩ = some (.int .u32 (n : Int)) ∧ w'.cell? ⟨bX, 2, none⟩ = some (.int .u32 (o : Int)) ∧ w'.cell? ⟨bX, 3, none⟩ = some (.int .u32 (s : Int)) ∧ bX < w'.heap.size ∧ Gr w12 w') := fun w' hg => ⟨(hg.cell _ _ kb).trans k0, (hg.cell _ _ kb).trans k1, (hg.cell _ _ kb).trans k2, (hg.cell _ _ kb).trans k3, Nat.lt_of_lt_of_le kb hg.size, hg⟩
        clear HA12 HA11 F11 HB11 hc ey3 ey4 hy3 hy4 hend IV OT hn3 hA3 RV HH1 hB hT hF hb hlt hiN k0 k1 k2 k3 kb T1 T2
        go_region_held3 (fun w' => w'.cell? ⟨bX, 0, none⟩ = some (.int .u32 (m : Int)) ∧ w'.cell? ⟨bX, 1, none⟩ = some (.int .u32 (n : Int)) ∧ w'.cell? ⟨bX, 2, none⟩ = some (.int .u32 (o : Int)) ∧ w'.cell? ⟨bX, 3, none⟩ = some (.int .u32 (s : Int)) ∧ bX < w'.heap.size ∧ Gr w12 w')
          (first | assumption | exact HC.out _ ((Gr.refl _).drew) | exact keepS ‹_› hg)
          (first
           | (go_at_call 45; (with_reducible refine (HIV.out _).mono ?_); rintro e w13 ⟨rfl, hg⟩)
           | (go_at_call 61; (with_reducible refine (HOT.out _).mono ?_); rintro e w14 ⟨rfl, hg⟩))
        rename_i hH
        have hG14 := hH.2.2.2.2.2
        have HR14 := Lib.hid (hrow.out.bl hG14.1)
        have F14 := Lib.hid (F12.out.kept hG14)
        have HB14 := Lib.hid (HB12.out.trans hG14.1)
        clear hH hG14 hrow F12 HB12 HC HIV HOT hg
        have hL0 : ¬ L = 0 := by have h := t1; rw [beq_eq_false_iff_ne] at h; omega
        go_wp2
        go_loopw [80] (fun sv wr => ∃ i : Nat, i ≤ L ∧ sv = .int .i64 (i : Int) ∧ Hid (Bk .u32 25 wr ga (ml N (dvd' m N c i))) ∧ Hid (Four bX (.int .u32 (m : Int)) (.int .u32 (n : Int)) (.int .u32 (o : Int)) (.int .u32 (s : Int)) wr) ∧ Hid (Bl W wr)) (fun sv _ => L - (intOf sv).toNat)
        case atStart => exact ⟨0, Nat.zero_le _, rfl, HR14, F14, HB14⟩
        case round =>
          clear HR14 F14 HB14
          obtain ⟨i, hiL, rfl, hA, hF, hb⟩ := hrel
          by_cases hlt : i < L
          · have hiN : i < N := by have := HLN.out; omega
            have q1 := hA.out.cell i (by rw [ml_length]; exact hiN)
            rw [ml_get, (dvd_at' m N c i).1] at q1
            have g1 := fm_lt m (N * c i) (by omega)
            have g3 := HEND.out i
            obtain ⟨x1, ex⟩ : ∃ x, fm m (N * c i) = x := ⟨_, rfl⟩
            obtain ⟨y1, ey⟩ : ∃ x, c i % m = x := ⟨_, rfl⟩
            rw [ex] at q1 g1 g3
            rw [ey] at g3
            have MM := Lib.hid (fun w => mmul_any HPM.out x1 y4 (by omega) (by have := HY4.out; omega) (prod_lt m x1 y4 (by omega) HY4.out) w)
            rw [g3] at MM
            unfold frm at MM
            have hst : Hid (∀ w, Bk .u32 25 w ga (ml N (dvd' m N c i)) → (∃ y, w.cell? ⟨ga, i, none⟩ = some y) ∧ w.frozen? ⟨ga, i, none⟩ = false ∧ Bk .u32 25 (w.setCell ⟨ga, i, none⟩ (.int .u32 (y1 : Int))) ga (ml N (dvd' m N c (i + 1)))) := by
              intro w hw
              refine ⟨⟨_, hw.cell i (by rw [ml_length]; exact hiN)⟩, hw.free _, ?_⟩
              have h := hw.set i y1 (by rw [ml_length]; exact hiN)
              have e : y1 = dvd' m N c (i + 1) i := by rw [(dvd_at' m N c i).2, ey]
              rw [e, ml_set (g := dvd' m N c (i + 1)) (fun p hp => dvd_other' m N c i p hp), ← e] at h
              exact h
            obtain ⟨k0, k1, k2, k3, kb⟩ := hF.out
            have b1 : (0 : Int) ≤ (i : Int) ∧ (i : Int) < (N : Int) := by omega
            clear g1 g3 ex ey hiN
            go_wp2
            go_region_with (go_at_call 59; (with_reducible refine (MM.out _).mono ?_); rintro e w' ⟨rfl, hg⟩; have hbl : Bl wr w' := (Bl.refl wr).drew.trans hg.1; obtain ⟨⟨y, p1⟩, p2, p3⟩ := hst.out w' (hA.out.bl hbl); have HA' := Lib.hid p3; have HO := Lib.hid ((Og.of_bl (g := ga) hbl).setCell i (.int .u32 (y1 : Int))); have HBL := Lib.hid ((hb.out.trans hbl).setCell (p := ⟨ga, i, none⟩) HNE.out.2.2.2.2.2.1 (.int .u32 (y1 : Int))); clear p3 hbl hg)
            all_goals
              have HF' := Lib.hid (hF.out.og HO.out HNE.out.2.2.2.1)
              clear k0 k1 k2 k3 kb q1 p1 p2
              go_wp2
              go_roundw
              case rel => exact ⟨i + 1, hlt, by go_num, HA', HF', HBL⟩
              case measure => simp [intOf] <;> omega
          · have hin' : i = L := by omega
            have hlm : (ml L fun p => c p % m).length = L := ml_length _ _
            have HR : Hid (Rw .u32 wr (.slice (some ⟨ga, 0, none⟩) L L) ((cvs a b).map (· % m))) := by
              have e : (cvs a b).map (· % m) = ml L fun p => c p % m := by
                show (ml (cl a b) _).map _ = _
                rw [map_ml, HL.out, ← HCC.out]
              show Rw _ _ _ _
              rw [e]
              refine ⟨some ⟨ga, 0, none⟩, L, by rw [hlm], by rw [hlm]; exact Nat.le_refl _, by unfold maxLen; omega, (fun h => by cases h), fun _ => ⟨_, rfl, hA.out.lt, fun j hj => ?_⟩⟩
              have hj' : j < L := by rw [hlm] at hj; exact hj
              have h := hA.out.cell j (by rw [ml_length]; have := HLN.out; omega)
              rw [ml_get] at h
              rw [add_none, Nat.zero_add, ml_get, h]
              have e2 : dvd' m N c i j = c j % m := if_pos (by omega)
              rw [e2]
            have b1 : (0 : Int) ≤ (L : Int) ∧ (L : Int) ≤ (N : Int) := by have := HLN.out; omega
            clear hin' hlm hA
            go_wp2
            go_ret
            exact ⟨_, rfl, HR.out, hb.out, fun b h => by cases h; exact HNE.out.2.2.2.2.2.1⟩
end Go.Proofs.YtiainhbkoehhjaaDoor
