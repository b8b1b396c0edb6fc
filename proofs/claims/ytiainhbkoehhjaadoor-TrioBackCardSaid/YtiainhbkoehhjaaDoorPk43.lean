/-
  The walk of the statement TrioBack.
-/
import Derived.Test.YtiainhbkoehhjaaDoorPk41
import Derived.Test.YtiainhbkoehhjaaDoorPk42
namespace Go.Proofs.YtiainhbkoehhjaaDoor
open Go.RowKit
set_option linter.unusedVariables false
set_option linter.unusedSimpArgs false

theorem box2 {w w' : World} {u v : Value} {e : TypeId} (h : Bl (w.alloc (.cells #[u, v] e)) w') : w'.cell? ⟨w.heap.size, 0, none⟩ = some u ∧ w'.cell? ⟨w.heap.size, 1, none⟩ = some v ∧ w.heap.size < w'.heap.size := by
  have hs := h.size
  have hl : w.heap.size < (w.alloc (.cells #[u, v] e)).heap.size := by simp
  exact ⟨(h.cell (p := ⟨w.heap.size, 0, none⟩) hl).trans (by go_simp), (h.cell (p := ⟨w.heap.size, 1, none⟩) hl).trans (by go_simp), Nat.lt_of_lt_of_le hl hs⟩
theorem box3 {w w' : World} {u v x : Value} {e : TypeId} (h : Bl (w.alloc (.cells #[u, v, x] e)) w') : w'.cell? ⟨w.heap.size, 0, none⟩ = some u ∧ w'.cell? ⟨w.heap.size, 1, none⟩ = some v ∧ w'.cell? ⟨w.heap.size, 2, none⟩ = some x ∧ w.heap.size < w'.heap.size := by
  have hs := h.size
  have hl : w.heap.size < (w.alloc (.cells #[u, v, x] e)).heap.size := by simp
  exact ⟨(h.cell (p := ⟨w.heap.size, 0, none⟩) hl).trans (by go_simp), (h.cell (p := ⟨w.heap.size, 1, none⟩) hl).trans (by go_simp), (h.cell (p := ⟨w.heap.size, 2, none⟩) hl).trans (by go_simp), Nat.lt_of_lt_of_le hl hs⟩

theorem keepP {w0 W w : World} {b : Nat} {p0 p1 : Value} (h : W.cell? ⟨b, 0, none⟩ = some p0 ∧ W.cell? ⟨b, 1, none⟩ = some p1 ∧ b < W.heap.size ∧ Bl w0 W) (g : Bl W w) :
    w.cell? ⟨b, 0, none⟩ = some p0 ∧ w.cell? ⟨b, 1, none⟩ = some p1 ∧ b < w.heap.size ∧ Bl w0 w := by
  obtain ⟨h0, h1, hb, hg⟩ := h
  exact ⟨(g.cell (p := ⟨b, 0, none⟩) hb).trans h0, (g.cell (p := ⟨b, 1, none⟩) hb).trans h1, Nat.lt_of_lt_of_le hb g.size, hg.trans g⟩

set_option maxRecDepth 100000 in
set_option maxHeartbeats 4000000 in
theorem trioBack_walk (n0 n1 n2 n3 n4 : Nat) (b0 : n0 < 18446744073709551616) (b1 : n1 < 18446744073709551616) (b2 : n2 < 4294967296) (b3 : n3 < 4294967296) (b4 : n4 < 4294967296) (W : World) (hw : PrW W) :
    Calls Tryd.prog 5 #[.agg #[.int .u64 (n0 : Int), .int .u64 (n1 : Int)], .agg #[.int .u32 (n2 : Int), .int .u32 (n3 : Int), .int .u32 (n4 : Int)]] W fun e w' => e = .returned (.bool true) ∧ Bl W w' := by
  obtain ⟨k0, k1, k2, k3⟩ := jn_back n2 n3 n4
  have SH := Lib.hid (fun w hw => shown9 w hw)
  have HW := Lib.hid hw
  have J1 := Lib.hid (fun w => join_any n2 n3 n4 b2 b3 b4 w)
  have B1 := Lib.hid (fun w => bound_any w)
  obtain ⟨jh, hjh⟩ : ∃ x, jn n2 n3 n4 / 18446744073709551616 = x := ⟨_, rfl⟩
  obtain ⟨jl, hjl⟩ : ∃ x, jn n2 n3 n4 % 18446744073709551616 = x := ⟨_, rfl⟩
  have hjn : num jh jl = jn n2 n3 n4 := by rw [← hjh, ← hjl]; exact num_two _
  have hjb : jl < 18446744073709551616 := by rw [← hjl]; exact Nat.mod_lt _ (by decide)
  have S2 := Lib.hid (fun w hw => split_any jh jl hjb w hw)
  obtain ⟨bh, hbh⟩ : ∃ x, bdH = x := ⟨_, rfl⟩
  obtain ⟨bl, hbl⟩ : ∃ x, bdL = x := ⟨_, rfl⟩
  have hbd : num bh bl = bd := by rw [← hbh, ← hbl]; exact bd_num
  have hblb : bl < 18446744073709551616 := by rw [← hbl]; decide
  have p2 : pbl jh jl bh bl = true := by rw [pbl_num _ _ _ _ hjb hblb, hjn, hbd]; exact decide_eq_true k0
  have L1 := Lib.hid (fun w => below9 n0 n1 bh bl w)
  have L2 := Lib.hid (fun w => below9 jh jl bh bl w)
  rw [p2] at L2
  rw [hjn, k1, k2, k3] at S2
  obtain ⟨ra, hra⟩ : ∃ x, n2 % 998244353 = x := ⟨_, rfl⟩
  obtain ⟨rb, hrb⟩ : ∃ x, n3 % 167772161 = x := ⟨_, rfl⟩
  obtain ⟨rc, hrc⟩ : ∃ x, n4 % 469762049 = x := ⟨_, rfl⟩
  rw [hra, hrb, hrc] at S2
  have q1 : (n2 : Int) % 998244353 = (ra : Int) := by omega
  have q2 : (n3 : Int) % 167772161 = (rb : Int) := by omega
  have q3 : (n4 : Int) % 469762049 = (rc : Int) := by omega
  rw [hjh, hjl] at J1
  rw [hbh, hbl] at B1
  have S1 := Lib.hid (fun w hw => split_any n0 n1 b1 w hw)
  have hp : num n0 n1 < bd → jn (num n0 n1 % 998244353) (num n0 n1 % 167772161) (num n0 n1 % 469762049) = num n0 n1 := fun h => jn_cv h
  have JP := Lib.hid (fun w => join_any (num n0 n1 % 998244353) (num n0 n1 % 167772161) (num n0 n1 % 469762049) (by omega) (by omega) (by omega) w)
  have hpl : pbl n0 n1 bh bl = decide (num n0 n1 < bd) := by rw [pbl_num _ _ _ _ b1 hblb, hbd]
  rw [hpl] at L1
  have htn := tw_num n0 n1 b1
  unfold pairv at J1 B1 JP
  unfold three at S1 S2
  have a24 := Tryd.isAgg24
  have z24 := Tryd.sizeOf24
  have a27 := Tryd.isAgg27
  have z27 := Tryd.sizeOf27
  obtain ⟨W2, hW2⟩ : ∃ W2, (W.alloc (.cells #[.int .u64 (n0 : Int), .int .u64 (n1 : Int)] 24)).alloc (.cells #[.int .u32 (n2 : Int), .int .u32 (n3 : Int), .int .u32 (n4 : Int)] 27) = W2 := ⟨_, rfl⟩
  have hb2 : Bl W W2 := by rw [← hW2]; exact ((Bl.refl W).alloc _).alloc _
  have hs2 : W.heap.size < W2.heap.size ∧ W.heap.size + 1 < W2.heap.size := by
    have : W2.heap.size = W.heap.size + 2 := by rw [← hW2]; simp
    omega
  have c0 : W2.cell? ⟨W.heap.size, 0, none⟩ = some (.int .u64 (n0 : Int)) ∧ W2.cell? ⟨W.heap.size, 1, none⟩ = some (.int .u64 (n1 : Int)) ∧ W2.cell? ⟨W.heap.size + 1, 0, none⟩ = some (.int .u32 (n2 : Int)) ∧ W2.cell? ⟨W.heap.size + 1, 1, none⟩ = some (.int .u32 (n3 : Int)) ∧ W2.cell? ⟨W.heap.size + 1, 2, none⟩ = some (.int .u32 (n4 : Int)) := by subst hW2; go_simp
  have HC : Hid (∀ w', Bl W2 w' → w'.cell? ⟨W.heap.size, 0, none⟩ = some (.int .u64 (n0 : Int)) ∧ w'.cell? ⟨W.heap.size, 1, none⟩ = some (.int .u64 (n1 : Int)) ∧ w'.cell? ⟨W.heap.size + 1, 0, none⟩ = some (.int .u32 (n2 : Int)) ∧ w'.cell? ⟨W.heap.size + 1, 1, none⟩ = some (.int .u32 (n3 : Int)) ∧ w'.cell? ⟨W.heap.size + 1, 2, none⟩ = some (.int .u32 (n4 : Int)) ∧ W.heap.size < w'.heap.size ∧ W.heap.size + 1 < w'.heap.size ∧ Bl W2 w') := fun w' g => keep5 ⟨c0.1, c0.2.1, c0.2.2.1, c0.2.2.2.1, c0.2.2.2.2, hs2.1, hs2.2, Bl.refl W2⟩ g
  have HB2 := Lib.hid hb2
  clear hb2 hs2 c0 hjh hjl hbh hbl hra hrb hrc k0 k1 k2 k3 hjn hpl p2 hbd hblb hjb b0 b1 b2 b3 b4 hw
  by_cases his : num n0 n1 < bd
  · rw [decide_eq_true his] at L1
    rw [hp his, htn.1, htn.2] at JP
    obtain ⟨sa, hsa⟩ : ∃ x, num n0 n1 % 998244353 = x := ⟨_, rfl⟩
    obtain ⟨sb, hsb⟩ : ∃ x, num n0 n1 % 167772161 = x := ⟨_, rfl⟩
    obtain ⟨sc, hsc⟩ : ∃ x, num n0 n1 % 469762049 = x := ⟨_, rfl⟩
    rw [hsa, hsb, hsc] at S1 JP
    clear hsa hsb hsc hp htn his
    go_enter Tryd.func5, Tryd.ntmps5
    go_wp2_with (first
      | (go_at_call 10; (with_reducible refine (SH.out _ (HW.out.bl HB2.out)).mono ?_); rintro e w1 ⟨rfl, hb'⟩; have G1 := Lib.hid hb'; clear hb')
      | (go_at_call 15; (with_reducible refine (B1.out _).mono ?_); rintro e w2 ⟨rfl, hb'⟩; have G2 := Lib.hid (G1.out.trans hb'); obtain ⟨x0, x1, x2, x3, x4, x5, x6, _⟩ := HC.out _ G2.out; clear hb')
      | (go_at_call 13; (with_reducible refine (J1.out _).mono ?_); rintro e w3 ⟨rfl, hb'⟩; have D3 := Lib.hid hb'; have G3 := Lib.hid ((G2.out.alloc _).trans hb'); clear hb' x0 x1 x2 x3 x4 x5 x6)
      | (go_at_call 11; (with_reducible refine (S2.out _ (HW.out.bl (HB2.out.trans (G3.out.alloc _)))).mono ?_); rintro e w4 ⟨rfl, hb'⟩; have I4 := Lib.hid hb'; have D4 := Lib.hid ((D3.out.alloc _).trans hb'); have G4 := Lib.hid ((G3.out.alloc _).trans hb'); obtain ⟨x0, x1, x2, x3, x4, x5, x6, _⟩ := HC.out _ G4.out; obtain ⟨y0, y1, y2⟩ := box2 D4.out; obtain ⟨y3, y4, y5⟩ := box2 I4.out; clear hb')
      | (go_at_call 23; (with_reducible refine (L1.out _).mono ?_); rintro e w5 ⟨rfl, hb'⟩; have U5 := Lib.hid hb'; have I5 := Lib.hid ((I4.out.alloc _).trans hb'); have D5 := Lib.hid ((D4.out.alloc _).trans hb'); have G5 := Lib.hid ((G4.out.alloc _).trans hb'); clear hb' x0 x1 x2 x3 x4 x5 x6 y0 y1 y2 y3 y4 y5; obtain ⟨y0, y1, y2⟩ := box2 D5.out; obtain ⟨y3, y4, y5⟩ := box2 I5.out)
      | (go_at_call 23; (with_reducible refine (L2.out _).mono ?_); rintro e w6 ⟨rfl, hb'⟩; have U6 := Lib.hid (U5.out.trans hb'); have G6 := Lib.hid (G5.out.trans hb'); obtain ⟨x0, x1, x2, x3, x4, x5, x6, _⟩ := HC.out _ G6.out; clear hb' y0 y1 y2 y3 y4 y5; obtain ⟨y0, y1, y2, y3⟩ := box3 U6.out)
      | (go_at_call 11; (with_reducible refine (S1.out _ (HW.out.bl (HB2.out.trans G6.out))).mono ?_); rintro e w7 ⟨rfl, hb'⟩; have U7 := Lib.hid (U6.out.trans hb'); have G7 := Lib.hid (G6.out.trans hb'); clear hb' x0 x1 x2 x3 x4 x5 x6 y0 y1 y2 y3)
      | (go_at_call 13; (with_reducible refine (JP.out _).mono ?_); rintro e w8 ⟨rfl, hb'⟩; have U8 := Lib.hid (U7.out.trans hb'); have G8 := Lib.hid (G7.out.trans hb'); obtain ⟨x0, x1, x2, x3, x4, x5, x6, _⟩ := HC.out _ G8.out; obtain ⟨y0, y1, y2, y3⟩ := box3 U8.out; clear hb'))
    have HQ := Lib.hid (show w6.cell? ⟨W.heap.size, 0, none⟩ = some (.int .u64 (n0 : Int)) ∧ w6.cell? ⟨W.heap.size, 1, none⟩ = some (.int .u64 (n1 : Int)) ∧ W.heap.size < w6.heap.size ∧ Bl w6 w6 from ⟨x0, x1, x5, Bl.refl _⟩)
    have HW6 : Hid (∀ w', w'.cell? ⟨W.heap.size, 0, none⟩ = some (.int .u64 (n0 : Int)) ∧ w'.cell? ⟨W.heap.size, 1, none⟩ = some (.int .u64 (n1 : Int)) ∧ W.heap.size < w'.heap.size ∧ Bl w6 w' → PrW w') := fun w' h => HW.out.bl (HB2.out.trans (G6.out.trans h.2.2.2))
    clear x0 x1 x2 x3 x4 x5 x6 y0 y1 y2 y3
    go_region_held3 (fun w' => w'.cell? ⟨W.heap.size, 0, none⟩ = some (.int .u64 (n0 : Int)) ∧ w'.cell? ⟨W.heap.size, 1, none⟩ = some (.int .u64 (n1 : Int)) ∧ W.heap.size < w'.heap.size ∧ Bl w6 w')
      (first | assumption | exact HQ.out | exact keepP ‹_› hg | exact keepP HQ.out (Bl.refl _).drew)
      (first
       | (go_at_call 11; (with_reducible refine (S1.out _ (HW6.out _ ‹_›)).mono ?_); rintro e w' ⟨rfl, hg⟩)
       | (go_at_call 13; (with_reducible refine (JP.out _).mono ?_); rintro e w' ⟨rfl, hg⟩))
    rename_i hH
    have G8 := Lib.hid (G6.out.trans hH.2.2.2)
    have U8 := Lib.hid (U6.out.trans hH.2.2.2)
    clear hH
    obtain ⟨x0, x1, x2, x3, x4, x5, x6, _⟩ := HC.out _ G8.out
    obtain ⟨y0, y1, y2, y3⟩ := box3 U8.out
    go_wp2
    go_ret
    exact ⟨rfl, HB2.out.trans G8.out⟩
  · rw [decide_eq_false his] at L1
    clear hp htn his JP S1
    go_enter Tryd.func5, Tryd.ntmps5
    go_wp2_with (first
      | (go_at_call 10; (with_reducible refine (SH.out _ (HW.out.bl HB2.out)).mono ?_); rintro e w1 ⟨rfl, hb'⟩; have G1 := Lib.hid hb'; clear hb')
      | (go_at_call 15; (with_reducible refine (B1.out _).mono ?_); rintro e w2 ⟨rfl, hb'⟩; have G2 := Lib.hid (G1.out.trans hb'); obtain ⟨x0, x1, x2, x3, x4, x5, x6, _⟩ := HC.out _ G2.out; clear hb')
      | (go_at_call 13; (with_reducible refine (J1.out _).mono ?_); rintro e w3 ⟨rfl, hb'⟩; have D3 := Lib.hid hb'; have G3 := Lib.hid ((G2.out.alloc _).trans hb'); clear hb' x0 x1 x2 x3 x4 x5 x6)
      | (go_at_call 11; (with_reducible refine (S2.out _ (HW.out.bl (HB2.out.trans (G3.out.alloc _)))).mono ?_); rintro e w4 ⟨rfl, hb'⟩; have I4 := Lib.hid hb'; have D4 := Lib.hid ((D3.out.alloc _).trans hb'); have G4 := Lib.hid ((G3.out.alloc _).trans hb'); obtain ⟨x0, x1, x2, x3, x4, x5, x6, _⟩ := HC.out _ G4.out; obtain ⟨y0, y1, y2⟩ := box2 D4.out; obtain ⟨y3, y4, y5⟩ := box2 I4.out; clear hb')
      | (go_at_call 23; (with_reducible refine (L1.out _).mono ?_); rintro e w5 ⟨rfl, hb'⟩; have U5 := Lib.hid hb'; have I5 := Lib.hid ((I4.out.alloc _).trans hb'); have D5 := Lib.hid ((D4.out.alloc _).trans hb'); have G5 := Lib.hid ((G4.out.alloc _).trans hb'); clear hb' x0 x1 x2 x3 x4 x5 x6 y0 y1 y2 y3 y4 y5; obtain ⟨y0, y1, y2⟩ := box2 D5.out; obtain ⟨y3, y4, y5⟩ := box2 I5.out)
      | (go_at_call 23; (with_reducible refine (L2.out _).mono ?_); rintro e w6 ⟨rfl, hb'⟩; have U6 := Lib.hid (U5.out.trans hb'); have G6 := Lib.hid (G5.out.trans hb'); obtain ⟨x0, x1, x2, x3, x4, x5, x6, _⟩ := HC.out _ G6.out; clear hb' y0 y1 y2 y3 y4 y5; obtain ⟨y0, y1, y2, y3⟩ := box3 U6.out))
    go_quiet (fail)
    have G8 := Lib.hid (G6.out.drewN nq)
    have U8 := Lib.hid (U6.out.drewN nq)
    obtain ⟨z, hz⟩ : ∃ z, w6.drewN nq = z := ⟨_, rfl⟩
    rw [hz] at G8 U8 ⊢
    clear x0 x1 x2 x3 x4 x5 x6 y0 y1 y2 y3 hz
    obtain ⟨x0, x1, x2, x3, x4, x5, x6, _⟩ := HC.out _ G8.out
    obtain ⟨y0, y1, y2, y3⟩ := box3 U8.out
    go_wp2
    go_ret
    exact ⟨rfl, HB2.out.trans G8.out⟩
end Go.Proofs.YtiainhbkoehhjaaDoor
