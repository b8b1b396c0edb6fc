/-
  Package trio: joiner, and the closure that it makes.
-/
import Derived.Test.YtiainhbkoehhjaaDoorPk36
import Derived.Test.YtiainhbkoehhjaaDoorReg
namespace Go.Proofs.YtiainhbkoehhjaaDoor
open Go.RowKit
set_option linter.unusedVariables false
set_option linter.unusedSimpArgs false

/-- x points at a variable of the call's own; where p is known it holds Y. -/
def JV (W3 w : World) (x : Value) (Y : Nat) (p : Prop) : Prop := ∃ g y, x = .pointer (some ⟨g, 0, none⟩) ∧ W3.heap.size ≤ g ∧ Bk .u32 25 w g [y] ∧ (p → y = Y)
theorem JV.bl {W3 w w' : World} {x : Value} {Y : Nat} {p : Prop} (h : JV W3 w x Y p) (g : Bl w w') : JV W3 w' x Y p := by
  obtain ⟨b, y, h1, h2, h3, h4⟩ := h
  exact ⟨b, y, h1, h2, h3.bl g, h4⟩
theorem JV.imp {W3 w : World} {x : Value} {Y : Nat} {p q : Prop} (h : JV W3 w x Y p) (f : q → p) : JV W3 w x Y q := by
  obtain ⟨b, y, h1, h2, h3, h4⟩ := h
  exact ⟨b, y, h1, h2, h3, fun k => h4 (f k)⟩
theorem JV.other {W3 w : World} {x : Value} {Y g : Nat} {u : Value} {p : Prop} (h : JV W3 w x Y p) (hne : x ≠ .pointer (some ⟨g, 0, none⟩)) : JV W3 (w.setCell ⟨g, 0, none⟩ u) x Y p := by
  obtain ⟨b, y, h1, h2, h3, h4⟩ := h
  have hbg : b ≠ g := fun e => hne (by rw [h1, e])
  exact ⟨b, y, h1, h2, h3.og ((Og.refl g w).setCell 0 u) hbg, h4⟩
theorem JV.new {W3 w : World} {Y : Nat} {p : Prop} (b : Bl W3 w) (hp : ¬ p) : JV W3 (w.alloc (.cells #[.int .u32 0] 25)) (.pointer (some ⟨w.heap.size, 0, none⟩)) Y p :=
  ⟨_, 0, rfl, b.size, heap_alloc_new w _, fun h => absurd h hp⟩
theorem new_ne {W3 w : World} {x : Value} {Y : Nat} {p : Prop} (h : JV W3 w x Y p) : (.pointer (some ⟨w.heap.size, 0, none⟩) : Value) ≠ x := by
  obtain ⟨b, y, h1, h2, h3, h4⟩ := h
  intro e
  rw [h1] at e
  have := h3.lt
  simp at e
  try omega
/-- What holds between two operations. -/
structure JI (W3 : World) (B C : Value) (Y1 Y2 Y3 : Nat) (l : Array Bool) (x5 x6 x7 x16 x17 x18 x19 x20 x21 : Value) (w : World) : Prop where
  b : Bl W3 w
  f0 : On l 0 → x16 = B
  f1 : On l 1 → x17 = .int .u32 (Y1 : Int)
  f2 : On l 2 → x18 = C
  f3 : On l 3 → x19 = .int .u32 (Y2 : Int)
  f4 : On l 4 → x20 = C
  f5 : On l 5 → x21 = .int .u32 (Y3 : Int)
  f6 : On l 6 → JV W3 w x5 Y1 (On l 9)
  f7 : On l 7 → JV W3 w x6 Y2 (On l 10)
  f8 : On l 8 → JV W3 w x7 Y3 (On l 11)
  d67 : On l 6 → On l 7 → x5 ≠ x6
  d68 : On l 6 → On l 8 → x5 ≠ x7
  d78 : On l 7 → On l 8 → x6 ≠ x7
  s9 : On l 9 → On l 6
  s10 : On l 10 → On l 7
  s11 : On l 11 → On l 8

/-- What the closure captures: the parameters of two of the primes, and three inverses. -/
def Jo (w : World) (b1 g5 b3 g6 g7 : Nat) : Prop := ∃ nB oB sB nC oC sC y1 y2 y3 : Nat, Pm 167772161 nB oB sB ∧ Pm 469762049 nC oC sC ∧ Cg 167772161 (y1 * 998244353) 1 ∧ Cg 469762049 (y2 * 998244353) 1 ∧ Cg 469762049 (y3 * 167772161) 1 ∧
  Four b1 (.int .u32 167772161) (.int .u32 (nB : Int)) (.int .u32 (oB : Int)) (.int .u32 (sB : Int)) w ∧ Four b3 (.int .u32 469762049) (.int .u32 (nC : Int)) (.int .u32 (oC : Int)) (.int .u32 (sC : Int)) w ∧
  Bk .u32 25 w g5 [fm 167772161 y1] ∧ Bk .u32 25 w g6 [fm 469762049 y2] ∧ Bk .u32 25 w g7 [fm 469762049 y3]
theorem Jo.bl {w w' : World} {b1 g5 b3 g6 g7 : Nat} (h : Jo w b1 g5 b3 g6 g7) (g : Bl w w') : Jo w' b1 g5 b3 g6 g7 := by
  obtain ⟨nB, oB, sB, nC, oC, sC, y1, y2, y3, h1, h2, h3, h4, h5, h6, h7, h8, h9, h10⟩ := h
  exact ⟨nB, oB, sB, nC, oC, sC, y1, y2, y3, h1, h2, h3, h4, h5, h6.bl g, h7.bl g, h8.bl g, h9.bl g, h10.bl g⟩
def JoEnd (W : World) (e : Ending) (w : World) : Prop := ∃ b1 g5 b3 g6 g7 : Nat, e = .returned (.func (.func 46) #[] #[.pointer (some ⟨b1, 0, none⟩), .pointer (some ⟨g5, 0, none⟩), .pointer (some ⟨b3, 0, none⟩), .pointer (some ⟨g6, 0, none⟩), .pointer (some ⟨g7, 0, none⟩)]) ∧ Jo w b1 g5 b3 g6 g7 ∧ Bl W w

set_option maxRecDepth 100000 in
set_option maxHeartbeats 4000000 in
theorem joiner_any (w : World) : Calls Tryd.prog 27 #[] w (JoEnd w) := by
  have hmf : ∀ (fn : Fn) (first cap : Array Value) (w : World), (Instr.makeFunc fn first cap).run Tryd.prog w = .ok (.func fn first cap) w := fun _ _ _ _ => rfl
  obtain ⟨nB, oB, sB, pB, KB⟩ := make_ex 167772161 (.inr (.inl rfl))
  obtain ⟨nC, oC, sC, pC, KC⟩ := make_ex 469762049 (.inr (.inr rfl))
  obtain ⟨y1, c1, _, J1⟩ := inverse_ex 167772161 998244353 (.inr (.inl rfl)) (by decide) (by decide)
  obtain ⟨y2, c2, _, J2⟩ := inverse_ex 469762049 998244353 (.inr (.inr rfl)) (by decide) (by decide)
  obtain ⟨y3, c3, _, J3⟩ := inverse_ex 469762049 167772161 (.inr (.inr rfl)) (by decide) (by decide)
  have K1 := fun w => J1 pB w
  have K2 := fun w => J2 pC w
  have K3 := fun w => J3 pC w
  obtain ⟨Y1, h1⟩ : ∃ x, fm 167772161 y1 = x := ⟨_, rfl⟩
  obtain ⟨Y2, h2⟩ : ∃ x, fm 469762049 y2 = x := ⟨_, rfl⟩
  obtain ⟨Y3, h3⟩ : ∃ x, fm 469762049 y3 = x := ⟨_, rfl⟩
  rw [h1] at K1
  rw [h2] at K2
  rw [h3] at K3
  unfold mk frm at KB KC
  unfold frm at K1 K2 K3
  rw [show ((167772161 : Nat) : Int) = 167772161 from rfl] at KB K1 K3
  rw [show ((469762049 : Nat) : Int) = 469762049 from rfl] at KC K2 K3
  rw [show ((998244353 : Nat) : Int) = 998244353 from rfl] at K1 K2
  have HKB := Lib.hid KB
  have HKC := Lib.hid KC
  have I1 := Lib.hid K1
  have I2 := Lib.hid K2
  have I3 := Lib.hid K3
  have HALL : Hid (∀ w b1 g5 b3 g6 g7, Four b1 (.int .u32 167772161) (.int .u32 (nB : Int)) (.int .u32 (oB : Int)) (.int .u32 (sB : Int)) w → Four b3 (.int .u32 469762049) (.int .u32 (nC : Int)) (.int .u32 (oC : Int)) (.int .u32 (sC : Int)) w → Bk .u32 25 w g5 [Y1] → Bk .u32 25 w g6 [Y2] → Bk .u32 25 w g7 [Y3] → Jo w b1 g5 b3 g6 g7) :=
    fun w b1 g5 b3 g6 g7 f1 f3 q5 q6 q7 => ⟨nB, oB, sB, nC, oC, sC, y1, y2, y3, pB, pC, c1, c2, c3, f1, f3, h1 ▸ q5, h2 ▸ q6, h3 ▸ q7⟩
  clear KB KC K1 K2 K3 J1 J2 J3 c1 c2 c3 pB pC h1 h2 h3
  go_enter Tryd.func27, Tryd.ntmps27
  go_wp2_with (first
    | (go_at_call 44; (with_reducible refine (HKB.out _).mono ?_); rintro e w1 ⟨rfl, hg⟩; have G1 := Lib.hid hg; clear hg)
    | (go_at_call 44; (with_reducible refine (HKC.out _).mono ?_); rintro e w2 ⟨rfl, hg⟩; have G2 := Lib.hid hg; clear hg))
  obtain ⟨W3, hW3⟩ : ∃ W, w2.alloc (.cells #[.int .u32 469762049, .int .u32 (nC : Int), .int .u32 (oC : Int), .int .u32 (sC : Int)] 77) = W := ⟨_, rfl⟩
  have HFB : Hid (Four w1.heap.size (.int .u32 167772161) (.int .u32 (nB : Int)) (.int .u32 (oB : Int)) (.int .u32 (sB : Int)) W3) := by rw [← hW3]; exact (four_box w1 _ _ _ _ 77).kept (G2.out.trans ((Gr.refl _).alloc _ _))
  have HFC : Hid (Four w2.heap.size (.int .u32 469762049) (.int .u32 (nC : Int)) (.int .u32 (oC : Int)) (.int .u32 (sC : Int)) W3) := by rw [← hW3]; exact four_box w2 _ _ _ _ _
  have HB3 : Hid (Bl w W3) := by rw [← hW3]; exact (((show Bl w w1 from G1.out.1).alloc _).trans (show Bl _ w2 from G2.out.1)).alloc _
  rw [hW3]
  obtain ⟨bB, hbB⟩ : ∃ x, w1.heap.size = x := ⟨_, rfl⟩
  obtain ⟨bC, hbC⟩ : ∃ x, w2.heap.size = x := ⟨_, rfl⟩
  rw [hbB] at HFB ⊢
  rw [hbC] at HFC ⊢
  clear hW3 G1 G2 HKB HKC hbB hbC
  refine Code.wp_mono (Q := fun e a w => match e with
    | .normal => ∃ g5 g6 g7 x16 x17 x18 x19 x20 x21, a = { tmps := #[.nilFunc, .pointer (some ⟨bB, 0, none⟩), .int .i64 0, .pointer (some ⟨bC, 0, none⟩), .int .i64 0, .pointer (some ⟨g5, 0, none⟩), .pointer (some ⟨g6, 0, none⟩), .pointer (some ⟨g7, 0, none⟩), .tuple #[.agg #[.int .u32 167772161, .int .u32 (nB : Int), .int .u32 (oB : Int), .int .u32 (sB : Int)], .int .i64 0], .tuple #[.agg #[.int .u32 167772161, .int .u32 (nB : Int), .int .u32 (oB : Int), .int .u32 (sB : Int)], .int .i64 0], .agg #[.int .u32 167772161, .int .u32 (nB : Int), .int .u32 (oB : Int), .int .u32 (sB : Int)], .int .i64 0, .tuple #[.agg #[.int .u32 469762049, .int .u32 (nC : Int), .int .u32 (oC : Int), .int .u32 (sC : Int)], .int .i64 0], .tuple #[.agg #[.int .u32 469762049, .int .u32 (nC : Int), .int .u32 (oC : Int), .int .u32 (sC : Int)], .int .i64 0], .agg #[.int .u32 469762049, .int .u32 (nC : Int), .int .u32 (oC : Int), .int .u32 (sC : Int)], .int .i64 0, x16, x17, x18, x19, x20, x21, undef], defers := [] } ∧ Hid (Bk .u32 25 w g5 [Y1]) ∧ Hid (Bk .u32 25 w g6 [Y2]) ∧ Hid (Bk .u32 25 w g7 [Y3]) ∧ Hid (Bl W3 w)
    | _ => False) ?_ ?_
  rotate_left
  · refine wp_region_inv2 (fun l a w => ∃ x5 x6 x7 x16 x17 x18 x19 x20 x21, a = { tmps := #[.nilFunc, .pointer (some ⟨bB, 0, none⟩), .int .i64 0, .pointer (some ⟨bC, 0, none⟩), .int .i64 0, x5, x6, x7, .tuple #[.agg #[.int .u32 167772161, .int .u32 (nB : Int), .int .u32 (oB : Int), .int .u32 (sB : Int)], .int .i64 0], .tuple #[.agg #[.int .u32 167772161, .int .u32 (nB : Int), .int .u32 (oB : Int), .int .u32 (sB : Int)], .int .i64 0], .agg #[.int .u32 167772161, .int .u32 (nB : Int), .int .u32 (oB : Int), .int .u32 (sB : Int)], .int .i64 0, .tuple #[.agg #[.int .u32 469762049, .int .u32 (nC : Int), .int .u32 (oC : Int), .int .u32 (sC : Int)], .int .i64 0], .tuple #[.agg #[.int .u32 469762049, .int .u32 (nC : Int), .int .u32 (oC : Int), .int .u32 (sC : Int)], .int .i64 0], .agg #[.int .u32 469762049, .int .u32 (nC : Int), .int .u32 (oC : Int), .int .u32 (sC : Int)], .int .i64 0, x16, x17, x18, x19, x20, x21, undef], defers := [] } ∧ JI W3 (.agg #[.int .u32 167772161, .int .u32 (nB : Int), .int .u32 (oB : Int), .int .u32 (sB : Int)]) (.agg #[.int .u32 469762049, .int .u32 (nC : Int), .int .u32 (oC : Int), .int .u32 (sC : Int)]) Y1 Y2 Y3 l x5 x6 x7 x16 x17 x18 x19 x20 x21 w) (by kernel_rfl) ?_ ?_ ?_ (fun l hl hr => all_done (by kernel_rfl) l hl hr)
    · refine ⟨_, _, _, _, _, _, _, _, _, rfl, ⟨(Bl.refl _).drew, ?_, ?_, ?_, ?_, ?_, ?_, ?_, ?_, ?_, ?_, ?_, ?_, ?_, ?_, ?_⟩⟩ <;> (intro h; exact absurd h (by simp [On]))
    · intro l a w i hI hn hi hdep
      obtain ⟨x5, x6, x7, x16, x17, x18, x19, x20, x21, rfl, hI⟩ := hI
      have hi' : i < 12 := hi
      have h12 : i = 0 ∨ i = 1 ∨ i = 2 ∨ i = 3 ∨ i = 4 ∨ i = 5 ∨ i = 6 ∨ i = 7 ∨ i = 8 ∨ i = 9 ∨ i = 10 ∨ i = 11 := by omega
      rcases h12 with rfl | rfl | rfl | rfl | rfl | rfl | rfl | rfl | rfl | rfl | rfl | rfl
      · refine wpOp_intro rfl rfl fun K' hK => ?_
        obtain ⟨k0, k1, k2, k3, kb⟩ := HFB.out.bl hI.b
        go_simp
        exact hK.out _ _ ⟨_, _, _, _, _, _, _, _, _, rfl, ⟨hI.b, fun _ => rfl, fun h => hI.f1 (h.of_set (by decide)), fun h => hI.f2 (h.of_set (by decide)), fun h => hI.f3 (h.of_set (by decide)), fun h => hI.f4 (h.of_set (by decide)), fun h => hI.f5 (h.of_set (by decide)), fun h => ((hI.f6 (h.of_set (by decide))).imp fun q => q.of_set (by decide)), fun h => ((hI.f7 (h.of_set (by decide))).imp fun q => q.of_set (by decide)), fun h => ((hI.f8 (h.of_set (by decide))).imp fun q => q.of_set (by decide)), fun h k => hI.d67 (h.of_set (by decide)) (k.of_set (by decide)), fun h k => hI.d68 (h.of_set (by decide)) (k.of_set (by decide)), fun h k => hI.d78 (h.of_set (by decide)) (k.of_set (by decide)), fun h => (hI.s9 (h.of_set (by decide))).keep, fun h => (hI.s10 (h.of_set (by decide))).keep, fun h => (hI.s11 (h.of_set (by decide))).keep⟩⟩
      · refine wpOp_intro rfl rfl fun K' hK => ?_
        simp [Region.binds] at hdep
        have D0 : On l 0 := hdep
        obtain rfl := hI.f0 D0
        go_simp
        refine (I1.out w).mono ?_
        rintro e w' ⟨rfl, hg⟩
        exact hK.out _ _ ⟨_, _, _, _, _, _, _, _, _, rfl, ⟨hI.b.trans hg.1, fun h => hI.f0 (h.of_set (by decide)), fun _ => rfl, fun h => hI.f2 (h.of_set (by decide)), fun h => hI.f3 (h.of_set (by decide)), fun h => hI.f4 (h.of_set (by decide)), fun h => hI.f5 (h.of_set (by decide)), fun h => (((hI.f6 (h.of_set (by decide))).bl hg.1).imp fun q => q.of_set (by decide)), fun h => (((hI.f7 (h.of_set (by decide))).bl hg.1).imp fun q => q.of_set (by decide)), fun h => (((hI.f8 (h.of_set (by decide))).bl hg.1).imp fun q => q.of_set (by decide)), fun h k => hI.d67 (h.of_set (by decide)) (k.of_set (by decide)), fun h k => hI.d68 (h.of_set (by decide)) (k.of_set (by decide)), fun h k => hI.d78 (h.of_set (by decide)) (k.of_set (by decide)), fun h => (hI.s9 (h.of_set (by decide))).keep, fun h => (hI.s10 (h.of_set (by decide))).keep, fun h => (hI.s11 (h.of_set (by decide))).keep⟩⟩
      · refine wpOp_intro rfl rfl fun K' hK => ?_
        obtain ⟨k0, k1, k2, k3, kb⟩ := HFC.out.bl hI.b
        go_simp
        exact hK.out _ _ ⟨_, _, _, _, _, _, _, _, _, rfl, ⟨hI.b, fun h => hI.f0 (h.of_set (by decide)), fun h => hI.f1 (h.of_set (by decide)), fun _ => rfl, fun h => hI.f3 (h.of_set (by decide)), fun h => hI.f4 (h.of_set (by decide)), fun h => hI.f5 (h.of_set (by decide)), fun h => ((hI.f6 (h.of_set (by decide))).imp fun q => q.of_set (by decide)), fun h => ((hI.f7 (h.of_set (by decide))).imp fun q => q.of_set (by decide)), fun h => ((hI.f8 (h.of_set (by decide))).imp fun q => q.of_set (by decide)), fun h k => hI.d67 (h.of_set (by decide)) (k.of_set (by decide)), fun h k => hI.d68 (h.of_set (by decide)) (k.of_set (by decide)), fun h k => hI.d78 (h.of_set (by decide)) (k.of_set (by decide)), fun h => (hI.s9 (h.of_set (by decide))).keep, fun h => (hI.s10 (h.of_set (by decide))).keep, fun h => (hI.s11 (h.of_set (by decide))).keep⟩⟩
      · refine wpOp_intro rfl rfl fun K' hK => ?_
        simp [Region.binds] at hdep
        have D2 : On l 2 := hdep.1
        obtain rfl := hI.f2 D2
        go_simp
        refine (I2.out w).mono ?_
        rintro e w' ⟨rfl, hg⟩
        exact hK.out _ _ ⟨_, _, _, _, _, _, _, _, _, rfl, ⟨hI.b.trans hg.1, fun h => hI.f0 (h.of_set (by decide)), fun h => hI.f1 (h.of_set (by decide)), fun h => hI.f2 (h.of_set (by decide)), fun _ => rfl, fun h => hI.f4 (h.of_set (by decide)), fun h => hI.f5 (h.of_set (by decide)), fun h => (((hI.f6 (h.of_set (by decide))).bl hg.1).imp fun q => q.of_set (by decide)), fun h => (((hI.f7 (h.of_set (by decide))).bl hg.1).imp fun q => q.of_set (by decide)), fun h => (((hI.f8 (h.of_set (by decide))).bl hg.1).imp fun q => q.of_set (by decide)), fun h k => hI.d67 (h.of_set (by decide)) (k.of_set (by decide)), fun h k => hI.d68 (h.of_set (by decide)) (k.of_set (by decide)), fun h k => hI.d78 (h.of_set (by decide)) (k.of_set (by decide)), fun h => (hI.s9 (h.of_set (by decide))).keep, fun h => (hI.s10 (h.of_set (by decide))).keep, fun h => (hI.s11 (h.of_set (by decide))).keep⟩⟩
      · refine wpOp_intro rfl rfl fun K' hK => ?_
        obtain ⟨k0, k1, k2, k3, kb⟩ := HFC.out.bl hI.b
        go_simp
        exact hK.out _ _ ⟨_, _, _, _, _, _, _, _, _, rfl, ⟨hI.b, fun h => hI.f0 (h.of_set (by decide)), fun h => hI.f1 (h.of_set (by decide)), fun h => hI.f2 (h.of_set (by decide)), fun h => hI.f3 (h.of_set (by decide)), fun _ => rfl, fun h => hI.f5 (h.of_set (by decide)), fun h => ((hI.f6 (h.of_set (by decide))).imp fun q => q.of_set (by decide)), fun h => ((hI.f7 (h.of_set (by decide))).imp fun q => q.of_set (by decide)), fun h => ((hI.f8 (h.of_set (by decide))).imp fun q => q.of_set (by decide)), fun h k => hI.d67 (h.of_set (by decide)) (k.of_set (by decide)), fun h k => hI.d68 (h.of_set (by decide)) (k.of_set (by decide)), fun h k => hI.d78 (h.of_set (by decide)) (k.of_set (by decide)), fun h => (hI.s9 (h.of_set (by decide))).keep, fun h => (hI.s10 (h.of_set (by decide))).keep, fun h => (hI.s11 (h.of_set (by decide))).keep⟩⟩
      · refine wpOp_intro rfl rfl fun K' hK => ?_
        simp [Region.binds] at hdep
        have D4 : On l 4 := hdep.1
        obtain rfl := hI.f4 D4
        go_simp
        refine (I3.out w).mono ?_
        rintro e w' ⟨rfl, hg⟩
        exact hK.out _ _ ⟨_, _, _, _, _, _, _, _, _, rfl, ⟨hI.b.trans hg.1, fun h => hI.f0 (h.of_set (by decide)), fun h => hI.f1 (h.of_set (by decide)), fun h => hI.f2 (h.of_set (by decide)), fun h => hI.f3 (h.of_set (by decide)), fun h => hI.f4 (h.of_set (by decide)), fun _ => rfl, fun h => (((hI.f6 (h.of_set (by decide))).bl hg.1).imp fun q => q.of_set (by decide)), fun h => (((hI.f7 (h.of_set (by decide))).bl hg.1).imp fun q => q.of_set (by decide)), fun h => (((hI.f8 (h.of_set (by decide))).bl hg.1).imp fun q => q.of_set (by decide)), fun h k => hI.d67 (h.of_set (by decide)) (k.of_set (by decide)), fun h k => hI.d68 (h.of_set (by decide)) (k.of_set (by decide)), fun h k => hI.d78 (h.of_set (by decide)) (k.of_set (by decide)), fun h => (hI.s9 (h.of_set (by decide))).keep, fun h => (hI.s10 (h.of_set (by decide))).keep, fun h => (hI.s11 (h.of_set (by decide))).keep⟩⟩
      · refine wpOp_intro rfl rfl fun K' hK => ?_
        go_simp
        exact hK.out _ _ ⟨_, _, _, _, _, _, _, _, _, rfl, ⟨hI.b.trans ((Bl.refl _).alloc _), fun h => hI.f0 (h.of_set (by decide)), fun h => hI.f1 (h.of_set (by decide)), fun h => hI.f2 (h.of_set (by decide)), fun h => hI.f3 (h.of_set (by decide)), fun h => hI.f4 (h.of_set (by decide)), fun h => hI.f5 (h.of_set (by decide)), fun _ => JV.new hI.b (fun q => hn (hI.s9 (q.of_set (by decide)))), fun h => (((hI.f7 (h.of_set (by decide))).bl ((Bl.refl _).alloc _)).imp fun q => q.of_set (by decide)), fun h => (((hI.f8 (h.of_set (by decide))).bl ((Bl.refl _).alloc _)).imp fun q => q.of_set (by decide)), fun _ k => new_ne (hI.f7 (k.of_set (by decide))), fun _ k => new_ne (hI.f8 (k.of_set (by decide))), fun h k => hI.d78 (h.of_set (by decide)) (k.of_set (by decide)), fun h => (hI.s9 (h.of_set (by decide))).keep, fun h => (hI.s10 (h.of_set (by decide))).keep, fun h => (hI.s11 (h.of_set (by decide))).keep⟩⟩
      · refine wpOp_intro rfl rfl fun K' hK => ?_
        go_simp
        exact hK.out _ _ ⟨_, _, _, _, _, _, _, _, _, rfl, ⟨hI.b.trans ((Bl.refl _).alloc _), fun h => hI.f0 (h.of_set (by decide)), fun h => hI.f1 (h.of_set (by decide)), fun h => hI.f2 (h.of_set (by decide)), fun h => hI.f3 (h.of_set (by decide)), fun h => hI.f4 (h.of_set (by decide)), fun h => hI.f5 (h.of_set (by decide)), fun h => (((hI.f6 (h.of_set (by decide))).bl ((Bl.refl _).alloc _)).imp fun q => q.of_set (by decide)), fun _ => JV.new hI.b (fun q => hn (hI.s10 (q.of_set (by decide)))), fun h => (((hI.f8 (h.of_set (by decide))).bl ((Bl.refl _).alloc _)).imp fun q => q.of_set (by decide)), fun k _ => (new_ne (hI.f6 (k.of_set (by decide)))).symm, fun h k => hI.d68 (h.of_set (by decide)) (k.of_set (by decide)), fun _ k => new_ne (hI.f8 (k.of_set (by decide))), fun h => (hI.s9 (h.of_set (by decide))).keep, fun h => (hI.s10 (h.of_set (by decide))).keep, fun h => (hI.s11 (h.of_set (by decide))).keep⟩⟩
      · refine wpOp_intro rfl rfl fun K' hK => ?_
        go_simp
        exact hK.out _ _ ⟨_, _, _, _, _, _, _, _, _, rfl, ⟨hI.b.trans ((Bl.refl _).alloc _), fun h => hI.f0 (h.of_set (by decide)), fun h => hI.f1 (h.of_set (by decide)), fun h => hI.f2 (h.of_set (by decide)), fun h => hI.f3 (h.of_set (by decide)), fun h => hI.f4 (h.of_set (by decide)), fun h => hI.f5 (h.of_set (by decide)), fun h => (((hI.f6 (h.of_set (by decide))).bl ((Bl.refl _).alloc _)).imp fun q => q.of_set (by decide)), fun h => (((hI.f7 (h.of_set (by decide))).bl ((Bl.refl _).alloc _)).imp fun q => q.of_set (by decide)), fun _ => JV.new hI.b (fun q => hn (hI.s11 (q.of_set (by decide)))), fun h k => hI.d67 (h.of_set (by decide)) (k.of_set (by decide)), fun k _ => (new_ne (hI.f6 (k.of_set (by decide)))).symm, fun k _ => (new_ne (hI.f7 (k.of_set (by decide)))).symm, fun h => (hI.s9 (h.of_set (by decide))).keep, fun h => (hI.s10 (h.of_set (by decide))).keep, fun h => (hI.s11 (h.of_set (by decide))).keep⟩⟩
      · refine wpOp_intro rfl rfl fun K' hK => ?_
        simp [Region.binds] at hdep
        have D6 : On l 6 := hdep.1
        have D1 : On l 1 := hdep.2.1
        have e1 := hI.f1 D1
        obtain ⟨gg, yy, hx, hg, hk, _⟩ := hI.f6 D6
        have q1 := hk.cell 0 (by simp)
        have q2 := hk.free 0
        have hk2 := hk.set 0 Y1 (by simp)
        have HO : Bl W3 (w.setCell ⟨gg, 0, none⟩ (.int .u32 ((Y1 : Nat) : Int))) := hI.b.setCell (p := ⟨gg, 0, none⟩) hg _
        obtain rfl := hx
        obtain rfl := e1
        go_simp
        exact hK.out _ _ ⟨_, _, _, _, _, _, _, _, _, rfl, ⟨HO, fun h => hI.f0 (h.of_set (by decide)), fun h => hI.f1 (h.of_set (by decide)), fun h => hI.f2 (h.of_set (by decide)), fun h => hI.f3 (h.of_set (by decide)), fun h => hI.f4 (h.of_set (by decide)), fun h => hI.f5 (h.of_set (by decide)), fun h => ⟨gg, Y1, rfl, hg, hk2, fun _ => rfl⟩, fun h => (((hI.f7 (h.of_set (by decide))).other (by exact (hI.d67 D6 (h.of_set (by decide))).symm)).imp fun q => q.of_set (by decide)), fun h => (((hI.f8 (h.of_set (by decide))).other (by exact (hI.d68 D6 (h.of_set (by decide))).symm)).imp fun q => q.of_set (by decide)), fun h k => hI.d67 (h.of_set (by decide)) (k.of_set (by decide)), fun h k => hI.d68 (h.of_set (by decide)) (k.of_set (by decide)), fun h k => hI.d78 (h.of_set (by decide)) (k.of_set (by decide)), fun _ => D6.keep, fun h => (hI.s10 (h.of_set (by decide))).keep, fun h => (hI.s11 (h.of_set (by decide))).keep⟩⟩
      · refine wpOp_intro rfl rfl fun K' hK => ?_
        simp [Region.binds] at hdep
        have D7 : On l 7 := hdep.1
        have D3 : On l 3 := hdep.2.1
        have e3 := hI.f3 D3
        obtain ⟨gg, yy, hx, hg, hk, _⟩ := hI.f7 D7
        have q1 := hk.cell 0 (by simp)
        have q2 := hk.free 0
        have hk2 := hk.set 0 Y2 (by simp)
        have HO : Bl W3 (w.setCell ⟨gg, 0, none⟩ (.int .u32 ((Y2 : Nat) : Int))) := hI.b.setCell (p := ⟨gg, 0, none⟩) hg _
        obtain rfl := hx
        obtain rfl := e3
        go_simp
        exact hK.out _ _ ⟨_, _, _, _, _, _, _, _, _, rfl, ⟨HO, fun h => hI.f0 (h.of_set (by decide)), fun h => hI.f1 (h.of_set (by decide)), fun h => hI.f2 (h.of_set (by decide)), fun h => hI.f3 (h.of_set (by decide)), fun h => hI.f4 (h.of_set (by decide)), fun h => hI.f5 (h.of_set (by decide)), fun h => (((hI.f6 (h.of_set (by decide))).other (by exact hI.d67 (h.of_set (by decide)) D7)).imp fun q => q.of_set (by decide)), fun h => ⟨gg, Y2, rfl, hg, hk2, fun _ => rfl⟩, fun h => (((hI.f8 (h.of_set (by decide))).other (by exact (hI.d78 D7 (h.of_set (by decide))).symm)).imp fun q => q.of_set (by decide)), fun h k => hI.d67 (h.of_set (by decide)) (k.of_set (by decide)), fun h k => hI.d68 (h.of_set (by decide)) (k.of_set (by decide)), fun h k => hI.d78 (h.of_set (by decide)) (k.of_set (by decide)), fun h => (hI.s9 (h.of_set (by decide))).keep, fun _ => D7.keep, fun h => (hI.s11 (h.of_set (by decide))).keep⟩⟩
      · refine wpOp_intro rfl rfl fun K' hK => ?_
        simp [Region.binds] at hdep
        have D8 : On l 8 := hdep.1
        have D5 : On l 5 := hdep.2.1
        have e5 := hI.f5 D5
        obtain ⟨gg, yy, hx, hg, hk, _⟩ := hI.f8 D8
        have q1 := hk.cell 0 (by simp)
        have q2 := hk.free 0
        have hk2 := hk.set 0 Y3 (by simp)
        have HO : Bl W3 (w.setCell ⟨gg, 0, none⟩ (.int .u32 ((Y3 : Nat) : Int))) := hI.b.setCell (p := ⟨gg, 0, none⟩) hg _
        obtain rfl := hx
        obtain rfl := e5
        go_simp
        exact hK.out _ _ ⟨_, _, _, _, _, _, _, _, _, rfl, ⟨HO, fun h => hI.f0 (h.of_set (by decide)), fun h => hI.f1 (h.of_set (by decide)), fun h => hI.f2 (h.of_set (by decide)), fun h => hI.f3 (h.of_set (by decide)), fun h => hI.f4 (h.of_set (by decide)), fun h => hI.f5 (h.of_set (by decide)), fun h => (((hI.f6 (h.of_set (by decide))).other (by exact hI.d68 (h.of_set (by decide)) D8)).imp fun q => q.of_set (by decide)), fun h => (((hI.f7 (h.of_set (by decide))).other (by exact hI.d78 (h.of_set (by decide)) D8)).imp fun q => q.of_set (by decide)), fun h => ⟨gg, Y3, rfl, hg, hk2, fun _ => rfl⟩, fun h k => hI.d67 (h.of_set (by decide)) (k.of_set (by decide)), fun h k => hI.d68 (h.of_set (by decide)) (k.of_set (by decide)), fun h k => hI.d78 (h.of_set (by decide)) (k.of_set (by decide)), fun h => (hI.s9 (h.of_set (by decide))).keep, fun h => (hI.s10 (h.of_set (by decide))).keep, fun _ => D8.keep⟩⟩
    · intro l a w hI hall
      obtain ⟨x5, x6, x7, x16, x17, x18, x19, x20, x21, rfl, hI⟩ := hI
      obtain ⟨g5, _, rfl, _, q5, e5⟩ := hI.f6 (hall 6 (by decide))
      obtain ⟨g6, _, rfl, _, q6, e6⟩ := hI.f7 (hall 7 (by decide))
      obtain ⟨g7, _, rfl, _, q7, e7⟩ := hI.f8 (hall 8 (by decide))
      obtain rfl := e5 (hall 9 (by decide))
      obtain rfl := e6 (hall 10 (by decide))
      obtain rfl := e7 (hall 11 (by decide))
      exact ⟨_, _, _, _, _, _, _, _, _, rfl, q5, q6, q7, hI.b⟩
  intro e a w' h
  cases e <;> first | exact h.elim | skip
  obtain ⟨g5, g6, g7, x16, x17, x18, x19, x20, x21, rfl, q5, q6, q7, hb⟩ := h
  try dsimp only
  clear I1 I2 I3
  go_wp2
  go_ret
  exact ⟨_, _, _, _, _, rfl, HALL.out _ _ _ _ _ _ (HFB.out.bl hb.out) (HFC.out.bl hb.out) q5.out q6.out q7.out, HB3.out.trans hb.out⟩
end Go.Proofs.YtiainhbkoehhjaaDoor
