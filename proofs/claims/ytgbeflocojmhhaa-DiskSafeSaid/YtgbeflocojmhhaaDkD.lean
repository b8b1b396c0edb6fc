/-
  Package disk: Read, Delete, Sync.
-/
import Derived.Test.YtgbeflocojmhhaaDkC
namespace Go.Proofs.Ytgbeflocojmhhaa
open Go.RowKit
set_option linter.unusedVariables false
set_option linter.unusedSimpArgs false

/-- What a call answers that hands back a disk and an error. -/
def DkEnd (W : World) (room : Int) (l : List Fl) (x : Int) (e : Ending) (w : World) : Prop := ∃ v, e = .returned (.tuple #[.agg #[.int .i64 room, v], .int .i64 x]) ∧ Fw w v l ∧ Bl W w
theorem DkEnd.mk {W w : World} {room : Int} {l : List Fl} {x : Int} {v : Value} (h : Fw w v l) (g : Bl W w) : DkEnd W room l x (.returned (.tuple #[.agg #[.int .i64 room, v], .int .i64 x])) w := ⟨v, rfl, h, g⟩
/-- A cell that holds no string is none of a row of files. -/
theorem fw_cellq {w : World} {v : Value} {l : List Fl} {p : Addr} {u : Value} (h : Fw w v l) (hc : w.cell? p = some u) (hu : ∀ z, u ≠ .string z) (u' : Value) : Fw (w.setCell p u') v l := by
  obtain ⟨A, c, rfl, h1, h2, h3, h4⟩ := h
  refine ⟨A, c, rfl, h1, h2, h3, fun hl => ?_⟩
  obtain ⟨b, o, ha, hb, hx⟩ := h4 hl
  have key : ∀ (q : Addr) (z : ByteArray), w.cell? q = some (.string z) → (w.setCell p u').cell? q = some (.string z) := by
    intro q z hq
    rw [World.cell?_setCell_other w _ _ u']
    · exact hq
    · intro e
      rw [← e, hc] at hq
      exact hu _ (Option.some.inj hq)
  exact ⟨b, o, ha, by show _ < (w.heap.modify _ _).size; rw [Array.size_modify]; exact hb, fun j hj => ⟨key _ _ (hx j hj).1, key _ _ (hx j hj).2.1, key _ _ (hx j hj).2.2⟩⟩
theorem fw_set2 {w : World} {v : Value} {l : List Fl} {b : Nat} {r0 : Int} {A : Option Addr} {n c : Nat} (h : Fw w v l) (hb : Bq w b 24 [.int .i64 r0, .slice A n c]) (room : Int) (u : Value) : Fw (set2 w b room u) v l := by
  have h1 := fw_cellq h (hb.cell 0 rfl) (fun z e => by cases e) (.int .i64 room)
  exact fw_cellq h1 ((hb.set 0 (.int .i64 room)).cell 1 rfl) (fun z e => by cases e) u
/-- The way out of a call that hands back a disk and an error. -/
theorem ret_dk {W w : World} {fn : Func} {p u : Tmp} {b : Nat} {tmps : Array Value} {room x r0 : Int} {v : Value} {l : List Fl} {A : Option Addr} {n c : Nat} (h : fn.results = #[.cell p 24, .tmp u]) (hp : tmps.getD p undef = .pointer (some ⟨b, 0, none⟩)) (hu : tmps.getD u undef = .int .i64 x)
    (hb : Bq w b 24 [.int .i64 r0, .slice A n c]) (hf : Fw w v l) (hg : Bl W w) (hbb : W.heap.size ≤ b) : bodyPost Try.prog fn (DkEnd W room l x) Exit.ret { tmps := tmps, defers := [] } (set2 w b room v) :=
  bodyPost_ret (ret_disk2 h hp hu (set2_at hb room v)) rfl (DkEnd.mk (fw_set2 hf hb room v) (set2_bl hg hbb room v))
/-- Between two worlds: what was known of two boxes is known. -/
theorem two_at (w : World) (t0 t1 : TypeId) (c0 c1 : List Value) : Bq ((w.alloc (.cells c0.toArray t0)).alloc (.cells c1.toArray t1)) w.heap.size t0 c0 ∧ Bq ((w.alloc (.cells c0.toArray t0)).alloc (.cells c1.toArray t1)) (w.heap.size + 1) t1 c1 := by
  have h1 := Bq.new (w.alloc (.cells c0.toArray t0)) t1 c1
  rw [World.size_alloc] at h1
  exact ⟨(Bq.new w t0 c0).alloc _, h1⟩
set_option maxRecDepth 100000 in
set_option maxHeartbeats 4000000 in
theorem pRead_any (room : Int) (v : Value) (l : List Fl) (s : ByteArray) (w : World) (hv : Fw w v l) :
    Calls Try.prog 16 #[.agg #[.int .i64 room, v], .string s] w fun e w' => e = .returned (.tuple #[.string (rdD l s), .int .i64 (rdE l s)]) ∧ Bl w w' := by
  have K1 := Lib.hid (fun W (g : Bl w W) => pfind_any v l s W (hv.bl g))
  obtain ⟨n, hn⟩ : ∃ n, l.length = n := ⟨_, rfl⟩
  by_cases h : fnd l s < l.length
  · obtain ⟨i, hi⟩ : ∃ i, fnd l s = i := ⟨_, rfl⟩
    have e2 : ixv l.length (fnd l s) = (i : Int) := by unfold ixv; rw [if_pos h, hi]
    have e4 : rdD l s = (l[i]'(by omega)).d := by unfold rdD; rw [if_pos h, tkF_at h]; simp only [hi]
    have e5 : rdE l s = 0 := by unfold rdE; rw [if_pos h]
    rw [e4, e5]
    obtain ⟨A, c, rfl, _, _, _, hx⟩ := fw_open hv hn
    obtain ⟨b1, o1, rfl, hc1, hc2, hc3⟩ := hx.at_ (i := i) (by omega)
    have hbb := World.block_lt_of_cell? w _ hc1
    obtain ⟨fd, ef⟩ : ∃ d, (l[i]'(by omega)).d = d := ⟨_, rfl⟩
    rw [ef] at hc2 ⊢
    rw [e2] at K1
    have b2 : (0 : Int) ≤ (i : Int) ∧ (i : Int) < (n : Int) := by omega
    have HC : Hid (∀ W, Bl w W → W.cell? ⟨b1, o1 + i * 3 + 1, none⟩ = some (.string fd)) := fun W g => (g.cell (p := ⟨b1, o1 + i * 3 + 1, none⟩) hbb).trans hc2
    have a24 := Try.isAgg49
    have z24 := Try.sizeOf49
    have B0 := Lib.hid (Bq.new w 24 [.int .i64 room, .slice (some ⟨b1, o1, none⟩) n c])
    clear hv hn h e2 e4 e5 ef hi hx hbb hc1 hc2 hc3
    go_enter Try.func16, Try.ntmps16
    go_wp2_with (go_at_call 31; (with_reducible refine (K1.out _ ((Bl.refl w).alloc _)).mono ?_); rintro e w1 ⟨rfl, hb1⟩; have G1 := Lib.hid (((Bl.refl w).alloc _).trans hb1); have Q1 := Lib.hid (B0.out.bl hb1); have k0 := Q1.out.cell 0 rfl; have k1 := Q1.out.cell 1 rfl; have d1 := HC.out w1 G1.out; clear hb1)
    go_ret2
    exact ⟨rfl, G1.out⟩
  · have e2 : ixv l.length (fnd l s) = -1 := by unfold ixv; rw [if_neg h]
    have e4 : rdD l s = ⟨#[]⟩ := by unfold rdD; rw [if_neg h]
    have e5 : rdE l s = 9 := by unfold rdE; rw [if_neg h]
    rw [e4, e5]
    rw [e2] at K1
    obtain ⟨A, c, rfl⟩ := fw_shape hv
    clear hv h e2 e4 e5 hn
    go_enter Try.func16, Try.ntmps16
    go_wp2_with (go_at_call 31; (with_reducible refine (K1.out _ ((Bl.refl w).alloc _)).mono ?_); rintro e w1 ⟨rfl, hb1⟩; have G1 := Lib.hid (((Bl.refl w).alloc _).trans hb1); clear hb1)
    go_ret2
    exact ⟨rfl, G1.out⟩
def fE (l : List Fl) (s : ByteArray) : Int := if fnd l s < l.length then 0 else 9
set_option maxRecDepth 100000 in
set_option maxHeartbeats 4000000 in
theorem pDelete_any (room : Int) (v : Value) (l : List Fl) (s : ByteArray) (w : World) (hv : Fw w v l) (hl : l.length < 1000000) :
    Calls Try.prog 22 #[.agg #[.int .i64 room, v], .string s] w (DkEnd w room (tkL l s) (fE l s)) := by
  have K1 := Lib.hid (fun W (g : Bl w W) => ptaken_any v l s W (hv.bl g) hl)
  have KH := Lib.hid (fun A n c B m k W => pholding_any room A B n c m k W)
  have HV := Lib.hid hv
  by_cases h : fnd l s < l.length
  · have e1 : tkB l s = true := decide_eq_true h
    have e2 : fE l s = 0 := by unfold fE; rw [if_pos h]
    rw [e2]
    unfold TkEnd at K1
    rw [e1] at K1
    obtain ⟨⟨fn, fd, fs⟩, ef⟩ : ∃ f, tkF l s = f := ⟨_, rfl⟩
    rw [ef] at K1
    dsimp only at K1
    obtain ⟨A, c, rfl⟩ := fw_shape hv
    have B0 := Lib.hid (two_at w 24 24 [.int .i64 room, .slice A l.length c] [.int .i64 0, .slice none 0 0])
    clear hv h e1 e2 hl ef
    go_enter Try.func22, Try.ntmps22
    go_wp2_with (first
      | (go_at_call 29; (with_reducible refine (K1.out _ (((Bl.refl w).alloc _).alloc _)).mono ?_); rintro e w1 ⟨u, rfl, hr, hb1, -⟩; obtain ⟨A1, c1, rfl⟩ := fw_shape hr; have R1 := Lib.hid hr; have G1 := Lib.hid ((((Bl.refl w).alloc _).alloc _).trans hb1); have Q1 := Lib.hid (B0.out.1.bl hb1); have P1 := Lib.hid (B0.out.2.bl hb1); have k0 := (Q1.out.alloc (.cells #[.string fn, .string fd, .string fs] 49)).cell 0 rfl; have k1 := (Q1.out.alloc (.cells #[.string fn, .string fd, .string fs] 49)).cell 1 rfl; clear hb1 hr)
      | (go_at_call 27; (with_reducible refine (KH.out _ _ _ _ _ _ _).mono ?_); rintro e w2 ⟨rfl, hb2⟩; have G2 := Lib.hid ((G1.out.alloc _).trans hb2); have R2 := Lib.hid ((R1.out.bl ((Bl.refl w1).alloc _)).bl hb2); have P2 := Lib.hid ((P1.out.alloc _).bl hb2); have m0 := P2.out.cell 0 rfl; have m1 := P2.out.cell 1 rfl; have f0 := P2.out.free 0; have f1 := P2.out.free 1; clear hb2))
    exact ret_dk rfl rfl rfl P2.out R2.out G2.out (Nat.le_succ _)
  · have e1 : tkB l s = false := decide_eq_false h
    have e2 : fE l s = 9 := by unfold fE; rw [if_neg h]
    have e3 : tkL l s = l := by unfold tkL; rw [if_neg h]
    rw [e2]
    unfold TkEnd at K1
    rw [e1, e3] at K1
    rw [e3]
    obtain ⟨⟨fn, fd, fs⟩, ef⟩ : ∃ f, tkF l s = f := ⟨_, rfl⟩
    rw [ef] at K1
    dsimp only at K1
    obtain ⟨A, c, rfl⟩ := fw_shape hv
    have B0 := Lib.hid (two_at w 24 24 [.int .i64 room, .slice A l.length c] [.int .i64 0, .slice none 0 0])
    clear hv h e1 e2 hl ef
    go_enter Try.func22, Try.ntmps22
    go_wp2_with (go_at_call 29; (with_reducible refine (K1.out _ (((Bl.refl w).alloc _).alloc _)).mono ?_); rintro e w1 ⟨u, rfl, hr, hb1, -⟩; obtain ⟨A1, c1, rfl⟩ := fw_shape hr; have G1 := Lib.hid ((((Bl.refl w).alloc _).alloc _).trans hb1); have Q1 := Lib.hid (B0.out.1.bl hb1); have P1 := Lib.hid ((B0.out.2.bl hb1).alloc (.cells #[.string fn, .string fd, .string fs] 49)); have k0 := (Q1.out.alloc (.cells #[.string fn, .string fd, .string fs] 49)).cell 0 rfl; have k1 := (Q1.out.alloc (.cells #[.string fn, .string fd, .string fs] 49)).cell 1 rfl; have m0 := P1.out.cell 0 rfl; have m1 := P1.out.cell 1 rfl; have f0 := P1.out.free 0; have f1 := P1.out.free 1; clear hb1 hr)
    exact ret_dk rfl rfl rfl P1.out (HV.out.bl (G1.out.alloc _)) (G1.out.alloc _) (Nat.le_succ _)
/-- What Sync leaves. -/
def syR (l : List Fl) (s : ByteArray) : List Fl := if fnd l s < l.length then syL l s else l
set_option maxRecDepth 100000 in
set_option maxHeartbeats 4000000 in
theorem pSync_any (room : Int) (v : Value) (l : List Fl) (s : ByteArray) (w : World) (hv : Fw w v l) (hl : l.length < 1000000) :
    Calls Try.prog 15 #[.agg #[.int .i64 room, v], .string s] w (DkEnd w room (syR l s) (fE l s)) := by
  have K1 := Lib.hid (fun W (g : Bl w W) => ptaken_any v l s W (hv.bl g) hl)
  have KH := Lib.hid (fun A n c B m k W => pholding_any room A B n c m k W)
  have HV := Lib.hid hv
  by_cases h : fnd l s < l.length
  · have e1 : tkB l s = true := decide_eq_true h
    have e2 : fE l s = 0 := by unfold fE; rw [if_pos h]
    have e3 : syR l s = ins (tkL l s) ⟨(tkF l s).n, (tkF l s).d, (tkF l s).d⟩ := by unfold syR syL; rw [if_pos h]
    rw [e2, e3]
    unfold TkEnd at K1
    rw [e1] at K1
    have hll : (tkL l s).length < 1000000 := Nat.lt_of_le_of_lt (tk_len l s) hl
    obtain ⟨⟨fn, fd, fs⟩, ef⟩ : ∃ f, tkF l s = f := ⟨_, rfl⟩
    obtain ⟨L, eL⟩ : ∃ L, tkL l s = L := ⟨_, rfl⟩
    rw [ef, eL] at K1
    rw [eL] at hll
    rw [ef, eL]
    dsimp only at K1 ⊢
    have KP := Lib.hid (fun u W (h : Fw W u L) => pput_any u L fn fd fd W h hll)
    obtain ⟨A, c, rfl⟩ := fw_shape hv
    have B0 := Lib.hid (two_at w 24 24 [.int .i64 room, .slice A l.length c] [.int .i64 0, .slice none 0 0])
    clear hv h e1 e2 e3 hl ef eL hll
    go_enter Try.func15, Try.ntmps15
    go_wp2_with (first
      | (go_at_call 29; (with_reducible refine (K1.out _ (((Bl.refl w).alloc _).alloc _)).mono ?_); rintro e w1 ⟨u, rfl, hr, hb1, -⟩; obtain ⟨A1, c1, rfl⟩ := fw_shape hr; have R1 := Lib.hid hr; have G1 := Lib.hid ((((Bl.refl w).alloc _).alloc _).trans hb1); have Q1 := Lib.hid (B0.out.1.bl hb1); have P1 := Lib.hid (B0.out.2.bl hb1); clear hb1 hr))
    have Q2 := Lib.hid ((Q1.out.alloc (.cells #[.string fn, .string fd, .string fd] 49)).drew)
    have P2 := Lib.hid ((P1.out.alloc (.cells #[.string fn, .string fd, .string fd] 49)).drew)
    have F2 := Lib.hid ((Bq.new w1 49 [.string fn, .string fd, .string fd]).drew)
    have R2 := Lib.hid ((R1.out.bl ((Bl.refl w1).alloc (.cells #[.string fn, .string fd, .string fd] 49))).bl (Bl.refl _).drew)
    have G2 := Lib.hid ((G1.out.alloc (.cells #[.string fn, .string fd, .string fd] 49)).drew)
    have k0 := Q2.out.cell 0 rfl
    have k1 := Q2.out.cell 1 rfl
    have k2 := F2.out.cell 0 rfl
    have k3 := F2.out.cell 1 rfl
    have k4 := F2.out.cell 2 rfl
    go_region_with (first
      | (go_at_call 30; (with_reducible refine (KP.out _ _ R2.out).mono ?_); rintro e w3 ⟨u3, rfl, ho, hb3⟩; have hf3 := ho.fw; obtain ⟨A3, c3, rfl⟩ := fw_shape hf3; have R3 := Lib.hid hf3; have G3 := Lib.hid (G2.out.trans hb3); have P3 := Lib.hid (P2.out.bl hb3); have q0 := (Q2.out.bl hb3).cell 0 rfl; have q1 := (Q2.out.bl hb3).cell 1 rfl)
      | (go_at_call 27; (with_reducible refine (KH.out _ _ _ _ _ _ _).mono ?_); rintro e w4 ⟨rfl, hb4⟩; have G4 := Lib.hid (G3.out.trans hb4); have R4 := Lib.hid (R3.out.bl hb4); have P4 := Lib.hid (P3.out.bl hb4); have m0 := P4.out.cell 0 rfl; have m1 := P4.out.cell 1 rfl; have f0 := P4.out.free 0; have f1 := P4.out.free 1))
    all_goals
      go_wp2
      exact ret_dk rfl rfl rfl P4.out R4.out G4.out (Nat.le_succ _)
  · have e1 : tkB l s = false := decide_eq_false h
    have e2 : fE l s = 9 := by unfold fE; rw [if_neg h]
    have e3 : tkL l s = l := by unfold tkL; rw [if_neg h]
    have e4 : syR l s = l := by unfold syR; rw [if_neg h]
    rw [e2, e4]
    unfold TkEnd at K1
    rw [e1, e3] at K1
    obtain ⟨⟨fn, fd, fs⟩, ef⟩ : ∃ f, tkF l s = f := ⟨_, rfl⟩
    rw [ef] at K1
    dsimp only at K1
    obtain ⟨A, c, rfl⟩ := fw_shape hv
    have B0 := Lib.hid (two_at w 24 24 [.int .i64 room, .slice A l.length c] [.int .i64 0, .slice none 0 0])
    clear hv h e1 e2 e3 e4 hl ef
    go_enter Try.func15, Try.ntmps15
    go_wp2_with (go_at_call 29; (with_reducible refine (K1.out _ (((Bl.refl w).alloc _).alloc _)).mono ?_); rintro e w1 ⟨u, rfl, hr, hb1, -⟩; obtain ⟨A1, c1, rfl⟩ := fw_shape hr; have G1 := Lib.hid ((((Bl.refl w).alloc _).alloc _).trans hb1); have Q1 := Lib.hid (B0.out.1.bl hb1); have P1 := Lib.hid ((B0.out.2.bl hb1).alloc (.cells #[.string fn, .string fd, .string fs] 49)); have k0 := (Q1.out.alloc (.cells #[.string fn, .string fd, .string fs] 49)).cell 0 rfl; have k1 := (Q1.out.alloc (.cells #[.string fn, .string fd, .string fs] 49)).cell 1 rfl; have m0 := P1.out.cell 0 rfl; have m1 := P1.out.cell 1 rfl; have f0 := P1.out.free 0; have f1 := P1.out.free 1; clear hb1 hr)
    exact ret_dk rfl rfl rfl P1.out (HV.out.bl (G1.out.alloc _)) (G1.out.alloc _) (Nat.le_succ _)
end Go.Proofs.Ytgbeflocojmhhaa
