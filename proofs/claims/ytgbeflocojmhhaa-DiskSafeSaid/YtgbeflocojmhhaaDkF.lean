/-
  Package disk: Write.
-/
import Derived.Test.YtgbeflocojmhhaaDkE
namespace Go.Proofs.Ytgbeflocojmhhaa
open Go.RowKit
set_option linter.unusedVariables false
set_option linter.unusedSimpArgs false

/-- What Write answers. -/
def wrFull (room : Int) (l : List Fl) (s data : ByteArray) : Bool := decide (64 < (wrL l s data).length) || decide (room < (used (wrL l s data) : Int))
def wrR (room : Int) (l : List Fl) (s data : ByteArray) : List Fl := if mayN s = true then (if wrFull room l s data = true then l else wrL l s data) else l
def wrE (room : Int) (l : List Fl) (s data : ByteArray) : Int := if mayN s = true then (if wrFull room l s data = true then 8 else 0) else 1
def HasF (w : World) (x : Value) (l : List Fl) : Prop := ∃ A c, x = .slice A l.length c ∧ Fw w x l
theorem HasF.mk {w : World} {x : Value} {l : List Fl} (h : Fw w x l) : HasF w x l := by
  obtain ⟨A, c, rfl⟩ := fw_shape h
  exact ⟨A, c, rfl, h⟩
theorem HasF.bl {w w' : World} {x : Value} {l : List Fl} (h : HasF w x l) (g : Bl w w') : HasF w' x l := by
  obtain ⟨A, c, e, h⟩ := h
  exact ⟨A, c, e, h.bl g⟩
def HasD (room : Int) (w : World) (x : Value) (l : List Fl) : Prop := ∃ A c, x = .agg #[.int .i64 room, .slice A l.length c] ∧ Fw w (.slice A l.length c) l
theorem HasD.bl {room : Int} {w w' : World} {x : Value} {l : List Fl} (h : HasD room w x l) (g : Bl w w') : HasD room w' x l := by
  obtain ⟨A, c, e, h⟩ := h
  exact ⟨A, c, e, h.bl g⟩
theorem HasF.st {w : World} {x : Value} {l : List Fl} {g : Nat} {r0 : Int} {A : Option Addr} {n c : Nat} (h : HasF w x l) (hb : Bq w g 24 [.int .i64 r0, .slice A n c]) (room : Int) (u : Value) : HasF (set2 w g room u) x l := by
  obtain ⟨A, c, e, h⟩ := h
  exact ⟨A, c, e, fw_set2 h hb room u⟩
theorem HasD.st {room' : Int} {w : World} {x : Value} {l : List Fl} {g : Nat} {r0 : Int} {A : Option Addr} {n c : Nat} (h : HasD room' w x l) (hb : Bq w g 24 [.int .i64 r0, .slice A n c]) (room : Int) (u : Value) : HasD room' (set2 w g room u) x l := by
  obtain ⟨A, c, e, h⟩ := h
  exact ⟨A, c, e, fw_set2 h hb room u⟩
def AllD (X w : World) (x : Value) : Prop := ∃ g, x = .pointer (some ⟨g, 0, none⟩) ∧ X.heap.size ≤ g ∧ Bq w g 24 [.int .i64 0, .slice none 0 0]
theorem AllD.bl {X w w' : World} {x : Value} (h : AllD X w x) (g : Bl w w') : AllD X w' x := by
  obtain ⟨b, e, h1, h2⟩ := h
  exact ⟨b, e, h1, h2.bl g⟩
/-- A disk in a box of its own. -/
def WrD (X : World) (room : Int) (l : List Fl) (w : World) (x : Value) : Prop := ∃ g A c, x = .pointer (some ⟨g, 0, none⟩) ∧ X.heap.size ≤ g ∧ Bq w g 24 [.int .i64 room, .slice A l.length c] ∧ Fw w (.slice A l.length c) l
theorem WrD.bl {X w w' : World} {room : Int} {l : List Fl} {x : Value} (h : WrD X room l w x) (g : Bl w w') : WrD X room l w' x := by
  obtain ⟨b, A, c, e, h1, h2, h3⟩ := h
  exact ⟨b, A, c, e, h1, h2.bl g, h3.bl g⟩
set_option maxRecDepth 100000 in
set_option maxHeartbeats 4000000 in
theorem pWrite_any (room : Int) (v : Value) (l : List Fl) (s data : ByteArray) (hs : s.size ≤ 140737488355328) (hd : data.size ≤ 140737488355328) (w : World) (hv : Fw w v l) (hl : l.length < 1000) (hz : Szs l) :
    Calls Try.prog 20 #[.agg #[.int .i64 room, v], .string s, .string data] w (DkEnd w room (wrR room l s data) (wrE room l s data)) := by
  have K1 := Lib.hid (fun W (g : Bl w W) => ptaken_any v l s W (hv.bl g) (by omega))
  have KH := Lib.hid (fun A n c B m k W => pholding_any room A B n c m k W)
  have KN := Lib.hid (fun W => pnameable_any s hs W)
  have HV := Lib.hid hv
  by_cases hm : mayN s = true
  · unfold TkEnd at K1
    have hll : (tkL l s).length < 1000000 := Nat.lt_of_le_of_lt (tk_len l s) (by omega)
    have hzw : Szs (wrL l s data) := by
      intro f hf
      rcases (ins_mem _ _ f).1 hf with rfl | hf
      · refine ⟨hs, hd, ?_⟩
        show (tkF l s).s.size ≤ _
        by_cases h : fnd l s < l.length
        · rw [tkF_at h]; exact (hz _ (List.getElem_mem h)).2.2
        · rw [tkF_no h]; exact Nat.zero_le _
      · unfold tkL at hf
        split at hf
        · exact hz f ((rem_sub l _).subset hf)
        · exact hz f hf
    have hlw : (wrL l s data).length ≤ 1000 := by unfold wrL; rw [ins_len]; have := tk_len l s; omega
    have KU := Lib.hid (fun u W (h : Fw W u (wrL l s data)) => pUsed_any room u _ W h hlw hzw)
    rw [hm] at KN
    have ew : ins (tkL l s) ⟨s, data, (tkF l s).s⟩ = wrL l s data := rfl
    have KP := Lib.hid (fun u W (h : Fw W u (tkL l s)) => pput_any u _ s data (tkF l s).s W h hll)
    rw [ew] at KP
    have hcase : (64 < (wrL l s data).length ∧ wrE room l s data = 8 ∧ wrR room l s data = l) ∨ (¬ 64 < (wrL l s data).length ∧ room < (used (wrL l s data) : Int) ∧ wrE room l s data = 8 ∧ wrR room l s data = l) ∨ (¬ 64 < (wrL l s data).length ∧ ¬ room < (used (wrL l s data) : Int) ∧ wrE room l s data = 0 ∧ wrR room l s data = wrL l s data) := by
      unfold wrE wrR
      rw [if_pos hm, if_pos hm]
      by_cases h1 : 64 < (wrL l s data).length
      · have hf : wrFull room l s data = true := by unfold wrFull; rw [decide_eq_true h1]; rfl
        left; exact ⟨h1, by rw [if_pos hf], by rw [if_pos hf]⟩
      · right
        by_cases h2 : room < (used (wrL l s data) : Int)
        · have hf : wrFull room l s data = true := by unfold wrFull; rw [decide_eq_true h2, Bool.or_true]
          left; exact ⟨h1, h2, by rw [if_pos hf], by rw [if_pos hf]⟩
        · have hf : ¬ wrFull room l s data = true := by unfold wrFull; rw [decide_eq_false h1, decide_eq_false h2]; decide
          right; exact ⟨h1, h2, by rw [if_neg hf], by rw [if_neg hf]⟩
    obtain ⟨N, eN⟩ : ∃ N, wrL l s data = N := ⟨_, rfl⟩
    rw [eN] at KP KU hlw hcase
    obtain ⟨⟨fn, fd, fs⟩, ef⟩ : ∃ f, tkF l s = f := ⟨_, rfl⟩
    obtain ⟨L, eL⟩ : ∃ L, tkL l s = L := ⟨_, rfl⟩
    obtain ⟨qb, eq⟩ : ∃ q, tkB l s = q := ⟨_, rfl⟩
    rw [ef, eL, eq] at K1
    rw [ef, eL] at KP
    dsimp only at K1 KP ⊢
    obtain ⟨A, c, rfl⟩ := fw_shape hv
    have B0 := Lib.hid (two_at w 24 24 [.int .i64 room, .slice A l.length c] [.int .i64 0, .slice none 0 0])
    have HLN := Lib.hid hlw
    clear hv hl ef eL hll hm hs hd hz hzw ew eN eq hlw
    rcases hcase with ⟨hc, e2, e3⟩ | ⟨hc, hc2, e2, e3⟩ | ⟨hc, hc2, e2, e3⟩
    · rw [e2, e3]
      have t1 : decide ((64 : Int) < (N.length : Int)) = true := decide_eq_true (by omega)
      clear e2 e3 hc
      go_enter Try.func20, Try.ntmps20
      go_wp2_with (first
        | (go_at_call 35; (with_reducible refine (KN.out _).mono ?_); rintro e w' ⟨rfl, rfl⟩)
        | (go_at_call 29; (with_reducible refine (K1.out _ (((Bl.refl w).alloc _).alloc _)).mono ?_); rintro e w1 ⟨u, rfl, hr, hb1, -⟩; obtain ⟨A1, c1, rfl⟩ := fw_shape hr; have R1 := Lib.hid hr; have G1 := Lib.hid ((((Bl.refl w).alloc _).alloc _).trans hb1); have Q1 := Lib.hid (B0.out.1.bl hb1); have P1 := Lib.hid (B0.out.2.bl hb1); clear hb1 hr))
      have Q2 := Lib.hid ((Q1.out.alloc (.cells #[.string fn, .string fd, .string fs] 49)))
      have P2 := Lib.hid ((P1.out.alloc (.cells #[.string fn, .string fd, .string fs] 49)))
      have F2 := Lib.hid ((Bq.new w1 49 [.string fn, .string fd, .string fs]))
      have R2 := Lib.hid ((R1.out.bl ((Bl.refl w1).alloc (.cells #[.string fn, .string fd, .string fs] 49))))
      have G2 := Lib.hid ((G1.out.alloc (.cells #[.string fn, .string fd, .string fs] 49)))
      clear K1
      obtain ⟨X, hX⟩ : ∃ X, w1.alloc (.cells #[.string fn, .string fd, .string fs] 49) = X := ⟨_, rfl⟩
      rw [hX] at Q2 P2 F2 R2 G2 ⊢
      have HX := Lib.hid (hX ▸ rfl : X.heap.size = (w1.alloc (.cells #[.string fn, .string fd, .string fs] 49)).heap.size)
      clear hX
      refine Code.wp_mono (Q := fun e a wr => match e with
        | .normal => ∃ x24 x25 x26 x27 x28 x29 x30 x31 x32 x11, a = { tmps := #[.agg #[.int .i64 room, .slice A l.length c], .string s, .string data, .pointer (some ⟨w.heap.size, 0, none⟩), undef, undef, .pointer (some ⟨w.heap.size + 1, 0, none⟩), .int .i64 0, .slice A1 L.length c1, .pointer (some ⟨w1.heap.size, 0, none⟩), .bool qb, x11, .string s, .bool true, .bool false, undef, .tuple #[.slice A1 L.length c1, .agg #[.string fn, .string fd, .string fs], .bool qb], .pointer (some ⟨w.heap.size, 1, none⟩), .slice A l.length c, .string s, .tuple #[.slice A1 L.length c1, .agg #[.string fn, .string fd, .string fs], .bool qb], .slice A1 L.length c1, .agg #[.string fn, .string fd, .string fs], .bool qb, x24, x25, x26, x27, x28, x29, x30, x31, x32, undef, undef, undef, undef, undef, undef, undef, undef, undef, undef, undef, undef, undef], defers := [] } ∧ Hid (Bl X wr) ∧ Hid (WrD X room N wr x11)
        | _ => False) ?_ ?_
      rotate_left
      · refine wp_region_inv2 (fun lg a wr => ∃ x24 x25 x26 x27 x28 x29 x30 x31 x32 x11, a = { tmps := #[.agg #[.int .i64 room, .slice A l.length c], .string s, .string data, .pointer (some ⟨w.heap.size, 0, none⟩), undef, undef, .pointer (some ⟨w.heap.size + 1, 0, none⟩), .int .i64 0, .slice A1 L.length c1, .pointer (some ⟨w1.heap.size, 0, none⟩), .bool qb, x11, .string s, .bool true, .bool false, undef, .tuple #[.slice A1 L.length c1, .agg #[.string fn, .string fd, .string fs], .bool qb], .pointer (some ⟨w.heap.size, 1, none⟩), .slice A l.length c, .string s, .tuple #[.slice A1 L.length c1, .agg #[.string fn, .string fd, .string fs], .bool qb], .slice A1 L.length c1, .agg #[.string fn, .string fd, .string fs], .bool qb, x24, x25, x26, x27, x28, x29, x30, x31, x32, undef, undef, undef, undef, undef, undef, undef, undef, undef, undef, undef, undef, undef], defers := [] } ∧ lg.size = 11 ∧ Bl X wr ∧ (On lg 0 → x24 = .agg #[.int .i64 room, .slice A l.length c]) ∧ (On lg 1 → x25 = .slice A1 L.length c1) ∧ (On lg 2 → x26 = .string s) ∧ (On lg 3 → x27 = .string data) ∧ (On lg 4 → x28 = .pointer (some ⟨w1.heap.size, 2, none⟩)) ∧ (On lg 5 → x29 = .string fs) ∧ (On lg 6 → x30 = .agg #[.string s, .string data, .string fs]) ∧ (On lg 7 → HasF wr x31 N) ∧ (On lg 8 → HasD room wr x32 N) ∧ (On lg 9 → ¬ On lg 10 → AllD X wr x11) ∧ (On lg 10 → On lg 9 ∧ WrD X room N wr x11)) (by kernel_rfl) ?_ ?_ ?_ (fun lg hl hr => all_done (by kernel_rfl) lg hl hr)
        · exact ⟨_, _, _, _, _, _, _, _, _, _, rfl, (by simp), (Bl.refl _).drew, (fun h => absurd h (by simp [On])), (fun h => absurd h (by simp [On])), (fun h => absurd h (by simp [On])), (fun h => absurd h (by simp [On])), (fun h => absurd h (by simp [On])), (fun h => absurd h (by simp [On])), (fun h => absurd h (by simp [On])), (fun h => absurd h (by simp [On])), (fun h => absurd h (by simp [On])), (fun h => absurd h (by simp [On])), (fun h => absurd h (by simp [On]))⟩
        · intro lg a wr i hI hno hi hdep
          obtain ⟨x24, x25, x26, x27, x28, x29, x30, x31, x32, x11, rfl, hl, hB, f0, f1, f2, f3, f4, f5, f6, f7, f8, f9, f10⟩ := hI
          have hi' : i < 11 := hi
          have hways : i = 0 ∨ i = 1 ∨ i = 2 ∨ i = 3 ∨ i = 4 ∨ i = 5 ∨ i = 6 ∨ i = 7 ∨ i = 8 ∨ i = 9 ∨ i = 10 := by omega
          rcases hways with rfl | rfl | rfl | rfl | rfl | rfl | rfl | rfl | rfl | rfl | rfl
          · refine wpOp_intro rfl rfl fun K' hK => ?_
            have k0 := (Q2.out.bl hB).cell 0 rfl
            have k1 := (Q2.out.bl hB).cell 1 rfl
            go_simp
            exact hK.out _ _ ⟨_, _, _, _, _, _, _, _, _, _, rfl, ((Array.size_setIfInBounds ..).trans hl), hB, fun _ => rfl, fun h => (f1 (h.of_set (by decide))), fun h => (f2 (h.of_set (by decide))), fun h => (f3 (h.of_set (by decide))), fun h => (f4 (h.of_set (by decide))), fun h => (f5 (h.of_set (by decide))), fun h => (f6 (h.of_set (by decide))), fun h => (f7 (h.of_set (by decide))), fun h => (f8 (h.of_set (by decide))), fun h hn => (f9 (h.of_set (by decide)) (fun k => hn k.keep)), fun h => ⟨(f10 (h.of_set (by decide))).1.keep, (f10 (h.of_set (by decide))).2⟩⟩
          · refine wpOp_intro rfl rfl fun K' hK => ?_
            go_simp
            exact hK.out _ _ ⟨_, _, _, _, _, _, _, _, _, _, rfl, ((Array.size_setIfInBounds ..).trans hl), hB, fun h => (f0 (h.of_set (by decide))), fun _ => rfl, fun h => (f2 (h.of_set (by decide))), fun h => (f3 (h.of_set (by decide))), fun h => (f4 (h.of_set (by decide))), fun h => (f5 (h.of_set (by decide))), fun h => (f6 (h.of_set (by decide))), fun h => (f7 (h.of_set (by decide))), fun h => (f8 (h.of_set (by decide))), fun h hn => (f9 (h.of_set (by decide)) (fun k => hn k.keep)), fun h => ⟨(f10 (h.of_set (by decide))).1.keep, (f10 (h.of_set (by decide))).2⟩⟩
          · refine wpOp_intro rfl rfl fun K' hK => ?_
            go_simp
            exact hK.out _ _ ⟨_, _, _, _, _, _, _, _, _, _, rfl, ((Array.size_setIfInBounds ..).trans hl), hB, fun h => (f0 (h.of_set (by decide))), fun h => (f1 (h.of_set (by decide))), fun _ => rfl, fun h => (f3 (h.of_set (by decide))), fun h => (f4 (h.of_set (by decide))), fun h => (f5 (h.of_set (by decide))), fun h => (f6 (h.of_set (by decide))), fun h => (f7 (h.of_set (by decide))), fun h => (f8 (h.of_set (by decide))), fun h hn => (f9 (h.of_set (by decide)) (fun k => hn k.keep)), fun h => ⟨(f10 (h.of_set (by decide))).1.keep, (f10 (h.of_set (by decide))).2⟩⟩
          · refine wpOp_intro rfl rfl fun K' hK => ?_
            go_simp
            exact hK.out _ _ ⟨_, _, _, _, _, _, _, _, _, _, rfl, ((Array.size_setIfInBounds ..).trans hl), hB, fun h => (f0 (h.of_set (by decide))), fun h => (f1 (h.of_set (by decide))), fun h => (f2 (h.of_set (by decide))), fun _ => rfl, fun h => (f4 (h.of_set (by decide))), fun h => (f5 (h.of_set (by decide))), fun h => (f6 (h.of_set (by decide))), fun h => (f7 (h.of_set (by decide))), fun h => (f8 (h.of_set (by decide))), fun h hn => (f9 (h.of_set (by decide)) (fun k => hn k.keep)), fun h => ⟨(f10 (h.of_set (by decide))).1.keep, (f10 (h.of_set (by decide))).2⟩⟩
          · refine wpOp_intro rfl rfl fun K' hK => ?_
            go_simp
            exact hK.out _ _ ⟨_, _, _, _, _, _, _, _, _, _, rfl, ((Array.size_setIfInBounds ..).trans hl), hB, fun h => (f0 (h.of_set (by decide))), fun h => (f1 (h.of_set (by decide))), fun h => (f2 (h.of_set (by decide))), fun h => (f3 (h.of_set (by decide))), fun _ => rfl, fun h => (f5 (h.of_set (by decide))), fun h => (f6 (h.of_set (by decide))), fun h => (f7 (h.of_set (by decide))), fun h => (f8 (h.of_set (by decide))), fun h hn => (f9 (h.of_set (by decide)) (fun k => hn k.keep)), fun h => ⟨(f10 (h.of_set (by decide))).1.keep, (f10 (h.of_set (by decide))).2⟩⟩
          · refine wpOp_intro rfl rfl fun K' hK => ?_
            have d4 := on_dep hdep 4 (by kernel_rfl)
            obtain rfl := f4 d4
            have k4 := (F2.out.bl hB).cell 2 rfl
            go_simp
            exact hK.out _ _ ⟨_, _, _, _, _, _, _, _, _, _, rfl, ((Array.size_setIfInBounds ..).trans hl), hB, fun h => (f0 (h.of_set (by decide))), fun h => (f1 (h.of_set (by decide))), fun h => (f2 (h.of_set (by decide))), fun h => (f3 (h.of_set (by decide))), fun h => (f4 (h.of_set (by decide))), fun _ => rfl, fun h => (f6 (h.of_set (by decide))), fun h => (f7 (h.of_set (by decide))), fun h => (f8 (h.of_set (by decide))), fun h hn => (f9 (h.of_set (by decide)) (fun k => hn k.keep)), fun h => ⟨(f10 (h.of_set (by decide))).1.keep, (f10 (h.of_set (by decide))).2⟩⟩
          · refine wpOp_intro rfl rfl fun K' hK => ?_
            have d2 := on_dep hdep 2 (by kernel_rfl)
            have d3 := on_dep hdep 3 (by kernel_rfl)
            have d5 := on_dep hdep 5 (by kernel_rfl)
            obtain rfl := f2 d2
            obtain rfl := f3 d3
            obtain rfl := f5 d5
            go_simp
            exact hK.out _ _ ⟨_, _, _, _, _, _, _, _, _, _, rfl, ((Array.size_setIfInBounds ..).trans hl), hB, fun h => (f0 (h.of_set (by decide))), fun h => (f1 (h.of_set (by decide))), fun h => (f2 (h.of_set (by decide))), fun h => (f3 (h.of_set (by decide))), fun h => (f4 (h.of_set (by decide))), fun h => (f5 (h.of_set (by decide))), fun _ => rfl, fun h => (f7 (h.of_set (by decide))), fun h => (f8 (h.of_set (by decide))), fun h hn => (f9 (h.of_set (by decide)) (fun k => hn k.keep)), fun h => ⟨(f10 (h.of_set (by decide))).1.keep, (f10 (h.of_set (by decide))).2⟩⟩
          · refine wpOp_intro rfl rfl fun K' hK => ?_
            have d1 := on_dep hdep 1 (by kernel_rfl)
            have d6 := on_dep hdep 6 (by kernel_rfl)
            obtain rfl := f1 d1
            obtain rfl := f6 d6
            go_simp
            refine (KP.out _ _ (R2.out.bl hB)).mono ?_
            rintro e w' ⟨v', rfl, ho, hb⟩
            exact hK.out _ _ ⟨_, _, _, _, _, _, _, _, _, _, rfl, ((Array.size_setIfInBounds ..).trans hl), hB.trans hb, fun h => (f0 (h.of_set (by decide))), fun h => (f1 (h.of_set (by decide))), fun h => (f2 (h.of_set (by decide))), fun h => (f3 (h.of_set (by decide))), fun h => (f4 (h.of_set (by decide))), fun h => (f5 (h.of_set (by decide))), fun h => (f6 (h.of_set (by decide))), fun _ => HasF.mk ho.fw, fun h => (f8 (h.of_set (by decide))).bl hb, fun h hn => (f9 (h.of_set (by decide)) (fun k => hn k.keep)).bl hb, fun h => ⟨(f10 (h.of_set (by decide))).1.keep, (f10 (h.of_set (by decide))).2.bl hb⟩⟩
          · refine wpOp_intro rfl rfl fun K' hK => ?_
            have d0 := on_dep hdep 0 (by kernel_rfl)
            have d7 := on_dep hdep 7 (by kernel_rfl)
            obtain rfl := f0 d0
            obtain ⟨A3, c3, rfl, hf3⟩ := f7 d7
            go_simp
            refine (KH.out _ _ _ _ _ _ _).mono ?_
            rintro e w' ⟨rfl, hb⟩
            exact hK.out _ _ ⟨_, _, _, _, _, _, _, _, _, _, rfl, ((Array.size_setIfInBounds ..).trans hl), hB.trans hb, fun h => (f0 (h.of_set (by decide))), fun h => (f1 (h.of_set (by decide))), fun h => (f2 (h.of_set (by decide))), fun h => (f3 (h.of_set (by decide))), fun h => (f4 (h.of_set (by decide))), fun h => (f5 (h.of_set (by decide))), fun h => (f6 (h.of_set (by decide))), fun h => (f7 (h.of_set (by decide))).bl hb, fun _ => ⟨_, _, rfl, hf3.bl hb⟩, fun h hn => (f9 (h.of_set (by decide)) (fun k => hn k.keep)).bl hb, fun h => ⟨(f10 (h.of_set (by decide))).1.keep, (f10 (h.of_set (by decide))).2.bl hb⟩⟩
          · refine wpOp_intro rfl rfl fun K' hK => ?_
            go_simp
            exact hK.out _ _ ⟨_, _, _, _, _, _, _, _, _, _, rfl, ((Array.size_setIfInBounds ..).trans hl), hB.trans ((Bl.refl _).alloc _), fun h => (f0 (h.of_set (by decide))), fun h => (f1 (h.of_set (by decide))), fun h => (f2 (h.of_set (by decide))), fun h => (f3 (h.of_set (by decide))), fun h => (f4 (h.of_set (by decide))), fun h => (f5 (h.of_set (by decide))), fun h => (f6 (h.of_set (by decide))), fun h => (f7 (h.of_set (by decide))).bl ((Bl.refl _).alloc _), fun h => (f8 (h.of_set (by decide))).bl ((Bl.refl _).alloc _), fun _ _ => ⟨_, rfl, hB.size, Bq.new _ _ _⟩, fun h => absurd (f10 (h.of_set (by decide))).1 hno⟩
          · refine wpOp_intro rfl rfl fun K' hK => ?_
            have d8 := on_dep hdep 8 (by kernel_rfl)
            have d9 := on_dep hdep 9 (by kernel_rfl)
            obtain ⟨A4, c4, rfl, hf4⟩ := f8 d8
            obtain ⟨g, rfl, hg, hq⟩ := f9 d9 hno
            have k0 := hq.cell 0 rfl
            have k1 := hq.cell 1 rfl
            have g0 := hq.free 0
            have g1 := hq.free 1
            go_simp
            exact hK.out _ _ ⟨_, _, _, _, _, _, _, _, _, _, rfl, ((Array.size_setIfInBounds ..).trans hl), (set2_bl hB hg _ _), fun h => (f0 (h.of_set (by decide))), fun h => (f1 (h.of_set (by decide))), fun h => (f2 (h.of_set (by decide))), fun h => (f3 (h.of_set (by decide))), fun h => (f4 (h.of_set (by decide))), fun h => (f5 (h.of_set (by decide))), fun h => (f6 (h.of_set (by decide))), fun h => (f7 (h.of_set (by decide))).st hq room (.slice A4 N.length c4), fun h => (f8 (h.of_set (by decide))).st hq room (.slice A4 N.length c4), fun _ h => absurd (on_self hi' hl) h, fun _ => ⟨d9.keep, ⟨g, A4, c4, rfl, hg, set2_at hq room _, fw_set2 hf4 hq room _⟩⟩⟩
        · intro lg a wr hI hall
          obtain ⟨x24, x25, x26, x27, x28, x29, x30, x31, x32, x11, rfl, hl, hB, f0, f1, f2, f3, f4, f5, f6, f7, f8, f9, f10⟩ := hI
          exact ⟨_, _, _, _, _, _, _, _, _, _, rfl, hB, (f10 (hall 10 (by decide))).2⟩
      intro e a wr h
      cases e <;> first | exact h.elim | skip
      obtain ⟨x24, x25, x26, x27, x28, x29, x30, x31, x32, x11, rfl, hB, hD⟩ := h
      obtain ⟨g, A5, c5, rfl, hg, hq, hf⟩ := hD.out
      try dsimp only
      have Q3 := Lib.hid (Q2.out.bl hB.out)
      have P3 := Lib.hid (P2.out.bl hB.out)
      have G3 := Lib.hid (G2.out.trans hB.out)
      have HQ := Lib.hid hq
      have HFN := Lib.hid hf
      clear hD hg hq KP KH KN hB Q2 P2 F2 R2 G2
      have q0 := Q3.out.cell 0 rfl
      have q1 := Q3.out.cell 1 rfl
      have n0 := HQ.out.cell 0 rfl
      have n1 := HQ.out.cell 1 rfl
      have m0 := P3.out.cell 0 rfl
      have m1 := P3.out.cell 1 rfl
      have f0 := P3.out.free 0
      have f1 := P3.out.free 1
      go_wp2
      go_quiet (fail)
      go_wp2
      exact ret_dk rfl rfl rfl (P3.out.drewN _) (HV.out.bl (G3.out.drewN _)) (G3.out.drewN _) (Nat.le_succ _)
    · rw [e2, e3]
      have t1 : decide ((64 : Int) < (N.length : Int)) = false := decide_eq_false (by omega)
      have t2 : decide (room < (used N : Int)) = true := decide_eq_true hc2
      clear e2 e3 hc hc2
      go_enter Try.func20, Try.ntmps20
      go_wp2_with (first
        | (go_at_call 35; (with_reducible refine (KN.out _).mono ?_); rintro e w' ⟨rfl, rfl⟩)
        | (go_at_call 29; (with_reducible refine (K1.out _ (((Bl.refl w).alloc _).alloc _)).mono ?_); rintro e w1 ⟨u, rfl, hr, hb1, -⟩; obtain ⟨A1, c1, rfl⟩ := fw_shape hr; have R1 := Lib.hid hr; have G1 := Lib.hid ((((Bl.refl w).alloc _).alloc _).trans hb1); have Q1 := Lib.hid (B0.out.1.bl hb1); have P1 := Lib.hid (B0.out.2.bl hb1); clear hb1 hr))
      have Q2 := Lib.hid ((Q1.out.alloc (.cells #[.string fn, .string fd, .string fs] 49)))
      have P2 := Lib.hid ((P1.out.alloc (.cells #[.string fn, .string fd, .string fs] 49)))
      have F2 := Lib.hid ((Bq.new w1 49 [.string fn, .string fd, .string fs]))
      have R2 := Lib.hid ((R1.out.bl ((Bl.refl w1).alloc (.cells #[.string fn, .string fd, .string fs] 49))))
      have G2 := Lib.hid ((G1.out.alloc (.cells #[.string fn, .string fd, .string fs] 49)))
      clear K1
      obtain ⟨X, hX⟩ : ∃ X, w1.alloc (.cells #[.string fn, .string fd, .string fs] 49) = X := ⟨_, rfl⟩
      rw [hX] at Q2 P2 F2 R2 G2 ⊢
      have HX := Lib.hid (hX ▸ rfl : X.heap.size = (w1.alloc (.cells #[.string fn, .string fd, .string fs] 49)).heap.size)
      clear hX
      refine Code.wp_mono (Q := fun e a wr => match e with
        | .normal => ∃ x24 x25 x26 x27 x28 x29 x30 x31 x32 x11, a = { tmps := #[.agg #[.int .i64 room, .slice A l.length c], .string s, .string data, .pointer (some ⟨w.heap.size, 0, none⟩), undef, undef, .pointer (some ⟨w.heap.size + 1, 0, none⟩), .int .i64 0, .slice A1 L.length c1, .pointer (some ⟨w1.heap.size, 0, none⟩), .bool qb, x11, .string s, .bool true, .bool false, undef, .tuple #[.slice A1 L.length c1, .agg #[.string fn, .string fd, .string fs], .bool qb], .pointer (some ⟨w.heap.size, 1, none⟩), .slice A l.length c, .string s, .tuple #[.slice A1 L.length c1, .agg #[.string fn, .string fd, .string fs], .bool qb], .slice A1 L.length c1, .agg #[.string fn, .string fd, .string fs], .bool qb, x24, x25, x26, x27, x28, x29, x30, x31, x32, undef, undef, undef, undef, undef, undef, undef, undef, undef, undef, undef, undef, undef], defers := [] } ∧ Hid (Bl X wr) ∧ Hid (WrD X room N wr x11)
        | _ => False) ?_ ?_
      rotate_left
      · refine wp_region_inv2 (fun lg a wr => ∃ x24 x25 x26 x27 x28 x29 x30 x31 x32 x11, a = { tmps := #[.agg #[.int .i64 room, .slice A l.length c], .string s, .string data, .pointer (some ⟨w.heap.size, 0, none⟩), undef, undef, .pointer (some ⟨w.heap.size + 1, 0, none⟩), .int .i64 0, .slice A1 L.length c1, .pointer (some ⟨w1.heap.size, 0, none⟩), .bool qb, x11, .string s, .bool true, .bool false, undef, .tuple #[.slice A1 L.length c1, .agg #[.string fn, .string fd, .string fs], .bool qb], .pointer (some ⟨w.heap.size, 1, none⟩), .slice A l.length c, .string s, .tuple #[.slice A1 L.length c1, .agg #[.string fn, .string fd, .string fs], .bool qb], .slice A1 L.length c1, .agg #[.string fn, .string fd, .string fs], .bool qb, x24, x25, x26, x27, x28, x29, x30, x31, x32, undef, undef, undef, undef, undef, undef, undef, undef, undef, undef, undef, undef, undef], defers := [] } ∧ lg.size = 11 ∧ Bl X wr ∧ (On lg 0 → x24 = .agg #[.int .i64 room, .slice A l.length c]) ∧ (On lg 1 → x25 = .slice A1 L.length c1) ∧ (On lg 2 → x26 = .string s) ∧ (On lg 3 → x27 = .string data) ∧ (On lg 4 → x28 = .pointer (some ⟨w1.heap.size, 2, none⟩)) ∧ (On lg 5 → x29 = .string fs) ∧ (On lg 6 → x30 = .agg #[.string s, .string data, .string fs]) ∧ (On lg 7 → HasF wr x31 N) ∧ (On lg 8 → HasD room wr x32 N) ∧ (On lg 9 → ¬ On lg 10 → AllD X wr x11) ∧ (On lg 10 → On lg 9 ∧ WrD X room N wr x11)) (by kernel_rfl) ?_ ?_ ?_ (fun lg hl hr => all_done (by kernel_rfl) lg hl hr)
        · exact ⟨_, _, _, _, _, _, _, _, _, _, rfl, (by simp), (Bl.refl _).drew, (fun h => absurd h (by simp [On])), (fun h => absurd h (by simp [On])), (fun h => absurd h (by simp [On])), (fun h => absurd h (by simp [On])), (fun h => absurd h (by simp [On])), (fun h => absurd h (by simp [On])), (fun h => absurd h (by simp [On])), (fun h => absurd h (by simp [On])), (fun h => absurd h (by simp [On])), (fun h => absurd h (by simp [On])), (fun h => absurd h (by simp [On]))⟩
        · intro lg a wr i hI hno hi hdep
          obtain ⟨x24, x25, x26, x27, x28, x29, x30, x31, x32, x11, rfl, hl, hB, f0, f1, f2, f3, f4, f5, f6, f7, f8, f9, f10⟩ := hI
          have hi' : i < 11 := hi
          have hways : i = 0 ∨ i = 1 ∨ i = 2 ∨ i = 3 ∨ i = 4 ∨ i = 5 ∨ i = 6 ∨ i = 7 ∨ i = 8 ∨ i = 9 ∨ i = 10 := by omega
          rcases hways with rfl | rfl | rfl | rfl | rfl | rfl | rfl | rfl | rfl | rfl | rfl
          · refine wpOp_intro rfl rfl fun K' hK => ?_
            have k0 := (Q2.out.bl hB).cell 0 rfl
            have k1 := (Q2.out.bl hB).cell 1 rfl
            go_simp
            exact hK.out _ _ ⟨_, _, _, _, _, _, _, _, _, _, rfl, ((Array.size_setIfInBounds ..).trans hl), hB, fun _ => rfl, fun h => (f1 (h.of_set (by decide))), fun h => (f2 (h.of_set (by decide))), fun h => (f3 (h.of_set (by decide))), fun h => (f4 (h.of_set (by decide))), fun h => (f5 (h.of_set (by decide))), fun h => (f6 (h.of_set (by decide))), fun h => (f7 (h.of_set (by decide))), fun h => (f8 (h.of_set (by decide))), fun h hn => (f9 (h.of_set (by decide)) (fun k => hn k.keep)), fun h => ⟨(f10 (h.of_set (by decide))).1.keep, (f10 (h.of_set (by decide))).2⟩⟩
          · refine wpOp_intro rfl rfl fun K' hK => ?_
            go_simp
            exact hK.out _ _ ⟨_, _, _, _, _, _, _, _, _, _, rfl, ((Array.size_setIfInBounds ..).trans hl), hB, fun h => (f0 (h.of_set (by decide))), fun _ => rfl, fun h => (f2 (h.of_set (by decide))), fun h => (f3 (h.of_set (by decide))), fun h => (f4 (h.of_set (by decide))), fun h => (f5 (h.of_set (by decide))), fun h => (f6 (h.of_set (by decide))), fun h => (f7 (h.of_set (by decide))), fun h => (f8 (h.of_set (by decide))), fun h hn => (f9 (h.of_set (by decide)) (fun k => hn k.keep)), fun h => ⟨(f10 (h.of_set (by decide))).1.keep, (f10 (h.of_set (by decide))).2⟩⟩
          · refine wpOp_intro rfl rfl fun K' hK => ?_
            go_simp
            exact hK.out _ _ ⟨_, _, _, _, _, _, _, _, _, _, rfl, ((Array.size_setIfInBounds ..).trans hl), hB, fun h => (f0 (h.of_set (by decide))), fun h => (f1 (h.of_set (by decide))), fun _ => rfl, fun h => (f3 (h.of_set (by decide))), fun h => (f4 (h.of_set (by decide))), fun h => (f5 (h.of_set (by decide))), fun h => (f6 (h.of_set (by decide))), fun h => (f7 (h.of_set (by decide))), fun h => (f8 (h.of_set (by decide))), fun h hn => (f9 (h.of_set (by decide)) (fun k => hn k.keep)), fun h => ⟨(f10 (h.of_set (by decide))).1.keep, (f10 (h.of_set (by decide))).2⟩⟩
          · refine wpOp_intro rfl rfl fun K' hK => ?_
            go_simp
            exact hK.out _ _ ⟨_, _, _, _, _, _, _, _, _, _, rfl, ((Array.size_setIfInBounds ..).trans hl), hB, fun h => (f0 (h.of_set (by decide))), fun h => (f1 (h.of_set (by decide))), fun h => (f2 (h.of_set (by decide))), fun _ => rfl, fun h => (f4 (h.of_set (by decide))), fun h => (f5 (h.of_set (by decide))), fun h => (f6 (h.of_set (by decide))), fun h => (f7 (h.of_set (by decide))), fun h => (f8 (h.of_set (by decide))), fun h hn => (f9 (h.of_set (by decide)) (fun k => hn k.keep)), fun h => ⟨(f10 (h.of_set (by decide))).1.keep, (f10 (h.of_set (by decide))).2⟩⟩
          · refine wpOp_intro rfl rfl fun K' hK => ?_
            go_simp
            exact hK.out _ _ ⟨_, _, _, _, _, _, _, _, _, _, rfl, ((Array.size_setIfInBounds ..).trans hl), hB, fun h => (f0 (h.of_set (by decide))), fun h => (f1 (h.of_set (by decide))), fun h => (f2 (h.of_set (by decide))), fun h => (f3 (h.of_set (by decide))), fun _ => rfl, fun h => (f5 (h.of_set (by decide))), fun h => (f6 (h.of_set (by decide))), fun h => (f7 (h.of_set (by decide))), fun h => (f8 (h.of_set (by decide))), fun h hn => (f9 (h.of_set (by decide)) (fun k => hn k.keep)), fun h => ⟨(f10 (h.of_set (by decide))).1.keep, (f10 (h.of_set (by decide))).2⟩⟩
          · refine wpOp_intro rfl rfl fun K' hK => ?_
            have d4 := on_dep hdep 4 (by kernel_rfl)
            obtain rfl := f4 d4
            have k4 := (F2.out.bl hB).cell 2 rfl
            go_simp
            exact hK.out _ _ ⟨_, _, _, _, _, _, _, _, _, _, rfl, ((Array.size_setIfInBounds ..).trans hl), hB, fun h => (f0 (h.of_set (by decide))), fun h => (f1 (h.of_set (by decide))), fun h => (f2 (h.of_set (by decide))), fun h => (f3 (h.of_set (by decide))), fun h => (f4 (h.of_set (by decide))), fun _ => rfl, fun h => (f6 (h.of_set (by decide))), fun h => (f7 (h.of_set (by decide))), fun h => (f8 (h.of_set (by decide))), fun h hn => (f9 (h.of_set (by decide)) (fun k => hn k.keep)), fun h => ⟨(f10 (h.of_set (by decide))).1.keep, (f10 (h.of_set (by decide))).2⟩⟩
          · refine wpOp_intro rfl rfl fun K' hK => ?_
            have d2 := on_dep hdep 2 (by kernel_rfl)
            have d3 := on_dep hdep 3 (by kernel_rfl)
            have d5 := on_dep hdep 5 (by kernel_rfl)
            obtain rfl := f2 d2
            obtain rfl := f3 d3
            obtain rfl := f5 d5
            go_simp
            exact hK.out _ _ ⟨_, _, _, _, _, _, _, _, _, _, rfl, ((Array.size_setIfInBounds ..).trans hl), hB, fun h => (f0 (h.of_set (by decide))), fun h => (f1 (h.of_set (by decide))), fun h => (f2 (h.of_set (by decide))), fun h => (f3 (h.of_set (by decide))), fun h => (f4 (h.of_set (by decide))), fun h => (f5 (h.of_set (by decide))), fun _ => rfl, fun h => (f7 (h.of_set (by decide))), fun h => (f8 (h.of_set (by decide))), fun h hn => (f9 (h.of_set (by decide)) (fun k => hn k.keep)), fun h => ⟨(f10 (h.of_set (by decide))).1.keep, (f10 (h.of_set (by decide))).2⟩⟩
          · refine wpOp_intro rfl rfl fun K' hK => ?_
            have d1 := on_dep hdep 1 (by kernel_rfl)
            have d6 := on_dep hdep 6 (by kernel_rfl)
            obtain rfl := f1 d1
            obtain rfl := f6 d6
            go_simp
            refine (KP.out _ _ (R2.out.bl hB)).mono ?_
            rintro e w' ⟨v', rfl, ho, hb⟩
            exact hK.out _ _ ⟨_, _, _, _, _, _, _, _, _, _, rfl, ((Array.size_setIfInBounds ..).trans hl), hB.trans hb, fun h => (f0 (h.of_set (by decide))), fun h => (f1 (h.of_set (by decide))), fun h => (f2 (h.of_set (by decide))), fun h => (f3 (h.of_set (by decide))), fun h => (f4 (h.of_set (by decide))), fun h => (f5 (h.of_set (by decide))), fun h => (f6 (h.of_set (by decide))), fun _ => HasF.mk ho.fw, fun h => (f8 (h.of_set (by decide))).bl hb, fun h hn => (f9 (h.of_set (by decide)) (fun k => hn k.keep)).bl hb, fun h => ⟨(f10 (h.of_set (by decide))).1.keep, (f10 (h.of_set (by decide))).2.bl hb⟩⟩
          · refine wpOp_intro rfl rfl fun K' hK => ?_
            have d0 := on_dep hdep 0 (by kernel_rfl)
            have d7 := on_dep hdep 7 (by kernel_rfl)
            obtain rfl := f0 d0
            obtain ⟨A3, c3, rfl, hf3⟩ := f7 d7
            go_simp
            refine (KH.out _ _ _ _ _ _ _).mono ?_
            rintro e w' ⟨rfl, hb⟩
            exact hK.out _ _ ⟨_, _, _, _, _, _, _, _, _, _, rfl, ((Array.size_setIfInBounds ..).trans hl), hB.trans hb, fun h => (f0 (h.of_set (by decide))), fun h => (f1 (h.of_set (by decide))), fun h => (f2 (h.of_set (by decide))), fun h => (f3 (h.of_set (by decide))), fun h => (f4 (h.of_set (by decide))), fun h => (f5 (h.of_set (by decide))), fun h => (f6 (h.of_set (by decide))), fun h => (f7 (h.of_set (by decide))).bl hb, fun _ => ⟨_, _, rfl, hf3.bl hb⟩, fun h hn => (f9 (h.of_set (by decide)) (fun k => hn k.keep)).bl hb, fun h => ⟨(f10 (h.of_set (by decide))).1.keep, (f10 (h.of_set (by decide))).2.bl hb⟩⟩
          · refine wpOp_intro rfl rfl fun K' hK => ?_
            go_simp
            exact hK.out _ _ ⟨_, _, _, _, _, _, _, _, _, _, rfl, ((Array.size_setIfInBounds ..).trans hl), hB.trans ((Bl.refl _).alloc _), fun h => (f0 (h.of_set (by decide))), fun h => (f1 (h.of_set (by decide))), fun h => (f2 (h.of_set (by decide))), fun h => (f3 (h.of_set (by decide))), fun h => (f4 (h.of_set (by decide))), fun h => (f5 (h.of_set (by decide))), fun h => (f6 (h.of_set (by decide))), fun h => (f7 (h.of_set (by decide))).bl ((Bl.refl _).alloc _), fun h => (f8 (h.of_set (by decide))).bl ((Bl.refl _).alloc _), fun _ _ => ⟨_, rfl, hB.size, Bq.new _ _ _⟩, fun h => absurd (f10 (h.of_set (by decide))).1 hno⟩
          · refine wpOp_intro rfl rfl fun K' hK => ?_
            have d8 := on_dep hdep 8 (by kernel_rfl)
            have d9 := on_dep hdep 9 (by kernel_rfl)
            obtain ⟨A4, c4, rfl, hf4⟩ := f8 d8
            obtain ⟨g, rfl, hg, hq⟩ := f9 d9 hno
            have k0 := hq.cell 0 rfl
            have k1 := hq.cell 1 rfl
            have g0 := hq.free 0
            have g1 := hq.free 1
            go_simp
            exact hK.out _ _ ⟨_, _, _, _, _, _, _, _, _, _, rfl, ((Array.size_setIfInBounds ..).trans hl), (set2_bl hB hg _ _), fun h => (f0 (h.of_set (by decide))), fun h => (f1 (h.of_set (by decide))), fun h => (f2 (h.of_set (by decide))), fun h => (f3 (h.of_set (by decide))), fun h => (f4 (h.of_set (by decide))), fun h => (f5 (h.of_set (by decide))), fun h => (f6 (h.of_set (by decide))), fun h => (f7 (h.of_set (by decide))).st hq room (.slice A4 N.length c4), fun h => (f8 (h.of_set (by decide))).st hq room (.slice A4 N.length c4), fun _ h => absurd (on_self hi' hl) h, fun _ => ⟨d9.keep, ⟨g, A4, c4, rfl, hg, set2_at hq room _, fw_set2 hf4 hq room _⟩⟩⟩
        · intro lg a wr hI hall
          obtain ⟨x24, x25, x26, x27, x28, x29, x30, x31, x32, x11, rfl, hl, hB, f0, f1, f2, f3, f4, f5, f6, f7, f8, f9, f10⟩ := hI
          exact ⟨_, _, _, _, _, _, _, _, _, _, rfl, hB, (f10 (hall 10 (by decide))).2⟩
      intro e a wr h
      cases e <;> first | exact h.elim | skip
      obtain ⟨x24, x25, x26, x27, x28, x29, x30, x31, x32, x11, rfl, hB, hD⟩ := h
      obtain ⟨g, A5, c5, rfl, hg, hq, hf⟩ := hD.out
      try dsimp only
      have Q3 := Lib.hid (Q2.out.bl hB.out)
      have P3 := Lib.hid (P2.out.bl hB.out)
      have G3 := Lib.hid (G2.out.trans hB.out)
      have HQ := Lib.hid hq
      have HFN := Lib.hid hf
      clear hD hg hq KP KH KN hB Q2 P2 F2 R2 G2
      have q0 := Q3.out.cell 0 rfl
      have q1 := Q3.out.cell 1 rfl
      have n0 := HQ.out.cell 0 rfl
      have n1 := HQ.out.cell 1 rfl
      have HFD := Lib.hid (hf.bl (Bl.refl _).drew)
      clear hf
      go_wp2
      go_region_with (go_at_call 23; (with_reducible refine (KU.out _ _ HFD.out).mono ?_); rintro e w5 ⟨rfl, hb5⟩; have G5 := Lib.hid (G3.out.drew.trans hb5); have Q5 := Lib.hid (Q3.out.drew.bl hb5); have P5 := Lib.hid (P3.out.drew.bl hb5); have HQ5 := Lib.hid (HQ.out.drew.bl hb5); have q2 := Q5.out.cell 0 rfl; have q3 := Q5.out.cell 1 rfl; have n2 := HQ5.out.cell 0 rfl; have n3 := HQ5.out.cell 1 rfl; have m0 := P5.out.cell 0 rfl; have m1 := P5.out.cell 1 rfl; have f0 := P5.out.free 0; have f1 := P5.out.free 1; have R5 := Lib.hid (HFD.out.bl hb5))
      all_goals go_wp2
      all_goals exact ret_dk rfl rfl rfl P5.out (HV.out.bl G5.out) G5.out (Nat.le_succ _)
    · rw [e2, e3]
      have t1 : decide ((64 : Int) < (N.length : Int)) = false := decide_eq_false (by omega)
      have t2 : decide (room < (used N : Int)) = false := decide_eq_false hc2
      clear e2 e3 hc hc2
      go_enter Try.func20, Try.ntmps20
      go_wp2_with (first
        | (go_at_call 35; (with_reducible refine (KN.out _).mono ?_); rintro e w' ⟨rfl, rfl⟩)
        | (go_at_call 29; (with_reducible refine (K1.out _ (((Bl.refl w).alloc _).alloc _)).mono ?_); rintro e w1 ⟨u, rfl, hr, hb1, -⟩; obtain ⟨A1, c1, rfl⟩ := fw_shape hr; have R1 := Lib.hid hr; have G1 := Lib.hid ((((Bl.refl w).alloc _).alloc _).trans hb1); have Q1 := Lib.hid (B0.out.1.bl hb1); have P1 := Lib.hid (B0.out.2.bl hb1); clear hb1 hr))
      have Q2 := Lib.hid ((Q1.out.alloc (.cells #[.string fn, .string fd, .string fs] 49)))
      have P2 := Lib.hid ((P1.out.alloc (.cells #[.string fn, .string fd, .string fs] 49)))
      have F2 := Lib.hid ((Bq.new w1 49 [.string fn, .string fd, .string fs]))
      have R2 := Lib.hid ((R1.out.bl ((Bl.refl w1).alloc (.cells #[.string fn, .string fd, .string fs] 49))))
      have G2 := Lib.hid ((G1.out.alloc (.cells #[.string fn, .string fd, .string fs] 49)))
      clear K1
      obtain ⟨X, hX⟩ : ∃ X, w1.alloc (.cells #[.string fn, .string fd, .string fs] 49) = X := ⟨_, rfl⟩
      rw [hX] at Q2 P2 F2 R2 G2 ⊢
      have HX := Lib.hid (hX ▸ rfl : X.heap.size = (w1.alloc (.cells #[.string fn, .string fd, .string fs] 49)).heap.size)
      clear hX
      refine Code.wp_mono (Q := fun e a wr => match e with
        | .normal => ∃ x24 x25 x26 x27 x28 x29 x30 x31 x32 x11, a = { tmps := #[.agg #[.int .i64 room, .slice A l.length c], .string s, .string data, .pointer (some ⟨w.heap.size, 0, none⟩), undef, undef, .pointer (some ⟨w.heap.size + 1, 0, none⟩), .int .i64 0, .slice A1 L.length c1, .pointer (some ⟨w1.heap.size, 0, none⟩), .bool qb, x11, .string s, .bool true, .bool false, undef, .tuple #[.slice A1 L.length c1, .agg #[.string fn, .string fd, .string fs], .bool qb], .pointer (some ⟨w.heap.size, 1, none⟩), .slice A l.length c, .string s, .tuple #[.slice A1 L.length c1, .agg #[.string fn, .string fd, .string fs], .bool qb], .slice A1 L.length c1, .agg #[.string fn, .string fd, .string fs], .bool qb, x24, x25, x26, x27, x28, x29, x30, x31, x32, undef, undef, undef, undef, undef, undef, undef, undef, undef, undef, undef, undef, undef], defers := [] } ∧ Hid (Bl X wr) ∧ Hid (WrD X room N wr x11)
        | _ => False) ?_ ?_
      rotate_left
      · refine wp_region_inv2 (fun lg a wr => ∃ x24 x25 x26 x27 x28 x29 x30 x31 x32 x11, a = { tmps := #[.agg #[.int .i64 room, .slice A l.length c], .string s, .string data, .pointer (some ⟨w.heap.size, 0, none⟩), undef, undef, .pointer (some ⟨w.heap.size + 1, 0, none⟩), .int .i64 0, .slice A1 L.length c1, .pointer (some ⟨w1.heap.size, 0, none⟩), .bool qb, x11, .string s, .bool true, .bool false, undef, .tuple #[.slice A1 L.length c1, .agg #[.string fn, .string fd, .string fs], .bool qb], .pointer (some ⟨w.heap.size, 1, none⟩), .slice A l.length c, .string s, .tuple #[.slice A1 L.length c1, .agg #[.string fn, .string fd, .string fs], .bool qb], .slice A1 L.length c1, .agg #[.string fn, .string fd, .string fs], .bool qb, x24, x25, x26, x27, x28, x29, x30, x31, x32, undef, undef, undef, undef, undef, undef, undef, undef, undef, undef, undef, undef, undef], defers := [] } ∧ lg.size = 11 ∧ Bl X wr ∧ (On lg 0 → x24 = .agg #[.int .i64 room, .slice A l.length c]) ∧ (On lg 1 → x25 = .slice A1 L.length c1) ∧ (On lg 2 → x26 = .string s) ∧ (On lg 3 → x27 = .string data) ∧ (On lg 4 → x28 = .pointer (some ⟨w1.heap.size, 2, none⟩)) ∧ (On lg 5 → x29 = .string fs) ∧ (On lg 6 → x30 = .agg #[.string s, .string data, .string fs]) ∧ (On lg 7 → HasF wr x31 N) ∧ (On lg 8 → HasD room wr x32 N) ∧ (On lg 9 → ¬ On lg 10 → AllD X wr x11) ∧ (On lg 10 → On lg 9 ∧ WrD X room N wr x11)) (by kernel_rfl) ?_ ?_ ?_ (fun lg hl hr => all_done (by kernel_rfl) lg hl hr)
        · exact ⟨_, _, _, _, _, _, _, _, _, _, rfl, (by simp), (Bl.refl _).drew, (fun h => absurd h (by simp [On])), (fun h => absurd h (by simp [On])), (fun h => absurd h (by simp [On])), (fun h => absurd h (by simp [On])), (fun h => absurd h (by simp [On])), (fun h => absurd h (by simp [On])), (fun h => absurd h (by simp [On])), (fun h => absurd h (by simp [On])), (fun h => absurd h (by simp [On])), (fun h => absurd h (by simp [On])), (fun h => absurd h (by simp [On]))⟩
        · intro lg a wr i hI hno hi hdep
          obtain ⟨x24, x25, x26, x27, x28, x29, x30, x31, x32, x11, rfl, hl, hB, f0, f1, f2, f3, f4, f5, f6, f7, f8, f9, f10⟩ := hI
          have hi' : i < 11 := hi
          have hways : i = 0 ∨ i = 1 ∨ i = 2 ∨ i = 3 ∨ i = 4 ∨ i = 5 ∨ i = 6 ∨ i = 7 ∨ i = 8 ∨ i = 9 ∨ i = 10 := by omega
          rcases hways with rfl | rfl | rfl | rfl | rfl | rfl | rfl | rfl | rfl | rfl | rfl
          · refine wpOp_intro rfl rfl fun K' hK => ?_
            have k0 := (Q2.out.bl hB).cell 0 rfl
            have k1 := (Q2.out.bl hB).cell 1 rfl
            go_simp
            exact hK.out _ _ ⟨_, _, _, _, _, _, _, _, _, _, rfl, ((Array.size_setIfInBounds ..).trans hl), hB, fun _ => rfl, fun h => (f1 (h.of_set (by decide))), fun h => (f2 (h.of_set (by decide))), fun h => (f3 (h.of_set (by decide))), fun h => (f4 (h.of_set (by decide))), fun h => (f5 (h.of_set (by decide))), fun h => (f6 (h.of_set (by decide))), fun h => (f7 (h.of_set (by decide))), fun h => (f8 (h.of_set (by decide))), fun h hn => (f9 (h.of_set (by decide)) (fun k => hn k.keep)), fun h => ⟨(f10 (h.of_set (by decide))).1.keep, (f10 (h.of_set (by decide))).2⟩⟩
          · refine wpOp_intro rfl rfl fun K' hK => ?_
            go_simp
            exact hK.out _ _ ⟨_, _, _, _, _, _, _, _, _, _, rfl, ((Array.size_setIfInBounds ..).trans hl), hB, fun h => (f0 (h.of_set (by decide))), fun _ => rfl, fun h => (f2 (h.of_set (by decide))), fun h => (f3 (h.of_set (by decide))), fun h => (f4 (h.of_set (by decide))), fun h => (f5 (h.of_set (by decide))), fun h => (f6 (h.of_set (by decide))), fun h => (f7 (h.of_set (by decide))), fun h => (f8 (h.of_set (by decide))), fun h hn => (f9 (h.of_set (by decide)) (fun k => hn k.keep)), fun h => ⟨(f10 (h.of_set (by decide))).1.keep, (f10 (h.of_set (by decide))).2⟩⟩
          · refine wpOp_intro rfl rfl fun K' hK => ?_
            go_simp
            exact hK.out _ _ ⟨_, _, _, _, _, _, _, _, _, _, rfl, ((Array.size_setIfInBounds ..).trans hl), hB, fun h => (f0 (h.of_set (by decide))), fun h => (f1 (h.of_set (by decide))), fun _ => rfl, fun h => (f3 (h.of_set (by decide))), fun h => (f4 (h.of_set (by decide))), fun h => (f5 (h.of_set (by decide))), fun h => (f6 (h.of_set (by decide))), fun h => (f7 (h.of_set (by decide))), fun h => (f8 (h.of_set (by decide))), fun h hn => (f9 (h.of_set (by decide)) (fun k => hn k.keep)), fun h => ⟨(f10 (h.of_set (by decide))).1.keep, (f10 (h.of_set (by decide))).2⟩⟩
          · refine wpOp_intro rfl rfl fun K' hK => ?_
            go_simp
            exact hK.out _ _ ⟨_, _, _, _, _, _, _, _, _, _, rfl, ((Array.size_setIfInBounds ..).trans hl), hB, fun h => (f0 (h.of_set (by decide))), fun h => (f1 (h.of_set (by decide))), fun h => (f2 (h.of_set (by decide))), fun _ => rfl, fun h => (f4 (h.of_set (by decide))), fun h => (f5 (h.of_set (by decide))), fun h => (f6 (h.of_set (by decide))), fun h => (f7 (h.of_set (by decide))), fun h => (f8 (h.of_set (by decide))), fun h hn => (f9 (h.of_set (by decide)) (fun k => hn k.keep)), fun h => ⟨(f10 (h.of_set (by decide))).1.keep, (f10 (h.of_set (by decide))).2⟩⟩
          · refine wpOp_intro rfl rfl fun K' hK => ?_
            go_simp
            exact hK.out _ _ ⟨_, _, _, _, _, _, _, _, _, _, rfl, ((Array.size_setIfInBounds ..).trans hl), hB, fun h => (f0 (h.of_set (by decide))), fun h => (f1 (h.of_set (by decide))), fun h => (f2 (h.of_set (by decide))), fun h => (f3 (h.of_set (by decide))), fun _ => rfl, fun h => (f5 (h.of_set (by decide))), fun h => (f6 (h.of_set (by decide))), fun h => (f7 (h.of_set (by decide))), fun h => (f8 (h.of_set (by decide))), fun h hn => (f9 (h.of_set (by decide)) (fun k => hn k.keep)), fun h => ⟨(f10 (h.of_set (by decide))).1.keep, (f10 (h.of_set (by decide))).2⟩⟩
          · refine wpOp_intro rfl rfl fun K' hK => ?_
            have d4 := on_dep hdep 4 (by kernel_rfl)
            obtain rfl := f4 d4
            have k4 := (F2.out.bl hB).cell 2 rfl
            go_simp
            exact hK.out _ _ ⟨_, _, _, _, _, _, _, _, _, _, rfl, ((Array.size_setIfInBounds ..).trans hl), hB, fun h => (f0 (h.of_set (by decide))), fun h => (f1 (h.of_set (by decide))), fun h => (f2 (h.of_set (by decide))), fun h => (f3 (h.of_set (by decide))), fun h => (f4 (h.of_set (by decide))), fun _ => rfl, fun h => (f6 (h.of_set (by decide))), fun h => (f7 (h.of_set (by decide))), fun h => (f8 (h.of_set (by decide))), fun h hn => (f9 (h.of_set (by decide)) (fun k => hn k.keep)), fun h => ⟨(f10 (h.of_set (by decide))).1.keep, (f10 (h.of_set (by decide))).2⟩⟩
          · refine wpOp_intro rfl rfl fun K' hK => ?_
            have d2 := on_dep hdep 2 (by kernel_rfl)
            have d3 := on_dep hdep 3 (by kernel_rfl)
            have d5 := on_dep hdep 5 (by kernel_rfl)
            obtain rfl := f2 d2
            obtain rfl := f3 d3
            obtain rfl := f5 d5
            go_simp
            exact hK.out _ _ ⟨_, _, _, _, _, _, _, _, _, _, rfl, ((Array.size_setIfInBounds ..).trans hl), hB, fun h => (f0 (h.of_set (by decide))), fun h => (f1 (h.of_set (by decide))), fun h => (f2 (h.of_set (by decide))), fun h => (f3 (h.of_set (by decide))), fun h => (f4 (h.of_set (by decide))), fun h => (f5 (h.of_set (by decide))), fun _ => rfl, fun h => (f7 (h.of_set (by decide))), fun h => (f8 (h.of_set (by decide))), fun h hn => (f9 (h.of_set (by decide)) (fun k => hn k.keep)), fun h => ⟨(f10 (h.of_set (by decide))).1.keep, (f10 (h.of_set (by decide))).2⟩⟩
          · refine wpOp_intro rfl rfl fun K' hK => ?_
            have d1 := on_dep hdep 1 (by kernel_rfl)
            have d6 := on_dep hdep 6 (by kernel_rfl)
            obtain rfl := f1 d1
            obtain rfl := f6 d6
            go_simp
            refine (KP.out _ _ (R2.out.bl hB)).mono ?_
            rintro e w' ⟨v', rfl, ho, hb⟩
            exact hK.out _ _ ⟨_, _, _, _, _, _, _, _, _, _, rfl, ((Array.size_setIfInBounds ..).trans hl), hB.trans hb, fun h => (f0 (h.of_set (by decide))), fun h => (f1 (h.of_set (by decide))), fun h => (f2 (h.of_set (by decide))), fun h => (f3 (h.of_set (by decide))), fun h => (f4 (h.of_set (by decide))), fun h => (f5 (h.of_set (by decide))), fun h => (f6 (h.of_set (by decide))), fun _ => HasF.mk ho.fw, fun h => (f8 (h.of_set (by decide))).bl hb, fun h hn => (f9 (h.of_set (by decide)) (fun k => hn k.keep)).bl hb, fun h => ⟨(f10 (h.of_set (by decide))).1.keep, (f10 (h.of_set (by decide))).2.bl hb⟩⟩
          · refine wpOp_intro rfl rfl fun K' hK => ?_
            have d0 := on_dep hdep 0 (by kernel_rfl)
            have d7 := on_dep hdep 7 (by kernel_rfl)
            obtain rfl := f0 d0
            obtain ⟨A3, c3, rfl, hf3⟩ := f7 d7
            go_simp
            refine (KH.out _ _ _ _ _ _ _).mono ?_
            rintro e w' ⟨rfl, hb⟩
            exact hK.out _ _ ⟨_, _, _, _, _, _, _, _, _, _, rfl, ((Array.size_setIfInBounds ..).trans hl), hB.trans hb, fun h => (f0 (h.of_set (by decide))), fun h => (f1 (h.of_set (by decide))), fun h => (f2 (h.of_set (by decide))), fun h => (f3 (h.of_set (by decide))), fun h => (f4 (h.of_set (by decide))), fun h => (f5 (h.of_set (by decide))), fun h => (f6 (h.of_set (by decide))), fun h => (f7 (h.of_set (by decide))).bl hb, fun _ => ⟨_, _, rfl, hf3.bl hb⟩, fun h hn => (f9 (h.of_set (by decide)) (fun k => hn k.keep)).bl hb, fun h => ⟨(f10 (h.of_set (by decide))).1.keep, (f10 (h.of_set (by decide))).2.bl hb⟩⟩
          · refine wpOp_intro rfl rfl fun K' hK => ?_
            go_simp
            exact hK.out _ _ ⟨_, _, _, _, _, _, _, _, _, _, rfl, ((Array.size_setIfInBounds ..).trans hl), hB.trans ((Bl.refl _).alloc _), fun h => (f0 (h.of_set (by decide))), fun h => (f1 (h.of_set (by decide))), fun h => (f2 (h.of_set (by decide))), fun h => (f3 (h.of_set (by decide))), fun h => (f4 (h.of_set (by decide))), fun h => (f5 (h.of_set (by decide))), fun h => (f6 (h.of_set (by decide))), fun h => (f7 (h.of_set (by decide))).bl ((Bl.refl _).alloc _), fun h => (f8 (h.of_set (by decide))).bl ((Bl.refl _).alloc _), fun _ _ => ⟨_, rfl, hB.size, Bq.new _ _ _⟩, fun h => absurd (f10 (h.of_set (by decide))).1 hno⟩
          · refine wpOp_intro rfl rfl fun K' hK => ?_
            have d8 := on_dep hdep 8 (by kernel_rfl)
            have d9 := on_dep hdep 9 (by kernel_rfl)
            obtain ⟨A4, c4, rfl, hf4⟩ := f8 d8
            obtain ⟨g, rfl, hg, hq⟩ := f9 d9 hno
            have k0 := hq.cell 0 rfl
            have k1 := hq.cell 1 rfl
            have g0 := hq.free 0
            have g1 := hq.free 1
            go_simp
            exact hK.out _ _ ⟨_, _, _, _, _, _, _, _, _, _, rfl, ((Array.size_setIfInBounds ..).trans hl), (set2_bl hB hg _ _), fun h => (f0 (h.of_set (by decide))), fun h => (f1 (h.of_set (by decide))), fun h => (f2 (h.of_set (by decide))), fun h => (f3 (h.of_set (by decide))), fun h => (f4 (h.of_set (by decide))), fun h => (f5 (h.of_set (by decide))), fun h => (f6 (h.of_set (by decide))), fun h => (f7 (h.of_set (by decide))).st hq room (.slice A4 N.length c4), fun h => (f8 (h.of_set (by decide))).st hq room (.slice A4 N.length c4), fun _ h => absurd (on_self hi' hl) h, fun _ => ⟨d9.keep, ⟨g, A4, c4, rfl, hg, set2_at hq room _, fw_set2 hf4 hq room _⟩⟩⟩
        · intro lg a wr hI hall
          obtain ⟨x24, x25, x26, x27, x28, x29, x30, x31, x32, x11, rfl, hl, hB, f0, f1, f2, f3, f4, f5, f6, f7, f8, f9, f10⟩ := hI
          exact ⟨_, _, _, _, _, _, _, _, _, _, rfl, hB, (f10 (hall 10 (by decide))).2⟩
      intro e a wr h
      cases e <;> first | exact h.elim | skip
      obtain ⟨x24, x25, x26, x27, x28, x29, x30, x31, x32, x11, rfl, hB, hD⟩ := h
      obtain ⟨g, A5, c5, rfl, hg, hq, hf⟩ := hD.out
      try dsimp only
      have Q3 := Lib.hid (Q2.out.bl hB.out)
      have P3 := Lib.hid (P2.out.bl hB.out)
      have G3 := Lib.hid (G2.out.trans hB.out)
      have HQ := Lib.hid hq
      have HFN := Lib.hid hf
      clear hD hg hq KP KH KN hB Q2 P2 F2 R2 G2
      have q0 := Q3.out.cell 0 rfl
      have q1 := Q3.out.cell 1 rfl
      have n0 := HQ.out.cell 0 rfl
      have n1 := HQ.out.cell 1 rfl
      have HFD := Lib.hid (hf.bl (Bl.refl _).drew)
      clear hf
      go_wp2
      go_region_with (go_at_call 23; (with_reducible refine (KU.out _ _ HFD.out).mono ?_); rintro e w5 ⟨rfl, hb5⟩; have G5 := Lib.hid (G3.out.drew.trans hb5); have Q5 := Lib.hid (Q3.out.drew.bl hb5); have P5 := Lib.hid (P3.out.drew.bl hb5); have HQ5 := Lib.hid (HQ.out.drew.bl hb5); have q2 := Q5.out.cell 0 rfl; have q3 := Q5.out.cell 1 rfl; have n2 := HQ5.out.cell 0 rfl; have n3 := HQ5.out.cell 1 rfl; have m0 := P5.out.cell 0 rfl; have m1 := P5.out.cell 1 rfl; have f0 := P5.out.free 0; have f1 := P5.out.free 1; have R5 := Lib.hid (HFD.out.bl hb5))
      all_goals go_wp2
      all_goals exact ret_dk rfl rfl rfl P5.out R5.out G5.out (Nat.le_succ _)
  · have hm' : mayN s = false := by simpa using hm
    have e2 : wrE room l s data = 1 := by unfold wrE; rw [if_neg hm]
    have e3 : wrR room l s data = l := by unfold wrR; rw [if_neg hm]
    rw [e2, e3]
    rw [hm'] at KN
    obtain ⟨A, c, rfl⟩ := fw_shape hv
    clear e2 e3 hl hm hm' hs hd hz
    go_enter Try.func20, Try.ntmps20
    go_wp2_with (go_at_call 35; (with_reducible refine (KN.out _).mono ?_); rintro e w' ⟨rfl, rfl⟩)
    exact bodyPost_ret (ret_disk2 rfl rfl rfl (two_at w 24 24 [.int .i64 room, .slice A l.length c] [.int .i64 room, .slice A l.length c]).2) rfl (DkEnd.mk (HV.out.bl (((Bl.refl w).alloc _).alloc _)) (((Bl.refl w).alloc _).alloc _))
end Go.Proofs.Ytgbeflocojmhhaa
