/-
  Package crc: decoded (printed by gen/csi.py).
-/
import Derived.Test.YtdaglbjdgdokpaaDoorPk28
namespace Go.Proofs.YtdaglbjdgdokpaaDoor
open Go.RowKit
set_option linter.unusedVariables false
set_option linter.unusedSimpArgs false

theorem Bq.put {w : World} {b g : Nat} {t : TypeId} {cs : List Value} (h : Bq w b t cs) (hne : g ≠ b) (i : Nat) (v : Value) : Bq (w.setCell ⟨g, i, none⟩ v) b t cs := h.oth i v hne
theorem St.rw {w w' : World} {bC bS bF n : Nat} {s : List Nat} (h : St w bC bS bF s n) (g : Ex bS bF w w') {v : Value} {l : List Nat} (hr : Rw .u64 w v l) : Rw .u64 w' v l := by
  obtain ⟨u, h1, h2⟩ := h.err
  refine rw_ex hr g h.left h1 (fun z e => by cases e) (fun z e => ?_)
  rcases h2 with ⟨_, rfl⟩ | ⟨_, s, rfl⟩ <;> cases e
theorem nilC_eq : nilC.toArray = #[.int .i64 0, .int .i64 0, .int .i64 0, .int .i64 0, .int .i64 0, .slice none 0 0, .slice none 0 0, .slice none 0 0, .bool false] := rfl
set_option maxRecDepth 100000 in
set_option maxHeartbeats 8000000 in
theorem pdecoded_any (s : List Nat) (ha : All 256 s) (hl : s.length ≤ 281474976710656) (w : World) :
    Calls Tryd.prog 45 #[.string (bs s)] w (DcEnd w (tkBody s)) := by
  rcases h1 : numE 1 0 s with ⟨c, n1, s1⟩
  rcases h2 : numE 4 n1 s1 with ⟨d, n2, s2⟩
  rcases h3 : numE 4 n2 s2 with ⟨g, n3, s3⟩
  rcases h4 : numE 4 n3 s3 with ⟨f, n4, s4⟩
  rcases h5 : numE 4 n4 s4 with ⟨t, n5, s5⟩
  rcases h6 : numE 1 n5 s5 with ⟨m, n6, s6⟩
  have KN := Lib.hid (fun (k : Nat) (kk : Int) (hkk : kk = (k : Int)) (hk : k ≤ 8) (fl : ByteArray) n z W (hW : St W (w.heap.size + 1 + 1 + 1) w.heap.size (w.heap.size + 1 + 1) z n) => pnumber_any k kk hkk hk fl (w.heap.size + 1 + 1 + 1) w.heap.size (w.heap.size + 1 + 1) n z W hW)
  have K1 : Hid (∀ (fl : ByteArray) (W : World), St W (w.heap.size + 1 + 1 + 1) w.heap.size (w.heap.size + 1 + 1) s 0 → Calls Tryd.prog 59 #[.int .i64 1, .string fl, .pointer (some ⟨(w.heap.size + 1 + 1 + 1), 0, none⟩), .pointer (some ⟨w.heap.size, 0, none⟩)] W (NmEnd W (w.heap.size + 1 + 1 + 1) w.heap.size (w.heap.size + 1 + 1) (c, n1, s1))) := fun fl W hW => by
    have c0 := KN.out 1 1 rfl (by decide) fl _ _ W hW
    rw [h1] at c0
    exact c0
  have K2 : Hid (∀ (fl : ByteArray) (W : World), St W (w.heap.size + 1 + 1 + 1) w.heap.size (w.heap.size + 1 + 1) s1 n1 → Calls Tryd.prog 59 #[.int .i64 4, .string fl, .pointer (some ⟨(w.heap.size + 1 + 1 + 1), 0, none⟩), .pointer (some ⟨w.heap.size, 0, none⟩)] W (NmEnd W (w.heap.size + 1 + 1 + 1) w.heap.size (w.heap.size + 1 + 1) (d, n2, s2))) := fun fl W hW => by
    have c0 := KN.out 4 4 rfl (by decide) fl _ _ W hW
    rw [h2] at c0
    exact c0
  have K3 : Hid (∀ (fl : ByteArray) (W : World), St W (w.heap.size + 1 + 1 + 1) w.heap.size (w.heap.size + 1 + 1) s2 n2 → Calls Tryd.prog 59 #[.int .i64 4, .string fl, .pointer (some ⟨(w.heap.size + 1 + 1 + 1), 0, none⟩), .pointer (some ⟨w.heap.size, 0, none⟩)] W (NmEnd W (w.heap.size + 1 + 1 + 1) w.heap.size (w.heap.size + 1 + 1) (g, n3, s3))) := fun fl W hW => by
    have c0 := KN.out 4 4 rfl (by decide) fl _ _ W hW
    rw [h3] at c0
    exact c0
  have K4 : Hid (∀ (fl : ByteArray) (W : World), St W (w.heap.size + 1 + 1 + 1) w.heap.size (w.heap.size + 1 + 1) s3 n3 → Calls Tryd.prog 59 #[.int .i64 4, .string fl, .pointer (some ⟨(w.heap.size + 1 + 1 + 1), 0, none⟩), .pointer (some ⟨w.heap.size, 0, none⟩)] W (NmEnd W (w.heap.size + 1 + 1 + 1) w.heap.size (w.heap.size + 1 + 1) (f, n4, s4))) := fun fl W hW => by
    have c0 := KN.out 4 4 rfl (by decide) fl _ _ W hW
    rw [h4] at c0
    exact c0
  have K5 : Hid (∀ (fl : ByteArray) (W : World), St W (w.heap.size + 1 + 1 + 1) w.heap.size (w.heap.size + 1 + 1) s4 n4 → Calls Tryd.prog 59 #[.int .i64 4, .string fl, .pointer (some ⟨(w.heap.size + 1 + 1 + 1), 0, none⟩), .pointer (some ⟨w.heap.size, 0, none⟩)] W (NmEnd W (w.heap.size + 1 + 1 + 1) w.heap.size (w.heap.size + 1 + 1) (t, n5, s5))) := fun fl W hW => by
    have c0 := KN.out 4 4 rfl (by decide) fl _ _ W hW
    rw [h5] at c0
    exact c0
  have K6 : Hid (∀ (fl : ByteArray) (W : World), St W (w.heap.size + 1 + 1 + 1) w.heap.size (w.heap.size + 1 + 1) s5 n5 → Calls Tryd.prog 59 #[.int .i64 1, .string fl, .pointer (some ⟨(w.heap.size + 1 + 1 + 1), 0, none⟩), .pointer (some ⟨w.heap.size, 0, none⟩)] W (NmEnd W (w.heap.size + 1 + 1 + 1) w.heap.size (w.heap.size + 1 + 1) (m, n6, s6))) := fun fl W hW => by
    have c0 := KN.out 1 1 rfl (by decide) fl _ _ W hW
    rw [h6] at c0
    exact c0
  have A1 := all_num (k := 1) ha h1
  have A2 := all_num (k := 4) A1.1 h2
  have A3 := all_num (k := 4) A2.1 h3
  have A4 := all_num (k := 4) A3.1 h4
  have A5 := all_num (k := 4) A4.1 h5
  have A6 := all_num (k := 1) A5.1 h6
  have z1 := A1.2
  have z2 := A2.2
  have z3 := A3.2
  have z4 := A4.2
  have z5 := A5.2
  have z6 := A6.2
  rw [show (256 : Nat) ^ 1 = 256 by decide] at z1 z6
  rw [w4] at z2 z3 z4 z5
  have wr1 : IntKind.i64.wrap (c : Int) = (c : Int) := IntWalk.i64_in _ (by omega)
  have bb1 : (c : Int) ≤ 4294967295 := by omega
  have wr2 : IntKind.i64.wrap (d : Int) = (d : Int) := IntWalk.i64_in _ (by omega)
  have bb2 : (d : Int) ≤ 4294967295 := by omega
  have wr3 : IntKind.i64.wrap (g : Int) = (g : Int) := IntWalk.i64_in _ (by omega)
  have bb3 : (g : Int) ≤ 4294967295 := by omega
  have wr4 : IntKind.i64.wrap (f : Int) = (f : Int) := IntWalk.i64_in _ (by omega)
  have bb4 : (f : Int) ≤ 4294967295 := by omega
  have wr5 : IntKind.i64.wrap (t : Int) = (t : Int) := IntWalk.i64_in _ (by omega)
  have bb5 : (t : Int) ≤ 4294967295 := by omega
  have bb6 : (m : Int) ≤ 255 := by omega
  obtain ⟨ok, eok⟩ : ∃ ok, decide (m ≤ 1) = ok := ⟨_, rfl⟩
  obtain ⟨mb, emb⟩ : ∃ ok, decide (m = 1) = ok := ⟨_, rfl⟩
  have t0 : decide ((m : Int) ≤ 1) = ok := by rw [← eok]; exact decide_eq_decide.2 (by omega)
  have t1 : ((m : Int) == 1) = mb := by
    rw [← emb]
    by_cases hm : m = 1
    · subst hm; rfl
    · rw [decide_eq_false hm, beq_eq_false_iff_ne]; omega
  have KC := Lib.hid (fun (ok : Bool) (fl : ByteArray) (e : Nat) (ee : Int) (hee : ee = (e : Int)) n W (he : e ≠ 0) (hW : Er W (w.heap.size + 1 + 1) n) => pcheck_any ok fl e ee hee n (w.heap.size + 1 + 1) he W hW)
  have KC6 : Hid (∀ (ok : Bool) (fl : ByteArray) n W, Er W (w.heap.size + 1 + 1) n → Calls Tryd.prog 58 #[.bool ok, .string fl, .int .i64 6, .pointer (some ⟨(w.heap.size + 1 + 1), 0, none⟩)] W (CkEnd W (w.heap.size + 1 + 1) (ckE ok 6 n))) := fun ok fl n W h => KC.out ok fl 6 6 rfl n W (by decide) h
  have KC1 : Hid (∀ (ok : Bool) (fl : ByteArray) n W, Er W (w.heap.size + 1 + 1) n → Calls Tryd.prog 58 #[.bool ok, .string fl, .int .i64 1, .pointer (some ⟨(w.heap.size + 1 + 1), 0, none⟩)] W (CkEnd W (w.heap.size + 1 + 1) (ckE ok 1 n))) := fun ok fl n W h => KC.out ok fl 1 1 rfl n W (by decide) h
  have KW : Hid (∀ (fl : ByteArray) n z W, St W (w.heap.size + 1 + 1 + 1) w.heap.size (w.heap.size + 1 + 1) z n → NumB W (w.heap.size + 1 + 1 + 1 + 1) (w.heap.size + 1 + 1 + 1) w.heap.size → Calls Tryd.prog 60 #[.string fl, .pointer (some ⟨(w.heap.size + 1 + 1 + 1 + 1), 0, none⟩), .pointer (some ⟨(w.heap.size + 1 + 1 + 1), 0, none⟩)] W (WdEnd W (w.heap.size + 1 + 1 + 1) w.heap.size (w.heap.size + 1 + 1) z n)) := fun fl n z W h h' => pcwords_any fl (w.heap.size + 1 + 1 + 1 + 1) (w.heap.size + 1 + 1 + 1) w.heap.size (w.heap.size + 1 + 1) n z W h h' (by omega) (by omega)
  have HX := Lib.hid (fun l1 n8 s8 l2 n9 s9 l3 n10 s10 w1 w2 w3 r hr => decoded_is (l1 := l1) (l2 := l2) (l3 := l3) (n8 := n8) (n9 := n9) (n10 := n10) (s8 := s8) (s9 := s9) (s10 := s10) h1 h2 h3 h4 h5 h6 w1 w2 w3 r hr)
  rw [eok, emb] at HX
  obtain ⟨X, eX⟩ : ∃ X, tkBody s = X := ⟨_, rfl⟩
  rw [eX] at HX ⊢
  clear h1 h2 h3 h4 h5 h6 eX eok emb A1 A2 A3 A4 A5 A6 z1 z2 z3 z4 z5 z6
  obtain ⟨V, eV⟩ : ∃ V, V = ((((((w.alloc (.cells #[.string (bs s)] 9)).alloc (.cells #[.int .i64 0, .int .i64 0, .int .i64 0, .int .i64 0, .int .i64 0, .slice none 0 0, .slice none 0 0, .slice none 0 0, .bool false] 62)).alloc (.cells #[.nilIface] 72)).alloc (.cells #[.func (.func 58) #[] #[.pointer (some ⟨(w.heap.size + 1 + 1), 0, none⟩)]] 115)).alloc (.cells #[.func (.func 59) #[] #[.pointer (some ⟨(w.heap.size + 1 + 1 + 1), 0, none⟩), .pointer (some ⟨w.heap.size, 0, none⟩)]] 116)).alloc (.cells #[.int .i64 0, .int .i64 0, .int .i64 0, .int .i64 0, .int .i64 0, .slice none 0 0, .slice none 0 0, .slice none 0 0, .bool false] 62)) := ⟨_, rfl⟩
  have S0 : Hid (St ((((((w.alloc (.cells #[.string (bs s)] 9)).alloc (.cells #[.int .i64 0, .int .i64 0, .int .i64 0, .int .i64 0, .int .i64 0, .slice none 0 0, .slice none 0 0, .slice none 0 0, .bool false] 62)).alloc (.cells #[.nilIface] 72)).alloc (.cells #[.func (.func 58) #[] #[.pointer (some ⟨(w.heap.size + 1 + 1), 0, none⟩)]] 115)).alloc (.cells #[.func (.func 59) #[] #[.pointer (some ⟨(w.heap.size + 1 + 1 + 1), 0, none⟩), .pointer (some ⟨w.heap.size, 0, none⟩)]] 116)).alloc (.cells #[.int .i64 0, .int .i64 0, .int .i64 0, .int .i64 0, .int .i64 0, .slice none 0 0, .slice none 0 0, .slice none 0 0, .bool false] 62)) (w.heap.size + 1 + 1 + 1) w.heap.size (w.heap.size + 1 + 1) s 0) := by
    refine ⟨?_, ?_, ⟨.nilIface, ?_, Or.inl ⟨rfl, rfl⟩⟩, by omega, by omega, by omega, ha, hl⟩
    · exact ((start_at (w := w) _ _ _ _ _ _).2.2.2.1)
    · exact ((start_at (w := w) _ _ _ _ _ _).1)
    · exact ((start_at (w := w) _ _ _ _ _ _).2.2.1)
  have N0 : Hid (NumB ((((((w.alloc (.cells #[.string (bs s)] 9)).alloc (.cells #[.int .i64 0, .int .i64 0, .int .i64 0, .int .i64 0, .int .i64 0, .slice none 0 0, .slice none 0 0, .slice none 0 0, .bool false] 62)).alloc (.cells #[.nilIface] 72)).alloc (.cells #[.func (.func 58) #[] #[.pointer (some ⟨(w.heap.size + 1 + 1), 0, none⟩)]] 115)).alloc (.cells #[.func (.func 59) #[] #[.pointer (some ⟨(w.heap.size + 1 + 1 + 1), 0, none⟩), .pointer (some ⟨w.heap.size, 0, none⟩)]] 116)).alloc (.cells #[.int .i64 0, .int .i64 0, .int .i64 0, .int .i64 0, .int .i64 0, .slice none 0 0, .slice none 0 0, .slice none 0 0, .bool false] 62)) (w.heap.size + 1 + 1 + 1 + 1) (w.heap.size + 1 + 1 + 1) w.heap.size) := (start_at (w := w) _ _ _ _ _ _).2.2.2.2.1
  have R0 : Hid (Bq ((((((w.alloc (.cells #[.string (bs s)] 9)).alloc (.cells #[.int .i64 0, .int .i64 0, .int .i64 0, .int .i64 0, .int .i64 0, .slice none 0 0, .slice none 0 0, .slice none 0 0, .bool false] 62)).alloc (.cells #[.nilIface] 72)).alloc (.cells #[.func (.func 58) #[] #[.pointer (some ⟨(w.heap.size + 1 + 1), 0, none⟩)]] 115)).alloc (.cells #[.func (.func 59) #[] #[.pointer (some ⟨(w.heap.size + 1 + 1 + 1), 0, none⟩), .pointer (some ⟨w.heap.size, 0, none⟩)]] 116)).alloc (.cells #[.int .i64 0, .int .i64 0, .int .i64 0, .int .i64 0, .int .i64 0, .slice none 0 0, .slice none 0 0, .slice none 0 0, .bool false] 62)) (w.heap.size + 1 + 1 + 1 + 1 + 1) 62 (recC 0 0 0 0 0 (.slice none 0 0) (.slice none 0 0) (.slice none 0 0) false)) := (start_at (w := w) _ _ _ _ _ _).2.2.2.2.2
  have Q0 : Hid (Bq ((((((w.alloc (.cells #[.string (bs s)] 9)).alloc (.cells #[.int .i64 0, .int .i64 0, .int .i64 0, .int .i64 0, .int .i64 0, .slice none 0 0, .slice none 0 0, .slice none 0 0, .bool false] 62)).alloc (.cells #[.nilIface] 72)).alloc (.cells #[.func (.func 58) #[] #[.pointer (some ⟨(w.heap.size + 1 + 1), 0, none⟩)]] 115)).alloc (.cells #[.func (.func 59) #[] #[.pointer (some ⟨(w.heap.size + 1 + 1 + 1), 0, none⟩), .pointer (some ⟨w.heap.size, 0, none⟩)]] 116)).alloc (.cells #[.int .i64 0, .int .i64 0, .int .i64 0, .int .i64 0, .int .i64 0, .slice none 0 0, .slice none 0 0, .slice none 0 0, .bool false] 62)) (w.heap.size + 1) 62 nilC) := (start_at (w := w) _ _ _ _ _ _).2.1
  have G0 : Hid (Bl w ((((((w.alloc (.cells #[.string (bs s)] 9)).alloc (.cells #[.int .i64 0, .int .i64 0, .int .i64 0, .int .i64 0, .int .i64 0, .slice none 0 0, .slice none 0 0, .slice none 0 0, .bool false] 62)).alloc (.cells #[.nilIface] 72)).alloc (.cells #[.func (.func 58) #[] #[.pointer (some ⟨(w.heap.size + 1 + 1), 0, none⟩)]] 115)).alloc (.cells #[.func (.func 59) #[] #[.pointer (some ⟨(w.heap.size + 1 + 1 + 1), 0, none⟩), .pointer (some ⟨w.heap.size, 0, none⟩)]] 116)).alloc (.cells #[.int .i64 0, .int .i64 0, .int .i64 0, .int .i64 0, .int .i64 0, .slice none 0 0, .slice none 0 0, .slice none 0 0, .bool false] 62))) := (((((((Bl.refl w).alloc _).alloc _).alloc _).alloc _).alloc _).alloc _)
  have NE : Hid ((w.heap.size + 1 + 1 + 1 + 1 + 1) ≠ w.heap.size ∧ (w.heap.size + 1 + 1 + 1 + 1 + 1) ≠ (w.heap.size + 1) ∧ (w.heap.size + 1 + 1 + 1 + 1 + 1) ≠ (w.heap.size + 1 + 1) ∧ (w.heap.size + 1 + 1 + 1 + 1 + 1) ≠ (w.heap.size + 1 + 1 + 1) ∧ (w.heap.size + 1 + 1 + 1 + 1 + 1) ≠ (w.heap.size + 1 + 1 + 1 + 1) ∧ (w.heap.size + 1 + 1 + 1 + 1) ≠ w.heap.size ∧ (w.heap.size + 1 + 1 + 1 + 1) ≠ (w.heap.size + 1 + 1) ∧ (w.heap.size + 1) ≠ w.heap.size ∧ (w.heap.size + 1) ≠ (w.heap.size + 1 + 1)) := by show _ ∧ _; omega
  have HW : Hid (w.heap.size ≤ w.heap.size ∧ w.heap.size ≤ (w.heap.size + 1 + 1) ∧ w.heap.size ≤ (w.heap.size + 1 + 1 + 1 + 1 + 1) ∧ w.heap.size ≤ (w.heap.size + 1)) := by show _ ∧ _; omega
  clear eV V ha hl
  go_enter Tryd.func45, Tryd.ntmps45
  go_wp2_with (first
    | (go_at_call 59; (with_reducible refine (K1.out _ _ S0.out).mono ?_); rintro e w1 ⟨rfl, hst, hex⟩; have X1 := Lib.hid (hex); have S1' := Lib.hid (hst); have N1' : Hid (NumB w1 (w.heap.size + 1 + 1 + 1 + 1) (w.heap.size + 1 + 1 + 1) w.heap.size) := N0.out.ex X1.out NE.out.2.2.2.2.2.1 NE.out.2.2.2.2.2.2.1; have R1' := Lib.hid (R0.out.ex X1.out NE.out.1 NE.out.2.2.1); have Q1' := Lib.hid (Q0.out.ex X1.out NE.out.2.2.2.2.2.2.2.1 NE.out.2.2.2.2.2.2.2.2); have G1' := Lib.hid (X1.out.bl G0.out HW.out.1 HW.out.2.1); have qR1 := R1'.out.cell 0 rfl; have fR1 := R1'.out.free 0; have S1 := Lib.hid (S1'.out.oth 0 (.int .i64 (c : Int)) NE.out.2.2.2.1 NE.out.1 NE.out.2.2.1); have N1 : Hid (NumB (w1.setCell ⟨(w.heap.size + 1 + 1 + 1 + 1 + 1), 0, none⟩ (.int .i64 (c : Int))) (w.heap.size + 1 + 1 + 1 + 1) (w.heap.size + 1 + 1 + 1) w.heap.size) := Bq.put N1'.out NE.out.2.2.2.2.1 0 (.int .i64 (c : Int)); have R1 := Lib.hid (R1'.out.set 0 (.int .i64 (c : Int))); have Q1 := Lib.hid (Q1'.out.put NE.out.2.1 0 (.int .i64 (c : Int))); have G1 := Lib.hid (G1'.out.setCell (p := ⟨(w.heap.size + 1 + 1 + 1 + 1 + 1), 0, none⟩) HW.out.2.2.1 (.int .i64 (c : Int))); have qN1 := N1.out.cell 0 rfl; clear hst hex)
    | (go_at_call 59; (with_reducible refine (K2.out _ _ S1.out).mono ?_); rintro e w2 ⟨rfl, hst, hex⟩; have X2 := Lib.hid (hex); have S2' := Lib.hid (hst); have N2' : Hid (NumB w2 (w.heap.size + 1 + 1 + 1 + 1) (w.heap.size + 1 + 1 + 1) w.heap.size) := N1.out.ex X2.out NE.out.2.2.2.2.2.1 NE.out.2.2.2.2.2.2.1; have R2' := Lib.hid (R1.out.ex X2.out NE.out.1 NE.out.2.2.1); have Q2' := Lib.hid (Q1.out.ex X2.out NE.out.2.2.2.2.2.2.2.1 NE.out.2.2.2.2.2.2.2.2); have G2' := Lib.hid (X2.out.bl G1.out HW.out.1 HW.out.2.1); have qR2 := R2'.out.cell 1 rfl; have fR2 := R2'.out.free 1; have S2 := Lib.hid (S2'.out.oth 1 (.int .i64 (d : Int)) NE.out.2.2.2.1 NE.out.1 NE.out.2.2.1); have N2 : Hid (NumB (w2.setCell ⟨(w.heap.size + 1 + 1 + 1 + 1 + 1), 1, none⟩ (.int .i64 (d : Int))) (w.heap.size + 1 + 1 + 1 + 1) (w.heap.size + 1 + 1 + 1) w.heap.size) := Bq.put N2'.out NE.out.2.2.2.2.1 1 (.int .i64 (d : Int)); have R2 := Lib.hid (R2'.out.set 1 (.int .i64 (d : Int))); have Q2 := Lib.hid (Q2'.out.put NE.out.2.1 1 (.int .i64 (d : Int))); have G2 := Lib.hid (G2'.out.setCell (p := ⟨(w.heap.size + 1 + 1 + 1 + 1 + 1), 1, none⟩) HW.out.2.2.1 (.int .i64 (d : Int))); have qN2 := N2.out.cell 0 rfl; clear hst hex qN1)
    | (go_at_call 59; (with_reducible refine (K3.out _ _ S2.out).mono ?_); rintro e w3 ⟨rfl, hst, hex⟩; have X3 := Lib.hid (hex); have S3' := Lib.hid (hst); have N3' : Hid (NumB w3 (w.heap.size + 1 + 1 + 1 + 1) (w.heap.size + 1 + 1 + 1) w.heap.size) := N2.out.ex X3.out NE.out.2.2.2.2.2.1 NE.out.2.2.2.2.2.2.1; have R3' := Lib.hid (R2.out.ex X3.out NE.out.1 NE.out.2.2.1); have Q3' := Lib.hid (Q2.out.ex X3.out NE.out.2.2.2.2.2.2.2.1 NE.out.2.2.2.2.2.2.2.2); have G3' := Lib.hid (X3.out.bl G2.out HW.out.1 HW.out.2.1); have qR3 := R3'.out.cell 2 rfl; have fR3 := R3'.out.free 2; have S3 := Lib.hid (S3'.out.oth 2 (.int .i64 (g : Int)) NE.out.2.2.2.1 NE.out.1 NE.out.2.2.1); have N3 : Hid (NumB (w3.setCell ⟨(w.heap.size + 1 + 1 + 1 + 1 + 1), 2, none⟩ (.int .i64 (g : Int))) (w.heap.size + 1 + 1 + 1 + 1) (w.heap.size + 1 + 1 + 1) w.heap.size) := Bq.put N3'.out NE.out.2.2.2.2.1 2 (.int .i64 (g : Int)); have R3 := Lib.hid (R3'.out.set 2 (.int .i64 (g : Int))); have Q3 := Lib.hid (Q3'.out.put NE.out.2.1 2 (.int .i64 (g : Int))); have G3 := Lib.hid (G3'.out.setCell (p := ⟨(w.heap.size + 1 + 1 + 1 + 1 + 1), 2, none⟩) HW.out.2.2.1 (.int .i64 (g : Int))); have qN3 := N3.out.cell 0 rfl; clear hst hex qN2)
    | (go_at_call 59; (with_reducible refine (K4.out _ _ S3.out).mono ?_); rintro e w4 ⟨rfl, hst, hex⟩; have X4 := Lib.hid (hex); have S4' := Lib.hid (hst); have N4' : Hid (NumB w4 (w.heap.size + 1 + 1 + 1 + 1) (w.heap.size + 1 + 1 + 1) w.heap.size) := N3.out.ex X4.out NE.out.2.2.2.2.2.1 NE.out.2.2.2.2.2.2.1; have R4' := Lib.hid (R3.out.ex X4.out NE.out.1 NE.out.2.2.1); have Q4' := Lib.hid (Q3.out.ex X4.out NE.out.2.2.2.2.2.2.2.1 NE.out.2.2.2.2.2.2.2.2); have G4' := Lib.hid (X4.out.bl G3.out HW.out.1 HW.out.2.1); have qR4 := R4'.out.cell 3 rfl; have fR4 := R4'.out.free 3; have S4 := Lib.hid (S4'.out.oth 3 (.int .i64 (f : Int)) NE.out.2.2.2.1 NE.out.1 NE.out.2.2.1); have N4 : Hid (NumB (w4.setCell ⟨(w.heap.size + 1 + 1 + 1 + 1 + 1), 3, none⟩ (.int .i64 (f : Int))) (w.heap.size + 1 + 1 + 1 + 1) (w.heap.size + 1 + 1 + 1) w.heap.size) := Bq.put N4'.out NE.out.2.2.2.2.1 3 (.int .i64 (f : Int)); have R4 := Lib.hid (R4'.out.set 3 (.int .i64 (f : Int))); have Q4 := Lib.hid (Q4'.out.put NE.out.2.1 3 (.int .i64 (f : Int))); have G4 := Lib.hid (G4'.out.setCell (p := ⟨(w.heap.size + 1 + 1 + 1 + 1 + 1), 3, none⟩) HW.out.2.2.1 (.int .i64 (f : Int))); have qN4 := N4.out.cell 0 rfl; clear hst hex qN3)
    | (go_at_call 59; (with_reducible refine (K5.out _ _ S4.out).mono ?_); rintro e w5 ⟨rfl, hst, hex⟩; have X5 := Lib.hid (hex); have S5' := Lib.hid (hst); have N5' : Hid (NumB w5 (w.heap.size + 1 + 1 + 1 + 1) (w.heap.size + 1 + 1 + 1) w.heap.size) := N4.out.ex X5.out NE.out.2.2.2.2.2.1 NE.out.2.2.2.2.2.2.1; have R5' := Lib.hid (R4.out.ex X5.out NE.out.1 NE.out.2.2.1); have Q5' := Lib.hid (Q4.out.ex X5.out NE.out.2.2.2.2.2.2.2.1 NE.out.2.2.2.2.2.2.2.2); have G5' := Lib.hid (X5.out.bl G4.out HW.out.1 HW.out.2.1); have qR5 := R5'.out.cell 4 rfl; have fR5 := R5'.out.free 4; have S5 := Lib.hid (S5'.out.oth 4 (.int .i64 (t : Int)) NE.out.2.2.2.1 NE.out.1 NE.out.2.2.1); have N5 : Hid (NumB (w5.setCell ⟨(w.heap.size + 1 + 1 + 1 + 1 + 1), 4, none⟩ (.int .i64 (t : Int))) (w.heap.size + 1 + 1 + 1 + 1) (w.heap.size + 1 + 1 + 1) w.heap.size) := Bq.put N5'.out NE.out.2.2.2.2.1 4 (.int .i64 (t : Int)); have R5 := Lib.hid (R5'.out.set 4 (.int .i64 (t : Int))); have Q5 := Lib.hid (Q5'.out.put NE.out.2.1 4 (.int .i64 (t : Int))); have G5 := Lib.hid (G5'.out.setCell (p := ⟨(w.heap.size + 1 + 1 + 1 + 1 + 1), 4, none⟩) HW.out.2.2.1 (.int .i64 (t : Int))); have qN5 := N5.out.cell 0 rfl; clear hst hex qN4)
    | (go_at_call 59; (with_reducible refine (K6.out _ _ S5.out).mono ?_); rintro e w6 ⟨rfl, hst, hex⟩; have X6 := Lib.hid (hex); have S6' := Lib.hid (hst); have N6' : Hid (NumB w6 (w.heap.size + 1 + 1 + 1 + 1) (w.heap.size + 1 + 1 + 1) w.heap.size) := N5.out.ex X6.out NE.out.2.2.2.2.2.1 NE.out.2.2.2.2.2.2.1; have R6' := Lib.hid (R5.out.ex X6.out NE.out.1 NE.out.2.2.1); have Q6' := Lib.hid (Q5.out.ex X6.out NE.out.2.2.2.2.2.2.2.1 NE.out.2.2.2.2.2.2.2.2); have G6' := Lib.hid (X6.out.bl G5.out HW.out.1 HW.out.2.1); have S6 := S6'; have N6 := N6'; have R6 := R6'; have Q6 := Q6'; have G6 := G6'; have qC6 := S6.out.check.cell 0 rfl; clear hst hex qN5)
    | (go_at_call 58; (with_reducible refine (KC6.out _ _ _ _ S6.out.err).mono ?_); rintro e w7 ⟨rfl, hst, hex⟩; have X7 := Lib.hid (Ex.wide (p := w.heap.size) hex); have S7' := Lib.hid (S6.out.of_ex hex hst); have N7' : Hid (NumB w7 (w.heap.size + 1 + 1 + 1 + 1) (w.heap.size + 1 + 1 + 1) w.heap.size) := N6.out.ex X7.out NE.out.2.2.2.2.2.1 NE.out.2.2.2.2.2.2.1; have R7' := Lib.hid (R6.out.ex X7.out NE.out.1 NE.out.2.2.1); have Q7' := Lib.hid (Q6.out.ex X7.out NE.out.2.2.2.2.2.2.2.1 NE.out.2.2.2.2.2.2.2.2); have G7' := Lib.hid (X7.out.bl G6.out HW.out.1 HW.out.2.1); have qR7 := R7'.out.cell 8 rfl; have fR7 := R7'.out.free 8; have S7 := Lib.hid (S7'.out.oth 8 (.bool mb) NE.out.2.2.2.1 NE.out.1 NE.out.2.2.1); have N7 : Hid (NumB (w7.setCell ⟨(w.heap.size + 1 + 1 + 1 + 1 + 1), 8, none⟩ (.bool mb)) (w.heap.size + 1 + 1 + 1 + 1) (w.heap.size + 1 + 1 + 1) w.heap.size) := Bq.put N7'.out NE.out.2.2.2.2.1 8 (.bool mb); have R7 := Lib.hid (R7'.out.set 8 (.bool mb)); have Q7 := Lib.hid (Q7'.out.put NE.out.2.1 8 (.bool mb)); have G7 := Lib.hid (G7'.out.setCell (p := ⟨(w.heap.size + 1 + 1 + 1 + 1 + 1), 8, none⟩) HW.out.2.2.1 (.bool mb)); have qN7 := N7.out.cell 0 rfl; clear hst hex qC6)
    | (go_at_call 60; (with_reducible refine (KW.out _ _ _ _ S7.out N7.out).mono ?_); rintro e w8 ⟨vp, lp, n8, s8, rfl, hr, hal, hst, hw, hex⟩; obtain ⟨Ap, cp, ep⟩ := rw_open hr rfl; subst ep; have HAp := Lib.hid hal; have HWp := Lib.hid hw; have X8 := Lib.hid (hex); have S8' := Lib.hid (hst); have N8' : Hid (NumB w8 (w.heap.size + 1 + 1 + 1 + 1) (w.heap.size + 1 + 1 + 1) w.heap.size) := N7.out.ex X8.out NE.out.2.2.2.2.2.1 NE.out.2.2.2.2.2.2.1; have R8' := Lib.hid (R7.out.ex X8.out NE.out.1 NE.out.2.2.1); have Q8' := Lib.hid (Q7.out.ex X8.out NE.out.2.2.2.2.2.2.2.1 NE.out.2.2.2.2.2.2.2.2); have G8' := Lib.hid (X8.out.bl G7.out HW.out.1 HW.out.2.1); have qR8 := R8'.out.cell 5 rfl; have fR8 := R8'.out.free 5; have S8 := Lib.hid (S8'.out.oth 5 (.slice Ap lp.length cp) NE.out.2.2.2.1 NE.out.1 NE.out.2.2.1); have N8 : Hid (NumB (w8.setCell ⟨(w.heap.size + 1 + 1 + 1 + 1 + 1), 5, none⟩ (.slice Ap lp.length cp)) (w.heap.size + 1 + 1 + 1 + 1) (w.heap.size + 1 + 1 + 1) w.heap.size) := Bq.put N8'.out NE.out.2.2.2.2.1 5 (.slice Ap lp.length cp); have R8 := Lib.hid (R8'.out.set 5 (.slice Ap lp.length cp)); have Q8 := Lib.hid (Q8'.out.put NE.out.2.1 5 (.slice Ap lp.length cp)); have G8 := Lib.hid (G8'.out.setCell (p := ⟨(w.heap.size + 1 + 1 + 1 + 1 + 1), 5, none⟩) HW.out.2.2.1 (.slice Ap lp.length cp)); have qN8 := N8.out.cell 0 rfl; have P8p := Lib.hid (rw_cellq hr qR8 (fun z e => by cases e) (.slice Ap lp.length cp)); clear hst hex hr hal hw qN7)
    | (go_at_call 60; (with_reducible refine (KW.out _ _ _ _ S8.out N8.out).mono ?_); rintro e w9 ⟨vq, lq, n9, s9, rfl, hr, hal, hst, hw, hex⟩; obtain ⟨Aq, cq, eq⟩ := rw_open hr rfl; subst eq; have HAq := Lib.hid hal; have HWq := Lib.hid hw; have X9 := Lib.hid (hex); have S9' := Lib.hid (hst); have N9' : Hid (NumB w9 (w.heap.size + 1 + 1 + 1 + 1) (w.heap.size + 1 + 1 + 1) w.heap.size) := N8.out.ex X9.out NE.out.2.2.2.2.2.1 NE.out.2.2.2.2.2.2.1; have R9' := Lib.hid (R8.out.ex X9.out NE.out.1 NE.out.2.2.1); have Q9' := Lib.hid (Q8.out.ex X9.out NE.out.2.2.2.2.2.2.2.1 NE.out.2.2.2.2.2.2.2.2); have G9' := Lib.hid (X9.out.bl G8.out HW.out.1 HW.out.2.1); have qR9 := R9'.out.cell 6 rfl; have fR9 := R9'.out.free 6; have S9 := Lib.hid (S9'.out.oth 6 (.slice Aq lq.length cq) NE.out.2.2.2.1 NE.out.1 NE.out.2.2.1); have N9 : Hid (NumB (w9.setCell ⟨(w.heap.size + 1 + 1 + 1 + 1 + 1), 6, none⟩ (.slice Aq lq.length cq)) (w.heap.size + 1 + 1 + 1 + 1) (w.heap.size + 1 + 1 + 1) w.heap.size) := Bq.put N9'.out NE.out.2.2.2.2.1 6 (.slice Aq lq.length cq); have R9 := Lib.hid (R9'.out.set 6 (.slice Aq lq.length cq)); have Q9 := Lib.hid (Q9'.out.put NE.out.2.1 6 (.slice Aq lq.length cq)); have G9 := Lib.hid (G9'.out.setCell (p := ⟨(w.heap.size + 1 + 1 + 1 + 1 + 1), 6, none⟩) HW.out.2.2.1 (.slice Aq lq.length cq)); have qN9 := N9.out.cell 0 rfl; have P9q := Lib.hid (rw_cellq hr qR9 (fun z e => by cases e) (.slice Aq lq.length cq)); have P9p := Lib.hid (rw_cellq (S8.out.rw hex P8p.out) qR9 (fun z e => by cases e) (.slice Aq lq.length cq)); clear hst hex hr hal hw qN8)
    | (go_at_call 60; (with_reducible refine (KW.out _ _ _ _ S9.out N9.out).mono ?_); rintro e w10 ⟨vt, lt, n10, s10, rfl, hr, hal, hst, hw, hex⟩; obtain ⟨At, ct, et⟩ := rw_open hr rfl; subst et; have HAt := Lib.hid hal; have HWt := Lib.hid hw; have X10 := Lib.hid (hex); have S10' := Lib.hid (hst); have N10' : Hid (NumB w10 (w.heap.size + 1 + 1 + 1 + 1) (w.heap.size + 1 + 1 + 1) w.heap.size) := N9.out.ex X10.out NE.out.2.2.2.2.2.1 NE.out.2.2.2.2.2.2.1; have R10' := Lib.hid (R9.out.ex X10.out NE.out.1 NE.out.2.2.1); have Q10' := Lib.hid (Q9.out.ex X10.out NE.out.2.2.2.2.2.2.2.1 NE.out.2.2.2.2.2.2.2.2); have G10' := Lib.hid (X10.out.bl G9.out HW.out.1 HW.out.2.1); have qR10 := R10'.out.cell 7 rfl; have fR10 := R10'.out.free 7; have S10 := Lib.hid (S10'.out.oth 7 (.slice At lt.length ct) NE.out.2.2.2.1 NE.out.1 NE.out.2.2.1); have N10 : Hid (NumB (w10.setCell ⟨(w.heap.size + 1 + 1 + 1 + 1 + 1), 7, none⟩ (.slice At lt.length ct)) (w.heap.size + 1 + 1 + 1 + 1) (w.heap.size + 1 + 1 + 1) w.heap.size) := Bq.put N10'.out NE.out.2.2.2.2.1 7 (.slice At lt.length ct); have R10 := Lib.hid (R10'.out.set 7 (.slice At lt.length ct)); have Q10 := Lib.hid (Q10'.out.put NE.out.2.1 7 (.slice At lt.length ct)); have G10 := Lib.hid (G10'.out.setCell (p := ⟨(w.heap.size + 1 + 1 + 1 + 1 + 1), 7, none⟩) HW.out.2.2.1 (.slice At lt.length ct)); have qN10 := N10.out.cell 0 rfl; have P10t := Lib.hid (rw_cellq hr qR10 (fun z e => by cases e) (.slice At lt.length ct)); have P10p := Lib.hid (rw_cellq (S9.out.rw hex P9p.out) qR10 (fun z e => by cases e) (.slice At lt.length ct)); have P10q := Lib.hid (rw_cellq (S9.out.rw hex P9q.out) qR10 (fun z e => by cases e) (.slice At lt.length ct)); have qC10 := S10.out.check.cell 0 rfl; have qS10 := S10.out.left.cell 0 rfl; have tE := bs_nil S10.out.all; clear hst hex hr hal hw qN9)
    | (go_at_call 58; (with_reducible refine (KC6.out _ _ _ _ S10.out.err).mono ?_); rintro e w11 ⟨rfl, hst, hex⟩; have X11 := Lib.hid (Ex.wide (p := w.heap.size) hex); have S11' := Lib.hid (S10.out.of_ex hex hst); have N11' : Hid (NumB w11 (w.heap.size + 1 + 1 + 1 + 1) (w.heap.size + 1 + 1 + 1) w.heap.size) := N10.out.ex X11.out NE.out.2.2.2.2.2.1 NE.out.2.2.2.2.2.2.1; have R11' := Lib.hid (R10.out.ex X11.out NE.out.1 NE.out.2.2.1); have Q11' := Lib.hid (Q10.out.ex X11.out NE.out.2.2.2.2.2.2.2.1 NE.out.2.2.2.2.2.2.2.2); have G11' := Lib.hid (X11.out.bl G10.out HW.out.1 HW.out.2.1); have S11 := S11'; have N11 := N11'; have R11 := R11'; have Q11 := Q11'; have G11 := G11'; have P11p := Lib.hid (S10.out.rw (Ex.wide hex) P10p.out); have P11q := Lib.hid (S10.out.rw (Ex.wide hex) P10q.out); have P11t := Lib.hid (S10.out.rw (Ex.wide hex) P10t.out); clear hst hex qN10 qC10 qS10 tE))
  have KV := Lib.hid (fun W' (gW : Bl w11 W') => pvalid_any ⟨(c : Int), (d : Int), (g : Int), (f : Int), (t : Int), lp, lq, lt, mb⟩ (.slice Ap lp.length cp) (.slice Aq lq.length cq) (.slice At lt.length ct) ⟨HAp.out, HAq.out, HAt.out⟩ W' (P11p.out.bl gW) (P11q.out.bl gW) (P11t.out.bl gW))
  unfold recV at KV
  have HXX := Lib.hid (HX.out lp n8 s8 lq n9 s9 lt n10 s10 HWp.out HWq.out HWt.out ⟨(c : Int), (d : Int), (g : Int), (f : Int), (t : Int), lp, lq, lt, mb⟩ rfl)
  obtain ⟨my, emy⟩ : ∃ b, decide (Rc.May ⟨(c : Int), (d : Int), (g : Int), (f : Int), (t : Int), lp, lq, lt, mb⟩) = b := ⟨_, rfl⟩
  obtain ⟨oe, eoe⟩ : ∃ b, decide (s10 = []) = b := ⟨_, rfl⟩
  obtain ⟨nn, enn⟩ : ∃ n, ckE oe 6 n10 = n := ⟨_, rfl⟩
  rw [eoe] at S11
  rw [emy, eoe] at HXX
  rw [enn] at S11 HXX
  rw [emy] at KV
  dsimp only at KV
  have KQ := Lib.hid (fun W' (gW : Bl w11 W') fl => KC1.out my fl nn W' (S11.out.err.bl gW))
  obtain ⟨nz, enz⟩ : ∃ n, ckE my 1 nn = n := ⟨_, rfl⟩
  rw [enz] at KQ HXX
  have qC11 := S11.out.check.cell 0 rfl
  have qr0 := R11.out.cell 0 rfl
  have qr1 := R11.out.cell 1 rfl
  have qr2 := R11.out.cell 2 rfl
  have qr3 := R11.out.cell 3 rfl
  have qr4 := R11.out.cell 4 rfl
  have qr5 := R11.out.cell 5 rfl
  have qr6 := R11.out.cell 6 rfl
  have qr7 := R11.out.cell 7 rfl
  have qr8 := R11.out.cell 8 rfl
  clear emy eoe enn enz KN K1 K2 K3 K4 K5 K6 KC KC6 KC1 KW HX
  go_region_with (first
    | (go_at_call 62; (with_reducible refine (KV.out _ (Bl.refl w11).drew).mono ?_); rintro e w12 ⟨rfl, hb⟩; have G12 := Lib.hid ((Bl.refl w11).drew.trans hb); have qC12 := (S11.out.bl G12.out).check.cell 0 rfl; clear hb)
    | (go_at_call 58; (with_reducible refine (KQ.out _ G12.out _).mono ?_); rintro e w13 ⟨rfl, hr, hx⟩; obtain ⟨ve, hve, hev⟩ := hr; have V13 := Lib.hid hve; have HEV := Lib.hid hev; have X13 := Lib.hid hx; clear hve hev hx))
  all_goals
    have R13 := Lib.hid ((R11.out.bl G12.out).ex X13.out NE.out.2.2.1 NE.out.2.2.1)
    have Q13 := Lib.hid ((Q11.out.bl G12.out).ex X13.out NE.out.2.2.2.2.2.2.2.2 NE.out.2.2.2.2.2.2.2.2)
    have G13 := Lib.hid ((Ex.wide (p := w.heap.size) X13.out).bl (G11.out.trans G12.out) HW.out.1 HW.out.2.1)
    have P13p := Lib.hid ((S11.out.bl G12.out).rw (Ex.wide X13.out) (P11p.out.bl G12.out))
    have P13q := Lib.hid ((S11.out.bl G12.out).rw (Ex.wide X13.out) (P11q.out.bl G12.out))
    have P13t := Lib.hid ((S11.out.bl G12.out).rw (Ex.wide X13.out) (P11t.out.bl G12.out))
    clear qr0 qr1 qr2 qr3 qr4 qr5 qr6 qr7 qr8 qC11
    have qr0 := R13.out.cell 0 rfl
    have qr1 := R13.out.cell 1 rfl
    have qr2 := R13.out.cell 2 rfl
    have qr3 := R13.out.cell 3 rfl
    have qr4 := R13.out.cell 4 rfl
    have qr5 := R13.out.cell 5 rfl
    have qr6 := R13.out.cell 6 rfl
    have qr7 := R13.out.cell 7 rfl
    have qr8 := R13.out.cell 8 rfl
    have qv := V13.out.cell 0 rfl
    have qn0 := Q13.out.cell 0 rfl
    have qn1 := Q13.out.cell 1 rfl
    have qn2 := Q13.out.cell 2 rfl
    have qn3 := Q13.out.cell 3 rfl
    have qn4 := Q13.out.cell 4 rfl
    have qn5 := Q13.out.cell 5 rfl
    have qn6 := Q13.out.cell 6 rfl
    have qn7 := Q13.out.cell 7 rfl
    have qn8 := Q13.out.cell 8 rfl
    have qf := Q13.out.free
    go_wp2
    go_region
  all_goals (try go_wp2)
  all_goals exact post_dc (w0 := w13) (c : Int) (d : Int) (g : Int) (f : Int) (t : Int) (.slice Ap lp.length cp) (.slice Aq lq.length cq) (.slice At lt.length ct) mb lp lq lt ve rfl rfl rfl rfl Q13.out (by rw [← HXX.out.1]; exact HEV.out) HXX.out.2 P13p.out P13q.out P13t.out G13.out HW.out.2.2.2 rfl
end Go.Proofs.YtdaglbjdgdokpaaDoor
