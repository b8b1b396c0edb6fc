/-
  The document's number, bytes, small, ordered, rowBytes of layer 14. · The document's rowBytes, May of layer 14.
-/
import Derived.Test.YtdaglbjdgdokpaaDoorPk7
import Derived.Laws.IdiomStrings
namespace Go.Proofs.YtdaglbjdgdokpaaDoor
open Go.RowKit
set_option linter.unusedVariables false
set_option linter.unusedSimpArgs false

theorem bnum_take (l : List Nat) (i : Nat) (h : i < l.length) : bnum (l.take (i + 1)) = 256 * bnum (l.take i) + l[i] := by rw [List.take_succ_eq_append_getElem h, bnum_snoc]
theorem bnum_lt8 {l : List Nat} (h : All 256 l) (hl : l.length ≤ 8) : bnum l < 18446744073709551616 := by
  have h1 := bnum_lt h
  have h2 : 256 ^ l.length ≤ 256 ^ 8 := Nat.pow_le_pow_right (by decide) hl
  rw [w8] at h2
  omega

set_option maxRecDepth 100000 in
set_option maxHeartbeats 2000000 in
theorem rnumber_any (l : List Nat) (ha : All 256 l) (hl : l.length ≤ 8) (w : World) :
    Calls Tryd.prog 35 #[.string (bs l)] w fun e w' => e = .returned (.int .u64 ((bnum l : Nat) : Int)) ∧ w = w' := by
  have hz := bs_size l
  have HB := Lib.hid (fun i => bnum_lt8 (all_take ha i) (by rw [List.length_take]; omega))
  obtain ⟨n, hn⟩ : ∃ n, l.length = n := ⟨_, rfl⟩
  rw [hn] at hz hl
  have HN := Lib.hid hn
  have HG := Lib.hid (fun i h h' => bs_get ha i h h')
  obtain ⟨s, hs⟩ : ∃ s, bs l = s := ⟨_, rfl⟩
  rw [hs] at hz HG ⊢
  have nb : (n : Int) ≤ 8 := by omega
  have HA := Lib.hid ha
  have HT := Lib.hid (fun i (h : i < l.length) => bnum_take l i h)
  have HE : Hid (bnum (l.take n) = bnum l) := by show _ = _; rw [← hn, List.take_length]
  clear hn hl hs ha
  go_enter Tryd.func35, Tryd.ntmps35
  go_wp2
  go_loop [3, 4] (fun v i => ∃ k : Nat, k ≤ n ∧ i = .int .i64 (k : Int) ∧ v = .int .u64 ((bnum (l.take k) : Nat) : Int)) (fun _ i => n - (intOf i).toNat)
  case atStart => exact ⟨0, Nat.zero_le _, rfl, rfl⟩
  case round =>
    obtain ⟨k, hk, rfl, rfl⟩ := hrel
    by_cases hlt : k < n
    · have hkl : k < l.length := by rw [HN.out]; exact hlt
      have hg := HG.out k hkl
      have hx := HA.out k hkl
      have ht := HT.out k hkl
      have hv := HB.out k
      have hv2 := HB.out (k + 1)
      obtain ⟨x, ex⟩ : ∃ x, l[k] = x := ⟨_, rfl⟩
      rw [ex] at hg hx ht
      obtain ⟨V, eV⟩ : ∃ V, bnum (l.take k) = V := ⟨_, rfl⟩
      rw [eV] at ht hv ⊢
      obtain ⟨U, eU⟩ : ∃ V, bnum (l.take (k + 1)) = V := ⟨_, rfl⟩
      rw [eU] at ht hv2
      obtain ⟨Y, eY⟩ : ∃ V, 256 * V = V := ⟨0, rfl⟩
      obtain ⟨Z, eZ⟩ : ∃ Z, 256 * V = Z := ⟨_, rfl⟩
      rw [eZ] at ht
      have r1 : (256 : Int) * (V : Int) = (Z : Int) := by omega
      have w1 : IntKind.u64.wrap (Z : Int) = (Z : Int) := wrapN _ (by omega)
      have w2 : IntKind.u64.wrap (x : Int) = (x : Int) := wrapN _ (by omega)
      have r2 : (Z : Int) + (x : Int) = (U : Int) := by omega
      have w3 : IntKind.u64.wrap (U : Int) = (U : Int) := wrapN _ hv2
      have HU := Lib.hid eU
      have b1 : (0 : Int) ≤ (k : Int) ∧ (k : Int) < (n : Int) := by omega
      have HK1 : Hid (k + 1 ≤ n) := hlt
      have vb : (V : Int) ≤ 18446744073709551615 := by omega
      have xb : (x : Int) ≤ 255 := by omega
      clear ht hv hv2 eV ex eU eY eZ hx
      go_wp2
      go_round
      case rel => exact ⟨k + 1, HK1.out, by go_num, by rw [HU.out]⟩
      case measure => have := HK1.out; simp [intOf] <;> omega
    · obtain rfl : k = n := by omega
      rw [HE.out]
      obtain ⟨V, eV⟩ : ∃ V, bnum l = V := ⟨_, rfl⟩
      rw [eV]
      go_wp2
      go_ret
      exact ⟨rfl, rfl⟩

set_option maxRecDepth 100000 in
theorem rsmall_any (n : Int) (w : World) : Calls Tryd.prog 51 #[.int .i64 n] w fun e w' => e = .returned (.bool (decide (Sm n))) ∧ w = w' := by
  have e : decide (Sm n) = (decide (0 ≤ n) && decide (n ≤ 2147483647)) := by unfold Sm; exact Bool.decide_and _ _
  rw [e]
  obtain ⟨p, hp⟩ : ∃ p, decide (0 ≤ n) = p := ⟨_, rfl⟩
  obtain ⟨q, hq⟩ : ∃ p, decide (n ≤ 2147483647) = p := ⟨_, rfl⟩
  rw [hp, hq]
  cases p <;> cases q
  all_goals
    go_enter Tryd.func51, Tryd.ntmps51
    go_wp2
    go_ret
    exact ⟨rfl, rfl⟩

theorem okr_no {l : List Nat} (h : 4096 < l.length) : decide (Okr l) = false := decide_eq_false fun h' => by have := h'.1; omega
theorem okr_nil : decide (Okr []) = true := by decide
theorem okr_last {l : List Nat} {m : Nat} (hl : l.length = m + 1) (hm : m + 1 ≤ 4096) : decide (Okr l) = !(decide (l[m]'(by omega) = 0)) := by
  have hne : l ≠ [] := by intro e; rw [e] at hl; cases hl
  have e : l.getLast hne = l[m]'(by omega) := by rw [List.getLast_eq_getElem]; simp only [hl, Nat.add_sub_cancel]
  by_cases h : l[m]'(by omega) = 0
  · rw [decide_eq_false (p := Okr l) (fun h' => h'.2 hne (e.trans h)), decide_eq_true h]; rfl
  · rw [decide_eq_true (show Okr l from ⟨by omega, fun _ => by rw [e]; exact h⟩), decide_eq_false h]; rfl
set_option maxRecDepth 100000 in
theorem rordered_any (v : Value) (l : List Nat) (w : World) (hr : Rw .u64 w v l) :
    Calls Tryd.prog 50 #[v] w fun e w' => e = .returned (.bool (decide (Okr l))) ∧ w = w' := by
  obtain ⟨A, c, rfl, h1, h2, _, hx⟩ := hr
  unfold maxLen at h2
  obtain ⟨n, hn⟩ : ∃ n, l.length = n := ⟨_, rfl⟩
  have nb : (n : Int) ≤ 9223372036854775807 := by omega
  by_cases hbig : 4096 < n
  · rw [okr_no (by omega), hn]
    have d0 : decide ((n : Int) ≤ 4096) = false := decide_eq_false (by omega)
    clear hx hn h1 h2 hbig
    go_enter Tryd.func50, Tryd.ntmps50
    go_wp2
    go_ret
    exact ⟨rfl, rfl⟩
  · have d0 : decide ((n : Int) ≤ 4096) = true := decide_eq_true (by omega)
    by_cases h0 : n = 0
    · subst h0
      obtain rfl := List.length_eq_zero_iff.1 hn
      rw [okr_nil]
      clear hx hn h1 h2 hbig nb d0
      go_enter Tryd.func50, Tryd.ntmps50
      go_wp2
      go_ret
      exact ⟨rfl, rfl⟩
    · obtain ⟨m, rfl⟩ : ∃ m, n = m + 1 := ⟨n - 1, by omega⟩
      rw [okr_last hn (by omega)]
      obtain ⟨ad, rfl, hc⟩ := hx.at_ (i := m) (by omega)
      obtain ⟨x, ex⟩ : ∃ x, l[m]'(by omega) = x := ⟨_, rfl⟩
      rw [ex] at hc ⊢
      rw [hn]
      obtain ⟨n, e1⟩ : ∃ n, m + 1 = n := ⟨_, rfl⟩
      rw [e1] at nb d0 ⊢
      have r1 : (n : Int) - 1 = (m : Int) := by omega
      have b1 : (0 : Int) ≤ (m : Int) ∧ (m : Int) < (n : Int) := by omega
      have n0 : ((n : Int) == 0) = false := by rw [beq_eq_false_iff_ne]; omega
      have t0 : ((x : Int) != 0) = !(decide (x = 0)) := by
        by_cases h : x = 0
        · subst h; rfl
        · rw [decide_eq_false h]; rw [bne_iff_ne.2 (by omega)]; rfl
      obtain ⟨t, ht⟩ : ∃ t, (!(decide (x = 0))) = t := ⟨_, rfl⟩
      rw [ht] at t0 ⊢
      clear hx hn h1 h2 hbig h0 ex e1 ht
      go_enter Tryd.func50, Tryd.ntmps50
      go_wp2
      go_ret
      exact ⟨by first | rfl | simp [t0], rfl⟩

theorem be_cons : ∀ n v, be (n + 1) v = (v / 256 ^ n % 256) :: be n v
  | 0, v => by rw [Nat.pow_zero, Nat.div_one]; rfl
  | n + 1, v => by
    have h : be (n + 1 + 1) v = be (n + 1) (v / 256) ++ [v % 256] := rfl
    rw [h, be_cons n, Nat.div_div_eq_div_mul, show 256 * 256 ^ n = 256 ^ (n + 1) by rw [Nat.pow_succ, Nat.mul_comm]]
    rfl
theorem bs_one {x : Nat} (h : x < 256) {P : Program} (w : World) (src dst e : TypeId) (b : Nat) (hb : b = w.heap.size) (hs : P.underlying src = some (.slice e)) (he : P.underlying e = some (.int .u8)) (hd : P.underlying dst = some .string) :
    (convert src dst (.slice (some ⟨b, 0, none⟩) 1 1)).run P (w.alloc (.cells #[.int .u8 (x : Int)] e)) = .ok (.string (bs [x])) (w.alloc (.cells #[.int .u8 (x : Int)] e)) := by
  subst hb
  have hx : (UInt8.ofNat x).toNat = x := by rw [UInt8.toNat_ofNat']; omega
  have h := run_convert_bytes_back (P := P) (w.alloc (.cells #[.int .u8 (x : Int)] e)) src dst e ⟨w.heap.size, 0, none⟩ 1 [UInt8.ofNat x] hs he hd (fun j hj => by
    have : j = 0 := by simpa using hj
    subst this
    rw [add_none]
    simp only [World.cell?, World.alloc, Array.getElem?_push_size]
    simp [hx])
  exact h
end Go.Proofs.YtdaglbjdgdokpaaDoor
namespace Go.Proofs.YtdaglbjdgdokpaaDoor
open Go.RowKit
set_option linter.unusedVariables false
set_option linter.unusedSimpArgs false

/-- The row's bytes between two rounds. -/
def rowF (l : List Nat) (k : Nat) : ByteArray := bs (be 4 l.length ++ wordsB (l.take k))
theorem rowF_start (l : List Nat) : bs (be 4 l.length) = rowF l 0 := by unfold rowF; rw [List.take_zero]; show _ = bs (be 4 l.length ++ []); rw [List.append_nil]
theorem rowF_step (l : List Nat) (k : Nat) (h : k < l.length) : rowF l k ++ bs (be 8 l[k]) = rowF l (k + 1) := by
  unfold rowF
  rw [bs_append, List.append_assoc, List.take_succ_eq_append_getElem h, wordsB_append]
  have e : wordsB [l[k]] = be 8 l[k] := List.append_nil _
  rw [e]
theorem rowF_end (l : List Nat) : rowF l l.length = bs (rowB l) := by unfold rowF rowB; rw [List.take_length]
theorem rowF_size (l : List Nat) (k : Nat) (h : l.length ≤ 4096) : (rowF l k).size ≤ 40000 := by
  unfold rowF
  rw [bs_size, List.length_append, be_len, wordsB_len, List.length_take]; omega

theorem four_ways : ∀ b1 b2 b3 b4 : Bool, b1 = false ∨ (b1 = true ∧ b2 = false) ∨ (b1 = true ∧ b2 = true ∧ b3 = false) ∨ (b1 = true ∧ b2 = true ∧ b3 = true ∧ b4 = false) ∨ (b1 = true ∧ b2 = true ∧ b3 = true ∧ b4 = true) := by decide
theorem three_ways : ∀ b5 b6 b7 : Bool, b5 = false ∨ (b5 = true ∧ b6 = false) ∨ (b5 = true ∧ b6 = true ∧ b7 = false) ∨ (b5 = true ∧ b6 = true ∧ b7 = true) := by decide
/-- A record as a value. -/
def recV (r : Rc) (vp vq vt : Value) : Value := .agg #[.int .i64 r.con, .int .i64 r.dgs, .int .i64 r.gua, .int .i64 r.frm, .int .i64 r.til, vp, vq, vt, .bool r.minus]
/-- A record's cells. -/
def recC (con dgs gua frm til : Int) (vp vq vt : Value) (minus : Bool) : List Value := [.int .i64 con, .int .i64 dgs, .int .i64 gua, .int .i64 frm, .int .i64 til, vp, vq, vt, .bool minus]
theorem may_bool (r : Rc) : decide r.May = (((decide (Sm r.dgs) && decide (Sm r.gua) && decide (Sm r.frm) && decide (Sm r.til)) && (decide (Okr r.p) && decide (Okr r.q) && decide (Okr r.t))) && decide (0 ≤ r.con) && decide (r.con ≤ 255)) := by
  rw [Bool.eq_iff_iff]
  unfold Rc.May
  simp only [Bool.and_eq_true, decide_eq_true_eq, and_assoc]
set_option maxRecDepth 100000 in
set_option maxHeartbeats 4000000 in
theorem rmay_any (r : Rc) (vp vq vt : Value) (w : World) (hp : Rw .u64 w vp r.p) (hq : Rw .u64 w vq r.q) (ht : Rw .u64 w vt r.t) :
    Calls Tryd.prog 38 #[recV r vp vq vt] w fun e w' => e = .returned (.bool (decide r.May)) ∧ Bl w w' := by
  rw [may_bool]
  unfold recV
  obtain ⟨con, dgs, gua, frm, til, p, q, t, minus⟩ := r
  dsimp only at hp hq ht ⊢
  have K1 := Lib.hid (rsmall_any dgs)
  have K2 := Lib.hid (rsmall_any gua)
  have K3 := Lib.hid (rsmall_any frm)
  have K4 := Lib.hid (rsmall_any til)
  have K5 := Lib.hid (fun w' (g : Bl w w') => rordered_any vp p w' (hp.bl g))
  have K6 := Lib.hid (fun w' (g : Bl w w') => rordered_any vq q w' (hq.bl g))
  have K7 := Lib.hid (fun w' (g : Bl w w') => rordered_any vt t w' (ht.bl g))
  obtain ⟨b1, e1⟩ : ∃ b, decide (Sm dgs) = b := ⟨_, rfl⟩
  obtain ⟨b2, e2⟩ : ∃ b, decide (Sm gua) = b := ⟨_, rfl⟩
  obtain ⟨b3, e3⟩ : ∃ b, decide (Sm frm) = b := ⟨_, rfl⟩
  obtain ⟨b4, e4⟩ : ∃ b, decide (Sm til) = b := ⟨_, rfl⟩
  obtain ⟨b5, e5⟩ : ∃ b, decide (Okr p) = b := ⟨_, rfl⟩
  obtain ⟨b6, e6⟩ : ∃ b, decide (Okr q) = b := ⟨_, rfl⟩
  obtain ⟨b7, e7⟩ : ∃ b, decide (Okr t) = b := ⟨_, rfl⟩
  obtain ⟨b8, e8⟩ : ∃ b, decide (0 ≤ con) = b := ⟨_, rfl⟩
  obtain ⟨b9, e9⟩ : ∃ b, decide (con ≤ 255) = b := ⟨_, rfl⟩
  rw [e1] at K1 ⊢
  rw [e2] at K2 ⊢
  rw [e3] at K3 ⊢
  rw [e4] at K4 ⊢
  rw [e5] at K5 ⊢
  rw [e6] at K6 ⊢
  rw [e7] at K7 ⊢
  rw [e8, e9]
  obtain ⟨B1, c1, rfl, _⟩ := hp
  obtain ⟨B2, c2, rfl, _⟩ := hq
  obtain ⟨B3, c3, rfl, _⟩ := ht
  clear e1 e2 e3 e4 e5 e6 e7
  have HB := Lib.hid (fun (t : TypeId) (cs : Array Value) => ((Bl.refl w).alloc (.cells cs t)))
  have hN := four_ways b1 b2 b3 b4
  have hR := three_ways b5 b6 b7
  rcases hN with rfl | ⟨rfl, rfl⟩ | ⟨rfl, rfl, rfl⟩ | ⟨rfl, rfl, rfl, rfl⟩ | ⟨rfl, rfl, rfl, rfl⟩ <;> rcases hR with rfl | ⟨rfl, rfl⟩ | ⟨rfl, rfl, rfl⟩ | ⟨rfl, rfl, rfl⟩
  all_goals
    go_enter Tryd.func38, Tryd.ntmps38
    go_wp2_with (first
      | (go_at_call 51; (with_reducible refine (K1.out _).mono ?_); rintro e w' ⟨rfl, rfl⟩)
      | (go_at_call 51; (with_reducible refine (K2.out _).mono ?_); rintro e w' ⟨rfl, rfl⟩)
      | (go_at_call 51; (with_reducible refine (K3.out _).mono ?_); rintro e w' ⟨rfl, rfl⟩)
      | (go_at_call 51; (with_reducible refine (K4.out _).mono ?_); rintro e w' ⟨rfl, rfl⟩)
      | (go_at_call 50; (with_reducible refine (K5.out _ (HB.out _ _)).mono ?_); rintro e w' ⟨rfl, rfl⟩)
      | (go_at_call 50; (with_reducible refine (K6.out _ (HB.out _ _)).mono ?_); rintro e w' ⟨rfl, rfl⟩)
      | (go_at_call 50; (with_reducible refine (K7.out _ (HB.out _ _)).mono ?_); rintro e w' ⟨rfl, rfl⟩))
    all_goals go_ret
    all_goals exact ⟨by simp_all, (Bl.refl _).alloc _⟩
end Go.Proofs.YtdaglbjdgdokpaaDoor
