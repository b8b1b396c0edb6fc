/-
  Package crc: what the closures of decoded keep; check, number.
-/
import Derived.Test.YtdaglbjdgdokpaaDoorPk15
import Derived.Test.YtdaglbjdgdokpaaDoorPk16
namespace Go.Proofs.YtdaglbjdgdokpaaDoor
open Go.RowKit
set_option linter.unusedVariables false
set_option linter.unusedSimpArgs false

/-- Below what was there nothing has turned but the blocks p and q. -/
structure Ex (p q : Nat) (w w' : World) : Prop where
  os : w'.os = w.os
  tape : w'.tape = w.tape
  output : w'.output = w.output
  size : w.heap.size ≤ w'.heap.size
  block : ∀ k, k < w.heap.size → k ≠ p → k ≠ q → w'.heap[k]? = w.heap[k]?
theorem Ex.refl (p q : Nat) (w : World) : Ex p q w w := ⟨rfl, rfl, rfl, Nat.le_refl _, fun _ _ _ _ => rfl⟩
theorem Ex.trans {p q : Nat} {a b c : World} (h : Ex p q a b) (k : Ex p q b c) : Ex p q a c :=
  ⟨k.os.trans h.os, k.tape.trans h.tape, k.output.trans h.output, Nat.le_trans h.size k.size, fun i hi h1 h2 => (k.block i (Nat.lt_of_lt_of_le hi h.size) h1 h2).trans (h.block i hi h1 h2)⟩
theorem Ex.of_bl {p q : Nat} {a b : World} (h : Bl a b) : Ex p q a b := ⟨h.os, h.tape, h.output, Below.size h, fun i hi _ _ => h.block i hi⟩
theorem Ex.wide {p q : Nat} {a b : World} (h : Ex q q a b) : Ex p q a b := ⟨h.os, h.tape, h.output, h.size, fun i hi _ h2 => h.block i hi h2 h2⟩
theorem Ex.set {p q : Nat} (w : World) (b i : Nat) (v : Value) (hb : b = p ∨ b = q) : Ex p q w (w.setCell ⟨b, i, none⟩ v) := by
  refine ⟨rfl, rfl, rfl, by show _ ≤ (w.heap.modify _ _).size; rw [Array.size_modify]; exact Nat.le_refl _, fun k hk h1 h2 => ?_⟩
  show (w.heap.modify b _)[k]? = _
  rw [Array.getElem?_modify, if_neg (by rcases hb with rfl | rfl <;> omega)]
theorem Ex.bl {p q : Nat} {W a b : World} (h : Bl W a) (k : Ex p q a b) (hp : W.heap.size ≤ p) (hq : W.heap.size ≤ q) : Bl W b :=
  ⟨k.os.trans h.os, k.tape.trans h.tape, k.output.trans h.output, Nat.le_trans (Below.size h) k.size, fun i hi => (k.block i (Nat.lt_of_lt_of_le hi (Below.size h)) (by omega) (by omega)).trans (h.block i hi)⟩
theorem Bq.ex {p q : Nat} {w w' : World} {b : Nat} {t : TypeId} {cs : List Value} (h : Bq w b t cs) (g : Ex p q w w') (h1 : b ≠ p) (h2 : b ≠ q) : Bq w' b t cs := (g.block b h.lt h1 h2).trans h
theorem Bk.ex {p q : Nat} {k : IntKind} {e : TypeId} {w w' : World} {b : Nat} {l : List Nat} (h : Bk k e w b l) (g : Ex p q w w') (h1 : b ≠ p) (h2 : b ≠ q) : Bk k e w' b l := (g.block b h.lt h1 h2).trans h
/-- A row of words stays, as the boxes hold no word. -/
theorem rw_ex {p q : Nat} {w w' : World} {v : Value} {l : List Nat} {tp tq : TypeId} {vp vq : Value} (h : Rw .u64 w v l) (g : Ex p q w w') (hp : Bq w p tp [vp]) (hq : Bq w q tq [vq]) (np : ∀ z, vp ≠ .int .u64 z) (nq : ∀ z, vq ≠ .int .u64 z) : Rw .u64 w' v l := by
  obtain ⟨A, c, rfl, h1, h2, h3, h4⟩ := h
  refine ⟨A, c, rfl, h1, h2, h3, fun hl => ?_⟩
  obtain ⟨ad, ha, hb, hx⟩ := h4 hl
  have hbox : ∀ {b : Nat} {t : TypeId} {u : Value}, Bq w b t [u] → (∀ z, u ≠ .int .u64 z) → ad.block ≠ b := by
    intro b t u hq nu e
    have h0 := hx 0 hl
    unfold World.cell? at h0
    rw [blk_add, e] at h0
    unfold Bq at hq
    rw [hq] at h0
    simp only at h0
    cases ho : (ad.add 0).off with
    | zero => rw [ho] at h0; exact nu (l[0]'hl : Nat) (by simp at h0; exact h0.2)
    | succ n => rw [ho] at h0; simp at h0
  have n1 := hbox hp np
  have n2 := hbox hq nq
  refine ⟨ad, ha, Nat.lt_of_lt_of_le hb g.size, fun i hi => ?_⟩
  have e := g.block ad.block hb n1 n2
  have := hx i hi
  unfold World.cell? at this ⊢
  rw [blk_add] at this ⊢
  rw [e]; exact this

/-- The first error, by its number (0: none). -/
def ErV (n : Nat) (v : Value) : Prop := (n = 0 ∧ v = .nilIface) ∨ (n ≠ 0 ∧ ∃ s : ByteArray, v = .iface 93 (.agg #[.string s, .iface 75 (.int .i64 (n : Int))]))
def Er (w : World) (b n : Nat) : Prop := ∃ v, Bq w b 72 [v] ∧ ErV n v
/-- What check leaves. -/
def ckE (ok : Bool) (e n : Nat) : Nat := if n = 0 then (if ok then 0 else e) else n
/-- What check answers. -/
def CkEnd (W : World) (b n : Nat) (e : Ending) (w : World) : Prop := e = .returned (.bool (decide (n = 0))) ∧ Er w b n ∧ Ex b b W w
theorem CkEnd.mk {W w : World} {b n m : Nat} {r : Bool} (hn : n = m) (hr : r = decide (m = 0)) (h1 : Er w b m) (h2 : Ex b b W w) : CkEnd W b n (.returned (.bool r)) w := by
  subst hn; subst hr; exact ⟨rfl, h1, h2⟩
set_option maxRecDepth 100000 in
theorem pcheck_any (ok : Bool) (f : ByteArray) (e : Nat) (ee : Int) (hee : ee = (e : Int)) (n b : Nat) (he : e ≠ 0) (w : World) (h : Er w b n) :
    Calls Tryd.prog 58 #[.bool ok, .string f, .int .i64 ee, .pointer (some ⟨b, 0, none⟩)] w (CkEnd w b (ckE ok e n)) := by
  subst hee
  obtain ⟨v, hb, hv⟩ := h
  have hc := hb.cell 0 rfl
  have hf := hb.free 0
  have HB := Lib.hid hb
  rcases hv with ⟨rfl, rfl⟩ | ⟨hn, s, rfl⟩
  · cases ok
    · have H0 : Hid (ckE false e 0 = e) := rfl
      have HE := Lib.hid he
      have HS := Lib.hid (Ex.set (p := b) (q := b) w b 0 (.iface 93 (.agg #[.string f, .iface 75 (.int .i64 (e : Int))])) (Or.inl rfl))
      have HQ := Lib.hid (hb.set 0 (.iface 93 (.agg #[.string f, .iface 75 (.int .i64 (e : Int))])))
      clear hb he
      go_enter Tryd.func58, Tryd.ntmps58
      go_wp2
      go_ret
      exact CkEnd.mk H0.out (decide_eq_false HE.out).symm ⟨_, HQ.out, Or.inr ⟨HE.out, f, rfl⟩⟩ HS.out
    · have H0 : Hid (ckE true e 0 = 0) := rfl
      clear hb he
      go_enter Tryd.func58, Tryd.ntmps58
      go_wp2
      go_ret
      exact CkEnd.mk H0.out rfl ⟨_, HB.out, Or.inl ⟨rfl, rfl⟩⟩ (Ex.refl _ _ _)
  · have H0 : Hid (ckE ok e n = n) := by show _ = _; unfold ckE; rw [if_neg hn]
    have HN := Lib.hid hn
    have HEr : Hid (Er w b n) := ⟨_, hb, Or.inr ⟨hn, s, rfl⟩⟩
    clear hb he hn
    cases ok
    all_goals
      go_enter Tryd.func58, Tryd.ntmps58
      go_wp2
      go_ret
      exact CkEnd.mk H0.out (decide_eq_false HN.out).symm HEr.out (Ex.refl _ _ _)

/-- What stands in the boxes of decoded: what is left, the first error. -/
structure St (w : World) (bC bS bF : Nat) (s : List Nat) (n : Nat) : Prop where
  check : Bq w bC 115 [.func (.func 58) #[] #[.pointer (some ⟨bF, 0, none⟩)]]
  left : Bq w bS 9 [.string (bs s)]
  err : Er w bF n
  cs : bC ≠ bS
  cf : bC ≠ bF
  sf : bS ≠ bF
  all : All 256 s
  short : s.length ≤ 281474976710656
/-- What number gives: the number, the error, what is left. -/
def numE (k n : Nat) (s : List Nat) : Nat × Nat × List Nat := if n ≠ 0 then (0, n, s) else if s.length < k then (0, 5, s) else (bnum (s.take k), 0, s.drop k)
def NmEnd (W : World) (bC bS bF : Nat) (x : Nat × Nat × List Nat) (e : Ending) (w : World) : Prop := e = .returned (.int .u64 (x.1 : Int)) ∧ St w bC bS bF x.2.2 x.2.1 ∧ Ex bS bF W w
theorem NmEnd.mk {W w : World} {bC bS bF v n : Nat} {s : List Nat} {x : Nat × Nat × List Nat} {V : Int} (hx : x = (v, n, s)) (hv : V = (v : Int)) (h1 : St w bC bS bF s n) (h2 : Ex bS bF W w) : NmEnd W bC bS bF x (.returned (.int .u64 V)) w := by
  subst hx; subst hv; exact ⟨rfl, h1, h2⟩
theorem St.of_ex {w w' : World} {bC bS bF n m : Nat} {s : List Nat} (h : St w bC bS bF s n) (g : Ex bF bF w w') (he : Er w' bF m) : St w' bC bS bF s m :=
  ⟨h.check.ex g h.cf h.cf, h.left.ex g h.sf h.sf, he, h.cs, h.cf, h.sf, h.all, h.short⟩
theorem Er.oth {w : World} {b n : Nat} (h : Er w b n) {g : Nat} (i : Nat) (v : Value) (hne : g ≠ b) : Er (w.setCell ⟨g, i, none⟩ v) b n := by
  obtain ⟨u, h1, h2⟩ := h
  exact ⟨u, h1.oth i v hne, h2⟩
theorem St.cut {w : World} {bC bS bF n : Nat} {s : List Nat} (h : St w bC bS bF s n) (k : Nat) : St (w.setCell ⟨bS, 0, none⟩ (.string (bs (s.drop k)))) bC bS bF (s.drop k) n :=
  ⟨h.check.oth _ _ (Ne.symm h.cs), h.left.set 0 _, h.err.oth _ _ h.sf, h.cs, h.cf, h.sf, all_dropc h.all k, by rw [List.length_drop]; have := h.short; omega⟩

set_option maxRecDepth 100000 in
set_option maxHeartbeats 4000000 in
theorem pnumber_any (k : Nat) (kk : Int) (hkk : kk = (k : Int)) (hk : k ≤ 8) (f : ByteArray) (bC bS bF n : Nat) (s : List Nat) (w : World) (h : St w bC bS bF s n) :
    Calls Tryd.prog 59 #[.int .i64 kk, .string f, .pointer (some ⟨bC, 0, none⟩), .pointer (some ⟨bS, 0, none⟩)] w (NmEnd w bC bS bF (numE k n s)) := by
  subst hkk
  have qC := h.check.cell 0 rfl
  have qS := h.left.cell 0 rfl
  have hz := bs_size s
  have hl := h.short
  have hall := h.all
  have HSt := Lib.hid h
  by_cases hn : n = 0
  · subst hn
    by_cases hs : s.length < k
    · have KC := Lib.hid (pcheck_any false f 5 5 rfl 0 bF (by decide) w h.err)
      have HX : Hid (numE k 0 s = (0, 5, s)) := by show _ = _; unfold numE; rw [if_neg (by decide), if_pos hs]
      have d0 : decide ((k : Int) ≤ ((bs s).size : Int)) = false := decide_eq_false (by omega)
      have d1 : decide (k ≤ (bs s).size) = false := decide_eq_false (by omega)
      have zb : ((bs s).size : Int) ≤ 281474976710656 := by omega
      have kb : (k : Int) ≤ 8 := by omega
      obtain ⟨S, eS⟩ : ∃ S, bs s = S := ⟨_, rfl⟩
      rw [eS] at qS d0 d1 zb
      obtain ⟨X, eX⟩ : ∃ X, numE k 0 s = X := ⟨_, rfl⟩
      rw [eX] at HX ⊢
      clear h hz hl hall hs eS eX hk
      go_enter Tryd.func59, Tryd.ntmps59
      go_wp2_with (go_at_call 58; (with_reducible refine KC.out.mono ?_); rintro e w1 ⟨rfl, hr, hx⟩; have HR := Lib.hid hr; have HX1 := Lib.hid hx; clear hr hx)
      go_ret
      exact NmEnd.mk HX.out rfl (HSt.out.of_ex HX1.out HR.out) HX1.out.wide
    · have KC := Lib.hid (pcheck_any true f 5 5 rfl 0 bF (by decide) w h.err)
      rw [show ckE true 5 0 = 0 from rfl] at KC
      have HX : Hid (numE k 0 s = (bnum (s.take k), 0, s.drop k)) := by show _ = _; unfold numE; rw [if_neg (by decide), if_neg hs]
      have d0 : decide ((k : Int) ≤ ((bs s).size : Int)) = true := decide_eq_true (by omega)
      have d1 : decide (k ≤ (bs s).size) = true := decide_eq_true (by omega)
      have zb : ((bs s).size : Int) ≤ 281474976710656 := by omega
      have kb : (k : Int) ≤ 8 := by omega
      have x1 : (bs s).extract k (bs s).size = bs (s.drop k) := by rw [bs_extract, hz]; unfold seg; rw [List.take_length]
      have b1 : (0 : Int) ≤ (k : Int) ∧ (k : Int) ≤ ((bs s).size : Int) := by omega
      have HG := Lib.hid (fun i h h' => bs_get hall i h h')
      have HA := Lib.hid hall
      have HT := Lib.hid (fun i (h : i < s.length) => bnum_take s i h)
      have HB : Hid (∀ i, i < k → bnum (s.take i) < 72057594037927936) := fun i hi => by
        have h1 := bnum_lt (all_take hall i)
        have h2 : 256 ^ (s.take i).length ≤ 256 ^ 7 := Nat.pow_le_pow_right (by decide) (by rw [List.length_take]; omega)
        have h3 : (256 : Nat) ^ 7 = 72057594037927936 := by decide
        omega
      have HL : Hid (k ≤ s.length) := Nat.le_of_not_lt hs
      obtain ⟨S, eS⟩ : ∃ S, bs s = S := ⟨_, rfl⟩
      have HZ : Hid (S.size = s.length) := by rw [← eS]; exact hz
      have HES := Lib.hid eS
      rw [eS] at qS d0 d1 zb x1 b1 HG
      obtain ⟨X, eX⟩ : ∃ X, numE k 0 s = X := ⟨_, rfl⟩
      rw [eX] at HX ⊢
      clear h hz hl hall hs eS eX hk
      go_enter Tryd.func59, Tryd.ntmps59
      go_wp2_with (go_at_call 58; (with_reducible refine KC.out.mono ?_); rintro e w1 ⟨rfl, hr, hx⟩; have HR := Lib.hid (HSt.out.of_ex hx hr); have HX1 := Lib.hid hx; have qS1 := HR.out.left.cell 0 rfl; rw [HES.out] at qS1; have fS1 := HR.out.left.free 0; clear hr hx)
      clear qS qC d0 d1
      go_loop [7, 18] (fun v i => ∃ j : Nat, j ≤ k ∧ i = .int .i64 (j : Int) ∧ v = .int .u64 ((bnum (s.take j) : Nat) : Int)) (fun _ i => k - (intOf i).toNat)
      case atStart => exact ⟨0, Nat.zero_le _, rfl, rfl⟩
      case round =>
        obtain ⟨j, hj, rfl, rfl⟩ := hrel
        by_cases hlt : j < k
        · have hjl : j < s.length := Nat.lt_of_lt_of_le hlt HL.out
          have hg := HG.out j hjl
          have hx := HA.out j hjl
          have ht := HT.out j hjl
          have hv := HB.out j hlt
          obtain ⟨x, ex⟩ : ∃ x, s[j] = x := ⟨_, rfl⟩
          rw [ex] at hg hx ht
          obtain ⟨V, eV⟩ : ∃ V, bnum (s.take j) = V := ⟨_, rfl⟩
          rw [eV] at ht hv ⊢
          have hor : 256 * V ||| x = 256 * V + x := by
            have := Nat.two_pow_add_eq_or_of_lt (i := 8) (b := x) (by simpa using hx) V
            simpa using this.symm
          have w1 : IntKind.u64.wrap ((V : Int) * 256) = ((256 * V : Nat) : Int) := by rw [IntKind.wrap_u64]; omega
          have w2 : bits .or .u64 ((256 * V : Nat) : Int) (x : Int) = ((256 * V + x : Nat) : Int) := by rw [u64_or_nat _ _ (by omega) (by omega), hor]
          rw [← ht] at w2
          obtain ⟨U, eU⟩ : ∃ U, bnum (s.take (j + 1)) = U := ⟨_, rfl⟩
          have HU := Lib.hid eU
          rw [eU] at w2
          obtain ⟨Y, eY⟩ : ∃ Y, 256 * V = Y := ⟨_, rfl⟩
          rw [eY] at w1 w2
          have w3 : IntKind.u64.wrap (x : Int) = (x : Int) := wrapN _ (by omega)
          have HJ1 : Hid (j + 1 ≤ k) := hlt
          have zj : (0 : Int) ≤ (j : Int) ∧ (j : Int) < (S.size : Int) := by rw [HZ.out]; omega
          have vb : (V : Int) ≤ 72057594037927936 := by omega
          have xb : (x : Int) ≤ 255 := by omega
          clear hor ht hv eV ex eU eY hx
          go_wp2
          go_round
          case rel => exact ⟨j + 1, HJ1.out, by go_num, by rw [HU.out]⟩
          case measure => have := HJ1.out; simp [intOf] <;> omega
        · obtain rfl : j = k := by omega
          obtain ⟨V, eV⟩ : ∃ V, bnum (s.take j) = V := ⟨_, rfl⟩
          rw [eV] at HX ⊢
          clear hj hlt HB HT HG eV
          go_wp2
          go_ret
          exact NmEnd.mk HX.out rfl (HR.out.cut j) (HX1.out.wide.trans (Ex.set _ _ _ _ (Or.inl rfl)))
  · have HX : Hid (numE k n s = (0, n, s)) := by show _ = _; unfold numE; rw [if_pos hn]
    have hck : ∀ ok, ckE ok 5 n = n := fun ok => by unfold ckE; rw [if_neg hn]
    have HNN := Lib.hid (decide_eq_false hn)
    have zb : ((bs s).size : Int) ≤ 281474976710656 := by omega
    have kb : (k : Int) ≤ 8 := by omega
    have KC := Lib.hid (fun ok => pcheck_any ok f 5 5 rfl n bF (by decide) w h.err)
    simp only [hck, decide_eq_false hn] at KC
    obtain ⟨S, eS⟩ : ∃ S, bs s = S := ⟨_, rfl⟩
    rw [eS] at qS zb
    obtain ⟨X, eX⟩ : ∃ X, numE k n s = X := ⟨_, rfl⟩
    rw [eX] at HX ⊢
    clear h hz hl hall hck eS eX hk hn
    go_enter Tryd.func59, Tryd.ntmps59
    go_wp2_with (go_at_call 58; (with_reducible refine (KC.out _).mono ?_); rintro e w1 ⟨rfl, hr, hx⟩; rw [HNN.out]; have HR := Lib.hid hr; have HX1 := Lib.hid hx; clear hr hx)
    go_ret
    exact NmEnd.mk HX.out rfl (HSt.out.of_ex HX1.out HR.out) HX1.out.wide
end Go.Proofs.YtdaglbjdgdokpaaDoor
