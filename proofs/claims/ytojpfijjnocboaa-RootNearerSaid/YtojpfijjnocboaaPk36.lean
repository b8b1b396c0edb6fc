/-
  Package prod: Square, over numbers: two rows, of the products of two different words and of each word with itself.
-/
import Derived.Test.YtojpfijjnocboaaPk26
import Derived.Test.YtojpfijjnocboaaPk34
import Derived.BigRegion
namespace Go.Proofs.Ytojpfijjnocboaa
open Go.RowKit
set_option linter.unusedVariables false
set_option linter.unusedSimpArgs false

def CSquare : Prop := ∀ (W : World) (v : Value) (X j : Nat), Nu W v X → Sz j X → 2 * j + 2 < 1048576 → Calls Try.prog 28 #[v] W (RwEnd .u64 W (dig 18446744073709551616 (X * X)))

/-- The two rows between two rounds. -/
structure SqSt (B : Nat) (l : List Nat) (n i : Nat) (cr sq : List Nat) : Prop where
  allc : All B cr
  lenc : cr.length = 2 * n
  farc : ∀ j, i + n ≤ j → j < 2 * n → cr[j]? = some 0
  alls : All B sq
  lens : sq.length = 2 * n
  fars : ∀ j, 2 * i ≤ j → j < 2 * n → sq[j]? = some 0
  num : 2 * val B cr + val B sq + B ^ i * val B (l.drop i) * (B ^ i * val B (l.drop i)) = val B l * val B l
theorem val_noughts (B : Nat) : ∀ k, val B (List.replicate k 0) = 0 := by
  intro k
  induction k with
  | zero => rfl
  | succ k ih => show 0 + B * val B (List.replicate k 0) = 0; rw [ih]; simp
theorem sq_start (B : Nat) (hB : 0 < B) (l : List Nat) (n : Nat) : SqSt B l n 0 (List.replicate (2 * n) 0) (List.replicate (2 * n) 0) :=
  ⟨fun i hi => by simpa using hB, by simp, fun j _ hj => by simp [hj], fun i hi => by simpa using hB, by simp, fun j _ hj => by simp [hj], by rw [val_noughts]; simp⟩
theorem sq_num (P B d x r C S C' S' Q : Nat) (hd : d = x + B * r) (h : 2 * C + S + P * d * (P * d) = Q) (hC : C' = C + P * P * B * (r * x)) (hS : S' = S + P * P * (x * x)) : 2 * C' + S' + P * B * r * (P * B * r) = Q := by
  subst hd hC hS
  rw [← h]
  simp only [Nat.mul_add, Nat.add_mul]
  have e1 : 2 * (P * P * B * (r * x)) = P * x * (P * (B * r)) + P * (B * r) * (P * x) := by
    have a1 : P * P * B * (r * x) = P * x * (P * (B * r)) := by ac_rfl
    have a2 : P * x * (P * (B * r)) = P * (B * r) * (P * x) := Nat.mul_comm _ _
    rw [a1, a2]; omega
  have e2 : P * P * (x * x) = P * x * (P * x) := by ac_rfl
  have e3 : P * B * r * (P * B * r) = P * (B * r) * (P * (B * r)) := by ac_rfl
  rw [e1, e2, e3]
  omega
theorem sq_step {B : Nat} (hB : 0 < B) {l cr sq out : List Nat} {n i c : Nat} (h : SqSt B l n i cr sq) (hn : l.length = n) (hi : i < n) (hx : i < l.length)
    (ha : AtSt B cr (l.drop (i + 1)) l[i] (2 * i + 1) (l.drop (i + 1)).length c out) (lo hi' : Nat) (hlo : lo < B) (hhi : hi' < B) (hm : l[i] * l[i] = lo + B * hi') :
    SqSt B l n (i + 1) (out.set (i + n) c) ((sq.set (2 * i + 1) hi').set (2 * i) lo) := by
  have hlen : out.length = 2 * n := ha.len.trans h.lenc
  have hdl : (l.drop (i + 1)).length = n - (i + 1) := by rw [List.length_drop, hn]
  have hpl : 2 * i + 1 + (n - (i + 1)) = i + n := by omega
  refine ⟨all_set ha.all _ _ ha.lt, by rw [List.length_set, hlen], fun j h1 h2 => ?_, all_set (all_set h.alls _ _ hhi) _ _ hlo, by rw [List.length_set, List.length_set, h.lens], fun j h1 h2 => ?_, ?_⟩
  · rw [List.getElem?_set_ne (by omega), ha.far j (by rw [hdl]; omega)]
    exact h.farc j (by omega) h2
  · rw [List.getElem?_set_ne (by omega), List.getElem?_set_ne (by omega)]
    exact h.fars j (by omega) h2
  · have hin : i + n < out.length := by omega
    have c1 := val_set B out (i + n) c hin
    have c2 := ha.num
    have c3 := ha.far (i + n) (by rw [hdl]; omega)
    rw [h.farc (i + n) (Nat.le_refl _) (by omega), List.getElem?_eq_getElem hin] at c3
    have c4 : out[i + n] = 0 := Option.some.inj c3
    rw [c4, Nat.mul_zero, Nat.add_zero] at c1
    rw [List.take_length, hdl, hpl] at c2
    have hs1 : 2 * i + 1 < sq.length := by rw [h.lens]; omega
    have hs2 : 2 * i < (sq.set (2 * i + 1) hi').length := by rw [List.length_set, h.lens]; omega
    have s1 := val_set B sq (2 * i + 1) hi' hs1
    have s2 := val_set B (sq.set (2 * i + 1) hi') (2 * i) lo hs2
    have s3 : sq[2 * i + 1] = 0 := by
      have := h.fars (2 * i + 1) (by omega) (by omega)
      rw [List.getElem?_eq_getElem hs1] at this
      exact Option.some.inj this
    have s4 : (sq.set (2 * i + 1) hi')[2 * i] = 0 := by
      rw [List.getElem_set_ne (by omega)]
      have := h.fars (2 * i) (by omega) (by omega)
      rw [List.getElem?_eq_getElem (by omega)] at this
      exact Option.some.inj this
    rw [s3, Nat.mul_zero, Nat.add_zero] at s1
    rw [s4, Nat.mul_zero, Nat.add_zero] at s2
    have hdr : val B (l.drop i) = l[i] + B * val B (l.drop (i + 1)) := by rw [List.drop_eq_getElem_cons hx]; rfl
    have p2 : B ^ (2 * i) = B ^ i * B ^ i := by rw [Nat.two_mul, Nat.pow_add]
    have p1 : B ^ (2 * i + 1) = B ^ i * B ^ i * B := by rw [Nat.pow_succ, p2]
    rw [Nat.pow_succ B i]
    refine sq_num (B ^ i) B _ l[i] (val B (l.drop (i + 1))) (val B cr) (val B sq) _ _ _ hdr h.num ?_ ?_
    · rw [c1, ← p1, ← c2]
    · rw [s2, s1, p1, p2, hm, Nat.mul_add, ← Nat.mul_assoc (B ^ i * B ^ i) B hi']
      omega
theorem sq_end {B : Nat} {l cr sq : List Nat} {n i : Nat} (h : SqSt B l n i cr sq) (hn : l.length = n) (hi : n ≤ i) : val B cr * 2 + val B sq = val B l * val B l := by
  have := h.num
  rw [List.drop_eq_nil_of_le (by omega)] at this
  simp only [val, Nat.mul_zero, Nat.add_zero] at this
  omega
theorem mul_self_num (x : Nat) (hx : x < 18446744073709551616) : mulL x x < 18446744073709551616 ∧ mulH x x < 18446744073709551616 ∧ x * x = mulL x x + 18446744073709551616 * mulH x x := by
  have h4 : x * x ≤ 18446744073709551615 * 18446744073709551615 := Nat.mul_le_mul (by omega) (by omega)
  unfold mulH mulL
  obtain ⟨p, hp⟩ : ∃ p, x * x = p := ⟨_, rfl⟩
  rw [hp] at h4 ⊢
  omega

theorem src_drop' {k : IntKind} {w : World} {ad : Addr} {l : List Nat} (h : Src k w (some ad) l) (j : Nat) : Src k w (some (ad.add j)) (l.drop j) := by
  intro hl
  rw [List.length_drop] at hl
  obtain ⟨ad', e, hb, hx⟩ := h (by omega)
  cases e
  refine ⟨_, rfl, by rw [blk_add]; exact hb, fun i hi => ?_⟩
  rw [List.length_drop] at hi
  rw [List.getElem_drop, show (ad.add j).add i = ad.add (j + i) from Addr.add_add _ _ _]
  exact hx (j + i) (by omega)
theorem src_cell {k : IntKind} {w : World} {ad : Addr} {l : List Nat} {i : Nat} (h : Src k w (some ad) l) (hi : i < l.length) : w.cell? (ad.add i) = some (.int k (l[i] : Int)) := by
  obtain ⟨ad', e, hx⟩ := h.at_ hi
  cases e
  exact hx
theorem all_drop' {B : Nat} {l : List Nat} (h : All B l) (k : Nat) : All B (l.drop k) := by
  intro i hi
  rw [List.getElem_drop]
  exact h _ _
theorem rw_cap {k : IntKind} {w : World} {A : Option Addr} {n c : Nat} {l : List Nat} (h : Rw k w (.slice A n c) l) : n ≤ c := by
  obtain ⟨A', c', e, h1, h2, h3, h4⟩ := h
  cases e
  exact h1
theorem rw_capm {k : IntKind} {w : World} {A : Option Addr} {n c : Nat} {l : List Nat} (h : Rw k w (.slice A n c) l) : c ≤ maxLen := by
  obtain ⟨A', c', e, h1, h2, h3, h4⟩ := h
  cases e
  exact h2

/-- Two rows at the world's end, whichever of them was laid first. -/
def Two (w0 w : World) (L g1 g2 : Nat) (c s : List Nat) : Prop := g1 ≠ g2 ∧ w0.heap.size ≤ g1 ∧ w0.heap.size ≤ g2 ∧ Bk .u64 23 w g1 c ∧ Bk .u64 23 w g2 s ∧ Bl w0 w
theorem Bk.oth {k : IntKind} {e : TypeId} {w w' : World} {g h : Nat} {l : List Nat} (b : Bk k e w g l) (o : Oth h w w') (hne : g ≠ h) : Bk k e w' g l := (o.2 g hne).trans b

set_option maxRecDepth 100000 in
set_option maxHeartbeats 4000000 in
theorem pSquare : CSquare := by
  intro W v X jx hv hsx hjk
  obtain ⟨i0, hi, hz0, hz1, hz2⟩ := info_parts infoW
  have KX := Lib.hid (pNorm W v X hv)
  have lx := dig_len_of_lt 18446744073709551616 (by decide) X jx hsx
  have a1 := all_dig 18446744073709551616 (by decide) X
  have v1 := val_dig 18446744073709551616 (by decide) X
  obtain ⟨l, hl⟩ : ∃ l, dig 18446744073709551616 X = l := ⟨_, rfl⟩
  rw [hl] at KX lx a1 v1
  obtain ⟨n, hn⟩ : ∃ n, l.length = n := ⟨_, rfl⟩
  have HN := Lib.hid hn
  obtain ⟨L, hL⟩ : ∃ L, 2 * n = L := ⟨_, rfl⟩
  have hLb : L + 2 < 1048576 := by omega
  have hmk := fun W => run_mk (P := Try.prog) .u64 22 23 i0 Try.underlying22 hi hz0 hz1 (by omega) L (by omega) W
  have rL : (2 : Int) * (n : Int) = (L : Int) := by omega
  have rW : IntKind.i64.wrap (L : Int) = (L : Int) := IntWalk.i64_in _ (by omega)
  have hnb : (n : Int) ≤ 1048576 := by omega
  have HLL := Lib.hid hL
  have HLB := Lib.hid hLb
  have HA1 := Lib.hid a1
  have HV1 := Lib.hid v1
  clear hv hsx hjk lx a1 v1 hl hn hL hLb
  go_enter Try.func28, Try.ntmps28
  go_wp2_with (go_at_call 45; (with_reducible refine KX.out.mono ?_); rintro e w1 ⟨v1, rfl, hr1, hb1⟩; have HR1 := Lib.hid hr1; have HB1 := Lib.hid hb1; obtain ⟨A, c1, rfl, _, _, _, hx1⟩ := hr1; have HX1 := Lib.hid hx1; rw [HN.out] at HR1 ⊢; clear hx1 hb1)
  refine Code.wp_mono (Q := fun e a w' => match e with
    | .normal => ∃ g1 g2, Hid (Two w1 w' L g1 g2 (List.replicate L 0) (List.replicate L 0)) ∧ a = { tmps := #[.slice A n c1, undef, .slice none 0 0, .int .i64 (n : Int), .slice (some ⟨g1, 0, none⟩) L L, .slice (some ⟨g2, 0, none⟩) L L, undef, v, .slice A n c1, .slice A n c1, .int .i64 (n : Int), .int .i64 (n : Int), .int .i64 (L : Int), .slice (some ⟨g1, 0, none⟩) L L, .int .i64 (n : Int), .int .i64 (L : Int), .slice (some ⟨g2, 0, none⟩) L L, undef, undef, undef, undef, undef, undef, undef, undef, undef, undef, undef, undef, undef, undef, undef, undef, undef, undef, undef, undef, undef, undef, undef, undef, undef, undef, undef, undef, undef, undef, undef, undef, undef, undef, undef, undef, undef, undef, undef, undef, undef, undef, undef, undef, undef, undef, undef, undef, undef], defers := [] }
    | _ => False) ?_ ?_
  rotate_left
  · go_region
    · refine ⟨w1.heap.size, w1.heap.size + 1, ?_, rfl⟩
      refine ⟨by omega, Nat.le_refl _, by omega, ?_, ?_, (((Bl.refl _).alloc _).alloc _).drew⟩
      · exact (Bk.made .u64 23 w1 L).bl (((Bl.refl _).alloc _).drew)
      · have := Bk.made .u64 23 (w1.alloc (.cells (vs .u64 (List.replicate L 0)).toArray 23)) L
        rw [World.size_alloc] at this
        exact this.drew
    · refine ⟨w1.heap.size + 1, w1.heap.size, ?_, rfl⟩
      refine ⟨by omega, by omega, Nat.le_refl _, ?_, ?_, (((Bl.refl _).alloc _).alloc _).drew⟩
      · have := Bk.made .u64 23 (w1.alloc (.cells (vs .u64 (List.replicate L 0)).toArray 23)) L
        rw [World.size_alloc] at this
        exact this.drew
      · exact (Bk.made .u64 23 w1 L).bl (((Bl.refl _).alloc _).drew)
  intro e a w' h
  cases e <;> first | exact h.elim | skip
  obtain ⟨g1, g2, hT, rfl⟩ := h
  dsimp only
  clear hmk
  go_wp2
  go_loopw [18] (fun s wr => ∃ (i : Nat) (cr sq : List Nat), i ≤ n ∧ s = .int .i64 (i : Int) ∧ Hid (Two w1 wr L g1 g2 cr sq) ∧ Hid (SqSt 18446744073709551616 l n i cr sq)) (fun s _ => n - (intOf s).toNat)
  case atStart => exact ⟨0, _, _, Nat.zero_le _, rfl, hT, by have := sq_start 18446744073709551616 (by decide) l n; rw [HLL.out] at this; exact this⟩
  case round =>
    clear hT
    obtain ⟨i, cr, sq, hil, rfl, hT, hd⟩ := hrel
    obtain ⟨hne, hg1, hg2, hk1, hk2, hb⟩ := hT.out
    by_cases hlt : i < n
    · have him : i < l.length := by rw [HN.out]; exact hlt
      obtain ⟨ad, hA, -⟩ := HX1.out.at_ him
      subst hA
      have hcc := rw_cap HR1.out
      have hcm := rw_capm HR1.out
      have ha2 := HA1.out i him
      have hst := fun c out lo hi' => sq_step (c := c) (out := out) (by decide) hd.out HN.out hlt him (lo := lo) (hi' := hi')
      have HCA := Lib.hid (fun W' (g : Bl w1 W') => src_cell (HX1.out.bl g) him)
      obtain ⟨x, ex⟩ : ∃ x, l[i] = x := ⟨_, rfl⟩
      rw [ex] at HCA hst ha2
      obtain ⟨m1, m2, m3⟩ := mul_self_num x ha2
      have KM := Lib.hid (fun w => mul_any x x ha2 ha2 w)
      have HS0 := Lib.hid (fun c out h => hst c out _ _ h m1 m2 m3)
      obtain ⟨lo, elo⟩ : ∃ y, mulL x x = y := ⟨_, rfl⟩
      obtain ⟨hi', ehi⟩ : ∃ y, mulH x x = y := ⟨_, rfl⟩
      rw [elo, ehi] at KM HS0
      obtain ⟨q, eq⟩ : ∃ q, 2 * i = q := ⟨_, rfl⟩
      rw [eq] at HS0
      obtain ⟨o, eo⟩ : ∃ o, q + 1 = o := ⟨_, rfl⟩
      obtain ⟨t, et⟩ : ∃ t, i + 1 = t := ⟨_, rfl⟩
      obtain ⟨j, ej⟩ : ∃ j, i + n = j := ⟨_, rfl⟩
      rw [eo, et, ej] at HS0
      have HS := HS0
      have hLL := HLL.out
      have hLB := HLB.out
      have r1 : (i : Int) + (n : Int) = (j : Int) := by omega
      have r2 : (2 : Int) * (i : Int) = (q : Int) := by omega
      have r3 : (q : Int) + 1 = (o : Int) := by omega
      have r4 : (i : Int) + 1 = (t : Int) := by omega
      have w1' : IntKind.i64.wrap (j : Int) = (j : Int) := IntWalk.i64_in _ (by omega)
      have w2' : IntKind.i64.wrap (q : Int) = (q : Int) := IntWalk.i64_in _ (by omega)
      have w3' : IntKind.i64.wrap (o : Int) = (o : Int) := IntWalk.i64_in _ (by omega)
      have w4' : IntKind.i64.wrap (t : Int) = (t : Int) := IntWalk.i64_in _ (by omega)
      have b1 : (0 : Int) ≤ (i : Int) ∧ (i : Int) < (n : Int) := by omega
      have b2 : (0 : Int) ≤ (o : Int) ∧ (o : Int) ≤ (L : Int) := by omega
      have b3 : ¬ L = o := by omega
      have b4 : (0 : Int) ≤ (t : Int) ∧ (t : Int) ≤ (n : Int) := by omega
      have b5 : (0 : Int) ≤ (j : Int) ∧ (j : Int) < (L : Int) := by omega
      have b6 : (0 : Int) ≤ (o : Int) ∧ (o : Int) < (L : Int) := by omega
      have b7 : (0 : Int) ≤ (q : Int) ∧ (q : Int) < (L : Int) := by omega
      have b8 : ¬ q = o := by omega
      have b9 : ¬ o = q := by omega
      have holen : cr.length = L := by rw [hd.out.lenc, hLL]
      have hslen : sq.length = L := by rw [hd.out.lens, hLL]
      have HOL := Lib.hid holen
      have HJL : Hid (j < L) := by show j < L; omega
      have HOL2 : Hid (o < sq.length) := by show o < sq.length; omega
      have HQL2 : Hid (q < sq.length) := by show q < sq.length; omega
      have HG1 := Lib.hid hg1
      have HG2 := Lib.hid hg2
      have HK1 := Lib.hid hk1
      have HK2 := Lib.hid hk2
      have HB := Lib.hid hb
      have HNE := Lib.hid (Ne.symm hne)
      have HIT : Hid (t ≤ n) := by show t ≤ n; omega
      have HET : Hid (i < t) := by show i < t; omega
      have hca := HCA.out _ hb
      clear hst HS0 ex elo ehi m1 m2 m3 hil hT hLL hLB
      by_cases hct : c1 = t
      · subst hct
        have HRD : Hid (Rw .u64 w1 (.slice (some ad) 0 0) (l.drop c1)) := by
          rw [List.drop_eq_nil_of_le (by rw [HN.out]; omega)]
          exact ⟨some ad, 0, rfl, Nat.le_refl _, by decide, (fun h => by cases h), Src.nil _ _ _⟩
        have KT := Lib.hid (fun W' (g1' : Bl w1 W') (g2' : Bk .u64 23 W' g1 cr) => paddTimes_any w1 W' g1 o (L - o) (L - o) (.slice (some ad) 0 0) (l.drop c1) x cr g1' hg1 g2' HRD.out (all_drop' HA1.out c1) hd.out.allc (by rw [List.length_drop, HN.out, hd.out.lenc]; omega) (by rw [List.length_drop, HN.out]; omega) (by rw [hd.out.lenc]; have := HLB.out; omega) ha2)
        clear hd ha2 him holen hslen ej eo eq hk1 hk2 hb hg1 hg2 hne HRD hlt
        go_wp2
        go_region_with (go_at_call 46; (with_reducible refine (KT.out _ HB.out.drew HK1.out.drew).mono ?_); rintro e w' ⟨out', c, rfl, hbk', hat, hb', ho'⟩; have hjl : j < out'.length := (by have h1 := hat.len; have h2 := HOL.out; have h3 := HJL.out; omega); have hco := hbk'.cell j hjl; have hfz := hbk'.free j; have HS2 := Lib.hid (HS.out _ _ hat); have HBK := Lib.hid (hbk'.set j c hjl); have HSK := Lib.hid ((HK2.out.drew.oth ho' HNE.out).oth ((Oth.refl g1 _).setCell j (.int .u64 (c : Int))) HNE.out); have HB3 := Lib.hid (hb'.setCell (p := ⟨g1, j, none⟩) HG1.out (.int .u64 (c : Int))); clear hat hb' ho' hbk')
        have hca2 := HCA.out _ HB3.out
        obtain ⟨w7, e7⟩ : ∃ w7, w'.setCell ⟨g1, j, none⟩ (.int .u64 (c : Int)) = w7 := ⟨_, rfl⟩
        rw [e7] at HBK HSK HB3 hca2 ⊢
        have hc1 := HSK.out.cell o HOL2.out
        have hc2 := HSK.out.cell q HQL2.out
        have hf1 := HSK.out.free o
        have hf2 := HSK.out.free q
        have HE := Lib.hid ((HSK.out.set o hi' HOL2.out).set q lo (by rw [List.length_set]; exact HQL2.out)).drew
        have HBE := Lib.hid ((HB3.out.setCell (p := ⟨g2, o, none⟩) HG2.out (.int .u64 (hi' : Int))).setCell (p := ⟨g2, q, none⟩) HG2.out (.int .u64 (lo : Int))).drew
        have HCE := Lib.hid ((HBK.out.oth ((Oth.refl g2 w7).setCell o (.int .u64 (hi' : Int))) (Ne.symm HNE.out)).oth ((Oth.refl g2 _).setCell q (.int .u64 (lo : Int))) (Ne.symm HNE.out)).drew
        clear e7 hca hco hfz hjl KT
        go_wp2
        go_region_with (go_at_call 47; (with_reducible refine (KM.out _).mono ?_); rintro e w' ⟨rfl, rfl⟩)
        all_goals
          go_wp2
          go_roundw
          case rel => exact ⟨c1, _, _, HIT.out, by go_num, ⟨Ne.symm HNE.out, HG1.out, HG2.out, HCE.out, HE.out, HBE.out⟩, HS2⟩
          case measure => have := HIT.out; have := HET.out; simp [intOf] <;> omega
      · have HRD : Hid (Rw .u64 w1 (.slice (some (ad.add t)) (n - t) (c1 - t)) (l.drop t)) := (src_drop' HX1.out t).rw (by rw [List.length_drop, HN.out]) (by omega) (by omega) (fun h => by cases h)
        have KT := Lib.hid (fun W' (g1' : Bl w1 W') (g2' : Bk .u64 23 W' g1 cr) => paddTimes_any w1 W' g1 o (L - o) (L - o) (.slice (some (ad.add t)) (n - t) (c1 - t)) (l.drop t) x cr g1' hg1 g2' HRD.out (all_drop' HA1.out t) hd.out.allc (by rw [List.length_drop, HN.out, hd.out.lenc]; omega) (by rw [List.length_drop, HN.out]; omega) (by rw [hd.out.lenc]; have := HLB.out; omega) ha2)
        clear hd ha2 him holen hslen ej eo eq et hk1 hk2 hb hg1 hg2 hne HRD hlt
        go_wp2
        go_region_with (go_at_call 46; (with_reducible refine (KT.out _ HB.out.drew HK1.out.drew).mono ?_); rintro e w' ⟨out', c, rfl, hbk', hat, hb', ho'⟩; have hjl : j < out'.length := (by have h1 := hat.len; have h2 := HOL.out; have h3 := HJL.out; omega); have hco := hbk'.cell j hjl; have hfz := hbk'.free j; have HS2 := Lib.hid (HS.out _ _ hat); have HBK := Lib.hid (hbk'.set j c hjl); have HSK := Lib.hid ((HK2.out.drew.oth ho' HNE.out).oth ((Oth.refl g1 _).setCell j (.int .u64 (c : Int))) HNE.out); have HB3 := Lib.hid (hb'.setCell (p := ⟨g1, j, none⟩) HG1.out (.int .u64 (c : Int))); clear hat hb' ho' hbk')
        have hca2 := HCA.out _ HB3.out
        obtain ⟨w7, e7⟩ : ∃ w7, w'.setCell ⟨g1, j, none⟩ (.int .u64 (c : Int)) = w7 := ⟨_, rfl⟩
        rw [e7] at HBK HSK HB3 hca2 ⊢
        have hc1 := HSK.out.cell o HOL2.out
        have hc2 := HSK.out.cell q HQL2.out
        have hf1 := HSK.out.free o
        have hf2 := HSK.out.free q
        have HE := Lib.hid ((HSK.out.set o hi' HOL2.out).set q lo (by rw [List.length_set]; exact HQL2.out)).drew
        have HBE := Lib.hid ((HB3.out.setCell (p := ⟨g2, o, none⟩) HG2.out (.int .u64 (hi' : Int))).setCell (p := ⟨g2, q, none⟩) HG2.out (.int .u64 (lo : Int))).drew
        have HCE := Lib.hid ((HBK.out.oth ((Oth.refl g2 w7).setCell o (.int .u64 (hi' : Int))) (Ne.symm HNE.out)).oth ((Oth.refl g2 _).setCell q (.int .u64 (lo : Int))) (Ne.symm HNE.out)).drew
        clear e7 hca hco hfz hjl KT
        go_wp2
        go_region_with (go_at_call 47; (with_reducible refine (KM.out _).mono ?_); rintro e w' ⟨rfl, rfl⟩)
        all_goals
          go_wp2
          go_roundw
          case rel => exact ⟨t, _, _, HIT.out, by go_num, ⟨Ne.symm HNE.out, HG1.out, HG2.out, HCE.out, HE.out, HBE.out⟩, HS2⟩
          case measure => have := HIT.out; have := HET.out; simp [intOf] <;> omega
    · have hin : i = n := by omega
      subst hin
      have hE := sq_end hd.out HN.out (Nat.le_refl _)
      rw [HV1.out] at hE
      have lc : cr.length = L := by rw [hd.out.lenc, HLL.out]
      have ls : sq.length = L := by rw [hd.out.lens, HLL.out]
      have hLB := HLB.out
      have N1 := Lib.hid (Nu.mk (hk1.rw (n := L) lc.symm (by unfold maxLen; omega)) hd.out.allc (by omega))
      have N2 := Lib.hid (Nu.mk (hk2.rw (n := L) ls.symm (by unfold maxLen; omega)) hd.out.alls (by omega))
      have sz : Sz L (val 18446744073709551616 cr) := Sz.of_val hd.out.allc (by omega)
      obtain ⟨C, eC⟩ : ∃ C, val 18446744073709551616 cr = C := ⟨_, rfl⟩
      obtain ⟨S, eS⟩ : ∃ C, val 18446744073709551616 sq = C := ⟨_, rfl⟩
      rw [eC] at N1 sz hE
      rw [eS] at N2 hE
      have sz2 := sz.word (w := 2) (by decide)
      have KS := Lib.hid (fun W' v' (h : Nu W' v' C) => pShl W' v' C 1 h (by decide) (by decide))
      rw [show (2 : Nat) ^ (1 : Int).toNat = 2 from rfl] at KS
      have KA := Lib.hid (fun W' v' u' (h : Nu W' v' (C * 2)) (h' : Nu W' u' S) => pAdd W' v' u' _ _ h h')
      rw [hE] at KA
      have SZ := Lib.hid sz2
      have HLT : Hid (L + 1 < 1048576) := by show L + 1 < _; omega
      have HB := Lib.hid (HB1.out.trans hb)
      clear hE lc ls hLB sz sz2 eC eS hd hk1 hk2 hb hT hg1 hg2 hne hlt hil
      go_wp2_with (first
        | (go_at_call 37; (with_reducible refine (KS.out _ _ N1.out).mono ?_); rintro e w2 ⟨v2, rfl, hr, hb'⟩; have N3 := Lib.hid (Nu.dig hr SZ.out HLT.out); have G2 := Lib.hid hb'; clear hr hb')
        | (go_at_call 35; (with_reducible refine (KA.out _ _ _ N3.out (N2.out.bl G2.out)).mono ?_); rintro e w3 ⟨v3, rfl, hr, hb'⟩; have H3 := Lib.hid hr; have G3 := Lib.hid (G2.out.trans hb'); clear hr hb'))
      go_ret
      exact RwEnd.mk H3.out (HB.out.trans G3.out)
end Go.Proofs.Ytojpfijjnocboaa
