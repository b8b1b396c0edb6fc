/-
  math/bits.Div64 and word.Div, for every input: the quotient and what is left; the errors as the document has them. · word.Len (the document's answer for it: WordRl). · Package prod: School, over numbers.
-/
import Derived.Test.YtfmkbeffhdphfaaPk22
import Derived.Test.YtfmkbeffhdphfaaPk21
import Derived.Test.YtfmkbeffhdphfaaPk6
import Derived.Test.YtfmkbeffhdphfaaPk19
import Derived.Deep.RegionWith
namespace Go.Proofs.Ytfmkbeffhdphfaa
open Go.RowKit
set_option linter.unusedVariables false

theorem wrap_rest (u y1 : Nat) (hu : u < 18446744073709551616) : IntKind.u64.wrap ((u : Int) - IntKind.u64.wrap (((u / y1 : Nat) : Int) * (y1 : Int))) = ((u % y1 : Nat) : Int) := by
  have h := Nat.div_add_mod' u y1
  rw [← Int.natCast_mul]
  generalize u / y1 * y1 = p at *
  generalize u % y1 = x at *
  simp only [IntKind.wrap_u64]
  omega

theorem nat_div (u y1 a : Nat) (h : u / y1 = a) : (u : Int) / (y1 : Int) = (a : Int) := by rw [← h]; exact (Int.natCast_ediv u y1).symm

theorem g4_of (T1 T0 : Nat) (t1 : T1 < 4294967296) (t2 : T0 < 4294967296) : IntKind.u64.wrap (IntKind.u64.wrap ((T1 : Int) * 4294967296) + (T0 : Int)) = ((T1 * 4294967296 + T0 : Nat) : Int) := by
  simp only [IntKind.wrap_u64]
  omega

/-- All numbers on the way are plain variables here. -/
theorem div64_mid (hi lo y s Y y1 y0 u v v1 v0 q0 r0 : Nat) (hs : 64 - Lib.bitLen y = s) (hs2 : s ≤ 63) (h0 : 0 < hi) (hlt : hi < y) (hy : y < 18446744073709551616)
    (r1 : IntKind.u64.wrap ((y : Int) * 2 ^ s) = (Y : Int)) (r2 : (Y : Int) / 4294967296 = (y1 : Int)) (r3 : bits .and .u64 (Y : Int) 4294967295 = (y0 : Int))
    (r4 : bits .or .u64 (IntKind.u64.wrap ((hi : Int) * 2 ^ s)) ((lo : Int) / 2 ^ (64 - s)) = (u : Int)) (r5 : IntKind.u64.wrap ((lo : Int) * 2 ^ s) = (v : Int))
    (r6 : (v : Int) / 4294967296 = (v1 : Int)) (r7 : bits .and .u64 (v : Int) 4294967295 = (v0 : Int))
    (k1 : KD u v1 y1 y0) (hv0 : v0 < 4294967296) (eY : y1 * 4294967296 + y0 = Y) (hY : Y < 18446744073709551616)
    (hq : (u * 4294967296 + v1) / Y * 4294967296 + ((u * 4294967296 + v1) % Y * 4294967296 + v0) / Y = q0)
    (hr : ((((u * 4294967296 + v1) % Y * 4294967296 + v0) % Y : Nat) : Int) / 2 ^ s = (r0 : Int)) (w : World) :
    Calls Try.prog 54 #[.int .u64 (hi : Int), .int .u64 (lo : Int), .int .u64 (y : Int)] w
      fun e w' => e = .returned (.tuple #[.int .u64 (q0 : Int), .int .u64 (r0 : Int)]) ∧ w = w' := by
  have p1 : 0 < y1 := by have := k1.1; omega
  have hu : u < Y := by have := k1.2.2.2.2; omega
  have eT1 : kq u v1 y1 y0 = (u * 4294967296 + v1) / Y := by unfold kq; rw [eY]
  have eU : kr u v1 y1 y0 = (u * 4294967296 + v1) % Y := by unfold kr; rw [eY]
  have hU : kr u v1 y1 y0 < Y := by rw [eU]; exact Nat.mod_lt _ (by omega)
  have s1 := k_start k1
  have t1 := kq_lt k1
  have g1 := k_rest k1
  rw [eY] at g1
  rw [← eU, ← eT1] at hq
  rw [← eU] at hr
  clear eT1 eU
  generalize hT1 : kq u v1 y1 y0 = T1 at *
  generalize kr u v1 y1 y0 = U at *
  have k2 : KD U v0 y1 y0 := ⟨k1.1, k1.2.1, k1.2.2.1, hv0, by omega⟩
  have eT0 : kq U v0 y1 y0 = (U * 4294967296 + v0) / Y := by unfold kq; rw [eY]
  have eV : kr U v0 y1 y0 = (U * 4294967296 + v0) % Y := by unfold kr; rw [eY]
  have s2 := k_start k2
  have t2 := kq_lt k2
  have g5 := k_rest k2
  rw [eY] at g5
  rw [← eT0] at hq
  rw [← eV] at hr
  clear eT0 eV
  generalize hT0 : kq U v0 y1 y0 = T0 at *
  generalize kr U v0 y1 y0 = V at *
  have w1 := wrap_rest u y1 (by omega)
  have w2 := wrap_rest U y1 (by omega)
  have a1 : u / y1 < 4294967298 := by have := s1.2.2.2.1; omega
  have a2 : U / y1 < 4294967298 := by have := s2.2.2.2.1; omega
  generalize ha : u / y1 = a at *
  generalize u % y1 = b at *
  generalize ha2 : U / y1 = a' at *
  generalize U % y1 = b' at *
  have g4 := g4_of T1 T0 t1 t2
  rw [hq] at g4
  exact div64_core hi lo y s Y y1 y0 u v v1 v0 a b T1 U a' b' T0 V q0 r0 (Lib.hid hs) hs2 h0 hlt hy r1 r2 r3 r4 r5 r6 r7 p1 (nat_div u y1 a ha) a1 w1 (Lib.hid s1) (Lib.hid hT1) g1 (nat_div U y1 a' ha2) a2 w2 (Lib.hid s2) (Lib.hid hT0) g4 g5 hr w

theorem div64_great (hi lo y : Nat) (h0 : 0 < hi) (hlt : hi < y) (hy : y < 18446744073709551616) (hlo : lo < 18446744073709551616) (w : World) :
    Calls Try.prog 54 #[.int .u64 (hi : Int), .int .u64 (lo : Int), .int .u64 (y : Int)] w
      fun e w' => e = .returned (.tuple #[.int .u64 (((hi * 18446744073709551616 + lo) / y : Nat) : Int), .int .u64 (((hi * 18446744073709551616 + lo) % y : Nat) : Int)]) ∧ w = w' := by
  obtain ⟨Y, u, v, hs2, r1, hY1, hY2, r4, huY, r5, hv, hq, hr⟩ := norm hi lo y _ rfl hlt hy hlo
  have eY : Y / 4294967296 * 4294967296 + Y % 4294967296 = Y := Nat.div_add_mod' Y 4294967296
  have k1 : KD u (v / 4294967296) (Y / 4294967296) (Y % 4294967296) := ⟨by omega, by omega, by omega, by omega, by omega⟩
  have two := k_two u (v / 4294967296) (v % 4294967296) Y (by omega)
  have ev : v / 4294967296 * 4294967296 + v % 4294967296 = v := Nat.div_add_mod' v 4294967296
  rw [ev, hq] at two
  rw [← two.2] at hr
  exact div64_mid hi lo y _ Y _ _ u v _ _ _ _ rfl hs2 h0 hlt hy r1 (by omega) (maskN Y hY1) r4 r5 (by omega) (maskN v hv) k1 (by omega) eY hY1 two.1 hr w

set_option maxRecDepth 100000 in
theorem div64_small (lo y : Nat) (hy0 : 0 < y) (hy : y < 18446744073709551616) (hlo : lo < 18446744073709551616) (w : World) :
    Calls Try.prog 54 #[.int .u64 0, .int .u64 (lo : Int), .int .u64 (y : Int)] w
      fun e w' => e = .returned (.tuple #[.int .u64 ((lo / y : Nat) : Int), .int .u64 ((lo % y : Nat) : Int)]) ∧ Q w w' := by
  have b0 : ((y : Int) == 0) = false := by rw [beq_eq_false_iff_ne]; omega
  go_enter Try.func54, Try.ntmps54
  go_wp2
  go_quiet (fail)
  go_wp2
  go_ret2
  refine ⟨ret_eq (pair_eq ?_ ?_), (Q.refl _).drewN _⟩
  · rw [← Int.natCast_ediv]
    exact w64 _ (Nat.lt_of_le_of_lt (Nat.div_le_self _ _) hlo)
  · exact (Int.natCast_emod lo y).symm

/-! ### word.Div -/

theorem div_any (hi lo d : Nat) (hh : hi < 18446744073709551616) (hlo : lo < 18446744073709551616) (hd : d < 18446744073709551616) (w : World) :
    Calls Try.prog 35 #[.int .u64 (hi : Int), .int .u64 (lo : Int), .int .u64 (d : Int)] w
      fun e w' => e = .returned (.tuple #[.int .u64 ((divQ hi lo d : Nat) : Int), .int .u64 ((divR hi lo d : Nat) : Int), .int .i64 ((divE hi d : Nat) : Int)]) ∧ Q w w' := by
  by_cases h0 : d = 0
  · have e1 : divQ hi lo d = 0 := by unfold divQ; rw [if_pos (by omega)]
    have e2 : divR hi lo d = 0 := by unfold divR; rw [if_pos (by omega)]
    have e3 : divE hi d = 2 := by unfold divE; rw [if_pos h0]
    rw [e1, e2, e3]
    clear e1 e2 e3
    subst h0
    go_enter Try.func35, Try.ntmps35
    go_wp2
    go_ret3
    exact ⟨rfl, Q.refl _⟩
  · have b0 : ((d : Int) == 0) = false := by rw [beq_eq_false_iff_ne]; omega
    by_cases h1 : d ≤ hi
    · have e1 : divQ hi lo d = 0 := by unfold divQ; rw [if_pos h1]
      have e2 : divR hi lo d = 0 := by unfold divR; rw [if_pos h1]
      have e3 : divE hi d = 1 := by unfold divE; rw [if_neg h0, if_pos h1]
      rw [e1, e2, e3]
      clear e1 e2 e3
      go_enter Try.func35, Try.ntmps35
      go_wp2
      go_ret3
      exact ⟨rfl, Q.refl _⟩
    · have e1 : divQ hi lo d = num hi lo / d := by unfold divQ; rw [if_neg h1]
      have e2 : divR hi lo d = num hi lo % d := by unfold divR; rw [if_neg h1]
      have e3 : divE hi d = 0 := by unfold divE; rw [if_neg h0, if_neg h1]
      rw [e1, e2, e3]
      clear e1 e2 e3
      have hc : ∀ w, Calls Try.prog 54 #[.int .u64 (hi : Int), .int .u64 (lo : Int), .int .u64 (d : Int)] w
          fun e w' => e = .returned (.tuple #[.int .u64 ((num hi lo / d : Nat) : Int), .int .u64 ((num hi lo % d : Nat) : Int)]) ∧ Q w w' := by
        intro w
        by_cases hz : hi = 0
        · subst hz
          have e : num 0 lo = lo := by unfold num; omega
          rw [e]
          exact div64_small lo d (by omega) hd hlo w
        · exact (div64_great hi lo d (by omega) (by omega) hd hlo w).mono fun _ _ ⟨he, hw⟩ => ⟨he, hw ▸ Q.refl _⟩
      have HC := Lib.hid hc
      clear hc hh hlo hd
      go_enter Try.func35, Try.ntmps35
      go_wp2_with (go_at_call 54; refine (HC.out _).mono ?_; rintro e w' ⟨rfl, hq⟩)
      go_ret3
      exact ⟨rfl, hq⟩
end Go.Proofs.Ytfmkbeffhdphfaa
namespace Go.Proofs.Ytfmkbeffhdphfaa
open Go.RowKit
set_option linter.unusedVariables false

theorem len_any (x : Nat) (hx : x < 18446744073709551616) (w : World) :
    Calls Try.prog 41 #[.int .u64 (x : Int)] w fun e w' => e = .returned (.int .i64 ((Lib.bitLen x : Nat) : Int)) ∧ w = w' := by
  go_enter Try.func41, Try.ntmps41
  go_wp2_with (go_at_call 62; refine (len64_any _ hx _).mono ?_; rintro e w' ⟨rfl, rfl⟩)
  go_ret
  exact ⟨rfl, rfl⟩

end Go.Proofs.Ytfmkbeffhdphfaa
namespace Go.Proofs.Ytfmkbeffhdphfaa
open Go.RowKit
set_option linter.unusedVariables false
set_option linter.unusedSimpArgs false

def CSchool : Prop := ∀ (W : World) (v u : Value) (X Y j k : Nat), Nu W v X → Nu W u Y → Sz j X → Sz k Y → j + k < 1048576 → Calls Try.prog 43 #[v, u] W (RwEnd .u64 W (dig 18446744073709551616 (X * Y)))

/-- The row of a product between two rounds: a's number times b's i lowest words. -/
structure ScSt (B X : Nat) (m : List Nat) (n i : Nat) (out : List Nat) : Prop where
  all : All B out
  len : out.length = n + m.length
  num : val B out = X * val B (m.take i)
  far : ∀ j, n + i ≤ j → j < n + m.length → out[j]? = some 0
theorem sc_start (B X : Nat) (hB : 0 < B) (m : List Nat) (n L : Nat) (h : L = n + m.length) : ScSt B X m n 0 (List.replicate L 0) := by
  refine ⟨fun i hi => by simpa using hB, by simp [h], ?_, fun j _ hj => by simp [h, hj]⟩
  have : ∀ k, val B (List.replicate k 0) = 0 := by
    intro k
    induction k with
    | zero => rfl
    | succ k ih => show 0 + B * val B (List.replicate k 0) = 0; rw [ih]; simp
  rw [this]
  simp [val]
theorem sc_step {B X : Nat} {l m : List Nat} {n i c : Nat} {row out : List Nat} (h : ScSt B X m n i row) (hX : val B l = X) (hn : l.length = n) (hi : i < m.length) (ha : AtSt B row l m[i] i l.length c out) :
    ScSt B X m n (i + 1) (out.set (i + n) c) := by
  have hlen : out.length = n + m.length := ha.len.trans h.len
  refine ⟨all_set ha.all _ _ ha.lt, by rw [List.length_set, hlen], ?_, fun j h1 h2 => ?_⟩
  · have hin : i + n < out.length := by omega
    have h1 := val_set B out (i + n) c hin
    have h2 := ha.num
    have h3 := ha.far (i + l.length) (Nat.le_refl _)
    rw [hn, h.far (i + n) (by omega) (by omega), List.getElem?_eq_getElem hin] at h3
    have h4 : out[i + n] = 0 := Option.some.inj h3
    rw [h4, Nat.mul_zero, Nat.add_zero] at h1
    rw [List.take_length, hX, hn] at h2
    rw [h1, h2, h.num, val_take_succ B m i hi, Nat.mul_add, ← Nat.mul_assoc (B ^ i), Nat.mul_comm (B ^ i) X, Nat.mul_assoc]
  · rw [List.getElem?_set_ne (by omega), ha.far j (by omega)]
    exact h.far j (by omega) h2
theorem sc_end {B X : Nat} {m : List Nat} {n i : Nat} {out : List Nat} (h : ScSt B X m n i out) (hi : m.length ≤ i) : val B out = X * val B m := by
  rw [h.num, List.take_of_length_le hi]

set_option maxRecDepth 100000 in
set_option maxHeartbeats 4000000 in
theorem pSchool : CSchool := by
  intro W v u X Y jx ky hv hu hsx hsy hjk
  obtain ⟨i0, hi, hz0, hz1, hz2⟩ := info_parts infoW
  have KX := Lib.hid (pNorm W v X hv)
  have KY := Lib.hid (fun W' (g : Bl W W') => pNorm W' u Y (hu.bl g))
  have lx := dig_len_of_lt 18446744073709551616 (by decide) X jx hsx
  have ly := dig_len_of_lt 18446744073709551616 (by decide) Y ky hsy
  have a1 := all_dig 18446744073709551616 (by decide) X
  have a2 := all_dig 18446744073709551616 (by decide) Y
  have v1 := val_dig 18446744073709551616 (by decide) X
  have v2 := val_dig 18446744073709551616 (by decide) Y
  obtain ⟨l, hl⟩ : ∃ l, dig 18446744073709551616 X = l := ⟨_, rfl⟩
  obtain ⟨m, hm⟩ : ∃ l, dig 18446744073709551616 Y = l := ⟨_, rfl⟩
  rw [hl] at KX lx a1 v1
  rw [hm] at KY ly a2 v2
  obtain ⟨n, hn⟩ : ∃ n, l.length = n := ⟨_, rfl⟩
  obtain ⟨k, hk⟩ : ∃ n, m.length = n := ⟨_, rfl⟩
  have HN := Lib.hid hn
  have HK := Lib.hid hk
  obtain ⟨L, hL⟩ : ∃ L, n + k = L := ⟨_, rfl⟩
  have hLb : L < 1048576 := by omega
  have hmk := fun W => run_mk (P := Try.prog) .u64 22 23 i0 Try.underlying22 hi hz0 hz1 (by omega) L (by omega) W
  have rL : (n : Int) + (k : Int) = (L : Int) := by omega
  have hnb : (n : Int) ≤ 1048576 := by omega
  have hkb : (k : Int) ≤ 1048576 := by omega
  have HLL := Lib.hid hL
  have HLB := Lib.hid hLb
  have HA1 := Lib.hid a1
  have HA2 := Lib.hid a2
  have HV1 := Lib.hid v1
  have HV2 := Lib.hid v2
  clear hv hu hsx hsy hjk lx ly a1 a2 v1 v2 hl hm hn hk hL hLb
  go_enter Try.func43, Try.ntmps43
  go_wp2_with (first
    | (go_at_call 28; (with_reducible refine KX.out.mono ?_); rintro e w1 ⟨v1, rfl, hr1, hb1⟩; have HR1 := Lib.hid hr1; have HB1 := Lib.hid hb1; clear hr1 hb1)
    | (go_at_call 28; (with_reducible refine (KY.out _ HB1.out).mono ?_); rintro e w2 ⟨v2, rfl, hr2, hb2⟩; have HR2 := Lib.hid hr2; have HB2 := Lib.hid hb2; have HR1' := Lib.hid (HR1.out.bl hb2); obtain ⟨A, c1, rfl, _, _, _, _⟩ := HR1'.out; obtain ⟨A2, c2, rfl, _, _, _, hx2⟩ := hr2; have HX2 := Lib.hid hx2; rw [HN.out] at HR1' ⊢; rw [HK.out]; clear hb2 hx2))
  clear hmk
  go_loopw [19] (fun s wr => ∃ (i : Nat) (out : List Nat), i ≤ k ∧ s = .int .i64 (i : Int) ∧ Hid (Bk .u64 23 wr w2.heap.size out) ∧ Hid (ScSt 18446744073709551616 X m n i out) ∧ Hid (Bl w2 wr)) (fun s _ => k - (intOf s).toNat)
  case atStart => exact ⟨0, _, Nat.zero_le _, rfl, Bk.made _ _ _ _, sc_start _ _ (by decide) _ _ _ (by rw [HK.out, HLL.out]), (Bl.refl w2).alloc _⟩
  case round =>
    obtain ⟨i, out, hil, rfl, hbk, hd, hb⟩ := hrel
    by_cases hlt : i < k
    · have him : i < m.length := by rw [HK.out]; exact hlt
      have holen : out.length = L := by rw [hd.out.len, HK.out, HLL.out]
      obtain ⟨ad, hA, hca⟩ := (HX2.out.bl hb.out).at_ (i := i) him
      have hst := fun c out' => sc_step (c := c) (out := out') hd.out HV1.out HN.out him
      have ha2 := HA2.out i him
      obtain ⟨y, ey⟩ : ∃ y, m[i] = y := ⟨_, rfl⟩
      rw [ey] at hca hst ha2
      have KT := Lib.hid (fun W' (g1 : Bl w2 W') (g2 : Bk .u64 23 W' w2.heap.size out) => paddTimes_any w2 W' w2.heap.size i (L - i) (L - i) (.slice A n c1) l y out g1 (Nat.le_refl _) g2 HR1'.out HA1.out hd.out.all (by rw [holen, HN.out]; have := HLL.out; omega) (by rw [HN.out]; have := HLL.out; omega) (by rw [holen]; have := HLB.out; omega) ha2)
      have HS := Lib.hid hst
      have b1 : (0 : Int) ≤ (i : Int) ∧ (i : Int) < (k : Int) := by omega
      have b2 : (0 : Int) ≤ (i : Int) ∧ (i : Int) ≤ (L : Int) := by have := HLL.out; omega
      have b3 : ¬ L = i := by have := HLL.out; omega
      obtain ⟨j, ej⟩ : ∃ j, i + n = j := ⟨_, rfl⟩
      have r1 : (i : Int) + (n : Int) = (j : Int) := by omega
      have r2 : IntKind.i64.wrap (j : Int) = (j : Int) := IntWalk.i64_in _ (by omega)
      have b4 : (0 : Int) ≤ (j : Int) ∧ (j : Int) < (L : Int) := by have := HLL.out; omega
      have hil1 : Hid (i + 1 ≤ k) := hlt
      have HJ := Lib.hid ej
      have HOL := Lib.hid holen
      subst hA
      clear hst hd ey ej ha2 him holen
      go_wp2
      go_region_with (go_at_call 63; (with_reducible refine (KT.out _ hb.out.drew hbk.out.drew).mono ?_); rintro e w' ⟨out', c, rfl, hbk', hat, hb', ho'⟩; have hjl : j < out'.length := (by have h1 := hat.len; have h2 := HOL.out; omega); have hco := hbk'.cell j hjl; have hfz := hbk'.free j; have HS2 := Lib.hid (HS.out _ _ hat); rw [HJ.out] at HS2; have HBK := Lib.hid (hbk'.set j c hjl); have HB3 := Lib.hid (hb'.setCell (p := ⟨w2.heap.size, j, none⟩) (Nat.le_refl _) (.int .u64 (c : Int))); clear hat hb' ho' hbk')
      go_wp2
      go_roundw
      case rel => exact ⟨i + 1, _, hil1.out, by go_num, HBK, HS2, HB3⟩
      case measure => have := hil1.out; simp [intOf] <;> omega
    · have hin : i = k := by omega
      subst hin
      have hout : out.length = L := by rw [hd.out.len, HK.out, HLL.out]
      have hval := sc_end hd.out (by rw [HK.out]; exact Nat.le_refl _)
      rw [HV2.out] at hval
      have KZ := Lib.hid (fun W' v' (h : Rw .u64 W' v' out) => pNorm W' v' _ (Nu.mk h hd.out.all (by rw [hout]; exact HLB.out)))
      rw [hval] at KZ
      have HRR := Lib.hid (hbk.out.rw (n := L) hout.symm (by have := HLB.out; unfold maxLen; omega))
      clear hout hval hd
      go_wp2_with (go_at_call 28; (with_reducible refine (KZ.out _ _ HRR.out).mono ?_); rintro e w' ⟨v', rfl, hr, hb'⟩; have HR' := Lib.hid hr; have HB' := Lib.hid hb'; clear hr hb')
      go_ret
      exact RwEnd.mk HR'.out ((HB1.out.trans HB2.out).trans (hb.out.trans HB'.out))
end Go.Proofs.Ytfmkbeffhdphfaa
