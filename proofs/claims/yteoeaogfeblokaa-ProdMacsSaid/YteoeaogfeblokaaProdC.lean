/-
  Package prod: School, over numbers.
-/
import Derived.Test.YteoeaogfeblokaaProdB
import Derived.Deep.RegionWith
namespace Go.Proofs.Yteoeaogfeblokaa
open Go.RowKit
set_option linter.unusedVariables false
set_option linter.unusedSimpArgs false

def CSchool : Prop := ∀ (W : World) (v u : Value) (X Y j k : Nat), Nu W v X → Nu W u Y → Sz j X → Sz k Y → j + k < 1048576 → Calls Try.prog 14 #[v, u] W (RwEnd .u64 W (dig 18446744073709551616 (X * Y)))

/-- The row of a product between two rounds: a's number times b's i lowest words. -/
structure ScSt (B X : Nat) (m : List Nat) (n i : Nat) (out : List Nat) : Prop where
  all : All B out
  len : out.length = n + m.length
  num : val B out = X * val B (m.take i)
  far : ∀ j, n + i ≤ j → j < n + m.length → out[j]? = some 0
theorem sc_start (B X : Nat) (hB : 0 < B) (m : List Nat) (n L : Nat) (h : L = n + m.length) : ScSt B X m n 0 (List.replicate L 0) := by
  refine ⟨fun i hi => by simpa using hB, by simp [h], ?_, fun j _ hj => by simp [h, hj]⟩
  have : ∀ k, val B (List.replicate k 0) = 0 := by
    intro k
    induction k with
    | zero => rfl
    | succ k ih => show 0 + B * val B (List.replicate k 0) = 0; rw [ih]; simp
  rw [this]
  simp [val]
theorem sc_step {B X : Nat} {l m : List Nat} {n i c : Nat} {row out : List Nat} (h : ScSt B X m n i row) (hX : val B l = X) (hn : l.length = n) (hi : i < m.length) (ha : AtSt B row l m[i] i l.length c out) :
    ScSt B X m n (i + 1) (out.set (i + n) c) := by
  have hlen : out.length = n + m.length := ha.len.trans h.len
  refine ⟨all_set ha.all _ _ ha.lt, by rw [List.length_set, hlen], ?_, fun j h1 h2 => ?_⟩
  · have hin : i + n < out.length := by omega
    have h1 := val_set B out (i + n) c hin
    have h2 := ha.num
    have h3 := ha.far (i + l.length) (Nat.le_refl _)
    rw [hn, h.far (i + n) (by omega) (by omega), List.getElem?_eq_getElem hin] at h3
    have h4 : out[i + n] = 0 := Option.some.inj h3
    rw [h4, Nat.mul_zero, Nat.add_zero] at h1
    rw [List.take_length, hX, hn] at h2
    rw [h1, h2, h.num, val_take_succ B m i hi, Nat.mul_add, ← Nat.mul_assoc (B ^ i), Nat.mul_comm (B ^ i) X, Nat.mul_assoc]
  · rw [List.getElem?_set_ne (by omega), ha.far j (by omega)]
    exact h.far j (by omega) h2
theorem sc_end {B X : Nat} {m : List Nat} {n i : Nat} {out : List Nat} (h : ScSt B X m n i out) (hi : m.length ≤ i) : val B out = X * val B m := by
  rw [h.num, List.take_of_length_le hi]

set_option maxRecDepth 100000 in
set_option maxHeartbeats 4000000 in
theorem pSchool : CSchool := by
  intro W v u X Y jx ky hv hu hsx hsy hjk
  obtain ⟨i0, hi, hz0, hz1, hz2⟩ := info_parts infoW
  have KX := Lib.hid (pNorm W v X hv)
  have KY := Lib.hid (fun W' (g : Bl W W') => pNorm W' u Y (hu.bl g))
  have lx := dig_len_of_lt 18446744073709551616 (by decide) X jx hsx
  have ly := dig_len_of_lt 18446744073709551616 (by decide) Y ky hsy
  have a1 := all_dig 18446744073709551616 (by decide) X
  have a2 := all_dig 18446744073709551616 (by decide) Y
  have v1 := val_dig 18446744073709551616 (by decide) X
  have v2 := val_dig 18446744073709551616 (by decide) Y
  obtain ⟨l, hl⟩ : ∃ l, dig 18446744073709551616 X = l := ⟨_, rfl⟩
  obtain ⟨m, hm⟩ : ∃ l, dig 18446744073709551616 Y = l := ⟨_, rfl⟩
  rw [hl] at KX lx a1 v1
  rw [hm] at KY ly a2 v2
  obtain ⟨n, hn⟩ : ∃ n, l.length = n := ⟨_, rfl⟩
  obtain ⟨k, hk⟩ : ∃ n, m.length = n := ⟨_, rfl⟩
  have HN := Lib.hid hn
  have HK := Lib.hid hk
  obtain ⟨L, hL⟩ : ∃ L, n + k = L := ⟨_, rfl⟩
  have hLb : L < 1048576 := by omega
  have hmk := fun W => run_mk (P := Try.prog) .u64 22 29 i0 Try.underlying22 hi hz0 hz1 (by omega) L (by omega) W
  have rL : (n : Int) + (k : Int) = (L : Int) := by omega
  have hnb : (n : Int) ≤ 1048576 := by omega
  have hkb : (k : Int) ≤ 1048576 := by omega
  have HLL := Lib.hid hL
  have HLB := Lib.hid hLb
  have HA1 := Lib.hid a1
  have HA2 := Lib.hid a2
  have HV1 := Lib.hid v1
  have HV2 := Lib.hid v2
  clear hv hu hsx hsy hjk lx ly a1 a2 v1 v2 hl hm hn hk hL hLb
  go_enter Try.func14, Try.ntmps14
  go_wp2_with (first
    | (go_at_call 30; (with_reducible refine KX.out.mono ?_); rintro e w1 ⟨v1, rfl, hr1, hb1⟩; have HR1 := Lib.hid hr1; have HB1 := Lib.hid hb1; clear hr1 hb1)
    | (go_at_call 30; (with_reducible refine (KY.out _ HB1.out).mono ?_); rintro e w2 ⟨v2, rfl, hr2, hb2⟩; have HR2 := Lib.hid hr2; have HB2 := Lib.hid hb2; have HR1' := Lib.hid (HR1.out.bl hb2); obtain ⟨A, c1, rfl, _, _, _, _⟩ := HR1'.out; obtain ⟨A2, c2, rfl, _, _, _, hx2⟩ := hr2; have HX2 := Lib.hid hx2; rw [HN.out] at HR1' ⊢; rw [HK.out]; clear hb2 hx2))
  clear hmk
  go_loopw [19] (fun s wr => ∃ (i : Nat) (out : List Nat), i ≤ k ∧ s = .int .i64 (i : Int) ∧ Hid (Bk .u64 29 wr w2.heap.size out) ∧ Hid (ScSt 18446744073709551616 X m n i out) ∧ Hid (Bl w2 wr)) (fun s _ => k - (intOf s).toNat)
  case atStart => exact ⟨0, _, Nat.zero_le _, rfl, Bk.made _ _ _ _, sc_start _ _ (by decide) _ _ _ (by rw [HK.out, HLL.out]), (Bl.refl w2).alloc _⟩
  case round =>
    obtain ⟨i, out, hil, rfl, hbk, hd, hb⟩ := hrel
    by_cases hlt : i < k
    · have him : i < m.length := by rw [HK.out]; exact hlt
      have holen : out.length = L := by rw [hd.out.len, HK.out, HLL.out]
      obtain ⟨ad, hA, hca⟩ := (HX2.out.bl hb.out).at_ (i := i) him
      have hst := fun c out' => sc_step (c := c) (out := out') hd.out HV1.out HN.out him
      have ha2 := HA2.out i him
      obtain ⟨y, ey⟩ : ∃ y, m[i] = y := ⟨_, rfl⟩
      rw [ey] at hca hst ha2
      have KT := Lib.hid (fun W' (g1 : Bl w2 W') (g2 : Bk .u64 29 W' w2.heap.size out) => paddTimes_any w2 W' w2.heap.size i (L - i) (L - i) (.slice A n c1) l y out g1 (Nat.le_refl _) g2 HR1'.out HA1.out hd.out.all (by rw [holen, HN.out]; have := HLL.out; omega) (by rw [HN.out]; have := HLL.out; omega) (by rw [holen]; have := HLB.out; omega) ha2)
      have HS := Lib.hid hst
      have b1 : (0 : Int) ≤ (i : Int) ∧ (i : Int) < (k : Int) := by omega
      have b2 : (0 : Int) ≤ (i : Int) ∧ (i : Int) ≤ (L : Int) := by have := HLL.out; omega
      have b3 : ¬ L = i := by have := HLL.out; omega
      obtain ⟨j, ej⟩ : ∃ j, i + n = j := ⟨_, rfl⟩
      have r1 : (i : Int) + (n : Int) = (j : Int) := by omega
      have r2 : IntKind.i64.wrap (j : Int) = (j : Int) := IntWalk.i64_in _ (by omega)
      have b4 : (0 : Int) ≤ (j : Int) ∧ (j : Int) < (L : Int) := by have := HLL.out; omega
      have hil1 : Hid (i + 1 ≤ k) := hlt
      have HJ := Lib.hid ej
      have HOL := Lib.hid holen
      subst hA
      clear hst hd ey ej ha2 him holen
      go_wp2
      go_region_with (go_at_call 31; (with_reducible refine (KT.out _ hb.out.drew hbk.out.drew).mono ?_); rintro e w' ⟨out', c, rfl, hbk', hat, hb', ho'⟩; have hjl : j < out'.length := (by have h1 := hat.len; have h2 := HOL.out; omega); have hco := hbk'.cell j hjl; have hfz := hbk'.free j; have HS2 := Lib.hid (HS.out _ _ hat); rw [HJ.out] at HS2; have HBK := Lib.hid (hbk'.set j c hjl); have HB3 := Lib.hid (hb'.setCell (p := ⟨w2.heap.size, j, none⟩) (Nat.le_refl _) (.int .u64 (c : Int))); clear hat hb' ho' hbk')
      go_wp2
      go_roundw
      case rel => exact ⟨i + 1, _, hil1.out, by go_num, HBK, HS2, HB3⟩
      case measure => have := hil1.out; simp [intOf] <;> omega
    · have hin : i = k := by omega
      subst hin
      have hout : out.length = L := by rw [hd.out.len, HK.out, HLL.out]
      have hval := sc_end hd.out (by rw [HK.out]; exact Nat.le_refl _)
      rw [HV2.out] at hval
      have KZ := Lib.hid (fun W' v' (h : Rw .u64 W' v' out) => pNorm W' v' _ (Nu.mk h hd.out.all (by rw [hout]; exact HLB.out)))
      rw [hval] at KZ
      have HRR := Lib.hid (hbk.out.rw (n := L) hout.symm (by have := HLB.out; unfold maxLen; omega))
      clear hout hval hd
      go_wp2_with (go_at_call 30; (with_reducible refine (KZ.out _ _ HRR.out).mono ?_); rintro e w' ⟨v', rfl, hr, hb'⟩; have HR' := Lib.hid hr; have HB' := Lib.hid hb'; clear hr hb')
      go_ret
      exact RwEnd.mk HR'.out ((HB1.out.trans HB2.out).trans (hb.out.trans HB'.out))
end Go.Proofs.Yteoeaogfeblokaa
