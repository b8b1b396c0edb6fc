/-
  Rows of strings; the document's Strings of layer 15; strings.HasPrefix.
-/
import Derived.Test.YtgbeflocojmhhaaDkA
import Derived.Laws.Strings2
namespace Go.Proofs.Ytgbeflocojmhhaa
open Go.RowKit
set_option linter.unusedVariables false
set_option linter.unusedSimpArgs false

/-- A slice's places hold the strings l. -/
def Sq (w : World) (A : Option Addr) (l : List ByteArray) : Prop := 0 < l.length → ∃ b o, A = some ⟨b, o, none⟩ ∧ b < w.heap.size ∧ ∀ i (h : i < l.length), w.cell? ⟨b, o + i, none⟩ = some (.string l[i])
theorem Sq.bl {w w' : World} {A : Option Addr} {l : List ByteArray} (h : Sq w A l) (g : Bl w w') : Sq w' A l := by
  intro hl
  obtain ⟨b, o, ha, hb, hx⟩ := h hl
  exact ⟨b, o, ha, Nat.lt_of_lt_of_le hb g.size, fun i hi => (g.cell hb).trans (hx i hi)⟩
theorem Sq.at_ {w : World} {A : Option Addr} {l : List ByteArray} {i : Nat} (h : Sq w A l) (hi : i < l.length) : ∃ b o, A = some ⟨b, o, none⟩ ∧ w.cell? ⟨b, o + i, none⟩ = some (.string l[i]) := by
  obtain ⟨b, o, ha, hb, hx⟩ := h (by omega)
  exact ⟨b, o, ha, hx i hi⟩
def Sw (w : World) (v : Value) (l : List ByteArray) : Prop := ∃ A c, v = .slice A l.length c ∧ l.length ≤ c ∧ c ≤ maxLen ∧ (A = none → c = 0) ∧ Sq w A l
theorem Sw.bl {w w' : World} {v : Value} {l : List ByteArray} (h : Sw w v l) (g : Bl w w') : Sw w' v l := by
  obtain ⟨A, c, hv, h1, h2, h3, h4⟩ := h
  exact ⟨A, c, hv, h1, h2, h3, h4.bl g⟩
theorem sw_shape {w : World} {v : Value} {l : List ByteArray} (h : Sw w v l) : ∃ A c, v = .slice A l.length c := by
  obtain ⟨A, c, hv, _⟩ := h
  exact ⟨A, c, hv⟩
theorem sw_len {w : World} {v : Value} {l : List ByteArray} (h : Sw w v l) : l.length ≤ 9223372036854775807 := by
  obtain ⟨A, c, hv, h1, h2, _⟩ := h
  unfold maxLen at h2
  omega
/-- A row of the call's own. -/
def Os (base : Nat) (w : World) (v : Value) (l : List ByteArray) : Prop := w.ownsRow base 9 1 v l.length (l.map Value.string)
theorem Os.nil (base : Nat) (w : World) : Os base w (.slice none 0 0) [] := World.ownsRow_nil w base _ 1
theorem Os.sw {base : Nat} {w : World} {v : Value} {l : List ByteArray} (h : Os base w v l) : Sw w v l := by
  obtain ⟨h1, h2⟩ := h
  rcases h2 with ⟨rfl, h0⟩ | ⟨g, cap, cur, rfl, hb, hg, hc, hm, hs, ht⟩
  · have : l = [] := List.length_eq_zero_iff.1 h0
    subst this
    exact ⟨none, 0, rfl, Nat.le_refl _, by decide, fun _ => rfl, fun h => absurd h (by simp)⟩
  · refine ⟨some ⟨g, 0, none⟩, cap, rfl, hc, hm, (fun h => by cases h), fun hl => ⟨g, 0, rfl, (Array.getElem?_eq_some_iff.1 hg).1, fun i hi => ?_⟩⟩
    have hown : w.ownsRow base 9 1 (.slice (some ⟨g, 0, none⟩) l.length cap) l.length (l.map Value.string) := ⟨h1, .inr ⟨g, cap, cur, rfl, hb, hg, hc, hm, hs, ht⟩⟩
    rw [Nat.zero_add, hown.cellAt i (by omega)]
    simp [hi]
theorem Os.bl {base : Nat} {w w' : World} {v : Value} {l : List ByteArray} (h : Os base w v l) (g : Bl w w') : Os base w' v l :=
  World.ownsRow.kept h (row := none) ⟨g.os, g.tape, g.output, Below.size g, fun i hi _ => g.block i hi⟩ (by cases hv : v.ownBlock <;> simp)
theorem takeS_step {l m : List ByteArray} {i : Nat} (h : l.take i = m.take i) (hl : i < l.length) (hm : i < m.length) (e : sEq l[i] m[i] = true) : l.take (i + 1) = m.take (i + 1) := by
  rw [List.take_add_one, List.take_add_one, h, List.getElem?_eq_getElem hl, List.getElem?_eq_getElem hm, sEq_iff.1 e]
noncomputable def ssEq (l m : List ByteArray) : Bool := @decide (l = m) (Classical.propDecidable _)
theorem ssEq_iff {l m : List ByteArray} : ssEq l m = true ↔ l = m := by unfold ssEq; exact @decide_eq_true_iff _ (Classical.propDecidable _)
theorem ssEq_not {l m : List ByteArray} : ssEq l m = false ↔ l ≠ m := by rw [← Bool.not_eq_true, Ne, ssEq_iff]
theorem takeS_ne {l m : List ByteArray} {i : Nat} (hl : i < l.length) (hm : i < m.length) (e : sEq l[i] m[i] = false) : ssEq l m = false := by
  rw [ssEq_not]
  rintro rfl
  rw [sEq_self] at e
  cases e
theorem takeS_end {l m : List ByteArray} {i n : Nat} (hl : l.length = n) (hm : m.length = n) (h : l.take i = m.take i) (hi : i = n) : ssEq l m = true := by
  subst hi
  rw [ssEq_iff]
  have h1 := List.take_of_length_le (Nat.le_of_eq hl)
  have h2 := List.take_of_length_le (Nat.le_of_eq hm)
  rw [h1, h2] at h
  exact h
set_option maxRecDepth 100000 in
set_option maxHeartbeats 4000000 in
theorem rStrings_any (v u : Value) (l m : List ByteArray) (w : World) (hv : Sw w v l) (hu : Sw w u m) :
    Calls Try.prog 17 #[v, u] w fun e w' => e = .returned (.bool (ssEq l m)) ∧ Bl w w' := by
  have hnl := sw_len hv
  have hnm := sw_len hu
  obtain ⟨A1, c1, rfl, _, _, _, hx1⟩ := hv
  obtain ⟨A2, c2, rfl, _, _, _, hx2⟩ := hu
  have H1 := Lib.hid hx1
  have H2 := Lib.hid hx2
  clear hx1 hx2
  by_cases h : l.length = m.length
  · obtain ⟨n, hn⟩ : ∃ n, l.length = n := ⟨_, rfl⟩
    obtain ⟨b, hb⟩ : ∃ b, ssEq l m = b := ⟨_, rfl⟩
    have HL := Lib.hid hn
    have HM := Lib.hid (h.symm.trans hn)
    have HB := Lib.hid hb
    rw [hb]
    rw [← h, hn]
    rw [hn] at hnl
    have hnb : (n : Int) ≤ 9223372036854775807 := by omega
    have r1 : ((n : Int) != (n : Int)) = false := by rw [bne_eq_false_iff_eq]
    clear hn h hb hnl hnm
    go_enter Try.func17, Try.ntmps17
    go_wp2
    go_loopw [5] (fun s wr => ∃ i : Nat, i ≤ n ∧ s = .int .i64 (i : Int) ∧ Hid (l.take i = m.take i) ∧ Hid (Bl w wr)) (fun s _ => n - (intOf s).toNat)
    case atStart => exact ⟨0, Nat.zero_le _, rfl, by show l.take 0 = m.take 0; simp, Bl.refl w⟩
    case round =>
      obtain ⟨i, hin, rfl, ht, hb⟩ := hrel
      by_cases hlt : i < n
      · have hil : i < l.length := by rw [HL.out]; exact hlt
        have him : i < m.length := by rw [HM.out]; exact hlt
        obtain ⟨a1, o1, hA1, hc1⟩ := (H1.out.bl hb.out).at_ hil
        obtain ⟨a2, o2, hA2, hc2⟩ := (H2.out.bl hb.out).at_ him
        have s1 := Lib.hid (takeS_step ht.out hil him)
        have s2 := Lib.hid (takeS_ne (l := l) (m := m) hil him)
        obtain ⟨d1, e1⟩ : ∃ d, l[i] = d := ⟨_, rfl⟩
        obtain ⟨d2, e2⟩ : ∃ d, m[i] = d := ⟨_, rfl⟩
        rw [e1] at s1 s2 hc1
        rw [e2] at s1 s2 hc2
        have b2 : (0 : Int) ≤ (i : Int) ∧ (i : Int) < (n : Int) := by omega
        have HI : Hid (i + 1 ≤ n) := hlt
        subst hA1
        subst hA2
        clear e1 e2 hil him hlt
        cases eq : sEq d1 d2 with
        | false =>
          have HF := Lib.hid (HB.out.symm.trans (s2.out eq))
          have t1 : (d1.toList == d2.toList) = false := eq
          have t2 : ¬ d1.toList = d2.toList := by have := sEq_not.1 eq; exact fun e => this (tl_inj.1 e)
          clear s1 s2 eq
          go_wp2
          go_quiet (fail)
          go_wp2
          go_ret
          exact ⟨ret_b HF.out.symm, hb.out.drewN _⟩
        | true =>
          have HS := Lib.hid (s1.out eq)
          have t1 : (d1.toList == d2.toList) = true := eq
          have t2 : d1.toList = d2.toList := by rw [sEq_iff.1 eq]
          clear s1 s2 eq
          go_wp2
          go_quiet (fail)
          go_wp2
          go_roundw
          case rel => exact ⟨i + 1, HI.out, by go_num, HS.out, hb.out.drewN _⟩
          case measure => have := HI.out; simp [intOf] <;> omega
      · have hin' : i = n := by omega
        have HT := Lib.hid (HB.out.symm.trans (takeS_end HL.out HM.out ht.out hin'))
        clear hin'
        go_wp2
        go_ret
        exact ⟨ret_b HT.out.symm, hb.out⟩
  · have e0 : ssEq l m = false := by rw [ssEq_not]; rintro rfl; exact h rfl
    rw [e0]
    have r1 : ((l.length : Int) != (m.length : Int)) = true := by rw [bne_iff_ne]; omega
    have hnb : (l.length : Int) ≤ 9223372036854775807 := by omega
    have hnc : (m.length : Int) ≤ 9223372036854775807 := by omega
    clear h hnl hnm e0
    go_enter Try.func17, Try.ntmps17
    go_wp2
    go_ret
    exact ⟨rfl, Bl.refl w⟩
set_option maxRecDepth 100000 in
/-- Every string begins with the empty one. -/
theorem phas_none (s : ByteArray) (hs : s.size ≤ 140737488355328) (w : World) : Calls Try.prog 33 #[.string s, .string ⟨#[]⟩] w fun e w' => e = .returned (.bool true) ∧ w = w' := by
  have K : Calls Try.prog 42 #[.string s, .string ⟨#[]⟩] w fun e w' => e = .returned (.bool true) ∧ w = w' := by
    have hnb : (s.size : Int) ≤ 140737488355328 := by omega
    have e0 : s.extract 0 0 = ⟨#[]⟩ := by
      obtain ⟨⟨s⟩⟩ := s
      rw [ByteArray.extract_mk]
      simp
    have e1 : (⟨#[]⟩ : ByteArray).size = 0 := rfl
    go_enter Try.func42, Try.ntmps42
    go_wp2
    go_ret
    exact ⟨by simp, rfl⟩
  have HK := Lib.hid K
  clear K
  go_enter Try.func33, Try.ntmps33
  go_wp2_with (go_at_call 42; (with_reducible refine HK.out.mono ?_); rintro e w' ⟨rfl, rfl⟩)
  go_ret
  exact ⟨rfl, rfl⟩
end Go.Proofs.Ytgbeflocojmhhaa
