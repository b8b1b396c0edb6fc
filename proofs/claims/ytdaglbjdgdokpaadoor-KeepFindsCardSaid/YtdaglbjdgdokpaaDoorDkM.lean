/-
  Disks as plain data (layer 15): files by their names, in their order; what a crash leaves.
-/
import Derived.WalkKit
import Derived.Laws.Strings
namespace Go.Proofs.YtdaglbjdgdokpaaDoor
set_option linter.unusedVariables false
set_option linter.unusedSimpArgs false

/-! ### Strings -/
theorem less_lt : ∀ x y : List UInt8, Op.bytesLess x y = decide (x < y)
  | [], [] => by simp [Op.bytesLess]
  | _ :: _, [] => by simp [Op.bytesLess]
  | [], _ :: _ => by simp [Op.bytesLess]
  | a :: x, b :: y => by
    rw [Op.bytesLess, less_lt x y]
    simp only [List.cons_lt_cons_iff]
    by_cases h1 : a < b <;> by_cases h2 : a = b <;> by_cases h3 : x < y <;> simp [h1, h2, h3]
theorem tl_eq (a : ByteArray) : a.toList = a.data.toList := ByteArray.toList_eq a
theorem tl_inj {a b : ByteArray} : a.toList = b.toList ↔ a = b := by
  constructor
  · intro h
    rw [tl_eq, tl_eq] at h
    obtain ⟨⟨a⟩⟩ := a
    obtain ⟨⟨b⟩⟩ := b
    simp at h
    rw [h]
  · rintro rfl; rfl
def sLt (a b : ByteArray) : Bool := Op.bytesLess a.toList b.toList
def sEq (a b : ByteArray) : Bool := a.toList == b.toList
theorem sEq_iff {a b : ByteArray} : sEq a b = true ↔ a = b := by unfold sEq; rw [beq_iff_eq]; exact tl_inj
theorem sEq_not {a b : ByteArray} : sEq a b = false ↔ a ≠ b := by rw [← Bool.not_eq_true, Ne, sEq_iff]
theorem sEq_self (a : ByteArray) : sEq a a = true := sEq_iff.2 rfl
theorem sLt_irrefl (a : ByteArray) : sLt a a = false := by unfold sLt; rw [less_lt]; exact decide_eq_false (List.lt_irrefl _)
theorem sLt_trans {a b c : ByteArray} (h1 : sLt a b = true) (h2 : sLt b c = true) : sLt a c = true := by
  unfold sLt at *
  rw [less_lt] at *
  exact decide_eq_true (List.lt_trans (of_decide_eq_true h1) (of_decide_eq_true h2))
theorem sLt_tri {a b : ByteArray} (hne : a ≠ b) (h : sLt a b = false) : sLt b a = true := by
  unfold sLt at *
  rw [less_lt] at *
  refine decide_eq_true ?_
  have h1 : ¬ a.toList < b.toList := of_decide_eq_false h
  rcases List.le_iff_lt_or_eq.1 (List.not_lt.1 h1) with h2 | h2
  · exact h2
  · exact absurd (tl_inj.1 h2).symm hne
theorem sLt_ne {a b : ByteArray} (h : sLt a b = true) : a ≠ b := by
  rintro rfl
  rw [sLt_irrefl] at h
  cases h
theorem sLt_asymm {a b : ByteArray} (h : sLt a b = true) : sLt b a = false := by
  cases h2 : sLt b a with
  | false => rfl
  | true => have := sLt_trans h h2; rw [sLt_irrefl] at this; cases this
theorem sGt_eq (a b : ByteArray) : (!(sLt a b || sEq a b)) = sLt b a := by
  cases h : sLt a b with
  | true => rw [sLt_asymm h]; rfl
  | false =>
    cases h2 : sEq a b with
    | true => obtain rfl := sEq_iff.1 h2; rw [sLt_irrefl]; rfl
    | false => rw [sLt_tri (sEq_not.1 h2) h]; rfl

/-! ### Files -/
structure Fl where
  n : ByteArray
  d : ByteArray
  s : ByteArray
def flEq (a b : Fl) : Bool := sEq a.n b.n && sEq a.d b.d && sEq a.s b.s
theorem flEq_iff {a b : Fl} : flEq a b = true ↔ a = b := by
  obtain ⟨a1, a2, a3⟩ := a
  obtain ⟨b1, b2, b3⟩ := b
  simp [flEq, sEq_iff, and_assoc]
def fsEq : List Fl → List Fl → Bool
  | [], [] => true
  | a :: l, b :: m => flEq a b && fsEq l m
  | _, _ => false
theorem fsEq_iff : ∀ {l m : List Fl}, fsEq l m = true ↔ l = m
  | [], [] => by simp [fsEq]
  | _ :: _, [] => by simp [fsEq]
  | [], _ :: _ => by simp [fsEq]
  | a :: l, b :: m => by simp [fsEq, flEq_iff, fsEq_iff (l := l) (m := m)]
theorem fsEq_not {l m : List Fl} : fsEq l m = false ↔ l ≠ m := by rw [← Bool.not_eq_true, Ne, fsEq_iff]
def mayN (s : ByteArray) : Bool := decide (1 ≤ s.size) && decide (s.size ≤ 16)
/-- Names in strict order. -/
def Srt (l : List Fl) : Prop := (l.map Fl.n).Pairwise fun a b => sLt a b = true
theorem srt_get {l : List Fl} (h : Srt l) {i j : Nat} (hij : i < j) (hj : j < l.length) : sLt (l[i]'(by omega)).n l[j].n = true := by
  have := List.pairwise_iff_getElem.1 h i j (by simp; omega) (by simpa using hj) hij
  simpa using this
/-- A right disk. -/
def Rt (room : Int) (l : List Fl) : Prop := 0 ≤ room ∧ l.length ≤ 64 ∧ (∀ f ∈ l, mayN f.n = true) ∧ Srt l
noncomputable def rtB (room : Int) (l : List Fl) : Bool := @decide (Rt room l) (Classical.propDecidable _)
theorem rtB_iff {room : Int} {l : List Fl} : rtB room l = true ↔ Rt room l := by unfold rtB; exact @decide_eq_true_iff _ (Classical.propDecidable _)
theorem rtB_not {room : Int} {l : List Fl} : rtB room l = false ↔ ¬ Rt room l := by rw [← rtB_iff]; simp
/-- What the document's Right has looked at. -/
def RtTo (l : List Fl) (i : Nat) : Prop := ∀ j (h : j < l.length), j < i → mayN l[j].n = true ∧ ∀ (h0 : 0 < j), sLt (l[j - 1]'(by omega)).n l[j].n = true
theorem rtTo_zero (l : List Fl) : RtTo l 0 := fun j _ h => absurd h (Nat.not_lt_zero _)
theorem rtTo_step {l : List Fl} {i : Nat} (h : RtTo l i) (hi : i < l.length) (h1 : mayN l[i].n = true) (h2 : ∀ (h0 : 0 < i), sLt (l[i - 1]'(by omega)).n l[i].n = true) : RtTo l (i + 1) := by
  intro j hj hji
  rcases Nat.lt_succ_iff_lt_or_eq.1 hji with h3 | rfl
  · exact h j hj h3
  · exact ⟨h1, h2⟩
theorem srt_of {l : List Fl} (h : RtTo l l.length) : Srt l := by
  refine List.pairwise_iff_getElem.2 fun i j hi hj hij => ?_
  simp only [List.getElem_map]
  have hj' : j < l.length := by simpa using hj
  obtain ⟨k, rfl⟩ : ∃ k, j = i + 1 + k := ⟨j - (i + 1), by omega⟩
  induction k with
  | zero => exact (h (i + 1) hj' hj').2 (by omega)
  | succ k ih =>
    have h1 := ih (by simp; omega) (by omega) (by omega)
    have h2 := (h (i + 1 + (k + 1)) hj' hj').2 (by omega)
    exact sLt_trans h1 h2
theorem rt_of {room : Int} {l : List Fl} (h0 : 0 ≤ room) (h1 : l.length ≤ 64) (h : RtTo l l.length) : Rt room l :=
  ⟨h0, h1, fun f hf => by obtain ⟨i, hi, rfl⟩ := List.mem_iff_getElem.1 hf; exact (h i hi hi).1, srt_of h⟩

/-! ### Files by their names -/
def fnd (l : List Fl) (s : ByteArray) : Nat := l.findIdx fun f => sEq f.n s
def pos (l : List Fl) (s : ByteArray) : Nat := l.findIdx fun f => sLt s f.n
def ixv (n i : Nat) : Int := if i < n then (i : Int) else -1
def rem (l : List Fl) (i : Nat) : List Fl := l.take i ++ l.drop (i + 1)
def ins (l : List Fl) (f : Fl) : List Fl := l.take (pos l f.n) ++ f :: l.drop (pos l f.n)
theorem idx_at {p : Fl → Bool} {l : List Fl} {i : Nat} (hi : i < l.length) (h : p l[i] = true) (hb : ∀ j (hj : j < l.length), j < i → p l[j] = false) : l.findIdx p = i := (List.findIdx_eq hi).2 ⟨h, fun j hj => hb j (by omega) hj⟩
theorem idx_none {p : Fl → Bool} {l : List Fl} (hb : ∀ j (hj : j < l.length), p l[j] = false) : l.findIdx p = l.length := List.findIdx_eq_length.2 fun x hx => by obtain ⟨i, hi, rfl⟩ := List.mem_iff_getElem.1 hx; exact hb i hi
theorem fnd_le (l : List Fl) (s : ByteArray) : fnd l s ≤ l.length := List.findIdx_le_length
theorem pos_le (l : List Fl) (s : ByteArray) : pos l s ≤ l.length := List.findIdx_le_length
theorem fnd_name {l : List Fl} {s : ByteArray} (h : fnd l s < l.length) : l[fnd l s].n = s := by
  have := List.findIdx_getElem (p := fun f : Fl => sEq f.n s) (xs := l) (w := h)
  exact sEq_iff.1 this
theorem fnd_none {l : List Fl} {s : ByteArray} (h : ¬ fnd l s < l.length) : ∀ f ∈ l, f.n ≠ s := by
  intro f hf
  have h1 : fnd l s = l.length := by have := fnd_le l s; omega
  exact sEq_not.1 (List.findIdx_eq_length.1 h1 f hf)
theorem fnd_lt {l : List Fl} {s : ByteArray} {f : Fl} (hf : f ∈ l) (hn : f.n = s) : fnd l s < l.length := List.findIdx_lt_length_of_exists ⟨f, hf, sEq_iff.2 hn⟩
theorem srt_inj {l : List Fl} (h : Srt l) {f g : Fl} (hf : f ∈ l) (hg : g ∈ l) (hn : f.n = g.n) : f = g := by
  obtain ⟨i, hi, rfl⟩ := List.mem_iff_getElem.1 hf
  obtain ⟨j, hj, rfl⟩ := List.mem_iff_getElem.1 hg
  rcases Nat.lt_trichotomy i j with h1 | h1 | h1
  · exact absurd hn (sLt_ne (srt_get h h1 hj))
  · subst h1; rfl
  · exact absurd hn.symm (sLt_ne (srt_get h h1 hi))
/-- What is found is the one of that name. -/
theorem fnd_mem {l : List Fl} (h : Srt l) {f : Fl} (hf : f ∈ l) : ∃ hi : fnd l f.n < l.length, l[fnd l f.n] = f := ⟨fnd_lt hf rfl, srt_inj h (List.getElem_mem _) hf (fnd_name _)⟩
theorem rem_len {l : List Fl} {i : Nat} (h : i < l.length) : (rem l i).length + 1 = l.length := by simp [rem]; omega
theorem rem_sub (l : List Fl) (i : Nat) : (rem l i).Sublist l := by
  have h1 : (l.take i ++ l.drop (i + 1)).Sublist (l.take i ++ l.drop i) := by
    refine List.Sublist.append (List.Sublist.refl _) ?_
    rw [show i + 1 = i + 1 from rfl, ← List.drop_drop]
    exact List.drop_sublist _ _
  rwa [List.take_append_drop] at h1
theorem rem_srt {l : List Fl} (h : Srt l) (i : Nat) : Srt (rem l i) := List.Pairwise.sublist ((rem_sub l i).map _) h
theorem rem_mem {l : List Fl} (h : Srt l) {i : Nat} (hi : i < l.length) (g : Fl) : g ∈ rem l i ↔ g ∈ l ∧ g.n ≠ l[i].n := by
  constructor
  · intro hg
    refine ⟨(rem_sub l i).subset hg, fun hn => ?_⟩
    rcases List.mem_append.1 hg with h1 | h1
    · obtain ⟨j, hj, rfl⟩ := List.mem_iff_getElem.1 h1
      rw [List.length_take] at hj
      rw [List.getElem_take] at hn
      exact sLt_ne (srt_get h (show j < i by omega) hi) hn
    · obtain ⟨j, hj, rfl⟩ := List.mem_iff_getElem.1 h1
      rw [List.length_drop] at hj
      rw [List.getElem_drop] at hn
      exact sLt_ne (srt_get h (show i < i + 1 + j by omega) (by omega)) hn.symm
  · rintro ⟨hg, hn⟩
    obtain ⟨j, hj, rfl⟩ := List.mem_iff_getElem.1 hg
    have hji : j ≠ i := by rintro rfl; exact hn rfl
    rcases Nat.lt_or_gt_of_ne hji with h1 | h1
    · refine List.mem_append.2 (.inl (List.mem_iff_getElem.2 ⟨j, by rw [List.length_take]; omega, by rw [List.getElem_take]⟩))
    · refine List.mem_append.2 (.inr (List.mem_iff_getElem.2 ⟨j - (i + 1), by rw [List.length_drop]; omega, ?_⟩))
      rw [List.getElem_drop]
      congr 1
      omega
theorem ins_len (l : List Fl) (f : Fl) : (ins l f).length = l.length + 1 := by have := pos_le l f.n; simp [ins]; omega
theorem ins_mem (l : List Fl) (f g : Fl) : g ∈ ins l f ↔ g = f ∨ g ∈ l := by
  unfold ins
  rw [List.mem_append, List.mem_cons]
  have h1 : g ∈ l ↔ g ∈ l.take (pos l f.n) ∨ g ∈ l.drop (pos l f.n) := by rw [← List.mem_append, List.take_append_drop]
  rw [h1]
  constructor
  · rintro (h | h | h)
    · exact .inr (.inl h)
    · exact .inl h
    · exact .inr (.inr h)
  · rintro (h | h | h)
    · exact .inr (.inl h)
    · exact .inl h
    · exact .inr (.inr h)
theorem ins_srt {l : List Fl} (h : Srt l) {f : Fl} (hf : ∀ g ∈ l, g.n ≠ f.n) : Srt (ins l f) := by
  have hl : ((l.take (pos l f.n)).map Fl.n ++ (l.drop (pos l f.n)).map Fl.n).Pairwise fun a b => sLt a b = true := by rw [← List.map_append, List.take_append_drop]; exact h
  have hp := List.pairwise_append.1 hl
  have before : ∀ g ∈ l.take (pos l f.n), sLt g.n f.n = true := by
    intro g hg
    obtain ⟨j, hj, rfl⟩ := List.mem_iff_getElem.1 hg
    rw [List.length_take] at hj
    rw [List.getElem_take]
    have h1 := List.not_of_lt_findIdx (p := fun g : Fl => sLt f.n g.n) (xs := l) (i := j) (show j < pos l f.n by omega)
    exact sLt_tri (fun e => hf _ (List.getElem_mem _) e.symm) (by simpa using h1)
  have behind : ∀ g ∈ l.drop (pos l f.n), sLt f.n g.n = true := by
    intro g hg
    obtain ⟨j, hj, rfl⟩ := List.mem_iff_getElem.1 hg
    rw [List.length_drop] at hj
    rw [List.getElem_drop]
    have hpl : pos l f.n < l.length := by omega
    have h1 : sLt f.n l[pos l f.n].n = true := List.findIdx_getElem (p := fun g : Fl => sLt f.n g.n) (xs := l) (w := hpl)
    rcases Nat.eq_zero_or_pos j with h0 | h0
    · subst h0; exact h1
    · exact sLt_trans h1 (srt_get h (by omega) (by omega))
  unfold Srt ins
  rw [List.map_append, List.map_cons]
  refine List.pairwise_append.2 ⟨hp.1, List.pairwise_cons.2 ⟨?_, hp.2.1⟩, ?_⟩
  · intro b hb
    obtain ⟨g, hg, rfl⟩ := List.mem_map.1 hb
    exact behind g hg
  · intro a ha b hb
    obtain ⟨g, hg, rfl⟩ := List.mem_map.1 ha
    rcases List.mem_cons.1 hb with rfl | h2
    · exact before g hg
    · exact hp.2.2 _ ha _ h2
def used (l : List Fl) : Nat := (l.map fun f => f.d.size).sum

/-! ### The calls -/
/-- taken: what is left. -/
def tkL (l : List Fl) (s : ByteArray) : List Fl := if fnd l s < l.length then rem l (fnd l s) else l
def tkF (l : List Fl) (s : ByteArray) : Fl := l[fnd l s]?.getD ⟨⟨#[]⟩, ⟨#[]⟩, ⟨#[]⟩⟩
def tkB (l : List Fl) (s : ByteArray) : Bool := decide (fnd l s < l.length)
def wrL (l : List Fl) (s data : ByteArray) : List Fl := ins (tkL l s) ⟨s, data, (tkF l s).s⟩
def syL (l : List Fl) (s : ByteArray) : List Fl := ins (tkL l s) ⟨(tkF l s).n, (tkF l s).d, (tkF l s).d⟩
def rnL (l : List Fl) (s to : ByteArray) : List Fl := ins (tkL (tkL l s) to) ⟨to, (tkF l s).d, (tkF l s).s⟩
theorem tk_srt {l : List Fl} (h : Srt l) (s : ByteArray) : Srt (tkL l s) := by
  unfold tkL
  split
  · exact rem_srt h _
  · exact h
theorem tk_mem {l : List Fl} (h : Srt l) (s : ByteArray) (g : Fl) : g ∈ tkL l s ↔ g ∈ l ∧ g.n ≠ s := by
  unfold tkL
  split
  case isTrue h1 => rw [rem_mem h h1, fnd_name h1]
  case isFalse h1 => exact ⟨fun hg => ⟨hg, fnd_none h1 g hg⟩, fun hg => hg.1⟩
theorem tk_len (l : List Fl) (s : ByteArray) : (tkL l s).length ≤ l.length := by
  unfold tkL
  split
  case isTrue h1 => have := rem_len h1; omega
  case isFalse h1 => exact Nat.le_refl _
theorem tk_len1 {l : List Fl} {s : ByteArray} (h : fnd l s < l.length) : (tkL l s).length + 1 = l.length := by unfold tkL; rw [if_pos h]; exact rem_len h
theorem tkF_at {l : List Fl} {s : ByteArray} (h : fnd l s < l.length) : tkF l s = l[fnd l s] := by unfold tkF; rw [List.getElem?_eq_getElem h]; rfl
theorem tkF_no {l : List Fl} {s : ByteArray} (h : ¬ fnd l s < l.length) : tkF l s = ⟨⟨#[]⟩, ⟨#[]⟩, ⟨#[]⟩⟩ := by unfold tkF; rw [List.getElem?_eq_none (by omega)]; rfl
/-- A file put among those that have none of its name. -/
theorem put_srt {l : List Fl} (h : Srt l) (f : Fl) : Srt (ins (tkL l f.n) f) := ins_srt (tk_srt h _) fun g hg => ((tk_mem h _ g).1 hg).2
theorem put_mem {l : List Fl} (h : Srt l) (f g : Fl) : g ∈ ins (tkL l f.n) f ↔ g = f ∨ (g ∈ l ∧ g.n ≠ f.n) := by rw [ins_mem, tk_mem h]
/-- What Read reads. -/
def rdD (l : List Fl) (s : ByteArray) : ByteArray := if fnd l s < l.length then (tkF l s).d else ⟨#[]⟩
def rdE (l : List Fl) (s : ByteArray) : Int := if fnd l s < l.length then 0 else 9
theorem rd_mem {l : List Fl} (h : Srt l) {f : Fl} (hf : f ∈ l) : rdD l f.n = f.d ∧ rdE l f.n = 0 := by
  obtain ⟨hi, e⟩ := fnd_mem h hf
  unfold rdD rdE
  rw [if_pos hi, if_pos hi, tkF_at hi, e]
  exact ⟨rfl, rfl⟩
theorem rd_no {l : List Fl} {s : ByteArray} (h : ∀ f ∈ l, f.n ≠ s) : rdD l s = ⟨#[]⟩ ∧ rdE l s = 9 := by
  have hi : ¬ fnd l s < l.length := fun h1 => h _ (List.getElem_mem h1) (fnd_name h1)
  unfold rdD rdE
  rw [if_neg hi, if_neg hi]
  exact ⟨rfl, rfl⟩
/-- Two lists that hold the same of that name are read alike. -/
theorem rd_same {l m : List Fl} (hl : Srt l) (hm : Srt m) {s : ByteArray} (h : ∀ g : Fl, g.n = s → (g ∈ l ↔ g ∈ m)) : rdD l s = rdD m s ∧ rdE l s = rdE m s := by
  by_cases hi : fnd l s < l.length
  · have h1 : l[fnd l s] ∈ l := List.getElem_mem hi
    have h2 := fnd_name hi
    have h3 := (h _ h2).1 h1
    have a := rd_mem hl h1
    have b := rd_mem hm h3
    rw [h2] at a b
    exact ⟨a.1.trans b.1.symm, a.2.trans b.2.symm⟩
  · have h1 := fnd_none hi
    have a := rd_no h1
    have b := rd_no (l := m) (s := s) fun f hf hn => h1 f ((h f hn).2 hf) hn
    exact ⟨a.1.trans b.1.symm, a.2.trans b.2.symm⟩

/-! ### When the power goes -/
def tLen (f : Fl) (m : Nat) : Nat := if m % 2 = 1 then f.d.size else f.s.size
def tSrc (f : Fl) (m k : Nat) : ByteArray := if m / 2 ^ (1 + k % 63) % 2 = 1 then f.d else f.s
def tByte (f : Fl) (m i : Nat) : UInt8 := (tSrc f m (i / 16)).data.toList[i]?.getD 0
def torn (f : Fl) (m : Nat) : ByteArray := ⟨((List.range (tLen f m)).map (tByte f m)).toArray⟩
def ktp (f : Fl) (m : Nat) : ByteArray := if sEq f.d f.s = true then f.d else torn f m
def mk (ms : List Nat) (i : Nat) : Nat := if ms.length = 0 then 0 else ms[i % ms.length]?.getD 0
def crF (ms : List Nat) (i : Nat) (f : Fl) : Fl := ⟨f.n, ktp f (mk ms i), ktp f (mk ms i)⟩
def cr (l : List Fl) (ms : List Nat) : List Fl := l.mapIdx (crF ms)
theorem torn_size (f : Fl) (m : Nat) : (torn f m).size = tLen f m := by show ((List.range (tLen f m)).map (tByte f m)).toArray.size = _; simp
theorem cr_len (l : List Fl) (ms : List Nat) : (cr l ms).length = l.length := by simp [cr]
theorem cr_get (l : List Fl) (ms : List Nat) (i : Nat) (h : i < l.length) : (cr l ms)[i]'(by rw [cr_len]; exact h) = crF ms i l[i] := by simp [cr]
theorem ktp_same {f : Fl} (h : f.d = f.s) (m : Nat) : ktp f m = f.d := by unfold ktp; rw [if_pos (sEq_iff.2 h)]
theorem cr_names (l : List Fl) (ms : List Nat) : (cr l ms).map Fl.n = l.map Fl.n := by
  refine List.ext_getElem (by simp [cr_len]) fun i h1 h2 => ?_
  have hi : i < l.length := by simpa using h2
  rw [List.getElem_map, List.getElem_map, cr_get l ms i hi]
  rfl
theorem cr_srt {l : List Fl} (h : Srt l) (ms : List Nat) : Srt (cr l ms) := by unfold Srt; rw [cr_names]; exact h
theorem cr_twice (l : List Fl) (a b : List Nat) : cr (cr l a) b = cr l a := by
  refine List.ext_getElem (by simp [cr_len]) fun i h1 h2 => ?_
  have hi : i < l.length := by rw [cr_len] at h2; exact h2
  rw [cr_get _ b i h2, cr_get l a i hi]
  show (⟨_, _, _⟩ : Fl) = ⟨_, _, _⟩
  rw [ktp_same (f := crF a i l[i]) rfl]
  rfl
theorem rt_cr {room : Int} {l : List Fl} (h : Rt room l) (ms : List Nat) : Rt room (cr l ms) := by
  refine ⟨h.1, by rw [cr_len]; exact h.2.1, fun f hf => ?_, cr_srt h.2.2.2 ms⟩
  obtain ⟨i, hi, rfl⟩ := List.mem_iff_getElem.1 hf
  rw [cr_len] at hi
  rw [cr_get l ms i hi]
  show mayN l[i].n = true
  exact h.2.2.1 _ (List.getElem_mem hi)
theorem ones_bit : ∀ j : Fin 64, 18446744073709551615 / 2 ^ (j.1) % 2 = 1 := by decide +kernel
theorem ktp_ones (f : Fl) : ktp f 18446744073709551615 = f.d := by
  unfold ktp
  split
  · rfl
  · have hl : tLen f 18446744073709551615 = f.d.size := by unfold tLen; rw [if_pos (by decide)]
    have hb : ∀ i, tByte f 18446744073709551615 i = f.d.data.toList[i]?.getD 0 := by
      intro i
      unfold tByte tSrc
      have := ones_bit ⟨1 + i / 16 % 63, by have := Nat.mod_lt (i / 16) (show 0 < 63 by decide); omega⟩
      rw [if_pos this]
    refine tl_inj.1 ?_
    rw [tl_eq, tl_eq]
    show ((List.range (tLen f 18446744073709551615)).map (tByte f 18446744073709551615)).toArray.toList = _
    rw [hl, List.toList_toArray]
    have hs : f.d.size = f.d.data.toList.length := by show f.d.data.size = _; simp
    rw [hs]
    refine List.ext_getElem (by simp) fun i h1 h2 => ?_
    rw [List.getElem_map, hb, List.getElem_range, List.getElem?_eq_getElem h2]
    rfl
theorem mk_one (i : Nat) : mk [18446744073709551615] i = 18446744073709551615 := by
  unfold mk
  rw [if_neg (by simp)]
  have : i % [18446744073709551615].length = 0 := Nat.mod_one i
  rw [this]
  rfl
theorem mk_lt {ms : List Nat} (h : ∀ i (hi : i < ms.length), ms[i] < 18446744073709551616) (i : Nat) : mk ms i < 18446744073709551616 := by
  unfold mk
  split
  · decide
  · have hl : i % ms.length < ms.length := Nat.mod_lt _ (by omega)
    rw [List.getElem?_eq_getElem hl]
    exact h _ hl
end Go.Proofs.YtdaglbjdgdokpaaDoor
