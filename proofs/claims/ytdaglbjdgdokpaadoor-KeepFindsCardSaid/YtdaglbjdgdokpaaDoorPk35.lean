/-
  Layer 15's statements over plain data: what is right stays right; what is read behind a call; what a crash leaves.
-/
import Derived.Test.YtdaglbjdgdokpaaDoorPk33
import Derived.Test.YtdaglbjdgdokpaaDoorPk34
namespace Go.Proofs.YtdaglbjdgdokpaaDoor
open Go.RowKit
set_option linter.unusedVariables false
set_option linter.unusedSimpArgs false

theorem rt_put {room : Int} {l : List Fl} (h : Rt room l) (f : Fl) (hf : mayN f.n = true) (hl : (ins (tkL l f.n) f).length ≤ 64) : Rt room (ins (tkL l f.n) f) := by
  refine ⟨h.1, hl, fun g hg => ?_, put_srt h.2.2.2 f⟩
  rcases (put_mem h.2.2.2 f g).1 hg with rfl | h1
  · exact hf
  · exact h.2.2.1 g h1.1
theorem rt_tk {room : Int} {l : List Fl} (h : Rt room l) (s : ByteArray) : Rt room (tkL l s) :=
  ⟨h.1, Nat.le_trans (tk_len l s) h.2.1, fun g hg => h.2.2.1 g ((tk_mem h.2.2.2 s g).1 hg).1, tk_srt h.2.2.2 s⟩
theorem rt_wr {room : Int} {l : List Fl} (h : Rt room l) (s data : ByteArray) : Rt room (wrR room l s data) := by
  unfold wrR
  split
  case isFalse => exact h
  case isTrue h1 =>
    split
    case isTrue => exact h
    case isFalse h2 =>
      refine rt_put h ⟨s, data, (tkF l s).s⟩ h1 ?_
      have h3 : wrFull room l s data = false := by simpa using h2
      unfold wrFull at h3
      rw [Bool.or_eq_false_iff, decide_eq_false_iff_not] at h3
      have h4 := h3.1
      unfold wrL at h4
      exact Nat.le_of_not_lt h4
theorem wr_used {room : Int} {l : List Fl} {s data : ByteArray} (he : wrE room l s data = 0) : wrR room l s data = wrL l s data ∧ mayN s = true ∧ (used (wrL l s data) : Int) ≤ room := by
  unfold wrE at he
  split at he
  case isFalse => exact absurd he (by decide)
  case isTrue h1 =>
    split at he
    case isTrue => exact absurd he (by decide)
    case isFalse h2 =>
      have h3 : wrFull room l s data = false := by simpa using h2
      refine ⟨by unfold wrR; rw [if_pos h1, if_neg h2], h1, ?_⟩
      unfold wrFull at h3
      rw [Bool.or_eq_false_iff, decide_eq_false_iff_not, decide_eq_false_iff_not] at h3
      omega
theorem wrE_cases (room : Int) (l : List Fl) (s data : ByteArray) : wrE room l s data = 0 ∨ wrE room l s data = 8 ∨ wrE room l s data = 1 := by
  unfold wrE
  split
  · split
    · exact .inr (.inl rfl)
    · exact .inl rfl
  · exact .inr (.inr rfl)
theorem rt_rn {room : Int} {l : List Fl} (h : Rt room l) (s to : ByteArray) : Rt room (rnR l s to) := by
  unfold rnR
  split
  case isFalse => exact h
  case isTrue h1 =>
    split
    case isFalse => exact h
    case isTrue h2 =>
      have hl := tk_len1 h1
      have hl2 := tk_len (tkL l s) to
      have h64 := h.2.1
      refine rt_put (rt_tk h s) ⟨to, (tkF l s).d, (tkF l s).s⟩ h2 ?_
      rw [ins_len]
      show (tkL (tkL l s) to).length + 1 ≤ 64
      omega

/-! ### Sizes -/
theorem szs_tk {l : List Fl} (h : Szs l) (s : ByteArray) : Szs (tkL l s) := by
  unfold tkL
  split
  · exact fun f hf => h f ((rem_sub l _).subset hf)
  · exact h
theorem tkF_szs {l : List Fl} (h : Szs l) (s : ByteArray) : (tkF l s).n.size ≤ 140737488355328 ∧ (tkF l s).d.size ≤ 140737488355328 ∧ (tkF l s).s.size ≤ 140737488355328 := by
  by_cases hi : fnd l s < l.length
  · rw [tkF_at hi]; exact h _ (List.getElem_mem hi)
  · rw [tkF_no hi]; decide
theorem szs_ins {l : List Fl} (h : Szs l) (f : Fl) (hf : f.n.size ≤ 140737488355328 ∧ f.d.size ≤ 140737488355328 ∧ f.s.size ≤ 140737488355328) : Szs (ins l f) := by
  intro g hg
  rcases (ins_mem l f g).1 hg with rfl | h1
  · exact hf
  · exact h g h1
theorem szs_wr {l : List Fl} (h : Szs l) (room : Int) {s data : ByteArray} (hs : s.size ≤ 140737488355328) (hd : data.size ≤ 140737488355328) : Szs (wrR room l s data) := by
  unfold wrR
  split
  · split
    · exact h
    · exact szs_ins (szs_tk h s) _ ⟨hs, hd, (tkF_szs h s).2.2⟩
  · exact h
theorem szs_rn {l : List Fl} (h : Szs l) {s to : ByteArray} (ht : to.size ≤ 140737488355328) : Szs (rnR l s to) := by
  unfold rnR
  split
  · split
    · exact szs_ins (szs_tk (szs_tk h s) to) _ ⟨ht, (tkF_szs h s).2⟩
    · exact h
  · exact h
theorem szs_sy {l : List Fl} (h : Szs l) (s : ByteArray) : Szs (syR l s) := by
  unfold syR
  split
  · exact szs_ins (szs_tk h s) _ ⟨(tkF_szs h s).1, (tkF_szs h s).2.1, (tkF_szs h s).2.1⟩
  · exact h
theorem ktp_size {f : Fl} (h : f.d.size ≤ 140737488355328 ∧ f.s.size ≤ 140737488355328) (m : Nat) : (ktp f m).size ≤ 140737488355328 := by
  unfold ktp
  split
  · exact h.1
  · rw [torn_size]
    unfold tLen
    split
    · exact h.1
    · exact h.2
theorem szs_cr {l : List Fl} (h : Szs l) (ms : List Nat) : Szs (cr l ms) := by
  intro f hf
  obtain ⟨i, hi, rfl⟩ := List.mem_iff_getElem.1 hf
  rw [cr_len] at hi
  rw [cr_get l ms i hi]
  have h1 := h _ (List.getElem_mem hi)
  exact ⟨h1.1, ktp_size h1.2 _, ktp_size h1.2 _⟩

/-! ### What is read behind a call -/
theorem rd_put {l : List Fl} (h : Srt l) (f : Fl) : rdD (ins (tkL l f.n) f) f.n = f.d ∧ rdE (ins (tkL l f.n) f) f.n = 0 :=
  rd_mem (put_srt h f) ((put_mem h f f).2 (.inl rfl))
theorem rd_put_other {l : List Fl} (h : Srt l) (f : Fl) {o : ByteArray} (ho : o ≠ f.n) : rdD (ins (tkL l f.n) f) o = rdD l o ∧ rdE (ins (tkL l f.n) f) o = rdE l o := by
  refine rd_same (put_srt h f) h fun g hg => ?_
  rw [put_mem h]
  constructor
  · rintro (rfl | h1)
    · exact absurd hg.symm ho
    · exact h1.1
  · exact fun h1 => .inr ⟨h1, by rw [hg]; exact ho⟩
theorem rd_tk_other {l : List Fl} (h : Srt l) (s : ByteArray) {o : ByteArray} (ho : o ≠ s) : rdD (tkL l s) o = rdD l o ∧ rdE (tkL l s) o = rdE l o := by
  refine rd_same (tk_srt h s) h fun g hg => ?_
  rw [tk_mem h]
  exact ⟨fun h1 => h1.1, fun h1 => ⟨h1, by rw [hg]; exact ho⟩⟩
theorem rd_tk {l : List Fl} (h : Srt l) (s : ByteArray) : rdE (tkL l s) s = 9 := (rd_no fun f hf => ((tk_mem h s f).1 hf).2).2
theorem rd_wr_other {l : List Fl} (h : Srt l) (room : Int) (s data : ByteArray) {o : ByteArray} (ho : o ≠ s) : rdD (wrR room l s data) o = rdD l o ∧ rdE (wrR room l s data) o = rdE l o := by
  unfold wrR
  split
  · split
    · exact ⟨rfl, rfl⟩
    · exact rd_put_other h ⟨s, data, (tkF l s).s⟩ ho
  · exact ⟨rfl, rfl⟩
theorem rd_rn_other {l : List Fl} (h : Srt l) (s to : ByteArray) {o : ByteArray} (ho : o ≠ s) (ho2 : o ≠ to) : rdD (rnR l s to) o = rdD l o ∧ rdE (rnR l s to) o = rdE l o := by
  unfold rnR
  split
  · split
    · have h1 := rd_put_other (tk_srt h s) ⟨to, (tkF l s).d, (tkF l s).s⟩ ho2
      have h2 := rd_tk_other h s ho
      exact ⟨h1.1.trans h2.1, h1.2.trans h2.2⟩
    · exact ⟨rfl, rfl⟩
  · exact ⟨rfl, rfl⟩

/-! ### What was written is read -/
theorem fnd_put {l : List Fl} (h : Srt l) (f : Fl) : fnd (ins (tkL l f.n) f) f.n < (ins (tkL l f.n) f).length := fnd_lt ((put_mem h f f).2 (.inl rfl)) rfl
theorem tkF_put {l : List Fl} (h : Srt l) (f : Fl) : tkF (ins (tkL l f.n) f) f.n = f := by
  obtain ⟨hi, e⟩ := fnd_mem (put_srt h f) ((put_mem h f f).2 (.inl rfl))
  rw [tkF_at hi, e]
theorem wr_read {l : List Fl} (h : Srt l) (s data : ByteArray) : rdD (wrL l s data) s = data ∧ rdE (wrL l s data) s = 0 := rd_put h ⟨s, data, (tkF l s).s⟩
theorem wr_found {l : List Fl} (h : Srt l) (s data : ByteArray) : fnd (wrL l s data) s < (wrL l s data).length := fnd_put h ⟨s, data, (tkF l s).s⟩
theorem wr_srt {l : List Fl} (h : Srt l) (s data : ByteArray) : Srt (wrL l s data) := put_srt h ⟨s, data, (tkF l s).s⟩
theorem wr_tkF {l : List Fl} (h : Srt l) (s data : ByteArray) : (tkF (wrL l s data) s).d = data := by
  have := tkF_put h ⟨s, data, (tkF l s).s⟩
  unfold wrL
  rw [this]
theorem rn_read {l : List Fl} (h : Srt l) {s : ByteArray} (to : ByteArray) (hi : fnd l s < l.length) : rdD (rnL l s to) to = (tkF l s).d ∧ rdE (rnL l s to) to = 0 := rd_put (tk_srt h s) ⟨to, (tkF l s).d, (tkF l s).s⟩
theorem rn_gone {l : List Fl} (h : Srt l) {s to : ByteArray} (hne : s ≠ to) : rdE (rnL l s to) s = 9 := by
  have h1 := rd_put_other (tk_srt h s) ⟨to, (tkF l s).d, (tkF l s).s⟩ hne
  exact h1.2.trans (rd_tk h s)

/-! ### What a crash leaves -/
theorem cr_all (l : List Fl) (i : Nat) (hi : i < l.length) : ∃ h : i < (cr l [18446744073709551615]).length, (cr l [18446744073709551615])[i].d = l[i].d ∧ (cr l [18446744073709551615])[i].n = l[i].n := by
  refine ⟨by rw [cr_len]; exact hi, ?_⟩
  rw [cr_get l _ i hi]
  refine ⟨?_, rfl⟩
  show ktp l[i] (mk [18446744073709551615] i) = _
  rw [mk_one, ktp_ones]
/-- Each byte of what is left is one of the two, or 0; it is as long as the one or the other. -/
theorem ktp_byte (f : Fl) (m k : Nat) (hk : k < (ktp f m).size) : ((ktp f m).size = f.d.size ∨ (ktp f m).size = f.s.size) ∧ ((ktp f m).data.toList[k]?.getD 0 = 0 ∨ (k < f.d.size ∧ (ktp f m).data.toList[k]?.getD 0 = f.d.data.toList[k]?.getD 0) ∨ (k < f.s.size ∧ (ktp f m).data.toList[k]?.getD 0 = f.s.data.toList[k]?.getD 0)) := by
  unfold ktp at hk ⊢
  split
  case isTrue h => exact ⟨.inl rfl, .inr (.inl ⟨by rw [if_pos h] at hk; exact hk, rfl⟩)⟩
  case isFalse h =>
    rw [if_neg h, torn_size] at hk
    refine ⟨?_, ?_⟩
    · rw [torn_size]
      unfold tLen
      split
      · exact .inl rfl
      · exact .inr rfl
    · have e : (torn f m).data.toList[k]?.getD 0 = tByte f m k := by
        show (((List.range (tLen f m)).map (tByte f m)).toArray).toList[k]?.getD 0 = _
        rw [List.toList_toArray, List.getElem?_map, List.getElem?_range hk]
        rfl
      rw [e]
      have out : ∀ b : ByteArray, ¬ k < b.size → b.data.toList[k]?.getD 0 = 0 := by
        intro b hb
        rw [List.getElem?_eq_none (by rw [Array.length_toList]; exact Nat.le_of_not_lt hb)]
        rfl
      unfold tByte tSrc
      split
      · by_cases h1 : k < f.d.size
        · exact .inr (.inl ⟨h1, rfl⟩)
        · exact .inl (out _ h1)
      · by_cases h1 : k < f.s.size
        · exact .inr (.inr ⟨h1, rfl⟩)
        · exact .inl (out _ h1)
theorem ktp_long (f : Fl) (m : Nat) : (ktp f m).size = f.d.size ∨ (ktp f m).size = f.s.size := by
  unfold ktp
  split
  · exact .inl rfl
  · rw [torn_size]
    unfold tLen
    split
    · exact .inl rfl
    · exact .inr rfl

/-! ### What is synced -/
theorem sy_found {l : List Fl} {s : ByteArray} (h : fE l s = 0) : fnd l s < l.length := by
  unfold fE at h
  split at h
  case isTrue h1 => exact h1
  case isFalse => exact absurd h (by decide)
theorem sy_srt {l : List Fl} (h : Srt l) (s : ByteArray) : Srt (syR l s) := by
  unfold syR
  split
  case isFalse => exact h
  case isTrue hi =>
    have hn : (tkF l s).n = s := by rw [tkF_at hi]; exact fnd_name hi
    have h1 := put_srt h ⟨(tkF l s).n, (tkF l s).d, (tkF l s).d⟩
    unfold syL
    rw [hn] at h1 ⊢
    exact h1
theorem sy_mem {l : List Fl} (h : Srt l) {s : ByteArray} (hi : fnd l s < l.length) (g : Fl) : g ∈ syR l s ↔ g = ⟨s, (tkF l s).d, (tkF l s).d⟩ ∨ (g ∈ l ∧ g.n ≠ s) := by
  have hn : (tkF l s).n = s := by rw [tkF_at hi]; exact fnd_name hi
  unfold syR syL
  rw [if_pos hi, hn]
  exact put_mem h ⟨s, (tkF l s).d, (tkF l s).d⟩ g
/-- What is synced survives. -/
theorem sy_safe {l : List Fl} (h : Srt l) {s : ByteArray} (he : fE l s = 0) (ms : List Nat) : rdE l s = 0 ∧ rdD (cr (syR l s) ms) s = rdD l s ∧ rdE (cr (syR l s) ms) s = 0 := by
  have hi := sy_found he
  have hm : (⟨s, (tkF l s).d, (tkF l s).d⟩ : Fl) ∈ syR l s := (sy_mem h hi _).2 (.inl rfl)
  obtain ⟨i, hil, e⟩ := List.mem_iff_getElem.1 hm
  have hc : i < (cr (syR l s) ms).length := by rw [cr_len]; exact hil
  have ec : (cr (syR l s) ms)[i] = ⟨s, (tkF l s).d, (tkF l s).d⟩ := by
    rw [cr_get _ ms i hil, e]
    show (⟨_, _, _⟩ : Fl) = _
    rw [ktp_same (f := ⟨s, (tkF l s).d, (tkF l s).d⟩) rfl]
  have h1 := rd_mem (cr_srt (sy_srt h s) ms) (List.getElem_mem hc)
  rw [ec] at h1
  unfold rdE rdD at *
  rw [if_pos hi, if_pos hi]
  exact ⟨rfl, h1.1, h1.2⟩
theorem names_srt {l m : List Fl} (hl : Srt l) (hm : Srt m) (h : ∀ s, (∃ f ∈ l, f.n = s) ↔ ∃ f ∈ m, f.n = s) : l.map Fl.n = m.map Fl.n := by
  unfold Srt at hl hm
  have hs : ∀ s, s ∈ l.map Fl.n ↔ s ∈ m.map Fl.n := by intro s; simpa using h s
  generalize l.map Fl.n = a at *
  generalize m.map Fl.n = b at *
  clear h
  induction a generalizing b with
  | nil =>
    cases b with
    | nil => rfl
    | cons y b => exact absurd ((hs y).2 (List.mem_cons_self ..)) (by simp)
  | cons x a ih =>
    cases b with
    | nil => exact absurd ((hs x).1 (List.mem_cons_self ..)) (by simp)
    | cons y b =>
      have hxy : x = y := by
        rcases List.mem_cons.1 ((hs x).1 (List.mem_cons_self ..)) with h1 | h1
        · exact h1
        · rcases List.mem_cons.1 ((hs y).2 (List.mem_cons_self ..)) with h2 | h2
          · exact h2.symm
          · have k1 := (List.pairwise_cons.1 hl).1 _ h2
            have k2 := (List.pairwise_cons.1 hm).1 _ h1
            rw [sLt_asymm k1] at k2
            cases k2
      subst hxy
      rw [ih (List.pairwise_cons.1 hl).2 b (List.pairwise_cons.1 hm).2 ?_]
      intro s
      constructor
      · intro h1
        rcases List.mem_cons.1 ((hs s).1 (List.mem_cons_of_mem _ h1)) with h2 | h2
        · subst h2; exact absurd rfl (sLt_ne ((List.pairwise_cons.1 hl).1 _ h1))
        · exact h2
      · intro h1
        rcases List.mem_cons.1 ((hs s).2 (List.mem_cons_of_mem _ h1)) with h2 | h2
        · subst h2; exact absurd rfl (sLt_ne ((List.pairwise_cons.1 hm).1 _ h1))
        · exact h2
theorem sy_names {l : List Fl} (h : Srt l) {s : ByteArray} (he : fE l s = 0) : (syR l s).map Fl.n = l.map Fl.n := by
  have hi := sy_found he
  refine names_srt (sy_srt h s) h fun t => ?_
  constructor
  · rintro ⟨f, hf, rfl⟩
    rcases (sy_mem h hi f).1 hf with rfl | h1
    · exact ⟨l[fnd l s], List.getElem_mem hi, fnd_name hi⟩
    · exact ⟨f, h1.1, rfl⟩
  · rintro ⟨f, hf, rfl⟩
    by_cases hs : f.n = s
    · exact ⟨_, (sy_mem h hi _).2 (.inl rfl), hs.symm⟩
    · exact ⟨f, (sy_mem h hi f).2 (.inr ⟨hf, hs⟩), rfl⟩
theorem sy_len {l : List Fl} (h : Srt l) {s : ByteArray} (he : fE l s = 0) : (syR l s).length = l.length := by
  have := congrArg List.length (sy_names h he)
  simpa using this
end Go.Proofs.YtdaglbjdgdokpaaDoor
