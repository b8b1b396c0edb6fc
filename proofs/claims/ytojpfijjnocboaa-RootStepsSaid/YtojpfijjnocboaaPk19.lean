/-
  Package nat: merged.
-/
import Derived.Test.YtojpfijjnocboaaPk18
import Derived.Laws.EntriesVeiled
namespace Go.Proofs.Ytojpfijjnocboaa
open Go.RowKit Go.Shelf
set_option linter.unusedVariables false
set_option linter.unusedSimpArgs false
attribute [local go_sem] Oper.semAt_some

def mgF (F : Nat → Nat → Nat → Nat) (m : List Nat) (i a c : Nat) : Nat := F a (m[i]?.getD 0) c

/-- Between two rounds: the closure's two cells, the row, the variables. -/
def MInv (w : World) (fid n : Nat) (P Q : Nat → Nat → Nat → Nat) (l0 : List Nat) (pre : List (Pl n)) (W : World) : Prop :=
  (Boxed W (w.heap.size + 1) 73 (.func (.func fid) #[] #[]) ∧ Boxed W (w.heap.size + 1 + 1) 23 (.int .u64 ((mrun P Q l0 (pre.map (·.1))).2 : Int)) ∧
    Boxed W (w.heap.size + 1 + 1 + 1) 22 (.slice (some ⟨w.heap.size, 0, none⟩) n n) ∧
    Boxed W (w.heap.size + 1 + 1 + 1 + 1) 74 (.func (.func 75) #[] #[.pointer (some ⟨w.heap.size + 1, 0, none⟩), .pointer (some ⟨w.heap.size + 1 + 1, 0, none⟩)]) ∧
    Bk .u64 23 W w.heap.size (mrun P Q l0 (pre.map (·.1))).1) ∧ Bl w W
theorem minv_own (w : World) (fid n : Nat) (P Q : Nat → Nat → Nat → Nat) (l0 : List Nat) (B : Nat) (hB : w.heap.size ≤ B) : OwnFrom B (MInv w fid n P Q l0) :=
  OwnFrom.and (Own.from (fun s A B row hs hg hr => ⟨cells_kept hs.1 hg hr, cells_kept hs.2.1 hg hr, cells_kept hs.2.2.1 hg hr, cells_kept hs.2.2.2.1 hg hr, cells_kept hs.2.2.2.2 hg hr⟩) _) (ownFrom_below (Nat.le_refl _) hB)
theorem boxed_other {W : World} {B : Nat} {t : TypeId} {v : Value} (h : Boxed W B t v) (b o : Nat) (u : Value) (hb : b ≠ B) : Boxed (W.setCell ⟨b, o, none⟩ u) B t v := by
  have hlt := h.lt
  show (W.heap.modify b _)[B]? = _
  rw [Array.getElem?_modify, if_neg hb]
  exact h
theorem bk_other {k : IntKind} {e : TypeId} {W : World} {g : Nat} {l : List Nat} (h : Bk k e W g l) (b o : Nat) (u : Value) (hb : b ≠ g) : Bk k e (W.setCell ⟨b, o, none⟩ u) g l := by
  show (W.heap.modify b _)[g]? = _
  rw [Array.getElem?_modify, if_neg hb]
  exact h
theorem setCell_heap_other (W : World) (b o : Nat) (u : Value) (j : Nat) (hb : b ≠ j) : (W.setCell ⟨b, o, none⟩ u).heap[j]? = W.heap[j]? := by
  show (W.heap.modify b _)[j]? = _
  rw [Array.getElem?_modify, if_neg hb]
/-- What a round of merged keeps. -/
def MK (w : World) (j : Nat) : Prop := j < w.heap.size ∨ j = w.heap.size + 1 + 1 + 1 + 1 + 1 ∨ j = w.heap.size + 1 + 1 + 1 + 1 + 1 + 1
theorem minv_step (w : World) (fid n : Nat) (P Q : Nat → Nat → Nat → Nat) (l0 : List Nat) (hl0 : l0.length = n) (pre : List (Pl n)) (x : Pl n) (W W' : World) (h : MInv w fid n P Q l0 pre W)
    (hW : W' = ((W.setCell ⟨w.heap.size + 1 + 1, 0, none⟩ (.int .u64 ((Q x.1 ((mrun P Q l0 (pre.map (·.1))).1[x.1]?.getD 0) (mrun P Q l0 (pre.map (·.1))).2 : Nat) : Int))).setCell ⟨w.heap.size, x.1, none⟩ (.int .u64 ((P x.1 ((mrun P Q l0 (pre.map (·.1))).1[x.1]?.getD 0) (mrun P Q l0 (pre.map (·.1))).2 : Nat) : Int))).drew) :
    KeepsOthers W W' ∧ KpB (MK w) W W' ∧ MInv w fid n P Q l0 (pre ++ [x]) W' := by
  obtain ⟨⟨b1, b2, b3, b4, bk⟩, hB⟩ := h
  have er : mrun P Q l0 ((pre ++ [x]).map (·.1)) = stp P Q (mrun P Q l0 (pre.map (·.1))) x.1 := by rw [List.map_append]; exact mrun_snoc _ _ _ _ _
  subst hW
  refine ⟨((KeepsOthers.setCell _ _ _).trans (KeepsOthers.setCell _ _ _)).trans (KeepsOthers.drew _), fun j hj => ?_, ⟨?_, ?_, ?_, ?_, ?_⟩, ?_⟩
  · have h1 : w.heap.size + 1 + 1 ≠ j ∧ w.heap.size ≠ j := by unfold MK at hj; omega
    exact (setCell_heap_other _ _ _ _ _ h1.2).trans (setCell_heap_other _ _ _ _ _ h1.1)
  · exact boxed_other (boxed_other b1 _ _ _ (by omega)) _ _ _ (by omega)
  · rw [er]
    exact boxed_other (b2.set _) _ _ _ (by omega)
  · exact boxed_other (boxed_other b3 _ _ _ (by omega)) _ _ _ (by omega)
  · exact boxed_other (boxed_other b4 _ _ _ (by omega)) _ _ _ (by omega)
  · rw [er]
    exact (bk_other bk _ _ _ (by omega)).set _ _ (by rw [mrun_len, hl0]; exact x.2)
  · exact ((hB.setCell (p := ⟨w.heap.size + 1 + 1, 0, none⟩) (by show w.heap.size ≤ w.heap.size + 1 + 1; omega) _).setCell (p := ⟨w.heap.size, x.1, none⟩) (Nat.le_refl _) _).drew

theorem rw_kept {k : IntKind} {W W' : World} {row : Option Nat} {v : Value} {l : List Nat} (h : Rw k W v l) (hg : W.grownBy W' row) (hr : ∀ r, row = some r → ∃ o : Obj, W.heap[r]? = some o ∧ o.isCells = false) : Rw k W' v l := by
  obtain ⟨A, c, hv, h1, h2, h3, h4⟩ := h
  refine ⟨A, c, hv, h1, h2, h3, fun hl => ?_⟩
  obtain ⟨ad, ha, hb, hx⟩ := h4 hl
  exact ⟨ad, ha, Nat.lt_of_lt_of_le hb hg.size, fun i hi => cell_kept (hx i hi) hg hr⟩
theorem rw_put {k : IntKind} {W : World} {v : Value} {l : List Nat} (h : Rw k W v l) {D : Nat} {o : Obj} (o' : Obj) (hD : W.heap[D]? = some o) (ho : o.isCells = false) : Rw k (W.putObj D o') v l :=
  rw_kept h (grownBy_putObj' _ D o') (fun r e => by cases e; exact ⟨_, hD, ho⟩)

set_option maxRecDepth 100000 in
set_option maxHeartbeats 4000000 in
theorem pmerged_any (fid n : Nat) (F G : Nat → Nat → Nat → Nat) (Pb : Nat → Prop) (hN : Nx fid F G Pb) (v u : Value) (l m : List Nat) (hl : All 18446744073709551616 l) (hln : l.length ≤ n) (hn : n < 1048577) (hml : m.length < 1048576) (hp : ∀ i : Nat, Pb (m[i]?.getD 0))
    (hw : Wds (mgF F m) (mgF G m)) (w : World) (hv : Rw .u64 w v l) (hu : Rw .u64 w u m) :
    Calls Try.prog 43 #[.func (.func fid) #[] #[], v, u, .int .i64 (n : Int)] w
      (RwEnd .u64 w (dig 18446744073709551616 (val 18446744073709551616 (mrun (mgF F m) (mgF G m) (l ++ List.replicate (n - l.length) 0) (List.range n)).1))) := by
  refine (callsIn_wide (n := 6)).1 ?_
  have KW := Lib.hid (fun w (h : Rw .u64 w v l) => pwidened_any v l n hln (by omega) w h)
  have HV := Lib.hid hv
  obtain ⟨B, c, rfl, hc, hcm, h0, hx⟩ := hu
  refine callsIn_of_wp_marks Try.func43 rfl trivial ?_ rfl
  simp only [Try.ntmps43, List.size_toArray, List.length_cons, List.length_nil, Nat.reduceAdd, Nat.reduceSub, Array.replicate_succ, Array.replicate_zero, List.push_toArray, List.append_toArray, List.nil_append, List.cons_append]
  gi_wp2_with (first
    | (refine ⟨trivial, ?_⟩; gi_at_call 61; refine (callsIn_wide.2 (KW.out _ HV.out)).mono ?_; rintro e w1 ⟨rfl, hbk, hbl, hsz⟩)
    | (refine ⟨trivial, ?_⟩; gi_at_call 62; refine (callsIn_wide.2 (pchain_any fid _)).mono ?_; rintro e w2 ⟨rfl, rfl⟩)
    | (refine ⟨trivial, ?_⟩; gi_at_call 63; refine (callsIn_wide.2 (pwords_any _ _ _ _ _)).mono ?_; rintro e w3 ⟨rfl, rfl⟩))
  obtain ⟨W0, hW0⟩ : ∃ W0, (((((w1.alloc (.cells #[.func (.func fid) #[] #[]] 73)).alloc (.cells #[.int .u64 0] 23)).alloc (.cells #[.slice (some ⟨w.heap.size, 0, none⟩) n n] 22)).alloc
      (.cells #[(.func (.func 75) #[] #[.pointer (some ⟨w.heap.size + 1, 0, none⟩), .pointer (some ⟨w.heap.size + 1 + 1, 0, none⟩)])] 74)).alloc (.cells #[.slice B m.length c] 22)).alloc (.cells #[.int .i64 (n : Int)] 3) = W0 := ⟨_, rfl⟩
  have hsz0 : W0.heap.size = w.heap.size + 1 + 1 + 1 + 1 + 1 + 1 + 1 := by rw [← hW0]; simp only [World.size_alloc, hsz]
  have b1 : Boxed W0 (w.heap.size + 1) 73 (.func (.func fid) #[] #[]) := by
    have := Boxed.new w1 73 (.func (.func fid) #[] #[])
    rw [hsz] at this
    rw [← hW0]; exact ((((this.alloc _).alloc _).alloc _).alloc _).alloc _
  have b2 : Boxed W0 (w.heap.size + 1 + 1) 23 (.int .u64 0) := by
    have := Boxed.new (w1.alloc (.cells #[.func (.func fid) #[] #[]] 73)) 23 (.int .u64 0)
    rw [World.size_alloc, hsz] at this
    rw [← hW0]; exact (((this.alloc _).alloc _).alloc _).alloc _
  have b3 : Boxed W0 (w.heap.size + 1 + 1 + 1) 22 (.slice (some ⟨w.heap.size, 0, none⟩) n n) := by
    have := Boxed.new ((w1.alloc (.cells #[.func (.func fid) #[] #[]] 73)).alloc (.cells #[.int .u64 0] 23)) 22 (.slice (some ⟨w.heap.size, 0, none⟩) n n)
    rw [World.size_alloc, World.size_alloc, hsz] at this
    rw [← hW0]; exact ((this.alloc _).alloc _).alloc _
  have b4 : Boxed W0 (w.heap.size + 1 + 1 + 1 + 1) 74 (.func (.func 75) #[] #[.pointer (some ⟨w.heap.size + 1, 0, none⟩), .pointer (some ⟨w.heap.size + 1 + 1, 0, none⟩)]) := by
    have := Boxed.new (((w1.alloc (.cells #[.func (.func fid) #[] #[]] 73)).alloc (.cells #[.int .u64 0] 23)).alloc (.cells #[.slice (some ⟨w.heap.size, 0, none⟩) n n] 22)) 74 (.func (.func 75) #[] #[.pointer (some ⟨w.heap.size + 1, 0, none⟩), .pointer (some ⟨w.heap.size + 1 + 1, 0, none⟩)])
    rw [World.size_alloc, World.size_alloc, World.size_alloc, hsz] at this
    rw [← hW0]; exact (this.alloc _).alloc _
  have b5 : Boxed W0 (w.heap.size + 1 + 1 + 1 + 1 + 1) 22 (.slice B m.length c) := by
    have := Boxed.new ((((w1.alloc (.cells #[.func (.func fid) #[] #[]] 73)).alloc (.cells #[.int .u64 0] 23)).alloc (.cells #[.slice (some ⟨w.heap.size, 0, none⟩) n n] 22)).alloc (.cells #[(.func (.func 75) #[] #[.pointer (some ⟨w.heap.size + 1, 0, none⟩), .pointer (some ⟨w.heap.size + 1 + 1, 0, none⟩)])] 74)) 22 (.slice B m.length c)
    rw [World.size_alloc, World.size_alloc, World.size_alloc, World.size_alloc, hsz] at this
    rw [← hW0]; exact this.alloc _
  have b6 : Boxed W0 (w.heap.size + 1 + 1 + 1 + 1 + 1 + 1) 3 (.int .i64 (n : Int)) := by
    have := Boxed.new (((((w1.alloc (.cells #[.func (.func fid) #[] #[]] 73)).alloc (.cells #[.int .u64 0] 23)).alloc (.cells #[.slice (some ⟨w.heap.size, 0, none⟩) n n] 22)).alloc (.cells #[(.func (.func 75) #[] #[.pointer (some ⟨w.heap.size + 1, 0, none⟩), .pointer (some ⟨w.heap.size + 1 + 1, 0, none⟩)])] 74)).alloc (.cells #[.slice B m.length c] 22)) 3 (.int .i64 (n : Int))
    rw [World.size_alloc, World.size_alloc, World.size_alloc, World.size_alloc, World.size_alloc, hsz] at this
    rw [← hW0]; exact this
  have hb1 : Bl w1 W0 := by rw [← hW0]; exact ((((((Bl.refl w1).alloc _).alloc _).alloc _).alloc _).alloc _).alloc _
  have bk := hbk.bl hb1
  have hB0 := hbl.trans hb1
  have hKs : ∀ j, MK w j → j < W0.heap.size := fun j hj => by rw [hsz0]; unfold MK at hj; omega
  rw [hW0]
  have hI0 : MInv w fid n (mgF F m) (mgF G m) (l ++ List.replicate (n - l.length) 0) [] W0 := ⟨⟨b1, b2, b3, b4, bk⟩, hB0⟩
  have hl0 : (l ++ List.replicate (n - l.length) 0).length = n := by simp; omega
  have hal : All 18446744073709551616 (l ++ List.replicate (n - l.length) 0) := by rw [wide_rowf l n hln]; exact all_rowf _ _ _ fun i => getD_lt hl i
  obtain ⟨l0, hl0e⟩ : ∃ l0, l ++ List.replicate (n - l.length) 0 = l0 := ⟨_, rfl⟩
  have HL0 := Lib.hid hl0e
  rw [hl0e] at hI0 hl0 hal ⊢
  clear hbk hbl hb1 hsz hl0e hW0 bk b1 b2 b3 b4 KW HV hv hln hl
  refine wpIn_rangeFunc_ownF (α := Pl n) rfl (by decide) (gf := 76) (lb := #[.pointer (some ⟨w.heap.size + 1 + 1 + 1 + 1 + 1 + 1, 0, none⟩), .pointer (some ⟨w.heap.size + 1 + 1 + 1 + 1 + 1, 0, none⟩)]) rfl trivial (enters_of Try.func76 (by kernel_rfl) rfl)
    (words_stops Fence.wide (6 - 1) trivial rfl (by decide) n c (w.heap.size + 1 + 1 + 1 + 1 + 1 + 1) (w.heap.size + 1 + 1 + 1 + 1 + 1) (MK w) B m (by omega) (by omega) W0 (.inr (.inr rfl)) b6.cell (.inr (.inl rfl)) b5.cell hKs
      (fun i h => by
        obtain ⟨ad, h1, h2, h3⟩ := hx (by omega)
        exact ⟨ad, h1, .inl h2, (hB0.cell (p := ad.add i) (by rw [blk_add]; exact h2)).trans (h3 i h)⟩))
    KpB.trans (KpB.put hKs) (Below.refl _ _) (fun _ => rfl)
    (MInv w fid n (mgF F m) (mgF G m) l0) (fun _ _ _ => False) (minv_own w fid n _ _ _ _ (by omega)) (fun _ _ _ _ _ hs _ _ => hs) hI0
    (fun x => { tmps := #[.func (.func fid) #[] #[], v, .slice B m.length c, .int .i64 (n : Int), undef, undef, undef,
          undef, .slice none 0 0, .pointer (some ⟨w.heap.size + 1 + 1 + 1, 0, none⟩),
          .pointer (some ⟨w.heap.size + 1 + 1 + 1 + 1, 0, none⟩), .int .i64 (x.1 : Int), .int .u64 ((m[x.1]?.getD 0 : Nat) : Int), v,
          .int .i64 (n : Int), .slice (some ⟨w.heap.size, 0, none⟩) n n, .func (.func fid) #[] #[],
          (.func (.func 75) #[] #[.pointer (some ⟨w.heap.size + 1, 0, none⟩), .pointer (some ⟨w.heap.size + 1 + 1, 0, none⟩)]),
          .slice B m.length c, .int .i64 (n : Int),
          .func (.func 76) #[] #[.pointer (some ⟨w.heap.size + 1 + 1 + 1 + 1 + 1 + 1, 0, none⟩), .pointer (some ⟨w.heap.size + 1 + 1 + 1 + 1 + 1, 0, none⟩)],
          .int .i64 (x.1 : Int), .int .u64 ((m[x.1]?.getD 0 : Nat) : Int), undef, undef, undef, undef, undef, undef, undef, undef, undef, undef, undef, undef], defers := [] }) ?assign ?body ?done ?stop
  case assign =>
    intro l x W K hK
    gi_wp2
    exact hK
  case body =>
    rintro lp pre ⟨i, hi⟩ W hI _
    obtain ⟨⟨b1, b2, b3, b4, bk⟩, hB⟩ := id hI
    have hok := mrun_ok hw hal (pre.map (·.1))
    have hlen : (mrun (mgF F m) (mgF G m) l0 (pre.map (·.1))).1.length = n := by rw [mrun_len, hl0]
    have hstep := fun W' => minv_step w fid n _ _ l0 hl0 pre ⟨i, hi⟩ W W' hI
    dsimp only at hstep
    have HS := Lib.hid hstep
    clear hstep hI
    obtain ⟨⟨row, car⟩, hst⟩ : ∃ st, mrun (mgF F m) (mgF G m) l0 (pre.map (·.1)) = st := ⟨_, rfl⟩
    rw [hst] at hok hlen b2 bk HS
    dsimp only at hok hlen b2 bk HS
    have hcell : W.cell? ⟨w.heap.size, i, none⟩ = some (.int .u64 ((row[i]?.getD 0 : Nat) : Int)) := by
      have h1 : i < row.length := by omega
      have := bk.cell i h1
      rwa [show row[i] = row[i]?.getD 0 by simp [h1]] at this
    have KN := hN (row[i]?.getD 0) (m[i]?.getD 0) car (w.heap.size + 1) (w.heap.size + 1 + 1) W.drew (getD_lt hok.1 i) (hp i) hok.2 b1.cell b2.cell b2.frozen
    have b3 : Boxed W.drew _ _ _ := b3
    have b4 : Boxed W.drew _ _ _ := b4
    have bk : Bk .u64 23 W.drew _ _ := bk
    have hcell : W.drew.cell? ⟨w.heap.size, i, none⟩ = some (.int .u64 ((row[i]?.getD 0 : Nat) : Int)) := hcell
    have bk' := bk_other bk (w.heap.size + 1 + 1) 0 (.int .u64 ((G (row[i]?.getD 0) (m[i]?.getD 0) car : Nat) : Int)) (by omega)
    have b3' := boxed_other b3 (w.heap.size + 1 + 1) 0 (.int .u64 ((G (row[i]?.getD 0) (m[i]?.getD 0) car : Nat) : Int)) (by omega)
    have b4' := boxed_other b4 (w.heap.size + 1 + 1) 0 (.int .u64 ((G (row[i]?.getD 0) (m[i]?.getD 0) car : Nat) : Int)) (by omega)
    have hcell' : (W.drew.setCell ⟨w.heap.size + 1 + 1, 0, none⟩ (.int .u64 ((G (row[i]?.getD 0) (m[i]?.getD 0) car : Nat) : Int))).cell? ⟨w.heap.size, i, none⟩ = some (.int .u64 ((row[i]?.getD 0 : Nat) : Int)) := by
      have h1 : i < row.length := by omega
      have := bk'.cell i h1
      rwa [show row[i] = row[i]?.getD 0 by simp [h1]] at this
    change Hid (∀ W', W' = ((W.drew.setCell ⟨w.heap.size + 1 + 1, 0, none⟩ (.int .u64 ((G (row[i]?.getD 0) (m[i]?.getD 0) car : Nat) : Int))).setCell ⟨w.heap.size, i, none⟩ (.int .u64 ((F (row[i]?.getD 0) (m[i]?.getD 0) car : Nat) : Int))) → _) at HS
    obtain ⟨y, hy⟩ : ∃ y, F (row[i]?.getD 0) (m[i]?.getD 0) car = y := ⟨_, rfl⟩
    obtain ⟨z, hz⟩ : ∃ z, G (row[i]?.getD 0) (m[i]?.getD 0) car = z := ⟨_, rfl⟩
    rw [hy, hz] at KN HS
    rw [hz] at bk' b3' b4' hcell'
    obtain ⟨a, hA⟩ : ∃ a, row[i]?.getD 0 = a := ⟨_, rfl⟩
    rw [hA] at KN hcell hcell'
    obtain ⟨q, hq⟩ : ∃ q, m[i]?.getD 0 = q := ⟨_, rfl⟩
    rw [hq] at KN
    have KM : Calls Try.prog 75 #[.int .u64 (a : Int), .int .u64 (q : Int), .pointer (some ⟨w.heap.size + 1, 0, none⟩), .pointer (some ⟨w.heap.size + 1 + 1, 0, none⟩)] W.drew
        fun e w' => e = .returned (.int .u64 (y : Int)) ∧ (w'.cell? ⟨w.heap.size + 1 + 1 + 1, 0, none⟩ = some (.slice (some ⟨w.heap.size, 0, none⟩) n n) ∧ w'.cell? ⟨w.heap.size + 1 + 1 + 1 + 1, 0, none⟩ = some (.func (.func 75) #[] #[.pointer (some ⟨w.heap.size + 1, 0, none⟩), .pointer (some ⟨w.heap.size + 1 + 1, 0, none⟩)]) ∧ w'.cell? ⟨w.heap.size, i, none⟩ = some (.int .u64 (a : Int)) ∧ w'.frozen? ⟨w.heap.size, i, none⟩ = false) ∧
          Hid (w' = W.drew.setCell ⟨w.heap.size + 1 + 1, 0, none⟩ (.int .u64 (z : Int))) := KN.mono fun e w' h => by
      obtain ⟨rfl, rfl⟩ := h
      exact ⟨rfl, ⟨b3'.cell, b4'.cell, hcell', bk'.free i⟩, rfl⟩
    have HK := Lib.hid KM
    have hc3 := b3.cell
    have hc4 := b4.cell
    have hfr := bk.free i
    have n1 : (0 : Int) ≤ (i : Int) ∧ (i : Int) < (n : Int) := by omega
    have hmx : Try.prog.follows .mixedOrders = true := by kernel_rfl
    show Code.wpIn _ _ _ _ _ { tmps := #[.func (.func fid) #[] #[], v, .slice B m.length c, .int .i64 (n : Int), undef, undef, undef,
          undef, .slice none 0 0, .pointer (some ⟨w.heap.size + 1 + 1 + 1, 0, none⟩),
          .pointer (some ⟨w.heap.size + 1 + 1 + 1 + 1, 0, none⟩), .int .i64 (i : Int), .int .u64 ((m[i]?.getD 0 : Nat) : Int), v,
          .int .i64 (n : Int), .slice (some ⟨w.heap.size, 0, none⟩) n n, .func (.func fid) #[] #[],
          (.func (.func 75) #[] #[.pointer (some ⟨w.heap.size + 1, 0, none⟩), .pointer (some ⟨w.heap.size + 1 + 1, 0, none⟩)]),
          .slice B m.length c, .int .i64 (n : Int),
          .func (.func 76) #[] #[.pointer (some ⟨w.heap.size + 1 + 1 + 1 + 1 + 1 + 1, 0, none⟩), .pointer (some ⟨w.heap.size + 1 + 1 + 1 + 1 + 1, 0, none⟩)],
          .int .i64 (i : Int), .int .u64 ((m[i]?.getD 0 : Nat) : Int), undef, undef, undef, undef, undef, undef, undef, undef, undef, undef, undef, undef], defers := [] } W
    rw [hq]
    clear KN KM b1 b2 b3 b4 bk b3' b4' bk' hok hlen hst hA hq hy hz hB hw hal hI0 hp hN
    gi_wp2
    refine region_inRound (fun W' => W'.cell? ⟨w.heap.size + 1 + 1 + 1, 0, none⟩ = some (.slice (some ⟨w.heap.size, 0, none⟩) n n) ∧ W'.cell? ⟨w.heap.size + 1 + 1 + 1 + 1, 0, none⟩ = some (.func (.func 75) #[] #[.pointer (some ⟨w.heap.size + 1, 0, none⟩), .pointer (some ⟨w.heap.size + 1 + 1, 0, none⟩)])) hmx (noDef_spec (by kernel_rfl)) (fun ⟨_, _, h⟩ => h) ?_
    have hS : W.drew.cell? ⟨w.heap.size + 1 + 1 + 1, 0, none⟩ = some (.slice (some ⟨w.heap.size, 0, none⟩) n n) ∧ W.drew.cell? ⟨w.heap.size + 1 + 1 + 1 + 1, 0, none⟩ = some (.func (.func 75) #[] #[.pointer (some ⟨w.heap.size + 1, 0, none⟩), .pointer (some ⟨w.heap.size + 1 + 1, 0, none⟩)]) := ⟨hc3, hc4⟩
    refine wpAnyH_take (i := 1) (v := .int .i64 (i : Int)) rfl (by kernel_rfl) (by kernel_rfl) (by kernel_rfl) (fun _ _ _ h => h) (Or.inl ⟨by rfl, ?_⟩) hS ?_
    · intro w hSw
      obtain ⟨hSa, hSb⟩ := hSw
      go_simp
    try simp only [Act.put, List.setIfInBounds_toArray, List.set_cons_zero, List.set_cons_succ]
    refine wpAnyH_take (i := 4) (v := .int .i64 (i : Int)) rfl (by kernel_rfl) (by kernel_rfl) (by kernel_rfl) (fun _ _ _ h => h) (Or.inl ⟨by rfl, ?_⟩) hS ?_
    · intro w hSw
      obtain ⟨hSa, hSb⟩ := hSw
      go_simp
    try simp only [Act.put, List.setIfInBounds_toArray, List.set_cons_zero, List.set_cons_succ]
    refine wpAnyH_take (i := 7) (v := .int .u64 (q : Int)) rfl (by kernel_rfl) (by kernel_rfl) (by kernel_rfl) (fun _ _ _ h => h) (Or.inl ⟨by rfl, ?_⟩) hS ?_
    · intro w hSw
      obtain ⟨hSa, hSb⟩ := hSw
      go_simp
    try simp only [Act.put, List.setIfInBounds_toArray, List.set_cons_zero, List.set_cons_succ]
    refine wpAnyH_take (i := 0) (v := .slice (some ⟨w.heap.size, 0, none⟩) n n) rfl (by kernel_rfl) (by kernel_rfl) (by kernel_rfl) (fun _ _ _ h => h) (Or.inl ⟨by rfl, ?_⟩) hS ?_
    · intro w hSw
      obtain ⟨hSa, hSb⟩ := hSw
      go_simp
    try simp only [Act.put, List.setIfInBounds_toArray, List.set_cons_zero, List.set_cons_succ]
    refine wpAnyH_take (i := 2) (v := .func (.func 75) #[] #[.pointer (some ⟨w.heap.size + 1, 0, none⟩), .pointer (some ⟨w.heap.size + 1 + 1, 0, none⟩)]) rfl (by kernel_rfl) (by kernel_rfl) (by kernel_rfl) (fun _ _ _ h => h) (Or.inl ⟨by rfl, ?_⟩) hS ?_
    · intro w hSw
      obtain ⟨hSa, hSb⟩ := hSw
      go_simp
    try simp only [Act.put, List.setIfInBounds_toArray, List.set_cons_zero, List.set_cons_succ]
    refine wpAnyH_take (i := 3) (v := .slice (some ⟨w.heap.size, 0, none⟩) n n) rfl (by kernel_rfl) (by kernel_rfl) (by kernel_rfl) (fun _ _ _ h => h) (Or.inl ⟨by rfl, ?_⟩) hS ?_
    · intro w hSw
      obtain ⟨hSa, hSb⟩ := hSw
      go_simp
    try simp only [Act.put, List.setIfInBounds_toArray, List.set_cons_zero, List.set_cons_succ]
    refine wpAnyH_take (i := 5) (v := .pointer (some ⟨w.heap.size, i, none⟩)) rfl (by kernel_rfl) (by kernel_rfl) (by kernel_rfl) (fun _ _ _ h => h) (Or.inl ⟨by rfl, ?_⟩) hS ?_
    · intro w hSw
      obtain ⟨hSa, hSb⟩ := hSw
      go_simp
    try simp only [Act.put, List.setIfInBounds_toArray, List.set_cons_zero, List.set_cons_succ]
    refine wpAnyH_ready (rs := [6]) (by kernel_rfl) (by simp) (AllReadyH.cons rfl (fun K hK => ?_) AllReadyH.nil)
    go_simp
    refine hK.out _ _ hS (fun _ => ?_)
    clear hK K
    try simp only [Act.put, List.setIfInBounds_toArray, List.set_cons_zero, List.set_cons_succ]
    refine wpAnyH_ready (rs := [8]) (by kernel_rfl) (by simp) (AllReadyH.cons rfl (fun K hK => ?_) AllReadyH.nil)
    go_simp
    refine HK.out.mono ?_
    rintro e w' ⟨rfl, ⟨g1, g2, g3, g4⟩, g5⟩
    refine hK.out _ _ ⟨g1, g2⟩ (fun _ => ?_)
    clear hK K hS
    try simp only [Act.put, List.setIfInBounds_toArray, List.set_cons_zero, List.set_cons_succ]
    refine wpAnyH_take (i := 9) (v := .pointer (some ⟨w.heap.size, i, none⟩)) rfl (by kernel_rfl) (by kernel_rfl) (by kernel_rfl) (fun _ _ _ h => h) (Or.inl ⟨by rfl, ?_⟩) ⟨g1, g2⟩ ?_
    · intro w hSw
      go_simp
    try simp only [Act.put, List.setIfInBounds_toArray, List.set_cons_zero, List.set_cons_succ]
    refine wpAnyH_ready (rs := [10]) (by kernel_rfl) (by simp) (AllReadyH.cons rfl (fun K hK => ?_) AllReadyH.nil)
    go_simp
    refine hK.out _ _ ⟨(World.cell?_setCell_far _ _ _ _ (by simp; omega)).trans g1, (World.cell?_setCell_far _ _ _ _ (by simp; omega)).trans g2⟩ (fun _ => ?_)
    clear hK K
    refine wpAnyH_done (by kernel_rfl) ?_ _
    exact HS.out _ (by rw [g5.out])
  case done =>
    rintro D xs W hD hS hI hK
    obtain ⟨⟨b1, b2, b3, b4, bk⟩, hB⟩ := hI
    rw [hS] at bk
    have hok := mrun_ok hw hal (List.range n)
    have hlen : (mrun (mgF F m) (mgF G m) l0 (List.range n)).1.length = n := by rw [mrun_len, hl0]
    have hRow := bk.rw (n := n) hlen.symm (by unfold maxLen; omega)
    have KT := Lib.hid (ptrim_any _ _ hok.1 (by omega) W hRow)
    have hc3 := b3.cell
    have HB := Lib.hid hB
    have HD := Lib.hid hD
    have HK := Lib.hid hK
    clear b1 b2 b3 b4 bk hok hlen hRow hS hB hI0 hw hal hp hN
    gi_wp2_with (refine ⟨trivial, ?_⟩; gi_at_call 42; refine (callsIn_wide.2 KT.out).mono ?_; rintro e w2 ⟨v2, rfl, rfl, hv2⟩)
    refine ⟨by simp, .inl ⟨_, _, rfl, run_takeDeferred HK.out, ?_⟩⟩
    exact ⟨_, results_tmp rfl _ _ _, v2, rfl, by rw [HL0.out]; exact rw_put hv2 _ HK.out rfl, Below.trans (show Below w.heap.size w W from HB.out) (belowK_b (w := w) (Nat.le_refl _) W D _ _ (by have := HD.out; omega) HK.out rfl rfl)⟩
  case stop =>
    rintro D c pre W _ _ h _
    exact h.elim
end Go.Proofs.Ytojpfijjnocboaa
