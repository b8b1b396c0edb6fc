/-
  Package nat: spread.
-/
import Derived.Test.YtojpfijjnocboaaPk19
namespace Go.Proofs.Ytojpfijjnocboaa
open Go.RowKit Go.Shelf
set_option linter.unusedVariables false
set_option linter.unusedSimpArgs false
attribute [local go_sem] Oper.semAt_some

def spF (F : Nat → Nat → Nat → Nat) (l : List Nat) (b : Nat) (i a c : Nat) : Nat := F (l[i]?.getD 0) b c

/-- Between two rounds. -/
def SInv (w : World) (fid n b : Nat) (P Q : Nat → Nat → Nat → Nat) (l0 : List Nat) (pre : List (Pl n)) (W : World) : Prop :=
  (Boxed W w.heap.size 23 (.int .u64 (b : Int)) ∧ Boxed W (w.heap.size + 1) 73 (.func (.func fid) #[] #[]) ∧ Boxed W (w.heap.size + 1 + 1) 23 (.int .u64 ((mrun P Q l0 (pre.map (·.1))).2 : Int)) ∧
    Boxed W (w.heap.size + 1 + 1 + 1) 74 (.func (.func 75) #[] #[.pointer (some ⟨w.heap.size + 1, 0, none⟩), .pointer (some ⟨w.heap.size + 1 + 1, 0, none⟩)]) ∧ Bk .u64 23 W (w.heap.size + 1 + 1 + 1 + 1) (mrun P Q l0 (pre.map (·.1))).1 ∧ Boxed W (w.heap.size + 1 + 1 + 1 + 1 + 1) 22 (.slice (some ⟨w.heap.size + 1 + 1 + 1 + 1, 0, none⟩) n n)) ∧ Bl w W
theorem sinv_own (w : World) (fid n b : Nat) (P Q : Nat → Nat → Nat → Nat) (l0 : List Nat) (B : Nat) (hB : w.heap.size ≤ B) : OwnFrom B (SInv w fid n b P Q l0) :=
  OwnFrom.and (Own.from (fun s A B row hs hg hr => ⟨cells_kept hs.1 hg hr, cells_kept hs.2.1 hg hr, cells_kept hs.2.2.1 hg hr, cells_kept hs.2.2.2.1 hg hr, cells_kept hs.2.2.2.2.1 hg hr, cells_kept hs.2.2.2.2.2 hg hr⟩) _) (ownFrom_below (Nat.le_refl _) hB)
/-- What a round of spread keeps. -/
def SK (w : World) (j : Nat) : Prop := j < w.heap.size ∨ j = w.heap.size + 1 + 1 + 1 + 1 + 1 + 1 ∨ j = w.heap.size + 1 + 1 + 1 + 1 + 1 + 1 + 1
theorem sinv_step (w : World) (fid n b : Nat) (P Q : Nat → Nat → Nat → Nat) (l0 : List Nat) (hl0 : l0.length = n) (pre : List (Pl n)) (x : Pl n) (W W' : World) (h : SInv w fid n b P Q l0 pre W)
    (hW : W' = ((W.setCell ⟨w.heap.size + 1 + 1, 0, none⟩ (.int .u64 ((Q x.1 ((mrun P Q l0 (pre.map (·.1))).1[x.1]?.getD 0) (mrun P Q l0 (pre.map (·.1))).2 : Nat) : Int))).setCell ⟨w.heap.size + 1 + 1 + 1 + 1, x.1, none⟩ (.int .u64 ((P x.1 ((mrun P Q l0 (pre.map (·.1))).1[x.1]?.getD 0) (mrun P Q l0 (pre.map (·.1))).2 : Nat) : Int))).drew) :
    KeepsOthers W W' ∧ KpB (SK w) W W' ∧ SInv w fid n b P Q l0 (pre ++ [x]) W' := by
  obtain ⟨⟨b0, b1, b2, b3, bk, b5⟩, hB⟩ := h
  have er : mrun P Q l0 ((pre ++ [x]).map (·.1)) = stp P Q (mrun P Q l0 (pre.map (·.1))) x.1 := by rw [List.map_append]; exact mrun_snoc _ _ _ _ _
  subst hW
  refine ⟨((KeepsOthers.setCell _ _ _).trans (KeepsOthers.setCell _ _ _)).trans (KeepsOthers.drew _), fun j hj => ?_, ⟨?_, ?_, ?_, ?_, ?_, ?_⟩, ?_⟩
  · have h1 : w.heap.size + 1 + 1 ≠ j ∧ w.heap.size + 1 + 1 + 1 + 1 ≠ j := by unfold SK at hj; omega
    exact (setCell_heap_other _ _ _ _ _ h1.2).trans (setCell_heap_other _ _ _ _ _ h1.1)
  · exact boxed_other (boxed_other b0 _ _ _ (by omega)) _ _ _ (by omega)
  · exact boxed_other (boxed_other b1 _ _ _ (by omega)) _ _ _ (by omega)
  · rw [er]
    exact boxed_other (b2.set _) _ _ _ (by omega)
  · exact boxed_other (boxed_other b3 _ _ _ (by omega)) _ _ _ (by omega)
  · rw [er]
    exact (bk_other bk _ _ _ (by omega)).set _ _ (by rw [mrun_len, hl0]; exact x.2)
  · exact boxed_other (boxed_other b5 _ _ _ (by omega)) _ _ _ (by omega)
  · exact ((hB.setCell (p := ⟨w.heap.size + 1 + 1, 0, none⟩) (by show w.heap.size ≤ w.heap.size + 1 + 1; omega) _).setCell (p := ⟨w.heap.size + 1 + 1 + 1 + 1, x.1, none⟩) (by show w.heap.size ≤ w.heap.size + 1 + 1 + 1 + 1; omega) _).drew

set_option maxRecDepth 100000 in
set_option maxHeartbeats 4000000 in
theorem pspread_any (fid b : Nat) (F G : Nat → Nat → Nat → Nat) (Pb : Nat → Prop) (hN : Nx fid F G Pb) (v : Value) (l : List Nat) (hl : All 18446744073709551616 l) (hln : l.length < 1048576) (hp : Pb b)
    (hw : Wds (spF F l b) (spF G l b)) (w : World) (hv : Rw .u64 w v l) :
    Calls Try.prog 56 #[.func (.func fid) #[] #[], v, .int .u64 (b : Int)] w
      (RwEnd .u64 w (dig 18446744073709551616 (val 18446744073709551616 (mrun (spF F l b) (spF G l b) (List.replicate (l.length + 1) 0) (List.range (l.length + 1))).1))) := by
  refine (callsIn_wide (n := 6)).1 ?_
  obtain ⟨i0, hi, hz0, hz1, hz2⟩ := info_parts infoW
  obtain ⟨B, c, rfl, hc, hcm, h0, hx⟩ := hv
  have hmk := fun W => run_mk (P := Try.prog) .u64 22 23 i0 Try.underlying22 hi hz0 hz1 (by omega) (l.length + 1) (by omega) W
  have hli : (l.length : Int) ≤ 1048576 := by omega
  have hn1 : (l.length : Int) + 1 = ((l.length + 1 : Nat) : Int) := by omega
  have HLN := Lib.hid hln
  have HLL := Lib.hid (fun i => getD_lt hl i)
  obtain ⟨n, hn⟩ : ∃ n, l.length + 1 = n := ⟨_, rfl⟩
  rw [hn] at hmk hn1 ⊢
  refine callsIn_of_wp_marks Try.func56 rfl trivial ?_ rfl
  simp only [Try.ntmps56, List.size_toArray, List.length_cons, List.length_nil, Nat.reduceAdd, Nat.reduceSub, Array.replicate_succ, Array.replicate_zero, List.push_toArray, List.append_toArray, List.nil_append, List.cons_append]
  gi_wp2_with (first
    | (refine ⟨trivial, ?_⟩; gi_at_call 62; refine (callsIn_wide.2 (pchain_any fid _)).mono ?_; rintro e w2 ⟨rfl, rfl⟩)
    | (refine ⟨trivial, ?_⟩; gi_at_call 63; refine (callsIn_wide.2 (pwords_any _ _ _ _ _)).mono ?_; rintro e w3 ⟨rfl, rfl⟩))
  obtain ⟨W0, hW0⟩ : ∃ W0, ((((((((w.alloc (.cells #[.int .u64 (b : Int)] 23)).alloc (.cells #[.func (.func fid) #[] #[]] 73)).alloc (.cells #[.int .u64 0] 23)).alloc (.cells #[(.func (.func 75) #[] #[.pointer (some ⟨w.heap.size + 1, 0, none⟩), .pointer (some ⟨w.heap.size + 1 + 1, 0, none⟩)])] 74)).alloc (.cells (vs .u64 (List.replicate n 0)).toArray 23)).alloc (.cells #[.slice (some ⟨w.heap.size + 1 + 1 + 1 + 1, 0, none⟩) n n] 22)).alloc (.cells #[.slice B l.length c] 22)).alloc (.cells #[.int .i64 (n : Int)] 3)) = W0 := ⟨_, rfl⟩
  have hsz0 : W0.heap.size = w.heap.size + 1 + 1 + 1 + 1 + 1 + 1 + 1 + 1 := by rw [← hW0]; simp only [World.size_alloc]
  have b0 : Boxed W0 (w.heap.size) 23 (.int .u64 (b : Int)) := by
    have := Boxed.new w 23 (.int .u64 (b : Int))
    rw [← hW0]; exact (((((((this.alloc _).alloc _).alloc _).alloc _).alloc _).alloc _).alloc _)
  have b1 : Boxed W0 (w.heap.size + 1) 73 (.func (.func fid) #[] #[]) := by
    have := Boxed.new (w.alloc (.cells #[.int .u64 (b : Int)] 23)) 73 (.func (.func fid) #[] #[])
    rw [World.size_alloc] at this
    rw [← hW0]; exact ((((((this.alloc _).alloc _).alloc _).alloc _).alloc _).alloc _)
  have b2 : Boxed W0 (w.heap.size + 1 + 1) 23 (.int .u64 0) := by
    have := Boxed.new ((w.alloc (.cells #[.int .u64 (b : Int)] 23)).alloc (.cells #[.func (.func fid) #[] #[]] 73)) 23 (.int .u64 0)
    rw [World.size_alloc, World.size_alloc] at this
    rw [← hW0]; exact (((((this.alloc _).alloc _).alloc _).alloc _).alloc _)
  have b3 : Boxed W0 (w.heap.size + 1 + 1 + 1) 74 (.func (.func 75) #[] #[.pointer (some ⟨w.heap.size + 1, 0, none⟩), .pointer (some ⟨w.heap.size + 1 + 1, 0, none⟩)]) := by
    have := Boxed.new (((w.alloc (.cells #[.int .u64 (b : Int)] 23)).alloc (.cells #[.func (.func fid) #[] #[]] 73)).alloc (.cells #[.int .u64 0] 23)) 74 (.func (.func 75) #[] #[.pointer (some ⟨w.heap.size + 1, 0, none⟩), .pointer (some ⟨w.heap.size + 1 + 1, 0, none⟩)])
    rw [World.size_alloc, World.size_alloc, World.size_alloc] at this
    rw [← hW0]; exact ((((this.alloc _).alloc _).alloc _).alloc _)
  have b4 : Bk .u64 23 W0 (w.heap.size + 1 + 1 + 1 + 1) (List.replicate n 0) := by
    have := Bk.made .u64 23 ((((w.alloc (.cells #[.int .u64 (b : Int)] 23)).alloc (.cells #[.func (.func fid) #[] #[]] 73)).alloc (.cells #[.int .u64 0] 23)).alloc (.cells #[(.func (.func 75) #[] #[.pointer (some ⟨w.heap.size + 1, 0, none⟩), .pointer (some ⟨w.heap.size + 1 + 1, 0, none⟩)])] 74)) n
    rw [World.size_alloc, World.size_alloc, World.size_alloc, World.size_alloc] at this
    rw [← hW0]; exact this.bl (((((Bl.refl _).alloc _).alloc _).alloc _))
  have b5 : Boxed W0 (w.heap.size + 1 + 1 + 1 + 1 + 1) 22 (.slice (some ⟨w.heap.size + 1 + 1 + 1 + 1, 0, none⟩) n n) := by
    have := Boxed.new (((((w.alloc (.cells #[.int .u64 (b : Int)] 23)).alloc (.cells #[.func (.func fid) #[] #[]] 73)).alloc (.cells #[.int .u64 0] 23)).alloc (.cells #[(.func (.func 75) #[] #[.pointer (some ⟨w.heap.size + 1, 0, none⟩), .pointer (some ⟨w.heap.size + 1 + 1, 0, none⟩)])] 74)).alloc (.cells (vs .u64 (List.replicate n 0)).toArray 23)) 22 (.slice (some ⟨w.heap.size + 1 + 1 + 1 + 1, 0, none⟩) n n)
    rw [World.size_alloc, World.size_alloc, World.size_alloc, World.size_alloc, World.size_alloc] at this
    rw [← hW0]; exact ((this.alloc _).alloc _)
  have b6 : Boxed W0 (w.heap.size + 1 + 1 + 1 + 1 + 1 + 1) 22 (.slice B l.length c) := by
    have := Boxed.new ((((((w.alloc (.cells #[.int .u64 (b : Int)] 23)).alloc (.cells #[.func (.func fid) #[] #[]] 73)).alloc (.cells #[.int .u64 0] 23)).alloc (.cells #[(.func (.func 75) #[] #[.pointer (some ⟨w.heap.size + 1, 0, none⟩), .pointer (some ⟨w.heap.size + 1 + 1, 0, none⟩)])] 74)).alloc (.cells (vs .u64 (List.replicate n 0)).toArray 23)).alloc (.cells #[.slice (some ⟨w.heap.size + 1 + 1 + 1 + 1, 0, none⟩) n n] 22)) 22 (.slice B l.length c)
    rw [World.size_alloc, World.size_alloc, World.size_alloc, World.size_alloc, World.size_alloc, World.size_alloc] at this
    rw [← hW0]; exact (this.alloc _)
  have b7 : Boxed W0 (w.heap.size + 1 + 1 + 1 + 1 + 1 + 1 + 1) 3 (.int .i64 (n : Int)) := by
    have := Boxed.new (((((((w.alloc (.cells #[.int .u64 (b : Int)] 23)).alloc (.cells #[.func (.func fid) #[] #[]] 73)).alloc (.cells #[.int .u64 0] 23)).alloc (.cells #[(.func (.func 75) #[] #[.pointer (some ⟨w.heap.size + 1, 0, none⟩), .pointer (some ⟨w.heap.size + 1 + 1, 0, none⟩)])] 74)).alloc (.cells (vs .u64 (List.replicate n 0)).toArray 23)).alloc (.cells #[.slice (some ⟨w.heap.size + 1 + 1 + 1 + 1, 0, none⟩) n n] 22)).alloc (.cells #[.slice B l.length c] 22)) 3 (.int .i64 (n : Int))
    rw [World.size_alloc, World.size_alloc, World.size_alloc, World.size_alloc, World.size_alloc, World.size_alloc, World.size_alloc] at this
    rw [← hW0]; exact this
  have hB0 : Bl w W0 := by rw [← hW0]; exact (((((((Bl.refl w).alloc _).alloc _).alloc _).alloc _).alloc _).alloc _).alloc _ |>.alloc _
  have hKs : ∀ j, SK w j → j < W0.heap.size := fun j hj => by rw [hsz0]; unfold SK at hj; omega
  rw [hW0]
  have hI0 : SInv w fid n b (spF F l b) (spF G l b) (List.replicate n 0) [] W0 := ⟨⟨b0, b1, b2, b3, b4, b5⟩, hB0⟩
  have hl0 : (List.replicate n 0).length = n := by simp
  have hal : All 18446744073709551616 (List.replicate n 0) := fun i hi => by rw [List.getElem_replicate]; decide
  have hnl : n < 1048577 := by omega
  have hnl2 : l.length < n := by omega
  obtain ⟨l0, hl0e⟩ : ∃ l0, List.replicate n 0 = l0 := ⟨_, rfl⟩
  have HL0 := Lib.hid hl0e
  rw [hl0e] at hI0 hl0 hal
  clear hl0e hW0 b0 b1 b2 b3 b4 b5 hmk hn1 hn hi hz0 hz1 hz2 hl
  refine wpIn_rangeFunc_ownF (α := Pl n) rfl (by decide) (gf := 76) (lb := #[.pointer (some ⟨w.heap.size + 1 + 1 + 1 + 1 + 1 + 1 + 1, 0, none⟩), .pointer (some ⟨w.heap.size + 1 + 1 + 1 + 1 + 1 + 1, 0, none⟩)]) rfl trivial (enters_of Try.func76 (by kernel_rfl) rfl)
    (words_stops Fence.wide (6 - 1) trivial rfl (by decide) n c (w.heap.size + 1 + 1 + 1 + 1 + 1 + 1 + 1) (w.heap.size + 1 + 1 + 1 + 1 + 1 + 1) (SK w) B l (by omega) (by omega) W0 (.inr (.inr rfl)) b7.cell (.inr (.inl rfl)) b6.cell hKs
      (fun i h => by
        obtain ⟨ad, h1, h2, h3⟩ := hx (by omega)
        exact ⟨ad, h1, .inl h2, (hB0.cell (p := ad.add i) (by rw [blk_add]; exact h2)).trans (h3 i h)⟩))
    KpB.trans (KpB.put hKs) (Below.refl _ _) (fun _ => rfl)
    (SInv w fid n b (spF F l b) (spF G l b) l0) (fun _ _ _ => False) (sinv_own w fid n b _ _ _ _ (by omega)) (fun _ _ _ _ _ hs _ _ => hs) hI0
    (fun x => { tmps := #[.func (.func fid) #[] #[], .slice B l.length c, .int .u64 (b : Int), undef, undef, .pointer (some ⟨w.heap.size, 0, none⟩), .slice none 0 0, .int .i64 (n : Int), .pointer (some ⟨w.heap.size + 1 + 1 + 1, 0, none⟩), .pointer (some ⟨w.heap.size + 1 + 1 + 1 + 1 + 1, 0, none⟩), .int .i64 (x.1 : Int), .int .u64 ((l[x.1]?.getD 0 : Nat) : Int), .slice B l.length c, .int .i64 (l.length : Int), .int .i64 (n : Int), .func (.func fid) #[] #[], (.func (.func 75) #[] #[.pointer (some ⟨w.heap.size + 1, 0, none⟩), .pointer (some ⟨w.heap.size + 1 + 1, 0, none⟩)]), .int .i64 (n : Int), .slice (some ⟨w.heap.size + 1 + 1 + 1 + 1, 0, none⟩) n n, .slice B l.length c, .int .i64 (n : Int), .func (.func 76) #[] #[.pointer (some ⟨w.heap.size + 1 + 1 + 1 + 1 + 1 + 1 + 1, 0, none⟩), .pointer (some ⟨w.heap.size + 1 + 1 + 1 + 1 + 1 + 1, 0, none⟩)], .int .i64 (x.1 : Int), .int .u64 ((l[x.1]?.getD 0 : Nat) : Int), undef, undef, undef, undef, undef, undef, undef, undef, undef], defers := [] }) ?assign ?body ?done ?stop
  case assign =>
    intro l x W K hK
    gi_wp2
    exact hK
  case body =>
    rintro lp pre ⟨i, hi⟩ W hI _
    obtain ⟨⟨b0, b1, b2, b3, bk, b5⟩, hB⟩ := id hI
    have hok := mrun_ok hw hal (pre.map (·.1))
    have hlen : (mrun (spF F l b) (spF G l b) l0 (pre.map (·.1))).1.length = n := by rw [mrun_len, hl0]
    have hstep := fun W' => sinv_step w fid n b _ _ l0 hl0 pre ⟨i, hi⟩ W W' hI
    dsimp only at hstep
    have HS := Lib.hid hstep
    clear hstep hI
    obtain ⟨⟨row, car⟩, hst⟩ : ∃ st, mrun (spF F l b) (spF G l b) l0 (pre.map (·.1)) = st := ⟨_, rfl⟩
    rw [hst] at hok hlen b2 bk HS
    dsimp only at hok hlen b2 bk HS
    have KN := hN (l[i]?.getD 0) b car (w.heap.size + 1) (w.heap.size + 1 + 1) W.drew (HLL.out i) hp hok.2 b1.cell b2.cell b2.frozen
    have b0 : Boxed W.drew _ _ _ := b0
    have b3 : Boxed W.drew _ _ _ := b3
    have b5 : Boxed W.drew _ _ _ := b5
    have bk : Bk .u64 23 W.drew _ _ := bk
    have bk' := bk_other bk (w.heap.size + 1 + 1) 0 (.int .u64 ((G (l[i]?.getD 0) b car : Nat) : Int)) (by omega)
    have b0' := boxed_other b0 (w.heap.size + 1 + 1) 0 (.int .u64 ((G (l[i]?.getD 0) b car : Nat) : Int)) (by omega)
    have b3' := boxed_other b3 (w.heap.size + 1 + 1) 0 (.int .u64 ((G (l[i]?.getD 0) b car : Nat) : Int)) (by omega)
    have b5' := boxed_other b5 (w.heap.size + 1 + 1) 0 (.int .u64 ((G (l[i]?.getD 0) b car : Nat) : Int)) (by omega)
    have hcell' : ((W.drew.setCell ⟨w.heap.size + 1 + 1, 0, none⟩ (.int .u64 ((G (l[i]?.getD 0) b car : Nat) : Int))).cell? ⟨w.heap.size + 1 + 1 + 1 + 1, i, none⟩).isSome = true := by
      have h1 : i < row.length := by omega
      rw [bk'.cell i h1]
      rfl
    change Hid (∀ W', W' = ((W.drew.setCell ⟨w.heap.size + 1 + 1, 0, none⟩ (.int .u64 ((G (l[i]?.getD 0) b car : Nat) : Int))).setCell ⟨w.heap.size + 1 + 1 + 1 + 1, i, none⟩ (.int .u64 ((F (l[i]?.getD 0) b car : Nat) : Int))) → _) at HS
    obtain ⟨y, hy⟩ : ∃ y, F (l[i]?.getD 0) b car = y := ⟨_, rfl⟩
    obtain ⟨z, hz⟩ : ∃ z, G (l[i]?.getD 0) b car = z := ⟨_, rfl⟩
    rw [hy, hz] at KN HS
    rw [hz] at bk' b0' b3' b5' hcell'
    obtain ⟨u, hu⟩ := Option.isSome_iff_exists.1 hcell'
    obtain ⟨q, hq⟩ : ∃ q, l[i]?.getD 0 = q := ⟨_, rfl⟩
    rw [hq] at KN
    have KM : Calls Try.prog 75 #[.int .u64 (q : Int), .int .u64 (b : Int), .pointer (some ⟨w.heap.size + 1, 0, none⟩), .pointer (some ⟨w.heap.size + 1 + 1, 0, none⟩)] W.drew
        fun e w' => e = .returned (.int .u64 (y : Int)) ∧ (w'.cell? ⟨w.heap.size + 1 + 1 + 1 + 1 + 1, 0, none⟩ = some (.slice (some ⟨w.heap.size + 1 + 1 + 1 + 1, 0, none⟩) n n) ∧ w'.cell? ⟨w.heap.size + 1 + 1 + 1, 0, none⟩ = some (.func (.func 75) #[] #[.pointer (some ⟨w.heap.size + 1, 0, none⟩), .pointer (some ⟨w.heap.size + 1 + 1, 0, none⟩)]) ∧ w'.cell? ⟨w.heap.size, 0, none⟩ = some (.int .u64 (b : Int)) ∧ w'.cell? ⟨w.heap.size + 1 + 1 + 1 + 1, i, none⟩ = some u ∧ w'.frozen? ⟨w.heap.size + 1 + 1 + 1 + 1, i, none⟩ = false) ∧
          Hid (w' = W.drew.setCell ⟨w.heap.size + 1 + 1, 0, none⟩ (.int .u64 (z : Int))) := KN.mono fun e w' h => by
      obtain ⟨rfl, rfl⟩ := h
      exact ⟨rfl, ⟨b5'.cell, b3'.cell, b0'.cell, hu, bk'.free i⟩, rfl⟩
    have HK := Lib.hid KM
    have hc0 := b0.cell
    have hc3 := b3.cell
    have hc5 := b5.cell
    have n1 : (0 : Int) ≤ (i : Int) ∧ (i : Int) < (n : Int) := by omega
    have hmx : Try.prog.follows .mixedOrders = true := by kernel_rfl
    show Code.wpIn _ _ _ _ _ { tmps := #[.func (.func fid) #[] #[], .slice B l.length c, .int .u64 (b : Int), undef, undef, .pointer (some ⟨w.heap.size, 0, none⟩), .slice none 0 0, .int .i64 (n : Int), .pointer (some ⟨w.heap.size + 1 + 1 + 1, 0, none⟩), .pointer (some ⟨w.heap.size + 1 + 1 + 1 + 1 + 1, 0, none⟩), .int .i64 (i : Int), .int .u64 ((l[i]?.getD 0 : Nat) : Int), .slice B l.length c, .int .i64 (l.length : Int), .int .i64 (n : Int), .func (.func fid) #[] #[], (.func (.func 75) #[] #[.pointer (some ⟨w.heap.size + 1, 0, none⟩), .pointer (some ⟨w.heap.size + 1 + 1, 0, none⟩)]), .int .i64 (n : Int), .slice (some ⟨w.heap.size + 1 + 1 + 1 + 1, 0, none⟩) n n, .slice B l.length c, .int .i64 (n : Int), .func (.func 76) #[] #[.pointer (some ⟨w.heap.size + 1 + 1 + 1 + 1 + 1 + 1 + 1, 0, none⟩), .pointer (some ⟨w.heap.size + 1 + 1 + 1 + 1 + 1 + 1, 0, none⟩)], .int .i64 (i : Int), .int .u64 ((l[i]?.getD 0 : Nat) : Int), undef, undef, undef, undef, undef, undef, undef, undef, undef], defers := [] } W
    rw [hq]
    clear KN KM b0 b1 b2 b3 b5 bk b0' b3' b5' bk' hok hlen hst hcell' hu hq hy hz hB hw hal hI0 hp hN hB0 hKs b6 b7 hsz0
    gi_wp2
    refine region_inRound (fun W' => W'.cell? ⟨w.heap.size + 1 + 1 + 1 + 1 + 1, 0, none⟩ = some (.slice (some ⟨w.heap.size + 1 + 1 + 1 + 1, 0, none⟩) n n) ∧ W'.cell? ⟨w.heap.size + 1 + 1 + 1, 0, none⟩ = some (.func (.func 75) #[] #[.pointer (some ⟨w.heap.size + 1, 0, none⟩), .pointer (some ⟨w.heap.size + 1 + 1, 0, none⟩)]) ∧ W'.cell? ⟨w.heap.size, 0, none⟩ = some (.int .u64 (b : Int))) hmx (noDef_spec (by kernel_rfl)) (fun ⟨_, _, h⟩ => h) ?_
    have hS : W.drew.cell? ⟨w.heap.size + 1 + 1 + 1 + 1 + 1, 0, none⟩ = some (.slice (some ⟨w.heap.size + 1 + 1 + 1 + 1, 0, none⟩) n n) ∧ W.drew.cell? ⟨w.heap.size + 1 + 1 + 1, 0, none⟩ = some (.func (.func 75) #[] #[.pointer (some ⟨w.heap.size + 1, 0, none⟩), .pointer (some ⟨w.heap.size + 1 + 1, 0, none⟩)]) ∧ W.drew.cell? ⟨w.heap.size, 0, none⟩ = some (.int .u64 (b : Int)) := ⟨hc5, hc3, hc0⟩
    refine wpAnyH_take (i := 1) (v := .int .i64 (i : Int)) rfl (by kernel_rfl) (by kernel_rfl) (by kernel_rfl) (fun _ _ _ h => h) (Or.inl ⟨by rfl, ?_⟩) hS ?_
    · intro w hSw
      obtain ⟨hSa, hSb, hSc⟩ := hSw
      go_simp
    try simp only [Act.put, List.setIfInBounds_toArray, List.set_cons_zero, List.set_cons_succ]
    refine wpAnyH_take (i := 3) (v := .int .u64 (q : Int)) rfl (by kernel_rfl) (by kernel_rfl) (by kernel_rfl) (fun _ _ _ h => h) (Or.inl ⟨by rfl, ?_⟩) hS ?_
    · intro w hSw
      obtain ⟨hSa, hSb, hSc⟩ := hSw
      go_simp
    try simp only [Act.put, List.setIfInBounds_toArray, List.set_cons_zero, List.set_cons_succ]
    refine wpAnyH_take (i := 0) (v := .slice (some ⟨w.heap.size + 1 + 1 + 1 + 1, 0, none⟩) n n) rfl (by kernel_rfl) (by kernel_rfl) (by kernel_rfl) (fun _ _ _ h => h) (Or.inl ⟨by rfl, ?_⟩) hS ?_
    · intro w hSw
      obtain ⟨hSa, hSb, hSc⟩ := hSw
      go_simp
    try simp only [Act.put, List.setIfInBounds_toArray, List.set_cons_zero, List.set_cons_succ]
    refine wpAnyH_take (i := 2) (v := .func (.func 75) #[] #[.pointer (some ⟨w.heap.size + 1, 0, none⟩), .pointer (some ⟨w.heap.size + 1 + 1, 0, none⟩)]) rfl (by kernel_rfl) (by kernel_rfl) (by kernel_rfl) (fun _ _ _ h => h) (Or.inl ⟨by rfl, ?_⟩) hS ?_
    · intro w hSw
      obtain ⟨hSa, hSb, hSc⟩ := hSw
      go_simp
    try simp only [Act.put, List.setIfInBounds_toArray, List.set_cons_zero, List.set_cons_succ]
    refine wpAnyH_take (i := 4) (v := .int .u64 (b : Int)) rfl (by kernel_rfl) (by kernel_rfl) (by kernel_rfl) (fun _ _ _ h => h) (Or.inl ⟨by rfl, ?_⟩) hS ?_
    · intro w hSw
      obtain ⟨hSa, hSb, hSc⟩ := hSw
      go_simp
    try simp only [Act.put, List.setIfInBounds_toArray, List.set_cons_zero, List.set_cons_succ]
    refine wpAnyH_ready (rs := [5]) (by kernel_rfl) (by simp) (AllReadyH.cons rfl (fun K hK => ?_) AllReadyH.nil)
    go_simp
    refine HK.out.mono ?_
    rintro e w' ⟨rfl, ⟨g1, g2, g3, g6, g4⟩, g5⟩
    refine hK.out _ _ ⟨g1, g2, g3⟩ (fun _ => ?_)
    clear hK K hS
    try simp only [Act.put, List.setIfInBounds_toArray, List.set_cons_zero, List.set_cons_succ]
    refine wpAnyH_take (i := 6) (v := .pointer (some ⟨w.heap.size + 1 + 1 + 1 + 1, i, none⟩)) rfl (by kernel_rfl) (by kernel_rfl) (by kernel_rfl) (fun _ _ _ h => h) (Or.inl ⟨by rfl, ?_⟩) ⟨g1, g2, g3⟩ ?_
    · intro w hSw
      obtain ⟨hSa, hSb, hSc⟩ := hSw
      go_simp
    try simp only [Act.put, List.setIfInBounds_toArray, List.set_cons_zero, List.set_cons_succ]
    refine wpAnyH_ready (rs := [7]) (by kernel_rfl) (by simp) (AllReadyH.cons rfl (fun K hK => ?_) AllReadyH.nil)
    go_simp
    refine hK.out _ _ ⟨(World.cell?_setCell_far _ _ _ _ (by simp)).trans g1, (World.cell?_setCell_far _ _ _ _ (by simp)).trans g2, (World.cell?_setCell_far _ _ _ _ (by simp; omega)).trans g3⟩ (fun _ => ?_)
    clear hK K
    refine wpAnyH_done (by kernel_rfl) ?_ _
    exact HS.out _ (by rw [g5.out])
  case done =>
    rintro D xs W hD hS hI hK
    obtain ⟨⟨b0, b1, b2, b3, bk, b5⟩, hB⟩ := hI
    rw [hS] at bk
    have hok := mrun_ok hw hal (List.range n)
    have hlen : (mrun (spF F l b) (spF G l b) l0 (List.range n)).1.length = n := by rw [mrun_len, hl0]
    have hRow := bk.rw (n := n) hlen.symm (by unfold maxLen; omega)
    have KT := Lib.hid (ptrim_any _ _ hok.1 (by omega) W hRow)
    have hc5 := b5.cell
    have HB := Lib.hid hB
    have HD := Lib.hid hD
    have HK := Lib.hid hK
    clear b0 b1 b2 b3 b5 bk hok hlen hRow hS hB hI0 hw hal hp hN
    gi_wp2_with (refine ⟨trivial, ?_⟩; gi_at_call 42; refine (callsIn_wide.2 KT.out).mono ?_; rintro e w2 ⟨v2, rfl, rfl, hv2⟩)
    refine ⟨by simp, .inl ⟨_, _, rfl, run_takeDeferred HK.out, ?_⟩⟩
    exact ⟨_, results_tmp rfl _ _ _, v2, rfl, by rw [HL0.out]; exact rw_put hv2 _ HK.out rfl, Below.trans (show Below w.heap.size w W from HB.out) (belowK_b (w := w) (Nat.le_refl _) W D _ _ (by have := HD.out; omega) HK.out rfl rfl)⟩
  case stop =>
    rintro D c pre W _ _ h _
    exact h.elim
end Go.Proofs.Ytojpfijjnocboaa
