/-
  For a statement whose arguments may be as long as the form allows: a slice of words has 2^44 - 512 words at most.
-/
import Derived.Test.YtdoohlehglakfaaRowS
import Derived.SizedLaws
namespace Go.Proofs.Ytdoohlehglakfaa
open Go.ChangeShapes Go.WideShapes Go.ChangeAt Go.RowKit
set_option linter.unusedVariables false

theorem open_rowz {H : Type} {enc : TypeId × Value → H} {P : Program} {W : World} {base : Nat} {r : Reach} {b0 : Nat} {t e : TypeId} {v : Value} {d : DataW H} {p : List MemPlace} (ht : P.underlying t = some (.slice e)) (he : P.underlying e = some (.int .u64)) (hc : P.cellsOf e = 1) (hb8 : P.bytesOf e = 8)
    {ts : List TypeId} {ds : List (DataW H)} (hw : (DataW.weightsEach P ts ds).all (· ≤ reachBytes) = true) {j : Nat} (htj : ts[j]? = some t) (hdj : ds[j]? = some d)
    (hval : Value.okWide P W r b0 t v) (h : DataW.Trod enc P W base (fun _ => true) true t v d p) : ∃ l : List Nat, Rw .u64 W v l ∧ All 18446744073709551616 l ∧ l.length ≤ 17592186043904 := by
  obtain ⟨a, len, cap, rfl⟩ := okWide_slice ht hval
  obtain ⟨n, hn⟩ := h
  have hn' : DataW.trod enc P W base (fun _ => true) true n t [.slice a len cap] = some (d, p) := by simpa [Value.cells] using hn
  obtain ⟨l, hl, ha⟩ := row_of (n := n) ht he hc hn'
  refine ⟨l, hl, ha, ?_⟩
  obtain ⟨A', c', ev, _⟩ := hl
  injection ev with e1 e2 e3
  rcases open_ints ht he hc hn' with ⟨hcs, hx⟩ | ⟨a', len', cap', zs, hcs, hb, hll, hm, hlen, hx, hcell, hwf⟩
  · injection hcs with hcs _
    injection hcs with _ h2 _
    omega
  · injection hcs with hcs _
    injection hcs with _ h2 _
    simp only [if_true] at hlen
    injection hx with hd _
    subst hd
    have h3 := sized_slice hw htj hdj ht
    rw [hb8] at h3
    have h4 : (lits (H := H) .u64 (zs.take len')).length = len' := by simp [lits]; omega
    rw [h4] at h3
    unfold reachBytes at h3
    omega
end Go.Proofs.Ytdoohlehglakfaa
