/-
  Package disk: torn.
-/
import Derived.Test.YtgbeflocojmhhaaDkGa
import Derived.Test.YtgbeflocojmhhaaDkGb
namespace Go.Proofs.Ytgbeflocojmhhaa
open Go.RowKit
theorem ptorn_any (fn fd fs : ByteArray) (m : Nat) (hm : m < 18446744073709551616) (hd : fd.size ≤ 140737488355328) (hs : fs.size ≤ 140737488355328) (w : World) :
    Calls Try.prog 26 #[.agg #[.string fn, .string fd, .string fs], .int .u64 (m : Int)] w fun e w' => e = .returned (.string (torn ⟨fn, fd, fs⟩ m)) ∧ Bl w w' := by
  by_cases h : m % 2 = 1
  · exact ptorn_d fn fd fs m hm hd hs h w
  · exact ptorn_s fn fd fs m hm hd hs (by omega) w
end Go.Proofs.Ytgbeflocojmhhaa
