/- Contracts of the document's answers for layer 3: the same numbers. -/
import Derived.Test.YtoccgpkpmhkeiaaInstA
namespace Go.Proofs.Ytoccgpkpmhkeiaa.Inst
open Go.RowKit

theorem same_step {α : Type} (xs ys : List α) (k : Nat) (h : k < xs.length) (h2 : k < ys.length) (e : xs.take k = ys.take k) (q : xs[k] = ys[k]) : xs.take (k + 1) = ys.take (k + 1) := by
  rw [List.take_succ_eq_append_getElem h, List.take_succ_eq_append_getElem h2, e, q]
/-- What holds at the head of a loop that holds two lists against each other. -/
def SameRel {α : Type} (w : World) (xs ys : List α) (s : Value) (u : World) : Prop :=
  ∃ k m : Nat, k ≤ xs.length ∧ s = .int .i64 (k : Int) ∧ xs.take k = ys.take k ∧ u = w.drewN m

end Go.Proofs.Ytoccgpkpmhkeiaa.Inst
