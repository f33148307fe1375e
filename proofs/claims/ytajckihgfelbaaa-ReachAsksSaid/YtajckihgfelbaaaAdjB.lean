/- Contracts of the document's answers for layer 4: which arcs touch a node. -/
import Derived.Test.YtajckihgfelbaaaAdjA
namespace Go.Proofs.Ytajckihgfelbaaa.Adj
open Go.RowKit Go.Proofs.Ytajckihgfelbaaa.Inst

/-- At the head of the loop. -/
def SomeRel (w : World) (I : InstD) (n : Int) (o i : Bool) (s9 s10 : Value) (u : World) : Prop :=
  ∃ k : Nat, k ≤ I.arcs.length ∧ s10 = .int .i64 (k : Int) ∧ u.ownsRow w.heap.size 3 1 s9 (someN I n o i k).length (natV (someN I n o i k)) ∧ Below w.heap.size w u

end Go.Proofs.Ytajckihgfelbaaa.Adj
