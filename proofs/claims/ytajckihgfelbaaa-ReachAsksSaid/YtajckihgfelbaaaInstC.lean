/- Contracts of the document's answers for layer 3: how much there is; the same instances. -/
import Derived.Test.YtajckihgfelbaaaInstB
namespace Go.Proofs.Ytajckihgfelbaaa.Inst
open Go.RowKit

/-- An instance's value; what its slices hold. -/
abbrev instV (A : Option Addr) (c : Nat) (A2 : Option Addr) (d : Nat) (I : InstD) : Value := .agg #[.slice A I.sup.length c, .slice A2 I.arcs.length d]
structure InstIs (w : World) (A A2 : Option Addr) (I : InstD) : Prop where
  n : I.sup.length ≤ 17592186044416
  m : I.arcs.length ≤ 17592186044416
  sup : Cells w w.heap.size A (numV I.sup)
  arcs : Cells w w.heap.size A2 (arcV I.arcs)
theorem InstIs.later {w w' : World} {A A2 : Option Addr} {I : InstD} (h : InstIs w A A2 I) (hb : Below w.heap.size w w') : InstIs w' A A2 I :=
  ⟨h.n, h.m, h.sup.later (Nat.le_refl _) hb, h.arcs.later (Nat.le_refl _) hb⟩

/-- What holds at the head of Span's loop. -/
def SpanRel (I : InstD) (s2 s3 : Value) : Prop := ∃ k n : Nat, k ≤ I.arcs.length ∧ n = I.sup.length + I.arcs.length + lows (I.arcs.take k) ∧ s2 = .int .i64 (n : Int) ∧ s3 = .int .i64 (k : Int)

end Go.Proofs.Ytajckihgfelbaaa.Inst
