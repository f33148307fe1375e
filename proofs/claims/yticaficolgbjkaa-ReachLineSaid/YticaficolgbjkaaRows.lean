/-
  No cell of these rows narrows 'for every input' (looked for: loops, veiled, ifaces, maps, wideKeys, modest, calm, conditions, laid).
  DERIVED. THE GIVEN ROWS OF THIS SEAT. 7 by the template 'for every input the law returns true; each argument reads behind the call as it read before'; 0 by the template 'total and deterministic' (their statements: YticaficolgbjkaaTotals.lean).
  GIVEN WITH THE SEED: the statements are not yours to turn. If you find one false, say at which input.
  Laid BY PROGRAM, IN A SANDBOX (cutbox-rows.mjs): the forced cells as the released guide's own fill.sh prints them over the translation 327b09ec4e168cad… (all of the seat's roots in one cut). By AI agents, Wed Nov 11 2026. No macro, syntax, notation, axiom, sorry.
-/
import Derived.Test.YticaficolgbjkaaChecked
import GoSem.Claim
import GoSem.ClaimJoined
import GoSem.ClaimMapViews
import Derived.JoinedTies
import Derived.KernelRfl
namespace Go.Proofs.Yticaficolgbjkaa
/- THE CELL 'sum', in the pinned program and in every row, IS THE sha256 OF THE DUMP (.gsa) THAT YticaficolgbjkaaProg.lean LOADS. Nothing in Lean hashes anything: it is a label: what it is worth is what the hold of that sum in a sandbox is worth. -/
noncomputable def Try.pinned : Pinned := { name := "yticaficolgbjkaa", sum := "327b09ec4e168cad5f88b703dbb71d6ec329ac6997fab2b0fe0456e03e84758b", checked := Try.checked }
namespace Rows
def none {H : Type} : Left H := { results := [], args := [] }

/-- 'quittancelaw06.ReachAsks': WHATEVER THE INPUT: true; the input reads as it did. -/
def reachAsksSpec : ChangeSpec := { name := "reachAsks", fn := fun _ => fun
  | [d1, d2, d3, d4, d5] => { results := [.lit (.bool true)], args := [d1, d2, d3, d4, d5] }
  | _ => none }
def reachAsksRow : OpenClaim := { program := "yticaficolgbjkaa", sum := "327b09ec4e168cad5f88b703dbb71d6ec329ac6997fab2b0fe0456e03e84758b", func := "quittance/quittancelaw06.ReachAsks", spec := "reachAsks", unfollowed := true, recurses := true, apart := false }
def ReachAsksSaid : Prop := reachAsksRow.holds Try.pinned (OpenSpec.ofChange reachAsksSpec)

/-- ITS FALSE NEIGHBOUR: 'it returns false'. Refute it at one input. -/
def reachAsksWrong : ChangeSpec := { name := "reachAsks", fn := fun _ => fun
  | [d1, d2, d3, d4, d5] => { results := [.lit (.bool false)], args := [d1, d2, d3, d4, d5] }
  | _ => none }
def ReachAsksWrongFalsely : Prop := reachAsksRow.holds Try.pinned (OpenSpec.ofChange reachAsksWrong)

/-- 'quittancelaw06.ReachOn': WHATEVER THE INPUT: true; the input reads as it did. -/
def reachOnSpec : ChangeSpec := { name := "reachOn", fn := fun _ => fun
  | [d1, d2, d3] => { results := [.lit (.bool true)], args := [d1, d2, d3] }
  | _ => none }
def reachOnRow : OpenClaim := { program := "yticaficolgbjkaa", sum := "327b09ec4e168cad5f88b703dbb71d6ec329ac6997fab2b0fe0456e03e84758b", func := "quittance/quittancelaw06.ReachOn", spec := "reachOn", unfollowed := true, recurses := true, apart := false }
def ReachOnSaid : Prop := reachOnRow.holds Try.pinned (OpenSpec.ofChange reachOnSpec)

/-- ITS FALSE NEIGHBOUR: 'it returns false'. Refute it at one input. -/
def reachOnWrong : ChangeSpec := { name := "reachOn", fn := fun _ => fun
  | [d1, d2, d3] => { results := [.lit (.bool false)], args := [d1, d2, d3] }
  | _ => none }
def ReachOnWrongFalsely : Prop := reachOnRow.holds Try.pinned (OpenSpec.ofChange reachOnWrong)

/-- 'quittancelaw06.ReachStrong': WHATEVER THE INPUT: true; the input reads as it did. -/
def reachStrongSpec : ChangeSpec := { name := "reachStrong", fn := fun _ => fun
  | [d1, d2] => { results := [.lit (.bool true)], args := [d1, d2] }
  | _ => none }
def reachStrongRow : OpenClaim := { program := "yticaficolgbjkaa", sum := "327b09ec4e168cad5f88b703dbb71d6ec329ac6997fab2b0fe0456e03e84758b", func := "quittance/quittancelaw06.ReachStrong", spec := "reachStrong", unfollowed := true, recurses := true, apart := false }
def ReachStrongSaid : Prop := reachStrongRow.holds Try.pinned (OpenSpec.ofChange reachStrongSpec)

/-- ITS FALSE NEIGHBOUR: 'it returns false'. Refute it at one input. -/
def reachStrongWrong : ChangeSpec := { name := "reachStrong", fn := fun _ => fun
  | [d1, d2] => { results := [.lit (.bool false)], args := [d1, d2] }
  | _ => none }
def ReachStrongWrongFalsely : Prop := reachStrongRow.holds Try.pinned (OpenSpec.ofChange reachStrongWrong)

/-- 'quittancelaw06.ReachOrder': WHATEVER THE INPUT: true; the input reads as it did. -/
def reachOrderSpec : ChangeSpec := { name := "reachOrder", fn := fun _ => fun
  | [d1, d2] => { results := [.lit (.bool true)], args := [d1, d2] }
  | _ => none }
def reachOrderRow : OpenClaim := { program := "yticaficolgbjkaa", sum := "327b09ec4e168cad5f88b703dbb71d6ec329ac6997fab2b0fe0456e03e84758b", func := "quittance/quittancelaw06.ReachOrder", spec := "reachOrder", unfollowed := true, recurses := true, apart := false }
def ReachOrderSaid : Prop := reachOrderRow.holds Try.pinned (OpenSpec.ofChange reachOrderSpec)

/-- ITS FALSE NEIGHBOUR: 'it returns false'. Refute it at one input. -/
def reachOrderWrong : ChangeSpec := { name := "reachOrder", fn := fun _ => fun
  | [d1, d2] => { results := [.lit (.bool false)], args := [d1, d2] }
  | _ => none }
def ReachOrderWrongFalsely : Prop := reachOrderRow.holds Try.pinned (OpenSpec.ofChange reachOrderWrong)

/-- 'quittancelaw06.ReachMore': WHATEVER THE INPUT: true; the input reads as it did. -/
def reachMoreSpec : ChangeSpec := { name := "reachMore", fn := fun _ => fun
  | [d1, d2, d3, d4] => { results := [.lit (.bool true)], args := [d1, d2, d3, d4] }
  | _ => none }
def reachMoreRow : OpenClaim := { program := "yticaficolgbjkaa", sum := "327b09ec4e168cad5f88b703dbb71d6ec329ac6997fab2b0fe0456e03e84758b", func := "quittance/quittancelaw06.ReachMore", spec := "reachMore", unfollowed := true, recurses := true, apart := false }
def ReachMoreSaid : Prop := reachMoreRow.holds Try.pinned (OpenSpec.ofChange reachMoreSpec)

/-- ITS FALSE NEIGHBOUR: 'it returns false'. Refute it at one input. -/
def reachMoreWrong : ChangeSpec := { name := "reachMore", fn := fun _ => fun
  | [d1, d2, d3, d4] => { results := [.lit (.bool false)], args := [d1, d2, d3, d4] }
  | _ => none }
def ReachMoreWrongFalsely : Prop := reachMoreRow.holds Try.pinned (OpenSpec.ofChange reachMoreWrong)

/-- 'quittancelaw06.ReachTurned': WHATEVER THE INPUT: true; the input reads as it did. -/
def reachTurnedSpec : ChangeSpec := { name := "reachTurned", fn := fun _ => fun
  | [d1, d2, d3] => { results := [.lit (.bool true)], args := [d1, d2, d3] }
  | _ => none }
def reachTurnedRow : OpenClaim := { program := "yticaficolgbjkaa", sum := "327b09ec4e168cad5f88b703dbb71d6ec329ac6997fab2b0fe0456e03e84758b", func := "quittance/quittancelaw06.ReachTurned", spec := "reachTurned", unfollowed := true, recurses := true, apart := false }
def ReachTurnedSaid : Prop := reachTurnedRow.holds Try.pinned (OpenSpec.ofChange reachTurnedSpec)

/-- ITS FALSE NEIGHBOUR: 'it returns false'. Refute it at one input. -/
def reachTurnedWrong : ChangeSpec := { name := "reachTurned", fn := fun _ => fun
  | [d1, d2, d3] => { results := [.lit (.bool false)], args := [d1, d2, d3] }
  | _ => none }
def ReachTurnedWrongFalsely : Prop := reachTurnedRow.holds Try.pinned (OpenSpec.ofChange reachTurnedWrong)

/-- 'quittancelaw06.ReachLine': WHATEVER THE INPUT: true; the input reads as it did. -/
def reachLineSpec : ChangeSpec := { name := "reachLine", fn := fun _ => fun
  | [d1, d2] => { results := [.lit (.bool true)], args := [d1, d2] }
  | _ => none }
def reachLineRow : OpenClaim := { program := "yticaficolgbjkaa", sum := "327b09ec4e168cad5f88b703dbb71d6ec329ac6997fab2b0fe0456e03e84758b", func := "quittance/quittancelaw06.ReachLine", spec := "reachLine", unfollowed := true, recurses := true, apart := false }
def ReachLineSaid : Prop := reachLineRow.holds Try.pinned (OpenSpec.ofChange reachLineSpec)

/-- ITS FALSE NEIGHBOUR: 'it returns false'. Refute it at one input. -/
def reachLineWrong : ChangeSpec := { name := "reachLine", fn := fun _ => fun
  | [d1, d2] => { results := [.lit (.bool false)], args := [d1, d2] }
  | _ => none }
def ReachLineWrongFalsely : Prop := reachLineRow.holds Try.pinned (OpenSpec.ofChange reachLineWrong)

/- THE SECOND FORM. 'bulk': how many values and letters a reading holds, each counted each time it is reached (what is shared counts as often as it is met; a slice's spare places count too). A statement '..UptoSaid' is the law's where the arguments, and the package variables that the reading takes, are together of bulk at most 1048576: NARROWER than '..Said'. Prove '..Said' where nothing that the law and all that it calls make is longer than what came in: it says more and counts as full. Else prove '..UptoSaid'. A law counts once. -/
mutual
def uptoBulk {H : Type} : DataW H → Nat
  | .lit (.string bytes) => bytes.length + 1
  | .lit _ => 1
  | .nil => 1
  | .ptr d => uptoBulk d + 1
  | .slice elems spare => uptoBulkAll elems + uptoBulkAll spare + 1
  | .agg parts => uptoBulkAll parts + 1
  | .iface _ d => uptoBulk d + 1
  | .map entries => uptoBulkEntries entries + 1
  | .held _ => 1
def uptoBulkAll {H : Type} : List (DataW H) → Nat
  | [] => 0
  | d :: r => uptoBulk d + uptoBulkAll r
def uptoBulkEntries {H : Type} : List (Lit × DataW H) → Nat
  | [] => 0
  | x :: r => uptoBulkEntry x + uptoBulkEntries r
def uptoBulkEntry {H : Type} : Lit × DataW H → Nat
  | (.string bytes, d) => bytes.length + uptoBulk d + 1
  | (_, d) => uptoBulk d + 1
 end
def uptoSmall : (H : Type) → List (DataW H) → Bool := fun _ ds => decide (uptoBulkAll ds ≤ 1048576)
def OpenSpec.upto (s : _root_.Go.ChangeSpec) : _root_.Go.OpenSpec := { _root_.Go.OpenSpec.ofChange s with cond := some uptoSmall }

/-- 'quittancelaw06.ReachAsks', WHERE WHAT IT READS IS OF BULK AT MOST 1048576: true; the input reads as it did. -/
def reachAsksUptoRow : OpenClaim := { program := "yticaficolgbjkaa", sum := "327b09ec4e168cad5f88b703dbb71d6ec329ac6997fab2b0fe0456e03e84758b", func := "quittance/quittancelaw06.ReachAsks", spec := "reachAsks", unfollowed := true, recurses := true, apart := false, narrowed := true }
def ReachAsksUptoSaid : Prop := reachAsksUptoRow.holds Try.pinned (OpenSpec.upto reachAsksSpec)

/-- 'quittancelaw06.ReachOn', WHERE WHAT IT READS IS OF BULK AT MOST 1048576: true; the input reads as it did. -/
def reachOnUptoRow : OpenClaim := { program := "yticaficolgbjkaa", sum := "327b09ec4e168cad5f88b703dbb71d6ec329ac6997fab2b0fe0456e03e84758b", func := "quittance/quittancelaw06.ReachOn", spec := "reachOn", unfollowed := true, recurses := true, apart := false, narrowed := true }
def ReachOnUptoSaid : Prop := reachOnUptoRow.holds Try.pinned (OpenSpec.upto reachOnSpec)

/-- 'quittancelaw06.ReachStrong', WHERE WHAT IT READS IS OF BULK AT MOST 1048576: true; the input reads as it did. -/
def reachStrongUptoRow : OpenClaim := { program := "yticaficolgbjkaa", sum := "327b09ec4e168cad5f88b703dbb71d6ec329ac6997fab2b0fe0456e03e84758b", func := "quittance/quittancelaw06.ReachStrong", spec := "reachStrong", unfollowed := true, recurses := true, apart := false, narrowed := true }
def ReachStrongUptoSaid : Prop := reachStrongUptoRow.holds Try.pinned (OpenSpec.upto reachStrongSpec)

/-- 'quittancelaw06.ReachOrder', WHERE WHAT IT READS IS OF BULK AT MOST 1048576: true; the input reads as it did. -/
def reachOrderUptoRow : OpenClaim := { program := "yticaficolgbjkaa", sum := "327b09ec4e168cad5f88b703dbb71d6ec329ac6997fab2b0fe0456e03e84758b", func := "quittance/quittancelaw06.ReachOrder", spec := "reachOrder", unfollowed := true, recurses := true, apart := false, narrowed := true }
def ReachOrderUptoSaid : Prop := reachOrderUptoRow.holds Try.pinned (OpenSpec.upto reachOrderSpec)

/-- 'quittancelaw06.ReachMore', WHERE WHAT IT READS IS OF BULK AT MOST 1048576: true; the input reads as it did. -/
def reachMoreUptoRow : OpenClaim := { program := "yticaficolgbjkaa", sum := "327b09ec4e168cad5f88b703dbb71d6ec329ac6997fab2b0fe0456e03e84758b", func := "quittance/quittancelaw06.ReachMore", spec := "reachMore", unfollowed := true, recurses := true, apart := false, narrowed := true }
def ReachMoreUptoSaid : Prop := reachMoreUptoRow.holds Try.pinned (OpenSpec.upto reachMoreSpec)

/-- 'quittancelaw06.ReachTurned', WHERE WHAT IT READS IS OF BULK AT MOST 1048576: true; the input reads as it did. -/
def reachTurnedUptoRow : OpenClaim := { program := "yticaficolgbjkaa", sum := "327b09ec4e168cad5f88b703dbb71d6ec329ac6997fab2b0fe0456e03e84758b", func := "quittance/quittancelaw06.ReachTurned", spec := "reachTurned", unfollowed := true, recurses := true, apart := false, narrowed := true }
def ReachTurnedUptoSaid : Prop := reachTurnedUptoRow.holds Try.pinned (OpenSpec.upto reachTurnedSpec)

/-- 'quittancelaw06.ReachLine', WHERE WHAT IT READS IS OF BULK AT MOST 1048576: true; the input reads as it did. -/
def reachLineUptoRow : OpenClaim := { program := "yticaficolgbjkaa", sum := "327b09ec4e168cad5f88b703dbb71d6ec329ac6997fab2b0fe0456e03e84758b", func := "quittance/quittancelaw06.ReachLine", spec := "reachLine", unfollowed := true, recurses := true, apart := false, narrowed := true }
def ReachLineUptoSaid : Prop := reachLineUptoRow.holds Try.pinned (OpenSpec.upto reachLineSpec)

end Rows
end Go.Proofs.Yticaficolgbjkaa
