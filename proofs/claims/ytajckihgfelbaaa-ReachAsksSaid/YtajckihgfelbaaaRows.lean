/-
  No cell of these rows narrows 'for every input' (looked for: loops, veiled, ifaces, maps, wideKeys, modest, calm, conditions, laid).
  DERIVED. THE GIVEN ROWS OF THIS SEAT. 6 by the template 'for every input the law returns true; each argument reads behind the call as it read before'; 0 by the template 'total and deterministic' (their statements: YtajckihgfelbaaaTotals.lean).
  GIVEN WITH THE SEED: the statements are not yours to turn. If you find one false, say at which input.
  Laid BY PROGRAM, IN A SANDBOX (cutbox-rows.mjs): the forced cells as the released guide's own fill.sh prints them over the translation 2627e6de9579db7f… (all of the seat's roots in one cut). By AI agents, Wed Nov 11 2026. No macro, syntax, notation, axiom, sorry.
-/
import Derived.Test.YtajckihgfelbaaaChecked
import GoSem.Claim
import GoSem.ClaimJoined
import GoSem.ClaimMapViews
import Derived.JoinedTies
import Derived.KernelRfl
namespace Go.Proofs.Ytajckihgfelbaaa
/- THE CELL 'sum', in the pinned program and in every row, IS THE sha256 OF THE DUMP (.gsa) THAT YtajckihgfelbaaaProg.lean LOADS. Nothing in Lean hashes anything: it is a label: what it is worth is what the hold of that sum in a sandbox is worth. -/
noncomputable def Try.pinned : Pinned := { name := "ytajckihgfelbaaa", sum := "2627e6de9579db7f189ba93f08a4a1f8ff042ca7f88b5b5078c80391581e39d8", checked := Try.checked }
namespace Rows
def none {H : Type} : Left H := { results := [], args := [] }

/-- 'quittancelaw07.BlockAsks': WHATEVER THE INPUT: true; the input reads as it did. -/
def blockAsksSpec : ChangeSpec := { name := "blockAsks", fn := fun _ => fun
  | [d1, d2, d3, d4, d5, d6, d7] => { results := [.lit (.bool true)], args := [d1, d2, d3, d4, d5, d6, d7] }
  | _ => none }
def blockAsksRow : OpenClaim := { program := "ytajckihgfelbaaa", sum := "2627e6de9579db7f189ba93f08a4a1f8ff042ca7f88b5b5078c80391581e39d8", func := "quittance/quittancelaw07.BlockAsks", spec := "blockAsks", unfollowed := true, recurses := true, apart := false }
def BlockAsksSaid : Prop := blockAsksRow.holds Try.pinned (OpenSpec.ofChange blockAsksSpec)

/-- ITS FALSE NEIGHBOUR: 'it returns false'. Refute it at one input. -/
def blockAsksWrong : ChangeSpec := { name := "blockAsks", fn := fun _ => fun
  | [d1, d2, d3, d4, d5, d6, d7] => { results := [.lit (.bool false)], args := [d1, d2, d3, d4, d5, d6, d7] }
  | _ => none }
def BlockAsksWrongFalsely : Prop := blockAsksRow.holds Try.pinned (OpenSpec.ofChange blockAsksWrong)

/-- 'quittancelaw07.BlockOnce': WHATEVER THE INPUT: true; the input reads as it did. -/
def blockOnceSpec : ChangeSpec := { name := "blockOnce", fn := fun _ => fun
  | [d] => { results := [.lit (.bool true)], args := [d] }
  | _ => none }
def blockOnceRow : OpenClaim := { program := "ytajckihgfelbaaa", sum := "2627e6de9579db7f189ba93f08a4a1f8ff042ca7f88b5b5078c80391581e39d8", func := "quittance/quittancelaw07.BlockOnce", spec := "blockOnce", unfollowed := true, recurses := true, apart := false }
def BlockOnceSaid : Prop := blockOnceRow.holds Try.pinned (OpenSpec.ofChange blockOnceSpec)

/-- ITS FALSE NEIGHBOUR: 'it returns false'. Refute it at one input. -/
def blockOnceWrong : ChangeSpec := { name := "blockOnce", fn := fun _ => fun
  | [d] => { results := [.lit (.bool false)], args := [d] }
  | _ => none }
def BlockOnceWrongFalsely : Prop := blockOnceRow.holds Try.pinned (OpenSpec.ofChange blockOnceWrong)

/-- 'quittancelaw07.BlockTurned': WHATEVER THE INPUT: true; the input reads as it did. -/
def blockTurnedSpec : ChangeSpec := { name := "blockTurned", fn := fun _ => fun
  | [d1, d2] => { results := [.lit (.bool true)], args := [d1, d2] }
  | _ => none }
def blockTurnedRow : OpenClaim := { program := "ytajckihgfelbaaa", sum := "2627e6de9579db7f189ba93f08a4a1f8ff042ca7f88b5b5078c80391581e39d8", func := "quittance/quittancelaw07.BlockTurned", spec := "blockTurned", unfollowed := true, recurses := true, apart := false }
def BlockTurnedSaid : Prop := blockTurnedRow.holds Try.pinned (OpenSpec.ofChange blockTurnedSpec)

/-- ITS FALSE NEIGHBOUR: 'it returns false'. Refute it at one input. -/
def blockTurnedWrong : ChangeSpec := { name := "blockTurned", fn := fun _ => fun
  | [d1, d2] => { results := [.lit (.bool false)], args := [d1, d2] }
  | _ => none }
def BlockTurnedWrongFalsely : Prop := blockTurnedRow.holds Try.pinned (OpenSpec.ofChange blockTurnedWrong)

/-- 'quittancelaw07.BlockCuts': WHATEVER THE INPUT: true; the input reads as it did. -/
def blockCutsSpec : ChangeSpec := { name := "blockCuts", fn := fun _ => fun
  | [d] => { results := [.lit (.bool true)], args := [d] }
  | _ => none }
def blockCutsRow : OpenClaim := { program := "ytajckihgfelbaaa", sum := "2627e6de9579db7f189ba93f08a4a1f8ff042ca7f88b5b5078c80391581e39d8", func := "quittance/quittancelaw07.BlockCuts", spec := "blockCuts", unfollowed := true, recurses := true, apart := false }
def BlockCutsSaid : Prop := blockCutsRow.holds Try.pinned (OpenSpec.ofChange blockCutsSpec)

/-- ITS FALSE NEIGHBOUR: 'it returns false'. Refute it at one input. -/
def blockCutsWrong : ChangeSpec := { name := "blockCuts", fn := fun _ => fun
  | [d] => { results := [.lit (.bool false)], args := [d] }
  | _ => none }
def BlockCutsWrongFalsely : Prop := blockCutsRow.holds Try.pinned (OpenSpec.ofChange blockCutsWrong)

/-- 'quittancelaw07.BlockRing': WHATEVER THE INPUT: true; the input reads as it did. -/
def blockRingSpec : ChangeSpec := { name := "blockRing", fn := fun _ => fun
  | [d1, d2, d3] => { results := [.lit (.bool true)], args := [d1, d2, d3] }
  | _ => none }
def blockRingRow : OpenClaim := { program := "ytajckihgfelbaaa", sum := "2627e6de9579db7f189ba93f08a4a1f8ff042ca7f88b5b5078c80391581e39d8", func := "quittance/quittancelaw07.BlockRing", spec := "blockRing", unfollowed := true, recurses := true, apart := false }
def BlockRingSaid : Prop := blockRingRow.holds Try.pinned (OpenSpec.ofChange blockRingSpec)

/-- ITS FALSE NEIGHBOUR: 'it returns false'. Refute it at one input. -/
def blockRingWrong : ChangeSpec := { name := "blockRing", fn := fun _ => fun
  | [d1, d2, d3] => { results := [.lit (.bool false)], args := [d1, d2, d3] }
  | _ => none }
def BlockRingWrongFalsely : Prop := blockRingRow.holds Try.pinned (OpenSpec.ofChange blockRingWrong)

/-- 'quittancelaw06.ReachAsks': WHATEVER THE INPUT: true; the input reads as it did. -/
def reachAsksSpec : ChangeSpec := { name := "reachAsks", fn := fun _ => fun
  | [d1, d2, d3, d4, d5] => { results := [.lit (.bool true)], args := [d1, d2, d3, d4, d5] }
  | _ => none }
def reachAsksRow : OpenClaim := { program := "ytajckihgfelbaaa", sum := "2627e6de9579db7f189ba93f08a4a1f8ff042ca7f88b5b5078c80391581e39d8", func := "quittance/quittancelaw06.ReachAsks", spec := "reachAsks", unfollowed := true, recurses := true, apart := false }
def ReachAsksSaid : Prop := reachAsksRow.holds Try.pinned (OpenSpec.ofChange reachAsksSpec)

/-- ITS FALSE NEIGHBOUR: 'it returns false'. Refute it at one input. -/
def reachAsksWrong : ChangeSpec := { name := "reachAsks", fn := fun _ => fun
  | [d1, d2, d3, d4, d5] => { results := [.lit (.bool false)], args := [d1, d2, d3, d4, d5] }
  | _ => none }
def ReachAsksWrongFalsely : Prop := reachAsksRow.holds Try.pinned (OpenSpec.ofChange reachAsksWrong)

/- THE SECOND FORM. 'bulk': how many values and letters a reading holds, each counted each time it is reached (what is shared counts as often as it is met; a slice's spare places count too). A statement '..UptoSaid' is the law's where the arguments, and the package variables that the reading takes, are together of bulk at most 1048576: NARROWER than '..Said'. Prove '..Said' where nothing that the law and all that it calls make is longer than what came in: it says more and counts as full. Else prove '..UptoSaid'. A law counts once. -/
mutual
def uptoBulk {H : Type} : DataW H → Nat
  | .lit (.string bytes) => bytes.length + 1
  | .lit _ => 1
  | .nil => 1
  | .ptr d => uptoBulk d + 1
  | .slice elems spare => uptoBulkAll elems + uptoBulkAll spare + 1
  | .agg parts => uptoBulkAll parts + 1
  | .iface _ d => uptoBulk d + 1
  | .map entries => uptoBulkEntries entries + 1
  | .held _ => 1
def uptoBulkAll {H : Type} : List (DataW H) → Nat
  | [] => 0
  | d :: r => uptoBulk d + uptoBulkAll r
def uptoBulkEntries {H : Type} : List (Lit × DataW H) → Nat
  | [] => 0
  | x :: r => uptoBulkEntry x + uptoBulkEntries r
def uptoBulkEntry {H : Type} : Lit × DataW H → Nat
  | (.string bytes, d) => bytes.length + uptoBulk d + 1
  | (_, d) => uptoBulk d + 1
 end
def uptoSmall : (H : Type) → List (DataW H) → Bool := fun _ ds => decide (uptoBulkAll ds ≤ 1048576)
def OpenSpec.upto (s : _root_.Go.ChangeSpec) : _root_.Go.OpenSpec := { _root_.Go.OpenSpec.ofChange s with cond := some uptoSmall }

/-- 'quittancelaw07.BlockAsks', WHERE WHAT IT READS IS OF BULK AT MOST 1048576: true; the input reads as it did. -/
def blockAsksUptoRow : OpenClaim := { program := "ytajckihgfelbaaa", sum := "2627e6de9579db7f189ba93f08a4a1f8ff042ca7f88b5b5078c80391581e39d8", func := "quittance/quittancelaw07.BlockAsks", spec := "blockAsks", unfollowed := true, recurses := true, apart := false, narrowed := true }
def BlockAsksUptoSaid : Prop := blockAsksUptoRow.holds Try.pinned (OpenSpec.upto blockAsksSpec)

/-- 'quittancelaw07.BlockOnce', WHERE WHAT IT READS IS OF BULK AT MOST 1048576: true; the input reads as it did. -/
def blockOnceUptoRow : OpenClaim := { program := "ytajckihgfelbaaa", sum := "2627e6de9579db7f189ba93f08a4a1f8ff042ca7f88b5b5078c80391581e39d8", func := "quittance/quittancelaw07.BlockOnce", spec := "blockOnce", unfollowed := true, recurses := true, apart := false, narrowed := true }
def BlockOnceUptoSaid : Prop := blockOnceUptoRow.holds Try.pinned (OpenSpec.upto blockOnceSpec)

/-- 'quittancelaw07.BlockTurned', WHERE WHAT IT READS IS OF BULK AT MOST 1048576: true; the input reads as it did. -/
def blockTurnedUptoRow : OpenClaim := { program := "ytajckihgfelbaaa", sum := "2627e6de9579db7f189ba93f08a4a1f8ff042ca7f88b5b5078c80391581e39d8", func := "quittance/quittancelaw07.BlockTurned", spec := "blockTurned", unfollowed := true, recurses := true, apart := false, narrowed := true }
def BlockTurnedUptoSaid : Prop := blockTurnedUptoRow.holds Try.pinned (OpenSpec.upto blockTurnedSpec)

/-- 'quittancelaw07.BlockCuts', WHERE WHAT IT READS IS OF BULK AT MOST 1048576: true; the input reads as it did. -/
def blockCutsUptoRow : OpenClaim := { program := "ytajckihgfelbaaa", sum := "2627e6de9579db7f189ba93f08a4a1f8ff042ca7f88b5b5078c80391581e39d8", func := "quittance/quittancelaw07.BlockCuts", spec := "blockCuts", unfollowed := true, recurses := true, apart := false, narrowed := true }
def BlockCutsUptoSaid : Prop := blockCutsUptoRow.holds Try.pinned (OpenSpec.upto blockCutsSpec)

/-- 'quittancelaw07.BlockRing', WHERE WHAT IT READS IS OF BULK AT MOST 1048576: true; the input reads as it did. -/
def blockRingUptoRow : OpenClaim := { program := "ytajckihgfelbaaa", sum := "2627e6de9579db7f189ba93f08a4a1f8ff042ca7f88b5b5078c80391581e39d8", func := "quittance/quittancelaw07.BlockRing", spec := "blockRing", unfollowed := true, recurses := true, apart := false, narrowed := true }
def BlockRingUptoSaid : Prop := blockRingUptoRow.holds Try.pinned (OpenSpec.upto blockRingSpec)

/-- 'quittancelaw06.ReachAsks', WHERE WHAT IT READS IS OF BULK AT MOST 1048576: true; the input reads as it did. -/
def reachAsksUptoRow : OpenClaim := { program := "ytajckihgfelbaaa", sum := "2627e6de9579db7f189ba93f08a4a1f8ff042ca7f88b5b5078c80391581e39d8", func := "quittance/quittancelaw06.ReachAsks", spec := "reachAsks", unfollowed := true, recurses := true, apart := false, narrowed := true }
def ReachAsksUptoSaid : Prop := reachAsksUptoRow.holds Try.pinned (OpenSpec.upto reachAsksSpec)

end Rows
end Go.Proofs.Ytajckihgfelbaaa
