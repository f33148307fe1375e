/- The laws' own helpers: marks, size. -/
import Derived.Test.YtajckihgfelbaaaInstQ
namespace Go.Proofs.Ytajckihgfelbaaa.Inst
open Go.RowKit
set_option maxRecDepth 100000

/-- How many marks. -/
def marksUpto (c : List Nat) (many : Nat) : Nat := min many c.length
theorem boolV_snoc (l : List Bool) (x : Bool) : boolV (l ++ [x]) = boolV l ++ [.bool x] := by simp [boolV]
theorem info_bool : (Try.prog.info? 4).map (fun i => (i.zero, i.size, i.bytes)) = some (some (.bool false), 1, 1) := by kernel_rfl

/-- At the head of the loop. -/
def MarksRel (w : World) (c : List Nat) (many : Nat) (s5 s6 : Value) (u : World) : Prop :=
  ∃ j : Nat, j ≤ marksUpto c many ∧ s6 = .int .i64 (j : Int) ∧ u.ownsRow w.heap.size 4 1 s5 j (boolV (marksN c j)) ∧ Below w.heap.size w u

theorem size_any (A A2 : Option Addr) (c d : Nat) (I : InstD) (h1 : I.sup.length ≤ 17592186044416) (h2 : I.arcs.length ≤ 17592186044416) (w : World) :
    Calls Try.prog 19 #[instV A c A2 d I] w fun e w' => e = .returned (.int .i64 ((I.sup.length : Int) + 2 * (I.arcs.length : Int))) ∧ Below w.heap.size w w' := by
  go_enter Try.func19, Try.ntmps19
  go_wp2_with fail
  go_ret
  exact ⟨rfl, (Below.refl _ _).alloc (Nat.le_refl _) _⟩
end Go.Proofs.Ytajckihgfelbaaa.Inst
