/- Plain facts on arcs by their nodes. No program in sight. -/
import Derived.Test.YtajckihgfelbaaaInstMathC
namespace Go.Proofs.Ytajckihgfelbaaa.Adj
open Go Go.Proofs.Ytajckihgfelbaaa.Inst

/-- Is there such an arc, between nodes? -/
def fitD (I : InstD) (a : Int) : Bool :=
  decide (0 ≤ a ∧ a < I.arcs.length ∧ 0 ≤ (arcAt I.arcs a.toNat).frm ∧ (arcAt I.arcs a.toNat).frm < I.sup.length ∧ 0 ≤ (arcAt I.arcs a.toNat).to ∧ (arcAt I.arcs a.toNat).to < I.sup.length)
def arcD (I : InstD) (a : Int) : ArcD := if fitD I a = true then arcAt I.arcs a.toNat else ⟨0, 0, 0, 0, 0⟩
/-- Does it go out of a node, or come into it? -/
def touch (o i : Bool) (n : Int) (x : ArcD) : Bool := (o && decide (x.frm = n)) || (i && decide (x.to = n))
def someN (I : InstD) (n : Int) (o i : Bool) (j : Nat) : List Nat := (List.range j).filter fun (a : Nat) => fitD I (a : Int) && touch o i n (arcAt I.arcs a)
def someD (I : InstD) (n : Int) (o i : Bool) : List Nat := someN I n o i I.arcs.length
theorem someN_succ (I : InstD) (n : Int) (o i : Bool) (j : Nat) : someN I n o i (j + 1) = someN I n o i j ++ if (fitD I (j : Int) && touch o i n (arcAt I.arcs j)) = true then [j] else [] := by
  unfold someN
  rw [List.range_succ, List.filter_append]
  congr 1
  cases h : (fitD I (j : Int) && touch o i n (arcAt I.arcs j)) <;> simp [h]
theorem someN_length (I : InstD) (n : Int) (o i : Bool) (j : Nat) : (someN I n o i j).length ≤ j := by
  have := List.length_filter_le (fun (a : Nat) => fitD I (a : Int) && touch o i n (arcAt I.arcs a)) (List.range j)
  rw [List.length_range] at this
  exact this
abbrev outD (I : InstD) (n : Int) : List Nat := someD I n true false
abbrev inD (I : InstD) (n : Int) : List Nat := someD I n false true
abbrev atD (I : InstD) (n : Int) : List Nat := someD I n true true
def loopsN (I : InstD) (n : Int) (j : Nat) : Nat := (List.range j).countP fun (a : Nat) => fitD I (a : Int) && (decide ((arcAt I.arcs a).frm = n) && decide ((arcAt I.arcs a).to = n))
def loopsD (I : InstD) (n : Int) : Nat := loopsN I n I.arcs.length
theorem loopsN_succ (I : InstD) (n : Int) (j : Nat) : loopsN I n (j + 1) = loopsN I n j + if (fitD I (j : Int) && (decide ((arcAt I.arcs j).frm = n) && decide ((arcAt I.arcs j).to = n))) = true then 1 else 0 := by
  unfold loopsN
  rw [List.range_succ, List.countP_append, List.countP_cons, List.countP_nil]
  simp
theorem loopsN_le (I : InstD) (n : Int) (j : Nat) : loopsN I n j ≤ j := by
  have h := List.countP_le_length (p := fun (a : Nat) => fitD I (a : Int) && (decide ((arcAt I.arcs a).frm = n) && decide ((arcAt I.arcs a).to = n))) (l := List.range j)
  rw [List.length_range] at h
  exact h
def otherD (I : InstD) (a n : Int) : Int :=
  if fitD I a = false then -1 else if (arcAt I.arcs a.toNat).frm = n then (arcAt I.arcs a.toNat).to else if (arcAt I.arcs a.toNat).to = n then (arcAt I.arcs a.toNat).frm else -1
end Go.Proofs.Ytajckihgfelbaaa.Adj
