/- Contracts of the document's answers for layer 3: what is wrong. -/
import Derived.Test.YtajckihgfelbaaaInstD
import Derived.StillTailTactics
namespace Go.Proofs.Ytajckihgfelbaaa.Inst
open Go.RowKit

/-- A block of two cells: an instance's value. -/
def Box2 (w : World) (b : Nat) (v0 v1 : Value) : Prop := w.cell? ⟨b, 0, none⟩ = some v0 ∧ w.cell? ⟨b, 1, none⟩ = some v1 ∧ b < w.heap.size
theorem Box2.later {w w' : World} {b : Nat} {v0 v1 : Value} (h : Box2 w b v0 v1) (hb : Below w.heap.size w w') : Box2 w' b v0 v1 :=
  ⟨(hb.cell (p := ⟨b, 0, none⟩) h.2.2).trans h.1, (hb.cell (p := ⟨b, 1, none⟩) h.2.2).trans h.2.1, by have := hb.size; have := h.2.2; omega⟩
theorem box2_new (w : World) (v0 v1 : Value) (t : TypeId) : Box2 (w.alloc (.cells #[v0, v1] t)) w.heap.size v0 v1 := by
  refine ⟨?_, ?_, by simp⟩ <;> simp

/-- At the head of the loop over arcs; over supplies. -/
def RightRel (W1 : World) (I : InstD) (s3 : Value) (u : World) : Prop := ∃ k : Nat, k ≤ I.arcs.length ∧ s3 = .int .i64 (k : Int) ∧ arcsW I.sup.length (I.arcs.take k) = 0 ∧ Below W1.heap.size W1 u
def RightRel2 (W1 : World) (I : InstD) (s5 s6 : Value) (u : World) : Prop :=
  ∃ (k : Nat) (s : Int), k ≤ I.sup.length ∧ s6 = .int .i64 (k : Int) ∧ s5 = .int .i64 s ∧ s = sumI (I.sup.take k) ∧ (I.sup.take k).all inB = true ∧ Below W1.heap.size W1 u
theorem all_no {α : Type} (l : List α) (k : Nat) (h : k < l.length) (p : α → Bool) (hk : p l[k] = false) : l.all p = false := by
  rw [Bool.eq_false_iff]
  intro q
  rw [List.all_eq_true] at q
  have := q l[k] (List.getElem_mem h)
  rw [hk] at this
  cases this
theorem all_take {α : Type} (l : List α) (k : Nat) (h : k < l.length) (p : α → Bool) (ha : (l.take k).all p = true) (hk : p l[k] = true) : (l.take (k + 1)).all p = true := by
  rw [List.take_succ_eq_append_getElem h, List.all_append, ha]
  simp [hk]

end Go.Proofs.Ytajckihgfelbaaa.Inst
