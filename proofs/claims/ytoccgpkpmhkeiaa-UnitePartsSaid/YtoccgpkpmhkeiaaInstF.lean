/- Contracts of the document's answers for layer 3: what is off, what is kept, a number's place. -/
import Derived.Test.YtoccgpkpmhkeiaaInstE
import Derived.Maps.AppendAt
namespace Go.Proofs.Ytoccgpkpmhkeiaa.Inst
open Go.RowKit

def boolV (l : List Bool) : List Value := l.map Value.bool
theorem boolV_length (l : List Bool) : (boolV l).length = l.length := by simp [boolV]
theorem bools_at {w : World} {B : Nat} {a : Option Addr} {l : List Bool} (h : Cells w B a (boolV l)) (h0 : 0 < l.length) :
    ∃ b off, a = some ⟨b, off, none⟩ ∧ b < B ∧ ∀ k (hk : k < l.length), w.cell? ⟨b, off + k, none⟩ = some (.bool l[k]) := by
  obtain ⟨b, off, e, hb, hc⟩ := h (by rw [boolV_length]; exact h0)
  refine ⟨b, off, e, hb, fun k hk => ?_⟩
  rw [hc k (by rw [boolV_length]; exact hk)]
  simp [boolV]
def natV (l : List Nat) : List Value := numV (l.map fun (x : Nat) => (x : Int))
theorem natV_length (l : List Nat) : (natV l).length = l.length := by simp [natV, numV_length]
theorem natV_snoc (l : List Nat) (x : Nat) : natV (l ++ [x]) = natV l ++ [.int .i64 (x : Int)] := by simp [natV, numV]
theorem nats_at {w : World} {B : Nat} {a : Option Addr} {l : List Nat} (h : Cells w B a (natV l)) (h0 : 0 < l.length) :
    ∃ b off, a = some ⟨b, off, none⟩ ∧ b < B ∧ ∀ k (hk : k < l.length), w.cell? ⟨b, off + k, none⟩ = some (.int .i64 (l[k] : Int)) := by
  obtain ⟨b, off, e, hb, hc⟩ := nums_at h (by simpa using h0)
  refine ⟨b, off, e, hb, fun k hk => ?_⟩
  rw [hc k (by simpa using hk)]
  simp

theorem info_int : (Try.prog.info? 3).map (fun i => (i.zero, i.size, i.bytes)) = some (some (.int .i64 0), 1, 8) := by kernel_rfl
/-- What a call that tells a []int of its own does. -/
def TellsNats (l : List Nat) (w : World) (e : Ending) (w' : World) : Prop :=
  ∃ A cap, e = .returned (.slice A l.length cap) ∧ l.length ≤ cap ∧ Cells w' w'.heap.size A (natV l) ∧ Below w.heap.size w w' ∧ w'.ownsRow w.heap.size 3 1 (.slice A l.length cap) l.length (natV l)

/-- At the head of Kept's loop. -/
def KeptRel (w : World) (off : List Bool) (n : Int) (s5 s6 : Value) (u : World) : Prop :=
  ∃ k : Nat, k ≤ upto n ∧ s6 = .int .i64 (k : Int) ∧ u.ownsRow w.heap.size 3 1 s5 (keptN off k).length (natV (keptN off k)) ∧ Below w.heap.size w u

/-- At the head of Place's loop. -/
def PlaceRel (l : List Nat) (x : Int) (s5 : Value) : Prop := ∃ k : Nat, k ≤ l.length ∧ s5 = .int .i64 (k : Int) ∧ ∀ i (hi : i < k) (hl : i < l.length), (l[i] : Int) ≠ x
end Go.Proofs.Ytoccgpkpmhkeiaa.Inst
