/- Plain facts on ways: of each number a lesser one of its group, or itself. No program in sight. -/
import Derived.Test.YtoccgpkpmhkeiaaUniMathB
namespace Go.Proofs.Ytoccgpkpmhkeiaa.Uni
open Go

/-- Of each number one of its group that is no greater; itself only of the least one. -/
structure Ways (N L : List Nat) : Prop where
  len : N.length = L.length
  le : ∀ i, i < L.length → N.getD i 0 ≤ i
  same : ∀ i, i < L.length → L.getD (N.getD i 0) 0 = L.getD i 0
  root : ∀ i, i < L.length → N.getD i 0 = i → L.getD i 0 = i
theorem range_get (n i : Nat) (h : i < n) : (List.range n).getD i 0 = i := by simp [List.getD_eq_getElem?_getD, h]
theorem ways_range (n : Nat) : Ways (List.range n) (List.range n) := by
  refine ⟨rfl, fun i hi => ?_, fun i hi => ?_, fun i hi _ => ?_⟩
  all_goals (rw [List.length_range] at hi; first | rw [range_get n i hi, range_get n i hi] | rw [range_get n i hi])
  exact Nat.le_refl _
theorem set_get (N : List Nat) (a x i : Nat) (h : i < N.length) : (N.set a x).getD i 0 = if i = a then x else N.getD i 0 := by
  rw [List.getD_eq_getElem?_getD, List.getElem?_set]
  by_cases c : a = i
  · subst c
    rw [if_pos rfl, if_pos h, if_pos rfl]
    rfl
  · rw [if_neg c, if_neg (fun q => c q.symm), List.getD_eq_getElem?_getD]
theorem Ways.iff {N L : List Nat} (h : Ways N L) (hc : Canon L) {i : Nat} (hi : i < L.length) : N.getD i 0 = i ↔ L.getD i 0 = i := by
  refine ⟨h.root i hi, fun e => ?_⟩
  have h1 := h.le i hi
  have h2 := hc.le (N.getD i 0) (by omega)
  rw [h.same i hi, e] at h2
  omega
/-- A way is halved. -/
theorem Ways.halve {N L : List Nat} (h : Ways N L) {a : Nat} (ha : a < L.length) (hne : N.getD a 0 ≠ a) : Ways (N.set a (N.getD (N.getD a 0) 0)) L := by
  have l1 := h.le a ha
  have hb : N.getD a 0 < L.length := by omega
  have l2 := h.le _ hb
  refine ⟨by rw [List.length_set]; exact h.len, fun i hi => ?_, fun i hi => ?_, fun i hi => ?_⟩
  · rw [set_get _ _ _ _ (by rw [h.len]; exact hi)]
    split
    · omega
    · exact h.le i hi
  · rw [set_get _ _ _ _ (by rw [h.len]; exact hi)]
    split
    · rename_i e
      rw [h.same _ hb, h.same a ha, e]
    · exact h.same i hi
  · rw [set_get _ _ _ _ (by rw [h.len]; exact hi)]
    split
    · intro q
      omega
    · exact h.root i hi
/-- Two least numbers come together. -/
theorem Ways.join {N L : List Nat} (h : Ways N L) {x y : Nat} (hx : x < L.length) (hy : y < L.length) (rx : L.getD x 0 = x) (ry : L.getD y 0 = y) (hne : x ≠ y) : Ways (N.set (max x y) (min x y)) (mergeL L x y) := by
  have M : ∀ i, i < L.length → (mergeL L x y).getD i 0 = if L.getD i 0 = x ∨ L.getD i 0 = y then min x y else L.getD i 0 := fun i hi => merge_get L x y i hi
  have hmin : min x y < L.length := by omega
  have rmin : L.getD (min x y) 0 = min x y := by rcases Nat.le_total x y with c | c <;> simp only [Nat.min_eq_left c, Nat.min_eq_right c, rx, ry]
  have rmax : L.getD (max x y) 0 = max x y := by rcases Nat.le_total x y with c | c <;> simp only [Nat.max_eq_left c, Nat.max_eq_right c, rx, ry]
  refine ⟨by rw [List.length_set, merge_length]; exact h.len, fun i hi => ?_, fun i hi => ?_, fun i hi => ?_⟩ <;> rw [merge_length] at hi <;> rw [set_get _ _ _ _ (by rw [h.len]; exact hi)]
  · split
    · omega
    · exact h.le i hi
  · split
    · rename_i e
      rw [M _ hmin, M i hi, e, rmin, rmax, if_pos (by omega), if_pos (by omega)]
    · have := h.le i hi
      rw [M _ (by omega), M i hi, h.same i hi]
  · split
    · intro q
      omega
    · rename_i e
      intro q
      have r := h.root i hi q
      rw [M i hi, r]
      split
      · omega
      · rfl
theorem leastL_nat {L : List Nat} {a : Nat} (h : a < L.length) : leastL L (a : Int) = ((L.getD a 0 : Nat) : Int) := by
  unfold leastL
  rw [if_pos ⟨by omega, by omega⟩, Int.toNat_natCast]
end Go.Proofs.Ytoccgpkpmhkeiaa.Uni
