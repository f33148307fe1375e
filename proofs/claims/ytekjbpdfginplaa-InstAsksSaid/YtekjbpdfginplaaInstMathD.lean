/- Plain facts: one mark; a node more, a lower bound less, an arc less. No program in sight. -/
import Derived.Test.YtekjbpdfginplaaInstMathC
namespace Go.Proofs.Ytekjbpdfginplaa.Inst
open Go

/-- Marks of which the last one alone is true. -/
def mark (a : Nat) : List Bool := (List.replicate (a + 1) false).set a true
theorem mark_length (a : Nat) : (mark a).length = a + 1 := by simp [mark]
theorem offB_mark (a k : Nat) : offB (mark a) k = decide (k = a) := by
  unfold offB mark
  rw [List.getD_eq_getElem?_getD, List.getElem?_set]
  by_cases e : a = k
  · subst e
    simp
  · have e2 : ¬ k = a := fun h => e h.symm
    rw [if_neg e, List.getElem?_replicate]
    split <;> simp [e2]
theorem keptN_mark_lt (a : Nat) : ∀ j, j ≤ a → keptN (mark a) j = List.range j
  | 0, _ => rfl
  | j + 1, h => by
    rw [keptN_succ, keptN_mark_lt a j (by omega), offB_mark, List.range_succ]
    have : ¬ j = a := by omega
    simp [this]
theorem keptN_mark (a : Nat) : keptN (mark a) (a + 1) = List.range a := by
  rw [keptN_succ, keptN_mark_lt a a (Nat.le_refl _), offB_mark]
  simp
theorem keptN_mark_length (a : Nat) : ∀ j, a < j → (keptN (mark a) j).length = j - 1
  | 0, h => by omega
  | j + 1, h => by
    rw [keptN_succ, offB_mark, List.length_append]
    by_cases e : j = a
    · subst e
      rw [keptN_mark_lt j j (Nat.le_refl _)]
      simp
    · rw [keptN_mark_length a j (by omega)]
      simp [e]
      omega
/-- Where all ends are among the first numbers, all stay where they are. -/
theorem left_same (n : Nat) (L : List ArcD) (l : List Nat) (h : ∀ a ∈ L, 0 ≤ a.frm ∧ a.frm < n ∧ 0 ≤ a.to ∧ a.to < n) (hl : ∀ x ∈ l, x < L.length) : leftA (List.range n) L l = l.map (arcAt L) := by
  have at_ : ∀ k ∈ l, 0 ≤ (arcAt L k).frm ∧ (arcAt L k).frm < n ∧ 0 ≤ (arcAt L k).to ∧ (arcAt L k).to < n := by
    intro k hk
    have : arcAt L k ∈ L := by
      unfold arcAt
      rw [List.getD_eq_getElem?_getD, List.getElem?_eq_getElem (hl k hk)]
      exact List.getElem_mem _
    exact h _ this
  unfold leftA
  have s : ∀ a ∈ l.map (arcAt L), staysB (List.range n) a = true := by
    intro a ha
    rw [List.mem_map] at ha
    obtain ⟨k, hk, rfl⟩ := ha
    obtain ⟨p0, p1, q0, q1⟩ := at_ k hk
    unfold staysB
    rw [placeD_range _ _ p0 p1, placeD_range _ _ q0 q1]
    simp [p0, q0]
  rw [List.filter_eq_self.2 s]
  have m : ∀ a ∈ l.map (arcAt L), movedD (List.range n) a = a := by
    intro a ha
    rw [List.mem_map] at ha
    obtain ⟨k, hk, rfl⟩ := ha
    obtain ⟨p0, p1, q0, q1⟩ := at_ k hk
    unfold movedD
    rw [placeD_range _ _ p0 p1, placeD_range _ _ q0 q1]
  rw [List.map_congr_left m, List.map_id']
/-- A node more. -/
def oneMore (I : InstD) : InstD := ⟨I.sup ++ [0], I.arcs⟩
theorem more_span (I : InstD) : spanD (oneMore I) = spanD I + 1 := by
  unfold spanD oneMore
  simp
  omega
theorem more_back (I : InstD) (h : InD I) (h1 : I.sup.length + 1 ≤ 1000) (h2 : I.arcs.length ≤ 1000) : withoutD (oneMore I) (mark I.sup.length) [] = I := by
  unfold withoutD
  have e1 : (oneMore I).sup.length = I.sup.length + 1 := by simp [oneMore]
  have e2 : (oneMore I).arcs = I.arcs := rfl
  rw [e1, keptD_small _ _ h1, keptN_mark, e2, keptD_nil _ h2, left_same _ _ _ h (fun x hx => by simpa using hx), map_arcAt]
  have e3 : (List.range I.sup.length).map (fun k => (oneMore I).sup.getD k 0) = I.sup := by
    have : ∀ k ∈ List.range I.sup.length, (oneMore I).sup.getD k 0 = I.sup.getD k 0 := by
      intro k hk
      have hk : k < I.sup.length := by simpa using hk
      unfold oneMore
      simp only
      rw [List.getD_eq_getElem?_getD, List.getD_eq_getElem?_getD, List.getElem?_append_left hk]
    rw [List.map_congr_left this, map_getD]
  rw [e3]
/-- A lower bound less. -/
def lowLess (I : InstD) (a : Nat) (y : ArcD) : InstD := ⟨I.sup, I.arcs.set a y⟩
theorem lows_set (L : List ArcD) (a : Nat) (y : ArcD) (ha : a < L.length) (hy : y.low = 0) : (lows (L.set a y) : Int) = (lows L : Int) - if L[a].low ≠ 0 then 1 else 0 := by
  unfold lows
  have h1 : L = L.take a ++ L[a] :: L.drop (a + 1) := by rw [List.getElem_cons_drop, List.take_append_drop]
  have h2 : L.set a y = L.take a ++ y :: L.drop (a + 1) := by rw [List.set_eq_take_append_cons_drop, if_pos ha]
  have h3 : L.countP (fun a => decide (a.low ≠ 0)) = (L.take a ++ L[a] :: L.drop (a + 1)).countP fun a => decide (a.low ≠ 0) := by rw [← h1]
  rw [h2, h3, List.countP_append, List.countP_append, List.countP_cons, List.countP_cons]
  by_cases z : L[a].low = 0
  · simp [hy, z]
  · simp [hy, z]
    omega
theorem less_span (I : InstD) (a : Nat) (y : ArcD) (ha : a < I.arcs.length) (hy : y.low = 0) : spanD (lowLess I a y) = spanD I - if (I.arcs[a]).low ≠ 0 then 1 else 0 := by
  have := lows_set I.arcs a y ha hy
  unfold spanD lowLess
  simp only [List.length_set]
  omega
theorem lows_mark (L : List ArcD) (a : Nat) (h0 : (arcAt L a).low = 0) : ∀ j, lows ((keptN (mark a) j).map (arcAt L)) = lows ((List.range j).map (arcAt L))
  | 0 => rfl
  | j + 1 => by
    rw [keptN_succ, offB_mark, List.range_succ, List.map_append, List.map_append, List.map_cons, List.map_nil, lows_snoc, ← lows_mark L a h0 j]
    by_cases e : j = a
    · subst e
      simp [h0, lows]
    · simp only [e, decide_false, Bool.false_eq_true, if_false, List.map_cons, List.map_nil, lows_snoc]
/-- Without one arc that has no lower bound there is one less. -/
theorem gone_span (I : InstD) (a : Nat) (h : InD I) (ha : a < I.arcs.length) (h0 : (arcAt I.arcs a).low = 0) (h1 : I.sup.length ≤ 1000) (h2 : I.arcs.length ≤ 1000) : spanD (withoutD I [] (mark a)) = spanD I - 1 := by
  have e1 : (withoutD I [] (mark a)).arcs = (keptN (mark a) I.arcs.length).map (arcAt I.arcs) := by
    unfold withoutD
    rw [keptD_nil _ h1, keptD_small _ _ h2]
    exact left_same _ _ _ h (keptN_lt _ _)
  have e2 : (withoutD I [] (mark a)).sup.length = I.sup.length := by
    unfold withoutD
    rw [keptD_nil _ h1]
    simp
  have e3 := lows_mark I.arcs a h0 I.arcs.length
  rw [map_arcAt] at e3
  have e4 := keptN_mark_length a I.arcs.length ha
  unfold spanD
  rw [e2, e1, List.length_map, e4, e3]
  omega
theorem set_in (I : InstD) (a : Nat) (ha : a < I.arcs.length) (h : InD I) (y : ArcD) (h1 : y.frm = (arcAt I.arcs a).frm) (h2 : y.to = (arcAt I.arcs a).to) : InD (lowLess I a y) := by
  intro b hb
  have e : arcAt I.arcs a ∈ I.arcs := by
    unfold arcAt
    rw [List.getD_eq_getElem?_getD, List.getElem?_eq_getElem ha]
    exact List.getElem_mem _
  rcases List.mem_or_eq_of_mem_set hb with q | q
  · exact h b q
  · subst q
    have := h _ e
    rw [h1, h2]
    exact this
theorem more_in (I : InstD) (h : InD I) : InD (oneMore I) := by
  intro b hb
  have := h b hb
  have e : (oneMore I).sup.length = I.sup.length + 1 := by simp [oneMore]
  rw [e]
  omega
end Go.Proofs.Ytekjbpdfginplaa.Inst
