/- Plain facts on counting arcs by their nodes. No program in sight. -/
import Derived.Test.YtldjlclinckblaaAdjMathC
namespace Go.Proofs.Ytldjlclinckblaa.Adj
open Go Go.Proofs.Ytldjlclinckblaa.Inst

/-- How often each arc has come: at nodes below n, and in l. -/
def cntL (I : InstD) (fn : ArcD → Int) (n : Int) (l : List Nat) : List Nat := (List.range I.arcs.length).map fun a => (if fn (arcAt I.arcs a) < n then 1 else 0) + (if a ∈ l then 1 else 0)
theorem cnt_length (I : InstD) (fn : ArcD → Int) (n : Int) (l : List Nat) : (cntL I fn n l).length = I.arcs.length := by simp [cntL]
theorem cnt_get (I : InstD) (fn : ArcD → Int) (n : Int) (l : List Nat) (a : Nat) (h : a < I.arcs.length) : (cntL I fn n l)[a]? = some ((if fn (arcAt I.arcs a) < n then 1 else 0) + (if a ∈ l then 1 else 0)) := by
  unfold cntL
  rw [List.getElem?_map, List.getElem?_range h]
  rfl
theorem cnt_le (I : InstD) (fn : ArcD → Int) (n : Int) (l : List Nat) (a : Nat) (h : a < I.arcs.length) : ∃ y, (cntL I fn n l)[a]? = some y ∧ y ≤ 2 := by
  refine ⟨_, cnt_get I fn n l a h, ?_⟩
  split <;> split <;> omega
theorem cnt_start (I : InstD) (fn : ArcD → Int) (h : ∀ a, a < I.arcs.length → 0 ≤ fn (arcAt I.arcs a)) : cntL I fn 0 [] = List.replicate I.arcs.length 0 := by
  apply List.ext_getElem?
  intro a
  by_cases ha : a < I.arcs.length
  · rw [cnt_get _ _ _ _ _ ha, List.getElem?_replicate, if_pos ha, if_neg (by have := h a ha; omega)]
    simp
  · rw [List.getElem?_eq_none (by rw [cnt_length]; omega), List.getElem?_eq_none (by simp; omega)]
theorem cnt_step (I : InstD) (fn : ArcD → Int) (n : Int) (l : List Nat) (a y : Nat) (h : a < I.arcs.length) (hl : a ∉ l) (hy : (cntL I fn n l)[a]? = some y) : (cntL I fn n l).set a (y + 1) = cntL I fn n (l ++ [a]) := by
  apply List.ext_getElem?
  intro b
  rw [List.getElem?_set, cnt_length]
  by_cases e : a = b
  · subst e
    rw [if_pos rfl, if_pos h, cnt_get _ _ _ _ _ h]
    rw [cnt_get _ _ _ _ _ h, if_neg hl] at hy
    simp at hy
    subst hy
    simp
  · rw [if_neg e]
    by_cases hb : b < I.arcs.length
    · rw [cnt_get _ _ _ _ _ hb, cnt_get _ _ _ _ _ hb]
      have q : (b ∈ l ++ [a]) ↔ b ∈ l := by simp [Ne.symm e]
      by_cases hm : b ∈ l
      · rw [if_pos hm, if_pos (q.2 hm)]
      · rw [if_neg hm, if_neg (fun x => hm (q.1 x))]
    · rw [List.getElem?_eq_none (by rw [cnt_length]; omega), List.getElem?_eq_none (by rw [cnt_length]; omega)]
theorem cnt_next (I : InstD) (fn : ArcD → Int) (n : Int) (l : List Nat) (hl : ∀ a, a < I.arcs.length → (a ∈ l ↔ fn (arcAt I.arcs a) = n)) : cntL I fn n l = cntL I fn (n + 1) [] := by
  apply List.ext_getElem?
  intro a
  by_cases ha : a < I.arcs.length
  · rw [cnt_get _ _ _ _ _ ha, cnt_get _ _ _ _ _ ha]
    have q := hl a ha
    by_cases h : fn (arcAt I.arcs a) = n
    · rw [if_pos (q.2 h), if_neg (by omega), if_pos (by omega)]
      simp
    · rw [if_neg (fun x => h (q.1 x))]
      by_cases h2 : fn (arcAt I.arcs a) < n
      · rw [if_pos h2, if_pos (by omega)]
        simp
      · rw [if_neg h2, if_neg (by omega)]
        simp
  · rw [List.getElem?_eq_none (by rw [cnt_length]; omega), List.getElem?_eq_none (by rw [cnt_length]; omega)]
theorem cnt_end (I : InstD) (fn : ArcD → Int) (n : Int) (a : Nat) (h : a < I.arcs.length) (hf : fn (arcAt I.arcs a) < n) : (cntL I fn n [])[a]? = some 1 := by
  rw [cnt_get _ _ _ _ _ h, if_pos hf]
  simp
theorem out_mem {I : InstD} (hf : ∀ a, a < I.arcs.length → fitD I (a : Int) = true) (n : Int) (a : Nat) (h : a < I.arcs.length) : a ∈ outD I n ↔ (arcAt I.arcs a).frm = n := by
  unfold outD
  rw [mem_some]
  unfold touch
  simp [hf a h, h]
theorem in_mem {I : InstD} (hf : ∀ a, a < I.arcs.length → fitD I (a : Int) = true) (n : Int) (a : Nat) (h : a < I.arcs.length) : a ∈ inD I n ↔ (arcAt I.arcs a).to = n := by
  unfold inD
  rw [mem_some]
  unfold touch
  simp [hf a h, h]
theorem fit_ends {I : InstD} {a : Nat} (h : fitD I (a : Int) = true) : (0 ≤ (arcAt I.arcs a).frm ∧ (arcAt I.arcs a).frm < (I.sup.length : Int)) ∧ 0 ≤ (arcAt I.arcs a).to ∧ (arcAt I.arcs a).to < (I.sup.length : Int) := by
  unfold fitD at h
  have h := of_decide_eq_true h
  rw [Int.toNat_natCast] at h
  exact ⟨⟨h.2.2.1, h.2.2.2.1⟩, h.2.2.2.2⟩
theorem take_snoc (l : List Nat) (j a : Nat) (h : l[j]? = some a) : l.take (j + 1) = l.take j ++ [a] := by
  rw [List.take_add_one, h]
  rfl
theorem not_mem_take {l : List Nat} (hn : l.Nodup) (j a : Nat) (h : l[j]? = some a) : a ∉ l.take j := by
  intro hm
  have e : (l.take j ++ [a]).Nodup := by
    rw [← take_snoc l j a h]
    exact (List.take_sublist _ _).nodup hn
  rw [List.nodup_append] at e
  exact e.2.2 a hm a (by simp) rfl
end Go.Proofs.Ytldjlclinckblaa.Adj
