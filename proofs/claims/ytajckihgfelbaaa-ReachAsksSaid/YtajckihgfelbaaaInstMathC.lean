/- Plain facts: what is left of an instance, and of that. No program in sight. -/
import Derived.Test.YtajckihgfelbaaaInstMathB
namespace Go.Proofs.Ytajckihgfelbaaa.Inst
open Go

theorem keptN_nil (n : Nat) : keptN [] n = List.range n := by
  unfold keptN offB
  simp
theorem keptD_nil (n : Nat) (h : n ≤ 1000) : keptD [] (n : Int) = List.range n := by
  unfold keptD
  rw [show upto (n : Int) = n by unfold upto; omega, keptN_nil]
theorem keptD_small (off : List Bool) (n : Nat) (h : n ≤ 1000) : keptD off (n : Int) = keptN off n := by
  unfold keptD
  rw [show upto (n : Int) = n by unfold upto; omega]
/-- Where a place is told, the number is there. -/
theorem placeF_at (x : Int) : ∀ (l : List Nat) (k : Nat), 0 ≤ placeF l x k → ∃ j, ∃ h : j < l.length, placeF l x k = ((k + j : Nat) : Int) ∧ (l[j] : Int) = x
  | [], k, h => by simp [placeF] at h
  | y :: r, k, h => by
    by_cases e : (y : Int) = x
    · exact ⟨0, by simp, by rw [placeF, if_pos e]; rfl, e⟩
    · rw [placeF, if_neg e] at h
      obtain ⟨j, hj, h1, h2⟩ := placeF_at x r (k + 1) h
      exact ⟨j + 1, by simp; omega, by rw [placeF, if_neg e, h1]; congr 1; omega, by simpa using h2⟩
theorem placeD_at {l : List Nat} {x : Int} (h : 0 ≤ placeD l x) : ∃ j, ∃ h : j < l.length, placeD l x = (j : Int) ∧ (l[j] : Int) = x := by
  obtain ⟨j, hj, h1, h2⟩ := placeF_at x l 0 h
  exact ⟨j, hj, by unfold placeD; rw [h1]; congr 1; omega, h2⟩
theorem placeD_range (n : Nat) (x : Int) (h0 : 0 ≤ x) (h1 : x < n) : placeD (List.range n) x = x := by
  unfold placeD
  rw [placeF_take x (List.range n) 0 x.toNat (by simp; omega) (fun i hi => by simp; omega) (by simp; omega)]
  omega
/-- Each arc of an instance goes between nodes. -/
def InD (I : InstD) : Prop := ∀ a ∈ I.arcs, 0 ≤ a.frm ∧ a.frm < I.sup.length ∧ 0 ≤ a.to ∧ a.to < I.sup.length
theorem map_getD (l : List Int) : (List.range l.length).map (fun k => l.getD k 0) = l := by
  apply List.ext_getElem
  · simp
  · intro i h1 h2
    simp [h2]
theorem map_arcAt (l : List ArcD) : (List.range l.length).map (arcAt l) = l := by
  apply List.ext_getElem
  · simp
  · intro i h1 h2
    simp [arcAt, h2]
/-- Without nothing it is the same. -/
theorem without_none (I : InstD) (h : InD I) (h1 : I.sup.length ≤ 1000) (h2 : I.arcs.length ≤ 1000) : withoutD I [] [] = I := by
  unfold withoutD
  rw [keptD_nil _ h1, keptD_nil _ h2, map_getD]
  have e : leftA (List.range I.sup.length) I.arcs (List.range I.arcs.length) = I.arcs := by
    unfold leftA
    rw [map_arcAt]
    have s : ∀ a ∈ I.arcs, staysB (List.range I.sup.length) a = true := by
      intro a ha
      obtain ⟨p0, p1, q0, q1⟩ := h a ha
      unfold staysB
      rw [placeD_range _ _ p0 p1, placeD_range _ _ q0 q1]
      simp [p0, q0]
    rw [List.filter_eq_self.2 s]
    have m : ∀ a ∈ I.arcs, movedD (List.range I.sup.length) a = a := by
      intro a ha
      obtain ⟨p0, p1, q0, q1⟩ := h a ha
      unfold movedD
      rw [placeD_range _ _ p0 p1, placeD_range _ _ q0 q1]
    rw [List.map_congr_left m, List.map_id']
  rw [e]
/-- What each arc that is left was. -/
theorem left_was {N : List Nat} {L : List ArcD} {l : List Nat} {b : ArcD} (hl : ∀ x ∈ l, x < L.length) (hb : b ∈ leftA N L l) :
    ∃ f, ∃ hf : f < N.length, ∃ t, ∃ ht : t < N.length, b.frm = (f : Int) ∧ b.to = (t : Int) ∧ (⟨(N[f] : Nat), (N[t] : Nat), b.low, b.cap, b.cost⟩ : ArcD) ∈ L := by
  unfold leftA at hb
  rw [List.mem_map] at hb
  obtain ⟨a, ha, rfl⟩ := hb
  rw [List.mem_filter, List.mem_map] at ha
  obtain ⟨⟨k, hk, rfl⟩, hs⟩ := ha
  unfold staysB at hs
  rw [Bool.and_eq_true, decide_eq_true_iff, decide_eq_true_iff] at hs
  obtain ⟨f, hf, e1, e2⟩ := placeD_at hs.1
  obtain ⟨t, ht, e3, e4⟩ := placeD_at hs.2
  refine ⟨f, hf, t, ht, e1, e3, ?_⟩
  unfold movedD
  simp only
  rw [e2, e4]
  unfold arcAt
  rw [List.getD_eq_getElem?_getD, List.getElem?_eq_getElem (hl k hk)]
  exact List.getElem_mem _
theorem left_in {N : List Nat} {L : List ArcD} {l : List Nat} (hl : ∀ x ∈ l, x < L.length) : ∀ b ∈ leftA N L l, 0 ≤ b.frm ∧ b.frm < N.length ∧ 0 ≤ b.to ∧ b.to < N.length := by
  intro b hb
  obtain ⟨f, hf, t, ht, e1, e2, _⟩ := left_was hl hb
  omega
theorem lows_left (N : List Nat) (L : List ArcD) : lows (leftA N L (List.range L.length)) ≤ lows L := by
  unfold lows leftA
  rw [map_arcAt, List.countP_map]
  have e : ((fun a : ArcD => decide (a.low ≠ 0)) ∘ movedD N) = fun a : ArcD => decide (a.low ≠ 0) := rfl
  rw [e]
  exact (List.filter_sublist).countP_le
/-- All that the law asks of what is left. -/
theorem without_facts (I : InstD) (ns : List Bool) (N : List Nat) (hN : N = keptD ns I.sup.length) (h1 : I.sup.length ≤ 1000) (h2 : I.arcs.length ≤ 1000) :
    (withoutD I ns []).sup = N.map (fun k => I.sup.getD k 0) ∧ (withoutD I ns []).arcs.length ≤ I.arcs.length ∧
    (∀ b ∈ (withoutD I ns []).arcs, ∃ f, ∃ hf : f < N.length, ∃ t, ∃ ht : t < N.length, b.frm = (f : Int) ∧ b.to = (t : Int) ∧ (⟨(N[f] : Nat), (N[t] : Nat), b.low, b.cap, b.cost⟩ : ArcD) ∈ I.arcs) ∧
    withoutD (withoutD I ns []) [] [] = withoutD I ns [] ∧ spanD (withoutD I ns []) ≤ spanD I ∧ N.length ≤ I.sup.length := by
  have hl : ∀ x ∈ List.range I.arcs.length, x < I.arcs.length := fun x hx => by simpa using hx
  have e : (withoutD I ns []).arcs = leftA N I.arcs (List.range I.arcs.length) := by
    unfold withoutD
    rw [keptD_nil _ h2, ← hN]
  have s : (withoutD I ns []).sup = N.map (fun k => I.sup.getD k 0) := by
    unfold withoutD
    rw [← hN]
  have nl : N.length ≤ I.sup.length := by
    rw [hN, keptD_small _ _ h1]
    exact keptN_length _ _
  have al : (withoutD I ns []).arcs.length ≤ I.arcs.length := by
    rw [e]
    unfold leftA
    rw [List.length_map]
    have := List.length_filter_le (staysB N) ((List.range I.arcs.length).map (arcAt I.arcs))
    simpa using this
  have lw := lows_left N I.arcs
  rw [← e] at lw
  have sl : (withoutD I ns []).sup.length = N.length := by rw [s, List.length_map]
  refine ⟨s, al, fun b hb => ?_, ?_, ?_, nl⟩
  · rw [e] at hb
    exact left_was hl hb
  · refine without_none _ ?_ (by rw [sl]; omega) (by omega)
    intro a ha
    rw [sl]
    rw [e] at ha
    exact left_in hl a ha
  · unfold spanD
    rw [sl]
    omega
theorem instC_in (c d : List Nat) : InD (instC c d) := by
  intro a ha
  rw [instC_sup]
  have ok := arcsC_ok (nodesC d) c (by have := nodesC_bd d; omega) a ha
  exact ⟨ok.f0, ok.f1, ok.t0, ok.t1⟩
end Go.Proofs.Ytajckihgfelbaaa.Inst
