/- Plain facts on a line of nodes, and on one that is closed to a ring. No program in sight. -/
import Derived.Test.YticaficolgbjkaaRchOrder
namespace Go.Proofs.Yticaficolgbjkaa.Rch
open Go Go.Proofs.Yticaficolgbjkaa.Inst Go.Proofs.Yticaficolgbjkaa.Adj

/-- The arcs of a line, the first j of them. -/
def LineL (L : List ArcD) (j : Nat) : Prop := L.length = j ∧ ∀ i, i < j → (arcAt L i).frm = (i : Int) ∧ (arcAt L i).to = ((i + 1 : Nat) : Int)
theorem LineL.snoc {L : List ArcD} {j : Nat} (h : LineL L j) {x : ArcD} (h1 : x.frm = (j : Int)) (h2 : x.to = ((j + 1 : Nat) : Int)) : LineL (L ++ [x]) (j + 1) := by
  obtain ⟨hl, ha⟩ := h
  refine ⟨by rw [List.length_append, hl]; rfl, fun i hi => ?_⟩
  by_cases e : i = j
  · subst e
    rw [show arcAt (L ++ [x]) i = x from by unfold arcAt; rw [List.getD_eq_getElem?_getD, List.getElem?_append_right (by omega), hl, Nat.sub_self]; rfl]
    exact ⟨h1, h2⟩
  · rw [show arcAt (L ++ [x]) i = arcAt L i from by unfold arcAt; rw [List.getD_eq_getElem?_getD, List.getD_eq_getElem?_getD, List.getElem?_append_left (by omega)]]
    exact ha i (by omega)
theorem line_fit {J : InstD} {m i : Nat} (hs : J.sup.length = m) (hi : i < J.arcs.length) (h : (arcAt J.arcs i).frm = (i : Int) ∧ (arcAt J.arcs i).to = ((i + 1 : Nat) : Int)) (hm : i + 1 < m) : fitD J (i : Int) = true := by
  unfold fitD
  simp only [Int.toNat_natCast]
  obtain ⟨h1, h2⟩ := h
  refine decide_eq_true ⟨by omega, by omega, by rw [h1]; omega, by rw [h1]; omega, by rw [h2]; omega, by rw [h2]; omega⟩
theorem line_arc {J : InstD} {m : Nat} (hs : J.sup.length = m) (hl : LineL J.arcs (m - 1)) {a b : Nat} : ArcTo J a b ↔ b = a + 1 ∧ b < m := by
  constructor
  · rintro ⟨k, hf, h1, h2⟩
    obtain ⟨_, _, _, _, _, _, hk, _⟩ := fit_nats hf
    rw [hl.1] at hk
    obtain ⟨g1, g2⟩ := hl.2 k hk
    rw [g1] at h1
    rw [g2] at h2
    omega
  · rintro ⟨rfl, hb⟩
    have q := hl.2 a (by omega)
    exact ⟨a, line_fit hs (by rw [hl.1]; omega) q hb, q.1, q.2⟩
theorem line_up {J : InstD} {m : Nat} (h : ∀ i, i + 1 < m → ArcTo J i (i + 1)) (a : Nat) : ∀ d, a + d < m → Way (ArcTo J) a (a + d)
  | 0, _ => .refl a
  | d + 1, hd => .step (line_up h a d (by omega)) (h (a + d) (by omega))
theorem line_way {J : InstD} {m : Nat} (hs : J.sup.length = m) (hl : LineL J.arcs (m - 1)) {a b : Nat} (ha : a < m) : Way (ArcTo J) a b ↔ a ≤ b ∧ b < m := by
  constructor
  · intro h
    refine h.inv (p := fun x => a ≤ x ∧ x < m) ⟨Nat.le_refl _, ha⟩ fun x y hx r => ?_
    have := (line_arc hs hl).1 r
    omega
  · rintro ⟨h1, h2⟩
    have q := line_up (J := J) (m := m) (fun i hi => (line_arc hs hl).2 ⟨rfl, hi⟩) a (b - a) (by omega)
    rw [show a + (b - a) = b by omega] at q
    exact q
theorem line_from {J : InstD} {m v : Nat} (hs : J.sup.length = m) (hl : LineL J.arcs (m - 1)) (hv : v < m) : fromL J [(v : Int)] = (List.range m).map fun k => decide (v ≤ k) := by
  show metL _ _ _ = _
  unfold metL
  rw [hs]
  apply List.map_congr_left
  intro k hk
  rw [List.mem_range] at hk
  rw [← yes_dec]
  exact yes_same ((hit_one hv).trans ((line_way hs hl hv).trans ⟨fun h => h.1, fun h => ⟨h, hk⟩⟩))
theorem line_ok {J : InstD} {m : Nat} (hs : J.sup.length = m) (hl : LineL J.arcs (m - 1)) : okD J = true := by
  refine ok_back.2 fun a ⟨hf, hw⟩ => ?_
  obtain ⟨x, y, hx, hy, _, _, _, r⟩ := fit_nats hf
  rw [hx, hy] at hw
  have q := (line_arc hs hl).1 r
  have w := (line_way hs hl q.2).1 hw
  omega
theorem line_told {J : InstD} {m : Nat} (hs : J.sup.length = m) (hl : LineL J.arcs (m - 1)) : toldL J = List.range m := by
  have ok := line_ok hs hl
  obtain ⟨e, len⟩ := told_yes ok
  rw [hs] at len
  rw [e]
  have mem : ∀ i, i < m → i ∈ orderL J := fun i hi => ok_all ok i (by omega)
  have lt : ∀ i, i < m → (orderL J).idxOf i < m := fun i hi => by have := List.idxOf_lt_length_of_mem (mem i hi); omega
  have lo : ∀ i, i < m → i ≤ (orderL J).idxOf i := by
    intro i
    induction i with
    | zero => intro _; omega
    | succ i ih =>
      intro hi
      have := ih (by omega)
      have := ok_goes ok ((line_arc hs hl).2 ⟨rfl, hi⟩ : ArcTo J i (i + 1))
      omega
  have hi : ∀ d i, i + d + 1 = m → (orderL J).idxOf i ≤ i := by
    intro d
    induction d with
    | zero => intro i h; have := lt i (by omega); omega
    | succ d ih =>
      intro i h
      have := ih (i + 1) (by omega)
      have := ok_goes ok ((line_arc hs hl).2 ⟨rfl, by omega⟩ : ArcTo J i (i + 1))
      omega
  refine List.ext_getElem (by rw [len, List.length_range]) fun i h1 h2 => ?_
  rw [List.getElem_range]
  have e : (orderL J).idxOf i = i := Nat.le_antisymm (hi (m - 1 - i) i (by omega)) (lo i (by omega))
  have g : (orderL J)[(orderL J).idxOf i]'(by rw [e]; exact h1) = i := List.getElem_idxOf _
  simpa [e] using g
theorem ring_strong {J : InstD} {m : Nat} (hs : J.sup.length = m) (h : ∀ i, i + 1 < m → ArcTo J i (i + 1)) (h0 : ArcTo J (m - 1) 0) : strongL J = List.replicate m 0 := by
  apply List.ext_getElem
  · rw [strongL_length, hs, List.length_replicate]
  · intro k h1 h2
    rw [List.length_replicate] at h2
    rw [List.getElem_replicate]
    have q : strongN J k = 0 := by
      refine strong_eq ⟨?_, ?_⟩ (fun x hx => absurd hx (by omega))
      · have q := line_up h 0 k (by omega)
        rw [Nat.zero_add] at q
        exact q
      · have q := line_up h k (m - 1 - k) (by omega)
        rw [show k + (m - 1 - k) = m - 1 by omega] at q
        exact .step q h0
    simpa [strongL] using q
end Go.Proofs.Yticaficolgbjkaa.Rch
