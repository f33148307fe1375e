/- The law ReachTurned: its walk. -/
import Derived.Test.YtajckihgfelbaaaRchXH
import Derived.Test.YtajckihgfelbaaaAdjMathB
import Derived.Deep.QuietTactic
import Derived.BigQuiet
namespace Go.Proofs.Ytajckihgfelbaaa.Rch
open Go.RowKit Go.Proofs.Ytajckihgfelbaaa.Inst Go.Proofs.Ytajckihgfelbaaa.Adj
set_option maxRecDepth 100000

theorem turn_arc {I : InstD} {a b : Nat} : ArcTo (turnD I) a b ↔ ArcTo I b a := by
  constructor
  · rintro ⟨k, hf, h1, h2⟩
    rw [fit_turn] at hf
    obtain ⟨_, _, _, _, _, _, hk, _⟩ := fit_nats hf
    change (arcAt (I.arcs.map turnA) k).frm = _ at h1
    change (arcAt (I.arcs.map turnA) k).to = _ at h2
    rw [arcAt_turn _ _ hk] at h1 h2
    exact ⟨k, hf, h2, h1⟩
  · rintro ⟨k, hf, h1, h2⟩
    obtain ⟨_, _, _, _, _, _, hk, _⟩ := fit_nats hf
    refine ⟨k, by rw [fit_turn]; exact hf, ?_, ?_⟩
    · show (arcAt (I.arcs.map turnA) k).frm = _
      rw [arcAt_turn _ _ hk]
      exact h2
    · show (arcAt (I.arcs.map turnA) k).to = _
      rw [arcAt_turn _ _ hk]
      exact h1
theorem turn_fro (I : InstD) : ArcTo (turnD I) = Fro I := by
  funext a b
  exact propext turn_arc
theorem fro_turn (I : InstD) : Fro (turnD I) = ArcTo I := by
  funext a b
  exact propext turn_arc
theorem turn_from (I : InstD) (S : List Int) : fromL (turnD I) S = toL I S := by
  unfold fromL toL
  rw [turn_fro]
  rfl
theorem turn_to (I : InstD) (S : List Int) : toL (turnD I) S = fromL I S := by
  unfold fromL toL
  rw [fro_turn]
  rfl
theorem turn_way {I : InstD} {a b : Nat} : Way (ArcTo (turnD I)) a b ↔ Way (ArcTo I) b a := by
  rw [turn_fro]
  exact way_back
theorem turn_mut {I : InstD} {a b : Nat} : Mut (turnD I) a b ↔ Mut I a b := by
  unfold Mut
  rw [turn_way, turn_way]
  exact And.comm
theorem turn_strong (I : InstD) : strongL (turnD I) = strongL I := by
  unfold strongL
  show (List.range I.sup.length).map _ = _
  apply List.map_congr_left
  intro n _
  obtain ⟨h1, _, h3⟩ := strong_spec I n
  exact strong_eq (turn_mut.2 h1) (fun m hm h => h3 m hm (turn_mut.1 h))
theorem turn_back (I : InstD) : backL (turnD I) = backL I := by
  unfold backL
  rw [show (turnD I).arcs.length = I.arcs.length from by simp [turnD]]
  apply List.map_congr_left
  intro a ha
  rw [List.mem_range] at ha
  apply yes_same
  unfold BackP
  rw [fit_turn, turn_way, show (turnD I).arcs = I.arcs.map turnA from rfl, arcAt_turn _ _ ha]
  rfl
theorem ints_same (a b : Option Addr) (N : List Nat) (k c d : Nat) (hk : N.length = k) (hN : k ≤ 100000) (w : World) (ha : Cells w w.heap.size a (natV N)) (hb : Cells w w.heap.size b (natV N)) :
    Calls Try.prog 16 #[.slice a k c, .slice b k d] w fun e w' => e = .returned (.bool true) ∧ Below w.heap.size w w' := by
  subst hk
  have h := rints_any a b (N.map fun (x : Nat) => (x : Int)) (N.map fun (x : Nat) => (x : Int)) N.length N.length c d (by simp) (by simp) (by rw [List.length_map]; unfold maxLen; omega) w ha hb
  rw [decide_eq_true rfl] at h
  exact h
theorem fromL_len (I : InstD) (S : List Int) : (fromL I S).length = I.sup.length := by unfold fromL; rw [metL_length]
theorem toL_len (I : InstD) (S : List Int) : (toL I S).length = I.sup.length := by unfold toL; rw [metL_length]

theorem arc_cells {w : World} {base m cap : Nat} {A : Option Addr} {L : List ArcD} (h : w.ownsRow base 36 5 (.slice A m cap) m (arcV L)) (hL : L.length = m) (k : Nat) (hk : k < m) :
    ∃ g, A = some ⟨g, 0, none⟩ ∧ g < w.heap.size ∧ ArcAt w g (k * 5) (arcAt L k) ∧ ∀ i, w.frozen? ⟨g, i, none⟩ = false := by
  obtain ⟨g, rfl, hg, -, fg⟩ := own_at h (by omega)
  obtain ⟨b, off, e, -, ca⟩ := arcs_at (own_row h) (by omega)
  cases e
  refine ⟨g, rfl, hg, ?_, fg⟩
  have q := ca k (by omega)
  rw [Nat.zero_add] at q
  rw [arcAt_get L k (by omega)]
  exact q
theorem made_set {w u : World} {sB g m cap : Nat} {sup : List Int} {arcs : List ArcD} (h : Made w u sB (.slice (some ⟨g, 0, none⟩) m cap) sup arcs) (hl : arcs.length = m) (k j : Nat) (x : Int) (hj : j < 5) (hk : k < m) :
    Made w (u.setCell ⟨g, k * 5 + j, none⟩ (nv x)) sB (.slice (some ⟨g, 0, none⟩) m cap) sup (arcs.set k (setF (arcAt arcs k) j x)) := by
  subst hl
  exact h.arc_set k j x hj hk
/-- At the head of the loop. -/
def TurnRel (W3 : World) (q sB : Nat) (B : Option Addr) (n m cap : Nat) (I : InstD) (s : Value) (u : World) : Prop :=
  ∃ k : Nat, k ≤ m ∧ s = .int .i64 (k : Int) ∧ Made W3 u sB (.slice B m cap) I.sup (turnN I.arcs k) ∧ Blk u q 25 #[.slice (some ⟨sB, 0, none⟩) n n, .slice B m cap]

abbrev SS (W : World) (p q : Nat) (a b c d : Value) (u : World) : Prop := u.cell? ⟨p, 0, none⟩ = some a ∧ u.cell? ⟨p, 1, none⟩ = some b ∧ u.cell? ⟨q, 0, none⟩ = some c ∧ u.cell? ⟨q, 1, none⟩ = some d ∧ Below W.heap.size W u
theorem keep4 {W w w' : World} {p q : Nat} {a b c d : Value} (hp : p < W.heap.size) (hq : q < W.heap.size) (h : SS W p q a b c d w) (hb : Below w.heap.size w w') : SS W p q a b c d w' := by
  obtain ⟨h1, h2, h3, h4, h5⟩ := h
  have z := h5.size
  exact ⟨(hb.cell (p := ⟨p, 0, none⟩) (by show p < _; omega)).trans h1, (hb.cell (p := ⟨p, 1, none⟩) (by show p < _; omega)).trans h2, (hb.cell (p := ⟨q, 0, none⟩) (by show q < _; omega)).trans h3, (hb.cell (p := ⟨q, 1, none⟩) (by show q < _; omega)).trans h4, chain2 h5 hb⟩
theorem strong_cells {l : List Nat} {w w' : World} {e : Ending} {n : Nat} (hn : l.length = n) (h : TellsNats l w e w') : ∃ A cap, e = .returned (.slice A n cap) ∧ Cells w' w'.heap.size A (natV l) ∧ Below w.heap.size w w' := by
  obtain ⟨A, cap, rfl, _, hc, hb, _⟩ := h
  exact ⟨A, cap, by rw [hn], hc, hb⟩
theorem bools_same (a b : Option Addr) (L : List Bool) (k c d : Nat) (hk : L.length = k) (hN : k ≤ 100000) (w : World) (ha : Cells w w.heap.size a (boolV L)) (hb : Cells w w.heap.size b (boolV L)) :
    Calls Try.prog 40 #[.slice a k c, .slice b k d] w fun e w' => e = .returned (.bool true) ∧ Below w.heap.size w w' := by
  have h := rbools_any a b L L k k c d hk hk (by rw [hk]; unfold maxLen; omega) w ha hb
  rw [decide_eq_true rfl] at h
  exact h

end Go.Proofs.Ytajckihgfelbaaa.Rch
