/- The law InstCopy: what lies where. -/
import Derived.Test.YtekjbpdfginplaaInstWB
namespace Go.Proofs.Ytekjbpdfginplaa.Inst
open Go.RowKit

theorem Made.other {w u : World} {sB : Nat} {aV : Value} {sup : List Int} {arcs : List ArcD} (h : Made w u sB aV sup arcs) {b : Nat} (h1 : b ≠ sB) (h2 : aV.ownBlock ≠ some b) (h3 : w.heap.size ≤ b) (o : Nat) (v : Value) : Made w (u.setCell ⟨b, o, none⟩ v) sB aV sup arcs :=
  ⟨h.sup.far (fun e => h1 e.symm) _, own_far h.arcs h2 _, h.far, h.new, h.below.setCell h3 _⟩
/-- Rows of different kinds lie in different blocks. -/
theorem own_apart {w : World} {b b' n n' sz sz' : Nat} {e e' : TypeId} {v v' : Value} {xs xs' : List Value} (h : w.ownsRow b e sz v n xs) (h' : w.ownsRow b' e' sz' v' n' xs') (he : e ≠ e') : ∀ g, v.ownBlock = some g → v'.ownBlock ≠ some g := by
  intro g hg hg'
  rcases h.2 with ⟨rfl, _⟩ | ⟨g1, c1, cur1, rfl, _, hh1, _⟩
  · simp [Value.ownBlock] at hg
  · rcases h'.2 with ⟨rfl, _⟩ | ⟨g2, c2, cur2, rfl, _, hh2, _⟩
    · simp [Value.ownBlock] at hg'
    · simp [Value.ownBlock] at hg hg'
      subst hg
      subst hg'
      rw [hh1] at hh2
      simp at hh2
      exact he hh2.2
/-- Where things lie. -/
structure Lay (W : World) (sB p z q r gj : Nat) (A A' B2 : Option Addr) (m cap m' c' m2 y : Nat) : Prop where
  s0 : W.heap.size ≤ sB
  s1 : sB < z
  p0 : W.heap.size ≤ p
  p1 : p < z
  a1 : ∀ g, (Value.slice A m cap).ownBlock = some g → g < z
  j0 : z ≤ gj
  j1 : gj < q
  b0 : ∀ g, (Value.slice A' m' c').ownBlock = some g → z ≤ g ∧ g < q ∧ g ≠ gj
  w0 : ∀ g, (Value.slice B2 m2 y).ownBlock = some g → q < g ∧ g < r
  z0 : W.heap.size ≤ z
  r0 : q < r
/-- What there is. -/
structure Cp (W u : World) (sB p z q r gj : Nat) (A A' B B2 : Option Addr) (n m cap c' m2 y cj n' x : Nat) (I : InstD) (S' : List Int) (L' L'' : List ArcD) : Prop where
  made : Made W u sB (.slice A m cap) I.sup I.arcs
  bi : Blk u p 25 #[.slice (some ⟨sB, 0, none⟩) n n, .slice A m cap]
  bj : Blk u q 25 #[.slice (some ⟨gj, 0, none⟩) n cj, .slice A' m c']
  bw : Blk u r 25 #[.slice B n' x, .slice B2 m2 y]
  js : u.ownsRow z 2 1 (.slice (some ⟨gj, 0, none⟩) n cj) n (numV S')
  ja : u.ownsRow z 45 5 (.slice A' m c') m (arcV L')
  wa : u.ownsRow (q + 1) 45 5 (.slice B2 m2 y) m2 (arcV L'')
section
variable {W u : World} {sB p z q r gj : Nat} {A A' B B2 : Option Addr} {n m cap c' m2 y cj n' x : Nat} {I : InstD} {S' : List Int} {L' L'' : List ArcD}
theorem Cp.sup (h : Cp W u sB p z q r gj A A' B B2 n m cap c' m2 y cj n' x I S' L' L'') (l : Lay W sB p z q r gj A A' B2 m cap m c' m2 y) (k : Nat) (v : Int) : Cp W (u.setCell ⟨gj, k, none⟩ (nv v)) sB p z q r gj A A' B B2 n m cap c' m2 y cj n' x I (S'.set k v) L' L'' := by
  have l1 := l.s1; have l2 := l.p1; have l3 := l.j0; have l4 := l.j1; have l5 := l.r0; have l6 := l.z0
  refine ⟨h.made.other (by omega) (fun e => by have := l.a1 _ e; omega) (by omega) _ _, h.bi.far (by show p ≠ gj; omega) _, h.bj.far (by show q ≠ gj; omega) _, h.bw.far (by show r ≠ gj; omega) _, ?_, own_far h.ja (fun e => (l.b0 _ e).2.2 rfl) _, own_far h.wa (fun e => by have : q < gj := (l.w0 _ e).1; omega) _⟩
  have e : numV (S'.set k v) = (numV S').set k (nv v) := by unfold numV; rw [List.map_set]
  rw [e]
  exact own_set h.js k (nv v)
theorem Cp.arc {ga : Nat} (h : Cp W u sB p z q r gj A (some ⟨ga, 0, none⟩) B B2 n m cap c' m2 y cj n' x I S' L' L'') (l : Lay W sB p z q r gj A (some ⟨ga, 0, none⟩) B2 m cap m c' m2 y) (k j : Nat) (v : Int) (hj : j < 5) (hk : k < L'.length) :
    Cp W (u.setCell ⟨ga, k * 5 + j, none⟩ (nv v)) sB p z q r gj A (some ⟨ga, 0, none⟩) B B2 n m cap c' m2 y cj n' x I S' (L'.set k (setF (arcAt L' k) j v)) L'' := by
  have l1 := l.s1; have l2 := l.p1; have l3 := l.j0; have l4 := l.j1; have l5 := l.r0; have l6 := l.z0
  obtain ⟨g0, g1, g2⟩ := l.b0 ga rfl
  refine ⟨h.made.other (by omega) (fun e => by have := l.a1 _ e; omega) (by omega) _ _, h.bi.far (by show p ≠ ga; omega) _, h.bj.far (by show q ≠ ga; omega) _, h.bw.far (by show r ≠ ga; omega) _, own_far h.js (fun e => g2 (by simp [Value.ownBlock] at e; exact e.symm)) _, ?_, own_far h.wa (fun e => by have : q < ga := (l.w0 _ e).1; omega) _⟩
  rw [← arcV_set _ _ _ _ hj hk]
  exact own_set h.ja _ _
theorem Cp.war {gw : Nat} (h : Cp W u sB p z q r gj A A' B (some ⟨gw, 0, none⟩) n m cap c' m2 y cj n' x I S' L' L'') (l : Lay W sB p z q r gj A A' (some ⟨gw, 0, none⟩) m cap m c' m2 y) (k j : Nat) (v : Int) (hj : j < 5) (hk : k < L''.length) :
    Cp W (u.setCell ⟨gw, k * 5 + j, none⟩ (nv v)) sB p z q r gj A A' B (some ⟨gw, 0, none⟩) n m cap c' m2 y cj n' x I S' L' (L''.set k (setF (arcAt L'' k) j v)) := by
  have l1 := l.s1; have l2 := l.p1; have l3 := l.j0; have l4 := l.j1; have l5 := l.r0; have l6 := l.z0
  obtain ⟨g0, g1⟩ := l.w0 gw rfl
  refine ⟨h.made.other (by omega) (fun e => by have := l.a1 _ e; omega) (by omega) _ _, h.bi.far (by show p ≠ gw; omega) _, h.bj.far (by show q ≠ gw; omega) _, h.bw.far (by show r ≠ gw; omega) _, own_far h.js (fun e => by simp [Value.ownBlock] at e; omega) _, own_far h.ja (fun e => by have := (l.b0 _ e).2.1; have e2 : gw < q := this; omega) _, ?_⟩
  rw [← arcV_set _ _ _ _ hj hk]
  exact own_set h.wa _ _
end
end Go.Proofs.Ytekjbpdfginplaa.Inst
