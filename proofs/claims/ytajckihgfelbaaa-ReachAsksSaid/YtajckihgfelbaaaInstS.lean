/- The laws' own helpers: stores into rows of one's own; bend. -/
import Derived.Test.YtajckihgfelbaaaInstR
namespace Go.Proofs.Ytajckihgfelbaaa.Inst
open Go.RowKit
set_option maxRecDepth 100000

/-- An arc with one number another one. -/
def setF (a : ArcD) (j : Nat) (x : Int) : ArcD :=
  match j with
  | 0 => ⟨x, a.to, a.low, a.cap, a.cost⟩
  | 1 => ⟨a.frm, x, a.low, a.cap, a.cost⟩
  | 2 => ⟨a.frm, a.to, x, a.cap, a.cost⟩
  | 3 => ⟨a.frm, a.to, a.low, x, a.cost⟩
  | 4 => ⟨a.frm, a.to, a.low, a.cap, x⟩
  | _ => a
theorem setF_nums (a : ArcD) (j : Nat) (x : Int) : (setF a j x).nums = a.nums.set j x := by
  match j with
  | 0 => rfl
  | 1 => rfl
  | 2 => rfl
  | 3 => rfl
  | 4 => rfl
  | n + 5 => exact (List.set_eq_of_length_le (by simp [ArcD.nums])).symm
theorem flat_set : ∀ (l : List ArcD) (k j : Nat) (x : Int) (_hj : j < 5) (_hk : k < l.length), (flat l).set (k * 5 + j) x = flat (l.set k (setF (arcAt l k) j x))
  | [], _, _, _, _, h => absurd h (by simp)
  | a :: l, 0, j, x, hj, _ => by
    show (flat (a :: l)).set (0 * 5 + j) x = flat (setF (arcAt (a :: l) 0) j x :: l)
    have e : ∀ b, flat (b :: l) = b.nums ++ flat l := fun b => by simp [flat]
    rw [e, e, setF_nums, List.set_append_left _ _ (by show _ < 5; omega), Nat.zero_mul, Nat.zero_add]
    rfl
  | a :: l, k + 1, j, x, hj, h => by
    have ih := flat_set l k j x hj (by simp at h; omega)
    have e : ∀ l, flat (a :: l) = a.nums ++ flat l := fun b => by simp [flat]
    show (flat (a :: l)).set ((k + 1) * 5 + j) x = flat (a :: l.set k (setF (arcAt l k) j x))
    rw [e, e, List.set_append_right _ _ (by show 5 ≤ _; omega), ← ih]
    congr 2
    show (k + 1) * 5 + j - 5 = _
    omega
theorem arcV_set (l : List ArcD) (k j : Nat) (x : Int) (hj : j < 5) (hk : k < l.length) : (arcV l).set (k * 5 + j) (nv x) = arcV (l.set k (setF (arcAt l k) j x)) := by
  unfold arcV numV
  rw [← List.map_set, flat_set l k j x hj hk]

/-- The instance, bent. -/
def bentD (I : InstD) (p f : Nat) (n : Int) : InstD :=
  if I.arcs.length = 0 ∨ f % 7 = 6 then { I with sup := I.sup.set (p % I.sup.length) n }
  else { I with arcs := I.arcs.set (p % I.arcs.length) (setF (arcAt I.arcs (p % I.arcs.length)) (f % 7) n) }

theorem Made.sup_set {w u : World} {sB : Nat} {aV : Value} {sup : List Int} {arcs : List ArcD} (h : Made w u sB aV sup arcs) (i : Nat) (x : Int) : Made w (u.setCell ⟨sB, i, none⟩ (nv x)) sB aV (sup.set i x) arcs := by
  refine ⟨?_, own_far h.arcs h.far _, h.far, h.new, h.below.setCell h.new _⟩
  have := h.sup.set_ i (nv x)
  rw [List.setIfInBounds_toArray] at this
  unfold numV at this ⊢
  rw [List.map_set]
  exact this
theorem Made.arc_set {w u : World} {sB g cap : Nat} {sup : List Int} {arcs : List ArcD} (h : Made w u sB (.slice (some ⟨g, 0, none⟩) arcs.length cap) sup arcs) (k j : Nat) (x : Int) (hj : j < 5) (hk : k < arcs.length) :
    Made w (u.setCell ⟨g, k * 5 + j, none⟩ (nv x)) sB (.slice (some ⟨g, 0, none⟩) arcs.length cap) sup (arcs.set k (setF (arcAt arcs k) j x)) := by
  have far := h.far
  have ge := own_ge h.arcs g rfl
  refine ⟨h.sup.far (fun e => far (by subst e; rfl)) _, ?_, h.far, h.new, h.below.setCell ge _⟩
  rw [List.length_set, ← arcV_set _ _ _ _ hj hk]
  exact own_set h.arcs _ _
theorem Made.alloc {w u : World} {sB : Nat} {aV : Value} {sup : List Int} {arcs : List ArcD} (h : Made w u sB aV sup arcs) (o : Obj) : Made w (u.alloc o) sB aV sup arcs :=
  ⟨h.sup.alloc o, h.arcs.alloc o, h.far, h.new, h.below.alloc h.below.size o⟩
theorem Made.drew {w u : World} {sB : Nat} {aV : Value} {sup : List Int} {arcs : List ArcD} (h : Made w u sB aV sup arcs) : Made w u.drew sB aV sup arcs :=
  ⟨h.sup.drew, h.arcs.drew, h.far, h.new, h.below.drew⟩
theorem Made.step {w u v : World} {sB : Nat} {aV : Value} {sup : List Int} {arcs : List ArcD} (h : Made w u sB aV sup arcs) (hb : Below u.heap.size u v) : Made w v sB aV sup arcs :=
  ⟨h.sup.below hb h.sup.lt, own_later h.arcs hb, h.far, h.new, chain2 h.below hb⟩
end Go.Proofs.Ytajckihgfelbaaa.Inst
