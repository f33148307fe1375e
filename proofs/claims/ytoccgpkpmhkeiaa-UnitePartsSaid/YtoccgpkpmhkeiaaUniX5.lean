/- The landed sets: groups gathered in a map: facts outside the walk. -/
import Derived.Test.YtoccgpkpmhkeiaaUniX4
import Derived.Test.YtoccgpkpmhkeiaaUniG
import Derived.Maps.OwnRows
import Derived.Maps.Views
namespace Go.Proofs.Ytoccgpkpmhkeiaa.Uni
open Go.RowKit Go.Proofs.Ytoccgpkpmhkeiaa.Inst Go.WideMaps Go.Maps
open Go.ChangeShapes (lits)
set_option linter.unusedVariables false

theorem law_int : Keyed Try.prog 3 := int_keyed Try.underlying3
theorem zero_ints (w : World) : (zeroValue 25).run Try.prog w = .ok (.slice none 0 0) w := by kernel_rfl
abbrev castL (l : List Nat) : List Int := l.map fun (x : Nat) => (x : Int)
abbrev kl (r : Nat) : Lit := .int .i64 (r : Int)
theorem kl_key (r : Nat) : WideAt.IsKeyLit (kl r) := by unfold WideAt.IsKeyLit; trivial
theorem kl_wf (r : Nat) (h : r ≤ 100000) : (kl r).wf = true := WalkArith.wf_i64 (by omega)
theorem kl_of (r : Nat) (h : r ≤ 100000) : keyOf Try.prog 3 (.int .i64 (r : Int)) = some (kl r) := keyOf_int_mk Try.underlying3 (kl_wf r h)
/-- A map of groups stays while its block and its rows do. -/
theorem groups_stay {H : Type} {w w' : World} {P : Program} {k : TypeId} {base : Nat} {e : TypeId} {q : IntKind} {b n : Nat} {D : DataW H} (h : w.ownsGroups P k base e q b n D) (hb : b < w.heap.size → w'.heap[b]? = w.heap[b]?)
    (ho : ∀ v zs, w.ownsInts base e q v zs → w'.ownsInts base e q v zs) : w'.ownsGroups P k base e q b n D := by
  obtain ⟨es, clock, hb0, F, hs, rfl, hbb, hlen, hap⟩ := h
  have hlt : b < w.heap.size := (Array.getElem?_eq_some_iff.1 hb0).1
  have hs2 : ∀ x ∈ es.toList, ∀ z, rowElem (H := H) w base e q x.val = some z → rowElem w' base e q x.val = some z := by
    intro x _ z hz
    obtain ⟨zs, h1, rfl⟩ := rowElem_inv hz
    exact rowElem_mk (ho _ _ h1)
  obtain ⟨F2, hmap, _⟩ := F.stay hs2
  refine ⟨es, clock, (hb hlt).trans hb0, F2, hs, by rw [hmap], hbb, fun x hx zs hz => ?_, hap⟩
  obtain ⟨y, hy⟩ := F.reads x hx
  obtain ⟨z, hz0, _⟩ := Go.WideElems.rd_val hy
  obtain ⟨zs', h1, _⟩ := rowElem_inv hz0
  have := hlen x hx zs' h1
  rw [hz.unique (ho _ _ h1)]
  exact this
/-- .. what it reads as: at each least number what has been gathered. -/
def MapIs (D : DataW Unit) (L : List Nat) (k : Nat) : Prop := IsMap D ∧ ∀ r, D.atKey (kl r) .nil = (if groupN L r k = [] then .nil else .slice (lits .i64 (castL (groupN L r k))) [])
theorem mapIs_zero (L : List Nat) : MapIs (.map []) L 0 := ⟨isMap_empty, fun r => rfl⟩
theorem lits_inj {a b : List Int} (h : lits (H := Unit) .i64 a = lits .i64 b) : a = b := by
  unfold lits at h
  exact (List.map_inj_right (fun x y hxy => by cases hxy; rfl)).1 h
theorem mapIs_at {D : DataW Unit} {L : List Nat} {k r base : Nat} {e : TypeId} {v : Value} {zs : List Int} {w : World} (h : MapIs D L k) (hat : D.atKey (kl r) .nil = rowDatum .i64 v zs) (ho : w.ownsInts base e .i64 v zs) : zs = castL (groupN L r k) := by
  rw [h.2 r] at hat
  by_cases c : groupN L r k = []
  · rw [if_pos c] at hat
    rw [c]
    rcases ho.datum (H := Unit) with ⟨_, q⟩ | q
    · exact q
    · rw [q] at hat
      cases hat
  · rw [if_neg c] at hat
    rcases ho.datum (H := Unit) with ⟨q, _⟩ | q
    · rw [q] at hat
      cases hat
    · rw [q] at hat
      simp only [DataW.slice.injEq] at hat
      exact (lits_inj hat.1).symm
theorem mapIs_put {D : DataW Unit} {L : List Nat} {k r base : Nat} {e : TypeId} {v' : Value} {w : World} (h : MapIs D L k) (hr : L.getD k 0 = r) (ho : w.ownsInts base e .i64 v' (castL (groupN L r (k + 1)))) : MapIs (D.put (kl r) (rowDatum .i64 v' (castL (groupN L r (k + 1))))) L (k + 1) := by
  have hne : groupN L r (k + 1) ≠ [] := by rw [groupN_succ, if_pos hr]; simp
  refine ⟨h.1.put _ _, fun s => ?_⟩
  by_cases c : s = r
  · subst c
    rw [atKey_put_same h.1 (kl_key _), if_neg hne]
    exact ho.datum_pos (by simp [castL]; exact hne)
  · have e2 : groupN L s (k + 1) = groupN L s k := by rw [groupN_succ, if_neg (fun q => c (by rw [← q, hr])), List.append_nil]
    have hk : kl s ≠ kl r := fun q => c (by simp only [kl, Lit.int.injEq] at q; omega)
    rw [atKey_put_other hk, h.2 s, e2]
theorem natV_cast (l : List Nat) : natV l = (castL l).map (Value.int .i64) := rfl
theorem ints_row {w : World} {base : Nat} {v : Value} {l : List Nat} (h : w.ownsInts base 3 .i64 v (castL l)) : w.ownsRow base 3 1 v l.length (natV l) := by
  have := h.1
  rw [List.length_map] at this
  rw [natV_cast]
  exact this
theorem WU.grown {w u : World} {b lo hi n c : Nat} {L : List Nat} {A : Option Addr} {row : Option Nat} (h : WU w b lo hi L A n c) (hg : w.grownBy u row) (hr : ∀ g, row = some g → hi ≤ g) : WU u b lo hi L A n c := by
  obtain ⟨N, h⟩ := h
  exact ⟨N, h.off (off_of_grown hg hr) (.inl (Nat.le_refl _))⟩
theorem ints_off {w u : World} {base lo hi : Nat} {e : TypeId} {q : IntKind} {v : Value} {zs : List Int} (h : w.ownsInts base e q v zs) (ho : Off lo hi w u) (hb : hi ≤ base) : u.ownsInts base e q v zs :=
  ⟨own_off h.1 ho (fun g hg => .inr (Nat.le_trans hb (own_ge h.1 g hg))), h.2⟩
theorem groups_off {w u : World} {base lo hi m n : Nat} {D : DataW Unit} (h : w.ownsGroups Try.prog 3 base 3 .i64 m n D) (ho : Off lo hi w u) (hm : hi ≤ m) (hb : hi ≤ base) : u.ownsGroups Try.prog 3 base 3 .i64 m n D :=
  groups_stay h (fun hlt => ho.block m hlt (.inr hm)) (fun v zs hz => ints_off hz ho hb)
theorem groups_far {w u : World} {base m n k g : Nat} {D : DataW Unit} {v : Value} {xs : List Value} (h : w.ownsGroups Try.prog 3 base 3 .i64 m n D) (hv : w.ownsRow base 25 1 v k xs) (hg : w.grownBy u v.ownBlock) : u.ownsGroups Try.prog 3 base 3 .i64 m n D := by
  have hmb : m < base := by obtain ⟨_, _, _, _, _, _, hbb, _⟩ := h; exact hbb
  refine groups_stay h (fun hlt => hg.block m hlt (fun e => by have := own_ge hv m e.symm; omega)) (fun x zs hz => ?_)
  rcases own_apart hz.1 hv (by decide) with q | q
  · obtain ⟨⟨h1, h2⟩, h3⟩ := hz
    rcases h2 with h2 | ⟨g', cap', cur, rfl, _⟩
    · exact ⟨⟨h1, .inl h2⟩, h3⟩
    · simp [Value.ownBlock] at q
  · exact ⟨hz.1.kept hg (Or.inr q), hz.2⟩
/-- The first j groups. -/
def groupsP (L : List Nat) (j : Nat) : List (List Nat) := ((rootsL L).take j).map (groupL L)
theorem groupsP_succ (L : List Nat) (j : Nat) (h : j < (rootsL L).length) : groupsP L (j + 1) = groupsP L j ++ [groupL L (rootsL L)[j]] := by
  unfold groupsP
  rw [List.take_succ_eq_append_getElem h, List.map_append]
  rfl
theorem groupsP_length (L : List Nat) (j : Nat) (h : j ≤ (rootsL L).length) : (groupsP L j).length = j := by simp [groupsP, h]
theorem groupsP_all (L : List Nat) : groupsP L (rootsL L).length = groupsL L := by unfold groupsP; rw [List.take_length]; rfl
end Go.Proofs.Ytoccgpkpmhkeiaa.Uni
