/- Plain facts for UniteParts: counts; what a group tells of its numbers. No program in sight. -/
import Derived.Test.YtoccgpkpmhkeiaaUniMathB
namespace Go.Proofs.Ytoccgpkpmhkeiaa.Uni
open Go
set_option linter.unusedVariables false

/-- How often each number stands there. -/
def cntN (P : List Nat) (m : Nat) : List Nat := (List.range m).map fun v => P.count v
theorem cntN_length (P : List Nat) (m : Nat) : (cntN P m).length = m := by simp [cntN]
theorem cntN_get (P : List Nat) (m v : Nat) (h : v < m) : (cntN P m).getD v 0 = P.count v := by simp [cntN, List.getD_eq_getElem?_getD, h]
theorem cntN_nil (m : Nat) : cntN [] m = List.replicate m 0 := by
  unfold cntN
  apply List.ext_getElem?
  intro i
  by_cases hi : i < m
  · simp [hi]
  · simp [hi]
theorem cntN_snoc (P : List Nat) (m x : Nat) : cntN (P ++ [x]) m = (cntN P m).set x (P.count x + 1) := by
  apply List.ext_getElem?
  intro i
  rw [List.getElem?_set, cntN_length]
  unfold cntN
  by_cases hi : i < m
  · rw [List.getElem?_map, List.getElem?_range hi, List.getElem?_map, List.getElem?_range hi]
    simp only [Option.map_some]
    rw [List.count_append, List.count_singleton]
    by_cases c : x = i
    · subst c
      rw [if_pos (beq_self_eq_true x), if_pos rfl, if_pos hi]
    · rw [if_neg (fun q => c (eq_of_beq q)), if_neg c]
      rfl
  · rw [List.getElem?_map, List.getElem?_eq_none (by rw [List.length_range]; omega), List.getElem?_map, List.getElem?_eq_none (by rw [List.length_range]; omega)]
    split
    · split
      · omega
      · rfl
    · rfl
theorem cnt_le (P : List Nat) (v : Nat) : P.count v ≤ P.length := List.count_le_length
/-- What the k-th group tells. -/
theorem groups_at {L : List Nat} (k : Nat) (hk : k < (groupsL L).length) : ∃ (hr : k < (rootsL L).length), (groupsL L)[k] = groupL L (rootsL L)[k] := by
  have h := groups_length L
  refine ⟨by omega, ?_⟩
  simp only [groupsL, List.getElem_map]
structure Tells (L : List Nat) (k : Nat) (hk : k < (groupsL L).length) (r : Nat) : Prop where
  root : r < L.length ∧ L.getD r 0 = r
  pos : 0 < ((groupsL L)[k]).length
  head : ((groupsL L)[k])[0]? = some r
  mem : ∀ x ∈ (groupsL L)[k], x < L.length ∧ leastL L (x : Int) = (r : Int) ∧ sameB L (x : Int) (r : Int) = true
  sorted : ((groupsL L)[k]).Pairwise (· < ·)
theorem groups_tell {L : List Nat} (hc : Canon L) (k : Nat) (hk : k < (groupsL L).length) : ∃ r, Tells L k hk r ∧ ∃ h : k < (rootsL L).length, r = (rootsL L)[k] := by
  obtain ⟨hr, e⟩ := groups_at k hk
  have hm : (rootsL L)[k] ∈ rootsL L := List.getElem_mem hr
  have hr2 := mem_roots.1 hm
  have hd := group_head hc hm
  refine ⟨(rootsL L)[k], ⟨hr2, ?_, ?_, ?_, ?_⟩, hr, rfl⟩
  · rw [e]
    cases q : groupL L (rootsL L)[k] with
    | nil => rw [q] at hd; cases hd
    | cons a t => simp
  · rw [e]; exact hd
  · intro x hx
    rw [e] at hx
    have hx2 := mem_group.1 hx
    have e1 : leastL L (x : Int) = ((rootsL L)[k] : Int) := by rw [least_at hx2.1, hx2.2]
    have e2 : leastL L (((rootsL L)[k] : Nat) : Int) = ((rootsL L)[k] : Int) := by rw [least_at hr2.1, hr2.2]
    refine ⟨hx2.1, e1, ?_⟩
    unfold sameB
    rw [e1, e2]
    exact decide_eq_true ⟨by omega, rfl⟩
  · rw [e]; exact group_sorted _ _
/-- Two groups' least numbers. -/
theorem roots_rise {L : List Nat} (k : Nat) (hk : k + 1 < (rootsL L).length) : (rootsL L)[k] < (rootsL L)[k + 1] := List.pairwise_iff_getElem.1 (roots_sorted L) k (k + 1) (by omega) hk (by omega)
theorem roots_apart {L : List Nat} {a b : Nat} (ha : a < L.length ∧ L.getD a 0 = a) (hb : b < L.length ∧ L.getD b 0 = b) (h : a ≠ b) : sameB L (a : Int) (b : Int) = false := by
  unfold sameB
  rw [least_at ha.1, least_at hb.1, ha.2, hb.2]
  exact decide_eq_false (by omega)
theorem flat_take (G : List (List Nat)) (k : Nat) (h : k < G.length) : (G.take (k + 1)).flatten = (G.take k).flatten ++ G[k] := by
  rw [List.take_succ_eq_append_getElem h, List.flatten_append]
  simp
theorem cnt_prefix {L : List Nat} (hc : Canon L) (k j x : Nat) (hk : k < (groupsL L).length) (hx : x < L.length) : (((groupsL L).take k).flatten ++ ((groupsL L)[k]).take j).count x ≤ 1 := by
  have e : groupsL L = (groupsL L).take k ++ ((groupsL L)[k] :: (groupsL L).drop (k + 1)) := by rw [← List.drop_eq_getElem_cons hk, List.take_append_drop]
  have h := count_groups hc hx
  rw [e, List.flatten_append, List.flatten_cons, List.count_append, List.count_append] at h
  have q : (((groupsL L)[k]).take j).count x ≤ ((groupsL L)[k]).count x := List.Sublist.count_le _ (List.take_sublist _ _)
  rw [List.count_append]
  omega
theorem row_take (l : List Nat) (j : Nat) (h : j < l.length) : l.take (j + 1) = l.take j ++ [l[j]] := List.take_succ_eq_append_getElem h
theorem roots_few (L : List Nat) : (rootsL L).length ≤ L.length := by
  unfold rootsL
  exact Nat.le_trans (List.length_filter_le _ _) (by rw [List.length_range]; exact Nat.le_refl _)
theorem startL_nat (m : Nat) (h : m ≤ 1000) : startL (m : Int) = List.range m := by unfold startL; rw [Int.toNat_natCast, Nat.min_eq_left h]
theorem roots_start (m : Nat) (h : m ≤ 1000) : (rootsL (startL (m : Int))).length = m := by rw [startL_nat m h, roots_range, List.length_range]
end Go.Proofs.Ytoccgpkpmhkeiaa.Uni
