/- More plain facts on groups: how many there are; what they hold; the stars. No program in sight. -/
import Derived.Test.YtoccgpkpmhkeiaaUniMath
namespace Go.Proofs.Ytoccgpkpmhkeiaa.Uni
open Go

theorem mem_group {L : List Nat} {n v : Nat} : v ∈ groupL L n ↔ v < L.length ∧ L.getD v 0 = n := by
  unfold groupL
  rw [List.mem_filter, List.mem_range, decide_eq_true_eq]
theorem mem_roots {L : List Nat} {v : Nat} : v ∈ rootsL L ↔ v < L.length ∧ L.getD v 0 = v := by
  unfold rootsL
  rw [List.mem_filter, List.mem_range, decide_eq_true_eq]
theorem group_sorted (L : List Nat) (n : Nat) : (groupL L n).Pairwise (· < ·) := List.Pairwise.filter _ List.pairwise_lt_range
theorem roots_sorted (L : List Nat) : (rootsL L).Pairwise (· < ·) := List.Pairwise.filter _ List.pairwise_lt_range
theorem groups_length (L : List Nat) : (groupsL L).length = (rootsL L).length := by simp [groupsL]
/-- A group's first number is its least one. -/
theorem group_head {L : List Nat} (hc : Canon L) {n : Nat} (h : n ∈ rootsL L) : (groupL L n)[0]? = some n := by
  have hn := mem_roots.1 h
  have hm : n ∈ groupL L n := mem_group.2 hn
  cases e : groupL L n with
  | nil => rw [e] at hm; cases hm
  | cons a r =>
    have hs := group_sorted L n
    rw [e] at hs hm
    have ha : a ∈ groupL L n := by rw [e]; exact List.mem_cons_self
    have ga := mem_group.1 ha
    have la := hc.le a ga.1
    rcases List.mem_cons.1 hm with q | q
    · rw [List.getElem?_cons_zero, q]
    · have := (List.pairwise_cons.1 hs).1 n q
      omega
/-- A join that does something leaves one least number less. -/
theorem roots_merge {L : List Nat} (hc : Canon L) {x y : Nat} (hx : x < L.length) (hy : y < L.length) (rx : L.getD x 0 = x) (ry : L.getD y 0 = y) (h : x ≠ y) :
    (rootsL (mergeL L x y)).length + 1 = (rootsL L).length := by
  have hfil : ∀ v, v ∈ rootsL (mergeL L x y) ↔ v ∈ rootsL L ∧ v ≠ max x y := by
    intro v
    rw [mem_roots, mem_roots, merge_length]
    constructor
    · rintro ⟨hv, e⟩
      rw [merge_get _ _ _ _ hv] at e
      have lv := hc.le v hv
      split at e
      · rename_i c
        have : v = x ∨ v = y := by omega
        rcases this with q | q
        · exact ⟨⟨hv, by rw [q]; exact rx⟩, by omega⟩
        · exact ⟨⟨hv, by rw [q]; exact ry⟩, by omega⟩
      · rename_i c
        exact ⟨⟨hv, e⟩, by omega⟩
    · rintro ⟨⟨hv, e⟩, hne⟩
      refine ⟨hv, ?_⟩
      rw [merge_get _ _ _ _ hv, e]
      split
      · omega
      · rfl
  have e : rootsL (mergeL L x y) = (rootsL L).filter fun v => decide (v ≠ max x y) := by
    unfold rootsL
    rw [merge_length, List.filter_filter]
    refine List.filter_congr fun v hv => ?_
    have hv := List.mem_range.1 hv
    have q := hfil v
    rw [mem_roots, mem_roots, merge_length] at q
    rw [Bool.eq_iff_iff]
    simp only [decide_eq_true_eq, Bool.and_eq_true]
    constructor
    · intro a
      have := q.1 ⟨hv, a⟩
      exact ⟨this.2, this.1.2⟩
    · intro a
      exact (q.2 ⟨⟨hv, a.2⟩, a.1⟩).2
  have hm : max x y ∈ rootsL L := by
    rcases Nat.le_total x y with c | c
    · rw [Nat.max_eq_right c]; exact mem_roots.2 ⟨hy, ry⟩
    · rw [Nat.max_eq_left c]; exact mem_roots.2 ⟨hx, rx⟩
  have hnd : (rootsL L).Nodup := (roots_sorted L).imp (fun h => Nat.ne_of_lt h)
  rw [e]
  clear e hfil
  revert hm hnd
  generalize rootsL L = l
  intro hm hnd
  induction l with
  | nil => cases hm
  | cons a r ih =>
    have nd := List.nodup_cons.1 hnd
    by_cases c : a = max x y
    · have : r.filter (fun v => decide (v ≠ max x y)) = r := List.filter_eq_self.2 fun v hv => decide_eq_true (fun q => nd.1 (by rw [c, ← q]; exact hv))
      rw [List.filter_cons, if_neg (by simp [c]), this, List.length_cons]
    · have hm2 : max x y ∈ r := (List.mem_cons.1 hm).resolve_left (fun q => c q.symm)
      rw [List.filter_cons, if_pos (decide_eq_true c), List.length_cons, List.length_cons, ih hm2 nd.2]
theorem roots_join {L : List Nat} (hc : Canon L) (a b : Int) : (rootsL (joinL L a b)).length + (if joinB L a b = true then 1 else 0) = (rootsL L).length := by
  unfold joinL
  by_cases h : joinB L a b = true
  · rw [if_pos h, if_pos h]
    unfold joinB at h
    have h := of_decide_eq_true h
    obtain ⟨i, _, hi, ei⟩ := least_in h.1
    obtain ⟨j, _, hj, ej⟩ := least_in h.2.1
    have hne := h.2.2
    rw [ei, ej, Int.toNat_natCast, Int.toNat_natCast]
    rw [ei, ej] at hne
    exact roots_merge hc (root_lt hc hi) (root_lt hc hj) (hc.idem i hi) (hc.idem j hj) (by omega)
  · rw [if_neg h, if_neg h]
    rfl
theorem roots_range (n : Nat) : rootsL (List.range n) = List.range n := by
  unfold rootsL
  rw [List.length_range]
  refine List.filter_eq_self.2 fun v hv => ?_
  have hv := List.mem_range.1 hv
  simp [List.getD_eq_getElem?_getD, hv]
theorem count_one {l : List Nat} (hd : l.Nodup) {v : Nat} (hm : v ∈ l) : l.count v = 1 := by
  induction l with
  | nil => cases hm
  | cons a r ih =>
    have nd := List.nodup_cons.1 hd
    rw [List.count_cons]
    by_cases c : a = v
    · rw [List.count_eq_zero.2 (by rw [← c]; exact nd.1), if_pos (by rw [c]; exact beq_self_eq_true v)]
    · rw [ih nd.2 ((List.mem_cons.1 hm).resolve_left (fun q => c q.symm)), if_neg (fun q => c (eq_of_beq q))]
/-- Each number lies in one group. -/
theorem count_groups {L : List Nat} (hc : Canon L) {v : Nat} (hv : v < L.length) : (groupsL L).flatten.count v = 1 := by
  have key : ∀ l : List Nat, ((l.map (groupL L)).flatten).count v = l.count (L.getD v 0) := by
    intro l
    induction l with
    | nil => rfl
    | cons n r ih =>
      rw [List.map_cons, List.flatten_cons, List.count_append, ih, List.count_cons]
      have : (groupL L n).count v = if L.getD v 0 = n then 1 else 0 := by
        by_cases c : L.getD v 0 = n
        · rw [if_pos c]
          have hm : v ∈ groupL L n := mem_group.2 ⟨hv, c⟩
          exact count_one ((group_sorted L n).imp (fun h => Nat.ne_of_lt h)) hm
        · rw [if_neg c]
          exact List.count_eq_zero.2 (fun hm => c (mem_group.1 hm).2)
      rw [this]
      by_cases c : L.getD v 0 = n
      · rw [if_pos c, if_pos (by rw [c]; exact beq_self_eq_true n), Nat.add_comm]
      · rw [if_neg c, if_neg (fun q => c (eq_of_beq q).symm), Nat.zero_add, Nat.add_zero]
  rw [groupsL, key]
  have hm : L.getD v 0 ∈ rootsL L := mem_roots.2 ⟨root_lt hc hv, hc.idem v hv⟩
  exact count_one ((roots_sorted L).imp (fun h => Nat.ne_of_lt h)) hm

/-- The first k numbers of m in two groups. -/
def starL (k m : Nat) : List Nat := (List.range m).map fun i => if i < k then i % 2 else i
theorem star_length (k m : Nat) : (starL k m).length = m := by simp [starL]
theorem star_get (k m i : Nat) (h : i < m) : (starL k m).getD i 0 = if i < k then i % 2 else i := by
  unfold starL
  simp [List.getD_eq_getElem?_getD, h]
theorem star_zero (m : Nat) : starL 0 m = List.range m := by
  unfold starL
  conv => rhs; rw [← List.map_id (List.range m)]
  refine List.map_congr_left fun i _ => ?_
  simp
theorem star_join {k m t : Nat} (hk : k < m) (hp : t % 2 = k % 2) (ht : t < k ∨ t = k % 2) : joinL (starL k m) (k : Int) (t : Int) = starL (k + 1) m := by
  have htk : t ≤ k := by omega
  have ek : (starL k m).getD k 0 = k := by rw [star_get _ _ _ hk, if_neg (by omega)]
  have et : (starL k m).getD t 0 = k % 2 := by
    rw [star_get _ _ _ (by omega)]
    split
    · exact hp
    · omega
  have hl := star_length k m
  unfold joinL
  have eb : joinB (starL k m) (k : Int) (t : Int) = decide (k ≠ k % 2) := by
    unfold joinB
    rw [least_at (by omega), least_at (by omega), ek, et, decide_eq_decide]
    omega
  rw [eb]
  by_cases c : k = k % 2
  · rw [if_neg (fun h => absurd c (of_decide_eq_true h))]
    unfold starL
    refine List.map_congr_left fun i _ => ?_
    split <;> split <;> omega
  · rw [if_pos (decide_eq_true c), least_at (by omega), least_at (by omega), ek, et, Int.toNat_natCast, Int.toNat_natCast]
    unfold mergeL starL
    rw [List.map_map]
    refine List.map_congr_left fun i _ => ?_
    simp only [Function.comp]
    split <;> split <;> split <;> omega
theorem star_roots {m : Nat} (h : 2 ≤ m) : rootsL (starL m m) = [0, 1] := by
  have e : rootsL (starL m m) = (List.range m).filter fun i => decide (i < 2) := by
    unfold rootsL
    rw [star_length]
    refine List.filter_congr fun i hi => ?_
    have hi := List.mem_range.1 hi
    rw [star_get _ _ _ hi, if_pos hi, decide_eq_decide]
    omega
  rw [e]
  obtain ⟨n, rfl⟩ : ∃ n, m = 2 + n := ⟨m - 2, by omega⟩
  rw [List.range_add, List.filter_append]
  have : (List.map (fun x => 2 + x) (List.range n)).filter (fun i => decide (i < 2)) = [] := List.filter_eq_nil_iff.2 fun v hv => by
    obtain ⟨x, _, rfl⟩ := List.mem_map.1 hv
    simp
  rw [this]
  rfl
theorem star_groups {m : Nat} (h : 2 ≤ m) : groupsL (starL m m) = [(List.range m).filter fun i => decide (i % 2 = 0), (List.range m).filter fun i => decide (i % 2 = 1)] := by
  have g : ∀ n, groupL (starL m m) n = (List.range m).filter fun i => decide (i % 2 = n) := by
    intro n
    unfold groupL
    rw [star_length]
    refine List.filter_congr fun i hi => ?_
    have hi := List.mem_range.1 hi
    rw [star_get _ _ _ hi, if_pos hi]
  rw [groupsL, star_roots h, List.map_cons, List.map_cons, List.map_nil, g, g]
theorem star_last {m : Nat} (h : 2 ≤ m) : joinB (starL m m) 0 1 = true ∧ joinL (starL m m) 0 1 = List.replicate m 0 := by
  have e0 : leastL (starL m m) 0 = 0 := by
    rw [show (0 : Int) = ((0 : Nat) : Int) from rfl, least_at (by rw [star_length]; omega), star_get _ _ _ (by omega), if_pos (by omega)]
  have e1 : leastL (starL m m) 1 = 1 := by
    rw [show (1 : Int) = ((1 : Nat) : Int) from rfl, least_at (by rw [star_length]; omega), star_get _ _ _ (by omega), if_pos (by omega)]
  have hb : joinB (starL m m) 0 1 = true := by
    unfold joinB
    rw [e0, e1]
    rfl
  refine ⟨hb, ?_⟩
  unfold joinL
  rw [if_pos hb, e0, e1]
  apply List.ext_getElem?
  intro i
  have hl : (mergeL (starL m m) (0 : Int).toNat (1 : Int).toNat).length = m := by rw [merge_length, star_length]
  by_cases hi : i < m
  · rw [List.getElem?_replicate, if_pos hi, List.getElem?_eq_getElem (by omega)]
    have q := merge_get (starL m m) (0 : Int).toNat (1 : Int).toNat i (by rw [star_length]; exact hi)
    rw [star_get _ _ _ hi, if_pos hi, if_pos (by simp; omega)] at q
    rw [List.getD_eq_getElem?_getD, List.getElem?_eq_getElem (by omega), Option.getD_some] at q
    rw [q]
    rfl
  · rw [List.getElem?_eq_none (by omega), List.getElem?_eq_none (by simp; omega)]
theorem one_root {m : Nat} (h : 0 < m) : rootsL (List.replicate m 0) = [0] := by
  unfold rootsL
  rw [List.length_replicate]
  obtain ⟨n, rfl⟩ : ∃ n, m = 1 + n := ⟨m - 1, by omega⟩
  rw [List.range_add, List.filter_append]
  have : (List.map (fun x => 1 + x) (List.range n)).filter (fun v => decide ((List.replicate (1 + n) 0).getD v 0 = v)) = [] := List.filter_eq_nil_iff.2 fun v hv => by
    obtain ⟨x, hx, rfl⟩ := List.mem_map.1 hv
    have := List.mem_range.1 hx
    simp [List.getD_eq_getElem?_getD, List.getElem?_replicate]
    split <;> simp <;> omega
  rw [this, List.append_nil]
  refine List.filter_eq_self.2 fun v hv => ?_
  have hv := List.mem_range.1 hv
  have : v = 0 := by omega
  subst this
  rw [List.getD_eq_getElem?_getD, List.getElem?_replicate, if_pos h]
  rfl
end Go.Proofs.Ytoccgpkpmhkeiaa.Uni
