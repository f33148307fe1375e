/- Plain facts on the arcs that touch nodes, as they come. -/
import Derived.Test.YtajckihgfelbaaaAdjL3
namespace Go.Proofs.Ytajckihgfelbaaa.Adj
open Go Go.RowKit Go.Proofs.Ytajckihgfelbaaa.Inst

theorem ends_nodup (I : InstD) (a : Nat) : (endsD I (a : Int)).Nodup := by
  unfold endsD
  by_cases f : fitD I (a : Int) = true
  · have ff := f
    unfold fitD at ff
    have ff := of_decide_eq_true ff
    rw [if_pos f]
    rw [Int.toNat_natCast] at ff ⊢
    split
    · simp
    · simp
      omega
  · rw [if_neg f]
    simp
theorem mem_ends {I : InstD} {a k : Nat} : k ∈ endsD I (a : Int) ↔ (fitD I (a : Int) && touch true true (k : Int) (arcAt I.arcs a)) = true := by
  unfold endsD touch
  by_cases f : fitD I (a : Int) = true
  · have ff := f
    unfold fitD at ff
    have ff := of_decide_eq_true ff
    rw [if_pos f, f, Int.toNat_natCast] at *
    simp only [Bool.true_and, Bool.or_eq_true, decide_eq_true_eq]
    split
    · rw [List.mem_singleton]
      omega
    · rw [List.mem_cons, List.mem_singleton]
      omega
  · have f2 : fitD I (a : Int) = false := by simpa using f
    rw [if_neg f, f2]
    simp
theorem ends_lt {I : InstD} {a k : Nat} (h : k ∈ endsD I (a : Int)) : k < I.sup.length := by
  rw [mem_ends, Bool.and_eq_true] at h
  obtain ⟨h1, h2⟩ := h
  unfold fitD at h1
  have h1 := of_decide_eq_true h1
  rw [Int.toNat_natCast] at h1
  unfold touch at h2
  rw [Bool.or_eq_true, Bool.and_eq_true, Bool.and_eq_true, decide_eq_true_eq, decide_eq_true_eq] at h2
  omega
theorem ends_length (I : InstD) (a : Nat) : (endsD I (a : Int)).length ≤ 2 := by
  unfold endsD
  split
  · split <;> simp
  · simp
theorem not_mem_prefix {xs pre : List Nat} {x : Nat} (h : pre ++ [x] <+: xs) (hn : xs.Nodup) : x ∉ pre := by
  have q := h.sublist.nodup hn
  rw [List.nodup_append] at q
  intro hx
  exact q.2.2 x hx x (by simp) rfl
theorem mem_prefix {xs pre : List Nat} {x : Nat} (h : pre ++ [x] <+: xs) : x ∈ xs := h.subset (by simp)

/-- What is at a node when j arcs have come, and of the next one these ends. -/
def lst (I : InstD) (k j : Nat) (pre : List Nat) : List Nat := someN I (k : Int) true true j ++ if k ∈ pre then [j] else []
theorem lst_nil (I : InstD) (k j : Nat) : lst I k j [] = someN I (k : Int) true true j := by simp [lst]
theorem lst_next (I : InstD) (k j : Nat) : lst I k j (endsD I (j : Int)) = lst I k (j + 1) [] := by
  rw [lst_nil, someN_succ]
  unfold lst
  congr 1
  by_cases h : k ∈ endsD I (j : Int)
  · rw [if_pos h, if_pos (mem_ends.1 h)]
  · rw [if_neg h, if_neg (fun q => h (mem_ends.2 q))]
theorem lst_same (I : InstD) (k j x : Nat) (pre : List Nat) (h : k ≠ x) : lst I k j (pre ++ [x]) = lst I k j pre := by
  unfold lst
  congr 1
  by_cases q : k ∈ pre <;> simp [q, h]
theorem lst_more (I : InstD) (j x : Nat) (pre : List Nat) (h : x ∉ pre) : lst I x j (pre ++ [x]) = lst I x j pre ++ [j] := by
  unfold lst
  simp [h]
theorem lst_bd (I : InstD) (k j : Nat) (pre : List Nat) : (lst I k j pre).length ≤ j + 1 := by
  unfold lst
  rw [List.length_append]
  have := someN_length I (k : Int) true true j
  split <;> simp <;> omega

/-- How many have come at each node. -/
def Rooms (I : InstD) (n j : Nat) (pre : List Nat) (R : List Nat) : Prop := R.length = n ∧ (∀ k, k < n → R.getD k 0 = (lst I k j pre).length) ∧ R.sum ≤ 2 * j + pre.length
theorem rooms_start (I : InstD) (n : Nat) : Rooms I n 0 [] (List.replicate n 0) := by
  refine ⟨by simp, fun k hk => ?_, by simp⟩
  rw [lst_nil]
  simp [someN, List.getD_eq_getElem?_getD, hk]
theorem sum_set : ∀ (R : List Nat) (x : Nat), x < R.length → (R.set x (R.getD x 0 + 1)).sum = R.sum + 1
  | [], x, h => by simp at h
  | y :: R, 0, _ => by simp; omega
  | y :: R, x + 1, h => by
    have ih := sum_set R x (by simpa using h)
    simp only [List.set_cons_succ, List.sum_cons, List.getD_cons_succ]
    omega
theorem getD_set_eq (R : List Nat) (x y : Nat) (h : x < R.length) : (R.set x y).getD x 0 = y := by simp [List.getD_eq_getElem?_getD, h]
theorem getD_set_other (R : List Nat) (x y k : Nat) (h : x ≠ k) : (R.set x y).getD k 0 = R.getD k 0 := by simp [List.getD_eq_getElem?_getD, List.getElem?_set_ne h]
theorem rooms_step {I : InstD} {n j x : Nat} {pre R : List Nat} (h : Rooms I n j pre R) (hx : x ∉ pre) (hn : x < n) : Rooms I n j (pre ++ [x]) (R.set x (R.getD x 0 + 1)) := by
  obtain ⟨h1, h2, h3⟩ := h
  refine ⟨by rw [List.length_set]; exact h1, fun k hk => ?_, ?_⟩
  · by_cases e : k = x
    · subst e
      rw [getD_set_eq _ _ _ (by omega), lst_more _ _ _ _ hx, List.length_append, h2 k hk]
      simp
    · rw [getD_set_other _ _ _ _ (Ne.symm e), lst_same _ _ _ _ _ e, h2 k hk]
  · rw [sum_set _ _ (by omega), List.length_append]
    simp
    omega
theorem rooms_next {I : InstD} {n j : Nat} {R : List Nat} (h : Rooms I n j (endsD I (j : Int)) R) : Rooms I n (j + 1) [] R := by
  obtain ⟨h1, h2, h3⟩ := h
  refine ⟨h1, fun k hk => by rw [h2 k hk, lst_next], ?_⟩
  have := ends_length I j
  simp
  omega

/-- Where a piece begins: one of no room at the list's head. -/
def offR (R : List Nat) (i : Nat) : Nat := if R.getD i 0 = 0 then 0 else (R.take i).sum
/-- The pieces, the first k of them laid. -/
def pcs (L : Nat) (R : List Nat) (k : Nat) : List Value := (List.range R.length).map fun i => if i < k then .slice (some ⟨L, offR R i, none⟩) 0 (R.getD i 0) else .slice none 0 0
theorem pcs_start (L : Nat) (R : List Nat) : pcs L R 0 = List.replicate R.length (.slice none 0 0) := by
  unfold pcs
  rw [List.eq_replicate_iff]
  refine ⟨by simp, fun b hb => ?_⟩
  rw [List.mem_map] at hb
  obtain ⟨i, _, rfl⟩ := hb
  simp
theorem pcs_length (L : Nat) (R : List Nat) (k : Nat) : (pcs L R k).length = R.length := by simp [pcs]
theorem pcs_get (L : Nat) (R : List Nat) (k i : Nat) : (pcs L R k)[i]? = if i < R.length then some (if i < k then .slice (some ⟨L, offR R i, none⟩) 0 (R.getD i 0) else .slice none 0 0) else none := by
  unfold pcs
  rw [List.getElem?_map]
  by_cases h : i < R.length
  · rw [List.getElem?_range h, if_pos h]
    rfl
  · rw [List.getElem?_eq_none (by simp; omega), if_neg h]
    rfl
theorem pcs_step (L : Nat) (R : List Nat) (k : Nat) (h : k < R.length) : (pcs L R k).set k (.slice (some ⟨L, offR R k, none⟩) 0 (R.getD k 0)) = pcs L R (k + 1) := by
  apply List.ext_getElem?
  intro i
  rw [List.getElem?_set, pcs_get, pcs_get, pcs_length]
  by_cases e : k = i
  · subst e
    rw [if_pos rfl, if_pos h, if_pos h, if_pos (by omega)]
  · rw [if_neg e]
    by_cases q : i < k
    · rw [if_pos q, if_pos (show i < k + 1 by omega)]
    · rw [if_neg q, if_neg (show ¬ i < k + 1 by omega)]
theorem pcs_at (L : Nat) (R : List Nat) (i : Nat) (h : i < R.length) : (pcs L R R.length)[i]? = some (.slice (some ⟨L, offR R i, none⟩) 0 (R.getD i 0)) := by
  unfold pcs
  rw [List.getElem?_map, List.getElem?_range h]
  simp [h]
theorem take_sum_succ (R : List Nat) (k : Nat) (h : k < R.length) : (R.take (k + 1)).sum = (R.take k).sum + R.getD k 0 := by
  rw [List.take_add_one, List.getElem?_eq_getElem h, List.sum_append]
  simp [List.getD_eq_getElem?_getD, h]
theorem take_sum_le (R : List Nat) (k : Nat) : (R.take k).sum ≤ R.sum := by
  have h := List.take_append_drop k R
  have e : R.sum = (R.take k).sum + (R.drop k).sum := by rw [← List.sum_append, h]
  omega
theorem take_sum_add (R : List Nat) (i k : Nat) (h : i < k) (hk : i < R.length) : (R.take i).sum + R.getD i 0 ≤ (R.take k).sum := by
  rw [← take_sum_succ R i hk]
  have e : R.take (i + 1) = (R.take k).take (i + 1) := by rw [List.take_take]; congr 1; omega
  rw [e]
  exact take_sum_le _ _
theorem natV_set (R : List Nat) (x y : Nat) : (natV R).set x (.int .i64 (y : Int)) = natV (R.set x y) := by
  unfold natV numV
  rw [List.map_set, List.map_set]
theorem natV_at (R : List Nat) (x : Nat) (h : x < R.length) : (natV R)[x]? = some (.int .i64 ((R.getD x 0 : Nat) : Int)) := by
  unfold natV numV
  rw [List.getElem?_map, List.getElem?_map, List.getElem?_eq_getElem h]
  simp [List.getD_eq_getElem?_getD, h]
end Go.Proofs.Ytajckihgfelbaaa.Adj
