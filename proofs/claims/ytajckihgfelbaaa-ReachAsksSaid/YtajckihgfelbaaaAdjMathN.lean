/- Plain facts on pieces that fill up. -/
import Derived.Test.YtajckihgfelbaaaAdjMathL
namespace Go.Proofs.Ytajckihgfelbaaa.Adj
open Go Go.RowKit Go.Proofs.Ytajckihgfelbaaa.Inst

theorem someN_mono (I : InstD) (n : Int) (o i : Bool) (j : Nat) : ∀ k, (someN I n o i j).length ≤ (someN I n o i (j + k)).length
  | 0 => Nat.le_refl _
  | k + 1 => by
    have h := someN_mono I n o i j k
    rw [← Nat.add_assoc, someN_succ, List.length_append]
    omega
theorem lst_room {I : InstD} {x j m : Nat} {pre : List Nat} (h : pre ++ [x] <+: endsD I (j : Int)) (hj : j < m) : (lst I x j pre).length < (lst I x m []).length := by
  have hx := not_mem_prefix h (ends_nodup I j)
  have e : lst I x j pre = someN I (x : Int) true true j := by simp [lst, hx]
  have hm := mem_ends.1 (mem_prefix h)
  have s := someN_succ I (x : Int) true true j
  rw [if_pos hm] at s
  have k := someN_mono I (x : Int) true true (j + 1) (m - (j + 1))
  rw [show j + 1 + (m - (j + 1)) = m by omega, s, List.length_append, List.length_singleton] at k
  rw [e, lst_nil]
  omega

/-- The pieces and the list, when so much has come. -/
structure Fill (I : InstD) (n L : Nat) (R : List Nat) (j : Nat) (pre : List Nat) (ps C : List Value) : Prop where
  rl : R.length = n
  pl : ps.length = n
  cl : C.length = R.sum
  piece : ∀ k, k < n → ps[k]? = some (.slice (some ⟨L, offR R k, none⟩) (lst I k j pre).length (R.getD k 0))
  cells : ∀ k, k < n → ∀ (t y : Nat), (lst I k j pre)[t]? = some y → C[offR R k + t]? = some (.int .i64 (y : Int))
theorem fill_start (I : InstD) (n L m : Nat) (R : List Nat) (h : Rooms I n m [] R) : Fill I n L R 0 [] (pcs L R n) (natV (List.replicate R.sum 0)) := by
  obtain ⟨h1, h2, h3⟩ := h
  have e : ∀ k, lst I k 0 [] = [] := fun k => by rw [lst_nil]; rfl
  refine ⟨h1, by rw [pcs_length, h1], by rw [natV_length]; simp, fun k hk => ?_, fun k hk t y hy => ?_⟩
  · rw [e, ← h1, pcs_at _ _ _ (by omega)]
    rfl
  · rw [e] at hy
    simp at hy
theorem offR_pos {R : List Nat} {k : Nat} (h : 0 < R.getD k 0) : offR R k = (R.take k).sum := by unfold offR; rw [if_neg (by omega)]
theorem off_lt {R : List Nat} {k t : Nat} (h : t < R.getD k 0) (hk : k < R.length) : offR R k + t < R.sum := by
  rw [offR_pos (by omega)]
  have h1 := take_sum_succ R k hk
  have h2 := take_sum_le R (k + 1)
  omega
theorem off_ne {R : List Nat} {k x t s : Nat} (hk : k < R.length) (hx : x < R.length) (ht : t < R.getD k 0) (hs : s < R.getD x 0) (h : k ≠ x) : offR R k + t ≠ offR R x + s := by
  rw [offR_pos (by omega), offR_pos (by omega)]
  rcases Nat.lt_or_ge k x with c | c
  · have := take_sum_add R k x c hk
    omega
  · have := take_sum_add R x k (by omega) hx
    omega
theorem fill_step {I : InstD} {n L m j x : Nat} {R pre : List Nat} {ps C : List Value} (h : Fill I n L R j pre ps C) (hR : Rooms I n m [] R) (hp : pre ++ [x] <+: endsD I (j : Int)) (hj : j < m) (hx : x < n) :
    Fill I n L R j (pre ++ [x]) (ps.set x (.slice (some ⟨L, offR R x, none⟩) ((lst I x j pre).length + 1) (R.getD x 0))) (C.set (offR R x + (lst I x j pre).length) (.int .i64 (j : Int))) ∧ (lst I x j pre).length + 1 ≤ R.getD x 0 ∧ offR R x + (lst I x j pre).length < C.length := by
  obtain ⟨h1, h2, h3, h4, h5⟩ := h
  have hxp := not_mem_prefix hp (ends_nodup I j)
  have rm : (lst I x j pre).length < R.getD x 0 := by rw [hR.2.1 x hx]; exact lst_room hp hj
  have ol := off_lt rm (by omega)
  have bd : ∀ k, k < n → k ≠ x → (lst I k j pre).length ≤ R.getD k 0 := by
    intro k hk hne
    rw [hR.2.1 k hk, lst_nil]
    unfold lst
    rw [List.length_append]
    by_cases q : k ∈ pre
    · have hm := mem_ends.1 (hp.subset (List.mem_append_left _ q))
      have s := someN_succ I (k : Int) true true j
      rw [if_pos hm] at s
      have z := someN_mono I (k : Int) true true (j + 1) (m - (j + 1))
      rw [show j + 1 + (m - (j + 1)) = m by omega, s, List.length_append] at z
      rw [if_pos q]
      simp at z ⊢
      omega
    · have z := someN_mono I (k : Int) true true j (m - j)
      rw [show j + (m - j) = m by omega] at z
      rw [if_neg q]
      simpa using z
  refine ⟨⟨h1, by rw [List.length_set]; exact h2, by rw [List.length_set]; exact h3, fun k hk => ?_, fun k hk t y hy => ?_⟩, by omega, by omega⟩
  · by_cases e : k = x
    · subst e
      rw [List.getElem?_set, if_pos rfl, if_pos (by omega), lst_more _ _ _ _ hxp, List.length_append]
      rfl
    · rw [List.getElem?_set, if_neg (Ne.symm e), h4 k hk, lst_same _ _ _ _ _ e]
  · by_cases e : k = x
    · subst e
      rw [lst_more _ _ _ _ hxp] at hy
      rcases Nat.lt_or_ge t (lst I k j pre).length with c | c
      · rw [List.getElem?_append_left c] at hy
        rw [List.getElem?_set, if_neg (by omega)]
        exact h5 k hk t y hy
      · rw [List.getElem?_append_right c] at hy
        have t0 : t = (lst I k j pre).length := by
          rcases Nat.lt_or_ge (t - (lst I k j pre).length) 1 with d | d
          · omega
          · rw [List.getElem?_eq_none (by simpa using d)] at hy
            cases hy
        subst t0
        simp at hy
        subst hy
        rw [List.getElem?_set, if_pos rfl, if_pos (by omega)]
    · rw [lst_same _ _ _ _ _ e] at hy
      have tl : t < (lst I k j pre).length := (List.getElem?_eq_some_iff.1 hy).1
      rw [List.getElem?_set, if_neg (Ne.symm (off_ne (by omega) (by omega) (by have := bd k hk e; omega) rm e))]
      exact h5 k hk t y hy
theorem fill_next {I : InstD} {n L j : Nat} {R : List Nat} {ps C : List Value} (h : Fill I n L R j (endsD I (j : Int)) ps C) : Fill I n L R (j + 1) [] ps C := by
  obtain ⟨h1, h2, h3, h4, h5⟩ := h
  exact ⟨h1, h2, h3, fun k hk => by rw [h4 k hk, lst_next], fun k hk t y hy => h5 k hk t y (by rw [lst_next]; exact hy)⟩
end Go.Proofs.Ytajckihgfelbaaa.Adj
