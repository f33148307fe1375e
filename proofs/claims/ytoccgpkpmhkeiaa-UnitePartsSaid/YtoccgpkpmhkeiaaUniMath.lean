/- Plain facts on sets that come together: of each number the least one of its group. No program in sight. -/
import Derived.Test.YtoccgpkpmhkeiaaRows
namespace Go.Proofs.Ytoccgpkpmhkeiaa.Uni
open Go

/-- The least number of a's group; below 0: there is none. -/
def leastL (L : List Nat) (a : Int) : Int := if 0 ≤ a ∧ a < (L.length : Int) then ((L.getD a.toNat 0 : Nat) : Int) else -1
/-- Is there anything to join? -/
def joinB (L : List Nat) (a b : Int) : Bool := decide (0 ≤ leastL L a ∧ 0 ≤ leastL L b ∧ leastL L a ≠ leastL L b)
def mergeL (L : List Nat) (x y : Nat) : List Nat := L.map fun n => if n = x ∨ n = y then min x y else n
def joinL (L : List Nat) (a b : Int) : List Nat := if joinB L a b = true then mergeL L (leastL L a).toNat (leastL L b).toNat else L
def sameB (L : List Nat) (a b : Int) : Bool := decide (0 ≤ leastL L a ∧ leastL L a = leastL L b)
def groupL (L : List Nat) (n : Nat) : List Nat := (List.range L.length).filter fun k => decide (L.getD k 0 = n)
def rootsL (L : List Nat) : List Nat := (List.range L.length).filter fun k => decide (L.getD k 0 = k)
def groupsL (L : List Nat) : List (List Nat) := (rootsL L).map (groupL L)
def startL (n : Int) : List Nat := List.range (min n.toNat 1000)

/-- Each number has the least one of its group. -/
structure Canon (L : List Nat) : Prop where
  le : ∀ i, i < L.length → L.getD i 0 ≤ i
  idem : ∀ i, i < L.length → L.getD (L.getD i 0) 0 = L.getD i 0
theorem canon_start (n : Int) : Canon (startL n) := by
  have e : ∀ i, i < (startL n).length → (startL n).getD i 0 = i := fun i hi => by
    unfold startL at hi ⊢
    rw [List.length_range] at hi
    simp [List.getD_eq_getElem?_getD, hi]
  exact ⟨fun i hi => by rw [e i hi]; exact Nat.le_refl _, fun i hi => by rw [e i hi, e i hi]⟩
theorem merge_length (L : List Nat) (x y : Nat) : (mergeL L x y).length = L.length := by simp [mergeL]
theorem join_length (L : List Nat) (a b : Int) : (joinL L a b).length = L.length := by
  unfold joinL
  split
  · exact merge_length _ _ _
  · rfl
theorem merge_get (L : List Nat) (x y i : Nat) (h : i < L.length) : (mergeL L x y).getD i 0 = if L.getD i 0 = x ∨ L.getD i 0 = y then min x y else L.getD i 0 := by
  unfold mergeL
  simp [List.getD_eq_getElem?_getD, h]
theorem least_in {L : List Nat} {a : Int} (h : 0 ≤ leastL L a) : ∃ i : Nat, a = i ∧ i < L.length ∧ leastL L a = ((L.getD i 0 : Nat) : Int) := by
  unfold leastL at h ⊢
  by_cases c : 0 ≤ a ∧ a < (L.length : Int)
  · refine ⟨a.toNat, by omega, by omega, ?_⟩
    rw [if_pos c]
  · rw [if_neg c] at h
    omega
theorem least_at {L : List Nat} {i : Nat} (h : i < L.length) : leastL L (i : Int) = ((L.getD i 0 : Nat) : Int) := by
  unfold leastL
  rw [if_pos ⟨by omega, by omega⟩, Int.toNat_natCast]
theorem least_out {L : List Nat} {a : Int} (h : ¬ (0 ≤ a ∧ a < (L.length : Int))) : leastL L a = -1 := by
  unfold leastL
  rw [if_neg h]
theorem root_lt {L : List Nat} (hc : Canon L) {i : Nat} (h : i < L.length) : L.getD i 0 < L.length := Nat.lt_of_le_of_lt (hc.le i h) h
theorem canon_merge {L : List Nat} (hc : Canon L) {i j : Nat} (hi : i < L.length) (hj : j < L.length) : Canon (mergeL L (L.getD i 0) (L.getD j 0)) := by
  have ri := hc.idem i hi
  have rj := hc.idem j hj
  have li := root_lt hc hi
  have lj := root_lt hc hj
  refine ⟨fun k hk => ?_, fun k hk => ?_⟩
  · rw [merge_length] at hk
    rw [merge_get _ _ _ _ hk]
    have := hc.le k hk
    split
    · rename_i h
      rcases h with h | h <;> omega
    · exact this
  · rw [merge_length] at hk
    rw [merge_get _ _ _ _ hk]
    have lk := root_lt hc hk
    have rk := hc.idem k hk
    split
    · rename_i h
      have lm : min (L.getD i 0) (L.getD j 0) < L.length := by omega
      rw [merge_get _ _ _ _ lm]
      rcases Nat.le_total (L.getD i 0) (L.getD j 0) with c | c
      · rw [Nat.min_eq_left c, ri, if_pos (Or.inl rfl)]
      · rw [Nat.min_eq_right c, rj, if_pos (Or.inr rfl)]
    · rename_i h
      rw [merge_get _ _ _ _ lk, rk, if_neg h]
theorem canon_join {L : List Nat} (hc : Canon L) (a b : Int) : Canon (joinL L a b) := by
  unfold joinL
  split
  · rename_i h
    unfold joinB at h
    have h := of_decide_eq_true h
    obtain ⟨i, _, hi, ei⟩ := least_in h.1
    obtain ⟨j, _, hj, ej⟩ := least_in h.2.1
    rw [ei, ej, Int.toNat_natCast, Int.toNat_natCast]
    exact canon_merge hc hi hj
  · exact hc

/-- Are two numbers in one group? -/
def Rel (L : List Nat) (i j : Nat) : Prop := i < L.length ∧ j < L.length ∧ L.getD i 0 = L.getD j 0
theorem Rel.symm {L : List Nat} {i j : Nat} (h : Rel L i j) : Rel L j i := ⟨h.2.1, h.1, h.2.2.symm⟩
theorem Rel.trans {L : List Nat} {i j k : Nat} (h : Rel L i j) (g : Rel L j k) : Rel L i k := ⟨h.1, g.2.1, h.2.2.trans g.2.2⟩
theorem Rel.refl {L : List Nat} {i : Nat} (h : i < L.length) : Rel L i i := ⟨h, h, rfl⟩
/-- The same groups have the same least numbers. -/
theorem canon_eq {L M : List Nat} (hl : Canon L) (hm : Canon M) (hlen : L.length = M.length) (h : ∀ i j, Rel L i j ↔ Rel M i j) : L = M := by
  apply List.ext_getElem?
  intro i
  by_cases hi : i < L.length
  · have e : L.getD i 0 = M.getD i 0 := by
      have h1 : Rel L i (L.getD i 0) := ⟨hi, root_lt hl hi, (hl.idem i hi).symm⟩
      have h2 : Rel M i (M.getD i 0) := ⟨by omega, root_lt hm (by omega), (hm.idem i (by omega)).symm⟩
      have a1 := (h _ _).1 h1
      have a2 := (h _ _).2 h2
      have b1 := hm.le _ a1.2.1
      have b2 := hl.le _ a2.2.1
      have c1 := a1.2.2
      have c2 := a2.2.2
      omega
    rw [List.getElem?_eq_getElem hi, List.getElem?_eq_getElem (by omega)]
    simp only [List.getD_eq_getElem?_getD, List.getElem?_eq_getElem hi, List.getElem?_eq_getElem (show i < M.length by omega), Option.getD_some] at e
    rw [e]
  · rw [List.getElem?_eq_none (by omega), List.getElem?_eq_none (by omega)]
/-- Numbers of L, as they may be asked for. -/
def isN (L : List Nat) (a : Int) : Prop := 0 ≤ a ∧ a < (L.length : Int)
theorem rel_join {L : List Nat} (_hc : Canon L) (a b : Int) (i j : Nat) : Rel (joinL L a b) i j ↔
    Rel L i j ∨ (isN L a ∧ isN L b ∧ ((Rel L i a.toNat ∧ Rel L j b.toNat) ∨ (Rel L i b.toNat ∧ Rel L j a.toNat))) := by
  by_cases hab : isN L a ∧ isN L b
  · obtain ⟨ha, hb⟩ := hab
    obtain ⟨p, rfl⟩ : ∃ p : Nat, a = p := ⟨a.toNat, by have := ha.1; omega⟩
    obtain ⟨q, rfl⟩ : ∃ q : Nat, b = q := ⟨b.toNat, by have := hb.1; omega⟩
    have hp : p < L.length := by have := ha.2; omega
    have hq : q < L.length := by have := hb.2; omega
    rw [Int.toNat_natCast, Int.toNat_natCast]
    unfold joinL
    have eb : joinB L (p : Int) (q : Int) = decide (L.getD p 0 ≠ L.getD q 0) := by
      unfold joinB
      rw [least_at hp, least_at hq, decide_eq_decide]
      omega
    by_cases e : L.getD p 0 = L.getD q 0
    · rw [eb, if_neg (fun h => absurd e (of_decide_eq_true h))]
      constructor
      · exact Or.inl
      · rintro (h | ⟨_, _, ⟨h1, h2⟩ | ⟨h1, h2⟩⟩)
        · exact h
        · exact ⟨h1.1, h2.1, by rw [h1.2.2, h2.2.2, e]⟩
        · exact ⟨h1.1, h2.1, by rw [h1.2.2, h2.2.2, e]⟩
    · rw [eb, if_pos (decide_eq_true e), least_at hp, least_at hq, Int.toNat_natCast, Int.toNat_natCast]
      unfold Rel
      rw [merge_length]
      constructor
      · rintro ⟨hi, hj, h⟩
        rw [merge_get _ _ _ _ hi, merge_get _ _ _ _ hj] at h
        by_cases c1 : L.getD i 0 = L.getD p 0 ∨ L.getD i 0 = L.getD q 0
        · rw [if_pos c1] at h
          by_cases c2 : L.getD j 0 = L.getD p 0 ∨ L.getD j 0 = L.getD q 0
          · rcases c1 with c1 | c1 <;> rcases c2 with c2 | c2
            · exact .inl ⟨hi, hj, by omega⟩
            · exact .inr ⟨ha, hb, .inl ⟨⟨hi, hp, c1⟩, ⟨hj, hq, c2⟩⟩⟩
            · exact .inr ⟨ha, hb, .inr ⟨⟨hi, hq, c1⟩, ⟨hj, hp, c2⟩⟩⟩
            · exact .inl ⟨hi, hj, by omega⟩
          · rw [if_neg c2] at h
            exfalso
            rcases Nat.le_total (L.getD p 0) (L.getD q 0) with c | c
            · rw [Nat.min_eq_left c] at h; exact c2 (.inl h.symm)
            · rw [Nat.min_eq_right c] at h; exact c2 (.inr h.symm)
        · rw [if_neg c1] at h
          by_cases c2 : L.getD j 0 = L.getD p 0 ∨ L.getD j 0 = L.getD q 0
          · rw [if_pos c2] at h
            exfalso
            rcases Nat.le_total (L.getD p 0) (L.getD q 0) with c | c
            · rw [Nat.min_eq_left c] at h; exact c1 (.inl h)
            · rw [Nat.min_eq_right c] at h; exact c1 (.inr h)
          · rw [if_neg c2] at h
            exact .inl ⟨hi, hj, h⟩
      · rintro (⟨hi, hj, h⟩ | ⟨_, _, ⟨h1, h2⟩ | ⟨h1, h2⟩⟩)
        · refine ⟨hi, hj, ?_⟩
          rw [merge_get _ _ _ _ hi, merge_get _ _ _ _ hj, h]
        · refine ⟨h1.1, h2.1, ?_⟩
          rw [merge_get _ _ _ _ h1.1, merge_get _ _ _ _ h2.1, if_pos (.inl h1.2.2), if_pos (.inr h2.2.2)]
        · refine ⟨h1.1, h2.1, ?_⟩
          rw [merge_get _ _ _ _ h1.1, merge_get _ _ _ _ h2.1, if_pos (.inr h1.2.2), if_pos (.inl h2.2.2)]
  · have e : joinL L a b = L := by
      unfold joinL
      rw [if_neg]
      unfold joinB
      simp only [decide_eq_true_eq]
      rintro ⟨h1, h2, _⟩
      obtain ⟨x, rfl, hx, _⟩ := least_in h1
      obtain ⟨y, rfl, hy, _⟩ := least_in h2
      exact hab ⟨⟨by omega, by omega⟩, ⟨by omega, by omega⟩⟩
    rw [e]
    constructor
    · exact Or.inl
    · rintro (h | ⟨h1, h2, _⟩)
      · exact h
      · exact absurd ⟨h1, h2⟩ hab

/-- All joins of a list of pairs. -/
def joinsL (L : List Nat) (l : List (Int × Int)) : List Nat := l.foldl (fun M p => joinL M p.1 p.2) L
theorem joins_length (L : List Nat) : ∀ l : List (Int × Int), (joinsL L l).length = L.length := by
  intro l
  induction l generalizing L with
  | nil => rfl
  | cons p r ih => rw [joinsL, List.foldl_cons]; exact (ih _).trans (join_length _ _ _)
theorem joins_canon {L : List Nat} (hc : Canon L) : ∀ l : List (Int × Int), Canon (joinsL L l) := by
  intro l
  induction l generalizing L with
  | nil => exact hc
  | cons p r ih => rw [joinsL, List.foldl_cons]; exact ih (canon_join hc _ _)
theorem joins_snoc (L : List Nat) (l : List (Int × Int)) (p : Int × Int) : joinsL L (l ++ [p]) = joinL (joinsL L l) p.1 p.2 := by simp [joinsL]
/-- Coming together step by step. -/
inductive Conn (n : Nat) (l : List (Int × Int)) : Nat → Nat → Prop where
  | refl {i : Nat} (h : i < n) : Conn n l i i
  | step {i j k : Nat} (h : Conn n l i j) (hk : k < n) (hm : ((j : Int), (k : Int)) ∈ l ∨ ((k : Int), (j : Int)) ∈ l) : Conn n l i k
theorem Conn.lt {n : Nat} {l : List (Int × Int)} {i j : Nat} (h : Conn n l i j) : i < n ∧ j < n := by
  induction h with
  | refl h => exact ⟨h, h⟩
  | step h hk hm ih => exact ⟨ih.1, hk⟩
theorem Conn.mono {n : Nat} {l m : List (Int × Int)} {i j : Nat} (h : Conn n l i j) (hs : ∀ a b, ((a, b) ∈ l ∨ (b, a) ∈ l) → ((a, b) ∈ m ∨ (b, a) ∈ m)) : Conn n m i j := by
  induction h with
  | refl h => exact .refl h
  | step h hk hm ih => exact .step ih hk (hs _ _ hm)
theorem rel_start (n : Nat) (i j : Nat) : Rel (List.range n) i j ↔ i < n ∧ i = j := by
  unfold Rel
  rw [List.length_range]
  constructor
  · rintro ⟨h1, h2, h3⟩
    simp [List.getD_eq_getElem?_getD, h1, h2] at h3
    exact ⟨h1, h3⟩
  · rintro ⟨h1, rfl⟩
    exact ⟨h1, h1, rfl⟩
theorem rel_of_mem {n : Nat} (l : List (Int × Int)) : ∀ {L : List Nat}, Canon L → L.length = n → ∀ j k : Nat, j < n → k < n → (((j : Int), (k : Int)) ∈ l ∨ ((k : Int), (j : Int)) ∈ l) → Rel (joinsL L l) j k := by
  induction l with
  | nil => intro L _ _ j k _ _ h; rcases h with h | h <;> cases h
  | cons p r ih =>
    intro L hc hn j k hj hk h
    rw [joinsL, List.foldl_cons]
    have hc2 := canon_join hc p.1 p.2
    have hn2 := (join_length L p.1 p.2).trans hn
    have grow : ∀ (m : List (Int × Int)) {M : List Nat}, Canon M → ∀ i j, Rel M i j → Rel (joinsL M m) i j := by
      intro m
      induction m with
      | nil => intro M _ i j h; exact h
      | cons q s ihs => intro M hM i j h; rw [joinsL, List.foldl_cons]; exact ihs (canon_join hM _ _) i j ((rel_join hM _ _ i j).2 (.inl h))
    by_cases e : p = ((j : Int), (k : Int)) ∨ p = ((k : Int), (j : Int))
    · refine grow r hc2 j k ((rel_join hc _ _ j k).2 (.inr ?_))
      rcases e with rfl | rfl
      · exact ⟨⟨by simp, by simp; omega⟩, ⟨by simp, by simp; omega⟩, .inl ⟨by simp; exact Rel.refl (by omega), by simp; exact Rel.refl (by omega)⟩⟩
      · exact ⟨⟨by simp, by simp; omega⟩, ⟨by simp, by simp; omega⟩, .inr ⟨by simp; exact Rel.refl (by omega), by simp; exact Rel.refl (by omega)⟩⟩
    · refine ih hc2 hn2 j k hj hk ?_
      rcases h with h | h
      · rcases List.mem_cons.1 h with h | h
        · exact absurd (.inl h.symm) e
        · exact .inl h
      · rcases List.mem_cons.1 h with h | h
        · exact absurd (.inr h.symm) e
        · exact .inr h
theorem conn_of_rel {n : Nat} : ∀ (l : List (Int × Int)) (i j : Nat), Rel (joinsL (List.range n) l) i j → Conn n l i j := by
  intro l
  generalize hr : l.reverse = r
  induction r generalizing l with
  | nil =>
    intro i j h
    have e : l = [] := by simpa using hr
    subst e
    obtain ⟨h1, rfl⟩ := (rel_start n i j).1 h
    exact .refl h1
  | cons p r ih =>
    intro i j h
    have e : l = r.reverse ++ [p] := by have := congrArg List.reverse hr; simpa using this
    subst e
    have ih := ih r.reverse (by simp)
    rw [joins_snoc] at h
    have hcn : Canon (joinsL (List.range n) r.reverse) := joins_canon (by
      have hq := fun i (hi : i < (List.range n).length) => (show (List.range n).getD i 0 = i by rw [List.length_range] at hi; simp [List.getD_eq_getElem?_getD, hi])
      exact ⟨fun i hi => by rw [hq i hi]; exact Nat.le_refl _, fun i hi => by rw [hq i hi, hq i hi]⟩) _
    have mono : ∀ i j, Conn n r.reverse i j → Conn n (r.reverse ++ [p]) i j := fun i j h => h.mono (fun a b h => h.elim (fun h => .inl (List.mem_append_left _ h)) (fun h => .inr (List.mem_append_left _ h)))
    have trans : ∀ {m : List (Int × Int)} {i j k : Nat}, Conn n m i j → Conn n m j k → Conn n m i k := by
      intro m i j k h1 h2
      induction h2 with
      | refl _ => exact h1
      | step _ hk hm ih2 => exact .step ih2 hk hm
    have symm : ∀ {m : List (Int × Int)} {i j : Nat}, Conn n m i j → Conn n m j i := by
      intro m i j h
      induction h with
      | refl h => exact .refl h
      | step h hk hm ih2 => exact trans (.step (.refl hk) h.lt.2 hm.symm) ih2
    rcases (rel_join hcn p.1 p.2 i j).1 h with h | ⟨ha, hb, h⟩
    · exact mono _ _ (ih i j h)
    · have hl := joins_length (List.range n) r.reverse
      rw [List.length_range] at hl
      have link : Conn n (r.reverse ++ [p]) p.1.toNat p.2.toNat := by
        refine .step (.refl (by have := ha.2; have := ha.1; omega)) (by have := hb.2; have := hb.1; omega) (.inl ?_)
        have e1 : ((p.1.toNat : Nat) : Int) = p.1 := by have := ha.1; omega
        have e2 : ((p.2.toNat : Nat) : Int) = p.2 := by have := hb.1; omega
        rw [e1, e2]
        simp
      rcases h with ⟨h1, h2⟩ | ⟨h1, h2⟩
      · exact trans (trans (mono _ _ (ih _ _ h1)) link) (symm (mono _ _ (ih _ _ h2)))
      · exact trans (trans (mono _ _ (ih _ _ h1)) (symm link)) (symm (mono _ _ (ih _ _ h2)))
theorem canon_range (n : Nat) : Canon (List.range n) := by
  have hq := fun i (hi : i < (List.range n).length) => (show (List.range n).getD i 0 = i by rw [List.length_range] at hi; simp [List.getD_eq_getElem?_getD, hi])
  exact ⟨fun i hi => by rw [hq i hi]; exact Nat.le_refl _, fun i hi => by rw [hq i hi, hq i hi]⟩
theorem rel_conn (n : Nat) (l : List (Int × Int)) (i j : Nat) : Rel (joinsL (List.range n) l) i j ↔ Conn n l i j := by
  refine ⟨conn_of_rel l i j, fun h => ?_⟩
  have hl := joins_length (List.range n) l
  rw [List.length_range] at hl
  induction h with
  | refl h => exact Rel.refl (by omega)
  | step h hk hm ih => exact ih.trans (rel_of_mem l (canon_range n) (by simp) _ _ h.lt.2 hk hm)
/-- In whatever order, and whichever way round. -/
theorem joins_order (n : Nat) (l m : List (Int × Int)) (h : ∀ a b, ((a, b) ∈ l ∨ (b, a) ∈ l) ↔ ((a, b) ∈ m ∨ (b, a) ∈ m)) : joinsL (List.range n) l = joinsL (List.range n) m := by
  refine canon_eq (joins_canon (canon_range n) l) (joins_canon (canon_range n) m) (by rw [joins_length, joins_length]) (fun i j => ?_)
  rw [rel_conn, rel_conn]
  exact ⟨fun q => q.mono (fun a b => (h a b).1), fun q => q.mono (fun a b => (h a b).2)⟩
end Go.Proofs.Ytoccgpkpmhkeiaa.Uni
