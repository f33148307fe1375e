/- What the landed layer 3 does: what is wrong with an arc, with supplies, with an instance. -/
import Derived.Test.YtekjbpdfginplaaInstE
namespace Go.Proofs.Ytekjbpdfginplaa.Inst
open Go.RowKit

theorem isnode_any (x n : Int) (p : Bool) (hp : (decide (0 ≤ x) && decide (x < n)) = p) (w : World) :
    Calls Try.prog 48 #[.int .i64 x, .int .i64 n] w fun e w' => e = .returned (.bool p) ∧ w = w' := by
  by_cases h1 : 0 ≤ x
  · by_cases h2 : x < n
    · have H := Lib.hid (show p = true by rw [← hp, decide_eq_true h1, decide_eq_true h2]; rfl)
      clear hp
      go_enter Try.func48, Try.ntmps48
      go_wp2_with fail
      go_ret
      exact ⟨by rw [H.out]; rfl, rfl⟩
    · have H := Lib.hid (show p = false by rw [← hp, decide_eq_false h2, Bool.and_false])
      clear hp
      go_enter Try.func48, Try.ntmps48
      go_wp2_with fail
      go_ret
      exact ⟨by rw [H.out]; rfl, rfl⟩
  · have H := Lib.hid (show p = false by rw [← hp, decide_eq_false h1, Bool.false_and])
    clear hp
    go_enter Try.func48, Try.ntmps48
    go_wp2_with fail
    go_ret
    exact ⟨by rw [H.out]; rfl, rfl⟩

theorem within_any (x a b : Int) (p : Bool) (hp : (decide (a ≤ x) && decide (x ≤ b)) = p) (w : World) :
    Calls Try.prog 49 #[.int .i64 x, .int .i64 a, .int .i64 b] w fun e w' => e = .returned (.bool p) ∧ w = w' := by
  by_cases h1 : a ≤ x
  · by_cases h2 : x ≤ b
    · have H := Lib.hid (show p = true by rw [← hp, decide_eq_true h1, decide_eq_true h2]; rfl)
      clear hp
      go_enter Try.func49, Try.ntmps49
      go_wp2_with fail
      go_ret
      exact ⟨by rw [H.out]; rfl, rfl⟩
    · have H := Lib.hid (show p = false by rw [← hp, decide_eq_false h2, Bool.and_false])
      clear hp
      go_enter Try.func49, Try.ntmps49
      go_wp2_with fail
      go_ret
      exact ⟨by rw [H.out]; rfl, rfl⟩
  · have H := Lib.hid (show p = false by rw [← hp, decide_eq_false h1, Bool.false_and])
    clear hp
    go_enter Try.func49, Try.ntmps49
    go_wp2_with fail
    go_ret
    exact ⟨by rw [H.out]; rfl, rfl⟩

def isN (x n : Int) : Bool := decide (0 ≤ x) && decide (x < n)
def inR (x a b : Int) : Bool := decide (a ≤ x) && decide (x ≤ b)
theorem isN_no {x n : Int} (h : isN x n = false) : x < 0 ∨ n ≤ x := by
  unfold isN at h
  simp at h
  omega
theorem isN_yes {x n : Int} (h : isN x n = true) : 0 ≤ x ∧ x < n := by
  unfold isN at h
  simpa using h
theorem inR_no {x a b : Int} (h : inR x a b = false) : x < a ∨ b < x := by
  unfold inR at h
  simp at h
  omega
theorem inR_yes {x a b : Int} (h : inR x a b = true) : a ≤ x ∧ x ≤ b := by
  unfold inR at h
  simpa using h
theorem arcW_node {n : Int} {f t lo ca co : Int} (h : isN f n = false ∨ isN t n = false) : arcW n ⟨f, t, lo, ca, co⟩ = 21 := by
  unfold arcW
  rw [if_pos]
  rcases h with h | h
  · have := isN_no h; simp only; omega
  · have := isN_no h; simp only; omega
theorem arcW_bound {n : Int} {f t lo ca co : Int} (hf : isN f n = true) (ht : isN t n = true) (h : inR lo 0 4398046511104 = false ∨ (ca ≠ 4611686018427387904 ∧ inR ca lo 4398046511104 = false)) : arcW n ⟨f, t, lo, ca, co⟩ = 22 := by
  have h1 := isN_yes hf
  have h2 := isN_yes ht
  unfold arcW
  rw [if_neg (by simp only; omega), if_pos]
  rcases h with h | ⟨h0, h⟩
  · have := inR_no h; simp only; omega
  · have := inR_no h; simp only; omega
theorem arcW_cost {n : Int} {f t lo ca co : Int} {p : Bool} (hf : isN f n = true) (ht : isN t n = true) (hl : inR lo 0 4398046511104 = true) (hc : ca = 4611686018427387904 ∨ inR ca lo 4398046511104 = true) (h : inR co (-4398046511104) 4398046511104 = p) : arcW n ⟨f, t, lo, ca, co⟩ = if p = true then 0 else 23 := by
  have h1 := isN_yes hf
  have h2 := isN_yes ht
  have h3 := inR_yes hl
  have h4 : ca = 4611686018427387904 ∨ (lo ≤ ca ∧ ca ≤ 4398046511104) := by
    rcases hc with hc | hc
    · exact .inl hc
    · exact .inr (inR_yes hc)
  unfold arcW
  rw [if_neg (by simp only; omega), if_neg (by simp only; omega), ← h]
  rfl

set_option maxHeartbeats 2000000 in
theorem warc_any (a : ArcD) (n : Int) (w : World) :
    Calls Try.prog 31 #[aggV a, .int .i64 n] w fun e w' => e = .returned (.int .u16 (arcW n a)) ∧ Below w.heap.size w w' := by
  obtain ⟨f, t, lo, ca, co⟩ := a
  obtain ⟨pf, hf⟩ : ∃ p, p = isN f n := ⟨_, rfl⟩
  obtain ⟨pt, ht⟩ : ∃ p, p = isN t n := ⟨_, rfl⟩
  obtain ⟨pl, hl⟩ : ∃ p, p = inR lo 0 4398046511104 := ⟨_, rfl⟩
  obtain ⟨pc, hc⟩ : ∃ p, p = inR ca lo 4398046511104 := ⟨_, rfl⟩
  obtain ⟨po, ho⟩ : ∃ p, p = inR co (-4398046511104) 4398046511104 := ⟨_, rfl⟩
  have F := Lib.hid (fun w => isnode_any f n pf hf.symm w)
  have T := Lib.hid (fun w => isnode_any t n pt ht.symm w)
  have L := Lib.hid (fun w => within_any lo 0 4398046511104 pl hl.symm w)
  have C := Lib.hid (fun w => within_any ca lo 4398046511104 pc hc.symm w)
  have O := Lib.hid (fun w => within_any co (-4398046511104) 4398046511104 po ho.symm w)
  have HF := Lib.hid hf
  have HT := Lib.hid ht
  have HL := Lib.hid hl
  have HC := Lib.hid hc
  have HO := Lib.hid ho
  clear hf ht hl hc ho
  cases pf with
  | false =>
    have E := Lib.hid (arcW_node (lo := lo) (ca := ca) (co := co) (t := t) (.inl HF.out.symm))
    go_enter Try.func31, Try.ntmps31
    go_wp2_with (go_at_call 48; (with_reducible refine (F.out _).mono ?_); rintro e w1 ⟨rfl, rfl⟩)
    go_ret
    exact ⟨by rw [E.out]; rfl, (Below.refl _ _).alloc (Nat.le_refl _) _⟩
  | true =>
    cases pt with
    | false =>
      have E := Lib.hid (arcW_node (lo := lo) (ca := ca) (co := co) (f := f) (.inr HT.out.symm))
      go_enter Try.func31, Try.ntmps31
      go_wp2_with (first | (go_at_call 48; (with_reducible refine (F.out _).mono ?_); rintro e w1 ⟨rfl, rfl⟩) | (go_at_call 48; (with_reducible refine (T.out _).mono ?_); rintro e w1 ⟨rfl, rfl⟩))
      go_ret
      exact ⟨by rw [E.out]; rfl, (Below.refl _ _).alloc (Nat.le_refl _) _⟩
    | true =>
      cases pl with
      | false =>
        have E := Lib.hid (arcW_bound (ca := ca) (co := co) HF.out.symm HT.out.symm (.inl HL.out.symm))
        go_enter Try.func31, Try.ntmps31
        go_wp2_with (first | (go_at_call 48; (with_reducible refine (F.out _).mono ?_); rintro e w1 ⟨rfl, rfl⟩) | (go_at_call 48; (with_reducible refine (T.out _).mono ?_); rintro e w1 ⟨rfl, rfl⟩) | (go_at_call 49; (with_reducible refine (L.out _).mono ?_); rintro e w1 ⟨rfl, rfl⟩))
        go_ret
        exact ⟨by rw [E.out]; rfl, (Below.refl _ _).alloc (Nat.le_refl _) _⟩
      | true =>
        by_cases ci : ca = 4611686018427387904
        · have E := Lib.hid (arcW_cost HF.out.symm HT.out.symm HL.out.symm (.inl ci) HO.out.symm)
          have t1 : (ca != 4611686018427387904) = false := by simp [ci]
          have CI := Lib.hid ci
          clear ci
          cases po with
          | false =>
            go_enter Try.func31, Try.ntmps31
            go_wp2_with (first | (go_at_call 48; (with_reducible refine (F.out _).mono ?_); rintro e w1 ⟨rfl, rfl⟩) | (go_at_call 48; (with_reducible refine (T.out _).mono ?_); rintro e w1 ⟨rfl, rfl⟩) | (go_at_call 49; (with_reducible refine (L.out _).mono ?_); rintro e w1 ⟨rfl, rfl⟩) | (go_at_call 49; (with_reducible refine (O.out _).mono ?_); rintro e w1 ⟨rfl, rfl⟩))
            go_ret
            exact ⟨by rw [E.out]; rfl, (Below.refl _ _).alloc (Nat.le_refl _) _⟩
          | true =>
            go_enter Try.func31, Try.ntmps31
            go_wp2_with (first | (go_at_call 48; (with_reducible refine (F.out _).mono ?_); rintro e w1 ⟨rfl, rfl⟩) | (go_at_call 48; (with_reducible refine (T.out _).mono ?_); rintro e w1 ⟨rfl, rfl⟩) | (go_at_call 49; (with_reducible refine (L.out _).mono ?_); rintro e w1 ⟨rfl, rfl⟩) | (go_at_call 49; (with_reducible refine (O.out _).mono ?_); rintro e w1 ⟨rfl, rfl⟩))
            go_ret
            exact ⟨by rw [E.out]; rfl, (Below.refl _ _).alloc (Nat.le_refl _) _⟩
        · have t1 : (ca != 4611686018427387904) = true := by simp [ci]
          have CI := Lib.hid ci
          clear ci
          cases pc with
          | false =>
            have E := Lib.hid (arcW_bound (co := co) HF.out.symm HT.out.symm (.inr ⟨CI.out, HC.out.symm⟩))
            go_enter Try.func31, Try.ntmps31
            go_wp2_with (first | (go_at_call 48; (with_reducible refine (F.out _).mono ?_); rintro e w1 ⟨rfl, rfl⟩) | (go_at_call 48; (with_reducible refine (T.out _).mono ?_); rintro e w1 ⟨rfl, rfl⟩) | (go_at_call 49; (with_reducible refine (L.out _).mono ?_); rintro e w1 ⟨rfl, rfl⟩) | (go_at_call 49; (with_reducible refine (C.out _).mono ?_); rintro e w1 ⟨rfl, rfl⟩))
            go_ret
            exact ⟨by rw [E.out]; rfl, (Below.refl _ _).alloc (Nat.le_refl _) _⟩
          | true =>
            have E := Lib.hid (arcW_cost HF.out.symm HT.out.symm HL.out.symm (.inr HC.out.symm) HO.out.symm)
            cases po with
            | false =>
              go_enter Try.func31, Try.ntmps31
              go_wp2_with (first | (go_at_call 48; (with_reducible refine (F.out _).mono ?_); rintro e w1 ⟨rfl, rfl⟩) | (go_at_call 48; (with_reducible refine (T.out _).mono ?_); rintro e w1 ⟨rfl, rfl⟩) | (go_at_call 49; (with_reducible refine (L.out _).mono ?_); rintro e w1 ⟨rfl, rfl⟩) | (go_at_call 49; (with_reducible refine (C.out _).mono ?_); rintro e w1 ⟨rfl, rfl⟩) | (go_at_call 49; (with_reducible refine (O.out _).mono ?_); rintro e w1 ⟨rfl, rfl⟩))
              go_ret
              exact ⟨by rw [E.out]; rfl, (Below.refl _ _).alloc (Nat.le_refl _) _⟩
            | true =>
              go_enter Try.func31, Try.ntmps31
              go_wp2_with (first | (go_at_call 48; (with_reducible refine (F.out _).mono ?_); rintro e w1 ⟨rfl, rfl⟩) | (go_at_call 48; (with_reducible refine (T.out _).mono ?_); rintro e w1 ⟨rfl, rfl⟩) | (go_at_call 49; (with_reducible refine (L.out _).mono ?_); rintro e w1 ⟨rfl, rfl⟩) | (go_at_call 49; (with_reducible refine (C.out _).mono ?_); rintro e w1 ⟨rfl, rfl⟩) | (go_at_call 49; (with_reducible refine (O.out _).mono ?_); rintro e w1 ⟨rfl, rfl⟩))
              go_ret
              exact ⟨by rw [E.out]; rfl, (Below.refl _ _).alloc (Nat.le_refl _) _⟩

/-- How many are beyond. -/
def beyond (l : List Int) : Nat := l.countP fun x => !inB x
theorem beyond_snoc (l : List Int) (x : Int) : beyond (l ++ [x]) = beyond l + if inB x = true then 0 else 1 := by
  unfold beyond
  rw [List.countP_append, List.countP_cons, List.countP_nil]
  cases inB x <;> simp
theorem beyond_le (l : List Int) : beyond l ≤ l.length := List.countP_le_length
theorem beyond_all (l : List Int) : (l.all inB = true) = (beyond l = 0) := by
  unfold beyond
  rw [List.countP_eq_zero, List.all_eq_true]
  simp
theorem great_any (x : Int) (p : Bool) (hp : inB x = p) (w : World) :
    Calls Try.prog 50 #[.int .i64 x] w fun e w' => e = .returned (.bool (!p)) ∧ w = w' := by
  have W := Lib.hid (fun w => within_any x (-4398046511104) 4398046511104 p hp w)
  clear hp
  go_enter Try.func50, Try.ntmps50
  go_wp2_with (go_at_call 49; (with_reducible refine (W.out _).mono ?_); rintro e w1 ⟨rfl, rfl⟩)
  go_ret
  exact ⟨rfl, rfl⟩

/-- At the head of the loop of 'counted'. -/
def BeyRel (l : List Int) (s5 s10 : Value) : Prop := ∃ k n : Nat, k ≤ l.length ∧ n = beyond (l.take k) ∧ s5 = .int .i64 (n : Int) ∧ s10 = .int .i64 (k : Int)
set_option maxHeartbeats 1000000 in
theorem cbey_any (a : Option Addr) (c : Nat) (l : List Int) (hl : l.length ≤ 17592186044416) (w : World) (ha : Cells w w.heap.size a (numV l)) :
    Calls Try.prog 51 #[.slice a l.length c, .func (.func 50) #[] #[]] w fun e w' => e = .returned (.int .i64 (beyond l : Int)) ∧ w = w' := by
  have HA := Lib.hid ha
  clear ha
  go_enter Try.func51, Try.ntmps51
  go_wp2_with fail
  go_loop [5, 10] (fun s t => BeyRel l s t) (fun _ t => l.length - (intOf t).toNat)
  case atStart => exact ⟨0, 0, by omega, rfl, rfl, rfl⟩
  case round =>
    obtain ⟨k, n, hk, hn2, rfl, rfl⟩ := hrel
    have HN := Lib.hid hn2
    have nb : n ≤ 17592186044416 := by
      have := beyond_le (l.take k)
      rw [List.length_take] at this
      omega
    clear hn2
    by_cases hlt : k < l.length
    · obtain ⟨b, off, ea, hb, ca⟩ := nums_at HA.out (by omega)
      have c1 := ca k hlt
      have E := Lib.hid (show beyond (l.take (k + 1)) = beyond (l.take k) + if inB l[k] = true then 0 else 1 by rw [List.take_succ_eq_append_getElem hlt, beyond_snoc])
      have i0 : (0 : Int) ≤ (k : Int) := by omega
      have i1 : (k : Int) < (l.length : Int) := by omega
      obtain ⟨x, hx⟩ : ∃ x, x = l[k] := ⟨_, rfl⟩
      rw [← hx] at c1 E
      subst ea
      clear ca hx
      obtain ⟨p, hp⟩ : ∃ p, inB x = p := ⟨_, rfl⟩
      have G := Lib.hid (fun w => great_any x p hp w)
      have HP := Lib.hid hp
      clear hp
      cases p with
      | true =>
        go_wp2_with (go_at_call 50; (with_reducible refine (G.out _).mono ?_); rintro e w1 ⟨rfl, rfl⟩)
        exact ⟨⟨k + 1, n, by omega, by rw [E.out, if_pos HP.out, HN.out]; rfl, rfl, by simp⟩, by simp [intOf]; omega⟩
      | false =>
        go_wp2_with (go_at_call 50; (with_reducible refine (G.out _).mono ?_); rintro e w1 ⟨rfl, rfl⟩)
        exact ⟨⟨k + 1, n + 1, by omega, by rw [E.out, if_neg (by rw [HP.out]; simp), HN.out], by simp, by simp⟩, by simp [intOf]; omega⟩
    · obtain rfl : k = l.length := by omega
      have E : n = beyond l := by have := HN.out; rw [List.take_length] at this; exact this
      subst E
      go_wp2_with fail
      go_ret
      exact ⟨rfl, rfl⟩
end Go.Proofs.Ytekjbpdfginplaa.Inst
