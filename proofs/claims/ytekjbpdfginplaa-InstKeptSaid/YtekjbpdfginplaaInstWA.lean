/- The law InstKept: its walk. -/
import Derived.Test.YtekjbpdfginplaaInstH
import Derived.Test.YtekjbpdfginplaaInstO
namespace Go.Proofs.Ytekjbpdfginplaa.Inst
open Go.RowKit

theorem kept_more (off : List Bool) (k : Nat) : ∀ n, k ≤ n → ∃ r, keptN off n = keptN off k ++ r
  | 0, h => ⟨[], by obtain rfl : k = 0 := (by omega); simp⟩
  | n + 1, h => by
    by_cases e : k = n + 1
    · subst e; exact ⟨[], by simp⟩
    · obtain ⟨r, hr⟩ := kept_more off k n (by omega)
      rw [keptN_succ, hr, List.append_assoc]
      exact ⟨_, rfl⟩
theorem kept_at (off : List Bool) (k n : Nat) (hk : k < n) (ho : offB off k = false) : ∃ h : (keptN off k).length < (keptN off n).length, (keptN off n)[(keptN off k).length] = k := by
  obtain ⟨r, hr⟩ := kept_more off (k + 1) n hk
  rw [keptN_succ, ho] at hr
  simp only [Bool.false_eq_true, if_false, List.append_assoc] at hr
  refine ⟨by rw [hr]; simp, ?_⟩
  simp [hr]
/-- At the head of the loop. -/
def KeptLaw (xs : List Bool) (n : Nat) (s6 s7 : Value) : Prop := ∃ k : Nat, k ≤ n ∧ s7 = .int .i64 (k : Int) ∧ s6 = .int .i64 ((keptN xs k).length : Int)

set_option maxRecDepth 100000 in
set_option maxHeartbeats 4000000 in
theorem kept_law (s : Option Addr) (c : Nat) (xs : List Bool) (hl : xs.length ≤ 300) (n : Nat) (hn : n < 256) (W : World) (ha : Cells W W.heap.size s (boolV xs)) :
    Calls Try.prog 7 #[.slice s xs.length c, .int .u8 (n : Int)] W fun e W' => e = .returned (.bool true) ∧ Below W.heap.size W W' := by
  have HA := Lib.hid ha
  have K1 := Lib.hid (fun w' (h : Below W.heap.size W w') => kept_any s c xs (n : Int) (by omega) w' (HA.out.later (Nat.le_refl _) h))
  have K2 := Lib.hid (fun w' (h : Below W.heap.size W w') => kept_any s c xs (-(n : Int)) (by omega) w' (HA.out.later (Nat.le_refl _) h))
  have KN := Lib.hid (fun w => known_any w)
  have e1 : keptD xs (n : Int) = keptN xs n := by unfold keptD; congr 1; unfold upto; omega
  have e2 : keptD xs (-(n : Int)) = [] := by unfold keptD; rw [show upto (-(n : Int)) = 0 by unfold upto; omega]; rfl
  rw [e1] at K1
  rw [e2] at K2
  have nl := keptN_length xs n
  clear e1 e2 ha
  go_enter Try.func7, Try.ntmps7
  go_wp2_with (go_at_call 17; (with_reducible refine (K1.out _ (Below.refl _ _)).mono ?_); rintro e w1 ⟨NA, ncap, rfl, nc1, nc2, nb, no⟩; have NB := Lib.hid nb; have NC := Lib.hid nc2; clear nb no nc2)
  go_loop [6, 7] (fun s t => KeptLaw xs n s t) (fun _ t => n - (intOf t).toNat)
  case atStart => exact ⟨0, by omega, rfl, rfl⟩
  case round =>
    obtain ⟨k, hk, rfl, rfl⟩ := hrel
    by_cases hlt : k < n
    · have k0 : (0 : Int) ≤ (k : Int) := by omega
      have q1 : (k : Int) < (n : Int) := by omega
      have kl := keptN_length xs k
      obtain ⟨o, ho⟩ : ∃ o, offB xs k = o := ⟨_, rfl⟩
      cases o with
      | true =>
        have E := Lib.hid (show keptN xs (k + 1) = keptN xs k by rw [keptN_succ, ho]; simp)
        have hl2 : k < xs.length := by
          rcases Nat.lt_or_ge k xs.length with h | h
          · exact h
          · unfold offB at ho
            rw [List.getD_eq_getElem?_getD, List.getElem?_eq_none h] at ho
            cases ho
        obtain ⟨b, o, ea, _, ca⟩ := bools_at (HA.out.later (Nat.le_refl _) NB.out) (by omega)
        have c1 := ca k hl2
        have e1 : xs[k] = true := by rw [← ho]; unfold offB; rw [List.getD_eq_getElem?_getD, List.getElem?_eq_getElem hl2]; rfl
        rw [e1] at c1
        have EA := Lib.hid ea
        rw [EA.out]
        have i1 : (k : Int) < (xs.length : Int) := by omega
        clear ea ca ho e1
        go_wp2_with fail
        exact ⟨⟨k + 1, by omega, by simp, by rw [E.out]⟩, by simp [intOf]; omega⟩
      | false =>
        have E := Lib.hid (show keptN xs (k + 1) = keptN xs k ++ [k] by rw [keptN_succ, ho]; simp)
        obtain ⟨h1, h2⟩ := kept_at xs k n hlt ho
        obtain ⟨nb, no, en, _, cn⟩ := nats_at NC.out (by omega)
        have d1 := cn _ h1
        rw [h2] at d1
        have EN := Lib.hid en
        rw [EN.out]
        have t : ((k : Int) != (k : Int)) = false := by simp
        obtain ⟨m, hm⟩ : ∃ m, m = (keptN xs k).length := ⟨_, rfl⟩
        obtain ⟨M, hM⟩ : ∃ M, M = (keptN xs n).length := ⟨_, rfl⟩
        rw [← hm] at d1 h1 kl ⊢
        rw [← hM] at h1 nl ⊢
        have j1 : (m : Int) < (M : Int) := by omega
        have j0 : (0 : Int) ≤ (m : Int) := by omega
        have HM := Lib.hid hm
        clear en cn h2 hm hM
        by_cases hl2 : k < xs.length
        · obtain ⟨b, o, ea, _, ca⟩ := bools_at (HA.out.later (Nat.le_refl _) NB.out) (by omega)
          have c1 := ca k hl2
          have e1 : xs[k] = false := by rw [← ho]; unfold offB; rw [List.getD_eq_getElem?_getD, List.getElem?_eq_getElem hl2]; rfl
          rw [e1] at c1
          have EA := Lib.hid ea
          rw [EA.out]
          have i1 : (k : Int) < (xs.length : Int) := by omega
          clear ea ca ho e1
          go_wp2_with fail
          exact ⟨⟨k + 1, by omega, by simp, by rw [E.out, List.length_append, ← HM.out]; simp⟩, by simp [intOf]; omega⟩
        · have i1 : ¬ ((k : Int) < (xs.length : Int)) := by omega
          clear ho
          go_wp2_with fail
          exact ⟨⟨k + 1, by omega, by simp, by rw [E.out, List.length_append, ← HM.out]; simp⟩, by simp [intOf]; omega⟩
    · obtain rfl : k = n := by omega
      have t : (((keptN xs k).length : Int) == ((keptN xs k).length : Int)) = true := by simp
      generalize (keptN xs k).length = m at *
      go_wp2_with (first
        | (go_at_call 11; refine (KN.out _).mono ?_; rintro e w2 ⟨rfl, hb⟩; have B2 := Lib.hid (chain2 NB.out hb); clear hb)
        | (go_at_call 17; (with_reducible refine (K2.out _ B2.out).mono ?_); rintro e w3 ⟨NA2, ncap2, rfl, _, _, nb3, _⟩; have B3 := Lib.hid (chain2 B2.out nb3)))
      go_ret
      exact ⟨rfl, B3.out⟩

set_option maxHeartbeats 1000000 in
theorem kept_law_long (s : Option Addr) (l c : Nat) (hl : 300 < l) (x : Value) (W : World) :
    Calls Try.prog 7 #[.slice s l c, x] W fun e W' => e = .returned (.bool true) ∧ Below W.heap.size W W' := by
  have KN := Lib.hid (known_any W)
  go_enter Try.func7, Try.ntmps7
  go_wp2_with (go_at_call 11; refine KN.out.mono ?_; rintro e w2 ⟨rfl, hb⟩; have B2 := Lib.hid hb; clear hb)
  go_ret
  exact ⟨rfl, B2.out⟩
/-- InstKept. -/
theorem kept_walk {W : World} (s : Option Addr) (l c : Nat) (xs : List Bool) (hl : xs.length = l) (_h9 : l ≤ 140737488355328) (hs : Cells W W.heap.size s (boolV xs)) (a : Int) (ha : U8 a) :
    Calls Try.prog 7 #[.slice s l c, .int .u8 a] W fun e W' => e = .returned (.bool true) ∧ Below W.heap.size W W' := by
  subst hl
  by_cases h : 300 < xs.length
  · exact kept_law_long s _ c h _ W
  · unfold U8 at ha
    obtain ⟨n, rfl⟩ : ∃ n : Nat, a = n := ⟨a.toNat, by omega⟩
    exact kept_law s c xs (by omega) n (by omega) W hs
end Go.Proofs.Ytekjbpdfginplaa.Inst
