/- The walk of UniteNone. -/
import Derived.Test.YtoccgpkpmhkeiaaUniN
namespace Go.Proofs.Ytoccgpkpmhkeiaa.Uni
open Go.RowKit Go.Proofs.Ytoccgpkpmhkeiaa.Inst

theorem start_length {n : Int} (h0 : 0 ≤ n) (h1 : n ≤ 1000) : ((startL n).length : Int) = n := by
  unfold startL
  rw [List.length_range]
  omega
theorem start_least_in {n a : Int} (h1 : n ≤ 1000) (h : 0 ≤ a ∧ a < n) : leastL (startL n) a = a := by
  unfold leastL
  rw [start_length (by omega) h1, if_pos h]
  unfold startL
  rw [List.getD_eq_getElem?_getD, List.getElem?_range (by omega)]
  simp
  omega
theorem start_least_out {n a : Int} (h0 : 0 ≤ n) (h1 : n ≤ 1000) (h : ¬ (0 ≤ a ∧ a < n)) : leastL (startL n) a = -1 := by
  unfold leastL
  rw [start_length h0 h1, if_neg h]
theorem start_roots {n : Int} (h0 : 0 ≤ n) (h1 : n ≤ 1000) : ((groupsL (startL n)).length : Int) = n := by
  rw [groups_length]
  unfold startL
  rw [roots_range, List.length_range]
  omega

set_option maxRecDepth 100000 in
set_option maxHeartbeats 8000000 in
theorem none_walk {Un : World → Nat → Nat → Nat → List Nat → Prop} (C : UniC Un) {W : World} (a : Int) (ha : I64 a) (b : Int) (hb : I64 b) (n : Int) (hn : U8 n) :
    Calls Try.prog 6 #[.int .i64 a, .int .i64 b, .int .u8 n] W fun e W' => e = .returned (.bool true) ∧ Below W.heap.size W W' := by
  have hn2 := hn
  unfold U8 at hn2
  have KN := Lib.hid (fun w => known_any C w)
  have NW := Lib.hid (fun w => C.new n w (by unfold I64; omega) (by omega))
  have NN := Lib.hid (fun w => C.new (-n) w (by unfold I64; omega) (by omega))
  have LA := Lib.hid (fun (w u : World) (b lo hi : Nat) (L : List Nat) (h : Un w b lo hi L) (hb : Below w.heap.size w u) => C.later h hb)
  have IS := Lib.hid (fun (w : World) (b lo hi : Nat) (L : List Nat) (h : Un w b lo hi L) => C.is h)
  have J0 := Lib.hid (fun w => C.join0 a b w ha hb)
  have S0 := Lib.hid (fun w => C.same0 a a w ha ha)
  have L0 := Lib.hid (fun w => C.least0 a w ha)
  have M0 := Lib.hid (fun w => C.many0 w)
  have G0 := Lib.hid (fun w => C.groups0 w)
  have ST := Lib.hid (fun p lo hi w' (h : Un w' p lo hi (startL n)) => C.same p lo hi _ a a w' h ha ha)
  have LT := Lib.hid (fun p lo hi w' (h : Un w' p lo hi (startL n)) => C.least p lo hi _ a w' h ha)
  have MT := Lib.hid (fun p lo hi w' (h : Un w' p lo hi (startL n)) => C.many p lo hi _ w' h)
  have MN := Lib.hid (fun p lo hi w' (h : Un w' p lo hi (startL (-n))) => C.many p lo hi _ w' h)
  rw [start_roots (by omega) (by omega)] at MT
  rw [show groupsL (startL (-n)) = [] by unfold startL; rw [show min (-n).toNat 1000 = 0 by omega]; rfl] at MN
  have e1 : IntKind.i64.wrap (-n) = -n := by simp only [IntKind.wrap_i64]; omega
  have e2 : IntKind.i64.wrap n = n := by simp only [IntKind.wrap_i64]; omega
  have t0 : (n == n) = true := by simp
  have t1 : (a == a) = true := by simp
  have ha2 := ha
  unfold I64 at ha2
  clear ha hb hn C
  by_cases c : 0 ≤ a ∧ a < n
  · rw [start_least_in (by omega) c] at LT
    rw [show sameB (startL n) a a = true by unfold sameB; rw [start_least_in (by omega) c]; exact decide_eq_true ⟨c.1, rfl⟩] at ST
    obtain ⟨c1, c2⟩ := c
    go_enter Try.func6, Try.ntmps6
    go_wp2_with (first
      | (go_at_call 11; (with_reducible refine (NW.out _).mono ?_); rintro e wn ⟨p, rfl, hu, hb⟩; have U := Lib.hid hu; have HB := Lib.hid hb; clear hu hb)
      | (go_at_call 8; (with_reducible refine (KN.out _).mono ?_); rintro e wn ⟨rfl, hb⟩; replace U := Lib.hid (LA.out _ _ _ _ _ _ U.out hb); replace HB := Lib.hid (chain2 HB.out hb); clear hb)
      | (go_at_call 12; (with_reducible refine (J0.out _).mono ?_); rintro e wn ⟨rfl, hb⟩; replace U := Lib.hid (LA.out _ _ _ _ _ _ U.out hb); replace HB := Lib.hid (chain2 HB.out hb); clear hb)
      | (go_at_call 17; (with_reducible refine (S0.out _).mono ?_); rintro e wn ⟨rfl, hb⟩; replace U := Lib.hid (LA.out _ _ _ _ _ _ U.out hb); replace HB := Lib.hid (chain2 HB.out hb); clear hb)
      | (go_at_call 16; (with_reducible refine (L0.out _).mono ?_); rintro e wn ⟨rfl, hb⟩; replace U := Lib.hid (LA.out _ _ _ _ _ _ U.out hb); replace HB := Lib.hid (chain2 HB.out hb); clear hb)
      | (go_at_call 15; (with_reducible refine (M0.out _).mono ?_); rintro e wn ⟨rfl, hb⟩; replace U := Lib.hid (LA.out _ _ _ _ _ _ U.out hb); replace HB := Lib.hid (chain2 HB.out hb); clear hb)
      | (go_at_call 14; (with_reducible refine (G0.out _).mono ?_); rintro e wn ⟨⟨A0, c0, rfl⟩, hb⟩; replace U := Lib.hid (LA.out _ _ _ _ _ _ U.out hb); replace HB := Lib.hid (chain2 HB.out hb); clear hb)
      | (go_at_call 17; (with_reducible refine (ST.out p _ _ _ U.out).mono ?_); rintro e wn ⟨rfl, hu, ho⟩; replace HB := Lib.hid (below_off HB.out ho (Nat.le_refl _) HB.out.size); replace U := Lib.hid hu; clear hu ho)
      | (go_at_call 16; (with_reducible refine (LT.out p _ _ _ U.out).mono ?_); rintro e wn ⟨rfl, hu, ho⟩; replace HB := Lib.hid (below_off HB.out ho (Nat.le_refl _) HB.out.size); replace U := Lib.hid hu; clear hu ho)
      | (go_at_call 15; (with_reducible refine (MT.out p _ _ _ U.out).mono ?_); rintro e wn ⟨rfl, hu, ho⟩; replace HB := Lib.hid (below_off HB.out ho (Nat.le_refl _) HB.out.size); replace U := Lib.hid hu; clear hu ho)
      | (go_at_call 11; (with_reducible refine (NN.out _).mono ?_); rintro e wn ⟨q, rfl, hu, hb⟩; have lw := HB.out.size; have U2 := Lib.hid hu; have HB2 := Lib.hid (chain2 HB.out hb); clear hu hb)
      | (go_at_call 15; (with_reducible refine (MN.out q _ _ _ U2.out).mono ?_); rintro e wn ⟨rfl, hu, ho⟩; replace HB := Lib.hid (below_off HB2.out ho lw HB2.out.size); clear hu ho lw))
    go_ret
    exact ⟨rfl, HB.out⟩
  · rw [start_least_out (by omega) (by omega) c] at LT
    rw [show sameB (startL n) a a = false by unfold sameB; rw [start_least_out (by omega) (by omega) c]; rfl] at ST
    by_cases c3 : a = -1
    · subst c3
      go_enter Try.func6, Try.ntmps6
      go_wp2_with (first
      | (go_at_call 11; (with_reducible refine (NW.out _).mono ?_); rintro e wn ⟨p, rfl, hu, hb⟩; have U := Lib.hid hu; have HB := Lib.hid hb; clear hu hb)
      | (go_at_call 8; (with_reducible refine (KN.out _).mono ?_); rintro e wn ⟨rfl, hb⟩; replace U := Lib.hid (LA.out _ _ _ _ _ _ U.out hb); replace HB := Lib.hid (chain2 HB.out hb); clear hb)
      | (go_at_call 12; (with_reducible refine (J0.out _).mono ?_); rintro e wn ⟨rfl, hb⟩; replace U := Lib.hid (LA.out _ _ _ _ _ _ U.out hb); replace HB := Lib.hid (chain2 HB.out hb); clear hb)
      | (go_at_call 17; (with_reducible refine (S0.out _).mono ?_); rintro e wn ⟨rfl, hb⟩; replace U := Lib.hid (LA.out _ _ _ _ _ _ U.out hb); replace HB := Lib.hid (chain2 HB.out hb); clear hb)
      | (go_at_call 16; (with_reducible refine (L0.out _).mono ?_); rintro e wn ⟨rfl, hb⟩; replace U := Lib.hid (LA.out _ _ _ _ _ _ U.out hb); replace HB := Lib.hid (chain2 HB.out hb); clear hb)
      | (go_at_call 15; (with_reducible refine (M0.out _).mono ?_); rintro e wn ⟨rfl, hb⟩; replace U := Lib.hid (LA.out _ _ _ _ _ _ U.out hb); replace HB := Lib.hid (chain2 HB.out hb); clear hb)
      | (go_at_call 14; (with_reducible refine (G0.out _).mono ?_); rintro e wn ⟨⟨A0, c0, rfl⟩, hb⟩; replace U := Lib.hid (LA.out _ _ _ _ _ _ U.out hb); replace HB := Lib.hid (chain2 HB.out hb); clear hb)
      | (go_at_call 17; (with_reducible refine (ST.out p _ _ _ U.out).mono ?_); rintro e wn ⟨rfl, hu, ho⟩; replace HB := Lib.hid (below_off HB.out ho (Nat.le_refl _) HB.out.size); replace U := Lib.hid hu; clear hu ho)
      | (go_at_call 16; (with_reducible refine (LT.out p _ _ _ U.out).mono ?_); rintro e wn ⟨rfl, hu, ho⟩; replace HB := Lib.hid (below_off HB.out ho (Nat.le_refl _) HB.out.size); replace U := Lib.hid hu; clear hu ho)
      | (go_at_call 15; (with_reducible refine (MT.out p _ _ _ U.out).mono ?_); rintro e wn ⟨rfl, hu, ho⟩; replace HB := Lib.hid (below_off HB.out ho (Nat.le_refl _) HB.out.size); replace U := Lib.hid hu; clear hu ho)
      | (go_at_call 11; (with_reducible refine (NN.out _).mono ?_); rintro e wn ⟨q, rfl, hu, hb⟩; have lw := HB.out.size; have U2 := Lib.hid hu; have HB2 := Lib.hid (chain2 HB.out hb); clear hu hb)
      | (go_at_call 15; (with_reducible refine (MN.out q _ _ _ U2.out).mono ?_); rintro e wn ⟨rfl, hu, ho⟩; replace HB := Lib.hid (below_off HB2.out ho lw HB2.out.size); clear hu ho lw))
      go_ret
      exact ⟨rfl, HB.out⟩
    · have t2 : ((-1 : Int) == a) = false := by simp; omega
      have t3 : (a == (-1 : Int)) = false := by simp; omega
      by_cases c1 : 0 ≤ a
      · have c2 : ¬ a < n := by omega
        go_enter Try.func6, Try.ntmps6
        go_wp2_with (first
      | (go_at_call 11; (with_reducible refine (NW.out _).mono ?_); rintro e wn ⟨p, rfl, hu, hb⟩; have U := Lib.hid hu; have HB := Lib.hid hb; clear hu hb)
      | (go_at_call 8; (with_reducible refine (KN.out _).mono ?_); rintro e wn ⟨rfl, hb⟩; replace U := Lib.hid (LA.out _ _ _ _ _ _ U.out hb); replace HB := Lib.hid (chain2 HB.out hb); clear hb)
      | (go_at_call 12; (with_reducible refine (J0.out _).mono ?_); rintro e wn ⟨rfl, hb⟩; replace U := Lib.hid (LA.out _ _ _ _ _ _ U.out hb); replace HB := Lib.hid (chain2 HB.out hb); clear hb)
      | (go_at_call 17; (with_reducible refine (S0.out _).mono ?_); rintro e wn ⟨rfl, hb⟩; replace U := Lib.hid (LA.out _ _ _ _ _ _ U.out hb); replace HB := Lib.hid (chain2 HB.out hb); clear hb)
      | (go_at_call 16; (with_reducible refine (L0.out _).mono ?_); rintro e wn ⟨rfl, hb⟩; replace U := Lib.hid (LA.out _ _ _ _ _ _ U.out hb); replace HB := Lib.hid (chain2 HB.out hb); clear hb)
      | (go_at_call 15; (with_reducible refine (M0.out _).mono ?_); rintro e wn ⟨rfl, hb⟩; replace U := Lib.hid (LA.out _ _ _ _ _ _ U.out hb); replace HB := Lib.hid (chain2 HB.out hb); clear hb)
      | (go_at_call 14; (with_reducible refine (G0.out _).mono ?_); rintro e wn ⟨⟨A0, c0, rfl⟩, hb⟩; replace U := Lib.hid (LA.out _ _ _ _ _ _ U.out hb); replace HB := Lib.hid (chain2 HB.out hb); clear hb)
      | (go_at_call 17; (with_reducible refine (ST.out p _ _ _ U.out).mono ?_); rintro e wn ⟨rfl, hu, ho⟩; replace HB := Lib.hid (below_off HB.out ho (Nat.le_refl _) HB.out.size); replace U := Lib.hid hu; clear hu ho)
      | (go_at_call 16; (with_reducible refine (LT.out p _ _ _ U.out).mono ?_); rintro e wn ⟨rfl, hu, ho⟩; replace HB := Lib.hid (below_off HB.out ho (Nat.le_refl _) HB.out.size); replace U := Lib.hid hu; clear hu ho)
      | (go_at_call 15; (with_reducible refine (MT.out p _ _ _ U.out).mono ?_); rintro e wn ⟨rfl, hu, ho⟩; replace HB := Lib.hid (below_off HB.out ho (Nat.le_refl _) HB.out.size); replace U := Lib.hid hu; clear hu ho)
      | (go_at_call 11; (with_reducible refine (NN.out _).mono ?_); rintro e wn ⟨q, rfl, hu, hb⟩; have lw := HB.out.size; have U2 := Lib.hid hu; have HB2 := Lib.hid (chain2 HB.out hb); clear hu hb)
      | (go_at_call 15; (with_reducible refine (MN.out q _ _ _ U2.out).mono ?_); rintro e wn ⟨rfl, hu, ho⟩; replace HB := Lib.hid (below_off HB2.out ho lw HB2.out.size); clear hu ho lw))
        go_ret
        exact ⟨by first | rfl | (simp; omega), HB.out⟩
      · have c2 : ¬ (0 ≤ a) := c1
        go_enter Try.func6, Try.ntmps6
        go_wp2_with (first
      | (go_at_call 11; (with_reducible refine (NW.out _).mono ?_); rintro e wn ⟨p, rfl, hu, hb⟩; have U := Lib.hid hu; have HB := Lib.hid hb; clear hu hb)
      | (go_at_call 8; (with_reducible refine (KN.out _).mono ?_); rintro e wn ⟨rfl, hb⟩; replace U := Lib.hid (LA.out _ _ _ _ _ _ U.out hb); replace HB := Lib.hid (chain2 HB.out hb); clear hb)
      | (go_at_call 12; (with_reducible refine (J0.out _).mono ?_); rintro e wn ⟨rfl, hb⟩; replace U := Lib.hid (LA.out _ _ _ _ _ _ U.out hb); replace HB := Lib.hid (chain2 HB.out hb); clear hb)
      | (go_at_call 17; (with_reducible refine (S0.out _).mono ?_); rintro e wn ⟨rfl, hb⟩; replace U := Lib.hid (LA.out _ _ _ _ _ _ U.out hb); replace HB := Lib.hid (chain2 HB.out hb); clear hb)
      | (go_at_call 16; (with_reducible refine (L0.out _).mono ?_); rintro e wn ⟨rfl, hb⟩; replace U := Lib.hid (LA.out _ _ _ _ _ _ U.out hb); replace HB := Lib.hid (chain2 HB.out hb); clear hb)
      | (go_at_call 15; (with_reducible refine (M0.out _).mono ?_); rintro e wn ⟨rfl, hb⟩; replace U := Lib.hid (LA.out _ _ _ _ _ _ U.out hb); replace HB := Lib.hid (chain2 HB.out hb); clear hb)
      | (go_at_call 14; (with_reducible refine (G0.out _).mono ?_); rintro e wn ⟨⟨A0, c0, rfl⟩, hb⟩; replace U := Lib.hid (LA.out _ _ _ _ _ _ U.out hb); replace HB := Lib.hid (chain2 HB.out hb); clear hb)
      | (go_at_call 17; (with_reducible refine (ST.out p _ _ _ U.out).mono ?_); rintro e wn ⟨rfl, hu, ho⟩; replace HB := Lib.hid (below_off HB.out ho (Nat.le_refl _) HB.out.size); replace U := Lib.hid hu; clear hu ho)
      | (go_at_call 16; (with_reducible refine (LT.out p _ _ _ U.out).mono ?_); rintro e wn ⟨rfl, hu, ho⟩; replace HB := Lib.hid (below_off HB.out ho (Nat.le_refl _) HB.out.size); replace U := Lib.hid hu; clear hu ho)
      | (go_at_call 15; (with_reducible refine (MT.out p _ _ _ U.out).mono ?_); rintro e wn ⟨rfl, hu, ho⟩; replace HB := Lib.hid (below_off HB.out ho (Nat.le_refl _) HB.out.size); replace U := Lib.hid hu; clear hu ho)
      | (go_at_call 11; (with_reducible refine (NN.out _).mono ?_); rintro e wn ⟨q, rfl, hu, hb⟩; have lw := HB.out.size; have U2 := Lib.hid hu; have HB2 := Lib.hid (chain2 HB.out hb); clear hu hb)
      | (go_at_call 15; (with_reducible refine (MN.out q _ _ _ U2.out).mono ?_); rintro e wn ⟨rfl, hu, ho⟩; replace HB := Lib.hid (below_off HB2.out ho lw HB2.out.size); clear hu ho lw))
        go_ret
        exact ⟨rfl, HB.out⟩
end Go.Proofs.Ytoccgpkpmhkeiaa.Uni
