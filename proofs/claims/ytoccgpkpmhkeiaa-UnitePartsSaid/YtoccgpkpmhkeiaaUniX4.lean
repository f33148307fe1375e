/- The landed sets: the least one of any number, joins, are two of one group? -/
import Derived.Test.YtoccgpkpmhkeiaaUniX3
namespace Go.Proofs.Ytoccgpkpmhkeiaa.Uni
open Go.RowKit Go.Proofs.Ytoccgpkpmhkeiaa.Inst
set_option linter.unusedVariables false

/-- Sets whose list lies at A. -/
def WU (w : World) (b lo hi : Nat) (L : List Nat) (A : Option Addr) (n c : Nat) : Prop := ∃ N, UnW w b lo hi N L A n c
theorem WU.un {w : World} {b lo hi n c : Nat} {L : List Nat} {A : Option Addr} (h : WU w b lo hi L A n c) : UnX w b lo hi L := by
  obtain ⟨N, h⟩ := h
  exact ⟨N, A, n, c, h⟩
theorem WU.later {w u : World} {b lo hi n c : Nat} {L : List Nat} {A : Option Addr} (h : WU w b lo hi L A n c) (hb : Below w.heap.size w u) : WU u b lo hi L A n c := by
  obtain ⟨N, h⟩ := h
  exact ⟨N, h.later hb⟩
theorem least_any {b lo hi n c : Nat} {L : List Nat} {A : Option Addr} (a r : Int) (ha : I64 a) (hr : leastL L a = r) (w : World) (h : WU w b lo hi L A n c) :
    Calls Try.prog 16 #[obj b, .int .i64 a] w fun e w' => e = .returned (.int .i64 r) ∧ WU w' b lo hi L A n c ∧ Off lo hi w w' := by
  obtain ⟨N, h⟩ := h
  by_cases hc : 0 ≤ a ∧ a < (n : Int)
  · obtain ⟨k, rfl⟩ : ∃ k : Nat, a = k := ⟨a.toNat, by omega⟩
    have hk : k < n := by omega
    have e : leastL L (k : Int) = ((L.getD k 0 : Nat) : Int) := leastL_nat (by rw [h.len]; exact hk)
    refine (least_in_any k (L.getD k 0) hk rfl w h).mono ?_
    rintro e' w' ⟨rfl, hN, ho⟩
    exact ⟨by rw [← hr, e], hN, ho⟩
  · have e : leastL L a = -1 := least_out (by rw [h.len]; exact hc)
    refine (least_off a ha w h hc).mono ?_
    rintro e' w' ⟨rfl, rfl⟩
    exact ⟨by rw [← hr, e], ⟨N, h⟩, Off.refl _ _ _⟩

theorem join0_any (x y : Int) (w : World) (hx : I64 x) (hy : I64 y) : Calls Try.prog 12 #[.pointer none, .int .i64 x, .int .i64 y] w fun e w' => e = .returned (.bool false) ∧ Below w.heap.size w w' := by
  have K := Lib.hid (fun w => least0_any x hx w)
  have K2 := Lib.hid (fun w => least0_any y hy w)
  clear hx hy
  go_enter Try.func12, Try.ntmps12
  go_wp2_with (first
    | (go_at_call 16; (with_reducible refine (K.out _).mono ?_); rintro e wn ⟨rfl, rfl⟩)
    | (go_at_call 16; (with_reducible refine (K2.out _).mono ?_); rintro e wn ⟨rfl, rfl⟩))
  go_ret
  exact ⟨rfl, Below.refl _ _⟩
theorem same0_any (x y : Int) (w : World) (hx : I64 x) (hy : I64 y) : Calls Try.prog 17 #[.pointer none, .int .i64 x, .int .i64 y] w fun e w' => e = .returned (.bool false) ∧ Below w.heap.size w w' := by
  have K := Lib.hid (fun w => least0_any x hx w)
  clear hx hy
  go_enter Try.func17, Try.ntmps17
  go_wp2_with (first
    | (go_at_call 16; (with_reducible refine (K.out _).mono ?_); rintro e wn ⟨rfl, rfl⟩))
  go_ret
  exact ⟨rfl, Below.refl _ _⟩

set_option maxHeartbeats 1000000 in
theorem same_any {b lo hi n c : Nat} {L : List Nat} {A : Option Addr} (x y : Int) (hx : I64 x) (hy : I64 y) (w : World) (h : WU w b lo hi L A n c) :
    Calls Try.prog 17 #[obj b, .int .i64 x, .int .i64 y] w fun e w' => e = .returned (.bool (sameB L x y)) ∧ WU w' b lo hi L A n c ∧ Off lo hi w w' := by
  obtain ⟨p, hp⟩ : ∃ p, leastL L x = p := ⟨_, rfl⟩
  obtain ⟨q, hq⟩ : ∃ q, leastL L y = q := ⟨_, rfl⟩
  have E := Lib.hid (show sameB L x y = decide (0 ≤ p ∧ p = q) by rw [← hp, ← hq]; rfl)
  have K := Lib.hid (least_any x p hx hp w h)
  have K2 := Lib.hid (fun w' h' => least_any (b := b) (lo := lo) (hi := hi) (n := n) (c := c) (A := A) y q hy hq w' h')
  clear h hp hq hx hy
  by_cases c0 : 0 ≤ p
  · go_enter Try.func17, Try.ntmps17
    go_wp2_with (first
      | (go_at_call 16; (with_reducible refine K.out.mono ?_); rintro e w1 ⟨rfl, hu, ho⟩; have U1 := Lib.hid hu; have O1 := Lib.hid ho; clear hu ho)
      | (go_at_call 16; (with_reducible refine (K2.out _ U1.out).mono ?_); rintro e w2 ⟨rfl, hu, ho⟩; have U2 := Lib.hid hu; have O2 := Lib.hid ho; clear hu ho))
    go_ret
    exact ⟨by rw [E.out]; simp [c0]; try rfl, U2.out, O1.out.trans O2.out⟩
  · go_enter Try.func17, Try.ntmps17
    go_wp2_with (first
      | (go_at_call 16; (with_reducible refine K.out.mono ?_); rintro e w1 ⟨rfl, hu, ho⟩; have U1 := Lib.hid hu; have O1 := Lib.hid ho; clear hu ho))
    go_ret
    exact ⟨by rw [E.out, decide_eq_false (fun h => by omega)]; rfl, U1.out, O1.out⟩

set_option maxHeartbeats 1000000 in
theorem join_no {b lo hi n c : Nat} {L : List Nat} {A : Option Addr} (x y : Int) (hx : I64 x) (hy : I64 y) (w : World) (h : WU w b lo hi L A n c) (hj : joinB L x y = false) :
    Calls Try.prog 12 #[obj b, .int .i64 x, .int .i64 y] w fun e w' => e = .returned (.bool false) ∧ WU w' b lo hi L A n c ∧ Off lo hi w w' := by
  obtain ⟨p, hp⟩ : ∃ p, leastL L x = p := ⟨_, rfl⟩
  obtain ⟨q, hq⟩ : ∃ q, leastL L y = q := ⟨_, rfl⟩
  have E : ¬ (0 ≤ p ∧ 0 ≤ q ∧ p ≠ q) := by
    unfold joinB at hj
    rw [hp, hq] at hj
    exact of_decide_eq_false hj
  have K := Lib.hid (least_any x p hx hp w h)
  have K2 := Lib.hid (fun w' h' => least_any (b := b) (lo := lo) (hi := hi) (n := n) (c := c) (A := A) y q hy hq w' h')
  clear h hp hq hx hy hj
  by_cases c1 : p < 0
  · clear E
    go_enter Try.func12, Try.ntmps12
    go_wp2_with (first
      | (go_at_call 16; (with_reducible refine K.out.mono ?_); rintro e w1 ⟨rfl, hu, ho⟩; have U1 := Lib.hid hu; have O1 := Lib.hid ho; clear hu ho)
      | (go_at_call 16; (with_reducible refine (K2.out _ U1.out).mono ?_); rintro e w2 ⟨rfl, hu, ho⟩; have U2 := Lib.hid hu; have O2 := Lib.hid ho; clear hu ho))
    go_ret
    exact ⟨rfl, U2.out, O1.out.trans O2.out⟩
  · by_cases c2 : q < 0
    · clear E
      go_enter Try.func12, Try.ntmps12
      go_wp2_with (first
        | (go_at_call 16; (with_reducible refine K.out.mono ?_); rintro e w1 ⟨rfl, hu, ho⟩; have U1 := Lib.hid hu; have O1 := Lib.hid ho; clear hu ho)
        | (go_at_call 16; (with_reducible refine (K2.out _ U1.out).mono ?_); rintro e w2 ⟨rfl, hu, ho⟩; have U2 := Lib.hid hu; have O2 := Lib.hid ho; clear hu ho))
      go_ret
      exact ⟨rfl, U2.out, O1.out.trans O2.out⟩
    · have e : p = q := by omega
      subst e
      have t0 : (p == p) = true := by simp
      clear E c2
      go_enter Try.func12, Try.ntmps12
      go_wp2_with (first
        | (go_at_call 16; (with_reducible refine K.out.mono ?_); rintro e w1 ⟨rfl, hu, ho⟩; have U1 := Lib.hid hu; have O1 := Lib.hid ho; clear hu ho)
        | (go_at_call 16; (with_reducible refine (K2.out _ U1.out).mono ?_); rintro e w2 ⟨rfl, hu, ho⟩; have U2 := Lib.hid hu; have O2 := Lib.hid ho; clear hu ho))
      go_ret
      exact ⟨rfl, U2.out, O1.out.trans O2.out⟩

set_option maxHeartbeats 2000000 in
theorem join_yes {b lo hi n c : Nat} {L : List Nat} {A : Option Addr} (x y : Int) (hx : I64 x) (hy : I64 y) (w : World) (h : WU w b lo hi L A n c) (hj : joinB L x y = true) :
    Calls Try.prog 12 #[obj b, .int .i64 x, .int .i64 y] w fun e w' => e = .returned (.bool true) ∧ WU w' b lo hi (joinL L x y) A n c ∧ Off lo hi w w' := by
  have hc : Canon L := by obtain ⟨N, h⟩ := h; exact h.canon
  have hl : L.length = n := by obtain ⟨N, h⟩ := h; exact h.len
  have E : 0 ≤ leastL L x ∧ 0 ≤ leastL L y ∧ leastL L x ≠ leastL L y := of_decide_eq_true hj
  have J : joinL L x y = mergeL L (leastL L x).toNat (leastL L y).toNat := by unfold joinL; rw [if_pos hj]
  have hc2 := canon_join hc x y
  have hl2 := join_length L x y
  obtain ⟨i, -, li, ei⟩ := least_in E.1
  obtain ⟨j, -, lj, ej⟩ := least_in E.2.1
  have K := Lib.hid (least_any x _ hx ei w h)
  have K2 := Lib.hid (fun w' h' => least_any (b := b) (lo := lo) (hi := hi) (n := n) (c := c) (A := A) y _ hy ej w' h')
  rw [ei, ej] at E J
  rw [Int.toNat_natCast, Int.toNat_natCast] at J
  have rp := hc.idem i li
  have rq := hc.idem j lj
  have pl := root_lt hc li
  have ql := root_lt hc lj
  obtain ⟨p, hp⟩ : ∃ p, L.getD i 0 = p := ⟨_, rfl⟩
  obtain ⟨q, hq⟩ : ∃ q, L.getD j 0 = q := ⟨_, rfl⟩
  rw [hp] at K E J rp pl
  rw [hq] at K2 E J rq ql
  have hne : p ≠ q := by omega
  have n9 : n ≤ 1000 := by obtain ⟨N, h⟩ := h; rw [← hl]; exact h.few
  obtain ⟨m, hm⟩ : ∃ m, max p q = m := ⟨_, rfl⟩
  obtain ⟨z, hz⟩ : ∃ z, min p q = z := ⟨_, rfl⟩
  have FIN := Lib.hid (show ∀ (g : Nat) (N : List Nat) (w' : World), UnW w' b lo hi N L (some ⟨g, 0, none⟩) n c → UnW (w'.setCell ⟨g, m, none⟩ (.int .i64 (z : Int))) b lo hi (N.set m z) (joinL L x y) (some ⟨g, 0, none⟩) n c ∧ Off lo hi w' (w'.setCell ⟨g, m, none⟩ (.int .i64 (z : Int))) from by
    intro g N w' h'
    refine h'.put m z rfl ?_ hc2 (by rw [hl2]; exact hl)
    rw [J, ← hm, ← hz]
    exact h'.ways.join pl ql rp rq hne)
  have t0 : ((p : Int) == (q : Int)) = false := by simp; omega
  have lm : m < n := by omega
  have m0 : (0 : Int) ≤ (m : Int) := by omega
  have m1 : (m : Int) < (n : Int) := by omega
  have HM := Lib.hid hm
  have HZ := Lib.hid hz
  clear h hp hq hx hy hj E J hc hl hc2 hl2 ei ej rp rq hm hz
  go_enter Try.func12, Try.ntmps12
  go_upto_region 4 with (first
    | (go_at_call 16; (with_reducible refine K.out.mono ?_); rintro e w1 ⟨rfl, hu, ho⟩; have U1 := Lib.hid hu; have O1 := Lib.hid ho; clear hu ho)
    | (go_at_call 16; (with_reducible refine (K2.out _ U1.out).mono ?_); rintro e w2 ⟨rfl, hu, ho⟩; have U2 := Lib.hid hu; have O2 := Lib.hid ho; clear hu ho))
  obtain ⟨N, hu⟩ := U2.out
  have x0 := hu.blk.cell 0
  have x2 := hu.blk.lt
  simp at x0
  obtain ⟨g, ea, lg, hc, hf⟩ := hu.row_at (by omega)
  have c1 := hc m lm
  have f1 := hf m
  obtain ⟨M, hM⟩ : ∃ M, N.getD m 0 = M := ⟨_, rfl⟩
  rw [hM] at c1
  subst ea
  obtain ⟨hv, hof⟩ := FIN.out g N w2 hu
  have U3 := Lib.hid (show WU (w2.setCell ⟨g, m, none⟩ (.int .i64 (z : Int))) b lo hi (joinL L x y) (some ⟨g, 0, none⟩) n c from ⟨_, hv⟩)
  have O3 := Lib.hid hof
  clear hu hc hf hM hv hof FIN
  rcases Nat.lt_or_gt_of_ne hne with d | d
  · have e1 : m = q := by have := HM.out; omega
    have e2 : z = p := by have := HZ.out; omega
    subst e1 e2
    have d1 : ¬ (m : Int) < (z : Int) := by omega
    have d2 : (z : Int) < (m : Int) := by omega
    clear d hne
    go_wp2_with fail
    go_ret
    exact ⟨rfl, U3.out, (O1.out.trans O2.out).trans O3.out⟩
  · have e1 : m = p := by have := HM.out; omega
    have e2 : z = q := by have := HZ.out; omega
    subst e1 e2
    have d1 : ¬ (m : Int) < (z : Int) := by omega
    have d2 : (z : Int) < (m : Int) := by omega
    clear d hne
    go_wp2_with fail
    go_ret
    exact ⟨rfl, U3.out, (O1.out.trans O2.out).trans O3.out⟩
theorem join_any {b lo hi n c : Nat} {L : List Nat} {A : Option Addr} (x y : Int) (hx : I64 x) (hy : I64 y) (w : World) (h : WU w b lo hi L A n c) :
    Calls Try.prog 12 #[obj b, .int .i64 x, .int .i64 y] w fun e w' => e = .returned (.bool (joinB L x y)) ∧ WU w' b lo hi (joinL L x y) A n c ∧ Off lo hi w w' := by
  cases hj : joinB L x y with
  | false =>
    have e : joinL L x y = L := by unfold joinL; rw [if_neg (by rw [hj]; exact Bool.false_ne_true)]
    rw [e]
    exact join_no x y hx hy w h hj
  | true => exact join_yes x y hx hy w h hj
end Go.Proofs.Ytoccgpkpmhkeiaa.Uni
