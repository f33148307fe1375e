/- What the landed layer 3 does: the search for a number in a rising list. -/
import Derived.Test.YtekjbpdfginplaaInstLE
namespace Go.Proofs.Ytekjbpdfginplaa.Inst
open Go.RowKit

theorem isnan_any (x : Int) (w : World) : Calls Try.prog 55 #[.int .i64 x] w fun e w' => e = .returned (.bool false) ∧ w = w' := by
  have t : (x != x) = false := by simp
  go_enter Try.func55, Try.ntmps55
  go_wp2_with fail
  go_ret
  exact ⟨rfl, rfl⟩
theorem isnan2_any (x : Int) (w : World) : Calls Try.prog 54 #[.int .i64 x] w fun e w' => e = .returned (.bool false) ∧ w = w' := by
  have t : (x != x) = false := by simp
  go_enter Try.func54, Try.ntmps54
  go_wp2_with fail
  go_ret
  exact ⟨rfl, rfl⟩
theorem less_any (x y : Int) (p : Bool) (hp : decide (x < y) = p) (w : World) : Calls Try.prog 53 #[.int .i64 x, .int .i64 y] w fun e w' => e = .returned (.bool p) ∧ w = w' := by
  have N := Lib.hid (fun x w => isnan_any x w)
  subst hp
  by_cases h : x < y
  · have D := Lib.hid (show decide (x < y) = true from decide_eq_true h)
    go_enter Try.func53, Try.ntmps53
    go_wp2_with (go_at_call 55; refine (N.out _ _).mono ?_; rintro e w1 ⟨rfl, rfl⟩)
    go_ret
    exact ⟨by rw [D.out]; rfl, rfl⟩
  · have D := Lib.hid (show decide (x < y) = false from decide_eq_false h)
    go_enter Try.func53, Try.ntmps53
    go_wp2_with (go_at_call 55; refine (N.out _ _).mono ?_; rintro e w1 ⟨rfl, rfl⟩)
    go_ret
    exact ⟨by rw [D.out]; rfl, rfl⟩

/-- Rising. -/
def Rising (l : List Nat) : Prop := ∀ i j (hj : j < l.length) (hij : i < j), l[i] < l[j]
theorem keptN_rising (off : List Bool) (n : Nat) : Rising (keptN off n) := by
  have h : (keptN off n).Pairwise (· < ·) := List.Pairwise.filter _ List.pairwise_lt_range
  intro i j hj hij
  exact List.pairwise_iff_getElem.1 h i j (by omega) hj hij
/-- Between i and j, the place is. -/
structure Nar (l : List Nat) (x : Int) (i j : Nat) : Prop where
  ij : i ≤ j
  jn : j ≤ l.length
  lo : ∀ k (hk : k < l.length), k < i → (l[k] : Int) < x
  hi : ∀ k (hk : k < l.length), j ≤ k → x ≤ (l[k] : Int)
theorem Nar.up {l : List Nat} {x : Int} {i j h : Nat} (n : Nar l x i j) (hr : Rising l) (h1 : i ≤ h) (h2 : h < j) (hl : (l[h]'(by have := n.jn; omega) : Int) < x) : Nar l x (h + 1) j := by
  have := n.jn
  refine ⟨by omega, n.jn, fun k hk hkh => ?_, n.hi⟩
  by_cases e : k = h
  · subst e; exact hl
  · have := hr k h (by omega) (by omega)
    omega
theorem Nar.down {l : List Nat} {x : Int} {i j h : Nat} (n : Nar l x i j) (hr : Rising l) (h1 : i ≤ h) (h2 : h < j) (hl : x ≤ (l[h]'(by have := n.jn; omega) : Int)) : Nar l x i h := by
  have := n.jn
  refine ⟨by omega, by omega, n.lo, fun k hk hkh => ?_⟩
  by_cases e : k = h
  · subst e; exact hl
  · have := hr h k hk (by omega)
    omega
/-- What is told. -/
structure Found (l : List Nat) (x : Int) (i : Nat) (f : Bool) : Prop where
  is : f = decide (0 ≤ placeD l x)
  at_ : f = true → (i : Int) = placeD l x
  le : i ≤ l.length
theorem Nar.found {l : List Nat} {x : Int} {i : Nat} (n : Nar l x i i) (hi : i < l.length) (e : (l[i] : Int) = x) : Found l x i true := by
  have p : placeD l x = (i : Int) := by
    unfold placeD
    rw [placeF_take x l 0 i hi (fun k hk => by have := n.lo k (by omega) hk; omega) e, Nat.zero_add]
  exact ⟨by rw [p, decide_eq_true (by omega)], fun _ => p.symm, n.jn⟩
theorem Nar.none {l : List Nat} {x : Int} {i : Nat} (n : Nar l x i i) (hr : Rising l) (e : ∀ hi : i < l.length, (l[i] : Int) ≠ x) : Found l x i false := by
  have p : placeD l x = -1 := by
    refine placeF_none x l 0 (fun k hk => ?_)
    rcases Nat.lt_trichotomy k i with h | h | h
    · have := n.lo k hk h; omega
    · subst h; exact e hk
    · have h1 := hr i k hk h
      have h2 := n.hi i (by omega) (Nat.le_refl _)
      omega
  exact ⟨(by rw [p]; rfl), (fun h => by cases h), n.jn⟩
/-- What the search tells. -/
def Searched (l : List Nat) (x : Int) (w : World) (e : Ending) (w' : World) : Prop := ∃ (i : Nat) (f : Bool), e = .returned (.tuple #[.int .i64 (i : Int), .bool f]) ∧ Found l x i f ∧ w = w'
def SearchRel (l : List Nat) (x : Int) (s7 s8 : Value) : Prop := ∃ i j : Nat, s7 = .int .i64 (i : Int) ∧ s8 = .int .i64 (j : Int) ∧ Nar l x i j

set_option maxHeartbeats 2000000 in
theorem search_any (a : Option Addr) (c : Nat) (l : List Nat) (hl : l.length ≤ 1000) (hr : Rising l) (x : Int) (w : World) (ha : Cells w w.heap.size a (natV l)) :
    Calls Try.prog 52 #[.slice a l.length c, .int .i64 x] w (Searched l x w) := by
  have HA := Lib.hid ha
  have HR := Lib.hid hr
  have N := Lib.hid (fun x w => isnan2_any x w)
  clear ha hr
  go_enter Try.func52, Try.ntmps52
  go_wp2_with fail
  go_loop [7, 8] (fun s t => SearchRel l x s t) (fun s t => (intOf t).toNat - (intOf s).toNat)
  case atStart => exact ⟨0, l.length, rfl, rfl, ⟨by omega, Nat.le_refl _, fun k hk h => absurd h (by omega), fun k hk h => absurd hk (by omega)⟩⟩
  case round =>
    obtain ⟨i, j, rfl, rfl, hn⟩ := hrel
    have HN := Lib.hid hn
    have ij := hn.ij
    have jn := hn.jn
    clear hn
    by_cases hlt : i < j
    · have h1 : i ≤ (i + j) / 2 := by omega
      have h2 : (i + j) / 2 < j := by omega
      have h3 : (i + j) / 2 < l.length := by omega
      obtain ⟨b, o, ea, _, ca⟩ := nats_at HA.out (by omega)
      have c1 := ca ((i + j) / 2) h3
      have EA := Lib.hid ea
      rw [EA.out]
      clear ea ca
      obtain ⟨y, hy⟩ : ∃ y : Nat, y = l[(i + j) / 2] := ⟨_, rfl⟩
      rw [← hy] at c1
      have HY := Lib.hid hy
      clear hy
      obtain ⟨p, hp⟩ : ∃ p, decide ((y : Int) < x) = p := ⟨_, rfl⟩
      have L := Lib.hid (fun w => less_any (y : Int) x p hp w)
      have HP := Lib.hid hp
      clear hp
      cases p with
      | true =>
        have NN := Lib.hid (HN.out.up HR.out h1 h2 (by rw [← HY.out]; exact of_decide_eq_true HP.out))
        go_wp2_with (go_at_call 53; (with_reducible refine (L.out _).mono ?_); rintro e w1 ⟨rfl, rfl⟩)
        exact ⟨⟨(i + j) / 2 + 1, j, by simp, rfl, NN.out⟩, by simp [intOf]; omega⟩
      | false =>
        have NN := Lib.hid (HN.out.down HR.out h1 h2 (by rw [← HY.out]; have := of_decide_eq_false HP.out; omega))
        go_wp2_with (go_at_call 53; (with_reducible refine (L.out _).mono ?_); rintro e w1 ⟨rfl, rfl⟩)
        exact ⟨⟨i, (i + j) / 2, rfl, by simp, NN.out⟩, by simp [intOf]; omega⟩
    · obtain rfl : i = j := by omega
      by_cases hi : i < l.length
      · obtain ⟨b, o, ea, _, ca⟩ := nats_at HA.out (by omega)
        have c1 := ca i hi
        have EA := Lib.hid ea
        rw [EA.out]
        clear ea ca
        obtain ⟨y, hy⟩ : ∃ y : Nat, y = l[i] := ⟨_, rfl⟩
        rw [← hy] at c1
        have HY := Lib.hid hy
        clear hy
        by_cases e : (y : Int) = x
        · have t : ((y : Int) == x) = true := by simp [e]
          have E := Lib.hid e
          clear e
          go_wp2_with (go_at_call 54; refine (N.out _ _).mono ?_; rintro e w1 ⟨rfl, rfl⟩)
          go_ret2
          exact ⟨i, true, rfl, HN.out.found hi (by rw [← HY.out]; exact E.out), rfl⟩
        · have t : ((y : Int) == x) = false := by simp [e]
          have E := Lib.hid e
          clear e
          go_wp2_with (go_at_call 54; refine (N.out _ _).mono ?_; rintro e w1 ⟨rfl, rfl⟩)
          go_ret2
          exact ⟨i, false, rfl, HN.out.none HR.out (fun hi => by rw [← HY.out]; exact E.out), rfl⟩
      · have i1 : ¬ ((i : Int) < (l.length : Int)) := by omega
        go_wp2_with fail
        go_ret2
        exact ⟨i, false, rfl, HN.out.none HR.out (fun h => absurd h hi), rfl⟩
end Go.Proofs.Ytekjbpdfginplaa.Inst
