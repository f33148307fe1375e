/- Contracts of the document's answers for layer 3: the same numbers. -/
import Derived.Test.YtajckihgfelbaaaInstA
namespace Go.Proofs.Ytajckihgfelbaaa.Inst
open Go.RowKit

theorem same_step {α : Type} (xs ys : List α) (k : Nat) (h : k < xs.length) (h2 : k < ys.length) (e : xs.take k = ys.take k) (q : xs[k] = ys[k]) : xs.take (k + 1) = ys.take (k + 1) := by
  rw [List.take_succ_eq_append_getElem h, List.take_succ_eq_append_getElem h2, e, q]
/-- What holds at the head of a loop that holds two lists against each other. -/
def SameRel {α : Type} (w : World) (xs ys : List α) (s : Value) (u : World) : Prop :=
  ∃ k m : Nat, k ≤ xs.length ∧ s = .int .i64 (k : Int) ∧ xs.take k = ys.take k ∧ u = w.drewN m

theorem rints_len (a b : Option Addr) (n m c d : Nat) (h : n ≠ m) (w : World) :
    Calls Try.prog 16 #[.slice a n c, .slice b m d] w fun e w' => e = .returned (.bool false) ∧ Below w.heap.size w w' := by
  have h1 : ((n : Int) != (m : Int)) = true := by simp; omega
  go_enter Try.func16, Try.ntmps16
  go_wp2_with fail
  go_ret
  exact ⟨rfl, Below.refl _ _⟩
set_option maxHeartbeats 1000000 in
theorem rints_eqlen (a b : Option Addr) (xs ys : List Int) (c d : Nat) (hn : xs.length ≤ maxLen) (h : xs.length = ys.length) (w : World) (ha : Cells w w.heap.size a (numV xs)) (hb : Cells w w.heap.size b (numV ys)) :
    Calls Try.prog 16 #[.slice a xs.length c, .slice b xs.length d] w fun e w' => e = .returned (.bool (decide (xs = ys))) ∧ Below w.heap.size w w' := by
  unfold maxLen at hn
  have HA := Lib.hid ha
  have HB := Lib.hid hb
  have HL := Lib.hid h
  have h1 : ((xs.length : Int) != (xs.length : Int)) = false := by simp
  clear ha hb h
  go_enter Try.func16, Try.ntmps16
  go_wp2_with fail
  go_loopw [5] (fun q u => SameRel w xs ys q u) (fun q _ => xs.length - (intOf q).toNat)
  case atStart => exact ⟨0, 0, by omega, rfl, by simp, rfl⟩
  case round =>
    obtain ⟨k, m, hk, rfl, ht, rfl⟩ := hrel
    have HT := Lib.hid ht
    clear ht
    by_cases hlt : k < xs.length
    · have hlt2 : k < ys.length := by have := HL.out; omega
      obtain ⟨ba, oa, ea, _, ca⟩ := nums_at HA.out (by omega)
      obtain ⟨bb, ob, eb, _, cb⟩ := nums_at HB.out (by omega)
      have c1 := ca k hlt
      have c2 := cb k hlt2
      have EA := Lib.hid ea
      have EB := Lib.hid eb
      rw [EA.out, EB.out]
      have i0 : (0 : Int) ≤ (k : Int) := by omega
      have i1 : (k : Int) < (xs.length : Int) := by omega
      obtain ⟨x, hx⟩ : ∃ x, x = xs[k] := ⟨_, rfl⟩
      obtain ⟨y, hy⟩ : ∃ y, y = ys[k] := ⟨_, rfl⟩
      rw [← hx] at c1
      rw [← hy] at c2
      have HX := Lib.hid hx
      have HY := Lib.hid hy
      clear ca cb ea eb hx hy
      by_cases e : x = y
      · have t : (x != y) = false := by simp [e]
        have HE := Lib.hid e
        clear e
        go_wp2_with fail
        go_quiet (fail)
        go_wp2_with fail
        have E := same_step xs ys k hlt hlt2 HT.out (HX.out.symm.trans (HE.out.trans HY.out))
        exact ⟨⟨k + 1, _, by omega, by simp, E, rfl⟩, by simp [intOf]; omega⟩
      · have t : (x != y) = true := by simp [e]
        have D := Lib.hid (show decide (xs = ys) = false by
          apply decide_eq_false
          intro hq
          apply e
          rw [HX.out, HY.out]
          simp [hq])
        clear e
        go_wp2_with fail
        go_quiet (fail)
        go_wp2_with fail
        go_ret
        exact ⟨by rw [D.out]; rfl, below_drewN (below_drewN (Below.refl _ _) _) _⟩
    · obtain rfl : k = xs.length := by omega
      have D := Lib.hid (show decide (xs = ys) = true by
        apply decide_eq_true
        have q := HT.out
        rw [List.take_length, HL.out, List.take_length] at q
        exact q)
      go_wp2_with fail
      go_ret
      exact ⟨by rw [D.out]; rfl, below_drewN (Below.refl _ _) _⟩
/-- Ints. -/
theorem rints_any (a b : Option Addr) (xs ys : List Int) (n m c d : Nat) (hn : xs.length = n) (hm : ys.length = m) (hx : xs.length ≤ maxLen) (w : World) (ha : Cells w w.heap.size a (numV xs)) (hb : Cells w w.heap.size b (numV ys)) :
    Calls Try.prog 16 #[.slice a n c, .slice b m d] w fun e w' => e = .returned (.bool (decide (xs = ys))) ∧ Below w.heap.size w w' := by
  subst hn hm
  by_cases h : xs.length = ys.length
  · have q := rints_eqlen a b xs ys c d hx h w ha hb
    rw [← h]
    exact q
  · rw [show decide (xs = ys) = false from decide_eq_false (fun e => h (by rw [e]))]
    exact rints_len a b _ _ c d h w
end Go.Proofs.Ytajckihgfelbaaa.Inst
