/- Contracts of the document's answers for layer 5: least, same, new. -/
import Derived.Test.YtoccgpkpmhkeiaaUniB
namespace Go.Proofs.Ytoccgpkpmhkeiaa.Uni
open Go.RowKit Go.Proofs.Ytoccgpkpmhkeiaa.Inst

abbrev setV (A : Option Addr) (n c : Nat) : Value := .agg #[.slice A n c]
theorem least_eq {L : List Nat} {n : Nat} (hn : L.length = n) (a : Int) : leastL L a = if 0 ≤ a ∧ a < (n : Int) then ((L.getD a.toNat 0 : Nat) : Int) else -1 := by subst hn; rfl

set_option maxHeartbeats 1000000 in
theorem rleast_any (A : Option Addr) (c n : Nat) (L : List Nat) (hn : L.length = n) (a r : Int) (hr : leastL L a = r) (w : World) (h : Cells w w.heap.size A (natV L)) (h9 : n ≤ 100000) :
    Calls Try.prog 24 #[setV A n c, .int .i64 a] w fun e w' => e = .returned (.int .i64 r) ∧ Below w.heap.size w w' := by
  have F := least_eq hn a
  rw [hr] at F
  clear hr
  by_cases a0 : 0 ≤ a
  · by_cases a1 : a < (n : Int)
    · obtain ⟨k, rfl⟩ : ∃ k : Nat, a = k := ⟨a.toNat, by omega⟩
      rw [if_pos ⟨a0, a1⟩, Int.toNat_natCast] at F
      obtain ⟨b, off, ea, lb, hc⟩ := nats_at h (by omega)
      have c1 := hc k (by omega)
      have e : L.getD k 0 = L[k] := by rw [List.getD_eq_getElem?_getD, List.getElem?_eq_getElem (by omega)]; rfl
      rw [← e] at c1
      subst F ea
      generalize L.getD k 0 = x at c1
      clear h hc e
      go_enter Try.func24, Try.ntmps24
      go_wp2_with fail
      go_ret
      exact ⟨rfl, (Below.refl _ _).alloc (Nat.le_refl _) _⟩
    · rw [if_neg (by omega)] at F
      subst F
      clear h
      go_enter Try.func24, Try.ntmps24
      go_wp2_with fail
      go_ret
      exact ⟨rfl, (Below.refl _ _).alloc (Nat.le_refl _) _⟩
  · rw [if_neg (by omega)] at F
    subst F
    clear h
    go_enter Try.func24, Try.ntmps24
    go_wp2_with fail
    go_ret
    exact ⟨rfl, (Below.refl _ _).alloc (Nat.le_refl _) _⟩

/-- What holds in Same's region. -/
abbrev SR (W1 : World) (p : Nat) (A : Option Addr) (n c : Nat) (u : World) : Prop := u.cell? ⟨p, 0, none⟩ = some (.slice A n c) ∧ Below W1.heap.size W1 u
theorem SR.low {W1 u : World} {p : Nat} {A : Option Addr} {n c : Nat} (h : SR W1 p A n c u) : Below W1.heap.size W1 u := h.2
theorem keepR {W1 w w' : World} {p : Nat} {A : Option Addr} {n c : Nat} (hp : p < W1.heap.size) (h : SR W1 p A n c w) (hb : Below w.heap.size w w') : SR W1 p A n c w' := by
  have z := h.2.size
  exact ⟨(hb.cell (p := ⟨p, 0, none⟩) (by show p < _; omega)).trans h.1, chain2 h.2 hb⟩

set_option maxHeartbeats 4000000 in
theorem rsame_any (A : Option Addr) (c n : Nat) (L : List Nat) (hn : L.length = n) (a b : Int) (r : Bool) (hr : sameB L a b = r) (w : World) (h : Cells w w.heap.size A (natV L)) (h9 : n ≤ 100000) :
    Calls Try.prog 21 #[setV A n c, .int .i64 a, .int .i64 b] w fun e w' => e = .returned (.bool r) ∧ Below w.heap.size w w' := by
  obtain ⟨x, hx⟩ : ∃ x, leastL L a = x := ⟨_, rfl⟩
  obtain ⟨y, hy⟩ : ∃ y, leastL L b = y := ⟨_, rfl⟩
  have E : r = decide (0 ≤ x ∧ x = y) := by rw [← hr, ← hx, ← hy]; rfl
  obtain ⟨W1, hW1⟩ : ∃ W1, W1 = w.alloc (.cells #[.slice A n c] 40) := ⟨_, rfl⟩
  obtain ⟨p, hp⟩ : ∃ p, p = w.heap.size := ⟨_, rfl⟩
  have B1 := Lib.hid (show Below w.heap.size w W1 by rw [hW1]; exact (Below.refl _ _).alloc (Nat.le_refl _) _)
  have BX := Lib.hid (show Blk W1 p 40 #[.slice A n c] by rw [hW1]; exact blk_at hp.symm _ _)
  have HC := Lib.hid h
  have KA := Lib.hid (fun w' (q : Below W1.heap.size W1 w') => rleast_any A c n L hn a x hx w' (HC.out.later (Nat.le_refl _) (chain2 B1.out q)) h9)
  have KB := Lib.hid (fun w' (q : Below W1.heap.size W1 w') => rleast_any A c n L hn b y hy w' (HC.out.later (Nat.le_refl _) (chain2 B1.out q)) h9)
  have HW := Lib.hid hW1
  have HP := Lib.hid hp
  have EE := Lib.hid E
  have x0 := BX.out.cell 0
  have x2 := BX.out.lt
  simp at x0
  clear hW1 hp h hr hx hy E
  by_cases c0 : 0 ≤ x
  · have d0 : decide (0 ≤ x) = true := decide_eq_true c0
    go_enter Try.func21, Try.ntmps21
    go_upto_region 1 with fail
    rw [← HW.out, ← HP.out]
    go_region_held3 (fun u => u.cell? ⟨p, 0, none⟩ = some (.slice A n c) ∧ Below W1.heap.size W1 u)
      (first | exact ⟨x0, (Below.refl _ _).drew⟩ | exact keepR x2 (by assumption) hb | exact keepR x2 ⟨x0, (Below.refl _ _).drew⟩ hb)
      (first
        | (go_at_call 24; (with_reducible refine (KA.out _ (SR.low ⟨x0, (Below.refl _ _).drew⟩)).mono ?_); rintro e wa ⟨rfl, hb⟩)
        | (go_at_call 24; (with_reducible refine (KA.out _ (SR.low (by assumption))).mono ?_); rintro e wa ⟨rfl, hb⟩)
        | (go_at_call 24; (with_reducible refine (KB.out _ (SR.low (by assumption))).mono ?_); rintro e wb ⟨rfl, hb⟩))
    all_goals
      rename_i hs
      have H9 := Lib.hid (SR.low hs)
      clear hs
      go_wp2_with fail
      go_ret
      exact ⟨by rw [EE.out]; simp [c0]; try rfl, chain2 B1.out H9.out⟩
  · have d0 : decide (0 ≤ x) = false := decide_eq_false c0
    go_enter Try.func21, Try.ntmps21
    go_upto_region 1 with fail
    rw [← HW.out, ← HP.out]
    first
      | (go_region_with (go_at_call 24; (with_reducible refine (KA.out _ (Below.refl _ _).drew).mono ?_); rintro e wa ⟨rfl, hb⟩; have HB := Lib.hid hb; have x1 := (hb.cell (p := ⟨p, 0, none⟩) x2).trans x0; clear hb))
      | fail
    all_goals
      have H9 := Lib.hid (show Below W1.heap.size W1 wa from (Below.refl W1.heap.size W1).drew.trans HB.out)
      go_wp2_with fail
      go_ret
      exact ⟨by rw [EE.out, decide_eq_false (fun q => absurd q.1 (by omega))]; rfl, chain2 B1.out H9.out⟩
end Go.Proofs.Ytoccgpkpmhkeiaa.Uni
