/- What the landed layer 3 does: how much there is. -/
import Derived.Test.YtekjbpdfginplaaInstE
import Derived.RegionTactic
import Derived.BigRegion
import Derived.Deep.DeepCutAuto
namespace Go.Proofs.Ytekjbpdfginplaa.Inst
open Go.RowKit

theorem low_any (a : ArcD) (p : Bool) (hp : (a.low != 0) = p) (w : World) :
    Calls Try.prog 42 #[aggV a] w fun e w' => e = .returned (.bool p) ∧ Below w.heap.size w w' := by
  obtain ⟨f, t, lo, ca, co⟩ := a
  simp only at hp
  go_enter Try.func42, Try.ntmps42
  go_wp2_with fail
  go_ret
  exact ⟨rfl, (Below.refl _ _).alloc (Nat.le_refl _) _⟩

/-- At the head of the loop of 'counted'. -/
def LowRel (w : World) (l : List ArcD) (s5 s10 : Value) (u : World) : Prop := ∃ k n : Nat, k ≤ l.length ∧ n = lows (l.take k) ∧ s5 = .int .i64 (n : Int) ∧ s10 = .int .i64 (k : Int) ∧ Below w.heap.size w u
set_option maxHeartbeats 1000000 in
theorem clow_any (a : Option Addr) (c : Nat) (l : List ArcD) (hl : l.length ≤ 17592186044416) (w : World) (ha : Cells w w.heap.size a (arcV l)) :
    Calls Try.prog 43 #[.slice a l.length c, .func (.func 42) #[] #[]] w fun e w' => e = .returned (.int .i64 (lows l : Int)) ∧ Below w.heap.size w w' := by
  have HA := Lib.hid ha
  clear ha
  go_enter Try.func43, Try.ntmps43
  go_wp2_with fail
  go_loopw [5, 10] (fun s t u => LowRel w l s t u) (fun _ t _ => l.length - (intOf t).toNat)
  case atStart => exact ⟨0, 0, by omega, rfl, rfl, rfl, Below.refl _ _⟩
  case round =>
    obtain ⟨k, n, hk, hn2, rfl, rfl, hb⟩ := hrel
    have HN := Lib.hid hn2
    have HB := Lib.hid hb
    have nb : n ≤ 17592186044416 := by
      have := lows_le (l.take k)
      rw [List.length_take] at this
      omega
    clear hn2 hb
    by_cases hlt : k < l.length
    · obtain ⟨b, off, ea, _, ca⟩ := arcs_at (HA.out.later (Nat.le_refl _) HB.out) (by omega)
      obtain ⟨x1, x2, x3, x4, x5⟩ := ca k hlt
      have E := Lib.hid (show lows (l.take (k + 1)) = lows (l.take k) + if l[k].low ≠ 0 then 1 else 0 by rw [List.take_succ_eq_append_getElem hlt, lows_snoc])
      have i0 : (0 : Int) ≤ (k : Int) := by omega
      have i1 : (k : Int) < (l.length : Int) := by omega
      obtain ⟨x, hx⟩ : ∃ x, x = l[k] := ⟨_, rfl⟩
      rw [← hx] at x1 x2 x3 x4 x5 E
      have EA := Lib.hid ea
      rw [EA.out]
      clear ca hx ea
      obtain ⟨p, hp⟩ : ∃ p, (x.low != 0) = p := ⟨_, rfl⟩
      have G := Lib.hid (fun w => low_any x p hp w)
      have HP := Lib.hid hp
      clear hp
      cases p with
      | true =>
        go_wp2_with (go_at_call 42; (with_reducible refine (G.out _).mono ?_); rintro e w1 ⟨rfl, hb1⟩)
        exact ⟨⟨k + 1, n + 1, by omega, by rw [E.out, if_pos (by simpa using HP.out), HN.out], by simp, by simp, chain2 (HB.out.alloc HB.out.size _) hb1⟩, by simp [intOf]; omega⟩
      | false =>
        go_wp2_with (go_at_call 42; (with_reducible refine (G.out _).mono ?_); rintro e w1 ⟨rfl, hb1⟩)
        exact ⟨⟨k + 1, n, by omega, by rw [E.out, if_neg (by simpa using HP.out), HN.out]; rfl, rfl, by simp, chain2 (HB.out.alloc HB.out.size _) hb1⟩, by simp [intOf]; omega⟩
    · obtain rfl : k = l.length := by omega
      have E : n = lows l := by have := HN.out; rw [List.take_length] at this; exact this
      subst E
      go_wp2_with fail
      go_ret
      exact ⟨rfl, HB.out⟩

theorem wrap_two {a b c : Int} (ha : 0 ≤ a ∧ a ≤ 17592186044416) (hb : 0 ≤ b ∧ b ≤ 17592186044416) (hc : 0 ≤ c ∧ c ≤ 17592186044416) : IntKind.i64.wrap (IntKind.i64.wrap (a + b) + c) = a + b + c := by
  simp only [IntKind.wrap_i64]
  omega
set_option maxHeartbeats 1000000 in
theorem span_any (A A2 : Option Addr) (c d : Nat) (I : InstD) (w : World) (h : InstIs w A A2 I) :
    Calls Try.prog 24 #[instV A c A2 d I] w fun e w' => e = .returned (.int .i64 (spanD I)) ∧ Below w.heap.size w w' := by
  have hn := h.n
  have hm := h.m
  have CL := Lib.hid (fun w' (hb : Below w.heap.size w w') => clow_any A2 d I.arcs h.m w' (h.later hb).arcs)
  have nb := lows_le I.arcs
  have HB0 := Lib.hid (show Below w.heap.size w (w.alloc (.cells #[.slice A I.sup.length c, .slice A2 I.arcs.length d] 25)) from (Below.refl _ _).alloc (Nat.le_refl _) _)
  have HS := Lib.hid (show spanD I = (I.sup.length : Int) + (I.arcs.length : Int) + (lows I.arcs : Int) from rfl)
  clear h
  go_enter Try.func24, Try.ntmps24
  go_upto_region 2 with fail
  go_cut [2] (fun s2 wx => s2 = .int .i64 (spanD I) ∧ Below w.heap.size w wx)
  case first =>
    go_region_with (go_at_call 43; (with_reducible refine (CL.out _ ?bb).mono ?_); (case bb => (repeat (first | exact Below.refl _ _ | refine Below.drew ?_ | refine Below.alloc ?_ (by simp <;> omega) _))); rintro e w1 ⟨rfl, hb1⟩; have HB1 := Lib.hid (chain2 (w := w) (by (repeat (first | exact Below.refl _ _ | refine Below.drew ?_ | refine Below.alloc ?_ (by simp <;> omega) _))) hb1); obtain ⟨bc, bf⟩ := bcell hb1; have bz := hb1.size; simp at bc; clear hb1)
    all_goals
      go_wp2_with fail
      go_meet
      case rel =>
        exact ⟨by rw [HS.out, wrap_two (by omega) (by omega) (by omega)], HB1.out⟩
  case rest =>
    obtain ⟨rfl, hb⟩ := hcut
    have HB := Lib.hid hb
    go_wp2_with fail
    go_ret
    exact ⟨rfl, HB.out⟩
end Go.Proofs.Ytekjbpdfginplaa.Inst
