/- Contracts of the document's answers for layer 3: how much there is; the same instances. -/
import Derived.Test.YtekjbpdfginplaaInstB
namespace Go.Proofs.Ytekjbpdfginplaa.Inst
open Go.RowKit

/-- An instance's value; what its slices hold. -/
abbrev instV (A : Option Addr) (c : Nat) (A2 : Option Addr) (d : Nat) (I : InstD) : Value := .agg #[.slice A I.sup.length c, .slice A2 I.arcs.length d]
structure InstIs (w : World) (A A2 : Option Addr) (I : InstD) : Prop where
  n : I.sup.length ≤ 17592186044416
  m : I.arcs.length ≤ 17592186044416
  sup : Cells w w.heap.size A (numV I.sup)
  arcs : Cells w w.heap.size A2 (arcV I.arcs)
theorem InstIs.later {w w' : World} {A A2 : Option Addr} {I : InstD} (h : InstIs w A A2 I) (hb : Below w.heap.size w w') : InstIs w' A A2 I :=
  ⟨h.n, h.m, h.sup.later (Nat.le_refl _) hb, h.arcs.later (Nat.le_refl _) hb⟩

/-- What holds at the head of Span's loop. -/
def SpanRel (I : InstD) (s2 s3 : Value) : Prop := ∃ k n : Nat, k ≤ I.arcs.length ∧ n = I.sup.length + I.arcs.length + lows (I.arcs.take k) ∧ s2 = .int .i64 (n : Int) ∧ s3 = .int .i64 (k : Int)

set_option maxHeartbeats 1000000 in
theorem rspan_any (A A2 : Option Addr) (c d : Nat) (I : InstD) (w : World) (h : InstIs w A A2 I) :
    Calls Try.prog 28 #[instV A c A2 d I] w fun e w' => e = .returned (.int .i64 (spanD I)) ∧ Below w.heap.size w w' := by
  have hn := h.n
  have hm := h.m
  have HA := Lib.hid (h.arcs)
  clear h
  go_enter Try.func28, Try.ntmps28
  go_wp2_with fail
  go_loop [3, 4] (fun s t => SpanRel I s t) (fun _ t => I.arcs.length - (intOf t).toNat)
  case atStart => exact ⟨0, I.sup.length + I.arcs.length, by omega, by simp [lows], by simp, rfl⟩
  case round =>
    obtain ⟨k, n, hk, hn2, rfl, rfl⟩ := hrel
    have HN := Lib.hid hn2
    have nb : n ≤ 52776558133248 := by
      have := lows_le (I.arcs.take k)
      rw [List.length_take] at this
      omega
    clear hn2
    by_cases hlt : k < I.arcs.length
    · obtain ⟨b, off, ea, hb, ca⟩ := arcs_at HA.out (by omega)
      have c1 := (ca k hlt).2.2.1
      have EA := Lib.hid ea
      rw [EA.out]
      have E := Lib.hid (show lows (I.arcs.take (k + 1)) = lows (I.arcs.take k) + if I.arcs[k].low ≠ 0 then 1 else 0 by rw [List.take_succ_eq_append_getElem hlt, lows_snoc])
      obtain ⟨x, hx⟩ : ∃ x, x = I.arcs[k].low := ⟨_, rfl⟩
      rw [← hx] at c1 E
      clear ca ea hx
      by_cases z : x = 0
      · have t1 : (x != 0) = false := by simp [z]
        have HZ := Lib.hid z
        clear z
        go_wp2_with fail
        exact ⟨⟨k + 1, n, by omega, by rw [E.out, if_neg (by simpa using HZ.out), HN.out]; rfl, rfl, by simp⟩, by simp [intOf]; omega⟩
      · have t1 : (x != 0) = true := by simp [z]
        have HZ := Lib.hid z
        clear z
        go_wp2_with fail
        exact ⟨⟨k + 1, n + 1, by omega, by rw [E.out, if_pos HZ.out, HN.out]; omega, by simp, by simp⟩, by simp [intOf]; omega⟩
    · obtain rfl : k = I.arcs.length := by omega
      have E : spanD I = (n : Int) := by have := HN.out; rw [List.take_length] at this; unfold spanD; omega
      go_wp2_with fail
      go_ret
      exact ⟨rfl, (Below.refl _ _).alloc (Nat.le_refl _) _⟩
end Go.Proofs.Ytekjbpdfginplaa.Inst
