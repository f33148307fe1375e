/- What the landed layer 4 does: an arc's other end. -/
import Derived.Test.YtajckihgfelbaaaAdjL6
namespace Go.Proofs.Ytajckihgfelbaaa.Adj
open Go.RowKit Go.Shelf Go.Proofs.Ytajckihgfelbaaa.Inst
set_option maxRecDepth 100000

set_option maxHeartbeats 4000000 in
theorem other_v (q : Option Addr) (I : InstD) (a n : Int) (ha : I64 a) (w : World) (h : GrV w q I) : Calls Try.prog 93 #[.pointer q, .int .i64 a, .int .i64 n] w fun e w' => e = .returned (.int .i64 (otherD I a n)) ∧ Below w.heap.size w w' := by
  obtain ⟨x, hx⟩ : ∃ x, arcD I a = x := ⟨_, rfl⟩
  obtain ⟨f, hf⟩ : ∃ f, fitD I a = f := ⟨_, rfl⟩
  have AR := Lib.hid (arc_v q I a ha x f hx hf w h.half)
  obtain ⟨r, hr⟩ : ∃ r, otherD I a n = r := ⟨_, rfl⟩
  rw [hr]
  unfold otherD at hr
  rw [hf] at hr
  clear h
  cases f with
  | false =>
    have R := Lib.hid (show r = -1 by rw [← hr]; simp)
    clear hr hf hx
    go_enter Try.func93, Try.ntmps93
    go_wp2_with (go_at_call 65; (with_reducible refine AR.out.mono ?_); rintro e w1 ⟨rfl, hb⟩; have HB := Lib.hid hb; have hz := hb.size; clear hb)
    all_goals first
      | (go_ret; exact ⟨by rw [R.out]; rfl, HB.out.alloc hz _⟩)
      | (exfalso; simp_all [undef])
  | true =>
    have ex : x = arcAt I.arcs a.toNat := by rw [← hx]; unfold arcD; rw [hf]; rfl
    rw [← ex] at hr
    rw [if_neg (by simp)] at hr
    have HR := Lib.hid hr
    clear hr hf hx ex
    by_cases e1 : x.frm = n
    · have t1 : (x.frm == n) = true := by simp [e1]
      have R := Lib.hid (show r = x.to by rw [← HR.out, if_pos e1])
      clear e1
      go_enter Try.func93, Try.ntmps93
      go_wp2_with (go_at_call 65; (with_reducible refine AR.out.mono ?_); rintro e w1 ⟨rfl, hb⟩; have HB := Lib.hid hb; have hz := hb.size; clear hb)
      all_goals first
        | (go_ret; exact ⟨by rw [R.out]; rfl, HB.out.alloc hz _⟩)
        | (exfalso; simp_all [undef])
    · have t1 : (x.frm == n) = false := by simp [e1]
      by_cases e2 : x.to = n
      · have t2 : (x.to == n) = true := by simp [e2]
        have R := Lib.hid (show r = x.frm by rw [← HR.out, if_neg e1, if_pos e2])
        clear e1 e2
        go_enter Try.func93, Try.ntmps93
        go_wp2_with (go_at_call 65; (with_reducible refine AR.out.mono ?_); rintro e w1 ⟨rfl, hb⟩; have HB := Lib.hid hb; have hz := hb.size; clear hb)
        all_goals first
          | (go_ret; exact ⟨by rw [R.out]; rfl, HB.out.alloc hz _⟩)
          | (exfalso; simp_all [undef])
      · have t2 : (x.to == n) = false := by simp [e2]
        have R := Lib.hid (show r = -1 by rw [← HR.out, if_neg e1, if_neg e2])
        clear e1 e2
        go_enter Try.func93, Try.ntmps93
        go_wp2_with (go_at_call 65; (with_reducible refine AR.out.mono ?_); rintro e w1 ⟨rfl, hb⟩; have HB := Lib.hid hb; have hz := hb.size; clear hb)
        all_goals first
          | (go_ret; exact ⟨by rw [R.out]; rfl, HB.out.alloc hz _⟩)
          | (exfalso; simp_all [undef])
end Go.Proofs.Ytajckihgfelbaaa.Adj
