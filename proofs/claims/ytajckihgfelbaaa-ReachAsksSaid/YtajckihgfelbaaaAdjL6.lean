/- What the landed layer 4 does: arcs out of a node, into it, at it; loops; other ends. -/
import Derived.Test.YtajckihgfelbaaaAdjL5
namespace Go.Proofs.Ytajckihgfelbaaa.Adj
open Go.RowKit Go.Shelf Go.Proofs.Ytajckihgfelbaaa.Inst
set_option maxRecDepth 100000

theorem flt_atP (f : ArcD → Bool) (I : InstD) (n : Int) : flt f (atP I n) = (List.range I.arcs.length).filter fun a => f (arcAt I.arcs a) && (fitD I (a : Int) && touch true true n (arcAt I.arcs a)) := by
  unfold flt atP atD someD someN
  rw [List.filter_map, List.map_map, List.filter_filter]
  exact List.map_id' _
theorem flt_out (I : InstD) (n : Int) : flt (fun x => decide (x.frm = n)) (atP I n) = outD I n := by
  rw [flt_atP]
  unfold outD someD someN
  apply List.filter_congr
  intro a _
  unfold touch
  cases fitD I (a : Int) <;> cases decide ((arcAt I.arcs a).frm = n) <;> cases decide ((arcAt I.arcs a).to = n) <;> rfl
theorem flt_in (I : InstD) (n : Int) : flt (fun x => decide (x.to = n)) (atP I n) = inD I n := by
  rw [flt_atP]
  unfold inD someD someN
  apply List.filter_congr
  intro a _
  unfold touch
  cases fitD I (a : Int) <;> cases decide ((arcAt I.arcs a).frm = n) <;> cases decide ((arcAt I.arcs a).to = n) <;> rfl
theorem flt_at (I : InstD) (n : Int) : flt (fun _ => true) (atP I n) = atD I n := by
  rw [flt_atP]
  unfold atD someD someN
  apply List.filter_congr
  intro a _
  rw [Bool.true_and]
theorem flt_loops (I : InstD) (n : Int) : (flt (fun x => decide (x.frm = x.to)) (atP I n)).length = loopsD I n := by
  rw [flt_atP]
  unfold loopsD loopsN
  rw [List.countP_eq_length_filter]
  congr 1
  apply List.filter_congr
  intro a _
  unfold touch
  have e : (decide ((arcAt I.arcs a).frm = (arcAt I.arcs a).to) && (decide ((arcAt I.arcs a).frm = n) || decide ((arcAt I.arcs a).to = n))) = (decide ((arcAt I.arcs a).frm = n) && decide ((arcAt I.arcs a).to = n)) := by
    rw [← Bool.decide_or, ← Bool.decide_and, ← Bool.decide_and, decide_eq_decide]
    omega
  rw [← e]
  cases fitD I (a : Int) <;> simp

theorem out_v (q : Option Addr) (I : InstD) (n : Int) (hn : I64 n) (w : World) (h : GrV w q I) : Calls Try.prog 69 #[.pointer q, .int .i64 n] w (TellsNats (outD I n) w) := by
  obtain ⟨W1, hW1⟩ : ∃ W1, W1 = w.alloc (.cells #[.int .i64 n] 3) := ⟨_, rfl⟩
  have B1 := Lib.hid (show Below w.heap.size w W1 by rw [hW1]; exact (Below.refl _ _).alloc (Nat.le_refl _) _)
  have BB := show Blk W1 w.heap.size 3 #[.int .i64 n] by rw [hW1]; exact Blk.new _ _ _
  have TH := Lib.hid (callsIn_wide.1 (those_in q I n hn 97 #[.pointer (some ⟨w.heap.size, 0, none⟩)] _ W1 (h.later B1.out) (outpick _ n _ W1 BB) (enters_of Try.func97 (by kernel_rfl) rfl)))
  rw [flt_out] at TH
  have HW := Lib.hid hW1
  clear h hW1
  go_enter Try.func69, Try.ntmps69
  go_upto_region 1 with fail
  rw [← HW.out]
  have x0 := BB.cell 0
  have x1 := BB.lt
  simp at x0
  clear BB
  go_wp2_with (go_at_call 96; (with_reducible refine TH.out.mono ?_); rintro e w1 ⟨NA, cap, rfl, h1, h2, hb, ho⟩)
  go_ret
  exact ⟨NA, cap, rfl, h1, h2, chain2 B1.out hb, own_base ho B1.out.size⟩
theorem in_v (q : Option Addr) (I : InstD) (n : Int) (hn : I64 n) (w : World) (h : GrV w q I) : Calls Try.prog 70 #[.pointer q, .int .i64 n] w (TellsNats (inD I n) w) := by
  obtain ⟨W1, hW1⟩ : ∃ W1, W1 = w.alloc (.cells #[.int .i64 n] 3) := ⟨_, rfl⟩
  have B1 := Lib.hid (show Below w.heap.size w W1 by rw [hW1]; exact (Below.refl _ _).alloc (Nat.le_refl _) _)
  have BB := show Blk W1 w.heap.size 3 #[.int .i64 n] by rw [hW1]; exact Blk.new _ _ _
  have TH := Lib.hid (callsIn_wide.1 (those_in q I n hn 98 #[.pointer (some ⟨w.heap.size, 0, none⟩)] _ W1 (h.later B1.out) (inpick _ n _ W1 BB) (enters_of Try.func98 (by kernel_rfl) rfl)))
  rw [flt_in] at TH
  have HW := Lib.hid hW1
  clear h hW1
  go_enter Try.func70, Try.ntmps70
  go_upto_region 1 with fail
  rw [← HW.out]
  have x0 := BB.cell 0
  have x1 := BB.lt
  simp at x0
  clear BB
  go_wp2_with (go_at_call 96; (with_reducible refine TH.out.mono ?_); rintro e w1 ⟨NA, cap, rfl, h1, h2, hb, ho⟩)
  go_ret
  exact ⟨NA, cap, rfl, h1, h2, chain2 B1.out hb, own_base ho B1.out.size⟩
theorem at_v (q : Option Addr) (I : InstD) (n : Int) (hn : I64 n) (w : World) (h : GrV w q I) : Calls Try.prog 90 #[.pointer q, .int .i64 n] w (TellsNats (atD I n) w) := by
  have TH := Lib.hid (callsIn_wide.1 (those_in q I n hn 126 #[] _ w h (atpick w) (enters_of Try.func126 (by kernel_rfl) rfl)))
  rw [flt_at] at TH
  clear h
  go_enter Try.func90, Try.ntmps90
  go_wp2_with (go_at_call 96; (with_reducible refine TH.out.mono ?_); rintro e w1 ⟨NA, cap, rfl, h1, h2, hb, ho⟩)
  go_ret
  exact ⟨NA, cap, rfl, h1, h2, hb, ho⟩
end Go.Proofs.Ytajckihgfelbaaa.Adj
