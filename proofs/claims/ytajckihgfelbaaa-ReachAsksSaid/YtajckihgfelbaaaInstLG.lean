/- What the landed layer 3 does: Copy. -/
import Derived.Test.YtajckihgfelbaaaInstLF
namespace Go.Proofs.Ytajckihgfelbaaa.Inst
open Go.RowKit

theorem size_instc : (Try.prog.info? 25).map (·.size) = some 2 := by kernel_rfl
/-- What a copy is. -/
structure Copied (w u : World) (v1 v2 : Value) (n m : Nat) (I : InstD) : Prop where
  sup : u.ownsRow w.heap.size 2 1 v1 n (numV I.sup)
  arcs : u.ownsRow w.heap.size 36 5 v2 m (arcV I.arcs)
  below : Below w.heap.size w u

theorem copied_mk {w W w1 w2 : World} {v1 v2 : Value} {n m : Nat} {I : InstD} (hs : W.heap.size = w.heap.size + 1 + 1) (h0 : Below w.heap.size w W) (h1 : Below W.heap.size W w1) (o1 : w1.ownsRow W.heap.size 2 1 v1 n (numV I.sup))
    (h2 : Below w1.heap.size w1 w2) (o2 : w2.ownsRow w1.heap.size 36 5 v2 m (arcV I.arcs)) : Copied w ((w2.setCell ⟨w.heap.size + 1, 0, none⟩ v1).setCell ⟨w.heap.size + 1, 1, none⟩ v2) v1 v2 n m I := by
  have z1 := h1.size
  have p1 := own_later o1 h2
  have f1 : v1.ownBlock ≠ some (w.heap.size + 1) := fun e => by have := own_ge o1 _ e; omega
  have f2 : v2.ownBlock ≠ some (w.heap.size + 1) := fun e => by have := own_ge o2 _ e; omega
  refine ⟨own_far (own_far (own_base p1 (by omega)) f1 _) f1 _, own_far (own_far (own_base o2 (by omega)) f2 _) f2 _, ?_⟩
  exact ((chain2 (chain2 h0 h1) h2).setCell (by simp <;> omega) _).setCell (by simp <;> omega) _

set_option maxHeartbeats 4000000 in
theorem copy_any (A A2 : Option Addr) (c d : Nat) (I : InstD) (n m : Nat) (hn : I.sup.length = n) (hm : I.arcs.length = m) (h1 : n ≤ 1000) (h2 : m ≤ 1000) (w : World) (h : InstIs w A A2 I) :
    Calls Try.prog 59 #[.agg #[.slice A n c, .slice A2 m d]] w fun e w' => ∃ v1 v2, e = .returned (.agg #[v1, v2]) ∧ Copied w w' v1 v2 n m I := by
  have CN := Lib.hid (fun w' (hb : Below w.heap.size w w') => clonen_any A c I.sup n hn h1 w' (h.later hb).sup)
  have CA := Lib.hid (fun w' (hb : Below w.heap.size w w') => clonea_any A2 d I.arcs m hm h2 w' (h.later hb).arcs)
  clear h hn hm h1 h2
  go_enter Try.func59, Try.ntmps59
  go_upto_region 1 with fail
  go_cut [2] (fun s2 wx => s2 = .pointer (some ⟨w.heap.size + 1, 0, none⟩) ∧ ∃ v1 v2, Blk wx (w.heap.size + 1) 25 #[v1, v2] ∧ Copied w wx v1 v2 n m I)
  case first =>
    go_region_with (first
      | (go_at_call 86; (with_reducible refine (CN.out _ ?bb).mono ?_); (case bb => repeat (first | exact Below.refl _ _ | refine Below.drew ?_ | refine Below.alloc ?_ (by simp <;> omega) _)); rintro e w1 ⟨v1, rfl, o1, hb1⟩; obtain ⟨-, A1, cap1, rfl, -, -, -⟩ := own_cells o1; have O1 := Lib.hid o1; have R1 := Lib.hid hb1
         have X1 : Blk w1 w.heap.size 25 #[.slice A n c, .slice A2 m d] := Blk.below (by repeat (first | exact Blk.new _ _ _ | refine Blk.drew ?_ | refine Blk.alloc ?_ _)) hb1 (by simp; omega)
         have B1 : Blk w1 (w.heap.size + 1) 25 #[.slice none 0 0, .slice none 0 0] := Blk.below (by repeat (first | exact blk_at (by simp) _ _ | refine Blk.drew ?_)) hb1 (by simp)
         have x10 := X1.cell 0; have x11 := X1.cell 1; simp at x10 x11
         have HX1 := Lib.hid X1; have HB1 := Lib.hid B1; have hz := hb1.size; (try simp at hz)
         clear o1 hb1 X1 B1)
      | (go_at_call 66; (with_reducible refine (CA.out _ ?bb).mono ?_); (case bb => exact chain2 (by repeat (first | exact Below.refl _ _ | refine Below.drew ?_ | refine Below.alloc ?_ (by simp <;> omega) _)) R1.out); rintro e w2 ⟨v2, rfl, o2, hb2⟩; obtain ⟨-, AA, cap2, rfl, -, -, -⟩ := own_cells o2; have O2 := Lib.hid o2; have R2 := Lib.hid hb2
         have B2 : Blk w2 (w.heap.size + 1) 25 #[.slice none 0 0, .slice none 0 0] := Blk.below HB1.out hb2 HB1.out.lt
         have y0 := B2.cell 0; have y1 := B2.cell 1; simp at y0 y1; have f0 := B2.frozen 0; have f1 := B2.frozen 1; have lt := B2.lt
         have HB2 := Lib.hid B2
         clear o2 hb2 B2))
    all_goals
      go_wp2_with fail
      go_meet
      case rel =>
        refine ⟨rfl, _, _, (HB2.out.set_ 0 _).set_ 1 _, ?_⟩
        exact copied_mk (by simp) (by repeat (first | exact Below.refl _ _ | refine Below.drew ?_ | refine Below.alloc ?_ (by simp <;> omega) _)) R1.out O1.out R2.out O2.out
  case rest =>
    obtain ⟨rfl, v1, v2, hb, hc⟩ := hcut
    have HB := Lib.hid hb
    have HC := Lib.hid hc
    have b0 := hb.cell 0
    have b1 := hb.cell 1
    simp at b0 b1
    go_wp2_with fail
    refine bodyPost_ret (v := .agg #[v1, v2]) ?_ rfl ⟨v1, v2, rfl, HC.out⟩
    exact results_cell_row rfl _ _ _ _ _ _ _ rfl HB.out Try.underlying25 rfl size_instc
end Go.Proofs.Ytajckihgfelbaaa.Inst
