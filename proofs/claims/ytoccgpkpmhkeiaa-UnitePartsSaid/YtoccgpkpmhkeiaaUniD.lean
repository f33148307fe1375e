/- Contracts of the document's answers for layer 5: new, join. -/
import Derived.Test.YtoccgpkpmhkeiaaUniC
import Derived.Maps.AppendAt
namespace Go.Proofs.Ytoccgpkpmhkeiaa.Uni
open Go.RowKit Go.Proofs.Ytoccgpkpmhkeiaa.Inst

theorem size_sets : (Try.prog.info? 40).map (·.size) = some 1 := by kernel_rfl
/-- What a call that tells sets of its own does: their list lies in a block from lo on. -/
def TellsSets (L : List Nat) (w : World) (e : Ending) (w' : World) : Prop :=
  ∃ A cap, e = .returned (setV A L.length cap) ∧ Past w' w.heap.size A (natV L) ∧ Below w.heap.size w w'

/-- At the head of New's loop. -/
def NewRel (w : World) (p q : Nat) (n : Int) (s4 : Value) (u : World) : Prop :=
  ∃ (k : Nat) (v : Value), s4 = .int .i64 (k : Int) ∧ k ≤ n.toNat ∧ Blk u q 40 #[v] ∧ Blk u p 40 #[.slice none 0 0] ∧ u.ownsRow (q + 1) 3 1 v k (natV (List.range k)) ∧ Below w.heap.size w u

set_option maxRecDepth 100000 in
set_option maxHeartbeats 4000000 in
theorem rnew_any (n : Int) (h : I64 n) (h9 : n ≤ 1000) (w : World) : Calls Try.prog 18 #[.int .i64 n] w (TellsSets (startL n) w) := by
  obtain ⟨i0, hi0, hz0, hz1, hz2⟩ := info_parts info_int
  have G0 := Lib.hid hi0
  have G1 := Lib.hid hz0
  have G2 := Lib.hid hz1
  have G3 := Lib.hid hz2
  clear hi0 hz0 hz1 hz2
  obtain ⟨p, hp⟩ : ∃ p, p = w.heap.size := ⟨_, rfl⟩
  obtain ⟨q, hq⟩ : ∃ q, q = w.heap.size + 1 := ⟨_, rfl⟩
  have HP := Lib.hid hp
  have HQ := Lib.hid hq
  have SL := Lib.hid (show startL n = List.range n.toNat by unfold startL; rw [Nat.min_eq_left (by omega)])
  go_enter Try.func18, Try.ntmps18
  clear hp hq
  go_wp2_with fail
  rw [← HQ.out, ← HP.out]
  go_loopw [4] (fun s4 u => NewRel w p q n s4 u) (fun s4 _ => n.toNat - (intOf s4).toNat)
  case atStart =>
    have e1 : p = w.heap.size := HP.out
    have e2 : q = w.heap.size + 1 := HQ.out
    subst e1 e2
    refine ⟨0, .slice none 0 0, rfl, by omega, ?_, ?_, ⟨rfl, .inl ⟨rfl, rfl⟩⟩, ?_⟩
    · first | exact (blk_at (by simp) _ _).set_ 0 _ | exact blk_at (by simp) _ _
    · first | exact ((Blk.new w _ _).alloc _).far (by simp) _ | exact (Blk.new w _ _).alloc _
    · first | exact ((((Below.refl _ _).alloc (Nat.le_refl _) _).alloc (by simp) _).setCell (by simp) _) | exact (((Below.refl _ _).alloc (Nat.le_refl _) _).alloc (by simp) _)
  case round =>
    obtain ⟨k, v, rfl, hk, hbq, hbp, ho, hB⟩ := hrel
    have HO := Lib.hid ho
    have HB := Lib.hid hB
    have BQ := Lib.hid hbq
    have BP := Lib.hid hbp
    obtain ⟨A, cap, rfl, -⟩ := past_own ho
    have y0 := hbq.cell 0
    have y1 := hbq.frozen 0
    have y2 := hbq.lt
    have x0 := hbp.cell 0
    have x1 := hbp.frozen 0
    have x2 := hbp.lt
    have bs := hB.size
    have ge := own_ge ho
    simp at y0 x0
    clear hbq hbp ho hB
    by_cases c1 : (k : Int) < n
    · have c2 : (k : Int) < 1000 := by omega
      go_wp2_with (
        at_builtin
        refine wpList_append_own _ rfl _ _ 25 rfl (q + 1) 3 i0 _ 1 8 Try.underlying25 G0.out G1.out G2.out G3.out rfl (by decide) (.slice A k cap) k _ rfl (HO.out.alloc _) ⟨wr.heap.size, 0, none⟩ 1 1 [.int .i64 (k : Int)] rfl rfl ?c1 ?c2 ?c3 ?c4 ?c5 ?_
        case c1 => exact cell_one_new _ _ _
        case c2 => simp [Value.oneCell']
        case c3 => simp only [maxLen]; omega
        case c4 => omega
        case c5 => simp; have := HQ.out; omega
        intro v1 u1 hown1 hgrow1 _
        obtain ⟨-, A1, cap1, ev, -, -, -⟩ := own_cells hown1
        subst ev
        have BQ1 := Lib.hid (show Blk u1 q 40 #[.slice A k cap] from (hgrow1.block _ (by simp; omega) (fun e => by have := ge q e.symm; omega)).trans (BQ.out.alloc _))
        have BP1 := Lib.hid (show Blk u1 p 40 #[.slice none 0 0] from (hgrow1.block _ (by simp; have := HP.out; omega) (fun e => by have := ge p e.symm; have := HP.out; have := HQ.out; omega)).trans (BP.out.alloc _))
        have OW := Lib.hid hown1
        have B1 := Lib.hid (show Below w.heap.size w u1 from (HB.out.alloc bs _).grown hgrow1 (by simp; omega) (fun g hg => by have := ge g hg; have := HQ.out; omega))
        have z1 := BQ1.out.frozen 0
        have z0 := BQ1.out.cell 0
        have z2 := BQ1.out.lt
        simp at z0
        clear hown1 hgrow1 x0 x1 x2)
      have e1 : natV (List.range k) ++ [Value.int IntKind.i64 (k : Int)] = natV (List.range (k + 1)) := by rw [List.range_succ, natV_snoc]
      rw [e1] at OW
      have ge1 := own_ge OW.out
      have hf : (Value.slice A1 (k + 1) cap1).ownBlock ≠ some q := fun e => by have := ge1 q e; omega
      have hpq : p ≠ q := by have := HP.out; have := HQ.out; omega
      exact ⟨⟨k + 1, _, by simp, by omega, BQ1.out.set_ 0 _, BP1.out.far hpq _, own_far OW.out hf _, B1.out.setCell (by show _ ≤ q; have := HQ.out; omega) _⟩, by simp [intOf]; omega⟩
    · have kn := Lib.hid (show k = n.toNat by omega)
      go_wp2_with fail
      have E := SL.out
      rw [← kn.out] at E
      have hf : (Value.slice A k cap).ownBlock ≠ some p := fun e => by have := ge p e; have := HP.out; have := HQ.out; omega
      obtain ⟨A', cap', ev, hpast⟩ := past_own (own_far (p := ⟨p, 0, none⟩) HO.out hf (.slice A k cap))
      cases ev
      refine bodyPost_ret (v := setV A k cap) ?_ rfl ⟨A, cap, by rw [E, List.length_range], by rw [E]; exact Past.from (p := q + 1) hpast (by have := HQ.out; omega), HB.out.setCell (by show _ ≤ p; have := HP.out; omega) _⟩
      exact results_cell_row rfl _ _ p 40 #[.slice A k cap] (0, 0) _ (by rfl) (BP.out.set_ 0 _) Try.underlying40 rfl size_sets
end Go.Proofs.Ytoccgpkpmhkeiaa.Uni
