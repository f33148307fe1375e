/- The landed sets: new ones. -/
import Derived.Test.YtoccgpkpmhkeiaaUniX2
namespace Go.Proofs.Ytoccgpkpmhkeiaa.Uni
open Go.RowKit Go.Proofs.Ytoccgpkpmhkeiaa.Inst
set_option linter.unusedVariables false

/-- At the head of New's loop. -/
def New2Rel (w : World) (b : Nat) (n : Int) (s9 : Value) (u : World) : Prop :=
  ∃ (k : Nat) (A : Option Addr) (c : Nat), s9 = .int .i64 (k : Int) ∧ k ≤ n.toNat ∧ Blk u b tU #[.slice A k c] ∧ u.ownsRow b 3 1 (.slice A k c) k (natV (List.range k)) ∧ Below w.heap.size w u
/-- What New leaves. -/
def TellsNew (w : World) (n : Int) (e : Ending) (w' : World) : Prop := ∃ b, e = .returned (obj b) ∧ UnX w' b w.heap.size w'.heap.size (startL n) ∧ Below w.heap.size w w'
theorem unw_new {w u : World} {b k c : Nat} {A : Option Addr} (hb : b = w.heap.size) (hk : k ≤ 1000) (hB : Blk u b tU #[.slice A k c]) (ho : u.ownsRow b 3 1 (.slice A k c) k (natV (List.range k))) : UnX u b w.heap.size u.heap.size (List.range k) :=
  ⟨List.range k, A, k, c, hB, own_base ho (by omega), ways_range k, canon_range k, by rw [List.length_range]; exact hk, List.length_range, by omega, hB.lt, own_lt ho, Nat.le_refl _⟩

set_option maxRecDepth 100000 in
set_option maxHeartbeats 4000000 in
theorem new_any (n : Int) (h : I64 n) (h9 : n ≤ 1000) (w : World) : Calls Try.prog 11 #[.int .i64 n] w (TellsNew w n) := by
  obtain ⟨i0, hi0, hz0, hz1, hz2⟩ := info_parts info_int
  have G0 := Lib.hid hi0
  have G1 := Lib.hid hz0
  have G2 := Lib.hid hz1
  have G3 := Lib.hid hz2
  clear hi0 hz0 hz1 hz2
  obtain ⟨b, hb⟩ : ∃ b, b = w.heap.size := ⟨_, rfl⟩
  have HBb := Lib.hid hb
  have SL := Lib.hid (show startL n = List.range n.toNat by unfold startL; rw [Nat.min_eq_left (by omega)])
  have mn : min n 1000 = n := by omega
  go_enter Try.func11, Try.ntmps11
  clear hb
  go_wp2_with fail
  rw [← HBb.out]
  go_loopw [9] (fun s9 u => New2Rel w b n s9 u) (fun s9 _ => n.toNat - (intOf s9).toNat)
  case atStart =>
    have e1 : b = w.heap.size := HBb.out
    subst e1
    exact ⟨0, none, 0, rfl, by omega, Blk.new w _ _, ⟨rfl, .inl ⟨rfl, rfl⟩⟩, (Below.refl _ _).alloc (Nat.le_refl _) _⟩
  case round =>
    obtain ⟨k, A, cap, rfl, hk, hbq, ho, hB⟩ := hrel
    have HO := Lib.hid ho
    have HB := Lib.hid hB
    have BQ := Lib.hid hbq
    have y0 := hbq.cell 0
    have y1 := hbq.frozen 0
    have y2 := hbq.lt
    have bs := hB.size
    have ge := own_ge ho
    simp at y0
    have hne : ∀ g, (Value.slice A k cap).ownBlock = some g → g ≠ b := by
      rintro g hg rfl
      rcases ho.2 with ⟨q, _⟩ | ⟨g', cap', cur, q, _, h4, _⟩
      · rw [q] at hg; simp [Value.ownBlock] at hg
      · rw [q] at hg
        simp [Value.ownBlock] at hg
        subst hg
        unfold Blk at hbq
        rw [hbq] at h4
        cases h4
    have HNE := Lib.hid hne
    clear hbq ho hB hne
    by_cases c1 : (k : Int) < n
    · go_wp2_with (
        at_builtin
        refine wpList_append_own_at _ rfl _ _ 25 rfl b 3 i0 _ 1 8 Try.underlying25 G0.out G1.out G2.out G3.out rfl (by decide) (.slice A k cap) k _ rfl (HO.out.alloc _) ⟨wr.heap.size, 0, none⟩ 1 1 [.int .i64 (k : Int)] rfl rfl ?c1 ?c2 ?c3 ?c4 ?c5 ?_
        case c1 => exact cell_one_new _ _ _
        case c2 => simp [Value.oneCell']
        case c3 => simp only [maxLen]; omega
        case c4 => omega
        case c5 => simp; omega
        intro v1 u1 hown1 hgrow1 _ hat
        obtain ⟨-, A1, cap1, ev, -, -, -⟩ := own_cells hown1
        subst ev
        have AT := Lib.hid hat
        have BQ1 := Lib.hid (show Blk u1 b tU #[.slice A k cap] from (hgrow1.block _ (by simp; omega) (fun e => HNE.out b e.symm rfl)).trans (BQ.out.alloc _))
        have OW := Lib.hid hown1
        have B1 := Lib.hid (show Below w.heap.size w u1 from (HB.out.alloc bs _).grown hgrow1 (by simp; omega) (fun g hg => by have := ge g hg; have := HBb.out; omega))
        have z1 := BQ1.out.frozen 0
        have z0 := BQ1.out.cell 0
        have z2 := BQ1.out.lt
        simp at z0
        clear hown1 hgrow1 hat y0 y1)
      have e1 : natV (List.range k) ++ [Value.int IntKind.i64 (k : Int)] = natV (List.range (k + 1)) := by rw [List.range_succ, natV_snoc]
      rw [e1] at OW
      have hf : (Value.slice A1 (k + 1) cap1).ownBlock ≠ some b := fun e => by
        rcases AT.out with q | q
        · rw [e] at q
          exact HNE.out b q.symm rfl
        · rw [e] at q
          simp at q
          omega
      exact ⟨⟨k + 1, A1, cap1, by simp, by omega, BQ1.out.set_ 0 _, own_far OW.out hf _, B1.out.setCell (by show _ ≤ b; have := HBb.out; omega) _⟩, by simp [intOf]; omega⟩
    · have kn := Lib.hid (show k = n.toNat by omega)
      have F := Lib.hid (show UnX wr b w.heap.size wr.heap.size (startL n) by rw [SL.out, ← kn.out]; exact unw_new HBb.out (by omega) BQ.out HO.out)
      go_wp2_with fail
      go_ret
      exact ⟨b, rfl, F.out, HB.out⟩
end Go.Proofs.Ytoccgpkpmhkeiaa.Uni
