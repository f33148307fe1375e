/- What the landed layer 3 does: what is kept. -/
import Derived.Test.YtekjbpdfginplaaInstF
namespace Go.Proofs.Ytekjbpdfginplaa.Inst
open Go.RowKit

/-- At the head of Kept's loop. -/
def KeptRel2 (w : World) (off : List Bool) (n : Int) (s5 s9 : Value) (u : World) : Prop :=
  ∃ k : Nat, k ≤ upto n ∧ s9 = .int .i64 (k : Int) ∧ u.ownsRow w.heap.size 3 1 s5 (keptN off k).length (natV (keptN off k)) ∧ Below w.heap.size w u

set_option maxRecDepth 100000 in
set_option maxHeartbeats 2000000 in
theorem kept_any (a : Option Addr) (c : Nat) (off : List Bool) (n : Int) (hn1 : n ≤ 9223372036854775807) (w : World) (ha : Cells w w.heap.size a (boolV off)) :
    Calls Try.prog 17 #[.slice a off.length c, .int .i64 n] w (TellsNats (keptD off n) w) := by
  obtain ⟨i0, hi0, hz0, hz1, hz2⟩ := info_parts info_int
  have G0 := Lib.hid hi0
  have G1 := Lib.hid hz0
  have G2 := Lib.hid hz1
  have G3 := Lib.hid hz2
  have HA := Lib.hid ha
  have U := Lib.hid (show upto n = min n.toNat 1000 from rfl)
  have u1 : upto n ≤ 1000 := by rw [U.out]; omega
  clear hi0 hz0 hz1 hz2 ha
  by_cases q : 1000 < n
  · have u2 : upto n = 1000 := by rw [U.out]; omega
    go_enter Try.func17, Try.ntmps17
    go_wp2_with fail
    go_loopw [5, 9] (fun v q u => KeptRel2 w off n v q u) (fun _ q _ => upto n - (intOf q).toNat)
    case atStart => exact ⟨0, by omega, rfl, ⟨rfl, .inl ⟨rfl, rfl⟩⟩, Below.refl _ _⟩
    case round =>
      obtain ⟨k, hk, rfl, hown, hB⟩ := hrel
      have HO := Lib.hid hown
      have HB := Lib.hid hB
      have bs := hB.size
      clear hown hB
      have kl := keptN_length off k
      by_cases hlt : k < upto n
      · have q1 : (k : Int) < n := by have := U.out; omega
        have q2 : (k : Int) < 1000 := by omega
        have k0 : (0 : Int) ≤ (k : Int) := by omega
        cases ho : offB off k with
        | true =>
          have E := Lib.hid (show keptN off (k + 1) = keptN off k by rw [keptN_succ, ho]; simp)
          have hl2 : k < off.length := by
            rcases Nat.lt_or_ge k off.length with h | h
            · exact h
            · unfold offB at ho
              rw [List.getD_eq_getElem?_getD, List.getElem?_eq_none h] at ho
              cases ho
          obtain ⟨b, o, ea, _, ca⟩ := bools_at (HA.out.later (Nat.le_refl _) HB.out) (by omega)
          have c1 := ca k hl2
          have e1 : off[k] = true := by rw [← ho]; unfold offB; rw [List.getD_eq_getElem?_getD, List.getElem?_eq_getElem hl2]; rfl
          rw [e1] at c1
          have EA := Lib.hid ea
          rw [EA.out]
          have i1 : (k : Int) < (off.length : Int) := by omega
          clear ea ca ho e1
          go_wp2_with fail
          exact ⟨⟨k + 1, by omega, by simp, by rw [E.out]; exact HO.out, HB.out⟩, by simp [intOf]; omega⟩
        | false =>
          have E := Lib.hid (show keptN off (k + 1) = keptN off k ++ [k] by rw [keptN_succ, ho]; simp)
          by_cases hl2 : k < off.length
          · obtain ⟨b, o, ea, _, ca⟩ := bools_at (HA.out.later (Nat.le_refl _) HB.out) (by omega)
            have c1 := ca k hl2
            have e1 : off[k] = false := by rw [← ho]; unfold offB; rw [List.getD_eq_getElem?_getD, List.getElem?_eq_getElem hl2]; rfl
            rw [e1] at c1
            have EA := Lib.hid ea
            rw [EA.out]
            have i1 : (k : Int) < (off.length : Int) := by omega
            clear ea ca ho e1
            go_wp2_with (
              at_builtin
              refine wpList_append_own _ rfl _ _ 35 rfl w.heap.size 3 i0 _ 1 8 Try.underlying35 G0.out G1.out G2.out G3.out rfl (by decide) _ _ _ rfl (HO.out.alloc _) ⟨World.heap _ |>.size, 0, none⟩ 1 1 [.int .i64 (k : Int)] rfl rfl ?c1 ?c2 ?c3 ?c4 ?c5 ?_
              case c1 => exact cell_one_new _ _ _
              case c2 => simp [Value.oneCell']
              case c3 => simp only [maxLen]; omega
              case c4 => omega
              case c5 => simp; omega
              intro v1 u1 hown1 hgrow1 _)
            exact ⟨⟨k + 1, by omega, by simp, by rw [E.out, List.length_append, natV_snoc]; exact hown1, (HB.out.alloc bs _).grown hgrow1 (by simp; omega) (own_ge HO.out)⟩, by simp [intOf]; omega⟩
          · have i1 : ¬ ((k : Int) < (off.length : Int)) := by omega
            clear ho
            go_wp2_with (
              at_builtin
              refine wpList_append_own _ rfl _ _ 35 rfl w.heap.size 3 i0 _ 1 8 Try.underlying35 G0.out G1.out G2.out G3.out rfl (by decide) _ _ _ rfl (HO.out.alloc _) ⟨World.heap _ |>.size, 0, none⟩ 1 1 [.int .i64 (k : Int)] rfl rfl ?c1 ?c2 ?c3 ?c4 ?c5 ?_
              case c1 => exact cell_one_new _ _ _
              case c2 => simp [Value.oneCell']
              case c3 => simp only [maxLen]; omega
              case c4 => omega
              case c5 => simp; omega
              intro v1 u1 hown1 hgrow1 _)
            exact ⟨⟨k + 1, by omega, by simp, by rw [E.out, List.length_append, natV_snoc]; exact hown1, (HB.out.alloc bs _).grown hgrow1 (by simp; omega) (own_ge HO.out)⟩, by simp [intOf]; omega⟩
      · obtain rfl : k = upto n := by omega
        have fin : ∀ (e : Ending) (v : Value), e = .returned v → wr.ownsRow w.heap.size 3 1 v (keptN off (upto n)).length (natV (keptN off (upto n))) → TellsNats (keptD off n) w e wr := by
          intro e v he ho
          obtain ⟨_, A, cap, rfl, h1, _, h3⟩ := own_cells ho
          exact ⟨A, cap, he, h1, h3, HB.out, ho⟩
        have FIN := Lib.hid fin
        clear fin
        have q2 : ¬ (((upto n : Nat) : Int) < 1000) := by omega
        go_wp2_with fail
        go_ret
        exact FIN.out _ _ rfl HO.out
  · have q' : n ≤ 1000 := by omega
    go_enter Try.func17, Try.ntmps17
    go_wp2_with fail
    go_loopw [5, 9] (fun v q u => KeptRel2 w off n v q u) (fun _ q _ => upto n - (intOf q).toNat)
    case atStart => exact ⟨0, by omega, rfl, ⟨rfl, .inl ⟨rfl, rfl⟩⟩, Below.refl _ _⟩
    case round =>
      obtain ⟨k, hk, rfl, hown, hB⟩ := hrel
      have HO := Lib.hid hown
      have HB := Lib.hid hB
      have bs := hB.size
      clear hown hB
      have kl := keptN_length off k
      by_cases hlt : k < upto n
      · have q1 : (k : Int) < n := by have := U.out; omega
        have q2 : (k : Int) < 1000 := by omega
        have k0 : (0 : Int) ≤ (k : Int) := by omega
        cases ho : offB off k with
        | true =>
          have E := Lib.hid (show keptN off (k + 1) = keptN off k by rw [keptN_succ, ho]; simp)
          have hl2 : k < off.length := by
            rcases Nat.lt_or_ge k off.length with h | h
            · exact h
            · unfold offB at ho
              rw [List.getD_eq_getElem?_getD, List.getElem?_eq_none h] at ho
              cases ho
          obtain ⟨b, o, ea, _, ca⟩ := bools_at (HA.out.later (Nat.le_refl _) HB.out) (by omega)
          have c1 := ca k hl2
          have e1 : off[k] = true := by rw [← ho]; unfold offB; rw [List.getD_eq_getElem?_getD, List.getElem?_eq_getElem hl2]; rfl
          rw [e1] at c1
          have EA := Lib.hid ea
          rw [EA.out]
          have i1 : (k : Int) < (off.length : Int) := by omega
          clear ea ca ho e1
          go_wp2_with fail
          exact ⟨⟨k + 1, by omega, by simp, by rw [E.out]; exact HO.out, HB.out⟩, by simp [intOf]; omega⟩
        | false =>
          have E := Lib.hid (show keptN off (k + 1) = keptN off k ++ [k] by rw [keptN_succ, ho]; simp)
          by_cases hl2 : k < off.length
          · obtain ⟨b, o, ea, _, ca⟩ := bools_at (HA.out.later (Nat.le_refl _) HB.out) (by omega)
            have c1 := ca k hl2
            have e1 : off[k] = false := by rw [← ho]; unfold offB; rw [List.getD_eq_getElem?_getD, List.getElem?_eq_getElem hl2]; rfl
            rw [e1] at c1
            have EA := Lib.hid ea
            rw [EA.out]
            have i1 : (k : Int) < (off.length : Int) := by omega
            clear ea ca ho e1
            go_wp2_with (
              at_builtin
              refine wpList_append_own _ rfl _ _ 35 rfl w.heap.size 3 i0 _ 1 8 Try.underlying35 G0.out G1.out G2.out G3.out rfl (by decide) _ _ _ rfl (HO.out.alloc _) ⟨World.heap _ |>.size, 0, none⟩ 1 1 [.int .i64 (k : Int)] rfl rfl ?c1 ?c2 ?c3 ?c4 ?c5 ?_
              case c1 => exact cell_one_new _ _ _
              case c2 => simp [Value.oneCell']
              case c3 => simp only [maxLen]; omega
              case c4 => omega
              case c5 => simp; omega
              intro v1 u1 hown1 hgrow1 _)
            exact ⟨⟨k + 1, by omega, by simp, by rw [E.out, List.length_append, natV_snoc]; exact hown1, (HB.out.alloc bs _).grown hgrow1 (by simp; omega) (own_ge HO.out)⟩, by simp [intOf]; omega⟩
          · have i1 : ¬ ((k : Int) < (off.length : Int)) := by omega
            clear ho
            go_wp2_with (
              at_builtin
              refine wpList_append_own _ rfl _ _ 35 rfl w.heap.size 3 i0 _ 1 8 Try.underlying35 G0.out G1.out G2.out G3.out rfl (by decide) _ _ _ rfl (HO.out.alloc _) ⟨World.heap _ |>.size, 0, none⟩ 1 1 [.int .i64 (k : Int)] rfl rfl ?c1 ?c2 ?c3 ?c4 ?c5 ?_
              case c1 => exact cell_one_new _ _ _
              case c2 => simp [Value.oneCell']
              case c3 => simp only [maxLen]; omega
              case c4 => omega
              case c5 => simp; omega
              intro v1 u1 hown1 hgrow1 _)
            exact ⟨⟨k + 1, by omega, by simp, by rw [E.out, List.length_append, natV_snoc]; exact hown1, (HB.out.alloc bs _).grown hgrow1 (by simp; omega) (own_ge HO.out)⟩, by simp [intOf]; omega⟩
      · obtain rfl : k = upto n := by omega
        have fin : ∀ (e : Ending) (v : Value), e = .returned v → wr.ownsRow w.heap.size 3 1 v (keptN off (upto n)).length (natV (keptN off (upto n))) → TellsNats (keptD off n) w e wr := by
          intro e v he ho
          obtain ⟨_, A, cap, rfl, h1, _, h3⟩ := own_cells ho
          exact ⟨A, cap, he, h1, h3, HB.out, ho⟩
        have FIN := Lib.hid fin
        clear fin
        have q2 : ¬ (((upto n : Nat) : Int) < n) := by have := U.out; omega
        go_wp2_with fail
        go_ret
        exact FIN.out _ _ rfl HO.out
end Go.Proofs.Ytekjbpdfginplaa.Inst
