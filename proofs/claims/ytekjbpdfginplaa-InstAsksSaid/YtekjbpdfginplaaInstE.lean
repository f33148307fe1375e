/- Contracts of the document's answers for layer 3: what is wrong. -/
import Derived.Test.YtekjbpdfginplaaInstD
import Derived.StillTailTactics
namespace Go.Proofs.Ytekjbpdfginplaa.Inst
open Go.RowKit

/-- A block of two cells: an instance's value. -/
def Box2 (w : World) (b : Nat) (v0 v1 : Value) : Prop := w.cell? ⟨b, 0, none⟩ = some v0 ∧ w.cell? ⟨b, 1, none⟩ = some v1 ∧ b < w.heap.size
theorem Box2.later {w w' : World} {b : Nat} {v0 v1 : Value} (h : Box2 w b v0 v1) (hb : Below w.heap.size w w') : Box2 w' b v0 v1 :=
  ⟨(hb.cell (p := ⟨b, 0, none⟩) h.2.2).trans h.1, (hb.cell (p := ⟨b, 1, none⟩) h.2.2).trans h.2.1, by have := hb.size; have := h.2.2; omega⟩
theorem box2_new (w : World) (v0 v1 : Value) (t : TypeId) : Box2 (w.alloc (.cells #[v0, v1] t)) w.heap.size v0 v1 := by
  refine ⟨?_, ?_, by simp⟩ <;> simp

/-- At the head of the loop over arcs; over supplies. -/
def RightRel (W1 : World) (I : InstD) (s3 : Value) (u : World) : Prop := ∃ k : Nat, k ≤ I.arcs.length ∧ s3 = .int .i64 (k : Int) ∧ arcsW I.sup.length (I.arcs.take k) = 0 ∧ Below W1.heap.size W1 u
def RightRel2 (W1 : World) (I : InstD) (s5 s6 : Value) (u : World) : Prop :=
  ∃ (k : Nat) (s : Int), k ≤ I.sup.length ∧ s6 = .int .i64 (k : Int) ∧ s5 = .int .i64 s ∧ s = sumI (I.sup.take k) ∧ (I.sup.take k).all inB = true ∧ Below W1.heap.size W1 u
theorem all_no {α : Type} (l : List α) (k : Nat) (h : k < l.length) (p : α → Bool) (hk : p l[k] = false) : l.all p = false := by
  rw [Bool.eq_false_iff]
  intro q
  rw [List.all_eq_true] at q
  have := q l[k] (List.getElem_mem h)
  rw [hk] at this
  cases this
theorem all_take {α : Type} (l : List α) (k : Nat) (h : k < l.length) (p : α → Bool) (ha : (l.take k).all p = true) (hk : p l[k] = true) : (l.take (k + 1)).all p = true := by
  rw [List.take_succ_eq_append_getElem h, List.all_append, ha]
  simp [hk]

set_option maxHeartbeats 2000000 in
theorem rright_any (A A2 : Option Addr) (c d : Nat) (I : InstD) (w : World) (hI : InstIs w A A2 I) :
    Calls Try.prog 21 #[instV A c A2 d I] w fun e w' => e = .returned (.int .i64 (rightD I)) ∧ Below w.heap.size w w' := by
  have hn := hI.n
  have hm := hI.m
  have RD := Lib.hid (show rightD I = (if 64 < I.sup.length ∨ 256 < I.arcs.length then 20 else if arcsW I.sup.length I.arcs ≠ 0 then arcsW I.sup.length I.arcs else if I.sup.all inB = false then 24 else if sumI I.sup ≠ 0 then 25 else 0) from rfl)
  have HI := Lib.hid hI
  clear hI
  by_cases h64 : 64 < I.sup.length
  · have R := Lib.hid (show rightD I = 20 by rw [RD.out, if_pos (Or.inl h64)])
    go_enter Try.func21, Try.ntmps21
    go_wp2_with fail
    go_ret
    exact ⟨by rw [R.out]; rfl, (Below.refl _ _).alloc (Nat.le_refl _) _⟩
  · by_cases h256 : 256 < I.arcs.length
    · have R := Lib.hid (show rightD I = 20 by rw [RD.out, if_pos (Or.inr h256)])
      go_enter Try.func21, Try.ntmps21
      go_wp2_with fail
      go_ret
      exact ⟨by rw [R.out]; rfl, (Below.refl _ _).alloc (Nat.le_refl _) _⟩
    · rw [if_neg (by omega)] at RD
      go_enter Try.func21, Try.ntmps21
      go_wp2_with fail
      generalize hW : w.alloc _ = W1
      have BX := Lib.hid (show Box2 W1 w.heap.size (.slice A I.sup.length c) (.slice A2 I.arcs.length d) by rw [← hW]; exact box2_new _ _ _ _)
      have B1 := Lib.hid (show Below w.heap.size w W1 by rw [← hW]; exact (Below.refl _ _).alloc (Nat.le_refl _) _)
      clear hW
      go_loopw [3] (fun q u => RightRel W1 I q u) (fun q _ => I.arcs.length - (intOf q).toNat)
      case atStart => exact ⟨0, by omega, rfl, rfl, Below.refl _ _⟩
      case round =>
        obtain ⟨k, hk, rfl, ha, hb⟩ := hrel
        have HA := Lib.hid ha
        have HB := Lib.hid hb
        have bx := BX.out.later hb
        obtain ⟨b0, b1, _⟩ := bx
        clear ha hb
        by_cases hlt : k < I.arcs.length
        · obtain ⟨ba, oa, ea, lba, ca⟩ := arcs_at (HI.out.later (B1.out.trans (HB.out.mono B1.out.size))).arcs (by omega)
          obtain ⟨x1, x2, x3, x4, x5⟩ := ca k hlt
          have i0 : (0 : Int) ≤ (k : Int) := by omega
          have i1 : (k : Int) < (I.arcs.length : Int) := by omega
          obtain ⟨x, hx⟩ : ∃ x, x = I.arcs[k] := ⟨_, rfl⟩
          rw [← hx] at x1 x2 x3 x4 x5
          have HX := Lib.hid hx
          clear ca hx
          subst ea
          have AC := Lib.hid (fun w => arc_any x (I.sup.length : Int) w)
          obtain ⟨e, he⟩ : ∃ e, e = arcW I.sup.length x := ⟨_, rfl⟩
          rw [← he] at AC
          have HE := Lib.hid he
          clear he
          by_cases z : e = 0
          · have t1 : (e != 0) = false := by simp [z]
            have HZ := Lib.hid z
            clear z
            go_wp2_with fail
            go_still_tail 8, (by kernel_rfl)
            go_wp2_with (go_at_call 33; refine (AC.out _).mono ?_; rintro e' w2 ⟨rfl, hb2⟩)
            have E := arcsW_snoc I.sup.length x (I.arcs.take k) HA.out
            rw [HX.out, ← List.take_succ_eq_append_getElem hlt, ← HX.out, ← HE.out, HZ.out] at E
            exact ⟨⟨k + 1, by omega, by simp, E, (HB.out.drew).trans (hb2.mono HB.out.drew.size)⟩, by simp [intOf]; omega⟩
          · have t1 : (e != 0) = true := by simp [z]
            have R := Lib.hid (show rightD I = e by
              have E := arcsW_first I.sup.length x (I.arcs.drop (k + 1)) (by rw [← HE.out]; exact z) (I.arcs.take k) HA.out
              rw [HX.out, List.getElem_cons_drop, List.take_append_drop, ← HX.out, ← HE.out] at E
              rw [RD.out, E, if_pos z])
            clear z
            go_wp2_with fail
            go_still_tail 8, (by kernel_rfl)
            go_wp2_with (go_at_call 33; refine (AC.out _).mono ?_; rintro e' w2 ⟨rfl, hb2⟩)
            go_ret
            exact ⟨by rw [R.out]; rfl, B1.out.trans (((HB.out.drew).trans (hb2.mono HB.out.drew.size)).mono B1.out.size)⟩
        · obtain rfl : k = I.arcs.length := by omega
          have HA2 := HA.out
          rw [List.take_length] at HA2
          rw [HA2] at RD
          simp only [ne_eq, not_true_eq_false, if_false] at RD
          clear HA2
          have hk64 : I.sup.length ≤ 64 := by omega
          go_wp2_with fail
          go_loopw [5, 6] (fun s t u => RightRel2 W1 I s t u) (fun _ t _ => I.sup.length - (intOf t).toNat)
          case atStart => exact ⟨0, 0, by omega, rfl, rfl, rfl, by simp, HB.out⟩
          case round =>
            clear b0 b1
            obtain ⟨k, s, hk, rfl, rfl, hs, hall, hb⟩ := hrel
            have HS := Lib.hid hs
            have HA := Lib.hid hall
            have HB := Lib.hid hb
            have bx := BX.out.later hb
            obtain ⟨b0, b1, _⟩ := bx
            have sb := sumI_bd _ hall
            rw [← hs, List.length_take] at sb
            obtain ⟨sb0, sb1⟩ := sb
            have s0 : -281474976710656 ≤ s := by omega
            have s1 : s ≤ 281474976710656 := by omega
            clear hs hall hb sb0 sb1
            by_cases hlt : k < I.sup.length
            · obtain ⟨ba, oa, ea, lba, ca⟩ := nums_at (HI.out.later (B1.out.trans (HB.out.mono B1.out.size))).sup (by omega)
              have x1 := ca k hlt
              have i0 : (0 : Int) ≤ (k : Int) := by omega
              have i1 : (k : Int) < (I.sup.length : Int) := by omega
              obtain ⟨x, hx⟩ : ∃ x, x = I.sup[k] := ⟨_, rfl⟩
              rw [← hx] at x1
              have HX := Lib.hid hx
              clear ca hx
              subst ea
              have IN := Lib.hid (fun w => in_any x w)
              by_cases z : inB x = true
              · have zb := z
                unfold inB at zb
                rw [Bool.and_eq_true, decide_eq_true_iff, decide_eq_true_iff] at zb
                obtain ⟨z0, z1⟩ := zb
                have T := Lib.hid (all_take I.sup k hlt inB HA.out (by rw [← HX.out]; exact z))
                rw [z] at IN
                clear z
                go_wp2_with (go_at_call 34; refine (IN.out _).mono ?_; rintro e' w2 ⟨rfl, rfl⟩)
                exact ⟨⟨k + 1, s + x, by omega, by simp, rfl, by rw [List.take_succ_eq_append_getElem hlt, sumI_snoc, ← HS.out, ← HX.out], T.out, HB.out⟩, by simp [intOf]; omega⟩
              · have z2 : inB x = false := by simpa using z
                have R := Lib.hid (show rightD I = 24 by rw [RD.out, if_pos (all_no I.sup k hlt inB (by rw [← HX.out]; exact z2))])
                rw [z2] at IN
                clear z z2
                go_wp2_with (go_at_call 34; refine (IN.out _).mono ?_; rintro e' w2 ⟨rfl, rfl⟩)
                go_ret
                exact ⟨by rw [R.out]; rfl, B1.out.trans (HB.out.mono B1.out.size)⟩
            · obtain rfl : k = I.sup.length := by omega
              have HA2 := HA.out
              have HS2 := HS.out
              rw [List.take_length] at HA2 HS2
              have R := Lib.hid (show rightD I = if s ≠ 0 then 25 else 0 by rw [RD.out, HA2, HS2, if_neg (by simp)])
              clear HA2 HS2
              by_cases z : s = 0
              · have t1 : (s != 0) = false := by simp [z]
                have R2 := Lib.hid (show rightD I = 0 by rw [R.out, if_neg (by simp [z])])
                clear z
                go_wp2_with fail
                go_ret
                exact ⟨by rw [R2.out]; rfl, B1.out.trans (HB.out.mono B1.out.size)⟩
              · have t1 : (s != 0) = true := by simp [z]
                have R2 := Lib.hid (show rightD I = 25 by rw [R.out, if_pos z])
                clear z
                go_wp2_with fail
                go_ret
                exact ⟨by rw [R2.out]; rfl, B1.out.trans (HB.out.mono B1.out.size)⟩
end Go.Proofs.Ytekjbpdfginplaa.Inst
