/- What the landed layer 3 does: what is wrong with supplies, with an instance. -/
import Derived.Test.YtekjbpdfginplaaInstLA
namespace Go.Proofs.Ytekjbpdfginplaa.Inst
open Go.RowKit

/-- What is wrong with supplies. -/
def supW (l : List Int) : Int := if l.all inB = false then 24 else if sumI l ≠ 0 then 25 else 0
def SumRel (l : List Int) (s4 s13 : Value) : Prop := ∃ (k : Nat) (s : Int), k ≤ l.length ∧ s13 = .int .i64 (k : Int) ∧ s4 = .int .i64 s ∧ s = sumI (l.take k)

theorem bd_take (l : List Int) (k : Nat) (h : l.all inB = true) : (l.take k).all inB = true := by
  rw [List.all_eq_true] at h ⊢
  exact fun x hx => h x (List.mem_of_mem_take hx)

set_option maxHeartbeats 1000000 in
theorem wsup_any (a : Option Addr) (c : Nat) (l : List Int) (hl : l.length ≤ 64) (w : World) (ha : Cells w w.heap.size a (numV l)) :
    Calls Try.prog 32 #[.slice a l.length c] w fun e w' => e = .returned (.int .u16 (supW l)) ∧ w = w' := by
  have CB := Lib.hid (cbey_any a c l (by omega) w ha)
  have BA := Lib.hid (beyond_all l)
  have HS := Lib.hid (show supW l = if l.all inB = false then 24 else if sumI l ≠ 0 then 25 else 0 from rfl)
  have nl := beyond_le l
  have HA := Lib.hid ha
  clear ha
  by_cases h0 : beyond l = 0
  · have AL := Lib.hid (show l.all inB = true by rw [BA.out]; exact h0)
    rw [h0] at CB
    have HS2 := Lib.hid (show supW l = if sumI l ≠ 0 then 25 else 0 by rw [HS.out, AL.out, if_neg (by simp)])
    clear h0 nl
    go_enter Try.func32, Try.ntmps32
    go_wp2_with (go_at_call 51; (with_reducible refine CB.out.mono ?_); rintro e w1 ⟨rfl, rfl⟩)
    go_loop [4, 13] (fun s t => SumRel l s t) (fun _ t => l.length - (intOf t).toNat)
    case atStart => exact ⟨0, 0, by omega, rfl, rfl, rfl⟩
    case round =>
      obtain ⟨k, s, hk, rfl, rfl, hs⟩ := hrel
      have KS := Lib.hid hs
      have sb := sumI_bd _ (bd_take l k AL.out)
      rw [← hs, List.length_take] at sb
      obtain ⟨sb0, sb1⟩ := sb
      have s0 : -281474976710656 ≤ s := by omega
      have s1 : s ≤ 281474976710656 := by omega
      clear hs sb0 sb1
      by_cases hlt : k < l.length
      · obtain ⟨b, off, ea, hb, ca⟩ := nums_at HA.out (by omega)
        have c1 := ca k hlt
        have i0 : (0 : Int) ≤ (k : Int) := by omega
        have i1 : (k : Int) < (l.length : Int) := by omega
        obtain ⟨x, hx⟩ : ∃ x, x = l[k] := ⟨_, rfl⟩
        rw [← hx] at c1
        have HX := Lib.hid hx
        have z := List.all_eq_true.1 AL.out x (by rw [hx]; exact List.getElem_mem hlt)
        unfold inB at z
        rw [Bool.and_eq_true, decide_eq_true_iff, decide_eq_true_iff] at z
        obtain ⟨z0, z1⟩ := z
        subst ea
        clear ca hx
        go_wp2_with fail
        exact ⟨⟨k + 1, s + x, by omega, by simp, rfl, by rw [List.take_succ_eq_append_getElem hlt, sumI_snoc, ← KS.out, ← HX.out]⟩, by simp [intOf]; omega⟩
      · obtain rfl : k = l.length := by omega
        have E := KS.out
        rw [List.take_length] at E
        rw [← E] at HS2
        clear E
        by_cases z : s = 0
        · have t1 : (s != 0) = false := by simp [z]
          have R := Lib.hid (show supW l = 0 by rw [HS2.out, if_neg (by simp [z])])
          clear z
          go_wp2_with fail
          go_ret
          exact ⟨by rw [R.out]; rfl, rfl⟩
        · have t1 : (s != 0) = true := by simp [z]
          have R := Lib.hid (show supW l = 25 by rw [HS2.out, if_pos z])
          clear z
          go_wp2_with fail
          go_ret
          exact ⟨by rw [R.out]; rfl, rfl⟩
  · have AF : l.all inB = false := by
      rw [Bool.eq_false_iff]
      intro q
      rw [BA.out] at q
      exact h0 q
    have R := Lib.hid (show supW l = 24 by rw [HS.out, if_pos AF])
    obtain ⟨n, hn⟩ : ∃ n, n = beyond l := ⟨_, rfl⟩
    rw [← hn] at CB nl h0
    have n0 : (0 : Int) < (n : Int) := by omega
    clear hn h0 AF
    go_enter Try.func32, Try.ntmps32
    go_wp2_with (go_at_call 51; (with_reducible refine CB.out.mono ?_); rintro e w1 ⟨rfl, rfl⟩)
    go_ret
    exact ⟨by rw [R.out]; rfl, rfl⟩

set_option maxHeartbeats 2000000 in
theorem right_any (A A2 : Option Addr) (c d : Nat) (I : InstD) (w : World) (hI : InstIs w A A2 I) :
    Calls Try.prog 20 #[instV A c A2 d I] w fun e w' => e = .returned (.int .u16 (rightD I)) ∧ Below w.heap.size w w' := by
  have hn := hI.n
  have hm := hI.m
  have RD := Lib.hid (show rightD I = (if 64 < I.sup.length ∨ 256 < I.arcs.length then 20 else if arcsW I.sup.length I.arcs ≠ 0 then arcsW I.sup.length I.arcs else supW I.sup) from rfl)
  have HI := Lib.hid hI
  clear hI
  by_cases h64 : 64 < I.sup.length
  · have R := Lib.hid (show rightD I = 20 by rw [RD.out, if_pos (Or.inl h64)])
    go_enter Try.func20, Try.ntmps20
    go_wp2_with fail
    go_ret
    exact ⟨by rw [R.out]; rfl, (Below.refl _ _).alloc (Nat.le_refl _) _⟩
  · by_cases h256 : 256 < I.arcs.length
    · have R := Lib.hid (show rightD I = 20 by rw [RD.out, if_pos (Or.inr h256)])
      go_enter Try.func20, Try.ntmps20
      go_wp2_with fail
      go_ret
      exact ⟨by rw [R.out]; rfl, (Below.refl _ _).alloc (Nat.le_refl _) _⟩
    · rw [if_neg (by omega)] at RD
      go_enter Try.func20, Try.ntmps20
      go_wp2_with fail
      generalize hW : w.alloc _ = W1
      have BX := Lib.hid (show Box2 W1 w.heap.size (.slice A I.sup.length c) (.slice A2 I.arcs.length d) by rw [← hW]; exact box2_new _ _ _ _)
      have B1 := Lib.hid (show Below w.heap.size w W1 by rw [← hW]; exact (Below.refl _ _).alloc (Nat.le_refl _) _)
      clear hW
      go_loopw [19] (fun q u => RightRel W1 I q u) (fun q _ => I.arcs.length - (intOf q).toNat)
      case atStart => exact ⟨0, by omega, rfl, rfl, Below.refl _ _⟩
      case round =>
        obtain ⟨k, hk, rfl, ha, hb⟩ := hrel
        have HA := Lib.hid ha
        have HB := Lib.hid hb
        have bx := BX.out.later hb
        obtain ⟨b0, b1, lt0⟩ := bx
        clear ha hb
        by_cases hlt : k < I.arcs.length
        · obtain ⟨ba, oa, ea, lba, ca⟩ := arcs_at (HI.out.later (B1.out.trans (HB.out.mono B1.out.size))).arcs (by omega)
          obtain ⟨x1, x2, x3, x4, x5⟩ := ca k hlt
          have i0 : (0 : Int) ≤ (k : Int) := by omega
          have i1 : (k : Int) < (I.arcs.length : Int) := by omega
          obtain ⟨x, hx⟩ : ∃ x, x = I.arcs[k] := ⟨_, rfl⟩
          rw [← hx] at x1 x2 x3 x4 x5
          have HX := Lib.hid hx
          clear ca hx
          have EA := Lib.hid ea
          rw [EA.out]
          clear ea
          have AC := Lib.hid (fun w => warc_any x (I.sup.length : Int) w)
          obtain ⟨e, he⟩ : ∃ e, e = arcW I.sup.length x := ⟨_, rfl⟩
          rw [← he] at AC
          have HE := Lib.hid he
          clear he
          by_cases z : e = 0
          · have t1 : (e != 0) = false := by simp [z]
            have HZ := Lib.hid z
            clear z
            go_wp2_with (go_at_call 31; (with_reducible refine (AC.out _).mono ?_); rintro e' w2 ⟨rfl, hb2⟩)
            have E := arcsW_snoc I.sup.length x (I.arcs.take k) HA.out
            rw [HX.out, ← List.take_succ_eq_append_getElem hlt, ← HX.out, ← HE.out, HZ.out] at E
            exact ⟨⟨k + 1, by omega, by simp, E, chain2 (HB.out.alloc HB.out.size _) hb2⟩, by simp [intOf]; omega⟩
          · have t1 : (e != 0) = true := by simp [z]
            have R := Lib.hid (show rightD I = e by
              have E := arcsW_first I.sup.length x (I.arcs.drop (k + 1)) (by rw [← HE.out]; exact z) (I.arcs.take k) HA.out
              rw [HX.out, List.getElem_cons_drop, List.take_append_drop, ← HX.out, ← HE.out] at E
              rw [RD.out, E, if_pos z])
            clear z
            go_wp2_with (go_at_call 31; (with_reducible refine (AC.out _).mono ?_); rintro e' w2 ⟨rfl, hb2⟩)
            go_ret
            exact ⟨by rw [R.out]; rfl, chain2 B1.out (chain2 (HB.out.alloc HB.out.size _) hb2)⟩
        · obtain rfl : k = I.arcs.length := by omega
          have HA2 := HA.out
          rw [List.take_length] at HA2
          rw [HA2] at RD
          simp only [ne_eq, not_true_eq_false, if_false] at RD
          clear HA2
          have SU := Lib.hid (wsup_any A c I.sup (by omega) wr (HI.out.later (chain2 B1.out HB.out)).sup)
          rw [← RD.out] at SU
          go_wp2_with (go_at_call 32; (with_reducible refine SU.out.mono ?_); rintro e' w2 ⟨rfl, rfl⟩)
          go_ret
          exact ⟨rfl, chain2 B1.out HB.out⟩
end Go.Proofs.Ytekjbpdfginplaa.Inst
