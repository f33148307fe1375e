/- WordCounts, WordDigits: the walks. -/
import Derived.Test.YtnlhipbdnihapaaDoorWordQ
namespace Go.Proofs.YtnlhipbdnihapaaDoor.Word
open Go.RowKit

theorem countB_textB (k most : Int) (h0 : 0 ≤ k) (h1 : k ≤ 9223372036854775807) : countB (textB k) most = if k ≤ most then (k, true) else (0, false) := by
  rw [countB_eq _ most k 0 (numB_textB k (by omega) h1)]
  by_cases h : k ≤ most
  · rw [if_pos h, if_neg (by rintro (x | x | x) <;> omega)]
  · rw [if_neg h, if_pos (by omega)]
/-- With something ahead that is no sign of a number from 0 on, it is none. -/
theorem lead_none (z : UInt8) (hz : z = 48 ∨ z = 45 ∨ z = 43 ∨ z = 32) (k : Int) (h0 : 0 ≤ k) (h1 : k ≤ 9223372036854775807) (most : Int) : (countB (z :: textB k) most) = (0, false) := by
  have tl := textB_length k
  rcases hz with rfl | rfl | rfl | rfl
  · have hf : formB (48 :: textB k) = false := by
      unfold formB
      rw [if_neg (by simp), decide_eq_false (by
        intro q
        have := congrArg List.length q
        simp at this
        rw [this] at tl
        simp at tl), Bool.false_or]
      unfold formD
      rw [show decide (((48 : UInt8) :: textB k).head? ≠ some 48) = false from decide_eq_false (by simp), Bool.and_false]
    rw [countB_eq _ most 0 10 (by unfold numB; rw [if_neg (by rw [hf]; simp)]), if_pos (by omega)]
  · by_cases hk : k = 0
    · subst hk
      rw [countB_eq _ most 0 10 (by decide +kernel), if_pos (by omega)]
    · have e : (45 : UInt8) :: textB k = textB (-k) := by
        unfold textB
        rw [if_neg (by omega), if_pos (by omega), Int.natAbs_neg]
      rw [e, countB_eq _ most (-k) 0 (numB_textB (-k) (by omega) (by omega)), if_pos (by omega)]
  · have hf : formB (43 :: textB k) = false := by
      unfold formB
      rw [if_neg (by simp), decide_eq_false (by simp), Bool.false_or]
      unfold formD
      rw [show ((43 : UInt8) :: textB k).all isDig = false by rw [List.all_cons, show isDig 43 = false by decide +kernel, Bool.false_and], Bool.false_and, Bool.false_and]
    rw [countB_eq _ most 0 10 (by unfold numB; rw [if_neg (by rw [hf]; simp)]), if_pos (by omega)]
  · have hf : formB (32 :: textB k) = false := by
      unfold formB
      rw [if_neg (by simp), decide_eq_false (by simp), Bool.false_or]
      unfold formD
      rw [show ((32 : UInt8) :: textB k).all isDig = false by rw [List.all_cons, show isDig 32 = false by decide +kernel, Bool.false_and], Bool.false_and, Bool.false_and]
    rw [countB_eq _ most 0 10 (by unfold numB; rw [if_neg (by rw [hf]; simp)]), if_pos (by omega)]

theorem conv_one (w : World) (z : UInt8) :
    (convert 23 9 (.slice (some ⟨w.heap.size, 0, none⟩) 1 1)).run Tryd.prog (w.alloc (Obj.cells #[.int .u8 (z.toNat : Int)] 5)) = .ok (.string ⟨#[z]⟩) (w.alloc (Obj.cells #[.int .u8 (z.toNat : Int)] 5)) :=
  run_convert_bytes_back (w.alloc (Obj.cells #[.int .u8 (z.toNat : Int)] 5)) 23 9 5 ⟨w.heap.size, 0, none⟩ 1 [z] Tryd.underlying23 Tryd.underlying5 Tryd.underlying9 (by
    intro j hj
    have j0 : j = 0 := by simpa using hj
    subst j0
    exact cell_one_new w _ _ 0 _ rfl)
theorem lead_byte : ∀ (j : Nat) (h : j < 4), ((⟨#[48, 45, 43, 32]⟩ : ByteArray)[j]'h = 48 ∨ (⟨#[48, 45, 43, 32]⟩ : ByteArray)[j]'h = 45 ∨ (⟨#[48, 45, 43, 32]⟩ : ByteArray)[j]'h = 43 ∨ (⟨#[48, 45, 43, 32]⟩ : ByteArray)[j]'h = 32) := by decide +kernel

set_option maxHeartbeats 4000000 in
theorem wordcounts_at (W : World) (hL : Lw W) (k : Int) (hk : U16 k) (most : Int) (hmost : U16 most) (more : Int) (hmore : U16 more) (lead : Int) (hlead : U8 lead) (c1 c2 : Int) (b1 b2 : Bool)
    (E1 : countB (textB k) most = (c1, b1)) (E2 : countB (textB k) (most + more) = (c2, b2)) (hb : b1 = decide (k ≤ most)) (hc : if b1 = true then c1 = k ∧ c2 = k ∧ b2 = true else c1 = 0) :
    Calls Tryd.prog 6 #[.int .u16 k, .int .u16 most, .int .u16 more, .int .u8 lead] W fun e w' => e = .returned (.bool true) ∧ Below W.heap.size W w' := by
  unfold U16 at hk hmost hmore
  unfold U8 at hlead
  obtain ⟨k0, k1⟩ := hk
  obtain ⟨m0, m1⟩ := hmost
  obtain ⟨r0, r1⟩ := hmore
  obtain ⟨l0, l1⟩ := hlead
  obtain ⟨j, hj⟩ : ∃ j : Nat, lead % 4 = (j : Int) := ⟨(lead % 4).toNat, by omega⟩
  have e1 : lead.tmod 4 = (j : Int) := by rw [Int.tmod_eq_emod_of_nonneg l0]; exact hj
  have j4 : j < 4 := by omega
  have T1 := Lib.hid (fun w h => ltext_any k (by omega) (by omega) w h)
  have tx := (textB_length k).1
  have C1 := Lib.hid (fun w h => lcount_any (textB k) most (by omega) w h)
  have C2 := Lib.hid (fun w h => lcount_any (textB k) (most + more) (by omega) w h)
  rw [E1] at C1
  rw [E2] at C2
  have LB := lead_byte j j4
  have CV := Lib.hid (fun w => conv_one w ((⟨#[48, 45, 43, 32]⟩ : ByteArray)[j]'j4))
  obtain ⟨z, hz⟩ : ∃ z, z = (⟨#[48, 45, 43, 32]⟩ : ByteArray)[j]'j4 := ⟨_, rfl⟩
  have C3 : Hid (∀ w, Lw w → Calls Tryd.prog 21 #[.string ((⟨#[z]⟩ : ByteArray) ++ ⟨(textB k).toArray⟩), .int .i64 1073741824] w fun e w' => e = .returned (.tuple #[.int .i64 0, .bool false]) ∧ Below w.heap.size w w') := Lib.hid (by
    intro w hLw
    have h := lcount_any (z :: textB k) 1073741824 (by rw [List.length_cons]; omega) w hLw
    rw [lead_none z (by rw [hz]; exact LB) k k0 (by omega)] at h
    rw [show ((⟨#[z]⟩ : ByteArray) ++ ⟨(textB k).toArray⟩) = ⟨(z :: textB k).toArray⟩ from cat_cat [z] (textB k)]
    exact h)
  have J1 : Hid (∀ w, Calls Tryd.prog 15 #[.slice none 0 0, str (textB k)] w fun e w' => e = .returned (.string ⟨#[]⟩) ∧ Below w.heap.size w w') := Lib.hid (by
    intro w
    exact ljoin_any none [] 0 0 (textB k) rfl (by omega) (by intro i hi; simp [joinB]; omega) (by simp) w (fun h => absurd h (by simp)))
  have HZ := Lib.hid hz
  have HB := Lib.hid (Below.refl W.heap.size W)
  have HL := Lib.hid (fun w' (h : Below W.heap.size W w') => hL.later h)
  clear hL
  clear hj E1 E2 LB hz
  go_enter Tryd.func6, Tryd.ntmps6
  go_upto_region 4 with (first
    | (go_at_call 13; (with_reducible refine (T1.out _ (HL.out _ HB.out)).mono ?_); rintro e w1 ⟨rfl, hb1⟩; replace HB := Lib.hid (chain2 HB.out hb1))
    | (go_at_call 21; (with_reducible refine (C1.out _ (HL.out _ HB.out)).mono ?_); rintro e w1 ⟨rfl, hb1⟩; replace HB := Lib.hid (chain2 HB.out hb1))
    | (go_at_call 21; (with_reducible refine (C2.out _ (HL.out _ HB.out)).mono ?_); rintro e w1 ⟨rfl, hb1⟩; replace HB := Lib.hid (chain2 HB.out hb1)))
  have cv := CV.out w1
  rw [← HZ.out] at cv
  have hz := HZ.out.symm
  have HB2 := Lib.hid (show Below W.heap.size W (w1.alloc (Obj.cells #[.int .u8 (z.toNat : Int)] 5)) from HB.out.alloc HB.out.size _)
  go_upto_region 5 with (first
    | (go_at_call 21; (with_reducible refine (C3.out _ (HL.out _ HB2.out)).mono ?_); rintro e w2 ⟨rfl, hb2⟩; replace HB := Lib.hid (chain2 HB2.out hb2)))
  clear cv hz
  cases b1 with
  | true =>
    rw [if_pos rfl] at hc
    obtain ⟨rfl, rfl, rfl⟩ := hc
    have i0 : c2 ≤ most := of_decide_eq_true hb.symm
    clear hb
    go_wp2_with (first
      | (go_at_call 10; refine (known_any _ (HL.out _ HB.out)).mono ?_; rintro e w3 ⟨rfl, hb3⟩; replace HB := Lib.hid (chain2 HB.out hb3))
      | (go_at_call 15; (with_reducible refine (J1.out _).mono ?_); rintro e w4 ⟨rfl, hb4⟩; replace HB := Lib.hid (chain2 HB.out hb4)))
    go_ret
    exact ⟨rfl, HB.out⟩
  | false =>
    rw [if_neg (by simp)] at hc
    subst hc
    have i0 : ¬ k ≤ most := of_decide_eq_false hb.symm
    clear hb
    go_wp2_with (first
      | (go_at_call 10; refine (known_any _ (HL.out _ HB.out)).mono ?_; rintro e w3 ⟨rfl, hb3⟩; replace HB := Lib.hid (chain2 HB.out hb3))
      | (go_at_call 15; (with_reducible refine (J1.out _).mono ?_); rintro e w4 ⟨rfl, hb4⟩; replace HB := Lib.hid (chain2 HB.out hb4)))
    go_ret
    exact ⟨rfl, HB.out⟩
theorem wordcounts_walk (W : World) (hL : Lw W) (k : Int) (hk : U16 k) (most : Int) (hmost : U16 most) (more : Int) (hmore : U16 more) (lead : Int) (hlead : U8 lead) :
    Calls Tryd.prog 6 #[.int .u16 k, .int .u16 most, .int .u16 more, .int .u8 lead] W fun e w' => e = .returned (.bool true) ∧ Below W.heap.size W w' := by
  have k0 := hk.1
  have k1 := hk.2
  have r0 := hmore.1
  have E1 := countB_textB k most k0 (by omega)
  have E2 := countB_textB k (most + more) k0 (by omega)
  by_cases h : k ≤ most
  · rw [if_pos h] at E1
    rw [if_pos (by omega)] at E2
    exact wordcounts_at W hL k hk most hmost more hmore lead hlead k k true true E1 E2 (decide_eq_true h).symm (by simp)
  · rw [if_neg h] at E1
    exact wordcounts_at W hL k hk most hmost more hmore lead hlead 0 (countB (textB k) (most + more)).1 false (countB (textB k) (most + more)).2 E1 rfl (decide_eq_false h).symm (by simp)
end Go.Proofs.YtnlhipbdnihapaaDoor.Word
