/- The laws' own helper: the chapter's examples. -/
import Derived.Test.YtnlhipbdnihapaaDoorWordLL
namespace Go.Proofs.YtnlhipbdnihapaaDoor.Word
open Go.RowKit

theorem numB_z : numB [45, 48] = (0, 10) := by decide +kernel
theorem numB_low : numB [45, 57, 50, 50, 51, 51, 55, 50, 48, 51, 54, 56, 53, 52, 55, 55, 53, 56, 48, 56] = (-9223372036854775808, 0) := by decide +kernel
theorem numB_high : numB [57, 50, 50, 51, 51, 55, 50, 48, 51, 54, 56, 53, 52, 55, 55, 53, 56, 48, 56] = (0, 11) := by decide +kernel
theorem wordsB_ab : wordsB [97, 32, 32, 98] = [[97], [], [98]] := by decide +kernel
theorem linesB_a : linesB [97, 10] = [[97]] := by decide +kernel
theorem textB_7 : textB (-7) = [45, 55] := by decide +kernel

theorem known1 (w : World) (hL : Lw w) : Calls Tryd.prog 17 #[.string ⟨#[45, 48]⟩] w fun e w' => e = .returned (.tuple #[.int .i64 0, .int .u16 10]) ∧ Below w.heap.size w w' := by
  have h := lnum_any [45, 48] (by decide) w hL
  rw [numB_z] at h
  exact h
theorem known2 (w : World) (hL : Lw w) : Calls Tryd.prog 17 #[.string ⟨#[45, 57, 50, 50, 51, 51, 55, 50, 48, 51, 54, 56, 53, 52, 55, 55, 53, 56, 48, 56]⟩] w fun e w' => e = .returned (.tuple #[.int .i64 (-9223372036854775808), .int .u16 0]) ∧ Below w.heap.size w w' := by
  have h := lnum_any [45, 57, 50, 50, 51, 51, 55, 50, 48, 51, 54, 56, 53, 52, 55, 55, 53, 56, 48, 56] (by decide) w hL
  rw [numB_low] at h
  exact h
theorem known3 (w : World) (hL : Lw w) : Calls Tryd.prog 17 #[.string ⟨#[57, 50, 50, 51, 51, 55, 50, 48, 51, 54, 56, 53, 52, 55, 55, 53, 56, 48, 56]⟩] w fun e w' => e = .returned (.tuple #[.int .i64 0, .int .u16 11]) ∧ Below w.heap.size w w' := by
  have h := lnum_any [57, 50, 50, 51, 51, 55, 50, 48, 51, 54, 56, 53, 52, 55, 55, 53, 56, 48, 56] (by decide) w hL
  rw [numB_high] at h
  exact h
theorem known4 (w : World) (hL : Lw w) : Calls Tryd.prog 19 #[.string ⟨#[97, 32, 32, 98]⟩] w fun e w' => ∃ A cap, e = .returned (.slice A 3 cap) ∧ Strs w' w'.heap.size A [[97], [], [98]] ∧ Below w.heap.size w w' := by
  have h := lwords_any [97, 32, 32, 98] (by decide) w hL
  rw [wordsB_ab] at h
  refine h.mono ?_
  rintro e w' ⟨A, cap, he, _, _, hs, hb⟩
  exact ⟨A, cap, he, hs, hb⟩
theorem known5 (w : World) (hL : Lw w) : Calls Tryd.prog 13 #[.int .i64 (-7)] w fun e w' => e = .returned (.string ⟨#[45, 55]⟩) ∧ Below w.heap.size w w' := by
  have h := ltext_any (-7) (by decide) (by decide) w hL
  rw [textB_7] at h
  exact h
theorem known6 (w : World) (hL : Lw w) : Calls Tryd.prog 20 #[.string ⟨#[97, 10]⟩] w fun e w' => ∃ A cap, e = .returned (.slice A 1 cap) ∧ Below w.heap.size w w' := by
  have h := llines_any [97, 10] (by decide) w hL
  rw [linesB_a] at h
  refine h.mono ?_
  rintro e w' ⟨A, cap, he, _, _, hs, hb⟩
  exact ⟨A, cap, he, hb⟩

theorem known7 (w : World) (A : Option Addr) (c : Nat) (h : Strs w w.heap.size A [[97], [], [98]]) :
    Calls Tryd.prog 18 #[.slice A 3 c, .slice (some ⟨w.heap.size, 0, none⟩) 3 3] (w.alloc (Obj.cells #[.string ⟨#[97]⟩, .string ⟨#[]⟩, .string ⟨#[98]⟩] 9)) fun e w' => e = .returned (.bool true) ∧ Below w.heap.size w w' := by
  have h0 : Strs (w.alloc (Obj.cells #[.string ⟨#[97]⟩, .string ⟨#[]⟩, .string ⟨#[98]⟩] 9)) (w.alloc (Obj.cells #[.string ⟨#[97]⟩, .string ⟨#[]⟩, .string ⟨#[98]⟩] 9)).heap.size A [[97], [], [98]] := h.later (Nat.le_refl _) ((Below.refl _ _).alloc (Nat.le_refl _) _)
  have h1 := strs_row w 9 [[97], [], [98]]
  refine (same_any A (some ⟨w.heap.size, 0, none⟩) [[97], [], [98]] [[97], [], [98]] 3 3 c 3 rfl rfl (by decide) _ h0 h1).mono ?_
  rintro e w' ⟨he, hb⟩
  refine ⟨he, ((Below.refl _ _).alloc (Nat.le_refl _) _).trans (hb.mono (by simp))⟩

theorem known_any (w : World) (hL : Lw w) : Calls Tryd.prog 10 #[] w fun e w' => e = .returned (.bool true) ∧ Below w.heap.size w w' := by
  have HB := Lib.hid (Below.refl w.heap.size w)
  have HL := Lib.hid (fun w' (h : Below w.heap.size w w') => hL.later h)
  clear hL
  go_enter Tryd.func10, Tryd.ntmps10
  go_upto_region 4 with (first
    | (go_at_call 17; (with_reducible refine (known1 _ (HL.out _ HB.out)).mono ?_); rintro e w1 ⟨rfl, hb1⟩; replace HB := Lib.hid (chain2 HB.out hb1); clear hb1)
    | (go_at_call 17; (with_reducible refine (known2 _ (HL.out _ HB.out)).mono ?_); rintro e w2 ⟨rfl, hb2⟩; replace HB := Lib.hid (chain2 HB.out hb2); clear hb2)
    | (go_at_call 17; (with_reducible refine (known3 _ (HL.out _ HB.out)).mono ?_); rintro e w3 ⟨rfl, hb3⟩; replace HB := Lib.hid (chain2 HB.out hb3); clear hb3))
  go_wp2_with (first
    | (go_at_call 19; (with_reducible refine (known4 _ (HL.out _ HB.out)).mono ?_); rintro e w4 ⟨A, cap, rfl, hs, hb4⟩; replace HB := Lib.hid (chain2 HB.out hb4); clear hb4)
    | (go_at_call 18; (refine (known7 _ _ _ ?_).mono ?_; assumption); rintro e w5 ⟨rfl, hb5⟩; replace HB := Lib.hid (chain2 HB.out hb5); clear hb5)
    | (go_at_call 13; (with_reducible refine (known5 _ (HL.out _ HB.out)).mono ?_); rintro e w6 ⟨rfl, hb6⟩; replace HB := Lib.hid (chain2 HB.out hb6); clear hb6)
    | (go_at_call 20; (with_reducible refine (known6 _ (HL.out _ HB.out)).mono ?_); rintro e w7 ⟨B, cap2, rfl, hb7⟩; replace HB := Lib.hid (chain2 HB.out hb7); clear hb7))
  go_ret
  exact ⟨rfl, HB.out⟩
end Go.Proofs.YtnlhipbdnihapaaDoor.Word
