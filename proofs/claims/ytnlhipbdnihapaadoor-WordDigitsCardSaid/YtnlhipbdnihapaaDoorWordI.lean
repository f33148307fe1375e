/- The laws' own helper: all that is asked of a text. -/
import Derived.Test.YtnlhipbdnihapaaDoorWordH
namespace Go.Proofs.YtnlhipbdnihapaaDoor.Word
open Go.RowKit

theorem linesB_len (l : Bytes) : (linesB l).length ≤ l.length + 1 := by
  have := parts_len 10 l
  unfold linesB cutB
  split
  · omega
  · simp; omega
theorem wordsB_len (l : Bytes) : (wordsB l).length ≤ l.length + 1 := by
  have := parts_len 32 l
  unfold wordsB cutB
  simp; omega
theorem numB_err (l : Bytes) : 0 ≤ (numB l).2 ∧ (numB l).2 ≤ 11 := by
  unfold numB
  split
  · split <;> split <;> simp only <;> omega
  · simp only; omega

/-- Two readings of the same. -/
theorem same_self (a b : Option Addr) (xs : List Bytes) (c d : Nat) (hx : xs.length ≤ maxLen) (w : World) (ha : Strs w w.heap.size a xs) (hb : Strs w w.heap.size b xs) :
    Calls Tryd.prog 18 #[.slice a xs.length c, .slice b xs.length d] w fun e w' => e = .returned (.bool true) ∧ Below w.heap.size w w' := by
  have h := same_any a b xs xs _ _ c d rfl rfl hx w ha hb
  rw [decide_eq_true rfl] at h
  exact h

theorem small_maxLen {n : Nat} (h : n ≤ 1048577) : n ≤ maxLen := by unfold maxLen; omega

set_option maxHeartbeats 1000000 in
theorem asks_any (l : Bytes) (most : Int) (hl : l.length ≤ 1048576) (w : World) (hL : Lw w) :
    Calls Tryd.prog 11 #[str l, .int .i64 most] w fun e w' => e = .returned (.bool true) ∧ Below w.heap.size w w' := by
  have HB := Lib.hid (Below.refl w.heap.size w)
  have HL := Lib.hid (fun w' (h : Below w.heap.size w w') => hL.later h)
  clear hL
  have N1 := Lib.hid (fun w h => lnum_any l hl w h)
  have N2 := Lib.hid (fun w => num_any l hl w)
  have C1 := Lib.hid (fun w h => lcount_any l most hl w h)
  have C2 := Lib.hid (fun w => count_any l most hl w)
  have L1 := Lib.hid (fun w h => llines_any l hl w h)
  have L2 := Lib.hid (fun w => lines_any l hl w)
  have W1 := Lib.hid (fun w h => lwords_any l hl w h)
  have W2 := Lib.hid (fun w => words_any l hl w)
  have bl := small_maxLen (show (linesB l).length ≤ 1048577 by have := linesB_len l; omega)
  have bw := small_maxLen (show (wordsB l).length ≤ 1048577 by have := wordsB_len l; omega)
  have be := numB_err l
  obtain ⟨n, e, h⟩ : ∃ n e, numB l = (n, e) := ⟨_, _, rfl⟩
  rw [h] at N1 N2 be
  obtain ⟨c, b, h2⟩ : ∃ c b, countB l most = (c, b) := ⟨_, _, rfl⟩
  rw [h2] at C1 C2
  obtain ⟨e0, e1⟩ := be
  simp only at e0 e1
  obtain ⟨xs, hx⟩ : ∃ xs, xs = linesB l := ⟨_, rfl⟩
  obtain ⟨ys, hy⟩ : ∃ ys, ys = wordsB l := ⟨_, rfl⟩
  rw [← hx] at L1 L2 bl
  rw [← hy] at W1 W2 bw
  have BL := Lib.hid bl
  have BW := Lib.hid bw
  clear h h2 hx hy hl bl bw
  go_enter Tryd.func11, Tryd.ntmps11
  go_upto_region 5 with (first
    | (go_at_call 17; refine (N1.out _ (HL.out _ HB.out)).mono ?_; rintro e w1 ⟨rfl, hb1⟩; replace HB := Lib.hid (chain2 HB.out hb1))
    | (go_at_call 22; refine (N2.out _).mono ?_; rintro e w2 ⟨rfl, rfl⟩)
    | (go_at_call 21; refine (C1.out _ (HL.out _ HB.out)).mono ?_; rintro e w3 ⟨rfl, hb3⟩; replace HB := Lib.hid (chain2 HB.out hb3))
    | (go_at_call 23; refine (C2.out _).mono ?_; rintro e w4 ⟨rfl, rfl⟩))
  go_wp2_with (first
    | (go_at_call 20; refine (L1.out _ (HL.out _ HB.out)).mono ?_; rintro e w5 ⟨A1, c1, rfl, _, _, s1, hb5⟩; replace HB := Lib.hid (chain2 HB.out hb5))
    | (go_at_call 24; refine (L2.out _).mono ?_; rintro e w6 ⟨A2, c2, rfl, _, _, s2, hb6⟩; replace HB := Lib.hid (chain2 HB.out hb6); (have s1' := s1.later (Nat.le_refl _) hb6))
    | (go_at_call 19; refine (W1.out _ (HL.out _ HB.out)).mono ?_; rintro e w8 ⟨A3, c3, rfl, _, _, s3, hb8⟩; replace HB := Lib.hid (chain2 HB.out hb8))
    | (go_at_call 25; refine (W2.out _).mono ?_; rintro e w9 ⟨A4, c4, rfl, _, _, s4, hb9⟩; replace HB := Lib.hid (chain2 HB.out hb9); (have s3' := s3.later (Nat.le_refl _) hb9))
    | (go_at_call 18; (with_reducible refine (same_self _ _ _ _ _ BL.out _ s1' s2).mono ?_); rintro e w7 ⟨rfl, hb7⟩; replace HB := Lib.hid (chain2 HB.out hb7))
    | (go_at_call 18; (with_reducible refine (same_self _ _ _ _ _ BW.out _ s3' s4).mono ?_); rintro e w10 ⟨rfl, hb10⟩; replace HB := Lib.hid (chain2 HB.out hb10)))
  go_ret
  exact ⟨rfl, HB.out⟩
end Go.Proofs.YtnlhipbdnihapaaDoor.Word
