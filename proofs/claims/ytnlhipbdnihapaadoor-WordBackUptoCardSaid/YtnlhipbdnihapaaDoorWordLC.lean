/- What the landed layer 2 does: is a text a digit from 1 to 9, and digits behind it: a range over the text, rune by rune. -/
import Derived.Test.YtnlhipbdnihapaaDoorWordLM
import Derived.Lib.OthersKept
import Derived.Laws.RangeAny
namespace Go.Proofs.YtnlhipbdnihapaaDoor.Word
open Go.RowKit

theorem below_iter (w : World) (s : ByteArray) (p : Nat) : Below w.heap.size w (w.iter s p) := (Below.refl _ _).alloc (Nat.le_refl _) _
theorem formD_no (l : Bytes) (k : Nat) (h : k < l.length) (hk : isDig l[k] = false) : formD l = false := by
  unfold formD
  rw [all_no l k h isDig hk, Bool.false_and, Bool.false_and]
theorem formD_nought (l : Bytes) (h : 0 < l.length) (hk : l[0] = 48) : formD l = false := by
  unfold formD
  match l, h, hk with
  | x :: r, _, hk =>
    have : x = 48 := hk
    subst this
    simp
theorem formD_yes (l : Bytes) (ha : (l.take l.length).all isDig = true) (h0 : ∀ h : 0 < l.length, l[0] ≠ 48) : formD l = !l.isEmpty := by
  rw [List.take_length] at ha
  match l, ha, h0 with
  | [], _, _ => rfl
  | x :: r, ha, h0 =>
    have hx : x ≠ 48 := h0 (by simp)
    unfold formD
    rw [ha]
    simp [hx]

theorem eq48 {x : UInt8} (h : x.toNat = 48) : x = 48 := UInt8.toNat_inj.1 h

/-- What holds at the head of the loop. -/
def CountsRel (w : World) (l : Bytes) (u : World) : Prop := ∃ k : Nat, k ≤ l.length ∧ u = w.iter ⟨l.toArray⟩ k ∧ (l.take k).all isDig = true ∧ (0 < k → ∀ h : 0 < l.length, l[0] ≠ 48)

set_option maxHeartbeats 2000000 in
theorem counts_any (l : Bytes) (hl : l.length ≤ 1048576) (w : World) :
    Calls Tryd.prog 28 #[str l] w fun e w' => e = .returned (.bool (formD l)) ∧ Below w.heap.size w w' := by
  go_enter Tryd.func28, Tryd.ntmps28
  go_wp2_with fail
  go_loopw [3] (fun _ u => CountsRel w l u) (fun _ u => l.length - u.iterPos w.heap.size)
  case atStart => exact ⟨0, by omega, rfl, by simp, fun h => absurd h (by omega)⟩
  case round =>
    obtain ⟨k, hk, rfl, ha, h0⟩ := hrel
    have HA := Lib.hid ha
    have H0 := Lib.hid h0
    clear ha h0
    by_cases hlt : k < l.length
    · have hs : k < (⟨l.toArray⟩ : ByteArray).size := by simpa [ByteArray.size] using hlt
      have bg := byte_get l k hlt
      obtain ⟨r, p, hnx, hr, hp⟩ : ∃ r p : Nat, (∀ ty, (Instr.next (.pointer (some ⟨w.heap.size, 0, none⟩)) true ty).run Tryd.prog (w.iter ⟨l.toArray⟩ k) = .ok (.tuple #[.bool true, .int .i64 (k : Int), .int .i32 (r : Int)]) (w.iter ⟨l.toArray⟩ p)) ∧
          ((l[k]'hlt).toNat < 128 ∧ r = (l[k]'hlt).toNat ∧ p = k + 1 ∨ 128 ≤ (l[k]'hlt).toNat ∧ 128 ≤ r) ∧ r ≤ 2147483647 := by
        by_cases hb : l[k].toNat < 128
        · refine ⟨l[k].toNat, k + 1, fun ty => ?_, Or.inl ⟨hb, rfl, rfl⟩, by omega⟩
          have := run_next_ascii (P := Tryd.prog) w ⟨l.toArray⟩ k ty hs (by rw [bg]; exact hb)
          rw [bg] at this
          exact this
        · refine ⟨(Utf8.decode ⟨l.toArray⟩ k).1, _, fun ty => run_next_any (P := Tryd.prog) w ⟨l.toArray⟩ k ty hs, Or.inr ⟨by omega, (decode_high ⟨l.toArray⟩ k hs (by rw [bg]; omega)).1⟩, decode_le _ _⟩
      clear bg hs
      by_cases c1 : r < 48
      · have D := Lib.hid (formD_no l k hlt (by unfold isDig; rw [show decide (48 ≤ l[k].toNat) = false from decide_eq_false (by omega)]; rfl))
        have t1 : ((r : Int) < 48) := by omega
        clear c1 hr
        go_wp2_with fail
        go_ret
        exact ⟨by rw [D.out]; rfl, below_iter _ _ _⟩
      · by_cases c2 : 57 < r
        · have D := Lib.hid (formD_no l k hlt (by unfold isDig; rw [show decide (l[k].toNat ≤ 57) = false from decide_eq_false (by omega), Bool.and_false]))
          have t1 : ¬ ((r : Int) < 48) := by omega
          have t2 : ((57 : Int) < (r : Int)) := by omega
          clear c1 c2 hr
          go_wp2_with fail
          go_ret
          exact ⟨by rw [D.out]; rfl, below_iter _ _ _⟩
        · have t1 : ¬ ((r : Int) < 48) := by omega
          have t2 : ¬ ((57 : Int) < (r : Int)) := by omega
          have hr2 : r = (l[k]'hlt).toNat ∧ p = k + 1 := by omega
          obtain ⟨rfl, rfl⟩ := hr2
          have A := Lib.hid (all_take l k hlt isDig HA.out (by unfold isDig; rw [decide_eq_true (by omega), decide_eq_true (by omega)]; rfl))
          clear c1 c2 hr
          by_cases c3 : k = 0
          · subst c3
            by_cases c4 : l[0].toNat = 48
            · have D := Lib.hid (formD_nought l hlt (eq48 c4))
              have t4 : ((l[0].toNat : Int) == 48) = true := by rw [beq_iff_eq]; omega
              clear c4
              go_wp2_with fail
              go_ret
              exact ⟨by rw [D.out]; rfl, below_iter _ _ _⟩
            · have t4 : ((l[0].toNat : Int) == 48) = false := by rw [beq_eq_false_iff_ne]; omega
              have N := Lib.hid (show ∀ h : 0 < l.length, l[0] ≠ 48 from fun h q => c4 (by rw [q]; rfl))
              clear c4
              go_wp2_with fail
              exact ⟨⟨1, by omega, rfl, A.out, fun _ => N.out⟩, by simp; omega⟩
          · have t3 : ((k : Int) == 0) = false := by rw [beq_eq_false_iff_ne]; omega
            have N := Lib.hid (H0.out (by omega))
            go_wp2_with fail
            exact ⟨⟨k + 1, by omega, rfl, A.out, fun _ => N.out⟩, by simp; omega⟩
    · obtain rfl : k = l.length := by omega
      have hs : ¬ l.length < (⟨l.toArray⟩ : ByteArray).size := by simp [ByteArray.size]
      have hnx : ∀ ty, (Instr.next (.pointer (some ⟨w.heap.size, 0, none⟩)) true ty).run Tryd.prog (w.iter ⟨l.toArray⟩ l.length) = .ok (.tuple #[.bool false]) (w.iter ⟨l.toArray⟩ l.length) := fun ty => run_next_end w ⟨l.toArray⟩ l.length ty hs
      have D := Lib.hid (formD_yes l HA.out (fun h => H0.out (by omega) h))
      clear hs
      go_wp2_with fail
      go_ret
      exact ⟨by rw [D.out]; rfl, below_iter _ _ _⟩
end Go.Proofs.YtnlhipbdnihapaaDoor.Word
