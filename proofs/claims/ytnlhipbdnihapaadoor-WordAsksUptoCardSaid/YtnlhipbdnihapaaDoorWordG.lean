/- Contracts of the document's answers for layer 2: counts; the laws' own helpers. -/
import Derived.Test.YtnlhipbdnihapaaDoorWordF
namespace Go.Proofs.YtnlhipbdnihapaaDoor.Word
open Go.RowKit

/-- What Count tells. -/
def countB (l : Bytes) (most : Int) : Int × Bool := if (numB l).2 ≠ 0 ∨ (numB l).1 < 0 ∨ most < (numB l).1 then (0, false) else ((numB l).1, true)
theorem countB_eq (l : Bytes) (most n e : Int) (h : numB l = (n, e)) : countB l most = if e ≠ 0 ∨ n < 0 ∨ most < n then (0, false) else (n, true) := by
  unfold countB; rw [h]

theorem count_any (l : Bytes) (most : Int) (hl : l.length ≤ 1048576) (w : World) :
    Calls Tryd.prog 23 #[str l, .int .i64 most] w fun e w' => e = .returned (.tuple #[.int .i64 (countB l most).1, .bool (countB l most).2]) ∧ w = w' := by
  have NA := Lib.hid (num_any l hl)
  have bd := numB_bd l
  obtain ⟨n, e, h⟩ : ∃ n e, numB l = (n, e) := ⟨_, _, rfl⟩
  rw [h] at NA bd
  have C := Lib.hid (countB_eq l most n e h)
  obtain ⟨bd0, bd1⟩ := bd
  simp only at bd0 bd1
  clear h
  by_cases c1 : e = 0
  · have t1 : (e != 0) = false := by simp [c1]
    by_cases c2 : n < 0
    · have R := Lib.hid (show countB l most = (0, false) by rw [C.out, if_pos (Or.inr (Or.inl c2))])
      clear c1
      go_enter Tryd.func23, Tryd.ntmps23
      go_wp2_with (go_at_call 22; refine (NA.out _).mono ?_; rintro e w' ⟨rfl, rfl⟩)
      go_ret2
      exact ⟨by rw [R.out]; rfl, rfl⟩
    · by_cases c3 : most < n
      · have R := Lib.hid (show countB l most = (0, false) by rw [C.out, if_pos (Or.inr (Or.inr c3))])
        clear c1
        go_enter Tryd.func23, Tryd.ntmps23
        go_wp2_with (go_at_call 22; refine (NA.out _).mono ?_; rintro e w' ⟨rfl, rfl⟩)
        go_ret2
        exact ⟨by rw [R.out]; rfl, rfl⟩
      · have R := Lib.hid (show countB l most = (n, true) by
          rw [C.out, if_neg]
          rintro (x | x | x)
          · exact x c1
          · exact c2 x
          · exact c3 x)
        clear c1
        go_enter Tryd.func23, Tryd.ntmps23
        go_wp2_with (go_at_call 22; refine (NA.out _).mono ?_; rintro e w' ⟨rfl, rfl⟩)
        go_ret2
        exact ⟨by rw [R.out]; rfl, rfl⟩
  · have t1 : (e != 0) = true := by simp [c1]
    have R := Lib.hid (show countB l most = (0, false) by rw [C.out, if_pos (Or.inl c1)])
    clear c1
    go_enter Tryd.func23, Tryd.ntmps23
    go_wp2_with (go_at_call 22; refine (NA.out _).mono ?_; rintro e w' ⟨rfl, rfl⟩)
    go_ret2
    exact ⟨by rw [R.out]; rfl, rfl⟩
end Go.Proofs.YtnlhipbdnihapaaDoor.Word
