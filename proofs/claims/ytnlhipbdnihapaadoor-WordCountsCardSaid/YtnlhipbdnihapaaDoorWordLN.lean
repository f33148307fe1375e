/- What the landed layer 2 does, as contracts: numbers, counts. -/
import Derived.Test.YtnlhipbdnihapaaDoorWordLT
namespace Go.Proofs.YtnlhipbdnihapaaDoor.Word
open Go.RowKit

/-- What is behind the sign, if there is one. -/
def unsB (l : Bytes) : Bytes := if l.head? = some 45 then l.drop 1 else l
theorem unsB_len (l : Bytes) : (unsB l).length ≤ l.length := by
  unfold unsB
  split
  · rw [List.length_drop]; omega
  · omega
theorem formB_uns (l : Bytes) (h : l ≠ [48]) : formB l = formD (unsB l) := by
  unfold formB unsB
  rw [decide_eq_false h, Bool.false_or]
  split <;> rfl

theorem trimp_any (l : Bytes) (w : World) : Calls Tryd.prog 29 #[str l, .string ⟨#[45]⟩] w fun e w' => e = .returned (str (unsB l)) ∧ w = w' := by
  refine (Tryd.strings_TrimPrefix ⟨l.toArray⟩ ⟨#[45]⟩ w).mono ?_
  rintro e w' ⟨rfl, rfl⟩
  refine ⟨?_, rfl⟩
  show Ending.returned (.string ⟨(Lib.trimPrefix l [45]).toArray⟩) = _
  rw [trimPrefix_minus]
  rfl

/-- What ParseInt does with a text of a number's form: the number and no error; 'some number' and an error that is there. -/
def Parses (l : Bytes) (w : World) (e : Ending) (w' : World) : Prop :=
  Below w.heap.size w w' ∧ ((∃ n, numB l = (n, 0) ∧ e = .returned (.tuple #[.int .i64 n, .nilIface])) ∨ (numB l = (0, 11) ∧ ∃ k t N, e = .returned (.tuple #[.int .i64 k, .iface t (.pointer (some ⟨N, 0, none⟩))])))
theorem parse_any (l : Bytes) (hl : l.length ≤ 1048576) (h : formB l = true) (w : World) (hL : Lw w) : Calls Tryd.prog 30 #[str l, .int .i64 10, .int .i64 64] w (Parses l w) := by
  have hs : (⟨l.toArray⟩ : ByteArray).size = l.length := by simp [ByteArray.size]
  rcases parse_form l h with ⟨n, h1, h2⟩ | ⟨h1, h2⟩
  · refine (Tryd.strconv_ParseInt_10_at64_ok ⟨l.toArray⟩ (by rw [hs]; omega) n h2 w).mono ?_
    rintro e w' ⟨rfl, hw⟩
    refine ⟨?_, Or.inl ⟨n, h1, rfl⟩⟩
    rcases hw with rfl | ⟨t, rfl⟩
    · exact Below.refl _ _
    · exact Go.Joins.below_bytesWorld _ _ _ _ (Nat.le_refl _)
  · obtain ⟨_, ⟨tp, p, hv⟩, _⟩ := hL
    refine (Tryd.strconv_ParseInt_10_at64_range_var ⟨l.toArray⟩ (by rw [hs]; omega) h2 tp p w hv).mono ?_
    rintro e w' ⟨N, rfl, _, _, hb⟩
    exact ⟨hb, Or.inr ⟨h1, _, _, N, rfl⟩⟩

/-- What Number does. -/
def Numbers (l : Bytes) (w : World) (e : Ending) (w' : World) : Prop := e = .returned (.tuple #[.int .i64 (numB l).1, .int .u16 (numB l).2]) ∧ Below w.heap.size w w'

set_option maxHeartbeats 1000000 in
theorem lnum_zero (w : World) (hL : Lw w) : Calls Tryd.prog 17 #[str [48]] w (Numbers [48] w) := by
  have P := Lib.hid (parse_any [48] (by decide) (by decide +kernel) w hL)
  have Z := Lib.hid (show numB [48] = (0, 0) by decide +kernel)
  go_enter Tryd.func17, Tryd.ntmps17
  go_wp2_with (go_at_call 30; refine P.out.mono ?_; rintro e w' ⟨hb, ⟨n, hn, rfl⟩ | ⟨hn, k, t, N, rfl⟩⟩)
  · rw [Z.out] at hn
    cases hn
    have HB := Lib.hid hb
    clear hb
    go_wp2_with fail
    go_ret2
    exact ⟨by rw [Z.out]; rfl, HB.out⟩
  · rw [Z.out] at hn
    cases hn

set_option maxHeartbeats 2000000 in
theorem lnum_any (l : Bytes) (hl : l.length ≤ 1048576) (w : World) (hL : Lw w) : Calls Tryd.prog 17 #[str l] w fun e w' => e = .returned (.tuple #[.int .i64 (numB l).1, .int .u16 (numB l).2]) ∧ Below w.heap.size w w' := by
  by_cases h0 : l = [48]
  · subst h0
    exact lnum_zero w hL
  · have f1 : (l != [48]) = true := by simp [h0]
    have f2 : (l == [48]) = false := by simp [h0]
    have T := Lib.hid (trimp_any l w)
    have C := Lib.hid (counts_any (unsB l) (by have := unsB_len l; omega) w)
    have HF := Lib.hid (formB_uns l h0)
    have HL := Lib.hid hL
    clear h0 hL
    by_cases hf : formB l = true
    · rw [← HF.out, hf] at C
      have P := Lib.hid (fun w hL => parse_any l hl hf w hL)
      clear hf
      go_enter Tryd.func17, Tryd.ntmps17
      go_wp2_with (first
        | (go_at_call 29; (with_reducible refine T.out.mono ?_); rintro e w' ⟨rfl, rfl⟩)
        | (go_at_call 28; (with_reducible refine C.out.mono ?_); rintro e w1 ⟨rfl, hb1⟩)
        | (go_at_call 30; refine (P.out _ (HL.out.later hb1)).mono ?_; rintro e w2 ⟨hb2, ⟨n, hn, rfl⟩ | ⟨hn, k, t, N, rfl⟩⟩))
      · have HN := Lib.hid hn
        have HB := Lib.hid (chain2 hb1 hb2)
        clear hn hb1 hb2
        go_wp2_with fail
        go_ret2
        exact ⟨by rw [HN.out]; rfl, HB.out⟩
      · have HN := Lib.hid hn
        have HB := Lib.hid (chain2 hb1 hb2)
        clear hn hb1 hb2
        go_wp2_with fail
        go_ret2
        exact ⟨by rw [HN.out]; rfl, HB.out⟩
    · have hf2 : formB l = false := by simpa using hf
      have HN := Lib.hid (show numB l = (0, 10) by unfold numB; rw [if_neg hf])
      rw [← HF.out, hf2] at C
      clear hf hf2
      go_enter Tryd.func17, Tryd.ntmps17
      go_wp2_with (first
        | (go_at_call 29; (with_reducible refine T.out.mono ?_); rintro e w' ⟨rfl, rfl⟩)
        | (go_at_call 28; (with_reducible refine C.out.mono ?_); rintro e w1 ⟨rfl, hb1⟩))
      go_ret2
      exact ⟨by rw [HN.out]; rfl, hb1⟩

theorem lcount_any (l : Bytes) (most : Int) (hl : l.length ≤ 1048576) (w : World) (hL : Lw w) :
    Calls Tryd.prog 21 #[str l, .int .i64 most] w fun e w' => e = .returned (.tuple #[.int .i64 (countB l most).1, .bool (countB l most).2]) ∧ Below w.heap.size w w' := by
  have NA := Lib.hid (lnum_any l hl w hL)
  have bd := numB_bd l
  obtain ⟨n, e, h⟩ : ∃ n e, numB l = (n, e) := ⟨_, _, rfl⟩
  rw [h] at NA bd
  have C := Lib.hid (countB_eq l most n e h)
  obtain ⟨bd0, bd1⟩ := bd
  simp only at bd0 bd1
  clear h
  by_cases c1 : e = 0
  · have t1 : (e != 0) = false := by simp [c1]
    by_cases c2 : n < 0
    · have R := Lib.hid (show countB l most = (0, false) by rw [C.out, if_pos (Or.inr (Or.inl c2))])
      clear c1
      go_enter Tryd.func21, Tryd.ntmps21
      go_wp2_with (go_at_call 17; refine NA.out.mono ?_; rintro e w' ⟨rfl, hb1⟩)
      go_ret2
      exact ⟨by rw [R.out]; rfl, hb1⟩
    · by_cases c3 : most < n
      · have R := Lib.hid (show countB l most = (0, false) by rw [C.out, if_pos (Or.inr (Or.inr c3))])
        clear c1
        go_enter Tryd.func21, Tryd.ntmps21
        go_wp2_with (go_at_call 17; refine NA.out.mono ?_; rintro e w' ⟨rfl, hb1⟩)
        go_ret2
        exact ⟨by rw [R.out]; rfl, hb1⟩
      · have R := Lib.hid (show countB l most = (n, true) by
          rw [C.out, if_neg]
          rintro (x | x | x)
          · exact x c1
          · exact c2 x
          · exact c3 x)
        clear c1
        go_enter Tryd.func21, Tryd.ntmps21
        go_wp2_with (go_at_call 17; refine NA.out.mono ?_; rintro e w' ⟨rfl, hb1⟩)
        go_ret2
        exact ⟨by rw [R.out]; rfl, hb1⟩
  · have t1 : (e != 0) = true := by simp [c1]
    have R := Lib.hid (show countB l most = (0, false) by rw [C.out, if_pos (Or.inl c1)])
    clear c1
    go_enter Tryd.func21, Tryd.ntmps21
    go_wp2_with (go_at_call 17; refine NA.out.mono ?_; rintro e w' ⟨rfl, hb1⟩)
    go_ret2
    exact ⟨by rw [R.out]; rfl, hb1⟩
end Go.Proofs.YtnlhipbdnihapaaDoor.Word
