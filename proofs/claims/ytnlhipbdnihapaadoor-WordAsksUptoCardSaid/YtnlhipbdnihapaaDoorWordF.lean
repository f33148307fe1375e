/- Contracts of the document's answers for layer 2: the number of a word. -/
import Derived.Test.YtnlhipbdnihapaaDoorWordE
namespace Go.Proofs.YtnlhipbdnihapaaDoor.Word
open Go.RowKit

/-- Digits' number. -/
def valN (l : Bytes) : Nat := l.foldl (fun a x => 10 * a + (x.toNat - 48)) 0
theorem foldl_mono (l : Bytes) : ∀ a : Nat, a ≤ l.foldl (fun a x => 10 * a + (x.toNat - 48)) a := by
  induction l with
  | nil => intro a; exact Nat.le_refl _
  | cons x r ih => intro a; exact Nat.le_trans (by omega) (ih (10 * a + (x.toNat - 48)))
theorem valN_take (l : Bytes) (k : Nat) : valN (l.take k) ≤ valN l := by
  have e : valN l = (l.drop k).foldl (fun a x => 10 * a + (x.toNat - 48)) (valN (l.take k)) := by
    unfold valN
    rw [← List.foldl_append, List.take_append_drop]
  rw [e]
  exact foldl_mono _ _
theorem valN_succ (l : Bytes) (k : Nat) (h : k < l.length) : valN (l.take (k + 1)) = 10 * valN (l.take k) + (l[k].toNat - 48) := by
  rw [List.take_succ_eq_append_getElem h]
  unfold valN
  rw [List.foldl_append]
  rfl
/-- What Number tells: the number, the error. -/
def numB (l : Bytes) : Int × Int :=
  if formB l = true then
    (if l.head? = some 45 then (if valN (l.drop 1) ≤ 9223372036854775808 then (-(valN (l.drop 1) : Int), 0) else (0, 11))
     else (if valN l ≤ 9223372036854775807 then ((valN l : Int), 0) else (0, 11)))
  else (0, 10)
theorem numB_pos {l : Bytes} (h : formB l = true) (h1 : l.head? ≠ some 45) : numB l = if valN l ≤ 9223372036854775807 then ((valN l : Int), 0) else (0, 11) := by
  unfold numB; rw [if_pos h, if_neg h1]
theorem numB_neg {r : Bytes} (h : formB (45 :: r) = true) : numB (45 :: r) = if valN r ≤ 9223372036854775808 then (-(valN r : Int), 0) else (0, 11) := by
  unfold numB; rw [if_pos h, if_pos (by rfl)]; rfl
theorem formD_dig {l : Bytes} (h : formD l = true) (k : Nat) (hk : k < l.length) : 48 ≤ l[k].toNat ∧ l[k].toNat ≤ 57 := by
  unfold formD at h
  rw [Bool.and_eq_true, Bool.and_eq_true, List.all_eq_true] at h
  have := h.1.1 l[k] (List.getElem_mem hk)
  unfold isDig at this
  rw [Bool.and_eq_true, decide_eq_true_iff, decide_eq_true_iff] at this
  exact this
theorem formB_pos {l : Bytes} (h : formB l = true) (h1 : l.head? ≠ some 45) : 0 < l.length ∧ ∀ k (hk : k < l.length), 48 ≤ l[k].toNat ∧ l[k].toNat ≤ 57 := by
  unfold formB at h
  rw [Bool.or_eq_true, if_neg h1] at h
  rcases h with h | h
  · have e := of_decide_eq_true h
    subst e
    refine ⟨by simp, ?_⟩
    intro k hk
    have : k = 0 := by simp at hk; exact hk
    subst this
    show 48 ≤ (48 : UInt8).toNat ∧ (48 : UInt8).toNat ≤ 57
    decide
  · refine ⟨?_, fun k hk => formD_dig h k hk⟩
    unfold formD at h
    rw [Bool.and_eq_true, Bool.and_eq_true] at h
    have := of_decide_eq_true h.1.2
    exact List.length_pos_iff.2 this
theorem formB_neg {r : Bytes} (h : formB (45 :: r) = true) : 0 < r.length ∧ ∀ k (hk : k < r.length), 48 ≤ r[k].toNat ∧ r[k].toNat ≤ 57 := by
  unfold formB at h
  rw [if_pos (by rfl), decide_eq_false (by intro q; simp at q), Bool.false_or] at h
  refine ⟨?_, fun k hk => formD_dig h k hk⟩
  unfold formD at h
  rw [Bool.and_eq_true, Bool.and_eq_true] at h
  have := of_decide_eq_true h.1.2
  exact List.length_pos_iff.2 this

/-- What holds at the head of the loop. -/
def NumRel (l : Bytes) (s4 s6 : Value) : Prop := ∃ k V : Nat, k ≤ l.length ∧ s6 = .int .i64 (k : Int) ∧ s4 = .int .i64 (V : Int) ∧ V = valN (l.take k) ∧ V ≤ 9223372036854775807

theorem num_bad (l : Bytes) (hl : l.length ≤ 1048576) (h : formB l = false) (w : World) :
    Calls Tryd.prog 22 #[str l] w fun e w' => e = .returned (.tuple #[.int .i64 0, .int .i64 10]) ∧ w = w' := by
  have H := Lib.hid h
  clear h
  go_enter Tryd.func22, Tryd.ntmps22
  go_wp2_with (go_at_call 34; refine (form_any l hl _).mono ?_; rintro e w' ⟨rfl, rfl⟩; rw [H.out])
  go_ret2
  exact ⟨rfl, rfl⟩

set_option maxHeartbeats 1000000 in
theorem num_pos (l : Bytes) (hl : l.length ≤ 1048576) (h : formB l = true) (h1 : l.head? ≠ some 45) (w : World) :
    Calls Tryd.prog 22 #[str l] w fun e w' => e = .returned (.tuple #[.int .i64 (numB l).1, .int .i64 (numB l).2]) ∧ w = w' := by
  have H := Lib.hid h
  have N := Lib.hid (numB_pos h h1)
  have hn := (formB_pos h h1).1
  have G := Lib.hid (formB_pos h h1).2
  obtain ⟨d0, hd0⟩ : ∃ d : Nat, l[0].toNat = 48 + d := ⟨l[0].toNat - 48, by have := G.out 0 hn; omega⟩
  have d09 : d0 < 10 := by have := G.out 0 hn; omega
  have b0 : ((⟨l.toArray⟩ : ByteArray)[0].toNat : Int) = 48 + (d0 : Int) := by rw [byte_get l 0 hn]; omega
  have t0 : ((48 : Int) + (d0 : Int) == 45) = false := by simp; omega
  clear h h1 hd0
  go_enter Tryd.func22, Tryd.ntmps22
  go_wp2_with (go_at_call 34; refine (form_any l hl _).mono ?_; rintro e w' ⟨rfl, rfl⟩; rw [H.out])
  clear b0 t0
  go_loop [4, 6] (fun n q => NumRel l n q) (fun _ q => l.length - (intOf q).toNat)
  case atStart => exact ⟨0, 0, by omega, rfl, rfl, rfl, by omega⟩
  case round =>
    obtain ⟨k, V, hk, rfl, rfl, hV, hb⟩ := hrel
    have HV := Lib.hid hV
    clear hV
    by_cases hlt : k < l.length
    · obtain ⟨d, hd⟩ : ∃ d : Nat, l[k].toNat = 48 + d := ⟨l[k].toNat - 48, by have := G.out k hlt; omega⟩
      have d9 : d < 10 := by have := G.out k hlt; omega
      have b1 : ((⟨l.toArray⟩ : ByteArray)[k].toNat : Int) = 48 + (d : Int) := by rw [byte_get l k hlt]; omega
      have t1 : ((48 : Int) + (d : Int) == 45) = false := by simp; omega
      have e0 : (48 : Int) + (d : Int) - 48 = (d : Int) := by omega
      obtain ⟨q, hq⟩ : ∃ q : Nat, q = (9223372036854775807 - d) / 10 := ⟨_, rfl⟩
      have q9 : q ≤ 922337203685477580 := by omega
      have e1 : ((9223372036854775807 : Int) - (d : Int)).tdiv 10 = (q : Int) := by rw [Int.tdiv_eq_ediv_of_nonneg (by omega)]; omega
      have S := Lib.hid (show valN (l.take (k + 1)) = 10 * V + d by rw [valN_succ l k hlt, ← HV.out, hd]; omega)
      by_cases c : V ≤ q
      · have i1 : ¬ (q : Int) < (V : Int) := by omega
        have i2 : 10 * (V : Int) + (d : Int) ≤ 9223372036854775807 := by omega
        clear hd hq c
        go_wp2_with fail
        exact ⟨⟨k + 1, 10 * V + d, by omega, by simp, by simp, S.out.symm, by omega⟩, by simp [intOf]; omega⟩
      · have i1 : (q : Int) < (V : Int) := by omega
        have O := Lib.hid (show numB l = (0, 11) by
          rw [N.out, if_neg]
          have := valN_take l (k + 1)
          rw [S.out] at this
          omega)
        clear hd hq c
        go_wp2_with fail
        go_ret2
        exact ⟨by rw [O.out]; rfl, rfl⟩
    · obtain rfl : k = l.length := by omega
      have O := Lib.hid (show numB l = ((V : Int), 0) by
        have q := HV.out
        rw [List.take_length] at q
        rw [N.out, ← q, if_pos hb])
      go_wp2_with fail
      go_ret2
      exact ⟨by rw [O.out]; rfl, rfl⟩
/-- What holds at the head of the loop, where there is a sign. -/
def NumNegRel (l r : Bytes) (s4 s6 : Value) : Prop := ∃ k V : Nat, k ≤ l.length ∧ s6 = .int .i64 (k : Int) ∧ s4 = .int .i64 (-(V : Int)) ∧ V = valN (r.take (k - 1)) ∧ V ≤ 9223372036854775808

set_option maxHeartbeats 1000000 in
theorem num_neg (l r : Bytes) (hl : l.length ≤ 1048576) (h : formB l = true) (e : l = 45 :: r) (w : World) :
    Calls Tryd.prog 22 #[str l] w fun e w' => e = .returned (.tuple #[.int .i64 (numB l).1, .int .i64 (numB l).2]) ∧ w = w' := by
  have H := Lib.hid h
  have N := Lib.hid (show numB l = if valN r ≤ 9223372036854775808 then (-(valN r : Int), 0) else (0, 11) by subst e; exact numB_neg h)
  have hn : 0 < l.length := by rw [e]; simp
  have hlr : l.length = r.length + 1 := by rw [e]; simp
  have G := Lib.hid (show ∀ k (hk : k < r.length), 48 ≤ r[k].toNat ∧ r[k].toNat ≤ 57 by subst e; exact (formB_neg h).2)
  have R := Lib.hid (show ∀ k (hk : k < r.length) (hk2 : k + 1 < l.length), l[k + 1] = r[k] by subst e; intro k hk hk2; rfl)
  have Z := Lib.hid (show l[0] = 45 by subst e; rfl)
  have t0 : (((⟨l.toArray⟩ : ByteArray)[0].toNat : Int) == 45) = true := by
    rw [byte_get l 0 hn, Z.out]; rfl
  clear h e
  go_enter Tryd.func22, Tryd.ntmps22
  go_wp2_with (go_at_call 34; refine (form_any l hl _).mono ?_; rintro e w' ⟨rfl, rfl⟩; rw [H.out])
  clear t0
  go_loop [4, 6] (fun n q => NumNegRel l r n q) (fun _ q => l.length - (intOf q).toNat)
  case atStart => exact ⟨0, 0, by omega, rfl, rfl, rfl, by omega⟩
  case round =>
    obtain ⟨k, V, hk, rfl, rfl, hV, hb⟩ := hrel
    have HV := Lib.hid hV
    clear hV
    by_cases hlt : k < l.length
    · by_cases hk0 : k = 0
      · subst hk0
        have t0 : (((⟨l.toArray⟩ : ByteArray)[0].toNat : Int) == 45) = true := by
          rw [byte_get l 0 hn, Z.out]; rfl
        go_wp2_with fail
        exact ⟨⟨1, V, by omega, by simp, by simp, HV.out, hb⟩, by simp [intOf]; omega⟩
      · obtain ⟨j, rfl⟩ : ∃ j, k = j + 1 := ⟨k - 1, by omega⟩
        have hj : j < r.length := by omega
        obtain ⟨d, hd⟩ : ∃ d : Nat, r[j].toNat = 48 + d := ⟨r[j].toNat - 48, by have := G.out j hj; omega⟩
        have d9 : d < 10 := by have := G.out j hj; omega
        have b1 : ((⟨l.toArray⟩ : ByteArray)[j + 1].toNat : Int) = 48 + (d : Int) := by rw [byte_get l (j + 1) hlt, R.out j hj hlt]; omega
        have t1 : ((48 : Int) + (d : Int) == 45) = false := by simp; omega
        have e0 : (48 : Int) + (d : Int) - 48 = (d : Int) := by omega
        obtain ⟨q, hq⟩ : ∃ q : Nat, q = (9223372036854775808 - d) / 10 := ⟨_, rfl⟩
        have q9 : q ≤ 922337203685477580 := by omega
        have e1 : (-9223372036854775808 + (d : Int)).tdiv 10 = -(q : Int) := by
          rw [show -9223372036854775808 + (d : Int) = -(9223372036854775808 - (d : Int)) by omega, Int.neg_tdiv, Int.tdiv_eq_ediv_of_nonneg (by omega)]
          omega
        have S := Lib.hid (show valN (r.take (j + 1)) = 10 * V + d by
          have q := HV.out
          rw [Nat.add_sub_cancel] at q
          rw [valN_succ r j hj, ← q, hd]; omega)
        by_cases c : V ≤ q
        · have i1 : ¬ -(V : Int) < -(q : Int) := by omega
          have i2 : 10 * (V : Int) + (d : Int) ≤ 9223372036854775808 := by omega
          clear hd hq c
          go_wp2_with fail
          exact ⟨⟨j + 2, 10 * V + d, by omega, by simp; omega, by congr 1; omega, S.out.symm, by omega⟩, by simp [intOf]; omega⟩
        · have i1 : -(V : Int) < -(q : Int) := by omega
          have O := Lib.hid (show numB l = (0, 11) by
            rw [N.out, if_neg]
            have := valN_take r (j + 1)
            rw [S.out] at this
            omega)
          clear hd hq c
          go_wp2_with fail
          go_ret2
          exact ⟨by rw [O.out]; rfl, rfl⟩
    · obtain rfl : k = l.length := by omega
      have O := Lib.hid (show numB l = (-(V : Int), 0) by
        have q := HV.out
        rw [hlr, Nat.add_sub_cancel, List.take_length] at q
        rw [N.out, ← q, if_pos hb])
      go_wp2_with fail
      go_ret2
      exact ⟨by rw [O.out]; rfl, rfl⟩
/-- Number. -/
theorem num_any (l : Bytes) (hl : l.length ≤ 1048576) (w : World) :
    Calls Tryd.prog 22 #[str l] w fun e w' => e = .returned (.tuple #[.int .i64 (numB l).1, .int .i64 (numB l).2]) ∧ w = w' := by
  by_cases h : formB l = true
  · by_cases h1 : l.head? = some 45
    · match l, hl, h, h1 with
      | [], _, _, h1 => cases h1
      | x :: r, hl, h, h1 =>
        have : x = 45 := by simpa using h1
        subst this
        exact num_neg _ r hl h rfl w
    · exact num_pos l hl h h1 w
  · have e : numB l = (0, 10) := by unfold numB; rw [if_neg h]
    rw [e]
    exact num_bad l hl (by simpa using h) w
theorem numB_bd (l : Bytes) : -9223372036854775808 ≤ (numB l).1 ∧ (numB l).1 ≤ 9223372036854775807 := by
  unfold numB
  split
  · split
    · split
      · simp only; omega
      · simp only; omega
    · split
      · simp only; omega
      · simp only; omega
  · simp only; omega
end Go.Proofs.YtnlhipbdnihapaaDoor.Word
