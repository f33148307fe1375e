/- Plain facts: the library's own words for parts, joins, numerals and numbers, held against this folder's. No program in sight. -/
import Derived.Test.YtnlhipbdnihapaaDoorWordG
import Derived.Lib.SplitLaws
import Derived.Lib.Join
import Derived.Lib.ItoaNum
import Derived.Lib.ParseIntBTie
import Derived.Lib.Strings
namespace Go.Proofs.YtnlhipbdnihapaaDoor.Word
open Go.RowKit

theorem cutB_yes (c : UInt8) (r : Bytes) : cutB c (c :: r) = [] :: cutB c r := by
  unfold cutB
  simp [parts, rest]
theorem cutB_no (c x : UInt8) (hx : x ≠ c) (r : Bytes) : ∃ p ps, cutB c r = p :: ps ∧ cutB c (x :: r) = (x :: p) :: ps := by
  unfold cutB
  cases hp : parts c r with
  | nil => exact ⟨rest c r, [], by simp, by simp [parts, rest, hp, hx]⟩
  | cons p ps => exact ⟨p, ps ++ [rest c r], by simp, by simp [parts, rest, hp, hx]⟩
/-! ### Parts -/
theorem index_nil (c : UInt8) : Lib.index [] [c] = -1 := rfl
theorem index_yes (c : UInt8) (r : Bytes) : Lib.index (c :: r) [c] = 0 := by
  unfold Lib.index
  simp
theorem index_no (c x : UInt8) (hx : x ≠ c) (r : Bytes) : Lib.index (x :: r) [c] = if Lib.index r [c] = -1 then -1 else Lib.index r [c] + 1 := by
  rw [Lib.index]
  rw [if_neg (by simp; exact fun q => hx q.symm)]
  simp
/-- By the first sign: none, or what is ahead of it, and the parts of what is behind it. -/
theorem cut_index (c : UInt8) : ∀ l : Bytes, (Lib.index l [c] = -1 ∧ cutB c l = [l]) ∨ ∃ i : Nat, Lib.index l [c] = (i : Int) ∧ i < l.length ∧ cutB c l = l.take i :: cutB c (l.drop (i + 1))
  | [] => Or.inl ⟨rfl, by simp [cutB, parts, rest]⟩
  | x :: r => by
    by_cases hx : x = c
    · subst hx
      exact Or.inr ⟨0, index_yes x r, by simp, by rw [cutB_yes]; rfl⟩
    · obtain ⟨p, ps, h1, h2⟩ := cutB_no c x hx r
      have hi := index_no c x hx r
      rcases cut_index c r with ⟨h3, h4⟩ | ⟨i, h3, h4, h5⟩
      · left
        rw [h3, if_pos rfl] at hi
        rw [h4] at h1
        cases h1
        exact ⟨hi, h2⟩
      · right
        rw [h3, if_neg (by omega)] at hi
        rw [h5] at h1
        cases h1
        exact ⟨i + 1, by rw [hi]; omega, by rw [List.length_cons]; omega, by rw [h2]; rfl⟩
theorem splitK_cut (c : UInt8) : ∀ (m : Nat) (l : Bytes), l.length ≤ m → Lib.splitK [c] 0 (Lib.count l [c]) l = cutB c l := by
  intro m
  induction m with
  | zero =>
    intro l hl
    have : l = [] := List.length_eq_zero_iff.1 (by omega)
    subst this
    rfl
  | succ m ih =>
    intro l hl
    rcases cut_index c l with ⟨h1, h2⟩ | ⟨i, h1, h2, h3⟩
    · rw [Lib.count_miss h1, h2]
      rfl
    · rw [Lib.count_hit (by simp) h1, h3, Nat.add_comm 1, Lib.splitK, if_neg (by rw [h1, beq_iff_eq]; omega), h1]
      congr 1
      rw [show ((i : Int).toNat + [c].length) = i + 1 by simp, show i + [c].length = i + 1 by simp]
      exact ih _ (by rw [List.length_drop]; omega)
theorem str_data (s : ByteArray) : Value.string s = str s.data.toList := by
  show _ = Value.string ⟨s.data.toList.toArray⟩
  rw [Lib.mk_data]
theorem splitB_cut (c : UInt8) (l : Bytes) : (Lib.splitB ⟨#[c]⟩ 0 (Lib.countB ⟨l.toArray⟩ ⟨#[c]⟩) ⟨l.toArray⟩).map Value.string = (cutB c l).map str := by
  have h := Lib.splitB_data ⟨#[c]⟩ 0 (Lib.countB ⟨l.toArray⟩ ⟨#[c]⟩) ⟨l.toArray⟩
  have e : (Lib.splitK [c] 0 (Lib.count l [c]) l) = cutB c l := splitK_cut c l.length l (Nat.le_refl _)
  have h2 : (Lib.splitB ⟨#[c]⟩ 0 (Lib.countB ⟨l.toArray⟩ ⟨#[c]⟩) ⟨l.toArray⟩).map (·.data.toList) = cutB c l := h.trans e
  rw [← h2, List.map_map]
  apply List.map_congr_left
  intro s _
  exact str_data s
theorem countB_cut (c : UInt8) (l : Bytes) : Lib.countB ⟨l.toArray⟩ ⟨#[c]⟩ + 1 = (cutB c l).length := by
  have h := congrArg List.length (splitB_cut c l)
  rw [List.length_map, List.length_map] at h
  rw [← h, Lib.splitB_all ⟨#[c]⟩ (Nat.le_refl 1) 0 (Lib.countB ⟨l.toArray⟩ ⟨#[c]⟩) ⟨l.toArray⟩ rfl]

/-! ### Joined -/
theorem join_eq (b : Bytes) : ∀ xs : List Bytes, Lib.join xs b = joinB b xs
  | [] => rfl
  | [x] => by rw [Lib.join_one]; rfl
  | x :: y :: r => by
    have h := join_eq b (y :: r)
    rw [Lib.join_cons] at h ⊢
    rw [joinB, ← h]
    simp [Lib.joinTail, List.append_assoc]

/-! ### Numerals -/
theorem decDigits_eq : ∀ (f n : Nat), n < 10 ^ (f + 1) → Lib.decDigits n = decF f n
  | 0, n, h => by
    have : n < 10 := by simpa using h
    rw [Lib.decDigits, dif_pos this, decF, Nat.mod_eq_of_lt this]
  | f + 1, n, h => by
    rw [Lib.decDigits, decF]
    split
    · rfl
    · rw [decDigits_eq f (n / 10) (by rw [Nat.pow_succ] at h; omega)]
theorem itoa_eq (n : Int) (h0 : -9223372036854775808 ≤ n) (h1 : n ≤ 9223372036854775807) : Lib.itoa n = textB n := by
  have e : ∀ k : Nat, k < 1000000000000000000000 → Lib.decDigits k = decN k := fun k hk => decDigits_eq 20 k (by rw [show (10 : Nat) ^ (20 + 1) = 1000000000000000000000 by decide]; exact hk)
  unfold Lib.itoa textB
  split
  · rw [e _ (by omega)]
  · rw [e _ (by omega)]
    congr 1
    omega

/-! ### Numbers -/
theorem parseU : ∀ (l : Bytes) (_ : ∀ x ∈ l, 48 ≤ x.toNat ∧ x.toNat ≤ 57) (acc : Nat), acc ≤ 18446744073709551615 →
    Lib.parseUintM (2 ^ 64 - 1) acc l = if l.foldl (fun a x => 10 * a + (x.toNat - 48)) acc ≤ 18446744073709551615 then .ok (l.foldl (fun a x => 10 * a + (x.toNat - 48)) acc) else .range
  | [], _, acc, ha => by
    rw [Lib.parseUintM, List.foldl_nil, if_pos ha]
  | c :: r, h, acc, ha => by
    have hc := h c (by simp)
    have hm := foldl_mono r (10 * acc + (c.toNat - 48))
    have ih := parseU r (fun x hx => h x (by simp [hx])) (10 * acc + (c.toNat - 48))
    rw [Lib.parseUintM, if_pos hc, List.foldl_cons, show acc * 10 + (c.toNat - 48) = 10 * acc + (c.toNat - 48) by omega, show (2 : Nat) ^ 64 - 1 = 18446744073709551615 by decide]
    rw [show (2 : Nat) ^ 64 - 1 = 18446744073709551615 by decide] at ih
    by_cases h1 : 1844674407370955162 ≤ acc
    · rw [if_pos h1, if_neg (by omega)]
    · rw [if_neg h1]
      by_cases h2 : 18446744073709551615 < 10 * acc + (c.toNat - 48)
      · rw [if_pos h2, if_neg (by omega)]
      · rw [if_neg h2, ih (by omega)]
theorem parseUB (l : Bytes) (h0 : l ≠ []) (h : ∀ x ∈ l, 48 ≤ x.toNat ∧ x.toNat ≤ 57) : Lib.parseUintB 64 l = if valN l ≤ 18446744073709551615 then .ok (valN l) else .range := by
  rw [Lib.parseUintB, if_neg h0, parseU l h 0 (by omega)]
  rfl
theorem all_mem {l : Bytes} (h : ∀ k (hk : k < l.length), 48 ≤ l[k].toNat ∧ l[k].toNat ≤ 57) : ∀ x ∈ l, 48 ≤ x.toNat ∧ x.toNat ≤ 57 := by
  intro x hx
  obtain ⟨k, hk, rfl⟩ := List.getElem_of_mem hx
  exact h k hk
theorem parse_pos (l : Bytes) (h : formB l = true) (h1 : l.head? ≠ some 45) : Lib.parseIntB 64 l = if valN l ≤ 9223372036854775807 then .ok (valN l : Int) else .range := by
  obtain ⟨hn, hd⟩ := formB_pos h h1
  have hu := parseUB l (List.length_pos_iff.1 hn) (all_mem hd)
  match l, hn, hd, hu with
  | c :: r, hn, hd, hu =>
    have hc := hd 0 (by simp)
    rw [List.getElem_cons_zero] at hc
    unfold Lib.parseIntB
    simp only
    rw [if_neg (by omega), hu, show (2 : Nat) ^ (64 - 1) = 9223372036854775808 by decide]
    have hneg : ¬ c.toNat = 45 := by omega
    by_cases h2 : valN (c :: r) ≤ 18446744073709551615
    · rw [if_pos h2]
      simp only [hneg, not_false_eq_true, true_and, false_and, if_false]
      by_cases h3 : valN (c :: r) ≤ 9223372036854775807
      · rw [if_pos h3, if_neg (by omega)]
      · rw [if_neg h3, if_pos (by omega)]
    · rw [if_neg h2, if_neg (by omega)]
theorem parse_neg (r : Bytes) (h : formB (45 :: r) = true) : Lib.parseIntB 64 (45 :: r) = if valN r ≤ 9223372036854775808 then .ok (-(valN r : Int)) else .range := by
  obtain ⟨hn, hd⟩ := formB_neg h
  have hu := parseUB r (List.length_pos_iff.1 hn) (all_mem hd)
  have e45 : (45 : UInt8).toNat = 45 := rfl
  unfold Lib.parseIntB
  simp only
  rw [if_pos (by omega), hu, show (2 : Nat) ^ (64 - 1) = 9223372036854775808 by decide]
  by_cases h2 : valN r ≤ 18446744073709551615
  · rw [if_pos h2]
    simp only [e45, not_true_eq_false, true_and, false_and, if_false, if_true]
    by_cases h3 : valN r ≤ 9223372036854775808
    · rw [if_pos h3, if_neg (by omega)]
    · rw [if_neg h3, if_pos (by omega)]
  · rw [if_neg h2, if_neg (by omega)]
/-- Where the form is a number's. -/
theorem parse_form (l : Bytes) (h : formB l = true) : (∃ n, numB l = (n, 0) ∧ Lib.parseIntB 64 l = .ok n) ∨ (numB l = (0, 11) ∧ Lib.parseIntB 64 l = .range) := by
  by_cases h1 : l.head? = some 45
  · match l, h, h1 with
    | [], _, h1 => cases h1
    | x :: r, h, h1 =>
      have : x = 45 := by simpa using h1
      subst this
      rw [numB_neg h, parse_neg r h]
      by_cases h2 : valN r ≤ 9223372036854775808
      · rw [if_pos h2, if_pos h2]
        exact Or.inl ⟨_, rfl, rfl⟩
      · rw [if_neg h2, if_neg h2]
        exact Or.inr ⟨rfl, rfl⟩
  · rw [numB_pos h h1, parse_pos l h h1]
    by_cases h2 : valN l ≤ 9223372036854775807
    · rw [if_pos h2, if_pos h2]
      exact Or.inl ⟨_, rfl, rfl⟩
    · rw [if_neg h2, if_neg h2]
      exact Or.inr ⟨rfl, rfl⟩

/-! ### The ends -/
theorem trimPrefix_minus (l : Bytes) : Lib.trimPrefix l [45] = if l.head? = some 45 then l.drop 1 else l := by
  unfold Lib.trimPrefix Lib.hasPrefix
  match l with
  | [] => rfl
  | x :: r =>
    by_cases h : x = 45
    · subst h; rfl
    · rw [if_neg (by simp; exact fun q => h q.symm), if_neg (by simpa using h)]
/-- Without the last end, parted: the lines, where there is a byte at all. -/
theorem lines_trim (l : Bytes) (h : l ≠ []) : cutB 10 (Lib.trimSuffix l [10]) = linesB l := by
  unfold Lib.trimSuffix
  obtain ⟨m, x, rfl⟩ : ∃ m x, l = m ++ [x] := ⟨l.dropLast, l.getLast h, (List.dropLast_concat_getLast h).symm⟩
  by_cases hx : x = 10
  · subst hx
    have hs : Lib.hasSuffix (m ++ [10]) [10] = true := by simp [Lib.hasSuffix]
    rw [if_pos hs, show (m ++ [(10 : UInt8)]).take ((m ++ [(10 : UInt8)]).length - [(10 : UInt8)].length) = m by simp]
    unfold linesB cutB
    rw [(parts_snoc_yes 10 m).2, if_pos rfl, (parts_snoc_yes 10 m).1]
  · have hs : ¬ Lib.hasSuffix (m ++ [x]) [10] = true := by
      simp [Lib.hasSuffix]
      exact fun q => hx q.symm
    rw [if_neg hs]
    unfold linesB
    rw [if_neg (by rw [(parts_snoc_no 10 x hx m).2]; simp)]
end Go.Proofs.YtnlhipbdnihapaaDoor.Word
