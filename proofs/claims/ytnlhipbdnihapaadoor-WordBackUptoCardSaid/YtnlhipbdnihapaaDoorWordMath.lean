/- Plain facts on texts: parts between signs; digits. No program in sight. -/
import Derived.WalkKit
namespace Go.Proofs.YtnlhipbdnihapaaDoor.Word
open Go

abbrev Bytes := List UInt8
/-- A text's value. -/
abbrev str (l : Bytes) : Value := .string ⟨l.toArray⟩

/-! ### Parts between signs -/
/-- What stands between the signs c, but for what is behind the last one; that. -/
def parts (c : UInt8) : Bytes → List Bytes
  | [] => []
  | x :: r => if x = c then [] :: parts c r else match parts c r with
    | [] => []
    | p :: ps => (x :: p) :: ps
def rest (c : UInt8) : Bytes → Bytes
  | [] => []
  | x :: r => if parts c r = [] ∧ x ≠ c then x :: rest c r else rest c r
/-- All of them. -/
def cutB (c : UInt8) (l : Bytes) : List Bytes := parts c l ++ [rest c l]

theorem rest_of_none (c : UInt8) : ∀ l, parts c l = [] → rest c l = l
  | [], _ => rfl
  | x :: r, h => by
    unfold parts at h
    split at h
    · simp at h
    · rename_i hx
      have hr : parts c r = [] := by
        cases hp : parts c r with
        | nil => rfl
        | cons p ps => rw [hp] at h; simp at h
      unfold rest
      rw [if_pos ⟨hr, hx⟩, rest_of_none c r hr]
theorem parts_snoc_no (c : UInt8) (x : UInt8) (hx : x ≠ c) : ∀ l, parts c (l ++ [x]) = parts c l ∧ rest c (l ++ [x]) = rest c l ++ [x]
  | [] => by simp [parts, rest, hx]
  | y :: r => by
    obtain ⟨h1, h2⟩ := parts_snoc_no c x hx r
    constructor
    · simp only [List.cons_append, parts, h1]
    · simp only [List.cons_append, rest, h1, h2]
      split <;> rfl
theorem parts_snoc_yes (c : UInt8) : ∀ l, parts c (l ++ [c]) = parts c l ++ [rest c l] ∧ rest c (l ++ [c]) = []
  | [] => by simp [parts, rest]
  | y :: r => by
    obtain ⟨h1, h2⟩ := parts_snoc_yes c r
    constructor
    · simp only [List.cons_append, parts, h1]
      by_cases hy : y = c
      · subst hy
        simp [rest]
      · rw [if_neg hy, if_neg hy]
        cases hp : parts c r with
        | nil => simp [rest, hp, hy]
        | cons p ps => simp [rest, hp]
    · simp only [List.cons_append, rest, h1, h2]
      rw [if_neg (by simp)]
theorem rest_drop (c : UInt8) : ∀ l, ∃ n, n ≤ l.length ∧ rest c l = l.drop n
  | [] => ⟨0, by simp, rfl⟩
  | x :: r => by
    unfold rest
    split
    · rename_i h
      exact ⟨0, by simp, by rw [rest_of_none c r h.1]; rfl⟩
    · obtain ⟨n, h1, h2⟩ := rest_drop c r
      exact ⟨n + 1, by simp; omega, by rw [h2]; rfl⟩
theorem cutB_ne (c : UInt8) (l : Bytes) : cutB c l ≠ [] := by simp [cutB]

/-- Lines: the last part counts if it has a byte. -/
def linesB (l : Bytes) : List Bytes := if rest 10 l = [] then parts 10 l else cutB 10 l
def wordsB (l : Bytes) : List Bytes := cutB 32 l

/-- All, with something between. -/
def joinB (b : Bytes) : List Bytes → Bytes
  | [] => []
  | [x] => x
  | x :: y :: r => x ++ b ++ joinB b (y :: r)
theorem joinB_snoc (b : Bytes) (x : Bytes) : ∀ l, l ≠ [] → joinB b (l ++ [x]) = joinB b l ++ b ++ x
  | [], h => absurd rfl h
  | [y], _ => by simp [joinB]
  | y :: z :: r, _ => by
    have h := joinB_snoc b x (z :: r) (by simp)
    simp only [List.cons_append] at h ⊢
    rw [joinB, h, joinB]
    simp [List.append_assoc]

/-! ### Decimal digits -/
def decF : Nat → Nat → Bytes
  | 0, n => [UInt8.ofNat (48 + n % 10)]
  | f + 1, n => if n < 10 then [UInt8.ofNat (48 + n)] else decF f (n / 10) ++ [UInt8.ofNat (48 + n % 10)]
/-- A number's digits. -/
def decN (n : Nat) : Bytes := decF 20 n
theorem decF_more : ∀ (f n : Nat), n < 10 ^ (f + 1) → decF f n = decF (f + 1) n
  | 0, n, h => by
    have : n < 10 := by simpa using h
    simp only [decF, if_pos this, Nat.mod_eq_of_lt this]
  | f + 1, n, h => by
    rw [decF, decF]
    split
    · rfl
    · rw [decF_more f (n / 10) (by rw [Nat.pow_succ] at h; omega)]
theorem decN_low {n : Nat} (h : n < 10) : decN n = [UInt8.ofNat (48 + n)] := by unfold decN decF; rw [if_pos h]
theorem decN_step {n : Nat} (h : 10 ≤ n) (h2 : n < 1000000000000000000000) : decN n = decN (n / 10) ++ [UInt8.ofNat (48 + n % 10)] := by
  unfold decN
  rw [decF, if_neg (by omega), decF_more 19 (n / 10) (by rw [show (10 : Nat) ^ (19 + 1) = 100000000000000000000 by decide]; omega)]
/-- A number's word. -/
def textB (n : Int) : Bytes := if n < 0 then 45 :: decN n.natAbs else decN n.natAbs
theorem decF_length : ∀ f n, (decF f n).length ≤ f + 1 ∧ 0 < (decF f n).length
  | 0, n => by simp [decF]
  | f + 1, n => by
    have := decF_length f (n / 10)
    unfold decF
    split <;> simp <;> omega
theorem decN_length (n : Nat) : (decN n).length ≤ 21 ∧ 0 < (decN n).length := decF_length 20 n
theorem textB_length (n : Int) : (textB n).length ≤ 22 ∧ 0 < (textB n).length := by
  have := decN_length n.natAbs
  unfold textB
  split
  · simp; omega
  · omega
theorem textB_neg_low {n : Int} (h : n < 0) (h2 : -10 < n) : textB n = [45, UInt8.ofNat (48 + (-n).toNat)] := by
  unfold textB
  rw [if_pos h, decN_low (by omega)]
  congr 3
  omega
theorem textB_neg_step {n : Int} (h : n ≤ -10) (h2 : -9223372036854775808 ≤ n) : textB n = textB (-(-n / 10)) ++ [UInt8.ofNat (48 + (-n % 10).toNat)] := by
  unfold textB
  rw [if_pos (by omega), if_pos (by omega), decN_step (by omega) (by omega), List.cons_append]
  have e1 : n.natAbs / 10 = (-(-n / 10)).natAbs := by omega
  have e2 : n.natAbs % 10 = (-n % 10).toNat := by omega
  rw [e1, e2]
theorem textB_low {n : Int} (h : 0 ≤ n) (h2 : n < 10) : textB n = [UInt8.ofNat (48 + n.toNat)] := by
  unfold textB
  rw [if_neg (by omega), decN_low (by omega)]
  congr 3
  omega
theorem textB_step {n : Int} (h : 10 ≤ n) (h2 : n ≤ 9223372036854775807) : textB n = textB (n / 10) ++ [UInt8.ofNat (48 + (n % 10).toNat)] := by
  unfold textB
  rw [if_neg (by omega), if_neg (by omega), decN_step (by omega) (by omega)]
  have e1 : n.natAbs / 10 = (n / 10).natAbs := by omega
  have e2 : n.natAbs % 10 = (n % 10).toNat := by omega
  rw [e1, e2]
end Go.Proofs.YtnlhipbdnihapaaDoor.Word
