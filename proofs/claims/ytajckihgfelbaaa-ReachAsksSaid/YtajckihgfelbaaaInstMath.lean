/- Plain facts on instances: arcs, supplies, what is kept, what is left. No program in sight. -/
import Derived.WalkKit
namespace Go.Proofs.Ytajckihgfelbaaa.Inst
open Go

/-- An arc. -/
structure ArcD where
  frm : Int
  to : Int
  low : Int
  cap : Int
  cost : Int
  deriving DecidableEq
/-- An instance. -/
structure InstD where
  sup : List Int
  arcs : List ArcD
  deriving DecidableEq

/-- The five numbers of an arc. -/
def ArcD.nums (a : ArcD) : List Int := [a.frm, a.to, a.low, a.cap, a.cost]
theorem nums_length (a : ArcD) : a.nums.length = 5 := rfl
theorem nums_inj {a b : ArcD} (h : a.nums = b.nums) : a = b := by
  cases a; cases b
  simp [ArcD.nums] at h
  simp [h]

/-- All, one behind the other. -/
def flat (l : List ArcD) : List Int := (l.map ArcD.nums).flatten
theorem flat_length (l : List ArcD) : (flat l).length = l.length * 5 := by
  unfold flat
  induction l with
  | nil => rfl
  | cons a r ih => simp [List.flatten_cons, nums_length, ih] at ih ⊢; omega
theorem flat_snoc (l : List ArcD) (a : ArcD) : flat (l ++ [a]) = flat l ++ a.nums := by simp [flat]
theorem flat_get : ∀ (l : List ArcD) (k j : Nat) (h : k < l.length) (_hj : j < 5), (flat l)[k * 5 + j]? = l[k].nums[j]?
  | [], k, j, h, hj => by simp at h
  | a :: r, 0, j, h, hj => by
    show (a.nums ++ flat r)[0 * 5 + j]? = a.nums[j]?
    rw [List.getElem?_append_left (by rw [nums_length]; omega)]
    congr 1
    omega
  | a :: r, k + 1, j, h, hj => by
    have ih := flat_get r k j (by simpa using h) hj
    show (a.nums ++ flat r)[(k + 1) * 5 + j]? = (r[k]'(by simpa using h)).nums[j]?
    rw [List.getElem?_append_right (by rw [nums_length]; omega), nums_length, ← ih]
    congr 1
    omega

/-! ### What is wrong -/
abbrev M42 : Int := 4398046511104
def inB (n : Int) : Bool := decide (-4398046511104 ≤ n) && decide (n ≤ 4398046511104)
/-- .. with an arc, of so many nodes. -/
def arcW (n : Int) (a : ArcD) : Int :=
  if a.frm < 0 ∨ n ≤ a.frm ∨ a.to < 0 ∨ n ≤ a.to then 21
  else if a.low < 0 ∨ 4398046511104 < a.low ∨ (a.cap ≠ 4611686018427387904 ∧ (a.cap < a.low ∨ 4398046511104 < a.cap)) then 22
  else if inB a.cost = true then 0 else 23
/-- The first that is wrong, of arcs. -/
def arcsW (n : Int) : List ArcD → Int
  | [] => 0
  | a :: r => if arcW n a ≠ 0 then arcW n a else arcsW n r
theorem arcsW_snoc (n : Int) (a : ArcD) : ∀ l, arcsW n l = 0 → arcsW n (l ++ [a]) = arcW n a
  | [], _ => by
    simp only [List.nil_append, arcsW]
    split
    · rfl
    · rename_i h
      exact (Decidable.not_not.1 h).symm
  | b :: r, h => by
    simp only [List.cons_append, arcsW] at h ⊢
    split at h
    · rename_i hb
      exact absurd h hb
    · rename_i hb
      rw [if_neg hb]
      exact arcsW_snoc n a r h
theorem arcsW_first (n : Int) (a : ArcD) (r : List ArcD) (ha : arcW n a ≠ 0) : ∀ l, arcsW n l = 0 → arcsW n (l ++ a :: r) = arcW n a
  | [], _ => by simp only [List.nil_append, arcsW]; rw [if_pos ha]
  | b :: l, h => by
    simp only [List.cons_append, arcsW] at h ⊢
    split at h
    · rename_i hb
      exact absurd h hb
    · rename_i hb
      rw [if_neg hb]
      exact arcsW_first n a r ha l h
def sumI (l : List Int) : Int := l.foldl (· + ·) 0
theorem sumI_snoc (l : List Int) (x : Int) : sumI (l ++ [x]) = sumI l + x := by simp [sumI]
theorem foldl_bd : ∀ (l : List Int) (a : Int), l.all inB = true → a - 4398046511104 * (l.length : Int) ≤ l.foldl (· + ·) a ∧ l.foldl (· + ·) a ≤ a + 4398046511104 * (l.length : Int)
  | [], a, _ => by simp
  | x :: r, a, h => by
    rw [List.all_cons, Bool.and_eq_true] at h
    have h1 := foldl_bd r (a + x) h.2
    have h2 := h.1
    unfold inB at h2
    rw [Bool.and_eq_true, decide_eq_true_iff, decide_eq_true_iff] at h2
    rw [List.foldl_cons, List.length_cons]
    omega
theorem sumI_bd (l : List Int) (h : l.all inB = true) : -(4398046511104 * (l.length : Int)) ≤ sumI l ∧ sumI l ≤ 4398046511104 * (l.length : Int) := by
  have := foldl_bd l 0 h
  unfold sumI
  omega
/-- What is wrong with an instance. -/
def rightD (i : InstD) : Int :=
  if 64 < i.sup.length ∨ 256 < i.arcs.length then 20
  else if arcsW i.sup.length i.arcs ≠ 0 then arcsW i.sup.length i.arcs
  else if i.sup.all inB = false then 24
  else if sumI i.sup ≠ 0 then 25 else 0

/-! ### How much there is -/
def lows (l : List ArcD) : Nat := l.countP fun a => decide (a.low ≠ 0)
theorem lows_snoc (l : List ArcD) (a : ArcD) : lows (l ++ [a]) = lows l + if a.low ≠ 0 then 1 else 0 := by
  unfold lows
  rw [List.countP_append, List.countP_cons, List.countP_nil]
  simp
theorem lows_le (l : List ArcD) : lows l ≤ l.length := List.countP_le_length
def spanD (i : InstD) : Int := (i.sup.length : Int) + (i.arcs.length : Int) + (lows i.arcs : Int)

/-! ### What is kept -/
def offB (off : List Bool) (k : Nat) : Bool := off.getD k false
def keptN (off : List Bool) (n : Nat) : List Nat := (List.range n).filter fun k => !offB off k
theorem keptN_succ (off : List Bool) (k : Nat) : keptN off (k + 1) = keptN off k ++ if offB off k = true then [] else [k] := by
  unfold keptN
  rw [List.range_succ, List.filter_append]
  congr 1
  cases h : offB off k <;> simp [h]
/-- As many as n, at most 1000. -/
def upto (n : Int) : Nat := min n.toNat 1000
def keptD (off : List Bool) (n : Int) : List Nat := keptN off (upto n)
theorem keptN_length (off : List Bool) (n : Nat) : (keptN off n).length ≤ n := by
  have := List.length_filter_le (fun k => !offB off k) (List.range n)
  rw [List.length_range] at this
  exact this
theorem keptN_lt (off : List Bool) (n : Nat) : ∀ x ∈ keptN off n, x < n := by
  intro x hx
  unfold keptN at hx
  rw [List.mem_filter, List.mem_range] at hx
  exact hx.1

/-- A number's place in a list; -1: it is not there. -/
def placeF : List Nat → Int → Nat → Int
  | [], _, _ => -1
  | y :: r, x, k => if (y : Int) = x then (k : Int) else placeF r x (k + 1)
def placeD (l : List Nat) (x : Int) : Int := placeF l x 0
theorem placeF_take (x : Int) : ∀ (l : List Nat) (k j : Nat) (hj : j < l.length), (∀ i (hi : i < j), (l[i]'(by omega) : Int) ≠ x) → (l[j] : Int) = x → placeF l x k = ((k + j : Nat) : Int)
  | y :: r, k, 0, _, _, h => by
    have h' : (y : Int) = x := h
    rw [placeF, if_pos h']
    rfl
  | y :: r, k, j + 1, hj, hn, h => by
    have h0 : (y : Int) ≠ x := hn 0 (by omega)
    rw [placeF, if_neg h0, placeF_take x r (k + 1) j (by simpa using hj) (fun i hi => hn (i + 1) (by omega)) h]
    congr 1
    omega
theorem placeF_none (x : Int) : ∀ (l : List Nat) (k : Nat), (∀ i (hi : i < l.length), (l[i] : Int) ≠ x) → placeF l x k = -1
  | [], _, _ => rfl
  | y :: r, k, h => by
    have h0 : (y : Int) ≠ x := h 0 (by simp)
    rw [placeF, if_neg h0]
    exact placeF_none x r (k + 1) (fun i hi => h (i + 1) (by simpa using hi))

/-! ### Without -/
def movedD (n : List Nat) (a : ArcD) : ArcD := { a with frm := placeD n a.frm, to := placeD n a.to }
def staysB (n : List Nat) (a : ArcD) : Bool := decide (0 ≤ placeD n a.frm) && decide (0 ≤ placeD n a.to)
def arcAt (l : List ArcD) (k : Nat) : ArcD := l.getD k ⟨0, 0, 0, 0, 0⟩
/-- Those of the kept arcs that stay, moved. -/
def leftA (n : List Nat) (arcs : List ArcD) (l : List Nat) : List ArcD := ((l.map (arcAt arcs)).filter (staysB n)).map (movedD n)
theorem leftA_snoc (n : List Nat) (arcs : List ArcD) (l : List Nat) (k : Nat) : leftA n arcs (l ++ [k]) = leftA n arcs l ++ if staysB n (arcAt arcs k) = true then [movedD n (arcAt arcs k)] else [] := by
  unfold leftA
  rw [List.map_append, List.filter_append, List.map_append]
  congr 1
  cases h : staysB n (arcAt arcs k) <;> simp [h]
def withoutD (i : InstD) (nodes arcs : List Bool) : InstD :=
  { sup := (keptD nodes i.sup.length).map fun k => i.sup.getD k 0, arcs := leftA (keptD nodes i.sup.length) i.arcs (keptD arcs i.arcs.length) }
end Go.Proofs.Ytajckihgfelbaaa.Inst
