/- Plain facts: instances by choices. No program in sight. -/
import Derived.Test.YtajckihgfelbaaaInstMath
namespace Go.Proofs.Ytajckihgfelbaaa.Inst
open Go

/-- A choice. -/
def at0 (c : List Nat) (k : Nat) : Nat := c.getD k 0
/-- An arc by four choices. -/
def arcOf (many c0 c1 c2 c3 : Nat) : ArcD :=
  { frm := (c0 % many : Nat), to := (c0 / 16 % many : Nat), low := if c3 % 8 = 1 then 0 else (c1 % 3 : Nat), cap := if c3 % 8 = 0 then 4611686018427387904 else (c1 % 3 : Nat) + (c1 / 3 % 6 : Nat),
    cost := if c3 % 8 = 2 then 0 else (c2 % 21 : Nat) - 8 }
def arcC (many : Nat) (c : List Nat) (j : Nat) : ArcD := arcOf many (at0 c (4 * j)) (at0 c (4 * j + 1)) (at0 c (4 * j + 2)) (at0 c (4 * j + 3))
def arcsN (many : Nat) (c : List Nat) (m : Nat) : List ArcD := (List.range m).map (arcC many c)
theorem arcsN_succ (many : Nat) (c : List Nat) (m : Nat) : arcsN many c (m + 1) = arcsN many c m ++ [arcC many c m] := by simp [arcsN, List.range_succ]
theorem arcsN_length (many : Nat) (c : List Nat) (m : Nat) : (arcsN many c m).length = m := by simp [arcsN]
def arcsC (many : Nat) (c : List Nat) : List ArcD := arcsN many c (min (c.length / 4) 18)
theorem arcsC_length (many : Nat) (c : List Nat) : (arcsC many c).length = min (c.length / 4) 18 := arcsN_length _ _ _
/-- What each arc is, at least. -/
structure ArcOk (many : Nat) (a : ArcD) : Prop where
  f0 : 0 ≤ a.frm
  f1 : a.frm < many
  t0 : 0 ≤ a.to
  t1 : a.to < many
  l0 : 0 ≤ a.low
  l1 : a.low ≤ 2
  c0 : a.low ≤ a.cap
  c1 : a.cap ≤ 7 ∨ a.cap = 4611686018427387904
  k0 : -8 ≤ a.cost
  k1 : a.cost ≤ 12
theorem arcOf_ok (many c0 c1 c2 c3 : Nat) (h : 0 < many) : ArcOk many (arcOf many c0 c1 c2 c3) := by
  have h1 := Nat.mod_lt c0 h
  have h2 := Nat.mod_lt (c0 / 16) h
  unfold arcOf
  constructor <;> simp only
  · omega
  · omega
  · omega
  · omega
  · split <;> omega
  · split <;> omega
  · split <;> split <;> omega
  · split
    · exact Or.inr rfl
    · left; omega
  · split <;> omega
  · split <;> omega
theorem arcsC_ok (many : Nat) (c : List Nat) (h : 0 < many) : ∀ a ∈ arcsC many c, ArcOk many a := by
  intro a ha
  unfold arcsC arcsN at ha
  rw [List.mem_map] at ha
  obtain ⟨j, _, rfl⟩ := ha
  exact arcOf_ok _ _ _ _ _ h

/-- How many nodes. -/
def nodesC (d : List Nat) : Nat := 1 + if 0 < d.length then at0 d 0 % 7 else 0
theorem nodesC_bd (d : List Nat) : 1 ≤ nodesC d ∧ nodesC d ≤ 7 := by
  unfold nodesC
  split <;> omega
/-- What flows along the arc number k. -/
def xC (d : List Nat) (k : Nat) (a : ArcD) : Int := if k + 1 < d.length then min (a.low + (at0 d (k + 1) % 4 : Nat)) a.cap else a.low
def bump (s : List Int) (i : Nat) (x : Int) : List Int := s.set i (s.getD i 0 + x)
theorem bump_length (s : List Int) (i : Nat) (x : Int) : (bump s i x).length = s.length := by simp [bump]
def stepC (d : List Nat) (s : List Int) (k : Nat) (a : ArcD) : List Int := bump (bump s a.frm.toNat (xC d k a)) a.to.toNat (-(xC d k a))
theorem stepC_length (d : List Nat) (s : List Int) (k : Nat) (a : ArcD) : (stepC d s k a).length = s.length := by simp [stepC, bump_length]
/-- Supplies when m arcs have been gone through. -/
def supN (d : List Nat) (n : Nat) (arcs : List ArcD) : Nat → List Int
  | 0 => List.replicate n 0
  | m + 1 => stepC d (supN d n arcs m) m (arcAt arcs m)
theorem supN_length (d : List Nat) (n : Nat) (arcs : List ArcD) : ∀ m, (supN d n arcs m).length = n
  | 0 => by simp [supN]
  | m + 1 => by rw [supN, stepC_length]; exact supN_length d n arcs m
def moreC (d : List Nat) (s : List Int) : List Int :=
  if 1 < d.length ∧ at0 d (d.length - 1) % 5 = 0 then bump (bump s 0 (at0 d 1 % 3 : Nat)) (s.length - 1) (-((at0 d 1 % 3 : Nat) : Int)) else s
theorem moreC_length (d : List Nat) (s : List Int) : (moreC d s).length = s.length := by
  unfold moreC
  split
  · simp [bump_length]
  · rfl
/-- The instance. -/
def instC (c d : List Nat) : InstD :=
  { sup := moreC d (supN d (nodesC d) (arcsC (nodesC d) c) (arcsC (nodesC d) c).length), arcs := arcsC (nodesC d) c }
theorem instC_sup (c d : List Nat) : (instC c d).sup.length = nodesC d := by
  show (moreC _ _).length = _
  rw [moreC_length, supN_length]

/-- All numbers of a list from -b to b. -/
def Bd (b : Int) (s : List Int) : Prop := ∀ x ∈ s, -b ≤ x ∧ x ≤ b
theorem Bd.get {b : Int} {s : List Int} (h : Bd b s) (hb : 0 ≤ b) (i : Nat) : -b ≤ s.getD i 0 ∧ s.getD i 0 ≤ b := by
  by_cases hi : i < s.length
  · rw [List.getD_eq_getElem?_getD, List.getElem?_eq_getElem hi]
    exact h _ (List.getElem_mem hi)
  · rw [List.getD_eq_getElem?_getD, List.getElem?_eq_none (by omega)]
    simp
    omega
theorem Bd.bump {b e : Int} {s : List Int} (h : Bd b s) (hb : 0 ≤ b) (i : Nat) (x : Int) (h0 : -e ≤ x) (h1 : x ≤ e) : Bd (b + e) (bump s i x) := by
  intro y hy
  unfold Inst.bump at hy
  rcases List.mem_or_eq_of_mem_set hy with q | q
  · have := h y q; omega
  · have := h.get hb i; omega
theorem xC_bd (d : List Nat) (k : Nat) (a : ArcD) (many : Nat) (h : ArcOk many a) : 0 ≤ xC d k a ∧ xC d k a ≤ 5 := by
  have h1 := h.l0
  have h2 := h.l1
  have h3 := h.c0
  unfold xC
  split
  · omega
  · omega
theorem arcAt_ok (many : Nat) (c : List Nat) (hm : 0 < many) (k : Nat) (hk : k < (arcsC many c).length) : ArcOk many (arcAt (arcsC many c) k) := by
  unfold arcAt
  rw [List.getD_eq_getElem?_getD, List.getElem?_eq_getElem hk]
  exact arcsC_ok many c hm _ (List.getElem_mem hk)
theorem supN_bd (d c : List Nat) (n : Nat) (hn : 0 < n) : ∀ m, m ≤ (arcsC n c).length → Bd (10 * (m : Int)) (supN d n (arcsC n c) m)
  | 0, _ => by
    intro x hx
    have : x = 0 := by
      unfold supN at hx
      exact (List.mem_replicate.1 hx).2
    omega
  | m + 1, h => by
    have ih := supN_bd d c n hn m (by omega)
    have ok := arcAt_ok n c hn m (by omega)
    have xb := xC_bd d m _ n ok
    unfold supN stepC
    have h1 := ih.bump (e := 5) (by omega) (arcAt (arcsC n c) m).frm.toNat (xC d m (arcAt (arcsC n c) m)) (by omega) (by omega)
    have h2 := h1.bump (e := 5) (by omega) (arcAt (arcsC n c) m).to.toNat (-(xC d m (arcAt (arcsC n c) m))) (by omega) (by omega)
    intro x hx
    have := h2 x hx
    omega
theorem instC_bd (c d : List Nat) : Bd 200 (instC c d).sup := by
  have hn := nodesC_bd d
  have h1 := supN_bd d c (nodesC d) (by omega) (arcsC (nodesC d) c).length (Nat.le_refl _)
  have hl : (arcsC (nodesC d) c).length ≤ 18 := by rw [arcsC_length]; omega
  show Bd 200 (moreC d _)
  unfold moreC
  split
  · have h2 := h1.bump (e := 2) (by omega) 0 (at0 d 1 % 3 : Nat) (by omega) (by omega)
    have h3 := h2.bump (e := 2) (by omega) ((supN d (nodesC d) (arcsC (nodesC d) c) (arcsC (nodesC d) c).length).length - 1) (-((at0 d 1 % 3 : Nat) : Int)) (by omega) (by omega)
    intro x hx
    have := h3 x hx
    omega
  · intro x hx
    have := h1 x hx
    omega

/-- Marks by choices. -/
def marksC (c : List Nat) (many : Nat) : List Bool := (List.range (min many c.length)).map fun k => decide (at0 c k % 3 = 0)
def marksN (c : List Nat) (m : Nat) : List Bool := (List.range m).map fun k => decide (at0 c k % 3 = 0)
theorem marksN_succ (c : List Nat) (m : Nat) : marksN c (m + 1) = marksN c m ++ [decide (at0 c m % 3 = 0)] := by simp [marksN, List.range_succ]
theorem marksN_length (c : List Nat) (m : Nat) : (marksN c m).length = m := by simp [marksN]
end Go.Proofs.Ytajckihgfelbaaa.Inst
