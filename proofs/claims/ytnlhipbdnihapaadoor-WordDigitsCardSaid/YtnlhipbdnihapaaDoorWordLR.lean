/- A range over a function that keeps its state in one box of its own: a law for loops whose body is never left. No program in sight. -/
import Derived.Test.YtnlhipbdnihapaaDoorWordLN
import Derived.RangeFuncNested
import Derived.RangeFuncBound
import Derived.RangeFuncCalls
import Derived.RangeFuncLeaves
import Derived.RangeFuncBox
import Derived.Shelf.Abstract
import Derived.Shelf.RegionOpen
import Derived.OwnWalkIn
import Derived.TacticsInMore
import Derived.LoopNIn
import Derived.LoopIn
import Derived.Maps.AppendAt
namespace Go.Proofs.YtnlhipbdnihapaaDoor.Word
open Go.RowKit Go.Shelf

/-- What lay below n0, but for one block, lies as it lay. -/
def Kept (n0 own : Nat) (A B : World) : Prop := A.heap.size ≤ B.heap.size ∧ ∀ k, k < n0 → k ≠ own → B.heap[k]? = A.heap[k]?
theorem Kept.trans {n0 own : Nat} {A B C : World} (h : Kept n0 own A B) (k : Kept n0 own B C) : Kept n0 own A C :=
  ⟨Nat.le_trans h.1 k.1, fun i hi ho => (k.2 i hi ho).trans (h.2 i hi ho)⟩
theorem Kept.less {n0 n1 own : Nat} {A B : World} (h : Kept n1 own A B) (hn : n0 ≤ n1) : Kept n0 own A B := ⟨h.1, fun k hk => h.2 k (by omega)⟩
theorem Kept.put {n0 own : Nat} (A : World) (l : Nat) (o : Obj) (h : n0 ≤ l) : Kept n0 own A (A.putObj l o) :=
  ⟨by simp [World.putObj], fun _ hk _ => World.putObj_heap_other (by omega)⟩

/-- How a round ends. -/
def roundEnd (n0 own : Nat) (I : List Bytes → World → Prop) (xs : List Bytes) (W : World) : Exit → Act → World → Prop
  | .normal, _, W' => Kept n0 own W W' ∧ I xs W'
  | _, _, _ => False

theorem range_boxed {n : Nat} {P : Program} {g : Operand} {ps : Array Tmp} {assign body : Code} {Q : Exit → Act → World → Prop} {a : Act} {w : World}
    (h1 : 1 ≤ n) {gf : Nat} {lb : Array Value} (hg : a.eval g = .func (.func gf) #[] lb) (eg : ∀ args w, (callFunc gf args).run P w = .ok (.enter gf args) w)
    (hps : ps.size = 1) (own b : Nat) (hown : own < w.heap.size) (hb : b < w.heap.size) (xs : List Bytes) (I : List Bytes → World → Prop)
    (hIp : ∀ pre A k o o', w.heap.size ≤ k → A.heap[k]? = some o → o.isCells = false → I pre A → I pre (A.putObj k o'))
    (hIb : ∀ pre A v, I pre A → I pre (A.setCell ⟨b, 0, none⟩ v))
    (h0 : ∀ o, I [] ((w.alloc (.deferred (some []))).alloc (.loop o)))
    (hseq : ∀ (J : List Bytes → World → Prop) (W : World), Below w.heap.size w W → (∀ pre A v, J pre A → J pre (A.setCell ⟨b, 0, none⟩ v)) →
      (∀ pre x A, J pre A → pre.length < xs.length → YieldAt Fence.wide (n - 1 - 1) P (w.heap.size + 1) #[str x] A fun e A' => e = .returned (.bool true) ∧ Kept w.heap.size own A A' ∧ J (pre ++ [x]) A') → J [] W →
      CallsIn Fence.wide (n - 1) P gf (#[.func (.yield (w.heap.size + 1)) #[] #[]] ++ lb) W fun e W' => (∃ v, e = .returned v) ∧ J xs W')
    (a1 : Bytes → Act)
    (hassign : ∀ (x : Bytes) (W : World) (K : Act → World → Prop), K (a1 x) W →
      assign.wpIn (Fence.wide.inRound (w.heap.size + 1)) (n - 1 - 1) P (Exit.then K (fun _ _ _ => False)) { tmps := (ps.zip #[str x]).foldl (fun t (p, v) => t.setIfInBounds p v) a.tmps, defers := [] } W)
    (hbody : ∀ (pre : List Bytes) (x : Bytes) (W : World), I pre W → pre.length < xs.length → body.wpIn (Fence.wide.inRound (w.heap.size + 1)) (n - 1 - 1) P (roundEnd (w.heap.size + 2) own I (pre ++ [x]) W) (a1 x) W)
    (hdone : ∀ W, I xs W → W.heap[w.heap.size]? = some (.deferred (some [])) → Q .normal { a with defers := { target := .collected w.heap.size, args := #[] } :: a.defers } W) :
    (Code.rangeFunc g ps assign body).wpIn Fence.wide n P Q a w := by
  refine wpIn_rangeFunc ?_
  intro fn hfn
  obtain ⟨R, hR⟩ : ∃ R : LoopState → Loop, R = fun st => { state := st, pending := none, fn, tmps := a.tmps, params := ps, assign, body, defers := w.heap.size } := ⟨_, rfl⟩
  obtain ⟨W1, hW1⟩ : ∃ W1, (w.alloc (.deferred (some []))).alloc (.loop (R .ready)) = W1 := ⟨_, rfl⟩
  have sz : W1.heap.size = w.heap.size + 2 := by rw [← hW1]; simp
  have below1 : Below w.heap.size w W1 := by rw [← hW1]; exact ((Below.refl _ w).alloc (Nat.le_refl _) _).alloc (by simp) _
  have lo : W1.heap[w.heap.size + 1]? = some (.loop (R .ready)) := by
    have h := World.alloc_heap_new (w.alloc (.deferred (some []))) (.loop (R .ready))
    rw [World.size_alloc, hW1] at h
    exact h
  have de : W1.heap[w.heap.size]? = some (.deferred (some [])) := by
    rw [← hW1]
    exact (Below.heap_alloc _ _ _ (by simp)).trans (World.alloc_heap_new w _)
  refine ⟨w.heap.size + 1, [{ target := .collected w.heap.size, args := #[] }], W1, { target := .fn (.func gf) lb, args := #[.func (.yield (w.heap.size + 1)) #[] #[]] }, W1, gf,
    #[.func (.yield (w.heap.size + 1)) #[] #[]] ++ lb, W1, ?_, ?_, fun _ _ => trivial, ?_, fun _ => h1, ?_⟩
  · rw [← hW1, hR]
    exact run_enterLoop_outer _ _ _ _ _
  · simp only [resolve, hg]
    simp [go_sem]
  · simp [invoke, go_sem, eg]
  · refine (hseq (fun pre W => I pre W ∧ W.heap[w.heap.size + 1]? = some (.loop (R .ready)) ∧ W.heap[w.heap.size]? = some (.deferred (some []))) W1 below1
      (fun pre A v h => ⟨hIb pre A v h.1, (Below.heap_setCell _ _ _ _ (by show w.heap.size + 1 ≠ b; omega)).trans h.2.1, (Below.heap_setCell _ _ _ _ (by show w.heap.size ≠ b; omega)).trans h.2.2⟩)
      ?_ ⟨by rw [← hW1]; exact h0 _, lo, de⟩).mono ?_
    · rintro pre x A ⟨hi, hl, hd⟩ hlen
      have y := run_yield (P := P) (args := #[str x]) hl (by rw [hR]; exact hps.symm)
      rw [hR] at y
      refine ⟨fn, _, assign, body, y, roundIn_of_wpIn hfn (hassign x A _ ?_)⟩
      have beg := run_beginRound (P := P) hl (by rw [hR])
      refine ⟨_, beg, ?_⟩
      obtain ⟨A2, hA2⟩ : ∃ A2, A.putObj (w.heap.size + 1) (.loop { R .ready with state := .busy }) = A2 := ⟨_, rfl⟩
      rw [hA2]
      have lt : w.heap.size + 1 < A.heap.size := (Array.getElem?_eq_some_iff.1 hl).1
      have l2 : A2.heap[w.heap.size + 1]? = some (.loop { R .ready with state := .busy }) := by rw [← hA2]; exact World.putObj_heap_same lt
      have d2 : A2.heap[w.heap.size]? = some (.deferred (some [])) := by rw [← hA2]; exact (World.putObj_heap_other (by omega)).trans hd
      have i2 : I pre A2 := by rw [← hA2]; exact hIp pre A _ _ _ (by omega) hl rfl hi
      have k2 : Kept w.heap.size own A A2 := by rw [← hA2]; exact Kept.put A _ _ (by omega)
      clear hA2
      refine wpIn_mono (hbody pre x A2 i2 hlen) ?_
      rintro ex a' A3 hp
      cases ex with
      | normal =>
        obtain ⟨k3, i3⟩ := hp
        have l3 := (k3.2 (w.heap.size + 1) (by omega) (by omega)).trans l2
        have d3 := (k3.2 w.heap.size (by omega) (by omega)).trans d2
        have lt3 : w.heap.size + 1 < A3.heap.size := (Array.getElem?_eq_some_iff.1 l3).1
        have en := run_endRound (P := P) none l3
        refine ⟨_, _, en, rfl, (k2.trans (k3.less (by omega))).trans (Kept.put A3 _ _ (by omega)), hIp _ _ _ _ _ (by omega) l3 rfl i3, ?_, (World.putObj_heap_other (by omega)).trans d3⟩
        rw [World.putObj_heap_same lt3, hR]
        rfl
      | ret => exact hp.elim
      | exit id => exact hp.elim
      | goto t => exact hp.elim
      | panic ch => exact hp.elim
      | outgrown => exact hp.elim
    · rintro e W2 ⟨⟨v, rfl⟩, hi, hl, hd⟩
      have en := run_endLoop (P := P) hl (by rw [hR]; simp)
      rw [hR] at en
      refine ⟨none, _, en, hdone _ (hIp _ _ _ _ _ (by omega) hl rfl hi) ((World.putObj_heap_other (by omega)).trans hd)⟩
end Go.Proofs.YtnlhipbdnihapaaDoor.Word
