/- Laws for what has landed: a range over a function whose body goes on to the next round, whatever it writes; what is kept from round to round. -/
import Derived.Test.YtajckihgfelbaaaAdjA
import Derived.RangeFuncNested
import Derived.RangeFuncBound
import Derived.RangeFuncCalls
import Derived.RangeFuncLeaves
import Derived.RangeFuncBox
import Derived.Shelf.Abstract
import Derived.Shelf.RegionOpen
import Derived.OwnWalkIn
import Derived.TacticsInMore
import Derived.LoopNIn
import Derived.LoopIn
import Derived.Maps.AppendAt
import Derived.Deep.RegionHeld
namespace Go.Proofs.Ytajckihgfelbaaa.Adj
open Go.RowKit Go.Shelf Go.Proofs.Ytajckihgfelbaaa.Inst
set_option maxRecDepth 100000

/-- Blocks of cells of the numbers p lie as they lay. -/
def Stay (p : Nat → Prop) (A B : World) : Prop := A.heap.size ≤ B.heap.size ∧ ∀ k o, p k → A.heap[k]? = some o → o.isCells = true → B.heap[k]? = some o
theorem Stay.refl (p : Nat → Prop) (A : World) : Stay p A A := ⟨Nat.le_refl _, fun _ _ _ h _ => h⟩
theorem Stay.trans {p : Nat → Prop} {A B C : World} (h : Stay p A B) (k : Stay p B C) : Stay p A C := ⟨Nat.le_trans h.1 k.1, fun i o hp hi hc => k.2 i o hp (h.2 i o hp hi hc) hc⟩
theorem Stay.below {p : Nat → Prop} {A B : World} (h : Below A.heap.size A B) : Stay p A B := ⟨h.size, fun k _ _ hk _ => (h.block k (Array.getElem?_eq_some_iff.1 hk).1).trans hk⟩
theorem Stay.put {p : Nat → Prop} {A : World} {k : Nat} {o : Obj} (o' : Obj) (hk : A.heap[k]? = some o) (ho : o.isCells = false) : Stay p A (A.putObj k o') := by
  refine ⟨by simp [World.putObj], fun i oi _ hi hc => ?_⟩
  have ne : i ≠ k := fun e => by subst e; rw [hk] at hi; cases hi; rw [ho] at hc; cases hc
  exact (World.putObj_heap_other ne).trans hi
theorem Stay.set {p : Nat → Prop} (A : World) (q : Addr) (v : Value) (hq : ¬ p q.block) : Stay p A (A.setCell q v) :=
  ⟨by simp, fun i o hp hi _ => (Below.heap_setCell A q v i (fun e => hq (e ▸ hp))).trans hi⟩
theorem Stay.blk {p : Nat → Prop} {A B : World} (h : Stay p A B) {g : Nat} {t : TypeId} {cs : Array Value} (hp : p g) (hb : Blk A g t cs) : Blk B g t cs := h.2 g _ hp hb rfl
theorem Blk.putObj {w : World} {g : Nat} {t : TypeId} {cs : Array Value} (h : Blk w g t cs) {k : Nat} {o : Obj} (o' : Obj) (hk : w.heap[k]? = some o) (ho : o.isCells = false) : Blk (w.putObj k o') g t cs :=
  (Stay.put (p := fun _ => True) o' hk ho).blk trivial h

/-- How a round ends: the next one comes. -/
def roundOut {α : Type} (B : Nat) (p : Nat → Prop) (I : List α → World → Prop) (xs : List α) (W : World) : Exit → Act → World → Prop
  | .normal, _, W' => KeepsFrom B W W' ∧ Stay p W W' ∧ I xs W'
  | _, _, _ => False
theorem roundOut_shut {α : Type} {B : Nat} {p : Nat → Prop} {I : List α → World → Prop} {xs : List α} {W : World} : ¬ LetsOut (roundOut B p I xs W) := fun h => by
  first
    | exact h
    | exact h.elim
    | (obtain ⟨a, w, h⟩ := h; exact h)

theorem range_rounds {α : Type} {n : Nat} {P : Program} {g : Operand} {ps : Array Tmp} {assign body : Code} {Q : Exit → Act → World → Prop} {a : Act} {w : World}
    (h1 : 1 ≤ n) {gf : Nat} {lb : Array Value} (hg : a.eval g = .func (.func gf) #[] lb) (eg : ∀ args w, (callFunc gf args).run P w = .ok (.enter gf args) w)
    (enc : α → Array Value) (hps : ∀ x, (enc x).size = ps.size) (xs : List α) (p : Nat → Prop) (I : List α → World → Prop)
    (hIb : ∀ pre A A', I pre A → Below A.heap.size A A' → I pre A')
    (hIp : ∀ pre A k o o', w.heap.size ≤ k → A.heap[k]? = some o → o.isCells = false → I pre A → I pre (A.putObj k o'))
    (h0 : I [] w)
    (hseq : ∀ (l : Nat) (J : List α → World → Prop) (W : World), Below w.heap.size w W → (∀ pre A A', J pre A → Below A.heap.size A A' → J pre A') →
      (∀ pre x A, J pre A → pre ++ [x] <+: xs → YieldAt Fence.wide (n - 1 - 1) P l (enc x) A fun e A' => e = .returned (.bool true) ∧ Stay p A A' ∧ J (pre ++ [x]) A') → J [] W →
      CallsIn Fence.wide (n - 1) P gf (#[.func (.yield l) #[] #[]] ++ lb) W fun e W' => (∃ v, e = .returned v) ∧ J xs W')
    (Ax : α → Act → World → Prop) (hAx : ∀ x a1 A k o o', w.heap.size ≤ k → A.heap[k]? = some o → o.isCells = false → Ax x a1 A → Ax x a1 (A.putObj k o'))
    (hassign : ∀ (l : Nat) (pre : List α) (x : α) (W : World) (K : Act → World → Prop), I pre W → w.heap.size ≤ W.heap.size → (∀ a1 W1, Ax x a1 W1 → Below W.heap.size W W1 → K a1 W1) →
      assign.wpIn (Fence.wide.inRound l) (n - 1 - 1) P (Exit.then K (fun _ _ _ => False)) { tmps := (ps.zip (enc x)).foldl (fun t (p, v) => t.setIfInBounds p v) a.tmps, defers := [] } W)
    (hbody : ∀ (l : Nat) (pre : List α) (x : α) (a1 : Act) (W : World), I pre W → Ax x a1 W → pre ++ [x] <+: xs → w.heap.size ≤ W.heap.size → body.wpIn (Fence.wide.inRound l) (n - 1 - 1) P (roundOut w.heap.size p I (pre ++ [x]) W) a1 W)
    (hdone : ∀ (D : Nat) (W : World), w.heap.size ≤ D → I xs W → W.heap[D]? = some (.deferred (some [])) → Q .normal { a with defers := { target := .collected D, args := #[] } :: a.defers } W) :
    (Code.rangeFunc g ps assign body).wpIn Fence.wide n P Q a w := by
  refine wpIn_rangeFunc ?_
  intro fn hfn
  obtain ⟨R, hR⟩ : ∃ R : LoopState → Loop, R = fun st => { state := st, pending := none, fn, tmps := a.tmps, params := ps, assign, body, defers := w.heap.size } := ⟨_, rfl⟩
  obtain ⟨W1, hW1⟩ : ∃ W1, (w.alloc (.deferred (some []))).alloc (.loop (R .ready)) = W1 := ⟨_, rfl⟩
  have below1 : Below w.heap.size w W1 := by rw [← hW1]; exact ((Below.refl _ w).alloc (Nat.le_refl _) _).alloc (by simp) _
  have lo : W1.heap[w.heap.size + 1]? = some (.loop (R .ready)) := by
    have h := World.alloc_heap_new (w.alloc (.deferred (some []))) (.loop (R .ready))
    rw [World.size_alloc, hW1] at h
    exact h
  have de : W1.heap[w.heap.size]? = some (.deferred (some [])) := by
    rw [← hW1]
    exact (Below.heap_alloc _ _ _ (by simp)).trans (World.alloc_heap_new w _)
  refine ⟨w.heap.size + 1, [{ target := .collected w.heap.size, args := #[] }], W1, { target := .fn (.func gf) lb, args := #[.func (.yield (w.heap.size + 1)) #[] #[]] }, W1, gf,
    #[.func (.yield (w.heap.size + 1)) #[] #[]] ++ lb, W1, ?_, ?_, fun _ _ => trivial, ?_, fun _ => h1, ?_⟩
  · rw [← hW1, hR]
    exact run_enterLoop_outer _ _ _ _ _
  · simp only [resolve, hg]
    simp [go_sem]
  · simp [invoke, go_sem, eg]
  · refine (hseq (w.heap.size + 1) (fun pre W => I pre W ∧ W.heap[w.heap.size + 1]? = some (.loop (R .ready)) ∧ W.heap[w.heap.size]? = some (.deferred (some []))) W1 below1
      (fun pre A A' h hb => ⟨hIb pre A A' h.1 hb, (hb.block _ (Array.getElem?_eq_some_iff.1 h.2.1).1).trans h.2.1, (hb.block _ (Array.getElem?_eq_some_iff.1 h.2.2).1).trans h.2.2⟩)
      ?_ ⟨hIb _ _ _ h0 below1, lo, de⟩).mono ?_
    · rintro pre x A ⟨hi, hl, hd⟩ hlen
      have y := run_yield (P := P) (args := enc x) hl (by rw [hR]; exact hps x)
      rw [hR] at y
      have ltA : w.heap.size + 1 < A.heap.size := (Array.getElem?_eq_some_iff.1 hl).1
      refine ⟨fn, _, assign, body, y, roundIn_of_wpIn hfn (hassign _ pre x A _ hi (by omega) ?_)⟩
      intro a1 A1 hax hb1
      have z1 := hb1.size
      have hl1 := (hb1.block _ (Array.getElem?_eq_some_iff.1 hl).1).trans hl
      have hd1 := (hb1.block _ (Array.getElem?_eq_some_iff.1 hd).1).trans hd
      have beg := run_beginRound (P := P) hl1 (by rw [hR])
      refine ⟨_, beg, ?_⟩
      obtain ⟨A2, hA2⟩ : ∃ A2, A1.putObj (w.heap.size + 1) (.loop { R .ready with state := .busy }) = A2 := ⟨_, rfl⟩
      rw [hA2]
      have l2 : A2.heap[w.heap.size + 1]? = some (.loop { R .ready with state := .busy }) := by rw [← hA2]; exact World.putObj_heap_same (by omega)
      have d2 : A2.heap[w.heap.size]? = some (.deferred (some [])) := by rw [← hA2]; exact (World.putObj_heap_other (by omega)).trans hd1
      have i2 : I pre A2 := by rw [← hA2]; exact hIp pre A1 _ _ _ (by omega) hl1 rfl (hIb _ _ _ hi hb1)
      have x2 : Ax x a1 A2 := by rw [← hA2]; exact hAx x a1 A1 _ _ _ (by omega) hl1 rfl hax
      have k2 : Stay p A A2 := by rw [← hA2]; exact (Stay.below hb1).trans (Stay.put _ hl1 rfl)
      have s2 : w.heap.size ≤ A2.heap.size := by rw [← hA2]; simp [World.putObj]; omega
      clear hA2
      refine wpIn_mono (hbody _ pre x a1 A2 i2 x2 hlen s2) ?_
      rintro ex a' A3 hp
      cases ex with
      | normal =>
        obtain ⟨k3, s3, i3⟩ := hp
        have l3 := k3.same (w.heap.size + 1) _ (by omega) l2 rfl
        have d3 := k3.same w.heap.size _ (Nat.le_refl _) d2 rfl
        have lt3 : w.heap.size + 1 < A3.heap.size := (Array.getElem?_eq_some_iff.1 l3).1
        have en := run_endRound (P := P) none l3
        refine ⟨_, _, en, rfl, (k2.trans s3).trans (Stay.put _ l3 rfl), hIp _ _ _ _ _ (by omega) l3 rfl i3, ?_, (World.putObj_heap_other (by omega)).trans d3⟩
        rw [World.putObj_heap_same lt3, hR]
        rfl
      | ret => exact hp.elim
      | exit id => exact hp.elim
      | goto t => exact hp.elim
      | panic ch => exact hp.elim
      | outgrown => exact hp.elim
    · rintro e W2 ⟨⟨v, rfl⟩, hi, hl, hd⟩
      have en := run_endLoop (P := P) hl (by rw [hR]; simp)
      rw [hR] at en
      exact ⟨none, _, en, hdone _ _ (Nat.le_refl _) (hIp _ _ _ _ _ (by omega) hl rfl hi) ((World.putObj_heap_other (by omega)).trans hd)⟩

/-! A function that has gone through such loops leaves with their marks among its deferred calls. -/
/-- Marks: each one's block is shut when it comes up, and holds nothing. -/
inductive Marks (B : Nat) : List Deferred → World → Prop where
  | nil {W : World} : Marks B [] W
  | cons {D : Nat} {ds : List Deferred} {W : World} (hB : B ≤ D) (hd : W.heap[D]? = some (.deferred (some []))) (hn : ∀ D', { target := .collected D', args := #[] } ∈ ds → D' ≠ D) (h : Marks B ds W) : Marks B ({ target := .collected D, args := #[] } :: ds) W
theorem Marks.keep {B : Nat} {ds : List Deferred} {W W' : World} (h : Marks B ds W) (hk : ∀ k, B ≤ k → W.heap[k]? = some (.deferred (some [])) → { target := .collected k, args := #[] } ∈ ds → W'.heap[k]? = some (.deferred (some []))) : Marks B ds W' := by
  induction h with
  | nil => exact .nil
  | cons hB hd hn h ih => exact .cons hB (hk _ hB hd (by simp)) hn (ih (fun k h1 h2 h3 => hk k h1 h2 (by simp [h3])))
theorem Marks.fresh {B : Nat} {ds : List Deferred} {W : World} (h : Marks B ds W) : ∀ D, { target := .collected D, args := #[] } ∈ ds → D < W.heap.size := by
  induction h with
  | nil => intro D hD; cases hD
  | cons hB hd hn h ih =>
    intro D hD
    rcases List.mem_cons.1 hD with e | hD
    · cases e
      exact (Array.getElem?_eq_some_iff.1 hd).1
    · exact ih D hD
/-- At the return: all marks are taken up; blocks of cells lie as they lay. -/
theorem leaves_marks {F : Fence} {n : Nat} {P : Program} {fn : Func} {tmps : Array Value} {R : Ending → World → Prop} {B : Nat} : ∀ (ds : List Deferred) (W : World), Marks B ds W →
    (∀ W', Below B W W' → Stay (fun _ => True) W W' → LeavesIn F n P fn tmps R [] .returning W') → LeavesInM F n P fn tmps R ds .returning W := by
  intro ds
  induction ds with
  | nil => intro W _ h; exact h W (Below.refl _ _) (Stay.refl _ _)
  | cons d ds ih =>
    intro W hm h
    cases hm with
    | @cons D _ _ hB hd hn hr =>
      refine ⟨by simp, .inl ⟨D, _, rfl, run_takeDeferred hd, ?_⟩⟩
      refine ih _ (hr.keep (fun k _ hk hm => (World.putObj_heap_other (hn k hm)).trans hk)) ?_
      intro W' hb hst
      exact h W' (((Below.refl B W).grown (grownBy_putObj' W D (.deferred none)) (by have := (Array.getElem?_eq_some_iff.1 hd).1; omega) (fun k e => by cases e; exact hB)).trans hb) ((Stay.put _ hd rfl).trans hst)

/-! A region that draws its order, in a round: walked as anywhere. -/
/-- No operation defers. -/
def noDefer (ops : Array Oper) : Bool := ops.all fun o => match o.op with
  | .defer _ => false
  | _ => true
theorem noDefer_at {ops : Array Oper} (h : noDefer ops = true) {i : Nat} {o : Oper} (ho : ops[i]? = some o) : ∀ c, o.op ≠ .defer c := by
  intro c hc
  obtain ⟨hi, e⟩ := Array.getElem?_eq_some_iff.1 ho
  unfold noDefer at h
  have q := Array.all_eq_true.1 h i hi
  rw [e, hc] at q
  cases q
theorem wpAnyIn_round {l n : Nat} {P : Program} {md : Region.Mode} {ops : Array Oper} {Q : Exit → Act → World → Prop} (hd : noDefer ops = true) (hQ : ¬ LetsOut Q) : ∀ (fuel : Nat) (listed : Array Bool) (a : Act) (w : World),
    wpAny P md ops Q fuel listed a w → wpAnyIn (Fence.wide.inRound l) n P md ops Q fuel listed a w := by
  intro fuel
  induction fuel with
  | zero => intro listed a w h; exact h
  | succ fuel ih =>
    intro listed a w h
    refine ⟨h.1, fun i hi => ?_⟩
    have q := h.2 i hi
    unfold wpOp at q
    unfold wpOpIn
    cases ho : ops[i]? with
    | none => rw [ho] at q; exact ih _ _ _ q
    | some o =>
      rw [ho] at q
      simp only at q ⊢
      by_cases hw : Region.wanted o (yielded ops a.tmps) = true
      · rw [if_pos hw] at q ⊢
        rcases q with q | q
        · refine ⟨fun _ _ => trivial, ?_⟩
          rw [Oper.semAt_plain _ _ _ (noDefer_at hd ho)]
          unfold Oper.wp at q
          generalize (execOp a.eval o).run P w = r at q ⊢
          cases r with
          | ok x w' =>
            cases x with
            | value v => exact ih _ _ _ q
            | skip => exact ih _ _ _ q
            | defer d => exact ih _ _ _ q
            | enter f args =>
              refine ⟨fun hx => absurd hx (by simp [Fence.wide]), CallsIn.inRound l ((callsIn_wide.2 q).mono ?_)⟩
              intro e w'' he
              cases e with
              | returned v => exact ih _ _ _ he
              | panicked c => exact he
              | outgrown => exact he
            | row row args =>
              refine ⟨fun hx => absurd hx (by simp [Fence.wide]), fun c cs _ => ?_⟩
              obtain ⟨v, w'', r, s⟩ := q c cs
              exact ⟨v, w'', ih _ _ _ r, stepsIn_wide.2 s⟩
            | _ => exact q.elim
          | halt x w' =>
            cases x <;> first | exact q | exact q.elim
        · exact absurd q.2 hQ
      · rw [if_neg hw] at q ⊢
        exact ⟨fun _ _ => trivial, ih _ _ _ q⟩
theorem wpIn_region_round {l n id : Nat} {P : Program} {ops : Array Oper} {Q : Exit → Act → World → Prop} {S : World → Prop} {a : Act} {w : World} (hm : P.follows .mixedOrders = true) (hd : noDefer ops = true) (hQ : ¬ LetsOut Q)
    (hS : S w.drew) (h : S w.drew → wpAnyH P .any ops Q S ops.size (Array.replicate ops.size false) a w.drew) : (Code.region id ops true).wpIn (Fence.wide.inRound l) n P Q a w :=
  wpIn_region_any hm (wpAnyIn_round hd hQ _ _ _ _ (wpAny_of_held _ _ _ _ (h hS)))
end Go.Proofs.Ytajckihgfelbaaa.Adj
