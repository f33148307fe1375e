/- What stays as it was but for some blocks; a row of one's own behind a block. -/
import Derived.Test.YtajckihgfelbaaaAdjL9
import Derived.Test.YtajckihgfelbaaaAdjL7
import Derived.Test.YtajckihgfelbaaaRchMathX
import Derived.Deep.AppendLies
import Derived.Deep.LoopGhost
import Derived.WalkMore
namespace Go.Proofs.Ytajckihgfelbaaa.Rch
open Go.RowKit Go.Proofs.Ytajckihgfelbaaa.Inst Go.Proofs.Ytajckihgfelbaaa.Adj

/-- All blocks are as they were, but for those of p. -/
structure Kp (p : Nat → Prop) (w w' : World) : Prop where
  os : w'.os = w.os
  tape : w'.tape = w.tape
  output : w'.output = w.output
  size : w.heap.size ≤ w'.heap.size
  block : ∀ k, k < w.heap.size → ¬ p k → w'.heap[k]? = w.heap[k]?
abbrev noB : Nat → Prop := fun _ => False
section
variable {p q : Nat → Prop} {w u v : World}
theorem Kp.refl (p : Nat → Prop) (w : World) : Kp p w w := ⟨rfl, rfl, rfl, Nat.le_refl _, fun _ _ _ => rfl⟩
theorem Kp.trans (h : Kp p w u) (g : Kp p u v) : Kp p w v :=
  ⟨g.os.trans h.os, g.tape.trans h.tape, g.output.trans h.output, Nat.le_trans h.size g.size, fun k hk hf => (g.block k (Nat.lt_of_lt_of_le hk h.size) hf).trans (h.block k hk hf)⟩
theorem Kp.mono (h : Kp p w u) (hq : ∀ k, k < w.heap.size → p k → q k) : Kp q w u := ⟨h.os, h.tape, h.output, h.size, fun k hk hf => h.block k hk (fun x => hf (hq k hk x))⟩
/-- Behind it others may be written that are new. -/
theorem Kp.then (h : Kp p w u) (g : Kp q u v) (hq : ∀ k, k < w.heap.size → q k → p k) : Kp p w v :=
  ⟨g.os.trans h.os, g.tape.trans h.tape, g.output.trans h.output, Nat.le_trans h.size g.size, fun k hk hf => (g.block k (Nat.lt_of_lt_of_le hk h.size) (fun x => hf (hq k hk x))).trans (h.block k hk hf)⟩
theorem Kp.of {B : Nat} (h : Below B w u) (hB : w.heap.size ≤ B) : Kp p w u := ⟨h.os, h.tape, h.output, h.size, fun k hk _ => h.block k (Nat.lt_of_lt_of_le hk hB)⟩
theorem Kp.below {B : Nat} (h : Kp p w u) (hp : ∀ k, p k → B ≤ k) (hB : B ≤ w.heap.size) : Below B w u := ⟨h.os, h.tape, h.output, h.size, fun k hk => h.block k (by omega) (fun x => by have := hp k x; omega)⟩
theorem Kp.alloc (h : Kp p w u) (o : Obj) : Kp p w (u.alloc o) := h.trans (Kp.of ((Below.refl _ _).alloc (Nat.le_refl _) o) (Nat.le_refl _))
theorem Kp.drew (h : Kp p w u) : Kp p w u.drew := ⟨h.os, h.tape, h.output, h.size, h.block⟩
theorem Kp.set (h : Kp p w u) (g o : Nat) (x : Value) (hp : g < w.heap.size → p g) : Kp p w (u.setCell ⟨g, o, none⟩ x) :=
  ⟨h.os, h.tape, h.output, by simp; exact h.size, fun k hk hf => (Below.heap_setCell u ⟨g, o, none⟩ x k (by show k ≠ g; intro e; subst e; exact hf (hp hk))).trans (h.block k hk hf)⟩
theorem Kp.grown {row : Option Nat} (h : Kp p w u) (hg : u.grownBy v row) (hr : ∀ g, row = some g → g < w.heap.size → p g) : Kp p w v :=
  ⟨hg.os.trans h.os, hg.tape.trans h.tape, hg.output.trans h.output, Nat.le_trans h.size hg.size, fun k hk hf => (hg.block k (Nat.lt_of_lt_of_le hk h.size) (fun e => hf (hr k e.symm hk))).trans (h.block k hk hf)⟩
theorem Kp.blk (h : Kp p w u) {g : Nat} {t : TypeId} {cs : Array Value} (hg : Blk w g t cs) (hf : ¬ p g) : Blk u g t cs := (h.block g hg.lt hf).trans hg
theorem Kp.own (h : Kp p w u) {base n sz : Nat} {e : TypeId} {x : Value} {xs : List Value} (ho : w.ownsRow base e sz x n xs) (hf : ∀ g, x.ownBlock = some g → ¬ p g) : u.ownsRow base e sz x n xs := by
  have hl := own_lt ho
  obtain ⟨h1, h2⟩ := ho
  refine ⟨h1, ?_⟩
  rcases h2 with q | ⟨g', cap', cur, q, h3, h4, h5⟩
  · exact .inl q
  · subst q
    exact .inr ⟨g', cap', cur, rfl, h3, (h.block g' (hl g' (by simp [Value.ownBlock])) (hf g' (by simp [Value.ownBlock]))).trans h4, h5⟩
theorem Kp.cells (h : Kp p w u) {a : Option Addr} {vs : List Value} (ha : Cells w w.heap.size a vs) (hf : ∀ g, Value.ownBlock (.slice a vs.length vs.length) = some g → ¬ p g) : Cells u u.heap.size a vs := by
  intro h0
  obtain ⟨b, off, e, hlt, hc⟩ := ha h0
  subst e
  have := h.size
  exact ⟨b, off, rfl, by omega, fun i hi => (World.cell?_of_block (w := w) (h.block b hlt (hf b (by simp [Value.ownBlock])))).trans (hc i hi)⟩
end
/-- Rows whose cells are of other kinds lie apart; a row and a block too. -/
theorem own_apart {w : World} {b b' n n' sz sz' : Nat} {e e' : TypeId} {v v' : Value} {xs xs' : List Value} (h : w.ownsRow b e sz v n xs) (h' : w.ownsRow b' e' sz' v' n' xs') (he : e ≠ e') : ∀ g, v.ownBlock = some g → v'.ownBlock ≠ some g := by
  intro g e1 e2
  rcases h.2 with ⟨rfl, _⟩ | ⟨g1, cap, cur, rfl, _, hg, _⟩
  · simp [Value.ownBlock] at e1
  · rcases h'.2 with ⟨rfl, _⟩ | ⟨g2, cap', cur', rfl, _, hg', _⟩
    · simp [Value.ownBlock] at e2
    · simp [Value.ownBlock] at e1 e2
      subst e1 e2
      rw [hg] at hg'
      cases hg'
      exact he rfl
theorem blk_apart {w : World} {b n sz g : Nat} {e t : TypeId} {v : Value} {xs : List Value} {cs : Array Value} (h : w.ownsRow b e sz v n xs) (h' : Blk w g t cs) (he : e ≠ t) : v.ownBlock ≠ some g := by
  intro e1
  rcases h.2 with ⟨rfl, _⟩ | ⟨g1, cap, cur, rfl, _, hg, _⟩
  · simp [Value.ownBlock] at e1
  · simp [Value.ownBlock] at e1
    subst e1
    unfold Blk at h'
    rw [hg] at h'
    cases h'
    exact he rfl
theorem blk_other {w : World} {g g' : Nat} {t t' : TypeId} {cs cs' : Array Value} (h : Blk w g t cs) (h' : Blk w g' t' cs') (he : t ≠ t') : g ≠ g' := by
  intro e
  subst e
  unfold Blk at h h'
  rw [h] at h'
  cases h'
  exact he rfl
/-- Block b, of type t, holds the slice v, whose row of numbers is its own. -/
structure Held (w : World) (t : TypeId) (b : Nat) (v : Value) (l : List Int) : Prop where
  blk : Blk w b t #[v]
  own : w.ownsRow 0 3 1 v l.length (numV l)
theorem Held.kp {p : Nat → Prop} {w u : World} {t : TypeId} {b : Nat} {v : Value} {l : List Int} (h : Held w t b v l) (g : Kp p w u) (h1 : ¬ p b) (h2 : ∀ g, v.ownBlock = some g → ¬ p g) : Held u t b v l := ⟨g.blk h.blk h1, g.own h.own h2⟩
theorem Held.later {w u : World} {t : TypeId} {b : Nat} {v : Value} {l : List Int} (h : Held w t b v l) (g : Below w.heap.size w u) : Held u t b v l := h.kp (p := noB) (Kp.of g (Nat.le_refl _)) (fun x => x) (fun _ _ x => x)
theorem numV_snoc (l : List Int) (x : Int) : numV (l ++ [x]) = numV l ++ [.int .i64 x] := by simp [numV]
theorem numV_app (l m : List Int) : numV (l ++ m) = numV l ++ numV m := by simp [numV]
theorem own_take {w : World} {base n cap : Nat} {e : TypeId} {g : Option Addr} {xs : List Value} (h : w.ownsRow base e 1 (.slice g n cap) n xs) (hn : 0 < n) (k : Nat) (hk : k ≤ n) : w.ownsRow base e 1 (.slice g k cap) k (xs.take k) := by
  obtain ⟨hl, hr⟩ := h
  refine ⟨by rw [List.length_take]; omega, ?_⟩
  rcases hr with ⟨h1, h2⟩ | ⟨g', cap', cur, h1, h2, h3, h4, h5, h6, h7⟩
  · omega
  · cases h1
    refine .inr ⟨g', cap, cur, rfl, h2, h3, by omega, h5, h6, ?_⟩
    rw [← h7, List.take_take, Nat.min_eq_left (by omega), Nat.mul_one]
end Go.Proofs.Ytajckihgfelbaaa.Rch
/- What the landed layer 6 does: what is still to do, the newest first. -/
namespace Go.Proofs.Ytajckihgfelbaaa.Rch
open Go.RowKit Go.Proofs.Ytajckihgfelbaaa.Inst Go.Proofs.Ytajckihgfelbaaa.Adj
set_option maxRecDepth 100000

/-- Block b is a stack: its row is its own. -/
abbrev Stack (w : World) (b : Nat) (v : Value) (st : List Int) : Prop := Held w 159 b v st
/-- Behind a call that writes block b and its row v alone: the row is v's, or a new one. -/
def Wrote (b : Nat) (v v' : Value) (w w' : World) : Prop := Kp (fun k => k = b ∨ v.ownBlock = some k) w w' ∧ ∀ g, v'.ownBlock = some g → v.ownBlock = some g ∨ w.heap.size ≤ g

set_option maxHeartbeats 4000000 in
theorem put_newest (b : Nat) (v : Value) (st : List Int) (m : Int) (w : World) (h : Stack w b v st) (hl : st.length ≤ 1000000000) :
    Calls Try.prog 167 #[.pointer (some ⟨b, 0, none⟩), .int .i64 m] w fun e w' => (∃ r, e = .returned r) ∧ ∃ v', Stack w' b v' (st ++ [m]) ∧ Wrote b v v' w w' := by
  obtain ⟨i0, hi0, hz0, hz1, hz2⟩ := info_parts info_int
  have x0 := h.blk.cell 0
  have x1 := h.blk.lt
  have x2 := h.blk.frozen 0
  simp at x0
  have H := Lib.hid h
  have G0 := Lib.hid hi0
  have G1 := Lib.hid hz0
  have G2 := Lib.hid hz1
  have G3 := Lib.hid hz2
  have NE := Lib.hid (blk_apart h.own h.blk (by decide))
  clear h hi0 hz0 hz1 hz2
  go_enter Try.func167, Try.ntmps167
  go_wp2_with (
    at_builtin
    refine wpList_append_lies _ rfl _ _ 159 rfl 0 3 i0 _ 1 8 Try.underlying159 G0.out G1.out G2.out G3.out rfl (by decide) _ _ _ rfl (H.out.own.alloc _) ⟨w.heap.size, 0, none⟩ 1 1 [.int .i64 m] rfl rfl ?c1 ?c2 (by decide) ?c3 ?c4 (Nat.zero_le _) _ rfl ?_
    case c1 => exact cell_one_new _ _ _
    case c2 => simp [Value.oneCell']
    case c3 => simp only [maxLen]; omega
    case c4 => omega
    intro g cap w1 hown hgrow hat hlt
    have hb1 : Blk w1 b 159 #[v] := (hgrow.block b (by simp; omega) (fun e => NE.out e.symm)).trans (H.out.blk.alloc _)
    have y0 := hb1.cell 0
    have y1 := hb1.lt
    have y2 := hb1.frozen 0
    simp at y0
    have HB1 := Lib.hid hb1
    have OW := Lib.hid hown
    have GR := Lib.hid hgrow
    have AT := Lib.hid hat
    clear hb1 hown hgrow hat)
  go_end0
  have ne : (Value.slice (some ⟨g, 0, none⟩) (st.length + 1) cap).ownBlock ≠ some b := by
    have := blk_apart OW.out HB1.out (by decide)
    exact this
  refine ⟨⟨_, rfl⟩, _, ⟨HB1.out.set_ 0 _, ?_⟩, ?_, ?_⟩
  · rw [List.length_append, numV_snoc]
    exact own_far OW.out ne _
  · refine Kp.set ?_ b 0 _ (fun _ => .inl rfl)
    exact ((Kp.refl _ w).alloc _).grown GR.out (fun g hg _ => .inr hg)
  · intro k hk
    simp [Value.ownBlock] at hk
    subst hk
    rcases AT.out with q | q
    · exact .inl q
    · right
      rw [q]
      simp

theorem take_none (b : Nat) (v : Value) (w : World) (h : Stack w b v []) :
    Calls Try.prog 168 #[.pointer (some ⟨b, 0, none⟩)] w fun e w' => e = .returned (.tuple #[.int .i64 0, .bool false]) ∧ w = w' := by
  obtain ⟨-, A, cap, rfl, -⟩ := own_cells h.own
  have x0 := h.blk.cell 0
  have x1 := h.blk.lt
  simp at x0
  clear h
  go_enter Try.func168, Try.ntmps168
  go_wp2_with fail
  go_ret2
  exact ⟨rfl, rfl⟩
set_option maxHeartbeats 4000000 in
theorem take_newest (b : Nat) (v : Value) (st : List Int) (m : Int) (w : World) (h : Stack w b v (st ++ [m])) (hl : st.length ≤ 1000000000) :
    Calls Try.prog 168 #[.pointer (some ⟨b, 0, none⟩)] w fun e w' => e = .returned (.tuple #[.int .i64 m, .bool true]) ∧ ∃ v', Stack w' b v' st ∧ Wrote b v v' w w' := by
  obtain ⟨k, hk⟩ : ∃ k, k = st.length := ⟨_, rfl⟩
  have ho := h.own
  have e : (st ++ [m]).length = k + 1 := by simp [hk]
  rw [e] at ho
  obtain ⟨-, A, cap, rfl, hc, -⟩ := own_cells ho
  obtain ⟨g, rfl, hg, hcell, -⟩ := own_at ho (by omega)
  have c0 : w.cell? ⟨g, k, none⟩ = some (.int .i64 m) := by
    rw [hcell k (by rw [numV_length, e]; omega)]
    simp [numV, hk]
  have OT := Lib.hid (own_take ho (by omega) k (by omega))
  have BK := Lib.hid h.blk
  have NE := Lib.hid (blk_apart ho h.blk (by decide))
  have x0 := h.blk.cell 0
  have x1 := h.blk.lt
  have x2 := h.blk.frozen 0
  simp at x0
  have k9 : k ≤ 1000000000 := by omega
  have wk : wrap64 (k : Int) = (k : Int) := by unfold wrap64; omega
  have HK := Lib.hid hk
  clear h ho hcell hk e
  go_enter Try.func168, Try.ntmps168
  go_wp2_with fail
  go_ret2
  refine ⟨rfl, _, ⟨BK.out.set_ 0 _, ?_⟩, ?_, ?_⟩
  · have h := own_far OT.out (p := ⟨b, 0, none⟩) NE.out (.slice (some ⟨g, 0, none⟩) k cap)
    rw [HK.out] at h ⊢
    rw [numV_snoc, List.take_left' (by rw [numV_length])] at h
    exact h
  · exact Kp.set (Kp.refl _ w) b 0 _ (fun _ => .inl rfl)
  · intro j hj
    exact .inl hj
end Go.Proofs.Ytajckihgfelbaaa.Rch
/- What the landed layer 6 does: all that is to do, one by one, whatever gives it and whatever is done. -/
namespace Go.Proofs.Ytajckihgfelbaaa.Rch
open Go.RowKit Go.Proofs.Ytajckihgfelbaaa.Inst Go.Proofs.Ytajckihgfelbaaa.Adj
set_option maxRecDepth 100000

/-- Behind taking one away, where at most k are to come. -/
def After (Mid : Int → Nat → World → Prop) (End : World → Prop) (k : Nat) (n : Int) (f : Bool) (w : World) : Prop := (f = false ∧ End w) ∨ (f = true ∧ ∃ j, j < k ∧ Mid n j w)
/-- At the head of the outer loop. -/
def WalkRel (Mid : Int → Nat → World → Prop) (End : World → Prop) (k : Nat) (s4 s5 : Value) (w : World) : Prop := ∃ n f, s4 = .int .i64 n ∧ s5 = .bool f ∧ After Mid End k n f w
/-- At the head of the inner loop. -/
def PutRel (Puts : Option Addr → List Int → Nat → Nat → World → Prop) (A : Option Addr) (l : List Int) (j : Nat) (s : Value) (w : World) : Prop := ∃ i, i ≤ l.length ∧ s = .int .i64 (i : Int) ∧ Puts A l j i w

set_option maxHeartbeats 4000000 in
theorem walk_any (T : TypeId) (p : Value) (KT KP F : Nat) (lb : Array Value) (Inv : Nat → World → Prop) (Mid : Int → Nat → World → Prop) (Puts : Option Addr → List Int → Nat → Nat → World → Prop) (End : World → Prop)
    (mt : ∀ w, (method 291 T p "quittance/reach.take").run Try.prog w = .ok (KT, p) w) (et : ∀ args w, (callFunc KT args).run Try.prog w = .ok (.enter KT args) w)
    (mp : ∀ w, (method 291 T p "quittance/reach.put").run Try.prog w = .ok (KP, p) w) (ep : ∀ args w, (callFunc KP args).run Try.prog w = .ok (.enter KP args) w)
    (ef : ∀ args w, (callFunc F args).run Try.prog w = .ok (.enter F args) w)
    (hT : ∀ k w, Inv k w → Calls Try.prog KT #[p] w fun e w' => ∃ n f, e = .returned (.tuple #[.int .i64 n, .bool f]) ∧ After Mid End k n f w')
    (hM : ∀ n k w, Mid n k w → Calls Try.prog F (#[.int .i64 n] ++ lb) w fun e w' => ∃ A l c, e = .returned (.slice A l.length c) ∧ l.length ≤ 1000000 ∧ Puts A l k 0 w')
    (hC : ∀ A l k i w, Puts A l k i w → Cells w w.heap.size A (numV l))
    (hP : ∀ A l k i w (h : i < l.length), Puts A l k i w → Calls Try.prog KP #[p, .int .i64 l[i]] w fun e w' => (∃ r, e = .returned r) ∧ Puts A l k (i + 1) w')
    (hI : ∀ A l k w, Puts A l k l.length w → Inv k w)
    (k0 : Nat) (w : World) (h : Inv k0 w) : Calls Try.prog 72 #[.iface T p, .func (.func F) #[] lb] w fun e w' => (∃ r, e = .returned r) ∧ End w' := by
  have TT := Lib.hid hT
  have MM := Lib.hid hM
  have CC := Lib.hid hC
  have PP := Lib.hid hP
  have II := Lib.hid hI
  have H := Lib.hid h
  clear hT hM hC hP hI h
  go_enter Try.func72, Try.ntmps72
  go_wp2_with fail
  refine (TT.out k0 _ H.out).mono ?_
  rintro e w1 ⟨n, f, rfl, ha⟩
  have HA := Lib.hid ha
  clear ha H
  go_wp2_with fail
  go_loopg [4, 5] k0 (fun k s4 s5 wr => WalkRel Mid End k s4 s5 wr)
  case atStart => exact ⟨n, f, rfl, rfl, HA.out⟩
  case round =>
    obtain ⟨n, f, rfl, rfl, ha⟩ := hrel
    rcases ha with ⟨rfl, ha⟩ | ⟨rfl, j, hj, ha⟩
    · have E := Lib.hid ha
      clear ha HA
      go_wp2_with fail
      go_end0
      exact ⟨⟨_, rfl⟩, E.out⟩
    · have M := Lib.hid ha
      clear ha HA
      go_wp2_with fail
      refine (MM.out n j _ M.out).mono ?_
      rintro e w2 ⟨A, l, c, rfl, hl, hp⟩
      have P0 := Lib.hid hp
      clear hp M
      go_wp2_with fail
      go_loopw [23] (fun s u => PutRel Puts A l j s u) (fun s _ => l.length - (intOf s).toNat)
      case atStart => exact ⟨0, Nat.zero_le _, rfl, P0.out⟩
      case round =>
        obtain ⟨i, hi, rfl, hp⟩ := hrel
        have PI := Lib.hid hp
        clear hp
        by_cases hlt : i < l.length
        · obtain ⟨b, off, ea, hb, hc⟩ := nums_at (CC.out _ _ _ _ _ PI.out) (by omega)
          have c1 := hc i hlt
          have i0 : (0 : Int) ≤ (i : Int) := by omega
          have i1 : (i : Int) < (l.length : Int) := by omega
          have PC := Lib.hid (PP.out A l j i _ hlt PI.out)
          obtain ⟨x, hx⟩ : ∃ x, x = l[i] := ⟨_, rfl⟩
          rw [← hx] at c1 PC
          subst ea
          clear hc hx
          go_wp2_with fail
          refine PC.out.mono ?_
          rintro e w3 ⟨⟨r, rfl⟩, hp⟩
          have P1 := Lib.hid hp
          clear hp
          go_wp2_with fail
          exact ⟨⟨i + 1, by omega, by simp, P1.out⟩, by simp [intOf]; omega⟩
        · obtain rfl : i = l.length := by omega
          have I1 := Lib.hid (II.out _ _ _ _ PI.out)
          go_wp2_with fail
          refine (TT.out j _ I1.out).mono ?_
          rintro e w1 ⟨n', f', rfl, ha⟩
          have HA := Lib.hid ha
          clear ha
          go_wp2_with fail
          go_roundg j
          case measure => exact hj
          case rel => exact ⟨n', f', rfl, rfl, HA.out⟩
end Go.Proofs.Ytajckihgfelbaaa.Rch
