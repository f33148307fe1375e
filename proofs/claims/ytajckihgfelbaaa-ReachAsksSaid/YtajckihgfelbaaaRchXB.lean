/- What the landed layer 6 does: which nodes come next, as a function that is handed on. -/
import Derived.Test.YtajckihgfelbaaaRchXA
import Derived.Test.YtajckihgfelbaaaRchMathX
import Derived.Laws.MakeOwn
namespace Go.Proofs.Ytajckihgfelbaaa.Rch
open Go.RowKit Go.Proofs.Ytajckihgfelbaaa.Inst Go.Proofs.Ytajckihgfelbaaa.Adj
set_option maxRecDepth 100000

/-- At the head of its loop. -/
def AlongRel (v : World) (L M : List Nat) (s5 s12 : Value) (u : World) : Prop :=
  ∃ k : Nat, k ≤ L.length ∧ s12 = .int .i64 (k : Int) ∧ u.ownsRow v.heap.size 3 1 s5 k (natV (M.take k)) ∧ Below v.heap.size v u
set_option maxHeartbeats 4000000 in
theorem along1_any (q : Option Addr) (I : InstD) (n : Nat) (G c2 c3 : Nat) (t2 t3 : TypeId) (L M : List Nat) (hL : L.length ≤ 1000) (hM : M = L.map fun (a : Nat) => (otherD I (a : Int) (n : Int)).toNat) (hO : ∀ a ∈ L, 0 ≤ otherD I (a : Int) (n : Int) ∧ a ≤ 1000) (v : World) (hv : GrV v q I)
    (h2 : Blk v c2 t2 #[.pointer q]) (h3 : Blk v c3 t3 #[.func (.func G) #[.pointer q] #[]]) (eG : ∀ args w, (callFunc G args).run Try.prog w = .ok (.enter G args) w) (hG : Calls Try.prog G #[.pointer q, .int .i64 (n : Int)] v (TellsNats L v)) :
    Calls Try.prog 95 #[.int .i64 (n : Int), .pointer (some ⟨c3, 0, none⟩), .pointer (some ⟨c2, 0, none⟩)] v (TellsNats M v) := by
  obtain ⟨i0, hi0, hz0, hz1, hz2⟩ := info_parts info_int
  have G0 := Lib.hid hi0
  have G1 := Lib.hid hz0
  have G2 := Lib.hid hz1
  have G3 := Lib.hid hz2
  have x0 := h2.cell 0
  have x1 := h2.lt
  have y0 := h3.cell 0
  have y1 := h3.lt
  simp at x0 y0
  have ML : M.length = L.length := by rw [hM, List.length_map]
  have HM := Lib.hid hM
  have HO := Lib.hid hO
  have HV := Lib.hid hv
  have H2 := Lib.hid h2
  have HG := Lib.hid hG
  have LM := Lib.hid ML
  clear hi0 hz0 hz1 hz2 hM hO hv h2 h3 hG ML
  go_enter Try.func95, Try.ntmps95
  go_wp2_with fail
  refine HG.out.mono ?_
  rintro e v1 ⟨A, ac, rfl, hac, hc, hb, -⟩
  have HC := Lib.hid hc
  have HB := Lib.hid hb
  clear hc hb
  go_wp2_with fail
  go_loopw [5, 12] (fun s5 s12 u => AlongRel v1 L M s5 s12 u) (fun _ s12 _ => L.length - (intOf s12).toNat)
  case atStart => exact ⟨0, Nat.zero_le _, rfl, ⟨rfl, .inl ⟨rfl, rfl⟩⟩, Below.refl _ _⟩
  case round =>
    obtain ⟨k, hk, rfl, ho, hb⟩ := hrel
    have RO := Lib.hid ho
    have RB := Lib.hid hb
    have RV := Lib.hid (chain2 HB.out hb)
    have bs := hb.size
    clear ho hb
    by_cases hlt : k < L.length
    · obtain ⟨b, off, ea, hbl, hcell⟩ := nats_at (HC.out.later (Nat.le_refl _) RB.out) (by omega)
      have c1 := hcell k hlt
      have k0 : (0 : Int) ≤ (k : Int) := by omega
      have k1 : (k : Int) < (L.length : Int) := by omega
      obtain ⟨a, ha⟩ : ∃ a, a = L[k] := ⟨_, rfl⟩
      rw [← ha] at c1
      have am : a ∈ L := by rw [ha]; exact List.getElem_mem hlt
      obtain ⟨o0, a9⟩ := HO.out a am
      obtain ⟨r, hr⟩ : ∃ r : Nat, otherD I (a : Int) (n : Int) = (r : Int) := ⟨(otherD I (a : Int) (n : Int)).toNat, by omega⟩
      have U2 := H2.out.below RV.out H2.out.lt
      have z0 := U2.cell 0
      have z1 := U2.lt
      simp at z0
      have OC := Lib.hid (fun u (h : GrV u q I) => other_v q I (a : Int) (n : Int) (by unfold I64; omega) u h)
      rw [hr] at OC
      have GV := Lib.hid (HV.out.later RV.out)
      have MT := Lib.hid (show M.take (k + 1) = M.take k ++ [r] by
        rw [List.take_succ_eq_append_getElem (by rw [LM.out]; exact hlt)]
        congr 2
        have e : M[k]'(by rw [LM.out]; exact hlt) = (L.map fun (a : Nat) => (otherD I (a : Int) (n : Int)).toNat)[k]'(by rw [List.length_map]; exact hlt) := by simp only [HM.out]
        rw [e, List.getElem_map, ← ha, hr]
        rfl)
      subst ea
      clear hcell ha am o0 hr U2
      go_wp2_with (first
        | (go_at_call 93; (with_reducible refine (OC.out _ GV.out).mono ?_); rintro e v2 ⟨rfl, hb2⟩; have HB2 := Lib.hid hb2; have hz := hb2.size; clear hb2)
        | (at_builtin
           refine wpList_append_own _ rfl _ _ 32 rfl v1.heap.size 3 i0 _ 1 8 Try.underlying32 G0.out G1.out G2.out G3.out rfl (by decide) _ _ _ rfl ((own_later RO.out HB2.out).alloc _) ⟨v2.heap.size, 0, none⟩ 1 1 [.int .i64 (r : Int)] rfl rfl ?c1 ?c2 ?c3 ?c4 ?c5 ?_
           case c1 => exact cell_one_new _ _ _
           case c2 => simp [Value.oneCell']
           case c3 => simp only [maxLen]; omega
           case c4 => omega
           case c5 => simp; omega
           intro v' u1 hown hgrow _
           have OW := Lib.hid hown
           have GR := Lib.hid hgrow
           clear hown hgrow))
      have b2 : Below v1.heap.size v1 (v2.alloc (.cells #[.int .i64 (r : Int)] 3)) := (chain2 RB.out HB2.out).alloc (by omega) _
      have b3 : Below v1.heap.size v1 u1 := b2.grown GR.out b2.size (own_ge RO.out)
      exact ⟨⟨k + 1, by omega, by simp, by rw [MT.out, natV_snoc]; exact OW.out, b3⟩, by simp [intOf]; omega⟩
    · obtain rfl : k = L.length := by omega
      have O2 := RO.out
      rw [List.take_of_length_le (by rw [LM.out]; exact Nat.le_refl _), ← LM.out] at O2
      obtain ⟨-, A', cap, rfl, hcap, -, hcs⟩ := own_cells O2
      have OF := Lib.hid O2
      have OD := Lib.hid hcs
      clear O2 hcs
      rw [← LM.out]
      go_wp2_with fail
      go_ret
      exact ⟨A', cap, rfl, hcap, OD.out, RV.out, own_base OF.out HB.out.size⟩
end Go.Proofs.Ytajckihgfelbaaa.Rch
/- What the landed layer 6 does: a node, and all that it leads on to. -/
namespace Go.Proofs.Ytajckihgfelbaaa.Rch
open Go.RowKit Go.Proofs.Ytajckihgfelbaaa.Inst Go.Proofs.Ytajckihgfelbaaa.Adj
set_option maxRecDepth 100000

abbrev intsN (l : List Nat) : List Int := l.map fun (x : Nat) => (x : Int)
theorem numV_ints (l : List Nat) : numV (intsN l) = natV l := rfl
/-- A function that tells which nodes come next; as long as nothing but blocks of p is written. -/
structure NextIs (p : Nat → Prop) (N : Nat) (f : Nat → List Nat) (F : Nat) (lb : Array Value) (w : World) : Prop where
  enter : ∀ args w, (callFunc F args).run Try.prog w = .ok (.enter F args) w
  few : ∀ n, (f n).length ≤ 1000 ∧ ∀ b ∈ f n, b < N
  tells : ∀ v, Kp p w v → ∀ n : Nat, n < N → Calls Try.prog F (#[.int .i64 (n : Int)] ++ lb) v (TellsNats (f n) v)
theorem NextIs.later {p q : Nat → Prop} {N : Nat} {f : Nat → List Nat} {F : Nat} {lb : Array Value} {w u : World} (h : NextIs p N f F lb w) (g : Kp p w u) (hq : ∀ k, k < w.heap.size → q k → p k) : NextIs q N f F lb u :=
  ⟨h.enter, h.few, fun v hv n hn => h.tells v (g.then hv hq) n hn⟩

/-- A walk's blocks: the stack b, a list c7, marks behind c5, a function behind c4. -/
structure Mem (w0 : World) (N M b c4 c5 c7 F : Nat) (lb : Array Value) (w : World) (vs vf : Value) (st : List Int) (met : List Bool) (fr : List Nat) : Prop where
  stack : Stack w b vs st
  list : Held w 32 c7 vf (intsN fr)
  mbox : Blk w c5 68 #[.slice (some ⟨M, 0, none⟩) N N]
  mrow : Blk w M 4 (boolV met).toArray
  nbox : Blk w c4 100 #[.func (.func F) #[] lb]
  apart : ∀ g, vs.ownBlock = some g → vf.ownBlock ≠ some g
  kp : Kp (fun k => k = M ∨ k = c7) w0 w
  nb : w0.heap.size ≤ b
  ns : ∀ g, vs.ownBlock = some g → w0.heap.size ≤ g
  nf : ∀ g, vf.ownBlock = some g → w0.heap.size ≤ g
section
variable {w0 w w' : World} {N M b c4 c5 c7 F : Nat} {lb : Array Value} {vs vf vs' vf' : Value} {st st' : List Int} {met : List Bool} {fr fr' : List Nat}
theorem Mem.later (h : Mem w0 N M b c4 c5 c7 F lb w vs vf st met fr) (hb : Below w.heap.size w w') : Mem w0 N M b c4 c5 c7 F lb w' vs vf st met fr :=
  { h with stack := h.stack.later hb, list := h.list.later hb, mbox := h.mbox.below hb h.mbox.lt, mrow := h.mrow.below hb h.mrow.lt, nbox := h.nbox.below hb h.nbox.lt, kp := h.kp.trans (Kp.of hb (Nat.le_refl _)) }
theorem Mem.stacked (h : Mem w0 N M b c4 c5 c7 F lb w vs vf st met fr) (hs : Stack w' b vs' st') (hw : Wrote b vs vs' w w') : Mem w0 N M b c4 c5 c7 F lb w' vs' vf st' met fr := by
  obtain ⟨hk, hg⟩ := hw
  have lo := own_lt h.list.own
  refine ⟨hs, h.list.kp hk (fun e => ?_) (fun g hg2 e => ?_), hk.blk h.mbox (fun e => ?_), hk.blk h.mrow (fun e => ?_), hk.blk h.nbox (fun e => ?_), fun g h1 h2 => ?_, h.kp.then hk (fun k hk2 e => ?_), h.nb, fun g h1 => ?_, h.nf⟩
  · rcases e with e | e
    · exact blk_other h.list.blk h.stack.blk (by decide) e
    · exact blk_apart h.stack.own h.list.blk (by decide) e
  · rcases e with e | e
    · exact blk_apart h.list.own h.stack.blk (by decide) (by rw [hg2, e])
    · exact h.apart g e hg2
  · rcases e with e | e
    · exact blk_other h.mbox h.stack.blk (by decide) e
    · exact blk_apart h.stack.own h.mbox (by decide) e
  · rcases e with e | e
    · exact blk_other h.mrow h.stack.blk (by decide) e
    · exact blk_apart h.stack.own h.mrow (by decide) e
  · rcases e with e | e
    · exact blk_other h.nbox h.stack.blk (by decide) e
    · exact blk_apart h.stack.own h.nbox (by decide) e
  · rcases hg g h1 with q | q
    · exact h.apart g q h2
    · have := lo g h2
      omega
  · rcases e with e | e
    · have := h.nb; omega
    · have := h.ns k e; omega
  · rcases hg g h1 with q | q
    · exact h.ns g q
    · have := h.kp.size; omega
theorem Mem.listed (h : Mem w0 N M b c4 c5 c7 F lb w vs vf st met fr) (hs : Held w' 32 c7 vf' (intsN fr')) (hw : Wrote c7 vf vf' w w') : Mem w0 N M b c4 c5 c7 F lb w' vs vf' st met fr' := by
  obtain ⟨hk, hg⟩ := hw
  have lo := own_lt h.stack.own
  refine ⟨h.stack.kp hk (fun e => ?_) (fun g hg2 e => ?_), hs, hk.blk h.mbox (fun e => ?_), hk.blk h.mrow (fun e => ?_), hk.blk h.nbox (fun e => ?_), fun g h1 h2 => ?_, h.kp.then hk (fun k hk2 e => ?_), h.nb, h.ns, fun g h1 => ?_⟩
  · rcases e with e | e
    · exact blk_other h.stack.blk h.list.blk (by decide) e
    · exact blk_apart h.list.own h.stack.blk (by decide) e
  · rcases e with e | e
    · exact blk_apart h.stack.own h.list.blk (by decide) (by rw [hg2, e])
    · exact h.apart g hg2 e
  · rcases e with e | e
    · exact blk_other h.mbox h.list.blk (by decide) e
    · exact blk_apart h.list.own h.mbox (by decide) e
  · rcases e with e | e
    · exact blk_other h.mrow h.list.blk (by decide) e
    · exact blk_apart h.list.own h.mrow (by decide) e
  · rcases e with e | e
    · exact blk_other h.nbox h.list.blk (by decide) e
    · exact blk_apart h.list.own h.nbox (by decide) e
  · rcases hg g h2 with q | q
    · exact h.apart g h1 q
    · have := lo g h1
      omega
  · rcases e with e | e
    · exact .inr e
    · have := h.nf k e; omega
  · rcases hg g h1 with q | q
    · exact h.nf g q
    · have := h.kp.size; omega
/-- .. without a stack. -/
structure Rest (w0 : World) (N M c4 c5 c7 F : Nat) (lb : Array Value) (w : World) (vf : Value) (met : List Bool) (fr : List Nat) : Prop where
  list : Held w 32 c7 vf (intsN fr)
  mbox : Blk w c5 68 #[.slice (some ⟨M, 0, none⟩) N N]
  mrow : Blk w M 4 (boolV met).toArray
  nbox : Blk w c4 100 #[.func (.func F) #[] lb]
  kp : Kp (fun k => k = M ∨ k = c7) w0 w
  nf : ∀ g, vf.ownBlock = some g → w0.heap.size ≤ g
theorem Mem.rest (h : Mem w0 N M b c4 c5 c7 F lb w vs vf st met fr) : Rest w0 N M c4 c5 c7 F lb w vf met fr := ⟨h.list, h.mbox, h.mrow, h.nbox, h.kp, h.nf⟩
theorem Rest.later (h : Rest w0 N M c4 c5 c7 F lb w vf met fr) (hb : Below w.heap.size w w') : Rest w0 N M c4 c5 c7 F lb w' vf met fr :=
  ⟨h.list.later hb, h.mbox.below hb h.mbox.lt, h.mrow.below hb h.mrow.lt, h.nbox.below hb h.nbox.lt, h.kp.trans (Kp.of hb (Nat.le_refl _)), h.nf⟩
/-- A new stack. -/
theorem Rest.stack {b' g' : Nat} {x : Int} (h : Rest w0 N M c4 c5 c7 F lb w vf met fr) (hb' : b' = w.heap.size + 1) (hg' : g' = w.heap.size) :
    Mem w0 N M b' c4 c5 c7 F lb ((w.alloc (.cells #[.int .i64 x] 3)).alloc (.cells #[.slice (some ⟨g', 0, none⟩) 1 1] 159)) (.slice (some ⟨g', 0, none⟩) 1 1) vf [x] met fr := by
  subst hb' hg'
  have b2 : Below w.heap.size w ((w.alloc (.cells #[.int .i64 x] 3)).alloc (.cells #[.slice (some ⟨w.heap.size, 0, none⟩) 1 1] 159)) := ((Below.refl _ _).alloc (Nat.le_refl _) _).alloc (by simp) _
  have h2 := h.later b2
  have := h.kp.size
  refine ⟨⟨blk_at (by simp) _ _, rfl, .inr ⟨_, 1, #[.int .i64 x], rfl, Nat.zero_le _, (Blk.new _ _ _).alloc _, Nat.le_refl 1, by decide, rfl, rfl⟩⟩, h2.list, h2.mbox, h2.mrow, h2.nbox, fun g h1 e => ?_, h2.kp, by omega, fun g h1 => ?_, h2.nf⟩
  · simp [Value.ownBlock] at h1
    have := own_lt h.list.own g e
    omega
  · simp [Value.ownBlock] at h1
    omega
theorem boolV_set (l : List Bool) (n : Nat) (x : Bool) : (boolV l).toArray.setIfInBounds n (.bool x) = (boolV (l.set n x)).toArray := by
  unfold boolV
  rw [List.setIfInBounds_toArray, List.map_set]
theorem Mem.marked (h : Mem w0 N M b c4 c5 c7 F lb w vs vf st met fr) (n : Nat) : Mem w0 N M b c4 c5 c7 F lb (w.setCell ⟨M, n, none⟩ (.bool true)) vs vf st (met.set n true) fr := by
  refine ⟨⟨h.stack.blk.far (blk_other h.stack.blk h.mrow (by decide)) _, own_far h.stack.own (blk_apart h.stack.own h.mrow (by decide)) _⟩, ⟨h.list.blk.far (blk_other h.list.blk h.mrow (by decide)) _, own_far h.list.own (blk_apart h.list.own h.mrow (by decide)) _⟩,
    h.mbox.far (blk_other h.mbox h.mrow (by decide)) _, ?_, h.nbox.far (blk_other h.nbox h.mrow (by decide)) _, h.apart, h.kp.set M n _ (fun _ => .inl rfl), h.nb, h.ns, h.nf⟩
  rw [← boolV_set]
  exact h.mrow.set_ n _
theorem Mem.bit (h : Mem w0 N M b c4 c5 c7 F lb w vs vf st met fr) (n : Nat) (hn : n < met.length) : w.cell? ⟨M, n, none⟩ = some (.bool (onB met n)) := by
  rw [h.mrow.cell n, onB_at hn]
  simp [boolV, hn]
end
set_option maxHeartbeats 4000000 in
/-- A list behind a block, one more. -/
theorem held_append {c : Nat} {vf : Value} {l : List Int} {m : Int} {w : World} {u : World} {g cap : Nat} (h : Held w 32 c vf l) (hown : u.ownsRow 0 3 1 (.slice (some ⟨g, 0, none⟩) (l.length + 1) cap) (l.length + 1) (numV l ++ [.int .i64 m])) (o : Obj) (hgrow : (w.alloc o).grownBy u vf.ownBlock) (hat : vf.ownBlock = some g ∨ g = (w.alloc o).heap.size) :
    Held (u.setCell ⟨c, 0, none⟩ (.slice (some ⟨g, 0, none⟩) (l.length + 1) cap)) 32 c (.slice (some ⟨g, 0, none⟩) (l.length + 1) cap) (l ++ [m]) ∧ Wrote c vf (.slice (some ⟨g, 0, none⟩) (l.length + 1) cap) w (u.setCell ⟨c, 0, none⟩ (.slice (some ⟨g, 0, none⟩) (l.length + 1) cap)) := by
  have NE := blk_apart h.own h.blk (by decide)
  have hb1 : Blk u c 32 #[vf] := (hgrow.block c (by have := h.blk.lt; simp; omega) (fun e => NE e.symm)).trans (h.blk.alloc _)
  have ne := blk_apart hown hb1 (by decide)
  refine ⟨⟨hb1.set_ 0 _, ?_⟩, ?_, ?_⟩
  · rw [List.length_append, numV_snoc]
    exact own_far hown ne _
  · refine Kp.set ?_ c 0 _ (fun _ => .inl rfl)
    exact ((Kp.refl _ w).alloc _).grown hgrow (fun g hg _ => .inr hg)
  · intro k hk
    simp [Value.ownBlock] at hk
    subst hk
    rcases hat with q | q
    · exact .inl q
    · right
      rw [q]
      simp

/-- What the closure of a walk tells: of one that was met nothing; else it is met, and tells what comes next. -/
def Meets (w0 : World) (N M b c4 c5 c7 F : Nat) (lb : Array Value) (vs : Value) (st : List Int) (met : List Bool) (fr : List Nat) (l : List Nat) (n : Nat) (w : World) (e : Ending) (w' : World) : Prop :=
  (onB met n = true ∧ e = .returned (.slice none 0 0) ∧ w = w') ∨
  (onB met n = false ∧ ∃ A c vf', e = .returned (.slice A l.length c) ∧ Cells w' w'.heap.size A (natV l) ∧ (∀ g, (Value.slice A l.length c).ownBlock = some g → vs.ownBlock ≠ some g ∧ g ≠ b) ∧ Mem w0 N M b c4 c5 c7 F lb w' vs vf' st (met.set n true) (fr ++ [n]))
set_option maxHeartbeats 4000000 in
/-- One is met: as the closure tells. -/
theorem spread1_any {w0 w : World} {N M b c4 c5 c7 F : Nat} {lb : Array Value} {vs vf : Value} {st : List Int} {met : List Bool} {fr : List Nat} {f : Nat → List Nat} (n : Nat) (hn : n < N) (hl : met.length = N) (hf : fr.length ≤ 1000) (hX : NextIs (fun k => k = M ∨ k = c7) N f F lb w0) (h : Mem w0 N M b c4 c5 c7 F lb w vs vf st met fr) :
    Calls Try.prog 131 #[.int .i64 (n : Int), .pointer (some ⟨c5, 0, none⟩), .pointer (some ⟨c7, 0, none⟩), .pointer (some ⟨c4, 0, none⟩)] w (Meets w0 N M b c4 c5 c7 F lb vs st met fr (f n) n w) := by
  obtain ⟨i0, hi0, hz0, hz1, hz2⟩ := info_parts info_int
  have G0 := Lib.hid hi0
  have G1 := Lib.hid hz0
  have G2 := Lib.hid hz1
  have G3 := Lib.hid hz2
  have ef := hX.enter
  have x0 := h.mbox.cell 0
  have x1 := h.mbox.lt
  have y1 := h.list.blk.lt
  have z1 := h.nbox.lt
  have t0 := h.bit n (by omega)
  have t1 := h.mrow.lt
  have t2 := h.mrow.frozen n
  simp at x0
  have n0 : (0 : Int) ≤ (n : Int) := by omega
  have n1 : (n : Int) < (N : Int) := by omega
  have H := Lib.hid h
  have HX := Lib.hid hX
  clear hi0 hz0 hz1 hz2 h hX
  by_cases hm : onB met n = true
  · rw [hm] at t0
    have HM := Lib.hid hm
    clear hm
    go_enter Try.func131, Try.ntmps131
    go_wp2_with fail
    go_ret
    exact .inl ⟨HM.out, rfl, rfl⟩
  · replace hm : onB met n = false := by simpa using hm
    rw [hm] at t0
    have HM := Lib.hid hm
    clear hm
    obtain ⟨w1, hw1⟩ : ∃ w1, w1 = w.setCell ⟨M, n, none⟩ (.bool true) := ⟨_, rfl⟩
    have H1 := Lib.hid (show Mem w0 N M b c4 c5 c7 F lb w1 vs vf st (met.set n true) fr by rw [hw1]; exact H.out.marked n)
    have u0 := H1.out.list.blk.cell 0
    have u1 := H1.out.list.blk.lt
    have u2 := H1.out.list.blk.frozen 0
    have u3 := H1.out.nbox.cell 0
    simp at u0 u3
    have lf : (intsN fr).length = fr.length := List.length_map _
    have LF := Lib.hid lf
    have HW := Lib.hid hw1
    have NE := Lib.hid (blk_apart H1.out.list.own H1.out.list.blk (by decide))
    clear hw1 lf
    go_enter Try.func131, Try.ntmps131
    go_upto_region 4 with fail
    rw [← HW.out]
    go_wp2_with (
      at_builtin
      refine wpList_append_lies _ rfl _ _ 32 rfl 0 3 i0 _ 1 8 Try.underlying32 G0.out G1.out G2.out G3.out rfl (by decide) _ _ _ rfl (H1.out.list.own.alloc _) ⟨w1.heap.size, 0, none⟩ 1 1 [.int .i64 (n : Int)] rfl rfl ?c1 ?c2 (by decide) ?c3 ?c4 (Nat.zero_le _) _ rfl ?_
      case c1 => exact cell_one_new _ _ _
      case c2 => simp [Value.oneCell']
      case c3 => rw [LF.out]; simp only [maxLen]; omega
      case c4 => rw [LF.out]; omega
      intro g cap w2 hown hgrow hat hlt
      have hb1 : Blk w2 c7 32 #[vf] := (hgrow.block c7 (by simp; omega) (fun e => NE.out e.symm)).trans (H1.out.list.blk.alloc _)
      have v0 := hb1.cell 0
      have v1 := hb1.lt
      have v2 := hb1.frozen 0
      simp at v0
      obtain ⟨q1, q2⟩ := held_append (m := (n : Int)) H1.out.list hown _ hgrow hat
      have LI := Lib.hid (H1.out.listed (fr' := fr ++ [n]) (by rw [show intsN (fr ++ [n]) = intsN fr ++ [(n : Int)] by simp [intsN]]; exact q1) q2)
      rw [LF.out] at LI
      have d0 := LI.out.nbox.cell 0
      have d1 := LI.out.nbox.lt
      simp at d0
      clear hb1 hown hgrow hat q1 q2)
    refine (HX.out.tells _ LI.out.kp n hn).mono ?_
    rintro e w3 ⟨A, c, rfl, -, hc, hb, ho⟩
    have TC := Lib.hid hc
    have TB := Lib.hid hb
    have TG := Lib.hid (own_ge ho)
    clear hc hb ho
    go_wp2_with fail
    go_ret
    refine .inr ⟨HM.out, A, c, _, rfl, TC.out, fun g hg => ⟨fun e => ?_, fun e => ?_⟩, LI.out.later TB.out⟩
    · have q1 := TG.out g hg
      have q2 := own_lt LI.out.stack.own g e
      omega
    · have q1 := TG.out g hg
      have q2 := LI.out.stack.blk.lt
      omega
end Go.Proofs.Ytajckihgfelbaaa.Rch
/- What the landed layer 6 does: a node, and all that it leads on to; all at once. -/
namespace Go.Proofs.Ytajckihgfelbaaa.Rch
open Go.RowKit Go.Proofs.Ytajckihgfelbaaa.Inst Go.Proofs.Ytajckihgfelbaaa.Adj
set_option maxRecDepth 100000

theorem intsN_length (l : List Nat) : (intsN l).length = l.length := List.length_map _
theorem intsN_snoc (l : List Nat) (m : Nat) : intsN (l ++ [m]) = intsN l ++ [(m : Int)] := by simp [intsN]
theorem cells_some {w : World} {A : Option Addr} {l : List Int} {n c : Nat} {g : Nat} (h : Cells w w.heap.size A (numV l)) (h0 : 0 < l.length) (hg : (Value.slice A n c).ownBlock = some g) : g < w.heap.size := by
  obtain ⟨b, off, rfl, hb, _⟩ := h (by rw [numV_length]; exact h0)
  simp [Value.ownBlock] at hg
  subst hg
  exact hb
/-- What meet told, while it is put: apart from the stack. -/
def Told (w : World) (b : Nat) (vs : Value) (A : Option Addr) (L : List Int) : Prop := Cells w w.heap.size A (numV L) ∧ ∀ g, (Value.slice A L.length L.length).ownBlock = some g → vs.ownBlock ≠ some g ∧ g ≠ b
theorem Told.wrote {w w' : World} {b : Nat} {vs vs' : Value} {A : Option Addr} {L : List Int} (h : Told w b vs A L) (h0 : 0 < L.length) (hw : Wrote b vs vs' w w') : Told w' b vs' A L := by
  obtain ⟨hk, hg⟩ := hw
  obtain ⟨hc, ha⟩ := h
  refine ⟨hk.cells hc (fun g e => ?_), fun g e => ⟨fun e2 => ?_, (ha g e).2⟩⟩
  · have q : (Value.slice A L.length L.length).ownBlock = some g := by cases A <;> simp [Value.ownBlock] at e ⊢; exact e
    rintro (r | r)
    · exact (ha g q).2 r
    · exact (ha g q).1 r
  · rcases hg g e2 with r | r
    · exact (ha g e).1 r
    · have := cells_some hc h0 e
      omega

section
variable (w0 : World) (N M b c4 c5 c7 F : Nat) (lb : Array Value) (f : Nat → List Nat) (met0 : List Bool) (s : Nat)
def SInv (k : Nat) (w : World) : Prop := ∃ vs vf st met fr, Mem w0 N M b c4 c5 c7 F lb w vs vf (intsN st) met fr ∧ SpreadIs N f met0 s st met fr ∧ st.length + wt f met ≤ k ∧ k ≤ 2000000
def SMid (n : Int) (k : Nat) (w : World) : Prop := ∃ (m : Nat) (vs vf : Value) (st : List Nat) (met : List Bool) (fr : List Nat), n = (m : Int) ∧ Mem w0 N M b c4 c5 c7 F lb w vs vf (intsN st) met fr ∧ SpreadIs N f met0 s (st ++ [m]) met fr ∧ st.length + wt f met ≤ k ∧ k ≤ 2000000
def SPuts (A : Option Addr) (l : List Int) (k i : Nat) (w : World) : Prop := ∃ (L : List Nat) (vs vf : Value) (st : List Nat) (met : List Bool) (fr : List Nat), l = intsN L ∧ Mem w0 N M b c4 c5 c7 F lb w vs vf (intsN (st ++ L.take i)) met fr ∧ SpreadIs N f met0 s (st ++ L) met fr ∧ (st ++ L).length + wt f met ≤ k ∧ k ≤ 2000000 ∧ Told w b vs A l
def SEnd (w : World) : Prop := ∃ vs vf met fr, Mem w0 N M b c4 c5 c7 F lb w vs vf [] met fr ∧ SpreadIs N f met0 s [] met fr
variable {w0 N M b c4 c5 c7 F lb f met0 s}
theorem stake (k : Nat) (w : World) (h : SInv w0 N M b c4 c5 c7 F lb f met0 s k w) : Calls Try.prog 168 #[.pointer (some ⟨b, 0, none⟩)] w fun e w' => ∃ n t, e = .returned (.tuple #[.int .i64 n, .bool t]) ∧ After (SMid w0 N M b c4 c5 c7 F lb f met0 s) (SEnd w0 N M b c4 c5 c7 F lb f met0 s) k n t w' := by
  obtain ⟨vs, vf, st, met, fr, hm, hs, hk, hk2⟩ := h
  rcases List.eq_nil_or_concat st with rfl | ⟨st', m, rfl⟩
  · refine (take_none b vs w hm.stack).mono ?_
    rintro e w' ⟨rfl, rfl⟩
    exact ⟨0, false, rfl, .inl ⟨rfl, vs, vf, met, fr, hm, hs⟩⟩
  · rw [List.concat_eq_append] at hm hs hk
    have hst := hm.stack
    rw [intsN_snoc] at hst
    simp at hk
    refine (take_newest b vs (intsN st') (m : Int) w hst (by rw [intsN_length]; omega)).mono ?_
    rintro e w' ⟨rfl, vs', h1, h2⟩
    exact ⟨m, true, rfl, .inr ⟨rfl, st'.length + wt f met, by omega, m, vs', vf, st', met, fr, rfl, hm.stacked h1 h2, hs, Nat.le_refl _, by omega⟩⟩
theorem smeet (hN : N ≤ 1000) (hX : NextIs (fun k => k = M ∨ k = c7) N f F lb w0) (n : Int) (k : Nat) (w : World) (h : SMid w0 N M b c4 c5 c7 F lb f met0 s n k w) :
    Calls Try.prog 131 (#[.int .i64 n] ++ #[.pointer (some ⟨c5, 0, none⟩), .pointer (some ⟨c7, 0, none⟩), .pointer (some ⟨c4, 0, none⟩)]) w fun e w' => ∃ A l c, e = .returned (.slice A l.length c) ∧ l.length ≤ 1000000 ∧ SPuts w0 N M b c4 c5 c7 F lb f met0 s A l k 0 w' := by
  obtain ⟨m, vs, vf, st, met, fr, rfl, hm, hs, hk, hk2⟩ := h
  have hl := hs.lt
  obtain ⟨hmN, _⟩ := hs.todo m (by simp)
  refine (spread1_any m hmN hs.len (by omega) hX hm).mono ?_
  rintro e w' (⟨h1, rfl, rfl⟩ | ⟨h1, A, c, vf', rfl, h2, h3, h4⟩)
  · refine ⟨none, [], 0, rfl, by simp, [], vs, vf, st, met, fr, rfl, ?_, ?_, by simpa using hk, hk2, fun h0 => absurd h0 (by simp [natV, numV]), fun g e => by simp [Value.ownBlock] at e⟩
    · simpa using hm
    · simpa using hs.skip h1
  · have hw := wt_set f met m (by rw [hs.len]; exact hmN) h1
    have hfew := hX.few m
    refine ⟨A, intsN (f m), c, by rw [intsN_length], by rw [intsN_length]; omega, f m, vs, vf', st, met.set m true, fr ++ [m], rfl, ?_, hs.meet h1 hfew.2, by simp; omega, hk2, h2, fun g e => h3 g ?_⟩
    · simpa using h4
    · cases A <;> simp [Value.ownBlock] at e ⊢
      exact e
theorem sput (A : Option Addr) (l : List Int) (k i : Nat) (w : World) (hi : i < l.length) (h : SPuts w0 N M b c4 c5 c7 F lb f met0 s A l k i w) :
    Calls Try.prog 167 #[.pointer (some ⟨b, 0, none⟩), .int .i64 l[i]] w fun e w' => (∃ r, e = .returned r) ∧ SPuts w0 N M b c4 c5 c7 F lb f met0 s A l k (i + 1) w' := by
  obtain ⟨L, vs, vf, st, met, fr, rfl, hm, hs, hk, hk2, ht⟩ := h
  have hi' : i < L.length := by simpa using hi
  refine (put_newest b vs _ _ w hm.stack (by rw [intsN_length]; simp at hk ⊢; omega)).mono ?_
  rintro e w' ⟨hr, vs', h1, h2⟩
  refine ⟨hr, L, vs', vf, st, met, fr, rfl, ?_, hs, hk, hk2, ht.wrote (by rw [intsN_length]; omega) h2⟩
  refine hm.stacked ?_ h2
  rw [List.take_succ_eq_append_getElem hi', ← List.append_assoc, intsN_snoc]
  simpa using h1
theorem sdone (A : Option Addr) (l : List Int) (k : Nat) (w : World) (h : SPuts w0 N M b c4 c5 c7 F lb f met0 s A l k l.length w) : SInv w0 N M b c4 c5 c7 F lb f met0 s k w := by
  obtain ⟨L, vs, vf, st, met, fr, rfl, hm, hs, hk, hk2, ht⟩ := h
  rw [intsN_length, List.take_length] at hm
  exact ⟨vs, vf, st ++ L, met, fr, hm, hs, hk, hk2⟩
end
theorem take_at (q : Addr) (w : World) : (method 291 158 (.pointer (some q)) "quittance/reach.take").run Try.prog w = .ok (168, .pointer (some q)) w := by kernel_rfl
theorem put_at (q : Addr) (w : World) : (method 291 158 (.pointer (some q)) "quittance/reach.put").run Try.prog w = .ok (167, .pointer (some q)) w := by kernel_rfl
theorem swalk {w0 : World} {N M b c4 c5 c7 F : Nat} {lb : Array Value} {f : Nat → List Nat} {met0 : List Bool} {s : Nat} (hN : N ≤ 1000) (hX : NextIs (fun k => k = M ∨ k = c7) N f F lb w0) (k : Nat) (w : World) (h : SInv w0 N M b c4 c5 c7 F lb f met0 s k w) :
    Calls Try.prog 72 #[.iface 158 (.pointer (some ⟨b, 0, none⟩)), .func (.func 131) #[] #[.pointer (some ⟨c5, 0, none⟩), .pointer (some ⟨c7, 0, none⟩), .pointer (some ⟨c4, 0, none⟩)]] w fun e w' => (∃ r, e = .returned r) ∧ SEnd w0 N M b c4 c5 c7 F lb f met0 s w' :=
  walk_any 158 _ 168 167 131 _ (SInv w0 N M b c4 c5 c7 F lb f met0 s) (SMid w0 N M b c4 c5 c7 F lb f met0 s) (SPuts w0 N M b c4 c5 c7 F lb f met0 s) (SEnd w0 N M b c4 c5 c7 F lb f met0 s)
    (take_at _) (enters_of Try.func168 (by kernel_rfl) rfl) (put_at _) (enters_of Try.func167 (by kernel_rfl) rfl) (enters_of Try.func131 (by kernel_rfl) rfl)
    stake (smeet hN hX) (fun A l k i w h => by obtain ⟨L, vs, vf, st, met, fr, rfl, hm, hs, hk, hk2, ht⟩ := h; exact ht.1) sput sdone k w h

/-- What spread tells: those that are new, and the marks. -/
def Spreads (N M : Nat) (f : Nat → List Nat) (met0 : List Bool) (s : Nat) (w : World) (e : Ending) (w' : World) : Prop :=
  ∃ A cap met fr, e = .returned (.slice A fr.length cap) ∧ w'.ownsRow w.heap.size 3 1 (.slice A fr.length cap) fr.length (natV fr) ∧ Blk w' M 4 (boolV met).toArray ∧ SpreadIs N f met0 s [] met fr ∧ Kp (fun k => k = M) w w'
set_option maxHeartbeats 4000000 in
theorem spread_any {N M F : Nat} {lb : Array Value} {f : Nat → List Nat} {met0 : List Bool} (s : Nat) (hs : s < N) (hN : N ≤ 1000) (hl : met0.length = N) (w : World) (hM : Blk w M 4 (boolV met0).toArray) (hX : NextIs (fun k => k = M) N f F lb w) :
    Calls Try.prog 102 #[.int .i64 (s : Int), .func (.func F) #[] lb, .slice (some ⟨M, 0, none⟩) N N] w (Spreads N M f met0 s w) := by
  obtain ⟨W1, hW1⟩ : ∃ W1, W1 = ((((w.alloc (.cells #[.func (.func F) #[] lb] 100)).alloc (.cells #[.slice (some ⟨M, 0, none⟩) N N] 68)).alloc (.cells #[.slice none 0 0] 32)).alloc (.cells #[.int .i64 (s : Int)] 3)).alloc (.cells #[.slice (some ⟨w.heap.size + 1 + 1 + 1, 0, none⟩) 1 1] 159) := ⟨_, rfl⟩
  have HM : Mem w N M (w.heap.size + 1 + 1 + 1 + 1) w.heap.size (w.heap.size + 1) (w.heap.size + 1 + 1) F lb W1 (.slice (some ⟨w.heap.size + 1 + 1 + 1, 0, none⟩) 1 1) (.slice none 0 0) (intsN [s]) met0 [] := by
    subst hW1
    have b3 : Blk ((((w.alloc (.cells #[.func (.func F) #[] lb] 100)).alloc (.cells #[.slice (some ⟨M, 0, none⟩) N N] 68)).alloc (.cells #[.slice none 0 0] 32)).alloc (.cells #[.int .i64 (s : Int)] 3)) (w.heap.size + 1 + 1 + 1) 3 #[.int .i64 (s : Int)] := blk_at (by simp) _ _
    refine ⟨⟨blk_at (by simp) _ _, ?_⟩, ⟨((blk_at (by simp) _ _).alloc _).alloc _, ?_⟩, (((blk_at (by simp) _ _).alloc _).alloc _).alloc _, ((((hM.alloc _).alloc _).alloc _).alloc _).alloc _, ((((Blk.new _ _ _).alloc _).alloc _).alloc _).alloc _, fun g h1 h2 => ?_, (((((Kp.refl _ w).alloc _).alloc _).alloc _).alloc _).alloc _, by omega, fun g h => ?_, fun g h => ?_⟩
    · refine ⟨rfl, .inr ⟨_, 1, #[.int .i64 (s : Int)], rfl, Nat.zero_le _, b3.alloc _, Nat.le_refl 1, by decide, rfl, rfl⟩⟩
    · exact ⟨rfl, .inl ⟨rfl, rfl⟩⟩
    · simp [Value.ownBlock] at h2
    · simp [Value.ownBlock] at h; omega
    · simp [Value.ownBlock] at h
  have WK := Lib.hid (swalk hN (hX.later (q := fun k => k = M ∨ k = w.heap.size + 1 + 1) (Kp.refl _ w) (fun k hk e => e.resolve_right (by omega))) 2000000 W1 ⟨_, _, [s], met0, [], HM, SpreadIs.begin hl hs, by
    have h1 := wt_le f met0 1000 (fun n => (hX.few n).1)
    have h2 : met0.length * (2 + 1000) ≤ 1000 * (2 + 1000) := Nat.mul_le_mul (by omega) (Nat.le_refl _)
    simp
    omega, Nat.le_refl _⟩)
  have HW := Lib.hid hW1
  clear hW1 HM hM hX
  go_enter Try.func102, Try.ntmps102
  go_wp2_with fail
  rw [← HW.out]
  refine WK.out.mono ?_
  rintro e w2 ⟨⟨r, rfl⟩, vs, vf, met, fr, hm, hs2⟩
  have x0 := hm.list.blk.cell 0
  have x1 := hm.list.blk.lt
  simp at x0
  have ho := hm.list.own
  rw [numV_ints, intsN_length] at ho
  obtain ⟨-, A, cap, rfl, hc, hmx, hcs⟩ := own_cells ho
  have OF : w2.ownsRow w.heap.size 3 1 (.slice A fr.length cap) fr.length (natV fr) := by
    obtain ⟨q1, q2⟩ := ho
    refine ⟨q1, ?_⟩
    rcases q2 with q | ⟨g, c, cur, q3, _, q4⟩
    · exact .inl q
    · exact .inr ⟨g, c, cur, q3, hm.nf g (by rw [q3]; rfl), q4⟩
  have O2 := Lib.hid OF
  have S2 := Lib.hid hs2
  have M2 := Lib.hid hm.mrow
  have K2 := Lib.hid (hm.kp.mono (q := fun k => k = M) (fun k hk e => e.resolve_right (by omega)))
  clear hm ho hs2 hcs OF
  go_wp2_with fail
  go_ret
  exact ⟨A, cap, met, fr, rfl, O2.out, M2.out, S2.out, K2.out⟩
end Go.Proofs.Ytajckihgfelbaaa.Rch
/- What the landed layer 6 does: where some come to, and what comes to some. -/
namespace Go.Proofs.Ytajckihgfelbaaa.Rch
open Go.RowKit Go.Proofs.Ytajckihgfelbaaa.Inst Go.Proofs.Ytajckihgfelbaaa.Adj
set_option maxRecDepth 100000

theorem falses_eq (n : Nat) : madeCells #[Value.bool false] n = (boolV (List.replicate n false)).toArray := by
  apply Array.ext'
  rw [toList_madeCells_one]
  simp [boolV]
theorem info_bool : (Try.prog.info? 4).map (fun i => (i.zero, i.size, i.bytes)) = some (some (.bool false), 1, 1) := by kernel_rfl
theorem make_bools (n : Nat) (_ : n ≤ 1000) (W : World) : (Instr.makeSlice 68 (.int .i64 (n : Int)) (.int .i64 (n : Int))).run Try.prog W = .ok (.slice (some ⟨W.heap.size, 0, none⟩) n n) (W.alloc (.cells (boolV (List.replicate n false)).toArray 4)) := by
  obtain ⟨i0, hi0, hz0, hz1, hz2⟩ := info_parts info_bool
  have h := run_make (P := Try.prog) W 68 4 i0 (.bool false) Try.underlying68 hi0 hz0 .i64 .i64 (n : Int) (n : Int) (by omega) (by omega) (by rw [hz2]; omega) (by omega)
  rw [h, hz1, Int.toNat_natCast, Nat.mul_one]
  congr 3
  exact falses_eq n

/-- What tells next nodes, once it is made. -/
abbrev alongW (w : World) (b G : Nat) : World := (w.alloc (.cells #[.pointer (some ⟨b, 0, none⟩)] 52)).alloc (.cells #[.func (.func G) #[.pointer (some ⟨b, 0, none⟩)] #[]] 100)
abbrev alongB (w : World) : Array Value := #[.pointer (some ⟨w.heap.size + 1, 0, none⟩), .pointer (some ⟨w.heap.size, 0, none⟩)]
theorem along_any (b G : Nat) (w : World) : Calls Try.prog 68 #[.pointer (some ⟨b, 0, none⟩), .func (.func G) #[.pointer (some ⟨b, 0, none⟩)] #[]] w fun e w' => e = .returned (.func (.func 95) #[] (alongB w)) ∧ w' = alongW w b G := by
  go_enter Try.func68, Try.ntmps68
  go_wp2_with fail
  go_ret
  exact ⟨rfl, rfl⟩
theorem alongW_size (w : World) (b G : Nat) : (alongW w b G).heap.size = w.heap.size + 2 := by simp [alongW]
theorem alongW_below (w : World) (b G : Nat) : Below w.heap.size w (alongW w b G) := ((Below.refl _ _).alloc (Nat.le_refl _) _).alloc (by simp) _
theorem other_small {I : InstD} {n a : Nat} (hI : I.arcs.length ≤ 1000) {o i : Bool} (h : a ∈ someD I (n : Int) o i) (h1 : 0 ≤ otherD I (a : Int) (n : Int)) : 0 ≤ otherD I (a : Int) (n : Int) ∧ a ≤ 1000 := by
  have := fit_parts (mem_someD.1 h).1
  exact ⟨h1, by omega⟩
theorem next_of (G : Nat) (I : InstD) (b : Nat) (f : Nat → List Nat) (L : Nat → List Nat) (w1 w : World) (hG : GrX w1 b I) (hb : Below w1.heap.size w1 w) (eG : ∀ args w, (callFunc G args).run Try.prog w = .ok (.enter G args) w)
    (hL : ∀ n, (L n).length ≤ 1000) (hf : ∀ n, f n = (L n).map fun (a : Nat) => (otherD I (a : Int) (n : Int)).toNat) (hO : ∀ n, n < 1000 → ∀ a ∈ L n, 0 ≤ otherD I (a : Int) (n : Int) ∧ a ≤ 1000) (hlt : ∀ n, ∀ m ∈ f n, m < I.sup.length)
    (hC : ∀ (n : Nat) v, n < I.sup.length → GrX v b I → Calls Try.prog G #[.pointer (some ⟨b, 0, none⟩), .int .i64 (n : Int)] v (TellsNats (L n) v)) :
    NextIs (fun k => w1.heap.size ≤ k ∧ k < w.heap.size) I.sup.length f 95 (alongB w) (alongW w b G) := by
  have bd := (show GrV w1 (some ⟨b, 0, none⟩) I from .inr ⟨b, rfl, hG⟩).bd
  refine ⟨enters_of Try.func95 (by kernel_rfl) rfl, fun n => ⟨by rw [hf n, List.length_map]; exact hL n, hlt n⟩, fun v hv n hn => ?_⟩
  have h2 : Blk (alongW w b G) w.heap.size 52 #[.pointer (some ⟨b, 0, none⟩)] := (Blk.new _ _ _).alloc _
  have h3 : Blk (alongW w b G) (w.heap.size + 1) 100 #[.func (.func G) #[.pointer (some ⟨b, 0, none⟩)] #[]] := blk_at (by simp) _ _
  have hz : w1.heap.size ≤ (alongW w b G).heap.size := by rw [alongW_size]; have := hb.size; omega
  have bw : Below w1.heap.size w1 v := hb.trans (((alongW_below w b G).mono hb.size).trans (hv.below (fun k hk => hk.1) hz))
  exact along1_any (some ⟨b, 0, none⟩) I n G _ _ _ _ (L n) (f n) (hL n) (hf n) (hO n (by omega)) v (.inr ⟨b, rfl, hG.later bw⟩) (hv.blk h2 (by omega)) (hv.blk h3 (by omega)) eG (hC n v hn (hG.later bw))
theorem nextL_few (I : InstD) (h : I.arcs.length ≤ 1000) (n : Int) (o i : Bool) : (someD I n o i).length ≤ 1000 := Nat.le_trans (someN_length I n o i _) h
theorem grx_bd {w : World} {b : Nat} {I : InstD} (h : GrX w b I) : I.sup.length ≤ 1000 ∧ I.arcs.length ≤ 1000 := (show GrV w (some ⟨b, 0, none⟩) I from .inr ⟨b, rfl, h⟩).bd
theorem next_out (I : InstD) (b : Nat) (w1 w : World) (hG : GrX w1 b I) (hb : Below w1.heap.size w1 w) :
    NextIs (fun k => w1.heap.size ≤ k ∧ k < w.heap.size) I.sup.length (outN I) 95 (alongB w) (alongW w b 69) :=
  next_of 69 I b (outN I) (fun n => outD I (n : Int)) w1 w hG hb (enters_of Try.func69 (by kernel_rfl) rfl) (fun n => nextL_few I (grx_bd hG).2 _ _ _) (fun n => rfl)
    (fun n _ a ha => other_small (grx_bd hG).2 ha (by rw [other_out ha]; exact (fit_parts (mem_someD.1 ha).1).2.2.2.2.1)) (fun n m hm => (mem_outN.1 hm).lt.2) (fun n v hn h => out_v _ I n (by have := grx_bd hG; unfold I64; omega) v (.inr ⟨b, rfl, h⟩))
theorem next_in (I : InstD) (b : Nat) (w1 w : World) (hG : GrX w1 b I) (hb : Below w1.heap.size w1 w) :
    NextIs (fun k => w1.heap.size ≤ k ∧ k < w.heap.size) I.sup.length (insN I) 95 (alongB w) (alongW w b 70) :=
  next_of 70 I b (insN I) (fun n => inD I (n : Int)) w1 w hG hb (enters_of Try.func70 (by kernel_rfl) rfl) (fun n => nextL_few I (grx_bd hG).2 _ _ _) (fun n => rfl)
    (fun n _ a ha => other_small (grx_bd hG).2 ha (by rw [other_in ha]; exact (fit_parts (mem_someD.1 ha).1).2.2.1)) (fun n m hm => (mem_insN.1 hm).lt.1) (fun n v hn h => in_v _ I n (by have := grx_bd hG; unfold I64; omega) v (.inr ⟨b, rfl, h⟩))
theorem out_rel (I : InstD) : (fun a b => b ∈ outN I a) = ArcTo I := by
  funext a b
  exact propext mem_outN
theorem ins_rel (I : InstD) : (fun a b => b ∈ insN I a) = Fro I := by
  funext a b
  exact propext mem_insN

/-- At the head of metBy's loop. -/
def MetRel (w1 : World) (N M : Nat) (f : Nat → List Nat) (some : List Int) (s14 : Value) (u : World) : Prop :=
  ∃ (k : Nat) (met : List Bool), k ≤ some.length ∧ s14 = .int .i64 (k : Int) ∧ met.length = N ∧ Blk u M 4 (boolV met).toArray ∧ (∀ n, onB met n = true ↔ Hit N (fun a b => b ∈ f a) (some.take k) n) ∧ Kp (fun k => k = M) w1 u
/-- Marks are told, in a row of one's own. -/
def TellsMarks (l : List Bool) (w : World) (e : Ending) (w' : World) : Prop :=
  ∃ A cap, e = .returned (.slice A l.length cap) ∧ w'.ownsRow w.heap.size 4 1 (.slice A l.length cap) l.length (boolV l) ∧ Below w.heap.size w w'
theorem hit_step {N : Nat} {R : Nat → Nat → Prop} {l : List Int} {s : Nat} (n : Nat) (hs : s < N) : Hit N R (l ++ [(s : Int)]) n ↔ Hit N R l n ∨ Way R s n := by
  constructor
  · rintro ⟨a, h1, h2, h3⟩
    rw [List.mem_append, List.mem_singleton] at h1
    rcases h1 with q | q
    · exact .inl ⟨a, q, h2, h3⟩
    · rw [Int.ofNat_inj.1 q] at h3
      exact .inr h3
  · rintro (⟨a, h1, h2, h3⟩ | q)
    · exact ⟨a, by simp [h1], h2, h3⟩
    · exact ⟨s, by simp, hs, q⟩
theorem hit_skip {N : Nat} {R : Nat → Nat → Prop} {l : List Int} {x : Int} (n : Nat) (hs : ¬ (0 ≤ x ∧ x < (N : Int))) : Hit N R (l ++ [x]) n ↔ Hit N R l n := by
  constructor
  · rintro ⟨a, h1, h2, h3⟩
    rw [List.mem_append, List.mem_singleton] at h1
    rcases h1 with q | q
    · exact ⟨a, q, h2, h3⟩
    · omega
  · rintro ⟨a, h1, h2, h3⟩
    exact ⟨a, by simp [h1], h2, h3⟩
set_option maxHeartbeats 4000000 in
theorem metby_any {N F c : Nat} {ao : Option Addr} {lb : Array Value} {f : Nat → List Nat} (some : List Int) (hs : ∀ x ∈ some, I64 x) (hsl : some.length ≤ 140737488355328) (hN : N ≤ 1000) (w : World) (hA : Cells w w.heap.size ao (numV some)) (hX : NextIs noB N f F lb w) :
    Calls Try.prog 77 #[.slice ao some.length c, .func (.func F) #[] lb, .int .i64 (N : Int)] w (TellsMarks (metL N (fun a b => b ∈ f a) some) w) := by
  have MK := fun W => make_bools N hN W
  obtain ⟨w1, hw1⟩ : ∃ w1, w1 = w.alloc (.cells (boolV (List.replicate N false)).toArray 4) := ⟨_, rfl⟩
  have B1 := Lib.hid (show Blk w1 w.heap.size 4 (boolV (List.replicate N false)).toArray by rw [hw1]; exact Blk.new _ _ _)
  have K1 := Lib.hid (show Below w.heap.size w w1 by rw [hw1]; exact (Below.refl _ _).alloc (Nat.le_refl _) _)
  have X1 := Lib.hid (hX.later (q := fun k => k = w.heap.size) (Kp.of K1.out (Nat.le_refl _)) (fun k hk e => by omega))
  have A1 := Lib.hid hA
  have HS := Lib.hid hs
  have HW := Lib.hid hw1
  clear hA hX hw1 hs
  go_enter Try.func77, Try.ntmps77
  go_wp2_with fail
  rw [← HW.out]
  go_loopw [14] (fun s14 u => MetRel w1 N w.heap.size f some s14 u) (fun s14 _ => some.length - (intOf s14).toNat)
  case atStart =>
    refine ⟨0, _, Nat.zero_le _, rfl, by simp, B1.out, fun n => ?_, Kp.refl _ _⟩
    rw [onB_none]
    constructor
    · intro h; cases h
    · rintro ⟨a, h, _⟩; simp at h
  case round =>
    obtain ⟨k, met, hk, rfl, hl, hb, hm, hkp⟩ := hrel
    have HB := Lib.hid hb
    have HM := Lib.hid hm
    have HK := Lib.hid hkp
    have HL := Lib.hid hl
    clear hb hm hkp hl
    by_cases hlt : k < some.length
    · obtain ⟨b, off, ea, hbl, hcell⟩ := nums_at A1.out (by omega)
      have c1 := (World.cell?_of_block (w := w1) (a := ⟨b, off + k, none⟩) (HK.out.block b (by have := K1.out.size; omega) (by omega))).trans ((K1.out.cell (p := ⟨b, off + k, none⟩) hbl).trans (hcell k hlt))
      obtain ⟨x, hx⟩ : ∃ x, x = some[k] := ⟨_, rfl⟩
      have x6 : I64 x := by rw [hx]; exact HS.out _ (List.getElem_mem hlt)
      unfold I64 at x6
      rw [← hx] at c1
      have k0 : (0 : Int) ≤ (k : Int) := by omega
      have k1 : (k : Int) < (some.length : Int) := by omega
      have tk := Lib.hid (show some.take (k + 1) = some.take k ++ [x] by rw [List.take_succ_eq_append_getElem hlt, hx])
      subst ea
      clear hcell hx
      by_cases hin : 0 ≤ x ∧ x < (N : Int)
      · obtain ⟨s, rfl⟩ : ∃ s : Nat, x = (s : Int) := ⟨x.toNat, by omega⟩
        have s0 := hin.1
        have s1 := hin.2
        have SP := Lib.hid (spread_any (met0 := met) s (by omega) hN HL.out _ HB.out (X1.out.later HK.out (fun k hk e => e)))
        clear hin
        go_wp2_with fail
        refine SP.out.mono ?_
        rintro e u2 ⟨A, cap, met', fr, rfl, -, hb2, hs2, hk2⟩
        have SB := Lib.hid hb2
        have SI := Lib.hid hs2
        have SK := Lib.hid hk2
        clear hb2 hs2 hk2
        go_wp2_with fail
        refine ⟨⟨k + 1, met', by omega, by simp, SI.out.len, SB.out, fun n => ?_, HK.out.trans SK.out⟩, by simp [intOf]; omega⟩
        rw [tk.out, hit_step n (by omega), ← HM.out n]
        refine (SI.out.over (fun a b ha hb => ?_)).1 n
        obtain ⟨z, h1, h2, h3⟩ := (HM.out a).1 ha
        exact (HM.out b).2 ⟨z, h1, h2, .step h3 hb⟩
      · have HI := Lib.hid hin
        by_cases s0 : 0 ≤ x
        · have s1 : ¬ (x < (N : Int)) := by omega
          clear hin
          go_wp2_with fail
          refine ⟨⟨k + 1, met, by omega, by simp, HL.out, HB.out, fun n => ?_, HK.out⟩, by simp [intOf]; omega⟩
          rw [tk.out, hit_skip n HI.out]
          exact HM.out n
        · clear hin
          go_wp2_with fail
          refine ⟨⟨k + 1, met, by omega, by simp, HL.out, HB.out, fun n => ?_, HK.out⟩, by simp [intOf]; omega⟩
          rw [tk.out, hit_skip n HI.out]
          exact HM.out n
    · obtain rfl : k = some.length := by omega
      rw [List.take_length] at HM
      have e : met = metL N (fun a b => b ∈ f a) some := marks_eq HL.out (fun n hn => by rw [← onB_at hn]; exact HM.out n)
      have E := Lib.hid e
      clear e
      go_wp2_with fail
      go_ret
      refine ⟨_, N, by rw [metL_length]; rfl, ?_, K1.out.trans (HK.out.below (fun k hk => by omega) K1.out.size)⟩
      rw [metL_length, ← E.out]
      exact ⟨by rw [boolV_length, HL.out]; omega, .inr ⟨w.heap.size, N, _, rfl, Nat.le_refl _, HB.out, Nat.le_refl _, by simp only [maxLen]; omega, by simp [boolV_length, HL.out], by simp [List.take_of_length_le, boolV_length, HL.out]⟩⟩

/-- Adj's New, as it is called here. -/
theorem new_any (A A2 : Option Addr) (c d n m : Nat) (I : InstD) (w : World) (h : Here w A A2 n m I) (h1 : n ≤ 1000) (h2 : m ≤ 1000) :
    Calls Try.prog 31 #[.agg #[.slice A n c, .slice A2 m d]] w fun e w' => ∃ b, e = .returned (.pointer (some ⟨b, 0, none⟩)) ∧ GrX w' b I ∧ Below w.heap.size w w' :=
  (callsIn_wide.1 (new_in A A2 c d n m I w h h1 h2)).mono fun e w' q => by
    obtain ⟨b, nn, mm, A', cA, P, L, off, cap, ps, C, rfl, hb, hg⟩ := q
    exact ⟨b, rfl, ⟨_, _, _, _, _, _, _, _, _, _, _, hg⟩, hb⟩
theorem grx_v {w : World} {b : Nat} {I : InstD} (h : GrX w b I) : GrV w (some ⟨b, 0, none⟩) I := .inr ⟨b, rfl, h⟩
theorem marks_base {l : List Bool} {w w' : World} {e : Ending} {u : World} (h : TellsMarks l w e w') (hb : Below u.heap.size u w) : TellsMarks l u e w' := by
  obtain ⟨A, cap, e1, h1, h2⟩ := h
  exact ⟨A, cap, e1, own_base h1 hb.size, chain2 hb h2⟩
set_option maxHeartbeats 4000000 in
theorem from_any (A A2 ao : Option Addr) (c d cs n m k : Nat) (I : InstD) (some : List Int) (w : World) (h : Here w A A2 n m I) (h1 : n ≤ 1000) (h2 : m ≤ 1000) (hs : ∀ x ∈ some, I64 x) (hk : some.length = k) (hsl : k ≤ 140737488355328) (hA : Cells w w.heap.size ao (numV some)) :
    Calls Try.prog 43 #[.agg #[.slice A n c, .slice A2 m d], .slice ao k cs] w (TellsMarks (fromL I some) w) := by
  subst hk
  obtain ⟨w0, hw0⟩ : ∃ w0, w0 = w.alloc (.cells #[.slice A n c, .slice A2 m d] 25) := ⟨_, rfl⟩
  have B0 := Lib.hid (show Below w.heap.size w w0 by rw [hw0]; exact (Below.refl _ _).alloc (Nat.le_refl _) _)
  have NW := Lib.hid (new_any A A2 c d n m I w0 (h.later B0.out) h1 h2)
  have HN := Lib.hid h.n
  have HA := Lib.hid hA
  have HS := Lib.hid hs
  have HW := Lib.hid hw0
  clear h hA hs hw0
  go_enter Try.func43, Try.ntmps43
  go_wp2_with fail
  rw [← HW.out]
  refine NW.out.mono ?_
  rintro e w2 ⟨b, rfl, hg, hb⟩
  have G := Lib.hid hg
  have B2 := Lib.hid (chain2 B0.out hb)
  have AL := Lib.hid (along_any b 69 w2)
  have X := Lib.hid (next_out I b w2 w2 hg (Below.refl _ _))
  clear hg hb
  go_wp2_with fail
  refine AL.out.mono ?_
  rintro e w3 ⟨rfl, hw3⟩
  have B3 := Lib.hid (show Below w2.heap.size w2 w3 by rw [hw3]; exact alongW_below _ _ _)
  rw [← hw3] at X
  have G3 := Lib.hid (G.out.later B3.out)
  have ND := Lib.hid (nodes_v _ I n HN.out w3 (grx_v G3.out).half)
  clear hw3
  go_wp2_with fail
  refine ND.out.mono ?_
  rintro e w4 ⟨rfl, hb⟩
  have B4 := Lib.hid (chain2 (chain2 B2.out B3.out) hb)
  have X4 := Lib.hid (X.out.later (q := noB) (Kp.of hb (Nat.le_refl _)) (fun k hk e => e.elim))
  have MB := Lib.hid (metby_any (c := cs) some HS.out hsl (by rw [HN.out]; exact h1) w4 (HA.out.later (Nat.le_refl _) B4.out) X4.out)
  rw [HN.out, out_rel] at MB
  clear hb
  go_wp2_with fail
  refine MB.out.mono ?_
  rintro e w5 ht
  obtain ⟨RA, cap, rfl, ho, hb⟩ := marks_base ht B4.out
  have HO := Lib.hid ho
  have HB := Lib.hid hb
  clear ho hb ht
  go_wp2_with fail
  go_ret
  have e : fromL I some = metL n (ArcTo I) some := by unfold fromL; rw [HN.out]
  rw [e]
  exact ⟨RA, cap, rfl, HO.out, HB.out⟩
set_option maxHeartbeats 4000000 in
theorem to_any (A A2 ao : Option Addr) (c d cs n m k : Nat) (I : InstD) (some : List Int) (w : World) (h : Here w A A2 n m I) (h1 : n ≤ 1000) (h2 : m ≤ 1000) (hs : ∀ x ∈ some, I64 x) (hk : some.length = k) (hsl : k ≤ 140737488355328) (hA : Cells w w.heap.size ao (numV some)) :
    Calls Try.prog 45 #[.agg #[.slice A n c, .slice A2 m d], .slice ao k cs] w (TellsMarks (toL I some) w) := by
  subst hk
  obtain ⟨w0, hw0⟩ : ∃ w0, w0 = w.alloc (.cells #[.slice A n c, .slice A2 m d] 25) := ⟨_, rfl⟩
  have B0 := Lib.hid (show Below w.heap.size w w0 by rw [hw0]; exact (Below.refl _ _).alloc (Nat.le_refl _) _)
  have NW := Lib.hid (new_any A A2 c d n m I w0 (h.later B0.out) h1 h2)
  have HN := Lib.hid h.n
  have HA := Lib.hid hA
  have HS := Lib.hid hs
  have HW := Lib.hid hw0
  clear h hA hs hw0
  go_enter Try.func45, Try.ntmps45
  go_wp2_with fail
  rw [← HW.out]
  refine NW.out.mono ?_
  rintro e w2 ⟨b, rfl, hg, hb⟩
  have G := Lib.hid hg
  have B2 := Lib.hid (chain2 B0.out hb)
  have AL := Lib.hid (along_any b 70 w2)
  have X := Lib.hid (next_in I b w2 w2 hg (Below.refl _ _))
  clear hg hb
  go_wp2_with fail
  refine AL.out.mono ?_
  rintro e w3 ⟨rfl, hw3⟩
  have B3 := Lib.hid (show Below w2.heap.size w2 w3 by rw [hw3]; exact alongW_below _ _ _)
  rw [← hw3] at X
  have G3 := Lib.hid (G.out.later B3.out)
  have ND := Lib.hid (nodes_v _ I n HN.out w3 (grx_v G3.out).half)
  clear hw3
  go_wp2_with fail
  refine ND.out.mono ?_
  rintro e w4 ⟨rfl, hb⟩
  have B4 := Lib.hid (chain2 (chain2 B2.out B3.out) hb)
  have X4 := Lib.hid (X.out.later (q := noB) (Kp.of hb (Nat.le_refl _)) (fun k hk e => e.elim))
  have MB := Lib.hid (metby_any (c := cs) some HS.out hsl (by rw [HN.out]; exact h1) w4 (HA.out.later (Nat.le_refl _) B4.out) X4.out)
  rw [HN.out, ins_rel] at MB
  clear hb
  go_wp2_with fail
  refine MB.out.mono ?_
  rintro e w5 ht
  obtain ⟨RA, cap, rfl, ho, hb⟩ := marks_base ht B4.out
  have HO := Lib.hid ho
  have HB := Lib.hid hb
  clear ho hb ht
  go_wp2_with fail
  go_ret
  have e : toL I some = metL n (Fro I) some := by unfold toL; rw [HN.out]
  rw [e]
  exact ⟨RA, cap, rfl, HO.out, HB.out⟩
end Go.Proofs.Ytajckihgfelbaaa.Rch
