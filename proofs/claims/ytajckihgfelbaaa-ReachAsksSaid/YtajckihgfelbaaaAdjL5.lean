/- What the landed layer 4 does: those arcs at a node that are wanted. -/
import Derived.Test.YtajckihgfelbaaaAdjL4
namespace Go.Proofs.Ytajckihgfelbaaa.Adj
open Go.RowKit Go.Shelf Go.Proofs.Ytajckihgfelbaaa.Inst
set_option maxRecDepth 100000

/-- The wanted ones. -/
def flt (f : ArcD → Bool) (xs : List (Nat × ArcD)) : List Nat := (xs.filter fun x => f x.2).map fun x => x.1
theorem flt_snoc (f : ArcD → Bool) (xs : List (Nat × ArcD)) (x : Nat × ArcD) : flt f (xs ++ [x]) = flt f xs ++ if f x.2 = true then [x.1] else [] := by
  unfold flt
  rw [List.filter_append, List.map_append]
  congr 1
  cases h : f x.2 <;> simp [h]
theorem flt_length (f : ArcD → Bool) (xs : List (Nat × ArcD)) : (flt f xs).length ≤ xs.length := by
  unfold flt
  rw [List.length_map]
  exact List.length_filter_le _ _

/-- Between two rounds of those. -/
def ThoseAt (w : World) (f : ArcD → Bool) (fv : Value) (pre : List (Nat × ArcD)) (A : World) : Prop :=
  (∃ v, Blk A (w.heap.size + 1) 32 #[v] ∧ A.ownsRow (w.heap.size + 4) 3 1 v (flt f pre).length (natV (flt f pre))) ∧ Blk A w.heap.size 120 #[fv] ∧ w.heap.size + 4 ≤ A.heap.size ∧ Below w.heap.size w A
theorem own_kept_below {A A' : World} {base n sz : Nat} {e : TypeId} {v : Value} {xs : List Value} (h : A.ownsRow base e sz v n xs) (hb : Below A.heap.size A A') : A'.ownsRow base e sz v n xs := own_later h hb
theorem ThoseAt.later {w : World} {f : ArcD → Bool} {fv : Value} {pre : List (Nat × ArcD)} {A A' : World} (h : ThoseAt w f fv pre A) (hb : Below A.heap.size A A') : ThoseAt w f fv pre A' := by
  obtain ⟨⟨v, h1, h2⟩, h3, h4, h5⟩ := h
  exact ⟨⟨v, h1.below hb h1.lt, own_later h2 hb⟩, h3.below hb h3.lt, Nat.le_trans h4 hb.size, chain2 h5 hb⟩
theorem own_put {A : World} {base n sz : Nat} {e : TypeId} {v : Value} {xs : List Value} (h : A.ownsRow base e sz v n xs) {k : Nat} {o : Obj} (o' : Obj) (hk : A.heap[k]? = some o) (ho : o.isCells = false) : (A.putObj k o').ownsRow base e sz v n xs := by
  obtain ⟨hl, hr⟩ := h
  refine ⟨hl, ?_⟩
  rcases hr with h1 | ⟨g', cap', cur, h1, h2, h3, h4⟩
  · exact .inl h1
  · exact .inr ⟨g', cap', cur, h1, h2, Blk.putObj (t := e) h3 o' hk ho, h4⟩
theorem below_put {w A : World} (h : Below w.heap.size w A) {k : Nat} (o' : Obj) (hB : w.heap.size ≤ k) : Below w.heap.size w (A.putObj k o') :=
  h.grown (grownBy_putObj' A k o') h.size (fun j e => by cases e; exact hB)
theorem ThoseAt.put {w : World} {f : ArcD → Bool} {fv : Value} {pre : List (Nat × ArcD)} {A : World} {k : Nat} {o : Obj} (o' : Obj) (h : ThoseAt w f fv pre A) (hk : A.heap[k]? = some o) (ho : o.isCells = false) (hB : w.heap.size ≤ k) : ThoseAt w f fv pre (A.putObj k o') := by
  obtain ⟨⟨v, h1, h2⟩, h3, h4, h5⟩ := h
  exact ⟨⟨v, Blk.putObj h1 o' hk ho, own_put h2 o' hk ho⟩, Blk.putObj h3 o' hk ho, by simp [World.putObj]; omega, below_put h5 o' hB⟩

theorem from_below {A B : World} (b : Nat) (h : Below A.heap.size A B) : KeepsFrom b A B := ⟨h.size, fun k _ _ hk _ => (h.block k (Array.getElem?_eq_some_iff.1 hk).1).trans hk⟩

theorem keeps_grown {A B : World} {base n sz : Nat} {e : TypeId} {v : Value} {xs : List Value} (h : A.ownsRow base e sz v n xs) (hg : A.grownBy B v.ownBlock) : KeepsOthers A B := by
  refine KeepsOthers.of_grownBy hg (fun j o hj ho => ?_)
  obtain ⟨_, hr⟩ := h
  rcases hr with ⟨rfl, _⟩ | ⟨g', cap', cur, rfl, _, h3, _⟩
  · simp [Value.ownBlock] at hj
  · simp [Value.ownBlock] at hj
    subst hj
    rw [h3] at ho
    cases ho
    rfl
theorem Stay.grown {p : Nat → Prop} {A B : World} {row : Option Nat} (hg : A.grownBy B row) (hr : ∀ g, row = some g → ¬ p g) : Stay p A B :=
  ⟨hg.size, fun k _ hp hk _ => (hg.block k (Array.getElem?_eq_some_iff.1 hk).1 (fun e => hr k e.symm hp)).trans hk⟩

set_option maxRecDepth 100000 in
set_option maxHeartbeats 8000000 in
theorem those_in (q : Option Addr) (I : InstD) (n : Int) (hn : I64 n) (F : Nat) (lb : Array Value) (f : ArcD → Bool) (w : World) (h : GrV w q I) (hP : Picks F lb f w) (eF : ∀ args w, (callFunc F args).run Try.prog w = .ok (.enter F args) w) :
    CallsIn Fence.wide 6 Try.prog 96 #[.pointer q, .int .i64 n, .func (.func F) #[] lb] w (TellsNats (flt f (atP I n)) w) := by
  obtain ⟨fv, hfv⟩ : ∃ fv, fv = Value.func (.func F) #[] lb := ⟨_, rfl⟩
  have PA := Lib.hid (fun u => piece_any q n u)
  obtain ⟨i0, hi0, hz0, hz1, hz2⟩ := info_parts info_int
  have G0 := Lib.hid hi0
  have G1 := Lib.hid hz0
  have G2 := Lib.hid hz1
  have G3 := Lib.hid hz2
  have HF := Lib.hid hfv
  have HV := Lib.hid h
  have HK := Lib.hid hP
  have EF := Lib.hid eF
  have LN := Lib.hid (show (atP I n).length ≤ 1000 by unfold atP; rw [List.length_map]; exact Nat.le_trans (someN_length I n true true _) h.bd.2)
  rw [← hfv]
  clear hi0 hz0 hz1 hz2 h hP eF hfv
  refine callsIn_of_wp_marks Try.func96 rfl trivial ?_ rfl
  simp only [Try.ntmps96, List.size_toArray, List.length_cons, List.length_nil, Nat.reduceAdd, Nat.reduceSub, Array.replicate_succ, Array.replicate_zero, List.push_toArray, List.append_toArray, List.nil_append, List.cons_append]
  gi_wp2_with (refine ⟨trivial, ?_⟩; refine (callsIn_wide.2 (PA.out _)).mono ?_; rintro e w' ⟨rfl, rfl⟩)
  obtain ⟨W0, hW0⟩ : ∃ W0, W0 = (((w.alloc (.cells #[fv] 120)).alloc (.cells #[.slice none 0 0] 32)).alloc (.cells #[.pointer q] 52)).alloc (.cells #[.int .i64 n] 3) := ⟨_, rfl⟩
  have hsz : W0.heap.size = w.heap.size + 4 := by rw [hW0]; simp
  have hB0 : Below w.heap.size w W0 := by rw [hW0]; exact (((((Below.refl _ w).alloc (Nat.le_refl _) _).alloc (by simp) _).alloc (by simp; omega) _).alloc (by simp; omega) _)
  have c0 : Blk W0 w.heap.size 120 #[fv] := by rw [hW0]; exact (((Blk.new w _ _).alloc _).alloc _).alloc _
  have c1 : Blk W0 (w.heap.size + 1) 32 #[.slice none 0 0] := by rw [hW0]; exact ((blk_at (by simp) _ _).alloc _).alloc _
  have c2 : Blk W0 (w.heap.size + 1 + 1) 52 #[.pointer q] := by rw [hW0]; exact (blk_at (by simp) _ _).alloc _
  have c3 : Blk W0 (w.heap.size + 1 + 1 + 1) 3 #[.int .i64 n] := by rw [hW0]; exact blk_at (by simp) _ _
  rw [← hW0]
  clear hW0
  refine range_rounds (n := 6) (by omega) (gf := 140) (lb := #[.pointer (some ⟨w.heap.size + 1 + 1, 0, none⟩), .pointer (some ⟨w.heap.size + 1 + 1 + 1, 0, none⟩)]) rfl (enters_of Try.func140 (by kernel_rfl) rfl) encP (fun _ => rfl) (atP I n) (fun k => k < w.heap.size + 4 ∧ k ≠ w.heap.size + 1) (ThoseAt w f fv)
    (fun pre A A' h hb => h.later hb) (fun pre A k o o' hB hk ho h => h.put o' hk ho (by omega)) ?start ?iter
    (fun x a1 A => ∃ Bx, w.heap.size + 4 ≤ Bx ∧ Blk A Bx 36 (arcCs x.2) ∧ a1 = { tmps := #[.pointer q, .int .i64 n, fv, undef, undef, .pointer (some ⟨w.heap.size, 0, none⟩), .slice none 0 0, .pointer (some ⟨w.heap.size + 1, 0, none⟩), .int .i64 (x.1 : Int), .pointer (some ⟨Bx, 0, none⟩), .pointer q, .int .i64 n, .func (.func 140) #[] #[.pointer (some ⟨w.heap.size + 1 + 1, 0, none⟩), .pointer (some ⟨w.heap.size + 1 + 1 + 1, 0, none⟩)], .int .i64 (x.1 : Int), aggV x.2, undef, undef, undef, undef, undef, undef, undef, undef], defers := [] })
    (fun x a1 A k o o' _ hk ho h => by obtain ⟨Bx, h1, h2, h3⟩ := h; exact ⟨Bx, h1, Blk.putObj h2 o' hk ho, h3⟩) ?assign ?body ?done
  case start => exact ⟨⟨_, c1, ⟨rfl, .inl ⟨rfl, rfl⟩⟩⟩, c0, by omega, hB0⟩
  case iter =>
    intro l J W hbW hJ hY hj
    exact piece_seq _ l _ _ _ _ q I n hn (fun k => k < w.heap.size + 4 ∧ k ≠ w.heap.size + 1) J w W hJ (fun k hk => by constructor <;> omega) (by constructor <;> omega) (by constructor <;> omega) hY hj HV.out (Lies.of (hB0.trans (hbW.mono hB0.size)))
      (c2.below hbW c2.lt) (c3.below hbW c3.lt)
  case assign =>
    rintro l pre ⟨xa, xx⟩ W K ⟨_, _, hs, _⟩ _ hK
    gi_wp2_with (rw [Oper.semAt_eq _ _ _ (fun c h => by cases h)]; go_simp; try go_bits)
    refine hK _ _ ⟨W.heap.size, hs, Blk.new _ _ _, rfl⟩ ((Below.refl _ _).alloc (Nat.le_refl _) _)
  case body =>
    rintro l pre ⟨xa, xx⟩ a1 A ⟨⟨v, hb, hr⟩, hc, hs, hB⟩ ⟨Bx, hBx, hx, rfl⟩ hpre hsz2
    have hf := HF.out
    subst hf
    have ef := EF.out
    have x0 := hc.cell 0
    have x1 := hc.lt
    have y0 := hx.cell 0
    have y1 := hx.cell 1
    have y2 := hx.cell 2
    have y3 := hx.cell 3
    have y4 := hx.cell 4
    have y5 := hx.lt
    simp at x0 y0 y1 y2 y3 y4
    have HB := Lib.hid hB
    have HBX := Lib.hid hb
    have HR := Lib.hid hr
    have HC := Lib.hid hc
    have PK := Lib.hid (HK.out xx)
    have pl := hpre.length_le
    have ln := LN.out
    rw [List.length_append, List.length_singleton] at pl
    clear hb hr hc hB hx hpre
    cases hr : f xx with
    | false =>
      rw [hr] at PK
      gi_wp2_with (rw [Oper.semAt_eq _ _ _ (fun c h => by cases h)]; go_simp; try go_bits)
      refine ⟨trivial, (CallsIn.inRound l (callsIn_wide.2 (PK.out _ HB.out))).mono ?_⟩
      rintro e w4 ⟨rfl, hb4⟩
      have HB4 := Lib.hid hb4
      clear hb4
      gi_wp2_with (rw [Oper.semAt_eq _ _ _ (fun c h => by cases h)]; go_simp; try go_bits)
      have ef2 : flt f (pre ++ [(xa, xx)]) = flt f pre := by rw [flt_snoc, hr]; simp
      exact ⟨from_below _ HB4.out, Stay.below HB4.out, (show ThoseAt w f _ (pre ++ [(xa, xx)]) w4 from by
        have q := (show ThoseAt w f _ pre A from ⟨⟨v, HBX.out, HR.out⟩, HC.out, hs, HB.out⟩).later HB4.out
        unfold ThoseAt at q ⊢
        rw [ef2]
        exact q)⟩
    | true =>
      rw [hr] at PK
      gi_wp2_with (rw [Oper.semAt_eq _ _ _ (fun c h => by cases h)]; go_simp; try go_bits)
      refine ⟨trivial, (CallsIn.inRound l (callsIn_wide.2 (PK.out _ HB.out))).mono ?_⟩
      rintro e w4 ⟨rfl, hb4⟩
      have HB4 := Lib.hid hb4
      have bs := hb4.size
      have B7 := Lib.hid (HBX.out.below hb4 HBX.out.lt)
      have R4 := Lib.hid (own_later HR.out hb4)
      have z0 := B7.out.cell 0
      have z1 := B7.out.lt
      simp at z0
      have zf := B7.out.frozen 0
      have fl := flt_length f pre
      clear hb4
      gi_wp2_with (first
        | (gi_at_builtin; refine wpListIn_append_own _ rfl _ _ 32 rfl (w.heap.size + 4) 3 i0 _ 1 8 Try.underlying32 G0.out G1.out G2.out G3.out rfl (by decide) _ _ _ rfl (R4.out.alloc _) ⟨w4.heap.size, 0, none⟩ 1 1 [.int .i64 (xa : Int)] rfl rfl (cell_one_new _ _ _) (by simp [Value.oneCell']) (by unfold maxLen; omega) (by omega) (by simp; omega) ?_; intro v' w1 hown' hgrow _; obtain ⟨g', cap', rfl⟩ := ownsRow_succ hown'; (have hb1 := hgrow.block (w.heap.size + 1) (by simp; omega) (fun e => by have := own_ge R4.out _ e.symm; omega)); (have hb2 : Blk w1 (w.heap.size + 1) 32 #[v] := hb1.trans (B7.out.alloc _)); (have u0 := hb2.cell 0); (have u1 := hb2.lt); (simp at u0); (have u2 := hb2.frozen 0); have OW := Lib.hid hown'; have GR := Lib.hid hgrow; have HB2 := Lib.hid hb2; clear hown' hgrow hb1 hb2)
        | (rw [Oper.semAt_eq _ _ _ (fun c h => by cases h)]; go_simp; try go_bits))
      have ef2 : flt f (pre ++ [(xa, xx)]) = flt f pre ++ [xa] := by rw [flt_snoc, hr]; simp
      have gz := GR.out.size
      rw [World.size_alloc] at gz
      have rl : ∀ g, v.ownBlock = some g → w.heap.size + 4 ≤ g := own_ge R4.out
      have ne : (Value.slice (some ⟨g', 0, none⟩) ((flt f pre).length + 1) cap').ownBlock ≠ some (w.heap.size + 1) := fun e => by have h : w.heap.size + 4 ≤ w.heap.size + 1 := own_ge OW.out _ e; omega
      refine ⟨?_, ?_, ⟨⟨_, HB2.out.set_ 0 _, ?_⟩, ?_, ?_, ?_⟩⟩
      · exact (((from_below _ HB4.out).trans ((KeepsOthers.alloc _ _).from _)).trans ((keeps_grown (R4.out.alloc _) GR.out).from _)).trans ((KeepsOthers.setCell _ _ _).from _)
      · exact (((Stay.below HB4.out).trans (Stay.below ((Below.refl _ _).alloc (Nat.le_refl _) _))).trans (Stay.grown GR.out (fun g hg hp => by have := rl g hg; omega))).trans (Stay.set _ _ _ (fun hp => hp.2 rfl))
      · rw [ef2, List.length_append, natV_snoc]
        exact own_far OW.out ne _
      · have c4 : Blk w1 w.heap.size 120 #[.func (.func F) #[] lb] := (GR.out.block _ (by simp; omega) (fun e => by have := rl _ e.symm; omega)).trans ((HC.out.below HB4.out HC.out.lt).alloc _)
        exact c4.far (by show w.heap.size ≠ w.heap.size + 1; omega) _
      · simp; omega
      · exact (((chain2 HB.out HB4.out).alloc (by omega) _).grown GR.out (by simp; omega) (fun g hg => by have := rl g hg; omega)).setCell (by show w.heap.size ≤ w.heap.size + 1; omega) _
  case done =>
    rintro D W hD ⟨⟨v, hb, hr⟩, hc, hs, hB⟩ hd
    have x0 := hb.cell 0
    have x1 := hb.lt
    have x2 := hb.frozen 0
    simp at x0
    gi_wp2
    refine ⟨by simp, .inl ⟨_, _, rfl, run_takeDeferred hd, ?_⟩⟩
    refine ⟨_, results_tmp rfl _ _ _, ?_⟩
    have hr2 := own_put hr (.deferred none) hd rfl
    obtain ⟨_, NA, cap, rfl, h1, _, h3⟩ := own_cells hr2
    exact ⟨NA, cap, rfl, h1, h3, below_put hB _ (by omega), own_base hr2 (by omega)⟩
end Go.Proofs.Ytajckihgfelbaaa.Adj
