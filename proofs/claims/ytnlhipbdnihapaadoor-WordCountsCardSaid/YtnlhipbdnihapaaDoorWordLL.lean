/- What the landed layer 2 does, as a contract: lines. -/
import Derived.Test.YtnlhipbdnihapaaDoorWordLI
namespace Go.Proofs.YtnlhipbdnihapaaDoor.Word
open Go.RowKit Go.Shelf

theorem trims_any (l : Bytes) (hl : l.length ≤ 1048576) (w : World) : Calls Tryd.prog 33 #[str l, .string ⟨#[10]⟩] w fun e w' => e = .returned (str (Lib.trimSuffix l [10])) ∧ w = w' := by
  refine (Tryd.strings_TrimSuffix ⟨l.toArray⟩ ⟨#[10]⟩ w (by simp [ByteArray.size]; omega)).mono ?_
  rintro e w' ⟨rfl, rfl⟩
  exact ⟨rfl, rfl⟩

theorem llines_none (w : World) : Calls Tryd.prog 20 #[str []] w (TellsStrs (linesB []) w) := by
  go_enter Tryd.func20, Tryd.ntmps20
  go_wp2_with fail
  go_ret
  exact ⟨none, 0, rfl, Nat.le_refl _, by simp, fun h => absurd h (by simp [linesB, parts, rest]), Below.refl _ _⟩

/-- Between two rounds: the box holds what has come, in a block of the call's own. -/
def LineAt (w0 : World) (pre : List Bytes) (A : World) : Prop :=
  (∃ v, Boxed A w0.heap.size 22 v ∧ A.ownsRow (w0.heap.size + 6) 9 1 v pre.length (pre.map str)) ∧ w0.heap.size + 6 ≤ A.heap.size ∧ Below w0.heap.size w0 A
theorem LineAt.put {w0 : World} {pre : List Bytes} {A : World} {k : Nat} {o : Obj} (o' : Obj) (h : LineAt w0 pre A) (hk : w0.heap.size + 4 ≤ k) (ho : A.heap[k]? = some o) (hc : o.isCells = false) : LineAt w0 pre (A.putObj k o') := by
  obtain ⟨⟨v, hb, hr⟩, hs, hB⟩ := h
  refine ⟨⟨v, hb.kept (grownBy_putObj' A k o') (by simp; omega), ownsRow_putObj hr o' ho hc⟩, by simp [World.putObj]; omega, hB.grown (grownBy_putObj' A k o') (by omega) (fun j e => by cases e; omega)⟩
theorem own_not {A : World} {base : Nat} {e : TypeId} {v : Value} {n : Nat} {xs : List Value} (h : A.ownsRow base e 1 v n xs) {k : Nat} (hk : k < base) : some k ≠ v.ownBlock := by
  intro q
  have := own_ge h k q.symm
  omega
theorem LineAt.set {w0 : World} {pre : List Bytes} {A : World} (v : Value) (h : LineAt w0 pre A) : LineAt w0 pre (A.setCell ⟨w0.heap.size + 1, 0, none⟩ v) := by
  obtain ⟨⟨u, hb, hr⟩, hs, hB⟩ := h
  refine ⟨⟨u, hb.kept (grownBy_setCell' _ _ _) (by simp), hr.kept (grownBy_setCell' _ _ _) (Or.inr fun q => own_not hr (by omega) q.symm)⟩, ?_, hB.setCell (by simp) _⟩
  exact Nat.le_trans hs (grownBy_setCell' A _ _).size

set_option maxRecDepth 100000 in
set_option maxHeartbeats 4000000 in
theorem llines_some (l : Bytes) (hl : l.length ≤ 1048576) (h0 : l ≠ []) (w : World) :
    CallsIn Fence.wide 6 Tryd.prog 20 #[str l] w (TellsStrs (linesB l) w) := by
  have f1 : (l == ([] : Bytes)) = false := by simp [h0]
  have f2 : l.isEmpty = false := by cases l with
    | nil => exact absurd rfl h0
    | cons x r => rfl
  have TR := Lib.hid (fun w => trims_any l hl w)
  have LT := Lib.hid (lines_trim l h0)
  have TL := Lib.hid (show (Lib.trimSuffix l [10]).length ≤ l.length from Lib.trimSuffix_le l [10])
  obtain ⟨t, ht⟩ : ∃ t, t = Lib.trimSuffix l [10] := ⟨_, rfl⟩
  rw [← ht] at TR LT TL
  have SQ := Lib.hid (fun w => splitseq_any t w)
  obtain ⟨i0, hi0, hz0, hz1, hz2⟩ := info_parts info_str
  have G0 := Lib.hid hi0
  have G1 := Lib.hid hz0
  have G2 := Lib.hid hz1
  have G3 := Lib.hid hz2
  clear ht h0 hi0 hz0 hz1 hz2
  refine callsIn_of_wp_marks Tryd.func20 rfl trivial ?_ rfl
  simp only [Tryd.ntmps20, List.size_toArray, List.length_cons, List.length_nil, Nat.reduceAdd, Nat.reduceSub, Array.replicate_succ, Array.replicate_zero, List.push_toArray, List.append_toArray, List.nil_append, List.cons_append]
  gi_wp2_with (first
    | (refine ⟨trivial, ?_⟩; refine (callsIn_wide.2 (TR.out _)).mono ?_; rintro e w' ⟨rfl, rfl⟩)
    | (refine ⟨trivial, ?_⟩; refine (callsIn_wide.2 (SQ.out _)).mono ?_; rintro e w' ⟨rfl, rfl⟩))
  obtain ⟨W0, hW0⟩ : ∃ W0, (((w.alloc (Obj.cells #[Value.slice none 0 0] 22)).alloc (Obj.cells #[str t] 9)).alloc (Obj.cells #[Value.string { data := #[10] }] 9)).alloc (Obj.cells #[Value.int IntKind.i64 0] 3) = W0 := ⟨_, rfl⟩
  have hsz : W0.heap.size = w.heap.size + 4 := by rw [← hW0]; simp
  have hB0 : Below w.heap.size w W0 := by rw [← hW0]; exact (((((Below.refl _ w).alloc (Nat.le_refl _) _).alloc (by simp) _).alloc (by simp; omega) _).alloc (by simp; omega) _)
  have x0 : Boxed W0 w.heap.size 22 (.slice none 0 0) := by rw [← hW0]; exact (((Boxed.new w _ _).alloc _).alloc _).alloc _
  have x1 : Boxed W0 (w.heap.size + 1) 9 (str t) := by
    rw [← hW0]
    have h := Boxed.new (w.alloc (Obj.cells #[Value.slice none 0 0] 22)) 9 (str t)
    rw [World.size_alloc] at h
    exact (h.alloc _).alloc _
  have x2 : Boxed W0 (w.heap.size + 2) 9 (.string ⟨#[10]⟩) := by
    rw [← hW0]
    have h := Boxed.new ((w.alloc (Obj.cells #[Value.slice none 0 0] 22)).alloc (Obj.cells #[str t] 9)) 9 (.string ⟨#[10]⟩)
    rw [World.size_alloc, World.size_alloc] at h
    exact h.alloc _
  have x3 : Boxed W0 (w.heap.size + 3) 3 (.int .i64 0) := by
    rw [← hW0]
    have h := Boxed.new (((w.alloc (Obj.cells #[Value.slice none 0 0] 22)).alloc (Obj.cells #[str t] 9)).alloc (Obj.cells #[Value.string { data := #[10] }] 9)) 3 (.int .i64 0)
    rw [World.size_alloc, World.size_alloc, World.size_alloc] at h
    exact h
  rw [hW0]
  clear hW0
  have CL : (cutB 10 t).length ≤ 1048577 := by
    have h1 := parts_len 10 t
    have h2 := TL.out
    unfold cutB
    simp
    omega
  refine range_boxed (n := 6) (by omega) (gf := 61) (lb := #[.pointer (some ⟨w.heap.size + 1 + 1, 0, none⟩), .pointer (some ⟨w.heap.size + 1, 0, none⟩), .pointer (some ⟨w.heap.size + 1 + 2, 0, none⟩)]) rfl (enters_of Tryd.func61 (by kernel_rfl) rfl) rfl w.heap.size (w.heap.size + 1) (by omega) (by omega) (cutB 10 t) (LineAt w)
    (fun pre A k o o' hk ho hc h => h.put o' (by omega) ho hc) (fun pre A v h => h.set v) ?start ?iter
    (fun x => { tmps := #[str l, undef, .slice none 0 0, .pointer (some ⟨w.heap.size, 0, none⟩), str x, str l, .bool false, str l, str t, .func (.func 61) #[] #[.pointer (some ⟨w.heap.size + 1 + 1, 0, none⟩), .pointer (some ⟨w.heap.size + 1, 0, none⟩), .pointer (some ⟨w.heap.size + 1 + 2, 0, none⟩)], str x, undef, undef, undef, undef, undef], defers := [] }) ?assign ?body ?done
  case start =>
    intro o
    exact ⟨⟨_, (x0.alloc _).alloc _, ⟨rfl, .inl ⟨rfl, rfl⟩⟩⟩, by simp; omega, (hB0.alloc (by omega) _).alloc (by simp; omega) _⟩
  case iter =>
    intro J W hbW hJ hY hj
    exact split_iter (6 - 1) (W0.heap.size + 1) (w.heap.size + 1) (w.heap.size + 2) (w.heap.size + 3) w.heap.size W0.heap.size J t (by have := TL.out; omega) (by omega) (by omega) (by omega) (by omega) (by omega) (by omega) (by omega) (by omega)
      hJ hY W hj ((hbW.block _ (by omega)).trans x1) ((hbW.block _ (by omega)).trans x2) ((hbW.block _ (by omega)).trans x3)
  case assign =>
    intro x W K hK
    gi_wp2_with (rw [Oper.semAt_eq _ _ _ (fun c h => by cases h)]; go_simp; try go_bits)
    exact hK
  case body =>
    rintro pre x A ⟨⟨v, hb, hr⟩, hs, hB⟩ hlen
    have hc := hb.cell
    have hf := hb.frozen
    have bs := hB.size
    have hlen2 : pre.length < 1048577 := by omega
    gi_wp2_with (first
      | (gi_at_builtin; refine wpListIn_append_own _ rfl _ _ 22 rfl (w.heap.size + 6) 9 i0 _ 1 16 Tryd.underlying22 G0.out G1.out G2.out G3.out rfl (by decide) _ _ _ rfl (hr.alloc _) ⟨A.heap.size, 0, none⟩ 1 1 [str x] rfl rfl (cell_one_new _ _ _) (by simp [Value.oneCell']) (by unfold maxLen; omega) (by omega) (by simp; omega) ?_; intro v' w1 hown' hgrow _; obtain ⟨g', cap', rfl⟩ := ownsRow_succ hown'; (have hb1 := (hb.alloc (Obj.cells #[str x] 9)).kept hgrow (own_not hr (by omega))); (have hc1 := hb1.cell); (have hf1 := hb1.frozen))
      | (rw [Oper.semAt_eq _ _ _ (fun c h => by cases h)]; go_simp; try go_bits))
    have hg : (A.alloc (Obj.cells #[str x] 9)).grownBy w1 v.ownBlock := hgrow
    have gs := grownBy_setCell' w1 w.heap.size (Value.slice (some { block := g', off := 0 }) (pre.length + 1) cap')
    have z1 := hg.size
    have z2 := gs.size
    rw [World.size_alloc] at z1
    refine ⟨⟨by omega, fun k hk ho => ?_⟩, ⟨_, hb1.set _, ?_⟩, by omega, ?_⟩
    · exact (Below.heap_setCell _ _ _ k ho).trans ((hg.block k (by rw [World.size_alloc]; omega) (own_not hr (by omega))).trans (Below.heap_alloc _ _ k (by omega)))
    · have h := hown'.kept gs (Or.inr fun q => own_not hown' (by omega) q.symm)
      rw [List.length_append, List.map_append]
      exact h
    · exact ((hB.alloc bs _).grown hg (by rw [World.size_alloc]; omega) (fun k e => by have := own_ge hr k e; omega)).setCell (Nat.le_refl _) _
  case done =>
    rintro W ⟨⟨v, hb, hr⟩, hs, hB⟩ hd
    have hc := hb.cell
    have hf := hb.frozen
    gi_wp2
    refine ⟨by simp, .inl ⟨_, _, rfl, run_takeDeferred hd, ?_⟩⟩
    refine ⟨_, results_tmp rfl _ _ _, ?_⟩
    have hr2 := ownsRow_putObj hr (.deferred none) hd rfl
    have hB2 := hB.grown (grownBy_putObj' W W0.heap.size (.deferred none)) (by omega) (fun j e => by cases e; omega)
    rw [LT.out] at hr2
    obtain ⟨_, S, cap, hv, h1, h2, h3⟩ := own_strs hr2
    exact ⟨S, cap, congrArg Ending.returned hv, h1, h2, h3, hB2⟩

theorem llines_any (l : Bytes) (hl : l.length ≤ 1048576) (w : World) (_hL : Lw w) : Calls Tryd.prog 20 #[str l] w (TellsStrs (linesB l) w) := by
  by_cases h0 : l = []
  · subst h0
    exact llines_none w
  · exact callsIn_wide.1 (llines_some l hl h0 w)
end Go.Proofs.YtnlhipbdnihapaaDoor.Word
