/- What the landed layer 4 does: a node's piece, as a range over a function tells it. -/
import Derived.Test.YtajckihgfelbaaaAdjL3
import Derived.BigRegionIn
namespace Go.Proofs.Ytajckihgfelbaaa.Adj
open Go.RowKit Go.Shelf Go.Proofs.Ytajckihgfelbaaa.Inst
set_option maxRecDepth 100000

theorem piece_any (q : Option Addr) (a : Int) (w : World) : Calls Try.prog 127 #[.pointer q, .int .i64 a] w fun e w' =>
    e = .returned (.func (.func 140) #[] #[.pointer (some ⟨w.heap.size, 0, none⟩), .pointer (some ⟨w.heap.size + 1, 0, none⟩)]) ∧
    w' = (w.alloc (.cells #[.pointer q] 52)).alloc (.cells #[.int .i64 a] 3) := by
  go_enter Try.func127, Try.ntmps127
  go_wp2_with fail
  go_ret
  exact ⟨rfl, rfl⟩

/-- What lay there, of cells, lies there. -/
def Lies (w A : World) : Prop := w.heap.size ≤ A.heap.size ∧ ∀ k o, k < w.heap.size → w.heap[k]? = some o → o.isCells = true → A.heap[k]? = some o
theorem Lies.refl (w : World) : Lies w w := ⟨Nat.le_refl _, fun _ _ _ h _ => h⟩
theorem Lies.below {w A B : World} (h : Lies w A) (hb : Below A.heap.size A B) : Lies w B := ⟨Nat.le_trans h.1 hb.size, fun k o h1 h2 h3 => (hb.block k (by have := h.1; omega)).trans (h.2 k o h1 h2 h3)⟩
theorem Lies.of {w A : World} (hb : Below w.heap.size w A) : Lies w A := (Lies.refl w).below hb
theorem Lies.stay {p : Nat → Prop} {w A B : World} (h : Lies w A) (hp : ∀ k, k < w.heap.size → p k) (hs : Stay p A B) : Lies w B := ⟨Nat.le_trans h.1 hs.1, fun k o h1 h2 h3 => hs.2 k o (hp k h1) (h.2 k o h1 h2 h3) h3⟩
theorem Lies.blk {w A : World} (h : Lies w A) {g : Nat} {t : TypeId} {cs : Array Value} (hb : Blk w g t cs) : Blk A g t cs := h.2 g _ hb.lt hb rfl
theorem Lies.own {w A : World} (hk : Lies w A) {base n sz : Nat} {e : TypeId} {x : Value} {xs : List Value} (h : w.ownsRow base e sz x n xs) : A.ownsRow base e sz x n xs := by
  obtain ⟨hl, hr⟩ := h
  refine ⟨hl, ?_⟩
  rcases hr with h1 | ⟨g', cap', cur, h1, h2, h3, h4⟩
  · exact .inl h1
  · exact .inr ⟨g', cap', cur, h1, h2, hk.blk (t := e) h3, h4⟩
theorem GrIs.lies {lo : Nat} {w v : World} {b : Nat} {I : InstD} {n m : Nat} {A : Option Addr} {cA P L : Nat} {off cap : Nat → Nat} {ps C : Array Value} (h : GrIs lo w b I n m A cA P L off cap ps C) (hb : Lies w v) : GrIs lo v b I n m A cA P L off cap ps C :=
  { h with blk := hb.blk h.blk, arcs := hb.own h.arcs, pieces := hb.blk h.pieces, list := hb.blk h.list }
theorem GrV.lies {w u : World} {q : Option Addr} {I : InstD} (h : GrV w q I) (hb : Lies w u) : GrV u q I := by
  rcases h with h | ⟨b, h1, lo, n, m, A, cA, P, L, off, cap, ps, C, h⟩
  · exact .inl h
  · exact .inr ⟨b, h1, lo, n, m, A, cA, P, L, off, cap, ps, C, h.lies hb⟩

theorem take_next {α : Type} (xs : List α) (j : Nat) (h : j < xs.length) : xs.take j ++ [xs[j]] = xs.take (j + 1) := by
  rw [List.take_add_one, List.getElem?_eq_getElem h]
  rfl
/-- A node's arcs, with what they are. -/
def atP (I : InstD) (n : Int) : List (Nat × ArcD) := (atD I n).map fun a => (a, arcAt I.arcs a)
abbrev encP (x : Nat × ArcD) : Array Value := #[.int .i64 (x.1 : Int), aggV x.2]
theorem atD_out {I : InstD} {n : Int} (o i : Bool) (h : ¬ (0 ≤ n ∧ n < (I.sup.length : Int))) : someD I n o i = [] := by
  unfold someD someN
  rw [List.filter_eq_nil_iff]
  intro a _ hc
  rw [Bool.and_eq_true] at hc
  obtain ⟨h1, h2⟩ := hc
  unfold fitD at h1
  have h1 := of_decide_eq_true h1
  rw [Int.toNat_natCast] at h1
  unfold touch at h2
  rw [Bool.or_eq_true, Bool.and_eq_true, Bool.and_eq_true, decide_eq_true_eq, decide_eq_true_eq] at h2
  omega
theorem some_lt {I : InstD} {n : Int} {o i : Bool} (j : Nat) (h : j < (someD I n o i).length) : (someD I n o i)[j] < I.arcs.length := by
  have hm : (someD I n o i)[j] ∈ someD I n o i := List.getElem_mem h
  unfold someD someN at hm
  rw [List.mem_filter, List.mem_range] at hm
  exact hm.1

/-- Between two rounds. -/
def PieceAt (w : World) (J : List (Nat × ArcD) → World → Prop) (xs : List (Nat × ArcD)) (t b1 : Nat) (t1 : TypeId) (q : Option Addr) (s : Value) (wr : World) : Prop :=
  ∃ j : Nat, j ≤ t ∧ s = .int .i64 (j : Int) ∧ J (xs.take j) wr ∧ Lies w wr ∧ Blk wr b1 t1 #[.pointer q]

set_option maxRecDepth 100000 in
set_option maxHeartbeats 4000000 in
theorem piece_seq (n l b1 b2 : Nat) (t1 t2 : TypeId) (q : Option Addr) (I : InstD) (a : Int) (ha : I64 a) (p : Nat → Prop) (J : List (Nat × ArcD) → World → Prop) (w W : World)
    (hJ : ∀ pre A A', J pre A → Below A.heap.size A A' → J pre A')
    (hp : ∀ k, k < w.heap.size → p k) (hp1 : p b1) (hp2 : p b2)
    (hY : ∀ pre x A, J pre A → pre ++ [x] <+: atP I a → YieldAt Fence.wide (n - 1) Try.prog l (encP x) A fun e A' => e = .returned (.bool true) ∧ Stay p A A' ∧ J (pre ++ [x]) A')
    (h0 : J [] W) (hG : GrV w q I) (hL : Lies w W) (hb1 : Blk W b1 t1 #[.pointer q]) (hb2 : Blk W b2 t2 #[.int .i64 a]) :
    CallsIn Fence.wide n Try.prog 140 #[.func (.yield l) #[] #[], .pointer (some ⟨b1, 0, none⟩), .pointer (some ⟨b2, 0, none⟩)] W fun e W' => (∃ v, e = .returned v) ∧ J (atP I a) W' := by
  have x1 := hb1.cell 0
  have x2 := hb2.cell 0
  have x3 := hb1.lt
  have x4 := hb2.lt
  simp at x1 x2
  by_cases hn : 0 ≤ a ∧ a < (I.sup.length : Int)
  · have NI := Lib.hid (isnode_v q I a true (decide_eq_true hn) W (hG.lies hL).half)
    rcases hG with ⟨rfl, rfl⟩ | ⟨b, rfl, lo, nn, m, A, cA, P, L, off, cap, ps, C, hG⟩
    · exfalso
      simp at hn
      omega
    · obtain ⟨k, rfl⟩ : ∃ k : Nat, a = k := ⟨a.toNat, by omega⟩
      rw [hG.hn] at hn
      have kn : k < nn := by omega
      have n9 := hG.n9
      have m9 := hG.m9
      obtain ⟨l0, hl0⟩ : ∃ l, atD I (k : Int) = l := ⟨_, rfl⟩
      have PC := hG.piece k kn
      have CC := hG.cells k kn
      have SL := fun j h => some_lt (I := I) (n := (k : Int)) (o := true) (i := true) j h
      have XS : atP I (k : Int) = l0.map fun a => (a, arcAt I.arcs a) := by unfold atP; rw [hl0]
      rw [XS] at hY ⊢
      have ll : l0.length ≤ 1000 := by rw [← hl0]; exact Nat.le_trans (someN_length I (k : Int) true true _) (by rw [hG.hm]; exact m9)
      simp only [hl0] at PC CC SL
      obtain ⟨t, ht⟩ : ∃ t, l0.length = t := ⟨_, rfl⟩
      have AF := Lib.hid (fun u (hu : Lies w u) (j x : Nat) (hj : l0[j]? = some x) => show ∃ g off2, A = some ⟨g, off2, none⟩ ∧ g < u.heap.size ∧ x < m ∧ u.cell? ⟨L, off k + j, none⟩ = some (.int .i64 (x : Int)) ∧ L < u.heap.size ∧ ArcAt u g (off2 + x * 5) (arcAt I.arcs x) from by
        obtain ⟨hj1, hj2⟩ := List.getElem?_eq_some_iff.1 hj
        have hG2 := hG.lies hu
        have h1 : x < m := by have := SL j hj1; rw [hG.hm, hj2] at this; exact this
        obtain ⟨g, off2, e1, e2, e3⟩ := arc_in hG.hm (own_row hG2.arcs) x h1
        have cc := CC j hj1
        rw [hj2] at cc
        exact ⟨g, off2, e1, e2, h1, (hG2.list.cell _).trans cc, hG2.list.lt, e3⟩)
      have hB := (hG.lies hL).blk
      have y0 := hB.cell 1
      have y1 := hB.lt
      simp at y0
      have hP := (hG.lies hL).pieces
      have y2 := (hP.cell k).trans PC
      have y3 := hP.lt
      rw [ht] at y2
      have BB := Lib.hid (fun u (hu : Lies w u) => (show u.cell? ⟨b, 0, none⟩ = some (.slice A m cA) ∧ b < u.heap.size from ⟨((hG.lies hu).blk.cell 0).trans rfl, (hG.lies hu).blk.lt⟩))
      have HY := Lib.hid hY
      have HJ := Lib.hid hJ
      have HL := Lib.hid hL
      have HP := Lib.hid hp
      have LT := Lib.hid ht
      have LK := Lib.hid (show (l0.map fun a => (a, arcAt I.arcs a)).length = t by rw [List.length_map]; exact ht)
      clear hY hJ hL hp ht PC CC SL hB hP hl0 XS hG ha
      have k0 : (0 : Int) ≤ (k : Int) := by omega
      have k1 : (k : Int) < (nn : Int) := by omega
      refine callsIn_of_wp Try.func140 rfl trivial ?_ rfl
      simp only [Try.ntmps140, List.size_toArray, List.length_cons, List.length_nil, Nat.reduceAdd, Nat.reduceSub, Array.replicate_succ, Array.replicate_zero, List.push_toArray, List.append_toArray, List.nil_append, List.cons_append]
      gi_wp2_with (refine ⟨trivial, fun h => absurd h (by simp [Fence.wide]), ?_⟩; refine (callsIn_wide.2 NI.out).mono ?_; rintro e w' ⟨rfl, hb⟩; have HB := Lib.hid hb; have hz := hb.size; have v1 := (hb.cell (p := ⟨b1, 0, none⟩) x3).trans x1; have v2 := (hb.cell (p := ⟨b2, 0, none⟩) x4).trans x2; have v3 := (hb.cell (p := ⟨b, 1, none⟩) y1).trans y0; have v4 := (hb.cell (p := ⟨P, k, none⟩) y3).trans y2; clear hb)
      have q1 : b1 < w'.heap.size := by omega
      have q2 : b2 < w'.heap.size := by omega
      have q3 : b < w'.heap.size := by omega
      have q4 : P < w'.heap.size := by omega
      have B1 := Lib.hid ((hb1.below HB.out hb1.lt).drew)
      have B2 := Lib.hid ((hb2.below HB.out hb2.lt).drew)
      have HL2 := Lib.hid (HL.out.below (HB.out.drew))
      have J0 := Lib.hid (HJ.out _ _ _ h0 HB.out.drew)
      clear x1 x2 x3 x4 y0 y1 y2 y3 hb1 hb2
      gi_region
      obtain ⟨W1, hW1⟩ : ∃ W1, W1 = w'.drew := ⟨_, rfl⟩
      rw [← hW1] at B1 B2 HL2 J0 ⊢
      clear v1 v2 v3 v4 q1 q2 q3 q4 HB hz hW1
      gi_wp2
      gi_loopw [18] (fun s wr => PieceAt w J (l0.map fun a => (a, arcAt I.arcs a)) t b1 t1 (some ⟨b, 0, none⟩) s wr) (fun s _ => t - (intOf s).toNat)
      case atStart => exact ⟨0, by omega, rfl, J0.out, HL2.out, B1.out⟩
      case round =>
        obtain ⟨j, hj, rfl, hj1, hl1, hb⟩ := hrel
        have x1 := hb.cell 0
        have x2 := hb.lt
        simp at x1
        have BW := Lib.hid hb
        have JW := Lib.hid hj1
        have LW := Lib.hid hl1
        obtain ⟨x3, x4⟩ := BB.out _ hl1
        by_cases hlt : j < t
        · have hl9 : j < l0.length := by rw [LT.out]; exact hlt
          obtain ⟨x, hx⟩ : ∃ x, l0[j]? = some x := ⟨l0[j], List.getElem?_eq_getElem hl9⟩
          obtain ⟨g, off2, ea, lg, xm, c0, lL, c1, c2, c3, c4, c5⟩ := AF.out _ hl1 j x hx
          obtain ⟨y, hy⟩ : ∃ y, y = arcAt I.arcs x := ⟨_, rfl⟩
          rw [← hy] at c1 c2 c3 c4 c5
          have XJ : (l0.map fun a => (a, arcAt I.arcs a)).take j ++ [(x, y)] = (l0.map fun a => (a, arcAt I.arcs a)).take (j + 1) := by
            rw [← take_next _ _ (by rw [List.length_map]; exact hl9), List.getElem_map, hy]
            have e := List.getElem?_eq_getElem hl9
            rw [e] at hx
            cases hx
            rfl
          obtain ⟨fn, tmps, assign, body, hyy, hRd⟩ := HY.out _ (x, y) wr JW.out (by rw [XJ]; exact List.take_prefix _ _)
          have XE := Lib.hid XJ
          subst ea
          have x0 : (0 : Int) ≤ (x : Int) := by omega
          have xm1 : (x : Int) < (m : Int) := by omega
          have j0 : (0 : Int) ≤ (j : Int) := by omega
          have j1 : (j : Int) < (t : Int) := by omega
          clear hb hj1 hl1 hx hy XJ hj
          gi_wp2
          refine ⟨fun h => absurd h (by simp [Fence.wide]), hRd.mono ?_⟩
          rintro e W3 ⟨rfl, hs, hj3⟩
          rw [XE.out] at hj3
          clear hyy hRd
          gi_wp2
          refine ⟨⟨j + 1, by omega, by simp, hj3, LW.out.stay HP.out hs, hs.blk hp1 BW.out⟩, by simp [intOf]; omega⟩
        · obtain rfl : j = t := by omega
          clear hb hj1 hl1
          gi_wp2
          refine bodyPost_end (results_none rfl _ _ _) rfl ⟨⟨_, rfl⟩, ?_⟩
          have e := JW.out
          rw [List.take_of_length_le (by rw [LK.out]; exact Nat.le_refl _)] at e
          exact e
  · have NI := Lib.hid (isnode_v q I a false (decide_eq_false hn) W (hG.lies hL).half)
    have E : atP I a = [] := by show (atD I a).map _ = []; rw [show atD I a = [] from atD_out true true hn]; rfl
    rw [E]
    clear hY hG hL hn
    refine callsIn_of_wp Try.func140 rfl trivial ?_ rfl
    simp only [Try.ntmps140, List.size_toArray, List.length_cons, List.length_nil, Nat.reduceAdd, Nat.reduceSub, Array.replicate_succ, Array.replicate_zero, List.push_toArray, List.append_toArray, List.nil_append, List.cons_append]
    gi_wp2_with (refine ⟨trivial, fun h => absurd h (by simp [Fence.wide]), ?_⟩; refine (callsIn_wide.2 NI.out).mono ?_; rintro e w' ⟨rfl, hb⟩; have HB := Lib.hid hb; have hz := hb.size; clear hb)
    refine bodyPost_ret (results_none rfl _ _ _) rfl ?_
    exact ⟨⟨_, rfl⟩, hJ _ _ _ h0 HB.out⟩
end Go.Proofs.Ytajckihgfelbaaa.Adj
