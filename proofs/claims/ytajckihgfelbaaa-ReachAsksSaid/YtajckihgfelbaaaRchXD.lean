/- What the landed layer 6 does: the least of a list; a list from behind, as a range over a function tells it. -/
import Derived.Test.YtajckihgfelbaaaRchXC
import Derived.BigRegionIn
import Derived.RegionTactic
import Derived.BigRegion
namespace Go.Proofs.Ytajckihgfelbaaa.Rch
open Go.RowKit Go.Shelf Go.Proofs.Ytajckihgfelbaaa.Inst Go.Proofs.Ytajckihgfelbaaa.Adj
set_option maxRecDepth 100000

/-- The least of those so far. -/
def MinRel (w : World) (l : List Nat) (s3 s4 : Value) (u : World) : Prop :=
  ∃ i low : Nat, 1 ≤ i ∧ i ≤ l.length ∧ s4 = .int .i64 (i : Int) ∧ s3 = .int .i64 (low : Int) ∧ low ∈ l.take i ∧ (∀ x ∈ l.take i, low ≤ x) ∧ u = w
set_option maxHeartbeats 4000000 in
theorem min_any (l : List Nat) (n c : Nat) (A : Option Addr) (hl : l.length = n) (hn : n ≤ 1000) (h0 : 0 < n) (w : World) (h : Cells w w.heap.size A (natV l)) :
    Calls Try.prog 103 #[.slice A n c] w fun e w' => (∃ low : Nat, e = .returned (.int .i64 (low : Int)) ∧ low ∈ l ∧ ∀ x ∈ l, low ≤ x) ∧ w = w' := by
  obtain ⟨b, off, rfl, hb, hc⟩ := nats_at h (by omega)
  have c0 := hc 0 (by omega)
  have HC := Lib.hid hc
  have HL := Lib.hid hl
  obtain ⟨x, hx⟩ : ∃ x, x = l[0] := ⟨_, rfl⟩
  rw [← hx] at c0
  have hnl : ¬ ((n : Int) < 1) := by omega
  have n0 : (0 : Int) < (n : Int) := by omega
  have HX := Lib.hid (show l.take 1 = [x] by rw [hx]; cases l with | nil => simp at hl; omega | cons a l => simp)
  rw [Nat.add_zero] at c0
  clear h hc hl hx
  go_enter Try.func103, Try.ntmps103
  go_wp2_with fail
  go_loopw [3, 4] (fun s3 s4 u => MinRel w l s3 s4 u) (fun _ s4 _ => n - (intOf s4).toNat)
  case atStart =>
    have e := HX.out
    exact ⟨1, x, Nat.le_refl _, by rw [HL.out]; omega, rfl, rfl, by rw [e]; simp, fun y hy => by rw [e] at hy; simp at hy; omega, rfl⟩
  case round =>
    obtain ⟨i, low, h1, h2, rfl, rfl, h3, h4, rfl⟩ := hrel
    have H3 := Lib.hid h3
    have H4 := Lib.hid h4
    rw [HL.out] at h2
    clear h3 h4
    by_cases hlt : i < n
    · have c1 := HC.out i (by rw [HL.out]; exact hlt)
      have tk := Lib.hid (show l.take (i + 1) = l.take i ++ [l[i]'(by rw [HL.out]; exact hlt)] from List.take_succ_eq_append_getElem _)
      obtain ⟨y, hy⟩ : ∃ y, y = l[i]'(by rw [HL.out]; exact hlt) := ⟨_, rfl⟩
      rw [← hy] at c1 tk
      have i0 : (0 : Int) ≤ (i : Int) := by omega
      have i1 : (i : Int) < (n : Int) := by omega
      clear hy
      by_cases q : low ≤ y
      · have q1 : ¬ ((y : Int) < (low : Int)) := by omega
        have q2 : ((low : Int) < (y : Int)) ∨ (low : Int) = (y : Int) := by omega
        go_wp2_with fail
        refine ⟨⟨i + 1, low, by omega, by rw [HL.out]; omega, by simp, rfl, by rw [tk.out]; simp [H3.out], fun z hz => ?_, rfl⟩, by simp [intOf]; omega⟩
        rw [tk.out, List.mem_append, List.mem_singleton] at hz
        rcases hz with hz | rfl
        · exact H4.out z hz
        · exact q
      · have q1 : (y : Int) < (low : Int) := by omega
        go_wp2_with fail
        refine ⟨⟨i + 1, y, by omega, by rw [HL.out]; omega, by simp, rfl, by rw [tk.out]; simp, fun z hz => ?_, rfl⟩, by simp [intOf]; omega⟩
        rw [tk.out, List.mem_append, List.mem_singleton] at hz
        rcases hz with hz | rfl
        · have := H4.out z hz; omega
        · exact Nat.le_refl _
    · obtain rfl : i = n := by omega
      go_wp2_with fail
      go_ret
      have e : l.take l.length = l := List.take_length
      rw [← HL.out, e] at H3 H4
      exact ⟨⟨low, rfl, H3.out, H4.out⟩, rfl⟩

theorem backward_any (v : Value) (w : World) (hv : ∃ A n c, v = .slice A n c) : Calls Try.prog 100 #[v] w fun e w' =>
    e = .returned (.func (.func 129) #[] #[.pointer (some ⟨w.heap.size, 0, none⟩)]) ∧ w' = w.alloc (.cells #[v] 32) := by
  obtain ⟨A, n, c, rfl⟩ := hv
  go_enter Try.func100, Try.ntmps100
  go_wp2_with fail
  go_ret
  exact ⟨rfl, rfl⟩
/-- A list from behind, with places. -/
def revP (D : List Nat) : List (Nat × Nat) := ((List.range D.length).map fun i => (i, D.getD i 0)).reverse
theorem revP_length (D : List Nat) : (revP D).length = D.length := by simp [revP]
theorem revP_at (D : List Nat) (j : Nat) (h : j < (revP D).length) : (revP D)[j] = (D.length - 1 - j, D.getD (D.length - 1 - j) 0) := by
  simp [revP]
abbrev encB (x : Nat × Nat) : Array Value := #[.int .i64 (x.1 : Int), .int .i64 (x.2 : Int)]
/-- Between two rounds. -/
def BackAt (J : List (Nat × Nat) → World → Prop) (D : List Nat) (b1 g : Nat) (v : Value) (cur : Array Value) (s : Value) (wr : World) : Prop :=
  ∃ j : Nat, j ≤ D.length ∧ s = .int .i64 ((j : Int) - 1) ∧ J ((revP D).take (D.length - j)) wr ∧ Blk wr b1 32 #[v] ∧ Blk wr g 3 cur

set_option maxHeartbeats 4000000 in
theorem back_seq (n l b1 g cap : Nat) (D : List Nat) (t : Nat) (ht : D.length = t) (t9 : t ≤ 1000) (cur : Array Value) (p : Nat → Prop) (J : List (Nat × Nat) → World → Prop) (W : World)
    (hJ : ∀ pre A A', J pre A → Below A.heap.size A A' → J pre A') (hp1 : p b1) (hp2 : p g)
    (hY : ∀ pre x A, J pre A → pre ++ [x] <+: revP D → YieldAt Fence.wide (n - 1) Try.prog l (encB x) A fun e A' => e = .returned (.bool true) ∧ Stay p A A' ∧ J (pre ++ [x]) A')
    (h0 : J [] W) (hb1 : Blk W b1 32 #[.slice (some ⟨g, 0, none⟩) t cap]) (hb2 : Blk W g 3 cur) (hc : ∀ i (h : i < D.length), cur[i]? = some (.int .i64 (D[i] : Int))) :
    CallsIn Fence.wide n Try.prog 129 #[.func (.yield l) #[] #[], .pointer (some ⟨b1, 0, none⟩)] W fun e W' => (∃ v, e = .returned v) ∧ J (revP D) W' := by
  have x1 := hb1.cell 0
  have x3 := hb1.lt
  simp at x1
  have HJ := Lib.hid hJ
  have HY := Lib.hid hY
  have HC := Lib.hid hc
  have HT := Lib.hid ht
  have B1 := Lib.hid hb1
  have B2 := Lib.hid hb2
  have J0 := Lib.hid h0
  clear hJ hY hc ht hb1 hb2 h0
  refine callsIn_of_wp Try.func129 rfl trivial ?_ rfl
  simp only [Try.ntmps129, List.size_toArray, List.length_cons, List.length_nil, Nat.reduceAdd, Nat.reduceSub, Array.replicate_succ, Array.replicate_zero, List.push_toArray, List.append_toArray, List.nil_append, List.cons_append]
  gi_wp2
  gi_loopw [3] (fun s wr => BackAt J D b1 g (.slice (some ⟨g, 0, none⟩) t cap) cur s wr) (fun s _ => (intOf s + 1).toNat)
  case atStart => exact ⟨t, by rw [HT.out]; exact Nat.le_refl _, by first | rfl | (simp; done), by rw [HT.out, Nat.sub_self]; exact J0.out, B1.out, B2.out⟩
  case round =>
    obtain ⟨j, hj, rfl, hj1, hb1, hb2⟩ := hrel
    rw [HT.out] at hj
    have y1 := hb1.cell 0
    have y2 := hb1.lt
    simp at y1
    have C1 := Lib.hid hb1
    have C2 := Lib.hid hb2
    have JW := Lib.hid hj1
    clear hj1 x1 x3
    by_cases hlt : 0 < j
    · obtain ⟨i, rfl⟩ : ∃ i, j = i + 1 := ⟨j - 1, by omega⟩
      obtain ⟨x, hx⟩ : ∃ x, x = D[i]'(by rw [HT.out]; omega) := ⟨_, rfl⟩
      have z0 := (hb2.cell i).trans (HC.out i (by rw [HT.out]; omega))
      rw [← hx] at z0
      have z1 := hb2.lt
      have XJ : (revP D).take (D.length - (i + 1)) ++ [(i, x)] = (revP D).take (D.length - i) := by
        have hl : D.length - (i + 1) < (revP D).length := by rw [revP_length, HT.out]; omega
        have e : D.length - i = D.length - (i + 1) + 1 := by have := HT.out; omega
        rw [e, List.take_succ_eq_append_getElem hl, revP_at D _ hl]
        have e2 : D.length - 1 - (D.length - (i + 1)) = i := by have := HT.out; omega
        rw [e2, List.getD_eq_getElem?_getD, List.getElem?_eq_getElem (by rw [HT.out]; omega), hx]
        rfl
      obtain ⟨fn, tmps, assign, body, hyy, hRd⟩ := HY.out _ (i, x) wr JW.out (by rw [XJ]; exact List.take_prefix _ _)
      have XE := Lib.hid XJ
      have i0 : (0 : Int) ≤ (i : Int) := by omega
      have i1 : (i : Int) < (t : Int) := by omega
      have i2 : ((i + 1 : Nat) : Int) - 1 = (i : Int) := by omega
      rw [i2]
      clear hb1 hb2 hx XJ hj hlt i2
      gi_wp2
      refine ⟨fun h => absurd h (by simp [Fence.wide]), hRd.mono ?_⟩
      rintro e W3 ⟨rfl, hs, hj3⟩
      rw [XE.out] at hj3
      clear hyy hRd
      gi_wp2
      refine ⟨⟨i, by rw [HT.out]; omega, by first | rfl | (simp; done), hj3, hs.blk hp1 C1.out, hs.blk hp2 C2.out⟩, by simp [intOf]; try omega⟩
    · obtain rfl : j = 0 := by omega
      clear hb1 hb2
      have i2 : ((0 : Nat) : Int) - 1 = -1 := by omega
      rw [i2]
      gi_wp2
      refine bodyPost_end (results_none rfl _ _ _) rfl ⟨⟨_, rfl⟩, ?_⟩
      have e := JW.out
      rw [List.take_of_length_le (by rw [revP_length, Nat.sub_zero]; exact Nat.le_refl _)] at e
      exact e

theorem back_seq0 (n l b1 c : Nat) (A : Option Addr) (J : List (Nat × Nat) → World → Prop) (W : World) (h0 : J [] W) (hb1 : Blk W b1 32 #[.slice A 0 c]) :
    CallsIn Fence.wide n Try.prog 129 #[.func (.yield l) #[] #[], .pointer (some ⟨b1, 0, none⟩)] W fun e W' => (∃ v, e = .returned v) ∧ J [] W' := by
  have x1 := hb1.cell 0
  have x3 := hb1.lt
  simp at x1
  have J0 := Lib.hid h0
  clear hb1 h0
  refine callsIn_of_wp Try.func129 rfl trivial ?_ rfl
  simp only [Try.ntmps129, List.size_toArray, List.length_cons, List.length_nil, Nat.reduceAdd, Nat.reduceSub, Array.replicate_succ, Array.replicate_zero, List.push_toArray, List.append_toArray, List.nil_append, List.cons_append]
  gi_wp2
  gi_loopw [3] (fun s wr => s = .int .i64 (-1) ∧ wr = W) (fun s _ => 0)
  case atStart => exact ⟨rfl, rfl⟩
  case round =>
    obtain ⟨rfl, rfl⟩ := hrel
    gi_wp2
    exact bodyPost_end (results_none rfl _ _ _) rfl ⟨⟨_, rfl⟩, J0.out⟩
end Go.Proofs.Ytajckihgfelbaaa.Rch
/- What the landed layer 6 does: who comes to one another. -/
namespace Go.Proofs.Ytajckihgfelbaaa.Rch
open Go.RowKit Go.Shelf Go.Proofs.Ytajckihgfelbaaa.Inst Go.Proofs.Ytajckihgfelbaaa.Adj
set_option maxRecDepth 100000

theorem zeros_eq (n : Nat) : madeCells #[Value.int .i64 0] n = (natV (List.replicate n 0)).toArray := by
  apply Array.ext'
  rw [toList_madeCells_one]
  simp [natV, numV]
theorem make_zeros (n : Nat) (_ : n ≤ 1000) (W : World) : (Instr.makeSlice 32 (.int .i64 (n : Int)) (.int .i64 (n : Int))).run Try.prog W = .ok (.slice (some ⟨W.heap.size, 0, none⟩) n n) (W.alloc (.cells (natV (List.replicate n 0)).toArray 3)) := by
  obtain ⟨i0, hi0, hz0, hz1, hz2⟩ := info_parts info_int
  have h := run_make (P := Try.prog) W 32 3 i0 (.int .i64 0) Try.underlying32 hi0 hz0 .i64 .i64 (n : Int) (n : Int) (by omega) (by omega) (by rw [hz2]; omega) (by omega)
  rw [h, hz1, Int.toNat_natCast, Nat.mul_one]
  congr 3
  exact zeros_eq n

/-- Between two rounds of strong: those of pre are done. -/
def StrongAt (I : InstD) (D : List Nat) (n Fs M c5 : Nat) (lb : Array Value) (W0 : World) (pre : List (Nat × Nat)) (A : World) : Prop :=
  ∃ met fst, StrongIs I (D.drop (D.length - pre.length)) met fst ∧ Blk A Fs 3 (natV fst).toArray ∧ Blk A (Fs + 1) 32 #[.slice (some ⟨Fs, 0, none⟩) n n] ∧ Blk A M 4 (boolV met).toArray ∧ Blk A (M + 1) 68 #[.slice (some ⟨M, 0, none⟩) n n] ∧
    Blk A c5 100 #[.func (.func 95) #[] lb] ∧ Kp (fun k => k = M ∨ k = Fs) W0 A
theorem StrongAt.later {I : InstD} {D : List Nat} {n Fs M c5 : Nat} {lb : Array Value} {W0 : World} {pre : List (Nat × Nat)} {A A' : World} (h : StrongAt I D n Fs M c5 lb W0 pre A) (hb : Below A.heap.size A A') : StrongAt I D n Fs M c5 lb W0 pre A' := by
  obtain ⟨met, fst, h1, h2, h3, h4, h5, h6, h7⟩ := h
  exact ⟨met, fst, h1, h2.below hb h2.lt, h3.below hb h3.lt, h4.below hb h4.lt, h5.below hb h5.lt, h6.below hb h6.lt, h7.trans (Kp.of hb (Nat.le_refl _))⟩
theorem StrongAt.put {I : InstD} {D : List Nat} {n Fs M c5 : Nat} {lb : Array Value} {W0 : World} {pre : List (Nat × Nat)} {A : World} (h : StrongAt I D n Fs M c5 lb W0 pre A) {k : Nat} {o : Obj} (o' : Obj) (hk : A.heap[k]? = some o) (ho : o.isCells = false) (hB : W0.heap.size ≤ k) : StrongAt I D n Fs M c5 lb W0 pre (A.putObj k o') := by
  obtain ⟨met, fst, h1, h2, h3, h4, h5, h6, h7⟩ := h
  refine ⟨met, fst, h1, Blk.putObj h2 o' hk ho, Blk.putObj h3 o' hk ho, Blk.putObj h4 o' hk ho, Blk.putObj h5 o' hk ho, Blk.putObj h6 o' hk ho, ?_⟩
  exact ⟨h7.os, h7.tape, h7.output, by simp [World.putObj]; exact h7.size, fun j hj hp => (World.putObj_heap_other (by omega)).trans (h7.block j hj hp)⟩
theorem kp_stay {p : Nat → Prop} {A B : World} (h : Kp p A B) : Stay (fun k => ¬ p k) A B := ⟨h.size, fun k _ hp hk _ => (h.block k (Array.getElem?_eq_some_iff.1 hk).1 hp).trans hk⟩
theorem kp_keeps {p : Nat → Prop} {A B : World} {m : Nat} (h : Kp p A B) (hp : ∀ k, p k → k < m) : KeepsFrom m A B := ⟨h.size, fun k _ hk hh _ => (h.block k (Array.getElem?_eq_some_iff.1 hh).1 (fun q => by have := hp k q; omega)).trans hh⟩

theorem rev_next {D : List Nat} {pre : List (Nat × Nat)} {x : Nat × Nat} (h : pre ++ [x] <+: revP D) : pre.length < D.length ∧ D = D.take (D.length - (pre.length + 1)) ++ x.2 :: D.drop (D.length - pre.length) ∧ D.drop (D.length - (pre.length + 1)) = x.2 :: D.drop (D.length - pre.length) := by
  obtain ⟨r, hr⟩ := h
  have hl := congrArg List.length hr
  rw [revP_length] at hl
  simp at hl
  have h1 : pre.length < D.length := by omega
  have e : x = (revP D)[pre.length]'(by rw [revP_length]; exact h1) := by
    have : (revP D)[pre.length]? = some x := by rw [← hr]; simp
    rw [List.getElem?_eq_getElem (by rw [revP_length]; exact h1)] at this
    simpa using this.symm
  rw [revP_at] at e
  have e2 : D.length - (pre.length + 1) = D.length - 1 - pre.length := by omega
  have e3 : D.length - pre.length = D.length - 1 - pre.length + 1 := by omega
  have e4 : D.drop (D.length - (pre.length + 1)) = x.2 :: D.drop (D.length - pre.length) := by
    rw [e2, e3, List.drop_eq_getElem_cons (by omega), e]
    simp only
    congr 1
    rw [List.getD_eq_getElem?_getD, List.getElem?_eq_getElem (by omega)]
    rfl
  refine ⟨h1, ?_, e4⟩
  rw [← e4, List.take_append_drop]
/-- At the head of the loop that gives a group its number. -/
def SetRel (Fs : Nat) (A2 : World) (fst : List Nat) (low : Nat) (fr : List Nat) (s38 : Value) (u : World) : Prop :=
  ∃ k : Nat, k ≤ fr.length ∧ s38 = .int .i64 (k : Int) ∧ Blk u Fs 3 (natV (setAll fst low (fr.take k))).toArray ∧ Kp (fun j => j = Fs) A2 u
theorem natV_setA (N : List Nat) (i x : Nat) : (natV N).toArray.setIfInBounds i (.int .i64 (x : Int)) = (natV (N.set i x)).toArray := by
  unfold natV numV
  rw [List.setIfInBounds_toArray, List.map_set, List.map_set]

set_option maxHeartbeats 8000000 in
theorem strong_in (b : Nat) (I : InstD) (n : Nat) (hn : I.sup.length = n) (w : World) (h : GrX w b I) : CallsIn Fence.wide 8 Try.prog 75 #[.pointer (some ⟨b, 0, none⟩)] w (TellsNats (strongL I) w) := by
  have n9 : n ≤ 1000 := by rw [← hn]; exact (grx_bd h).1
  have MK := fun W => make_bools n n9 W
  have MZ := fun W => make_zeros n n9 W
  have ND := Lib.hid (nodes_v _ I n hn w (grx_v h).half)
  have HN := Lib.hid hn
  have G := Lib.hid h
  clear hn h
  refine callsIn_of_wp_marks Try.func75 rfl trivial ?_ rfl
  simp only [Try.ntmps75, List.size_toArray, List.length_cons, List.length_nil, Nat.reduceAdd, Nat.reduceSub, Array.replicate_succ, Array.replicate_zero, List.push_toArray, List.append_toArray, List.nil_append, List.cons_append]
  gi_wp2_with (fail)
  refine ⟨trivial, ?_⟩
  refine (callsIn_wide.2 ND.out).mono ?_
  rintro e w1 ⟨rfl, hb⟩
  have B1 := Lib.hid hb
  obtain ⟨Fs, hFs⟩ : ∃ Fs, Fs = w1.heap.size := ⟨_, rfl⟩
  obtain ⟨W2, hW2⟩ : ∃ W2, W2 = (w1.alloc (.cells (natV (List.replicate n 0)).toArray 3)).alloc (.cells #[.slice (some ⟨w1.heap.size, 0, none⟩) n n] 32) := ⟨_, rfl⟩
  have B2 := Lib.hid (show Below w.heap.size w W2 by rw [hW2]; exact chain2 hb (((Below.refl _ _).alloc (Nat.le_refl _) _).alloc (by simp) _))
  have F2 := Lib.hid (show Blk W2 Fs 3 (natV (List.replicate n 0)).toArray by rw [hW2, hFs]; exact (Blk.new _ _ _).alloc _)
  have C2 := Lib.hid (show Blk W2 (Fs + 1) 32 #[.slice (some ⟨Fs, 0, none⟩) n n] by rw [hW2, hFs]; exact blk_at (by simp) _ _)
  have FG := Lib.hid (show w.heap.size ≤ Fs by rw [hFs]; exact hb.size)
  have HW2 := Lib.hid hW2
  have ND2 := Lib.hid (nodes_v _ I n HN.out W2 (grx_v (G.out.later B2.out)).half)
  clear hb hW2
  gi_wp2_with (fail)
  rw [← HW2.out]
  refine ⟨trivial, ?_⟩
  refine (callsIn_wide.2 ND2.out).mono ?_
  rintro e w3 ⟨rfl, hb⟩
  rw [← hFs]
  obtain ⟨M, hM⟩ : ∃ M, M = w3.heap.size := ⟨_, rfl⟩
  obtain ⟨W4, hW4⟩ : ∃ W4, W4 = (w3.alloc (.cells (boolV (List.replicate n false)).toArray 4)).alloc (.cells #[.slice (some ⟨w3.heap.size, 0, none⟩) n n] 68) := ⟨_, rfl⟩
  have B23 := Lib.hid hb
  have B34 := Lib.hid (show Below W2.heap.size W2 W4 by rw [hW4]; exact chain2 hb (((Below.refl _ _).alloc (Nat.le_refl _) _).alloc (by simp) _))
  have M4 := Lib.hid (show Blk W4 M 4 (boolV (List.replicate n false)).toArray by rw [hW4, hM]; exact (Blk.new _ _ _).alloc _)
  have D4 := Lib.hid (show Blk W4 (M + 1) 68 #[.slice (some ⟨M, 0, none⟩) n n] by rw [hW4, hM]; exact blk_at (by simp) _ _)
  have MG := Lib.hid (show w.heap.size ≤ M by rw [hM]; have := B2.out.size; have := hb.size; omega)
  have HW4 := Lib.hid hW4
  have BW4 := Lib.hid (chain2 B2.out B34.out)
  have AL := Lib.hid (along_any b 70 W4)
  have X := Lib.hid (next_in I b w W4 G.out BW4.out)
  clear hb hW4 hFs
  gi_wp2_with (fail)
  rw [← HW4.out]
  refine ⟨trivial, ?_⟩
  refine (callsIn_wide.2 AL.out).mono ?_
  rintro e w5 ⟨rfl, hw5⟩
  rw [← hM]
  have B5 := Lib.hid (show Below W4.heap.size W4 w5 by rw [hw5]; exact alongW_below _ _ _)
  rw [← hw5] at X
  obtain ⟨W6, hW6⟩ : ∃ W6, W6 = w5.alloc (.cells #[.func (.func 95) #[] (alongB W4)] 100) := ⟨_, rfl⟩
  have B6 := Lib.hid (show Below w5.heap.size w5 W6 by rw [hW6]; exact (Below.refl _ _).alloc (Nat.le_refl _) _)
  have E6 := Lib.hid (show Blk W6 w5.heap.size 100 #[.func (.func 95) #[] (alongB W4)] by rw [hW6]; exact Blk.new _ _ _)
  have X6 := Lib.hid (X.out.later (q := fun k => k = M ∨ k = Fs) (Kp.of B6.out (Nat.le_refl _)) (fun k hk e => by
    have q3 := M4.out.lt
    have q4 := F2.out.lt
    have q5 := B34.out.size
    have q6 := FG.out
    have q7 := MG.out
    rcases e with e | e <;> subst e <;> exact ⟨by omega, by omega⟩))
  have BW6 := Lib.hid (chain2 (chain2 BW4.out B5.out) B6.out)
  have EN := Lib.hid (ended_any b I n HN.out W6 (G.out.later BW6.out))
  have HW6 := Lib.hid hW6
  clear hw5 hW6 hM
  gi_wp2_with (fail)
  rw [← HW6.out]
  refine ⟨trivial, ?_⟩
  refine (callsIn_wide.2 EN.out).mono ?_
  rintro e w7 ⟨A, cap, D, rfl, ho, hE, hb⟩
  have BK := Lib.hid (backward_any (.slice A D.length cap) w7 ⟨_, _, _, rfl⟩)
  have RO := Lib.hid ho
  have EE := Lib.hid hE
  have B67 := Lib.hid hb
  have DL := Lib.hid (show D.length = n by rw [hE.length]; exact HN.out)
  clear ho hE hb
  gi_wp2_with (fail)
  refine ⟨trivial, ?_⟩
  refine (callsIn_wide.2 BK.out).mono ?_
  rintro e w8 ⟨rfl, hw8⟩
  have B78 := Lib.hid (show Below w7.heap.size w7 w8 by rw [hw8]; exact (Below.refl _ _).alloc (Nat.le_refl _) _)
  have K8 := Lib.hid (show Blk w8 w7.heap.size 32 #[.slice A D.length cap] by rw [hw8]; exact Blk.new _ _ _)
  have s8 : w8.heap.size = w7.heap.size + 1 := by rw [hw8]; simp
  clear hw8
  obtain ⟨lb, hlb⟩ : ∃ lb, lb = alongB W4 := ⟨_, rfl⟩
  obtain ⟨c5, hc5⟩ : ∃ c5, c5 = w5.heap.size := ⟨_, rfl⟩
  obtain ⟨b1, hb1⟩ : ∃ b1, b1 = w7.heap.size := ⟨_, rfl⟩
  have B68 := Lib.hid (chain2 B67.out B78.out)
  have B28 := Lib.hid (chain2 (chain2 (chain2 B34.out B5.out) B6.out) B68.out)
  have B48 := Lib.hid (chain2 (chain2 B5.out B6.out) B68.out)
  have X8 := Lib.hid (X6.out.later (Kp.of B68.out (Nat.le_refl _)) (fun k hk e => e))
  have F8 := Lib.hid (F2.out.below B28.out F2.out.lt)
  have C8 := Lib.hid (C2.out.below B28.out C2.out.lt)
  have M8 := Lib.hid (M4.out.below B48.out M4.out.lt)
  have D8 := Lib.hid (D4.out.below B48.out D4.out.lt)
  have E8 := Lib.hid (E6.out.below B68.out E6.out.lt)
  have BW8 := Lib.hid (chain2 BW6.out B68.out)
  have R8 := Lib.hid (own_later RO.out B78.out)
  have FL := Lib.hid (show Fs < W6.heap.size by have := F2.out.lt; have := B34.out.size; have := B5.out.size; have := B6.out.size; omega)
  rw [← hlb] at X8 E8 ⊢
  rw [← hc5] at E8 ⊢
  rw [← hb1] at K8 ⊢
  rw [DL.out] at K8 ⊢
  clear hlb hc5 s8 ND ND2 HW2 HW4 HW6 AL X EN BK B1 B2 B23 B34 B5 B6 B67 B78 F2 C2 M4 D4 E6 X6 BW4 BW6 RO MK MZ B28 B48 hb1 B68
  gi_wp2_with (fail)
  refine range_rounds (n := 8) (by omega) (gf := 129) (lb := #[.pointer (some ⟨b1, 0, none⟩)]) rfl (enters_of Try.func129 (by kernel_rfl) rfl) encB (fun _ => rfl) (revP D) (fun k => ¬ (k = M ∨ k = Fs)) (StrongAt I D n Fs M c5 lb w8)
    (fun pre A A' h hb => h.later hb) (fun pre A k o o' hB hk ho h => h.put o' hk ho hB) ?start ?iter
    (fun x a1 _ => a1 = { tmps := #[.pointer (some ⟨b, 0, none⟩), undef, .slice none 0 0, .pointer (some ⟨Fs + 1, 0, none⟩), .pointer (some ⟨M + 1, 0, none⟩), .pointer (some ⟨c5, 0, none⟩), undef, .int .i64 (x.2 : Int), undef, undef, undef, undef, .pointer (some ⟨b, 0, none⟩), .int .i64 (n : Int), .slice (some ⟨Fs, 0, none⟩) n n, .pointer (some ⟨b, 0, none⟩), .int .i64 (n : Int), .slice (some ⟨M, 0, none⟩) n n, .pointer (some ⟨b, 0, none⟩), .pointer (some ⟨b, 0, none⟩), .func (.func 70) #[.pointer (some ⟨b, 0, none⟩)] #[], .func (.func 95) #[] lb, .pointer (some ⟨b, 0, none⟩), .slice A n cap, .func (.func 129) #[] #[.pointer (some ⟨b1, 0, none⟩)], .int .i64 (x.1 : Int), .int .i64 (x.2 : Int), undef, undef, undef, undef, undef, undef, undef, undef, undef, undef, undef, undef, undef, undef, undef, undef, undef, undef, undef, undef, undef], defers := [] })
    (fun x a1 A k o o' _ hk ho h => h) ?assign ?body ?done
  case start =>
    refine ⟨_, _, ?_, F8.out, C8.out, M8.out, D8.out, E8.out, Kp.refl _ _⟩
    have := StrongIs.new I
    rw [HN.out] at this
    simpa using this
  case iter =>
    intro l J W hbW hJ hY hj
    have KW := K8.out.below hbW K8.out.lt
    have ne1 : ¬ (b1 = M ∨ b1 = Fs) := by
      rintro (e | e)
      · exact blk_other K8.out M8.out (by decide) e
      · exact blk_other K8.out F8.out (by decide) e
    rcases R8.out.2 with ⟨q1, q2⟩ | ⟨g, cc, cur, q1, q2, q3, q4, q5, q6, q7⟩
    · have dn : D = [] := List.length_eq_zero_iff.1 q2
      subst dn
      have n0 : n = 0 := by rw [← DL.out]; rfl
      subst n0
      exact back_seq0 _ l b1 cap A J W hj KW
    · cases q1
      have ne2 : ¬ (g = M ∨ g = Fs) := by
        rintro (e | e)
        · exact blk_other (show Blk w8 g 3 cur from q3) M8.out (by decide) e
        · have := FL.out; omega
      refine back_seq _ l b1 g cap D n DL.out n9 cur _ J W hJ ne1 ne2 hY hj KW ((show Blk w8 g 3 cur from q3).below hbW (show Blk w8 g 3 cur from q3).lt) (fun i hi => ?_)
      have e : (cur.toList.take (D.length * 1))[i]? = (natV D)[i]? := by rw [q7]
      rw [List.getElem?_take_of_lt (by omega)] at e
      simp at e
      rw [e]
      simp [natV, numV, hi]
  case assign =>
    rintro l pre ⟨xi, x⟩ W K _ _ hK
    gi_wp2_with (rw [Oper.semAt_eq _ _ _ (fun c h => by cases h)]; go_simp; try go_bits)
    exact hK _ _ rfl (Below.refl _ _)
  case body =>
    rintro l pre ⟨xi, x⟩ a1 A1 ⟨met, fst, h1, h2, h3, h4, h5, h6, h7⟩ rfl hpre hsz
    obtain ⟨p1, p2, p3⟩ := rev_next hpre
    have xN : x < I.sup.length := EE.out.lt x (by rw [p2]; simp)
    have SP := Lib.hid (spread_any (met0 := met) x xN (by rw [HN.out]; exact n9) h1.len A1 h4 (X8.out.later h7 (fun k hk e => .inl e)))
    rw [HN.out] at SP
    have x3 := h3.cell 0
    have x4 := h3.lt
    have x5 := h5.cell 0
    have x6 := h5.lt
    have x7 := h6.cell 0
    have x8 := h6.lt
    simp at x3 x5 x7
    have H1 := Lib.hid h1
    have P3 := Lib.hid p3
    have P2 := Lib.hid p2
    have HB := Lib.hid (And.intro h2 (And.intro h3 (And.intro h4 (And.intro h5 h6))))
    have HK := Lib.hid h7
    clear h1 h2 h3 h4 h5 h6 h7 p2 p3 hpre
    gi_wp2_with (rw [Oper.semAt_eq _ _ _ (fun c h => by cases h)]; go_simp; try go_bits)
    refine ⟨trivial, (CallsIn.inRound l (callsIn_wide.2 SP.out)).mono ?_⟩
    rintro e A2 ⟨RA, rc, met', fr, rfl, ho, hb, hs, hk⟩
    have SO := Lib.hid ho
    have SB := Lib.hid hb
    have SI := Lib.hid hs
    have SK := Lib.hid hk
    have OV := hs.over H1.out.closed
    have GP := H1.out.group EE.out P2.out OV.1 OV.2 (by rw [HN.out]; exact hs.len)
    have G1 := Lib.hid GP.1
    have G2 := Lib.hid GP.2.1
    have G3 := Lib.hid GP.2.2
    have V1 := Lib.hid OV.1
    have V2 := Lib.hid OV.2
    have ML := Lib.hid (show met'.length = I.sup.length by rw [HN.out]; exact hs.len)
    have f9 := hs.lt
    have FM := Lib.hid (show ∀ m ∈ fr, m < n from fun m hm => by rw [← hs.len]; exact onB_lt ((hs.is m).2 (.inr hm)))
    have neM : Fs + 1 ≠ M := blk_other HB.out.2.1 HB.out.2.2.1 (by decide)
    have neF : Fs ≠ M := blk_other HB.out.1 HB.out.2.2.1 (by decide)
    have ne5 : c5 ≠ M := blk_other HB.out.2.2.2.2 HB.out.2.2.1 (by decide)
    have ne4 : M + 1 ≠ M := by omega
    have Fs2 := Lib.hid (hk.blk HB.out.1 neF)
    have Fb2 := Lib.hid (hk.blk HB.out.2.1 neM)
    have Mb2 := Lib.hid (hk.blk HB.out.2.2.2.1 ne4)
    have Cb2 := Lib.hid (hk.blk HB.out.2.2.2.2 ne5)
    have FlA := HB.out.1.lt
    have MlA := HB.out.2.2.1.lt
    have FL8 := Lib.hid (show Fs < w8.heap.size from F8.out.lt)
    have ML8 := Lib.hid (show M < w8.heap.size from M8.out.lt)
    have PD := Lib.hid (show D.drop (D.length - (pre ++ [(xi, x)]).length) = x :: D.drop (D.length - pre.length) by rw [List.length_append, List.length_singleton]; exact P3.out)
    obtain ⟨t, ht⟩ : ∃ t, fr.length = t := ⟨_, rfl⟩
    have HT := Lib.hid ht
    clear ho hb hs hk OV GP x3 x4 x5 x6 x7 x8 SP
    dsimp only
    rw [ht]
    rw [ht] at f9
    clear ht
    by_cases t0 : t = 0
    · subst t0
      have fn : fr = [] := List.length_eq_zero_iff.1 HT.out
      have KA := Lib.hid (SK.out.mono (q := fun k => k = M ∨ k = Fs) (fun k _ e => .inl e))
      have SA : StrongAt I D n Fs M c5 lb w8 (pre ++ [(xi, x)]) A2 := ⟨met', fst, by rw [PD.out]; exact H1.out.skip ML.out G1.out (G2.out fn), Fs2.out, Fb2.out, SB.out, Mb2.out, Cb2.out, HK.out.trans KA.out⟩
      have FIN := Lib.hid (fun a => show roundOut w8.heap.size (fun k => ¬ (k = M ∨ k = Fs)) (StrongAt I D n Fs M c5 lb w8) (pre ++ [(xi, x)]) A1 .normal a A2 from ⟨kp_keeps KA.out (fun k e => by have := FL8.out; have := ML8.out; rcases e with e | e <;> omega), kp_stay KA.out, SA⟩)
      clear fn SA
      gi_wp2_with (rw [Oper.semAt_eq _ _ _ (fun c h => by cases h)]; go_simp; try go_bits)
      exact FIN.out _
    · have t1 : 0 < t := by omega
      have hcs := (own_cells SO.out)
      obtain ⟨-, A0, c0, ea, -, -, hcc⟩ := hcs
      cases ea
      have MN := Lib.hid (min_any fr t rc RA HT.out (by omega) t1 A2 hcc)
      obtain ⟨g, ea, lg, hcell, -⟩ := own_at SO.out (by rw [HT.out]; exact t1)
      have gge := own_ge SO.out g (by rw [ea]; rfl)
      have HC := Lib.hid (show ∀ i (hi : i < fr.length), A2.cell? ⟨g, i, none⟩ = some (.int .i64 (fr[i] : Int)) from fun i hi => by rw [hcell i (by rw [natV_length]; exact hi)]; simp [natV, numV])
      subst ea
      have t2 : ¬ ((t : Int) = 0) := by omega
      clear hcc hcell
      gi_wp2_with (rw [Oper.semAt_eq _ _ _ (fun c h => by cases h)]; go_simp; try go_bits)
      refine ⟨trivial, (CallsIn.inRound l (callsIn_wide.2 MN.out)).mono ?_⟩
      rintro e A3 ⟨⟨low, rfl, hlow, hle⟩, rfl⟩
      have LO := Lib.hid hlow
      have LE := Lib.hid hle
      clear hlow hle MN
      dsimp only
      gi_wp2_with (rw [Oper.semAt_eq _ _ _ (fun c h => by cases h)]; go_simp; try go_bits)
      gi_loopw [11, 38] (fun s11 s38 u => SetRel Fs A2 fst low fr s38 u) (fun _ s38 _ => t - (intOf s38).toNat)
      case atStart => exact ⟨0, Nat.zero_le _, rfl, by simpa [setAll] using Fs2.out, Kp.refl _ _⟩
      case round =>
        obtain ⟨k, hk, rfl, hb, hkp⟩ := hrel
        rw [HT.out] at hk
        have UB := Lib.hid hb
        have UK := Lib.hid hkp
        have gF : g ≠ Fs := by omega
        have ub := (hkp.blk Fb2.out (by show ¬ (Fs + 1 = Fs); omega))
        have x3 := ub.cell 0
        have x4 := ub.lt
        simp at x3
        by_cases hlt : k < t
        · have hkl : k < fr.length := by rw [HT.out]; exact hlt
          have c1 := (World.cell?_of_block (w := A2) (a := ⟨g, k, none⟩) (hkp.block g lg (by show ¬ (g = Fs); exact gF))).trans (HC.out k hkl)
          obtain ⟨m, hm⟩ : ∃ m, m = fr[k] := ⟨_, rfl⟩
          rw [← hm] at c1
          have mn : m < n := FM.out m (by rw [hm]; exact List.getElem_mem hkl)
          have tk := Lib.hid (show fr.take (k + 1) = fr.take k ++ [m] by rw [List.take_succ_eq_append_getElem hkl, hm])
          have sl : (setAll fst low (fr.take k)).length = n := by rw [setAll_length, H1.out.flen, HN.out]
          have y0 : wr.cell? ⟨Fs, m, none⟩ = some (.int .i64 (((setAll fst low (fr.take k)).getD m 0 : Nat) : Int)) := by
            rw [hb.cell m]
            simp [natV, numV, sl, mn]
          have y1 := hb.lt
          have y2 := hb.frozen m
          have k0 : (0 : Int) ≤ (k : Int) := by omega
          have k1 : (k : Int) < (t : Int) := by omega
          have m0 : (0 : Int) ≤ (m : Int) := by omega
          have m1 : (m : Int) < (n : Int) := by omega
          clear hb hkp hm sl ub
          gi_wp2_with (rw [Oper.semAt_eq _ _ _ (fun c h => by cases h)]; go_simp; try go_bits)
          refine ⟨⟨k + 1, by rw [HT.out]; omega, by simp, ?_, UK.out.trans ((Kp.refl _ _).set Fs m _ (fun _ => rfl))⟩, by simp [intOf]; omega⟩
          rw [tk.out, setAll_snoc, ← natV_setA]
          exact UB.out.set_ m _
        · obtain rfl : k = t := by omega
          rw [← HT.out, List.take_length] at UB
          have KA := Lib.hid ((SK.out.mono (q := fun k => k = M ∨ k = Fs) (fun k _ e => .inl e)).trans (UK.out.mono (q := fun k => k = M ∨ k = Fs) (fun k _ e => .inr e)))
          have neF2 : ∀ j, j ≠ Fs → ¬ (j = Fs) := fun j h => h
          have SA : StrongAt I D n Fs M c5 lb w8 (pre ++ [(xi, x)]) wr := ⟨met', setAll fst low fr, by rw [PD.out]; exact H1.out.step ML.out G1.out V1.out V2.out G3.out LO.out LE.out, UB.out, ub, UK.out.blk SB.out (fun e => neF e.symm), UK.out.blk Mb2.out (fun e => blk_other Mb2.out Fs2.out (by decide) e), UK.out.blk Cb2.out (fun e => blk_other Cb2.out Fs2.out (by decide) e), HK.out.trans KA.out⟩
          have FIN := Lib.hid (fun a => show roundOut w8.heap.size (fun k => ¬ (k = M ∨ k = Fs)) (StrongAt I D n Fs M c5 lb w8) (pre ++ [(xi, x)]) A1 .normal a wr from ⟨kp_keeps KA.out (fun k e => by have := FL8.out; have := ML8.out; rcases e with e | e <;> omega), kp_stay KA.out, SA⟩)
          clear SA hb hkp ub
          gi_wp2_with (rw [Oper.semAt_eq _ _ _ (fun c h => by cases h)]; go_simp; try go_bits)
          exact FIN.out _
  case done =>
    rintro D0 W hD ⟨met, fst, h1, h2, h3, h4, h5, h6, h7⟩ hd
    have x0 := h3.cell 0
    have x1 := h3.lt
    simp at x0
    gi_wp2
    refine ⟨by simp, .inl ⟨_, _, rfl, run_takeDeferred hd, ?_⟩⟩
    refine ⟨_, results_tmp rfl _ _ _, ?_⟩
    rw [revP_length, Nat.sub_self, List.drop_zero] at h1
    have e := h1.over EE.out
    subst e
    have hl : (strongL I).length = n := by rw [strongL_length]; exact HN.out
    have hp := Blk.putObj h2 (.deferred none) hd rfl
    refine ⟨some ⟨Fs, 0, none⟩, n, by rw [hl]; rfl, by rw [hl]; exact Nat.le_refl _, cells_blk hp, ?_, ?_⟩
    · exact below_put (BW8.out.trans (h7.below (fun k hk => by have := FG.out; have := MG.out; rcases hk with e | e <;> subst e <;> assumption) BW8.out.size)) _ (by have := BW8.out.size; omega)
    · refine ⟨by rw [natV_length, Nat.mul_one], .inr ⟨Fs, n, _, by rw [hl], FG.out, hp, by rw [hl]; exact Nat.le_refl _, by simp only [maxLen]; omega, by simp [natV_length, hl], by simp [List.take_of_length_le, natV_length]⟩⟩
end Go.Proofs.Ytajckihgfelbaaa.Rch
/- What the landed layer 6 does: Strong and Back. -/
namespace Go.Proofs.Ytajckihgfelbaaa.Rch
open Go.RowKit Go.Proofs.Ytajckihgfelbaaa.Inst Go.Proofs.Ytajckihgfelbaaa.Adj
set_option maxRecDepth 100000

theorem strong_any (b : Nat) (I : InstD) (n : Nat) (hn : I.sup.length = n) (w : World) (h : GrX w b I) : Calls Try.prog 75 #[.pointer (some ⟨b, 0, none⟩)] w (TellsNats (strongL I) w) := callsIn_wide.1 (strong_in b I n hn w h)
theorem nats_base {l : List Nat} {w w' : World} {e : Ending} {u : World} (h : TellsNats l w e w') (hb : Below u.heap.size u w) : TellsNats l u e w' := by
  obtain ⟨A, cap, e1, h0, h1, h2, h3⟩ := h
  exact ⟨A, cap, e1, h0, h1, chain2 hb h2, own_base h3 hb.size⟩
set_option maxHeartbeats 4000000 in
theorem Strong_any (A A2 : Option Addr) (c d n m : Nat) (I : InstD) (w : World) (h : Here w A A2 n m I) (h1 : n ≤ 1000) (h2 : m ≤ 1000) :
    Calls Try.prog 39 #[.agg #[.slice A n c, .slice A2 m d]] w (TellsNats (strongL I) w) := by
  obtain ⟨w0, hw0⟩ : ∃ w0, w0 = w.alloc (.cells #[.slice A n c, .slice A2 m d] 25) := ⟨_, rfl⟩
  have B0 := Lib.hid (show Below w.heap.size w w0 by rw [hw0]; exact (Below.refl _ _).alloc (Nat.le_refl _) _)
  have NW := Lib.hid (new_any A A2 c d n m I w0 (h.later B0.out) h1 h2)
  have HN := Lib.hid h.n
  have HW := Lib.hid hw0
  clear h hw0
  go_enter Try.func39, Try.ntmps39
  go_wp2_with fail
  rw [← HW.out]
  refine NW.out.mono ?_
  rintro e w2 ⟨b, rfl, hg, hb⟩
  have B2 := Lib.hid (chain2 B0.out hb)
  have ST := Lib.hid (strong_any b I n HN.out w2 hg)
  clear hg hb
  go_wp2_with fail
  refine ST.out.mono ?_
  rintro e w3 ht
  obtain ⟨RA, cap, rfl, h0, hc, hb, ho⟩ := nats_base ht B2.out
  have H0 := Lib.hid (And.intro h0 (And.intro hc (And.intro hb ho)))
  clear ht h0 hc hb ho
  go_wp2_with fail
  go_ret
  exact ⟨RA, cap, rfl, H0.out⟩

/-- At the head of Back's loop: as many arcs are told. -/
def BackRel (I : InstD) (w3 : World) (m : Nat) (s19 : Value) (u : World) : Prop :=
  ∃ k : Nat, k ≤ m ∧ s19 = .int .i64 (k : Int) ∧ Blk u w3.heap.size 4 (boolV ((backL I).take k ++ List.replicate (m - k) false)).toArray ∧ Kp noB w3 u
set_option maxHeartbeats 4000000 in
theorem Back_any (A A2 : Option Addr) (c d n m : Nat) (I : InstD) (w : World) (h : Here w A A2 n m I) (h1 : n ≤ 1000) (h2 : m ≤ 1000) :
    Calls Try.prog 41 #[.agg #[.slice A n c, .slice A2 m d]] w (TellsMarks (backL I) w) := by
  obtain ⟨w0, hw0⟩ : ∃ w0, w0 = w.alloc (.cells #[.slice A n c, .slice A2 m d] 25) := ⟨_, rfl⟩
  have B0 := Lib.hid (show Below w.heap.size w w0 by rw [hw0]; exact (Below.refl _ _).alloc (Nat.le_refl _) _)
  have BX := Lib.hid (show Blk w0 w.heap.size 25 #[.slice A n c, .slice A2 m d] by rw [hw0]; exact Blk.new _ _ _)
  have NW := Lib.hid (new_any A A2 c d n m I w0 (h.later B0.out) h1 h2)
  have MK := fun W => make_bools m h2 W
  have HN := Lib.hid h.n
  have HM := Lib.hid h.m
  have HW := Lib.hid hw0
  clear h hw0
  go_enter Try.func41, Try.ntmps41
  go_wp2_with fail
  rw [← HW.out]
  refine NW.out.mono ?_
  rintro e w2 ⟨b, rfl, hg, hb⟩
  have G := Lib.hid hg
  have B2 := Lib.hid hb
  have ST := Lib.hid (strong_any b I n HN.out w2 hg)
  clear hg hb
  go_wp2_with fail
  refine ST.out.mono ?_
  rintro e w3 ⟨RA, rc, rfl, -, hc, hb, -⟩
  rw [strongL_length, HN.out]
  have RC := Lib.hid hc
  have B3 := Lib.hid hb
  have B03 := Lib.hid (chain2 B2.out hb)
  have xb := BX.out.below B03.out BX.out.lt
  have x0 := xb.cell 1
  have x1 := xb.lt
  simp at x0
  clear hc hb xb
  go_wp2_with fail
  have BW3 := Lib.hid (chain2 B0.out B03.out)
  have BL := Lib.hid (show (backL I).length = m by rw [backL_length]; exact HM.out)
  go_loopw [6, 7, 8, 19] (fun s6 s7 s8 s19 u => BackRel I w3 m s19 u) (fun _ _ _ s19 _ => m - (intOf s19).toNat)
  case atStart => exact ⟨0, Nat.zero_le _, rfl, by simpa using Blk.new _ _ _, (Kp.refl _ _).alloc _⟩
  case round =>
    obtain ⟨k, hk, rfl, hb, hkp⟩ := hrel
    have UB := Lib.hid hb
    have UK := Lib.hid hkp
    by_cases hlt : k < m
    · have gu := Lib.hid (G.out.later (chain2 B3.out (hkp.below (fun _ e => e.elim) (Nat.le_refl _))))
      have AR := Lib.hid (fun x f hx hf => arc_v (some ⟨b, 0, none⟩) I (k : Int) (by unfold I64; omega) x f hx hf wr (grx_v gu.out).half)
      have rl : ((backL I).take k ++ List.replicate (m - k) false).length = m := by
        rw [List.length_append, List.length_take, List.length_replicate, BL.out]; omega
      have y1 := hb.lt
      have k0 : (0 : Int) ≤ (k : Int) := by omega
      have k1 : (k : Int) < (m : Int) := by omega
      have RR := Lib.hid (RC.out.later (Nat.le_refl _) (hkp.below (fun _ e => e.elim) (Nat.le_refl _)))
      have TK : (backL I).take (k + 1) = (backL I).take k ++ [yes (BackP I k)] := by
        rw [List.take_succ_eq_append_getElem (by rw [BL.out]; exact hlt)]
        simp [backL]
      have NX : ∀ v, yes (BackP I k) = v → ((backL I).take k ++ List.replicate (m - k) false).set k v = (backL I).take (k + 1) ++ List.replicate (m - (k + 1)) false := by
        intro v hv
        have hl : ((backL I).take k).length = k := by rw [List.length_take, BL.out]; omega
        have e : m - k = m - (k + 1) + 1 := by omega
        rw [TK, hv, e, List.replicate_succ, List.set_append_right _ _ (by rw [hl]; exact Nat.le_refl _), hl, Nat.sub_self]
        simp
      have HNX := Lib.hid NX
      clear hb hkp TK NX rl
      cases hf : fitD I (k : Int) with
      | true =>
        obtain ⟨p, q, hp, hq, pn, qn, -, -⟩ := fit_nats hf
        have AC := Lib.hid (AR.out _ true rfl hf)
        have ex : arcD I (k : Int) = arcAt I.arcs k := by unfold arcD; rw [if_pos hf]; rfl
        rw [ex] at AC
        have YS := Lib.hid (show yes (BackP I k) = decide (strongN I p = strongN I q) by rw [← yes_dec (p := strongN I p = strongN I q)]; exact yes_same (back_strong hf hp hq))
        obtain ⟨y, hy⟩ : ∃ y, y = arcAt I.arcs k := ⟨_, rfl⟩
        rw [← hy] at AC hp hq
        obtain ⟨y0, z0, y2, y3, y4⟩ := y
        simp only at hp hq
        subst hp hq
        rw [HN.out] at pn qn
        obtain ⟨rb, off, ea, rlt, rc2⟩ := nats_at RR.out (by rw [strongL_length, HN.out]; omega)
        subst ea
        have c1 := rc2 p (by rw [strongL_length, HN.out]; exact pn)
        have c2 := rc2 q (by rw [strongL_length, HN.out]; exact qn)
        simp only [strongL, List.getElem_map, List.getElem_range] at c1 c2
        have p0 : (0 : Int) ≤ (p : Int) := by omega
        have p1 : (p : Int) < (n : Int) := by omega
        have q0 : (0 : Int) ≤ (q : Int) := by omega
        have q1 : (q : Int) < (n : Int) := by omega
        clear rc2 hy hf ex
        go_wp2_with fail
        refine AC.out.mono ?_
        rintro e u1 ⟨rfl, hb⟩
        obtain ⟨u2, hu2⟩ : ∃ u2, u2 = u1.alloc (.cells #[.int .i64 (p : Int), .int .i64 (q : Int), .int .i64 y2, .int .i64 y3, .int .i64 y4] 36) := ⟨_, rfl⟩
        have BU := Lib.hid (show Below wr.heap.size wr u2 by rw [hu2]; exact hb.alloc hb.size _)
        have AB : Blk u2 u1.heap.size 36 #[.int .i64 (p : Int), .int .i64 (q : Int), .int .i64 y2, .int .i64 y3, .int .i64 y4] := by rw [hu2]; exact Blk.new _ _ _
        have a0 := AB.cell 0
        have a1 := AB.cell 1
        have a2 := AB.lt
        simp at a0 a1
        have d1 := (BU.out.cell (p := ⟨rb, off + p, none⟩) rlt).trans c1
        have d2 := (BU.out.cell (p := ⟨rb, off + q, none⟩) rlt).trans c2
        have d3 : rb < u2.heap.size := by have := BU.out.size; omega
        have UB2 := Lib.hid (UB.out.below BU.out UB.out.lt)
        have e1 := UB2.out.lt
        have e2 := UB2.out.frozen k
        have e3 : (u2.cell? ⟨w3.heap.size, k, none⟩).isSome = true := by
          rw [UB2.out.cell k]
          have : k < (boolV ((backL I).take k ++ List.replicate (m - k) false)).length := by rw [boolV_length, List.length_append, List.length_take, List.length_replicate, BL.out]; omega
          simp [this]
        obtain ⟨z, hz⟩ := Option.isSome_iff_exists.1 e3
        have HU := Lib.hid hu2
        clear hu2 hb c1 c2 e3 AB
        go_upto_region 8 with fail
        rw [← HU.out]
        obtain ⟨sp, hsp⟩ : ∃ sp, sp = strongN I p := ⟨_, rfl⟩
        obtain ⟨sq, hsq⟩ : ∃ sq, sq = strongN I q := ⟨_, rfl⟩
        rw [← hsp] at d1 YS
        rw [← hsq] at d2 YS
        clear hsp hsq
        have done : ∀ (v : Bool) (u3 : World), decide (sp = sq) = v → u3 = (u2.setCell ⟨w3.heap.size, k, none⟩ (.bool v)).drew → BackRel I w3 m (.int .i64 ((k : Int) + 1)) u3 := by
          rintro v u3 hv rfl
          refine ⟨k + 1, by omega, by simp, ?_, ((UK.out.trans (Kp.of BU.out (Nat.le_refl _))).set w3.heap.size k _ (fun h => absurd h (Nat.lt_irrefl _))).drew⟩
          rw [← HNX.out v (by rw [YS.out, hv]), ← boolV_set]
          exact (UB2.out.set_ k _).drew
        have DN := Lib.hid done
        clear done
        by_cases es : sp = sq
        · have t1 : ((sp : Int) == (sq : Int)) = true := by simp [es]
          have ES := Lib.hid es
          clear es
          go_region
          go_wp2_with fail
          exact ⟨DN.out true _ (decide_eq_true ES.out) rfl, by simp [intOf]; omega⟩
        · have t1 : ((sp : Int) == (sq : Int)) = false := by simp; omega
          have ES := Lib.hid es
          clear es
          go_region
          go_wp2_with fail
          exact ⟨DN.out false _ (decide_eq_false ES.out) rfl, by simp [intOf]; omega⟩
      | false =>
        have AC := Lib.hid (AR.out _ false rfl hf)
        have YS := Lib.hid (show yes (BackP I k) = false from yes_false (fun q => by rw [q.1] at hf; cases hf))
        obtain ⟨y, hy⟩ : ∃ y, y = arcD I (k : Int) := ⟨_, rfl⟩
        rw [← hy] at AC
        obtain ⟨y0, z0, y2, y3, y4⟩ := y
        clear hy hf
        go_wp2_with fail
        refine AC.out.mono ?_
        rintro e u1 ⟨rfl, hb⟩
        obtain ⟨u2, hu2⟩ : ∃ u2, u2 = u1.alloc (.cells #[.int .i64 y0, .int .i64 z0, .int .i64 y2, .int .i64 y3, .int .i64 y4] 36) := ⟨_, rfl⟩
        have BU := Lib.hid (show Below wr.heap.size wr u2 by rw [hu2]; exact hb.alloc hb.size _)
        have UB2 := Lib.hid (UB.out.below BU.out UB.out.lt)
        have e1 := UB2.out.lt
        have e2 := UB2.out.frozen k
        have e3 : (u2.cell? ⟨w3.heap.size, k, none⟩).isSome = true := by
          rw [UB2.out.cell k]
          have : k < (boolV ((backL I).take k ++ List.replicate (m - k) false)).length := by rw [boolV_length, List.length_append, List.length_take, List.length_replicate, BL.out]; omega
          simp [this]
        obtain ⟨z, hz⟩ := Option.isSome_iff_exists.1 e3
        have HU := Lib.hid hu2
        clear hu2 hb e3
        go_upto_region 8 with fail
        rw [← HU.out]
        have done : ∀ (u3 : World), u3 = (u2.setCell ⟨w3.heap.size, k, none⟩ (.bool false)).drew → BackRel I w3 m (.int .i64 ((k : Int) + 1)) u3 := by
          rintro u3 rfl
          refine ⟨k + 1, by omega, by simp, ?_, ((UK.out.trans (Kp.of BU.out (Nat.le_refl _))).set w3.heap.size k _ (fun h => absurd h (Nat.lt_irrefl _))).drew⟩
          rw [← HNX.out false YS.out, ← boolV_set]
          exact (UB2.out.set_ k _).drew
        have DN := Lib.hid done
        clear done
        go_region
        go_wp2_with fail
        exact ⟨DN.out _ rfl, by simp [intOf]; omega⟩
    · obtain rfl : k = m := by omega
      rw [Nat.sub_self, List.replicate_zero, List.append_nil, ← BL.out, List.take_length] at UB
      clear hb hkp
      go_wp2_with fail
      go_ret
      refine ⟨some ⟨w3.heap.size, 0, none⟩, (backL I).length, by rw [BL.out]; rfl, ⟨by rw [boolV_length]; omega, .inr ⟨w3.heap.size, _, _, rfl, BW3.out.size, UB.out, Nat.le_refl _, by rw [BL.out]; simp only [maxLen]; omega, by simp [boolV_length], by simp [List.take_of_length_le, boolV_length]⟩⟩, BW3.out.trans (UK.out.below (fun _ e => e.elim) BW3.out.size)⟩
end Go.Proofs.Ytajckihgfelbaaa.Rch
