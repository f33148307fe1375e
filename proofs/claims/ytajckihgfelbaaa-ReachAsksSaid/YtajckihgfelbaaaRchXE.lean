/- What the landed layer 6 does: the least first. -/
import Derived.Test.YtajckihgfelbaaaRchXD
import Derived.Test.YtajckihgfelbaaaRchMathX
namespace Go.Proofs.Ytajckihgfelbaaa.Rch
open Go.RowKit Go.Proofs.Ytajckihgfelbaaa.Inst Go.Proofs.Ytajckihgfelbaaa.Adj
set_option maxRecDepth 100000

theorem push_at (q : Addr) (w : World) : (method 291 102 (.pointer (some q)) "Push").run Try.prog w = .ok (161, .pointer (some q)) w := by kernel_rfl
theorem pop_at (q : Addr) (w : World) : (method 291 102 (.pointer (some q)) "Pop").run Try.prog w = .ok (170, .pointer (some q)) w := by kernel_rfl
theorem lput_at (q : Addr) (w : World) : (method 291 102 (.pointer (some q)) "quittance/reach.put").run Try.prog w = .ok (71, .pointer (some q)) w := by kernel_rfl
theorem ltake_at (q : Addr) (w : World) : (method 291 102 (.pointer (some q)) "quittance/reach.take").run Try.prog w = .ok (164, .pointer (some q)) w := by kernel_rfl
theorem len_to (b : Nat) (w : World) : (method 291 102 (.pointer (some ⟨b, 0, none⟩)) "Len").run Try.prog w = (load ⟨b, 0, none⟩ >>= fun v => pure (159, v) : Sem (FuncId × Value)).run Try.prog w := by kernel_rfl
theorem len_at (b : Nat) (v : Value) (w : World) (h : w.cell? ⟨b, 0, none⟩ = some v) : (method 291 102 (.pointer (some ⟨b, 0, none⟩)) "Len").run Try.prog w = .ok (159, v) w := by
  rw [len_to]
  simp [go_sem, h]
theorem less_to (b : Nat) (w : World) : (method 291 102 (.pointer (some ⟨b, 0, none⟩)) "Less").run Try.prog w = (load ⟨b, 0, none⟩ >>= fun v => pure (160, v) : Sem (FuncId × Value)).run Try.prog w := by kernel_rfl
theorem less_at (b : Nat) (v : Value) (w : World) (h : w.cell? ⟨b, 0, none⟩ = some v) : (method 291 102 (.pointer (some ⟨b, 0, none⟩)) "Less").run Try.prog w = .ok (160, v) w := by
  rw [less_to]
  simp [go_sem, h]
theorem swap_to (b : Nat) (w : World) : (method 291 102 (.pointer (some ⟨b, 0, none⟩)) "Swap").run Try.prog w = (load ⟨b, 0, none⟩ >>= fun v => pure (163, v) : Sem (FuncId × Value)).run Try.prog w := by kernel_rfl
theorem swap_at (b : Nat) (v : Value) (w : World) (h : w.cell? ⟨b, 0, none⟩ = some v) : (method 291 102 (.pointer (some ⟨b, 0, none⟩)) "Swap").run Try.prog w = .ok (163, v) w := by
  rw [swap_to]
  simp [go_sem, h]

end Go.Proofs.Ytajckihgfelbaaa.Rch
/- What the landed layer 6 does: a heap: of two the lesser one; two change places. -/
namespace Go.Proofs.Ytajckihgfelbaaa.Rch
open Go.RowKit Go.Proofs.Ytajckihgfelbaaa.Inst Go.Proofs.Ytajckihgfelbaaa.Adj
set_option maxRecDepth 100000

/-- Block b holds what is still to do. -/
abbrev LHeap (w : World) (b : Nat) (v : Value) (l : List Int) : Prop := Held w 105 b v l
/-- Its row alone is written. -/
def Own (v : Value) (w w' : World) : Prop := Kp (fun k => v.ownBlock = some k) w w'
theorem row_at {w : World} {t : TypeId} {b : Nat} {v : Value} {l : List Int} (h : Held w t b v l) {n : Nat} (hn : l.length = n) (h0 : 0 < n) : ∃ g c, v = .slice (some ⟨g, 0, none⟩) n c ∧ g < w.heap.size ∧ (∀ i, i < n → w.cell? ⟨g, i, none⟩ = some (.int .i64 (at' l i))) ∧ ∀ i, w.frozen? ⟨g, i, none⟩ = false := by
  subst hn
  have ho := h.own
  obtain ⟨-, A, c, rfl, -, -, -⟩ := own_cells ho
  obtain ⟨g, rfl, hg, hc, hf⟩ := own_at ho h0
  refine ⟨g, c, rfl, hg, fun i hi => ?_, hf⟩
  rw [hc i (by rw [numV_length]; exact hi), at_get hi]
  simp [numV]
theorem len_any (A : Option Addr) (n c : Nat) (w : World) : Calls Try.prog 159 #[.slice A n c] w fun e w' => e = .returned (.int .i64 (n : Int)) ∧ w = w' := by
  go_enter Try.func159, Try.ntmps159
  go_wp2_with fail
  go_ret
  exact ⟨rfl, rfl⟩
set_option maxHeartbeats 4000000 in
theorem less_any {b : Nat} {v : Value} {l : List Int} (w : World) (h : LHeap w b v l) (i j n : Nat) (hn : l.length = n) (n9 : n ≤ 1000000) (hi : i < n) (hj : j < n) (f : Bool) (hf : decide (at' l i < at' l j) = f) :
    Calls Try.prog 160 #[v, .int .i64 (i : Int), .int .i64 (j : Int)] w fun e w' => e = .returned (.bool f) ∧ Kp noB w w' := by
  obtain ⟨g, c, rfl, hg, hc, -⟩ := row_at h hn (by omega)
  have c1 := hc i hi
  have c2 := hc j hj
  obtain ⟨x, hx⟩ : ∃ x, x = at' l i := ⟨_, rfl⟩
  obtain ⟨y, hy⟩ : ∃ y, y = at' l j := ⟨_, rfl⟩
  rw [← hx] at c1 hf
  rw [← hy] at c2 hf
  have F := Lib.hid hf
  have i0 : (0 : Int) ≤ (i : Int) := by omega
  have i1 : (i : Int) < (n : Int) := by omega
  have j0 : (0 : Int) ≤ (j : Int) := by omega
  have j1 : (j : Int) < (n : Int) := by omega
  clear h hc hx hy hf hn
  go_enter Try.func160, Try.ntmps160
  go_wp2_with fail
  go_region
  go_wp2_with fail
  go_ret
  exact ⟨by rw [← F.out]; rfl, (Kp.refl _ _).drew⟩
set_option maxHeartbeats 4000000 in
theorem swap_any {b : Nat} {v : Value} {l : List Int} (w : World) (h : LHeap w b v l) (i j n : Nat) (hn : l.length = n) (n9 : n ≤ 1000000) (hi : i < n) (hj : j < n) :
    Calls Try.prog 163 #[v, .int .i64 (i : Int), .int .i64 (j : Int)] w fun e w' => (∃ r, e = .returned r) ∧ LHeap w' b v (swapL l i j) ∧ Own v w w' := by
  obtain ⟨g, c, rfl, hg, hc, hfz⟩ := row_at h hn (by omega)
  have c1 := hc i hi
  have c2 := hc j hj
  have f1 := hfz i
  have f2 := hfz j
  obtain ⟨x, hx⟩ : ∃ x, x = at' l i := ⟨_, rfl⟩
  obtain ⟨y, hy⟩ : ∃ y, y = at' l j := ⟨_, rfl⟩
  rw [← hx] at c1
  rw [← hy] at c2
  have i0 : (0 : Int) ≤ (i : Int) := by omega
  have i1 : (i : Int) < (n : Int) := by omega
  have j0 : (0 : Int) ≤ (j : Int) := by omega
  have j1 : (j : Int) < (n : Int) := by omega
  have H := Lib.hid h
  have HX := Lib.hid hx
  have HY := Lib.hid hy
  have HN := Lib.hid hn
  have fin : ∀ w', w' = ((w.setCell ⟨g, i, none⟩ (.int .i64 y)).setCell ⟨g, j, none⟩ (.int .i64 x)).drew → LHeap w' b (.slice (some ⟨g, 0, none⟩) n c) (swapL l i j) ∧ Own (.slice (some ⟨g, 0, none⟩) n c) w w' := by
    rintro w' rfl
    have ne := blk_apart h.own h.blk (by decide)
    have ne' : b ≠ g := fun e => ne (by rw [e]; rfl)
    refine ⟨⟨((h.blk.far ne' _).far ne' _).drew, ?_⟩, (((Kp.refl (fun k => (Value.slice (some ⟨g, 0, none⟩) n c).ownBlock = some k) w).set g i _ (fun _ => rfl)).set g j _ (fun _ => rfl)).drew⟩
    have ho := h.own
    rw [hn] at ho
    have q := own_set (own_set ho i (.int .i64 y)) j (.int .i64 x)
    rw [swapL_length, hn]
    unfold swapL
    rw [← hx, ← hy]
    simp only [numV, List.map_set] at q ⊢
    exact q
  have FN := Lib.hid fin
  clear h hc hfz hx hy hn fin
  by_cases e : i = j
  · subst e
    go_enter Try.func163, Try.ntmps163
    go_wp2_with fail
    go_region
    go_end0
    obtain rfl : x = y := by rw [HX.out, HY.out]
    exact ⟨⟨_, rfl⟩, FN.out _ rfl⟩
  · go_enter Try.func163, Try.ntmps163
    go_wp2_with fail
    go_region
    go_end0
    exact ⟨⟨_, rfl⟩, FN.out _ rfl⟩

theorem at_small {l : List Int} (h : ∀ x ∈ l, 0 ≤ x ∧ x ≤ 1000000) (i : Nat) (hi : i < l.length) : 0 ≤ at' l i ∧ at' l i ≤ 1000000 := by
  rw [at_get hi]
  exact h _ (List.getElem_mem hi)
/-- At the head of up's loop. -/
def UpRel (w : World) (b n : Nat) (v : Value) (l : List Int) (s1 : Value) (u : World) : Prop :=
  ∃ (j : Nat) (l' : List Int), s1 = .int .i64 (j : Int) ∧ j < n ∧ LHeap u b v l' ∧ l'.Perm l ∧ HeapUp l' n j ∧ Own v w u
set_option maxHeartbeats 4000000 in
theorem up_any {b : Nat} {v : Value} {l : List Int} (w : World) (h : LHeap w b v l) (j n : Nat) (hn : l.length = n) (n9 : n ≤ 1000000) (hj : j < n) (hu : HeapUp l n j) :
    Calls Try.prog 128 #[.iface 102 (.pointer (some ⟨b, 0, none⟩)), .int .i64 (j : Int)] w fun e w' => (∃ r, e = .returned r) ∧ ∃ l', LHeap w' b v l' ∧ l'.Perm l ∧ Heap l' n ∧ Own v w w' := by
  have LA := less_at b v
  have SA := swap_at b v
  have H := Lib.hid h
  have HN := Lib.hid hn
  have HU := Lib.hid hu
  clear h hn hu
  go_enter Try.func128, Try.ntmps128
  go_wp2_with fail
  go_loopw [1, 4] (fun s1 s4 u => UpRel w b n v l s1 u) (fun s1 _ _ => (intOf s1).toNat)
  case atStart => exact ⟨j, l, rfl, hj, H.out, List.Perm.refl _, HU.out, Kp.refl _ _⟩
  case round =>
    obtain ⟨i, l', rfl, hi, h1, h2, h3, h4⟩ := hrel
    have H1 := Lib.hid h1
    have H2 := Lib.hid h2
    have H3 := Lib.hid h3
    have H4 := Lib.hid h4
    have hb0 := h1.blk.cell 0
    have hb1 := h1.blk.lt
    simp at hb0
    have LN := Lib.hid (show l'.length = n by rw [h2.length_eq]; exact HN.out)
    have LF := LA wr hb0
    have SF := SA wr hb0
    clear h1 h2 h3 h4
    by_cases i0 : i = 0
    · subst i0
      go_wp2_with fail
      go_end0
      exact ⟨⟨_, rfl⟩, l', H1.out, H2.out, H3.out.top, H4.out⟩
    · obtain ⟨q, hq⟩ : ∃ q, q = (i - 1) / 2 := ⟨_, rfl⟩
      have qi : q < i := by omega
      have PQ := Lib.hid hq
      have hi2 := hi
      have HI := Lib.hid (And.intro hi (And.intro qi (show 0 < i by omega)))
      have LCX := Lib.hid (fun f hf => less_any wr H1.out i q n LN.out n9 hi (by omega) f hf)
      have SWX := Lib.hid (fun u1 (h : LHeap u1 b v l') => swap_any u1 h q i n LN.out n9 (by omega) hi)
      obtain ⟨x, hx⟩ : ∃ x : Int, x = (i : Int) := ⟨_, rfl⟩
      obtain ⟨y, hy⟩ : ∃ y : Int, y = (q : Int) := ⟨_, rfl⟩
      have qz : (x - 1) / 2 = y := by omega
      have qne : (y == x) = false := by simp; omega
      have x1 : 1 ≤ x := by omega
      have x2 : x ≤ 1000000 := by omega
      rw [← hx, ← hy] at LCX SWX
      rw [← hx]
      have HX := Lib.hid hx
      have HY := Lib.hid hy
      clear hx
      cases hf : decide (at' l' i < at' l' q) with
      | false =>
        have LC := Lib.hid (LCX.out false hf)
        have LE := Lib.hid (of_decide_eq_false hf)
        clear hf i0 hi hq qi hi2 hy
        go_wp2_with fail
        refine LC.out.mono ?_
        rintro e u1 ⟨rfl, hk⟩
        have HK := Lib.hid hk
        clear hk
        go_wp2_with fail
        go_end0
        refine ⟨⟨_, rfl⟩, l', H1.out.kp HK.out (fun h => h) (fun _ _ h => h), H2.out, H3.out.done ?_, H4.out.trans (HK.out.mono (fun _ _ h => h.elim))⟩
        rw [← PQ.out]
        have := LE.out
        omega
      | true =>
        have LC := Lib.hid (LCX.out true hf)
        have LE := Lib.hid (of_decide_eq_true hf)
        clear hf i0 hi hq qi hi2 hy
        go_wp2_with fail
        refine LC.out.mono ?_
        rintro e u1 ⟨rfl, hk⟩
        have HK := Lib.hid hk
        have HU1 := Lib.hid (H1.out.kp hk (fun h => h) (fun _ _ h => h))
        have y0 := HU1.out.blk.cell 0
        have y1 := HU1.out.blk.lt
        simp at y0
        have SF1 := SA u1 y0
        have SW := Lib.hid (SWX.out u1 HU1.out)
        clear hk
        go_wp2_with fail
        refine SW.out.mono ?_
        rintro e u2 ⟨⟨r, rfl⟩, hh, ho⟩
        have HH := Lib.hid hh
        have HO := Lib.hid ho
        clear hh ho
        go_wp2_with fail
        have hq := PQ.out
        have hi := HI.out
        refine ⟨⟨q, _, by rw [← HY.out], by omega, HH.out, (swapL_perm (by rw [LN.out]; omega) (by rw [LN.out]; omega)).trans H2.out, ?_, (H4.out.trans (HK.out.mono (fun _ _ h => h.elim))).trans HO.out⟩, by have := HX.out; have := HY.out; simp [intOf]; omega⟩
        rw [PQ.out]
        exact H3.out.step (by rw [LN.out]; exact Nat.le_refl _) hi.1 (by omega) (by rw [← PQ.out]; exact LE.out)

theorem less_int {b : Nat} {v : Value} {l : List Int} (w : World) (h : LHeap w b v l) (i j n : Nat) (x y : Int) (hx : (i : Int) = x) (hy : (j : Int) = y) (hn : l.length = n) (n9 : n ≤ 1000000) (hi : i < n) (hj : j < n) (f : Bool) (hf : decide (at' l i < at' l j) = f) :
    Calls Try.prog 160 #[v, .int .i64 x, .int .i64 y] w fun e w' => e = .returned (.bool f) ∧ Kp noB w w' := by
  subst hx hy
  exact less_any w h i j n hn n9 hi hj f hf
theorem swap_int {b : Nat} {v : Value} {l : List Int} (w : World) (h : LHeap w b v l) (i j n : Nat) (x y : Int) (hx : (i : Int) = x) (hy : (j : Int) = y) (hn : l.length = n) (n9 : n ≤ 1000000) (hi : i < n) (hj : j < n) :
    Calls Try.prog 163 #[v, .int .i64 x, .int .i64 y] w fun e w' => (∃ r, e = .returned r) ∧ LHeap w' b v (swapL l i j) ∧ Own v w w' := by
  subst hx hy
  exact swap_any w h i j n hn n9 hi hj
/-- At the head of down's loop. -/
def DownRel (w : World) (b n m : Nat) (v : Value) (l : List Int) (s7 : Value) (u : World) : Prop :=
  ∃ (i : Nat) (l' : List Int), s7 = .int .i64 (i : Int) ∧ (i < n ∨ i = 0) ∧ LHeap u b v l' ∧ l'.Perm l ∧ HeapDn l' n i ∧ (∀ k, n ≤ k → k < m → at' l' k = at' l k) ∧ Own v w u
set_option maxHeartbeats 8000000 in
theorem down_any {b : Nat} {v : Value} {l : List Int} (w : World) (h : LHeap w b v l) (n m : Nat) (hm : l.length = m) (m9 : m ≤ 1000000) (hn : n ≤ m) (hu : HeapDn l n 0) :
    Calls Try.prog 166 #[.iface 102 (.pointer (some ⟨b, 0, none⟩)), .int .i64 0, .int .i64 (n : Int)] w fun e w' => (∃ r, e = .returned r) ∧ ∃ l', LHeap w' b v l' ∧ l'.Perm l ∧ Heap l' n ∧ (∀ k, n ≤ k → k < m → at' l' k = at' l k) ∧ Own v w w' := by
  have LA := less_at b v
  have SA := swap_at b v
  have H := Lib.hid h
  have HM := Lib.hid hm
  have HU := Lib.hid hu
  clear h hm hu
  go_enter Try.func166, Try.ntmps166
  go_wp2_with fail
  go_loopw [7, 8, 9, 10] (fun s7 s8 s9 s10 u => DownRel w b n m v l s7 u) (fun s7 _ _ _ _ => 2000000 - (intOf s7).toNat)
  case atStart => exact ⟨0, l, rfl, .inr rfl, H.out, List.Perm.refl _, HU.out, fun _ _ _ => rfl, Kp.refl _ _⟩
  case round =>
    obtain ⟨i, l', rfl, hi, h1, h2, h3, h4, h5⟩ := hrel
    have H1 := Lib.hid h1
    have H2 := Lib.hid h2
    have H3 := Lib.hid h3
    have H4 := Lib.hid h4
    have H5 := Lib.hid h5
    have hb0 := h1.blk.cell 0
    have hb1 := h1.blk.lt
    simp at hb0
    have LN := Lib.hid (show l'.length = m by rw [h2.length_eq]; exact HM.out)
    have LF := LA wr hb0
    have SF := SA wr hb0
    have i9 : i ≤ 1000000 := by omega
    have HI := Lib.hid hi
    clear h1 h2 h3 h4 h5 hi
    by_cases c1 : n ≤ 2 * i + 1
    · have t1 : (n : Int) ≤ 2 * (i : Int) + 1 := by omega
      go_wp2_with fail
      go_ret
      exact ⟨⟨_, rfl⟩, l', H1.out, H2.out, H3.out.leaf c1, H4.out, H5.out⟩
    · have t1 : ¬ ((n : Int) ≤ 2 * (i : Int) + 1) := by omega
      have t2 : ¬ (2 * (i : Int) + 1 < 0) := by omega
      by_cases c2 : 2 * i + 2 < n
      · have t3 : 2 * (i : Int) + 1 + 1 < (n : Int) := by omega
        cases hg : decide (at' l' (2 * i + 2) < at' l' (2 * i + 1)) with
        | true =>
          have L0 := Lib.hid (less_int wr H1.out (2 * i + 2) (2 * i + 1) m (2 * (i : Int) + 1 + 1) (2 * (i : Int) + 1) (by omega) (by omega) LN.out m9 (by omega) (by omega) true hg)
          have LG := of_decide_eq_true hg
          have HLE := Lib.hid (show ∀ k, k < n → (k = 2 * i + 1 ∨ k = 2 * i + 2) → at' l' (2 * i + 2) ≤ at' l' k from fun k _ hk => by rcases hk with rfl | rfl <;> omega)
          clear hg LG
          go_wp2_with fail
          refine L0.out.mono ?_
          rintro e u1 ⟨rfl, hk⟩
          have HK0 := Lib.hid hk
          have HU1 := Lib.hid (H1.out.kp hk (fun h => h) (fun _ _ h => h))
          have y0 := HU1.out.blk.cell 0
          have y1 := HU1.out.blk.lt
          simp at y0
          have LF1 := LA u1 y0
          clear hk
          cases hf : decide (at' l' (2 * i + 2) < at' l' i) with
          | false =>
            have LC := Lib.hid (less_int u1 HU1.out (2 * i + 2) i m (2 * (i : Int) + 1 + 1) (i : Int) (by omega) rfl LN.out m9 (by omega) (by omega) false hf)
            have LE := Lib.hid (of_decide_eq_false hf)
            clear hf
            go_wp2_with fail
            refine LC.out.mono ?_
            rintro e ux ⟨rfl, hk⟩
            have HK := Lib.hid hk
            clear hk
            go_wp2_with fail
            go_ret
            refine ⟨⟨_, rfl⟩, l', HU1.out.kp HK.out (fun h => h) (fun _ _ h => h), H2.out, H3.out.done HLE.out (by have := LE.out; omega), H4.out, (H5.out.trans (HK0.out.mono (fun _ _ h => h.elim))).trans (HK.out.mono (fun _ _ h => h.elim))⟩
          | true =>
            have LC := Lib.hid (less_int u1 HU1.out (2 * i + 2) i m (2 * (i : Int) + 1 + 1) (i : Int) (by omega) rfl LN.out m9 (by omega) (by omega) true hf)
            have LE := Lib.hid (of_decide_eq_true hf)
            clear hf
            go_wp2_with fail
            refine LC.out.mono ?_
            rintro e ux ⟨rfl, hk⟩
            have HK := Lib.hid hk
            have HX := Lib.hid (HU1.out.kp hk (fun h => h) (fun _ _ h => h))
            have z0 := HX.out.blk.cell 0
            have z1 := HX.out.blk.lt
            simp at z0
            have SFx := SA ux z0
            have SW := Lib.hid (swap_int ux HX.out i (2 * i + 2) m (i : Int) (2 * (i : Int) + 1 + 1) rfl (by omega) LN.out m9 (by omega) (by omega))
            clear hk
            go_wp2_with fail
            refine SW.out.mono ?_
            rintro e uy ⟨⟨r, rfl⟩, hh, ho⟩
            have HH := Lib.hid hh
            have HO := Lib.hid ho
            clear hh ho
            go_wp2_with fail
            refine ⟨⟨2 * i + 2, _, by first | rfl | (congr 1; omega), .inl (by omega), HH.out, (swapL_perm (by rw [LN.out]; omega) (by rw [LN.out]; omega)).trans H2.out, H3.out.step (by rw [LN.out]; exact hn) (by omega) (by omega) HLE.out LE.out, fun k k1 k2 => ?_, ((H5.out.trans (HK0.out.mono (fun _ _ h => h.elim))).trans (HK.out.mono (fun _ _ h => h.elim))).trans HO.out⟩, by simp [intOf]; omega⟩
            rw [swapL_at (by rw [LN.out]; omega) (by rw [LN.out]; omega), if_neg (by omega), if_neg (by omega)]
            exact H4.out k k1 k2
        | false =>
          have L0 := Lib.hid (less_int wr H1.out (2 * i + 2) (2 * i + 1) m (2 * (i : Int) + 1 + 1) (2 * (i : Int) + 1) (by omega) (by omega) LN.out m9 (by omega) (by omega) false hg)
          have LG := of_decide_eq_false hg
          have HLE := Lib.hid (show ∀ k, k < n → (k = 2 * i + 1 ∨ k = 2 * i + 2) → at' l' (2 * i + 1) ≤ at' l' k from fun k _ hk => by rcases hk with rfl | rfl <;> omega)
          clear hg LG
          go_wp2_with fail
          refine L0.out.mono ?_
          rintro e u1 ⟨rfl, hk⟩
          have HK0 := Lib.hid hk
          have HU1 := Lib.hid (H1.out.kp hk (fun h => h) (fun _ _ h => h))
          have y0 := HU1.out.blk.cell 0
          have y1 := HU1.out.blk.lt
          simp at y0
          have LF1 := LA u1 y0
          clear hk
          cases hf : decide (at' l' (2 * i + 1) < at' l' i) with
          | false =>
            have LC := Lib.hid (less_int u1 HU1.out (2 * i + 1) i m (2 * (i : Int) + 1) (i : Int) (by omega) rfl LN.out m9 (by omega) (by omega) false hf)
            have LE := Lib.hid (of_decide_eq_false hf)
            clear hf
            go_wp2_with fail
            refine LC.out.mono ?_
            rintro e ux ⟨rfl, hk⟩
            have HK := Lib.hid hk
            clear hk
            go_wp2_with fail
            go_ret
            refine ⟨⟨_, rfl⟩, l', HU1.out.kp HK.out (fun h => h) (fun _ _ h => h), H2.out, H3.out.done HLE.out (by have := LE.out; omega), H4.out, (H5.out.trans (HK0.out.mono (fun _ _ h => h.elim))).trans (HK.out.mono (fun _ _ h => h.elim))⟩
          | true =>
            have LC := Lib.hid (less_int u1 HU1.out (2 * i + 1) i m (2 * (i : Int) + 1) (i : Int) (by omega) rfl LN.out m9 (by omega) (by omega) true hf)
            have LE := Lib.hid (of_decide_eq_true hf)
            clear hf
            go_wp2_with fail
            refine LC.out.mono ?_
            rintro e ux ⟨rfl, hk⟩
            have HK := Lib.hid hk
            have HX := Lib.hid (HU1.out.kp hk (fun h => h) (fun _ _ h => h))
            have z0 := HX.out.blk.cell 0
            have z1 := HX.out.blk.lt
            simp at z0
            have SFx := SA ux z0
            have SW := Lib.hid (swap_int ux HX.out i (2 * i + 1) m (i : Int) (2 * (i : Int) + 1) rfl (by omega) LN.out m9 (by omega) (by omega))
            clear hk
            go_wp2_with fail
            refine SW.out.mono ?_
            rintro e uy ⟨⟨r, rfl⟩, hh, ho⟩
            have HH := Lib.hid hh
            have HO := Lib.hid ho
            clear hh ho
            go_wp2_with fail
            refine ⟨⟨2 * i + 1, _, by first | rfl | (congr 1; omega), .inl (by omega), HH.out, (swapL_perm (by rw [LN.out]; omega) (by rw [LN.out]; omega)).trans H2.out, H3.out.step (by rw [LN.out]; exact hn) (by omega) (by omega) HLE.out LE.out, fun k k1 k2 => ?_, ((H5.out.trans (HK0.out.mono (fun _ _ h => h.elim))).trans (HK.out.mono (fun _ _ h => h.elim))).trans HO.out⟩, by simp [intOf]; omega⟩
            rw [swapL_at (by rw [LN.out]; omega) (by rw [LN.out]; omega), if_neg (by omega), if_neg (by omega)]
            exact H4.out k k1 k2
      · have t3 : ¬ (2 * (i : Int) + 1 + 1 < (n : Int)) := by omega
        have HLE := Lib.hid (show ∀ k, k < n → (k = 2 * i + 1 ∨ k = 2 * i + 2) → at' l' (2 * i + 1) ≤ at' l' k from fun k hkn hk => by rcases hk with rfl | rfl <;> omega)
        cases hf : decide (at' l' (2 * i + 1) < at' l' i) with
        | false =>
          have LC := Lib.hid (less_int wr H1.out (2 * i + 1) i m (2 * (i : Int) + 1) (i : Int) (by omega) rfl LN.out m9 (by omega) (by omega) false hf)
          have LE := Lib.hid (of_decide_eq_false hf)
          clear hf
          go_wp2_with fail
          refine LC.out.mono ?_
          rintro e ux ⟨rfl, hk⟩
          have HK := Lib.hid hk
          clear hk
          go_wp2_with fail
          go_ret
          refine ⟨⟨_, rfl⟩, l', H1.out.kp HK.out (fun h => h) (fun _ _ h => h), H2.out, H3.out.done HLE.out (by have := LE.out; omega), H4.out, (H5.out).trans (HK.out.mono (fun _ _ h => h.elim))⟩
        | true =>
          have LC := Lib.hid (less_int wr H1.out (2 * i + 1) i m (2 * (i : Int) + 1) (i : Int) (by omega) rfl LN.out m9 (by omega) (by omega) true hf)
          have LE := Lib.hid (of_decide_eq_true hf)
          clear hf
          go_wp2_with fail
          refine LC.out.mono ?_
          rintro e ux ⟨rfl, hk⟩
          have HK := Lib.hid hk
          have HX := Lib.hid (H1.out.kp hk (fun h => h) (fun _ _ h => h))
          have z0 := HX.out.blk.cell 0
          have z1 := HX.out.blk.lt
          simp at z0
          have SFx := SA ux z0
          have SW := Lib.hid (swap_int ux HX.out i (2 * i + 1) m (i : Int) (2 * (i : Int) + 1) rfl (by omega) LN.out m9 (by omega) (by omega))
          clear hk
          go_wp2_with fail
          refine SW.out.mono ?_
          rintro e uy ⟨⟨r, rfl⟩, hh, ho⟩
          have HH := Lib.hid hh
          have HO := Lib.hid ho
          clear hh ho
          go_wp2_with fail
          refine ⟨⟨2 * i + 1, _, by first | rfl | (congr 1; omega), .inl (by omega), HH.out, (swapL_perm (by rw [LN.out]; omega) (by rw [LN.out]; omega)).trans H2.out, H3.out.step (by rw [LN.out]; exact hn) (by omega) (by omega) HLE.out LE.out, fun k k1 k2 => ?_, ((H5.out).trans (HK.out.mono (fun _ _ h => h.elim))).trans HO.out⟩, by simp [intOf]; omega⟩
          rw [swapL_at (by rw [LN.out]; omega) (by rw [LN.out]; omega), if_neg (by omega), if_neg (by omega)]
          exact H4.out k k1 k2
end Go.Proofs.Ytajckihgfelbaaa.Rch
/- What the landed layer 6 does: the least first: put, and taken. -/
namespace Go.Proofs.Ytajckihgfelbaaa.Rch
open Go.RowKit Go.Proofs.Ytajckihgfelbaaa.Inst Go.Proofs.Ytajckihgfelbaaa.Adj
set_option maxRecDepth 100000

theorem assert_int (m : Int) (w : World) : (Instr.typeAssert (.iface 3 (.int .i64 m)) 20 3 false).run Try.prog w = .ok (.int .i64 m) w := by kernel_rfl
theorem lheap_append {b : Nat} {v : Value} {l : List Int} {m : Int} {w u : World} {g cap : Nat} {o : Obj} (hb1 : Blk u b 105 #[v]) (hown : u.ownsRow 0 3 1 (.slice (some ⟨g, 0, none⟩) (l.length + 1) cap) (l.length + 1) (numV l ++ [.int .i64 m])) (hgrow : (w.alloc o).drew.grownBy u v.ownBlock) (hat : v.ownBlock = some g ∨ g = w.heap.size + 1) :
    LHeap (u.setCell ⟨b, 0, none⟩ (.slice (some ⟨g, 0, none⟩) (l.length + 1) cap)) b (.slice (some ⟨g, 0, none⟩) (l.length + 1) cap) (l ++ [m]) ∧ Wrote b v (.slice (some ⟨g, 0, none⟩) (l.length + 1) cap) w (u.setCell ⟨b, 0, none⟩ (.slice (some ⟨g, 0, none⟩) (l.length + 1) cap)) := by
  have ne := blk_apart hown hb1 (by decide)
  refine ⟨⟨hb1.set_ 0 _, ?_⟩, ?_, ?_⟩
  · rw [List.length_append, numV_snoc]
    exact own_far hown ne _
  · refine Kp.set ?_ b 0 _ (fun _ => .inl rfl)
    exact (((Kp.refl _ w).alloc _).drew).grown hgrow (fun g hg _ => .inr hg)
  · intro k hk
    simp [Value.ownBlock] at hk
    subst hk
    rcases hat with q | q
    · exact .inl q
    · right
      omega
set_option maxHeartbeats 8000000 in
theorem Push_any (b : Nat) (v : Value) (l : List Int) (m : Int) (w : World) (h : LHeap w b v l) (hl : l.length ≤ 100000) :
    Calls Try.prog 161 #[.pointer (some ⟨b, 0, none⟩), .iface 3 (.int .i64 m)] w fun e w' => (∃ r, e = .returned r) ∧ ∃ v', LHeap w' b v' (l ++ [m]) ∧ Wrote b v v' w w' := by
  obtain ⟨i0, hi0, hz0, hz1, hz2⟩ := info_parts info_int
  have x0 := h.blk.cell 0
  have x1 := h.blk.lt
  have x2 := h.blk.frozen 0
  simp at x0
  have TA := fun w => assert_int m w
  have H := Lib.hid h
  have G0 := Lib.hid hi0
  have G1 := Lib.hid hz0
  have G2 := Lib.hid hz1
  have G3 := Lib.hid hz2
  have NE := Lib.hid (blk_apart h.own h.blk (by decide))
  clear h hi0 hz0 hz1 hz2
  go_enter Try.func161, Try.ntmps161
  go_wp2_with fail
  go_region_law (refine step_append_lies _ (by rfl) _ _ _ (by rfl) 0 3 i0 _ 1 8 Try.underlying103 G0.out G1.out G2.out G3.out rfl (by omega) v l.length _ (by rfl) ((H.out.own.alloc _).drew) ⟨w.heap.size, 0, none⟩ 1 1 [nv m] (by rfl) (by rfl) (cell_one_new _ _ _) (by simp [Value.oneCell', nv]) (by omega) (by simp only [maxLen]; omega) (by omega) (Nat.zero_le _) (w.heap.size + 1) (by simp) ?_; intro g cap w1 hown hgrow hat hlt; have hb1 : Blk w1 b 105 #[v] := (hgrow.block b (by simp; omega) (fun e => NE.out e.symm)).trans ((H.out.blk.alloc _).drew); have y0 : w1.cell? ⟨b, 0, none⟩ = some v := hb1.cell 0; have y1 := hb1.lt; have y2 := hb1.frozen 0; have HB1 := Lib.hid hb1; have OW := Lib.hid hown; have GR := Lib.hid hgrow; have AT := Lib.hid hat; clear hb1 hown hgrow hat)
  all_goals
    go_end0
    obtain ⟨q1, q2⟩ := lheap_append HB1.out OW.out GR.out AT.out
    exact ⟨⟨_, rfl⟩, _, q1, q2⟩

set_option maxHeartbeats 4000000 in
theorem Pop_any (b : Nat) (v : Value) (l : List Int) (m : Int) (w : World) (h : LHeap w b v (l ++ [m])) (hl : l.length ≤ 100000) :
    Calls Try.prog 170 #[.pointer (some ⟨b, 0, none⟩)] w fun e w' => e = .returned (.iface 3 (.int .i64 m)) ∧ ∃ v', LHeap w' b v' l ∧ Wrote b v v' w w' := by
  obtain ⟨k, hk⟩ : ∃ k, k = l.length := ⟨_, rfl⟩
  have ho := h.own
  have e : (l ++ [m]).length = k + 1 := by simp [hk]
  rw [e] at ho
  obtain ⟨-, A, cap, rfl, hc, -⟩ := own_cells ho
  obtain ⟨g, rfl, hg, hcell, -⟩ := own_at ho (by omega)
  have c0 : w.cell? ⟨g, k, none⟩ = some (.int .i64 m) := by
    rw [hcell k (by rw [numV_length, e]; omega)]
    simp [numV, hk]
  have OT := Lib.hid (own_take ho (by omega) k (by omega))
  have BK := Lib.hid h.blk
  have NE := Lib.hid (blk_apart ho h.blk (by decide))
  have x0 := h.blk.cell 0
  have x1 := h.blk.lt
  have x2 := h.blk.frozen 0
  simp at x0
  have k9 : k ≤ 100000 := by omega
  have wk : wrap64 (k : Int) = (k : Int) := by unfold wrap64; omega
  have HK := Lib.hid hk
  have LN := Lib.hid (fun A n c w => len_any A n c w)
  clear h ho hcell hk e
  go_enter Try.func170, Try.ntmps170
  go_wp2_with (go_at_call 159; (with_reducible refine (LN.out _ _ _ _).mono ?_); rintro e w1 ⟨rfl, rfl⟩)
  go_ret
  refine ⟨rfl, _, ⟨BK.out.set_ 0 _, ?_⟩, ?_, ?_⟩
  · have h := own_far OT.out (p := ⟨b, 0, none⟩) NE.out (.slice (some ⟨g, 0, none⟩) k cap)
    rw [HK.out] at h ⊢
    rw [numV_snoc, List.take_left' (by rw [numV_length])] at h
    exact h
  · exact Kp.set (Kp.refl _ w) b 0 _ (fun _ => .inl rfl)
  · intro j hj
    exact .inl hj

theorem Own.wrote {b : Nat} {v : Value} {w w' : World} (h : Own v w w') : Wrote b v v w w' := ⟨h.mono (fun _ _ e => .inr e), fun _ hg => .inl hg⟩
theorem Wrote.own {b : Nat} {v v' : Value} {w w' u : World} (h : Wrote b v v' w w') (g : Own v' w' u) : Wrote b v v' w u := by
  refine ⟨h.1.then g (fun k hk e => ?_), h.2⟩
  rcases h.2 k e with q | q
  · exact .inr q
  · omega
theorem Own.then {b : Nat} {v v' : Value} {w w' u : World} (h : Own v w w') (g : Wrote b v v' w' u) : Wrote b v v' w u := by
  refine ⟨(h.mono (fun _ _ e => .inr e)).trans g.1, fun k hk => ?_⟩
  rcases g.2 k hk with q | q
  · exact .inl q
  · have := h.size
    right
    omega
set_option maxHeartbeats 4000000 in
theorem heapPush_any (b : Nat) (v : Value) (l : List Int) (m : Int) (w : World) (h : LHeap w b v l) (hl : l.length ≤ 99999) (hh : Heap l l.length) :
    Calls Try.prog 99 #[.iface 102 (.pointer (some ⟨b, 0, none⟩)), .iface 3 (.int .i64 m)] w fun e w' => (∃ r, e = .returned r) ∧ ∃ v' l', LHeap w' b v' l' ∧ l'.Perm (l ++ [m]) ∧ Heap l' l'.length ∧ Wrote b v v' w w' := by
  have PA := fun w => push_at ⟨b, 0, none⟩ w
  have PU := Lib.hid (Push_any b v l m w h (by omega))
  have HH := Lib.hid hh
  clear h hh
  go_enter Try.func99, Try.ntmps99
  go_wp2_with fail
  refine PU.out.mono ?_
  rintro e w1 ⟨⟨r, rfl⟩, v1, h1, hw⟩
  have x0 := h1.blk.cell 0
  have x1 := h1.blk.lt
  simp at x0
  obtain ⟨k, hk⟩ : ∃ k, k = l.length := ⟨_, rfl⟩
  have e1 : (l ++ [m]).length = k + 1 := by simp [hk]
  obtain ⟨A, cap, rfl⟩ : ∃ A cap, v1 = .slice A (k + 1) cap := by
    obtain ⟨-, A, cap, q, -⟩ := own_cells h1.own
    exact ⟨A, cap, by rw [q, e1]⟩
  have k9 : k ≤ 99999 := by omega
  have wk : wrap64 (k : Int) = (k : Int) := by unfold wrap64; omega
  have LM := len_at b _ w1 x0
  have LN := Lib.hid (fun A n c w => len_any A n c w)
  have UP := Lib.hid (up_any w1 h1 k (k + 1) e1 (by omega) (by omega) (by have := HH.out.snoc m; rw [e1, ← hk] at this; exact this))
  have HW := Lib.hid hw
  have HK := Lib.hid e1
  clear h1 hw hk e1
  go_wp2_with (go_at_call 159; (with_reducible refine (LN.out _ _ _ _).mono ?_); rintro e w1 ⟨rfl, rfl⟩)
  refine UP.out.mono ?_
  rintro e w2 ⟨⟨r, rfl⟩, l', h2, hp, hh, ho⟩
  have H2 := Lib.hid (And.intro h2 (And.intro hp (And.intro hh ho)))
  clear h2 hp hh ho
  go_wp2_with fail
  go_end0
  obtain ⟨h2, hp, hh, ho⟩ := H2.out
  exact ⟨⟨_, rfl⟩, _, l', h2, hp, by rw [hp.length_eq, HK.out]; exact hh, HW.out.own ho⟩

theorem last_is {l : List Int} {k : Nat} (h : l.length = k + 1) : l = l.take k ++ [at' l k] := by
  conv => lhs; rw [← List.take_append_drop k l]
  congr 1
  rw [List.drop_eq_getElem_cons (by omega), List.drop_eq_nil_of_le (by omega), at_get (by omega)]
set_option maxHeartbeats 4000000 in
theorem heapPop_any (b : Nat) (v : Value) (l : List Int) (k : Nat) (hk : l.length = k + 1) (w : World) (h : LHeap w b v l) (hl : k ≤ 99999) (hh : Heap l l.length) :
    Calls Try.prog 165 #[.iface 102 (.pointer (some ⟨b, 0, none⟩))] w fun e w' => e = .returned (.iface 3 (.int .i64 (at' l 0))) ∧ ∃ v' l', LHeap w' b v' l' ∧ (at' l 0 :: l').Perm l ∧ Heap l' l'.length ∧ (∀ x ∈ l', at' l 0 ≤ x) ∧ Wrote b v v' w w' := by
  have PA := fun w => pop_at ⟨b, 0, none⟩ w
  have x0 := h.blk.cell 0
  have x1 := h.blk.lt
  simp at x0
  obtain ⟨A, cap, rfl⟩ : ∃ A cap, v = .slice A (k + 1) cap := by
    obtain ⟨-, A, cap, q, -⟩ := own_cells h.own
    exact ⟨A, cap, by rw [q, hk]⟩
  have wk : wrap64 (k : Int) = (k : Int) := by unfold wrap64; omega
  have LM := len_at b _ w x0
  have SM := swap_at b _ w x0
  have LN := Lib.hid (fun A n c w => len_any A n c w)
  have SW := Lib.hid (swap_int w h 0 k (k + 1) 0 (k : Int) rfl rfl hk (by omega) (by omega) (by omega))
  have HH := Lib.hid hh
  have HK := Lib.hid hk
  clear h hh hk
  go_enter Try.func165, Try.ntmps165
  go_wp2_with (go_at_call 159; (with_reducible refine (LN.out _ _ _ _).mono ?_); rintro e w1 ⟨rfl, rfl⟩)
  refine SW.out.mono ?_
  rintro e w2 ⟨⟨r, rfl⟩, h2, ho⟩
  have l1 := swapL_length l 0 k
  rw [HK.out] at l1
  have DN := Lib.hid (down_any w2 h2 k (k + 1) l1 (by omega) (by omega) (HeapDn.first (by have := HH.out; rw [HK.out] at this; exact this) (by rw [HK.out]; omega)))
  have HO := Lib.hid ho
  have L1 := Lib.hid l1
  clear h2 ho l1
  go_wp2_with fail
  refine DN.out.mono ?_
  rintro e w3 ⟨⟨r, rfl⟩, l2, h3, hp, hh, ht, ho⟩
  have l2k : l2.length = k + 1 := by rw [hp.length_eq]; exact L1.out
  have em : at' l2 k = at' l 0 := by
    rw [ht k (Nat.le_refl _) (by omega), swapL_at (by rw [HK.out]; omega) (by rw [HK.out]; omega), if_pos rfl]
  have PO := Lib.hid (Pop_any b _ (l2.take k) (at' l2 k) w3 (by rw [← last_is l2k]; exact h3) (by rw [List.length_take]; omega))
  rw [em] at PO
  have H3 := Lib.hid (And.intro hp (And.intro hh (And.intro ho (And.intro l2k em))))
  clear h3 hp hh ht ho l2k em
  go_wp2_with fail
  refine PO.out.mono ?_
  rintro e w4 ⟨rfl, v', h4, hw⟩
  have H4 := Lib.hid (And.intro h4 hw)
  clear h4 hw
  go_wp2_with fail
  go_ret
  obtain ⟨hp, hh, ho, l2k, em⟩ := H3.out
  obtain ⟨h4, hw⟩ := H4.out
  have e2 := last_is l2k
  rw [em] at e2
  have pm : (at' l 0 :: l2.take k).Perm l := by
    refine List.Perm.trans ?_ (hp.trans (swapL_perm (by rw [HK.out]; omega) (by rw [HK.out]; omega)))
    conv => rhs; rw [e2]
    exact (List.perm_append_singleton _ _).symm
  refine ⟨rfl, v', l2.take k, h4, pm, hh.take (by omega), fun x hx => ?_, Own.then (Kp.trans HO.out ho) hw⟩
  have hm : x ∈ l := pm.subset (by simp [hx])
  obtain ⟨i, hi, rfl⟩ := List.getElem_of_mem hm
  rw [← at_get hi]
  exact HH.out.least i hi
theorem lput_any (b : Nat) (v : Value) (l : List Int) (m : Int) (w : World) (h : LHeap w b v l) (hl : l.length ≤ 99999) (hh : Heap l l.length) :
    Calls Try.prog 71 #[.pointer (some ⟨b, 0, none⟩), .int .i64 m] w fun e w' => (∃ r, e = .returned r) ∧ ∃ v' l', LHeap w' b v' l' ∧ l'.Perm (l ++ [m]) ∧ Heap l' l'.length ∧ Wrote b v v' w w' := by
  have HP := Lib.hid (heapPush_any b v l m w h hl hh)
  clear h hh
  go_enter Try.func71, Try.ntmps71
  go_wp2_with fail
  refine HP.out.mono ?_
  rintro e w1 ⟨⟨r, rfl⟩, hq⟩
  have HQ := Lib.hid hq
  clear hq
  go_wp2_with fail
  go_end0
  exact ⟨⟨_, rfl⟩, HQ.out⟩
theorem ltake_none (b : Nat) (v : Value) (w : World) (h : LHeap w b v []) :
    Calls Try.prog 164 #[.pointer (some ⟨b, 0, none⟩)] w fun e w' => e = .returned (.tuple #[.int .i64 0, .bool false]) ∧ w = w' := by
  obtain ⟨-, A, cap, rfl, -⟩ := own_cells h.own
  have x0 := h.blk.cell 0
  have x1 := h.blk.lt
  have LN := Lib.hid (fun A n c w => len_any A n c w)
  simp at x0
  clear h
  go_enter Try.func164, Try.ntmps164
  go_wp2_with (go_at_call 159; (with_reducible refine (LN.out _ _ _ _).mono ?_); rintro e w1 ⟨rfl, rfl⟩)
  go_ret2
  exact ⟨rfl, rfl⟩
set_option maxHeartbeats 4000000 in
theorem ltake_any (b : Nat) (v : Value) (l : List Int) (k : Nat) (hk : l.length = k + 1) (w : World) (h : LHeap w b v l) (hl : k ≤ 99999) (hh : Heap l l.length) :
    Calls Try.prog 164 #[.pointer (some ⟨b, 0, none⟩)] w fun e w' => e = .returned (.tuple #[.int .i64 (at' l 0), .bool true]) ∧ ∃ v' l', LHeap w' b v' l' ∧ (at' l 0 :: l').Perm l ∧ Heap l' l'.length ∧ (∀ x ∈ l', at' l 0 ≤ x) ∧ Wrote b v v' w w' := by
  have x0 := h.blk.cell 0
  have x1 := h.blk.lt
  simp at x0
  obtain ⟨A, cap, rfl⟩ : ∃ A cap, v = .slice A (k + 1) cap := by
    obtain ⟨-, A, cap, q, -⟩ := own_cells h.own
    exact ⟨A, cap, by rw [q, hk]⟩
  have TA := fun w => assert_int (at' l 0) w
  have HP := Lib.hid (heapPop_any b _ l k hk w h hl hh)
  have LN := Lib.hid (fun A n c w => len_any A n c w)
  have t1 : ¬ ((k : Int) + 1 = 0) := by omega
  obtain ⟨m, hm⟩ : ∃ m, m = at' l 0 := ⟨_, rfl⟩
  rw [← hm] at TA HP ⊢
  clear h hh hk hm
  go_enter Try.func164, Try.ntmps164
  go_wp2_with (go_at_call 159; (with_reducible refine (LN.out _ _ _ _).mono ?_); rintro e w1 ⟨rfl, rfl⟩)
  refine HP.out.mono ?_
  rintro e w1 ⟨rfl, hq⟩
  have HQ := Lib.hid hq
  clear hq
  go_wp2_with fail
  go_ret2
  exact ⟨rfl, HQ.out⟩
end Go.Proofs.Ytajckihgfelbaaa.Rch
