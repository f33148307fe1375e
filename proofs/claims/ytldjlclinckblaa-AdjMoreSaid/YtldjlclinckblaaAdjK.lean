/- The law AdjOnce: its walk. -/
import Derived.Test.YtldjlclinckblaaAdjI
import Derived.Test.YtldjlclinckblaaAdjMathK
import Derived.Deep.RegionHeld3
namespace Go.Proofs.Ytldjlclinckblaa.Adj
open Go.RowKit Go.Proofs.Ytldjlclinckblaa.Inst

theorem kzeros_eq (n : Nat) : madeCells #[Value.int .i64 0] n = (natV (List.replicate n 0)).toArray := by
  apply Array.ext'
  rw [toList_madeCells_one]
  simp [natV, numV]
theorem makek_any (n : Nat) (hn : n ≤ 100000) (W : World) : (Instr.makeSlice 34 (.int .i64 (n : Int)) (.int .i64 (n : Int))).run Try.prog W = .ok (.slice (some ⟨W.heap.size, 0, none⟩) n n) (W.alloc (.cells (natV (List.replicate n 0)).toArray 3)) := by
  obtain ⟨i0, hi0, hz0, hz1, hz2⟩ := info_parts info_int
  have h := run_make (P := Try.prog) W 34 3 i0 (.int .i64 0) Try.underlying34 hi0 hz0 .i64 .i64 (n : Int) (n : Int) (by omega) (by omega) (by rw [hz2]; omega) (by omega)
  rw [h, hz1, Int.toNat_natCast, Nat.mul_one]
  congr 3
  exact kzeros_eq n
theorem natV_get (R : List Nat) (x y : Nat) (h : R[x]? = some y) : (natV R)[x]? = some (.int .i64 (y : Int)) := by
  unfold natV numV
  rw [List.getElem?_map, List.getElem?_map, h]
  rfl
theorem natV_put (R : List Nat) (x y : Nat) : (natV R).set x (.int .i64 (y : Int)) = natV (R.set x y) := by
  unfold natV numV
  rw [List.map_set, List.map_set]

/-- What has been counted. -/
def Counts (w3 : World) (I : InstD) (n1 n2 : Int) (l1 l2 : List Nat) (u : World) : Prop :=
  Blk u w3.heap.size 3 (natV (cntL I ArcD.frm n1 l1)).toArray ∧ Blk u (w3.heap.size + 1) 3 (natV (cntL I ArcD.to n2 l2)).toArray ∧ Below w3.heap.size w3 u ∧ w3.heap.size + 2 ≤ u.heap.size
theorem Counts.below {w3 : World} {I : InstD} {n1 n2 : Int} {l1 l2 : List Nat} {u : World} (h : Counts w3 I n1 n2 l1 l2 u) : Below w3.heap.size w3 u := h.2.2.1
theorem Counts.size {w3 : World} {I : InstD} {n1 n2 : Int} {l1 l2 : List Nat} {u : World} (h : Counts w3 I n1 n2 l1 l2 u) : w3.heap.size + 2 ≤ u.heap.size := h.2.2.2
theorem Counts.b1 {w3 : World} {I : InstD} {n1 n2 : Int} {l1 l2 : List Nat} {u : World} (h : Counts w3 I n1 n2 l1 l2 u) : Blk u w3.heap.size 3 (natV (cntL I ArcD.frm n1 l1)).toArray := h.1
theorem Counts.b2 {w3 : World} {I : InstD} {n1 n2 : Int} {l1 l2 : List Nat} {u : World} (h : Counts w3 I n1 n2 l1 l2 u) : Blk u (w3.heap.size + 1) 3 (natV (cntL I ArcD.to n2 l2)).toArray := h.2.1
theorem Counts.later {w3 : World} {I : InstD} {n1 n2 : Int} {l1 l2 : List Nat} {u v : World} (h : Counts w3 I n1 n2 l1 l2 u) (hb : Below u.heap.size u v) : Counts w3 I n1 n2 l1 l2 v :=
  ⟨h.1.below hb h.1.lt, h.2.1.below hb h.2.1.lt, chain2 h.2.2.1 hb, Nat.le_trans h.2.2.2 hb.size⟩
theorem Counts.set1 {w3 : World} {I : InstD} {n1 n2 : Int} {l1 l2 : List Nat} {u : World} {a y : Nat} (h : Counts w3 I n1 n2 l1 l2 u) (ha : a < I.arcs.length) (hl : a ∉ l1) (hy : (cntL I ArcD.frm n1 l1)[a]? = some y) : Counts w3 I n1 n2 (l1 ++ [a]) l2 (u.setCell ⟨w3.heap.size, a, none⟩ (.int .i64 ((y : Int) + 1))) := by
  obtain ⟨h1, h2, h3, h4⟩ := h
  have e : (Value.int .i64 ((y : Int) + 1)) = .int .i64 ((y + 1 : Nat) : Int) := by simp
  rw [e]
  refine ⟨?_, h2.far (by show w3.heap.size + 1 ≠ w3.heap.size; omega) _, h3.setCell (Nat.le_refl _) _, by simpa using h4⟩
  have q := h1.set_ a (.int .i64 ((y + 1 : Nat) : Int))
  rw [List.setIfInBounds_toArray, natV_put, cnt_step _ _ _ _ _ _ ha hl hy] at q
  exact q
theorem Counts.set2 {w3 : World} {I : InstD} {n1 n2 : Int} {l1 l2 : List Nat} {u : World} {a y : Nat} (h : Counts w3 I n1 n2 l1 l2 u) (ha : a < I.arcs.length) (hl : a ∉ l2) (hy : (cntL I ArcD.to n2 l2)[a]? = some y) : Counts w3 I n1 n2 l1 (l2 ++ [a]) (u.setCell ⟨w3.heap.size + 1, a, none⟩ (.int .i64 ((y : Int) + 1))) := by
  obtain ⟨h1, h2, h3, h4⟩ := h
  have e : (Value.int .i64 ((y : Int) + 1)) = .int .i64 ((y + 1 : Nat) : Int) := by simp
  rw [e]
  refine ⟨h1.far (by show w3.heap.size ≠ w3.heap.size + 1; omega) _, ?_, h3.setCell (by show w3.heap.size ≤ w3.heap.size + 1; omega) _, by simpa using h4⟩
  have q := h2.set_ a (.int .i64 ((y + 1 : Nat) : Int))
  rw [List.setIfInBounds_toArray, natV_put, cnt_step _ _ _ _ _ _ ha hl hy] at q
  exact q
theorem cell_far (w : World) (p q : Addr) (v : Value) (h : q.block ≠ p.block) : (w.setCell p v).cell? q = w.cell? q := by
  have := Below.heap_setCell w p v q.block h
  simp only [World.cell?, this]
/-- At the heads of the loops. -/
def OnceRel (w3 : World) (I : InstD) (N : Nat) (s : Value) (u : World) : Prop := ∃ n : Nat, n ≤ N ∧ s = .int .i64 (n : Int) ∧ Counts w3 I n n [] [] u
def OutRel (w3 : World) (I : InstD) (n : Nat) (lo : List Nat) (t : Nat) (row : Value) (s : Value) (u : World) : Prop := ∃ j : Nat, j ≤ t ∧ s = .int .i64 (j : Int) ∧ Counts w3 I n n (lo.take j) [] u ∧ u.ownsRow (w3.heap.size + 2) 3 1 row t (natV lo)
def InRel (w3 : World) (I : InstD) (n : Nat) (li : List Nat) (t : Nat) (row : Value) (s : Value) (u : World) : Prop := ∃ j : Nat, j ≤ t ∧ s = .int .i64 (j : Int) ∧ Counts w3 I ((n : Int) + 1) n [] (li.take j) u ∧ u.ownsRow (w3.heap.size + 2) 3 1 row t (natV li)
def EachRel (w4 : World) (m : Nat) (s : Value) (u : World) : Prop := ∃ a : Nat, a ≤ m ∧ s = .int .i64 (a : Int) ∧ u = w4

set_option maxRecDepth 100000 in
set_option maxHeartbeats 8000000 in
theorem once_walk {Gr : World → Nat → InstD → Prop} (C : AdjC Gr) {W : World} (s : Option Addr) (l c : Nat) (xs : List Nat) (hl : xs.length = l) (h9 : l ≤ 140737488355328) (hx : Octs xs) (hs : Cells W W.heap.size s (octV xs)) (s' : Option Addr) (l' c' : Nat) (ys : List Nat) (hl' : ys.length = l') (h9' : l' ≤ 140737488355328) (hy : Octs ys) (hs' : Cells W W.heap.size s' (octV ys)) :
    Calls Try.prog 4 #[.slice s l c, .slice s' l' c'] W fun e W' => e = .returned (.bool true) ∧ Below W.heap.size W W' := by
  have IN := Lib.hid (fun w' (h : Below W.heap.size W w') => inst_any s s' c c' xs ys hx hy (by omega) (by omega) w' (hs.later (Nat.le_refl _) h) (hs'.later (Nat.le_refl _) h))
  rw [hl, hl'] at IN
  obtain ⟨I, hI⟩ : ∃ I, I = instC xs ys := ⟨_, rfl⟩
  have i0 := instC_sup xs ys
  have i1 := instC_arcs xs ys
  have i2 := nodesC_bd ys
  have i3 := inst_fit xs ys
  rw [← hI] at IN i0 i1 i3
  obtain ⟨n, hn⟩ : ∃ n, n = nodesC ys := ⟨_, rfl⟩
  rw [← hn] at IN i0 i2
  obtain ⟨m, hm⟩ : ∃ m, m = I.arcs.length := ⟨_, rfl⟩
  have FT := Lib.hid (show ∀ a, a < I.arcs.length → fitD I (a : Int) = true from i3)
  rw [← hm] at i1
  have HN := Lib.hid i0
  have HM := Lib.hid hm.symm
  obtain ⟨n1, n7⟩ := i2
  have KN := Lib.hid (fun w => known_any C w)
  have NW := Lib.hid (fun w (A : Option Addr) (B : Option Addr) (cc dd : Nat) (h : Here w A B n m I) => C.new A B cc dd n m I w h (by omega) (by omega))
  clear hI hn hm i0 i3 hs hs' hx hy
  have hmk := makek_any m (by omega)
  go_enter Try.func4, Try.ntmps4
  go_upto_region 2 with (go_at_call 11; (with_reducible refine (IN.out _ (Below.refl _ _)).mono ?_); rintro e w1 ⟨sA, aV, rfl, hM⟩; obtain ⟨-, A, ca, ea, -, -, -⟩ := own_cells hM.arcs; subst ea; rw [HM.out] at hM; rw [HM.out]; have M1 := Lib.hid hM; clear hM)
  obtain ⟨p, hp⟩ : ∃ p, p = w1.heap.size := ⟨_, rfl⟩
  obtain ⟨W2, hW2⟩ : ∃ W2, W2 = w1.alloc (.cells #[.slice (some ⟨sA, 0, none⟩) n n, .slice A m ca] 25) := ⟨_, rfl⟩
  have M2 := Lib.hid (show Made W W2 sA (.slice A m ca) I.sup I.arcs by rw [hW2]; exact M1.out.alloc _)
  have BP := Lib.hid (show Blk W2 p 25 #[.slice (some ⟨sA, 0, none⟩) n n, .slice A m ca] by rw [hW2]; exact blk_at hp.symm _ _)
  have HI := Lib.hid (Made.here M2.out (I := I) HN.out HM.out (by omega) (by omega))
  rw [← hW2, ← hp]
  clear hp hW2 M1
  have x0 := BP.out.cell 0
  have x1 := BP.out.cell 1
  have x2 := BP.out.lt
  simp at x0 x1
  go_upto_region 3 with (go_at_call 13; (with_reducible refine (NW.out _ _ _ _ _ HI.out).mono ?_); rintro e w3 ⟨g, rfl, hg, hb⟩; have G3 := Lib.hid hg; have M3 := Lib.hid (M2.out.step hb); have BP3 := Lib.hid (BP.out.below hb BP.out.lt); clear hg hb)
  clear x0 x1 x2
  have x1 := BP3.out.cell 1
  have x2 := BP3.out.lt
  have x3 : p < w3.heap.size + 1 := by omega
  simp at x1
  go_upto_region 8 with fail
  obtain ⟨W5, hW5⟩ : ∃ W5, W5 = (w3.alloc (.cells (natV (List.replicate m 0)).toArray 3)).alloc (.cells (natV (List.replicate m 0)).toArray 3) := ⟨_, rfl⟩
  rw [← hW5]
  have FE := Lib.hid (fun a (h : a < I.arcs.length) => fit_ends (FT.out a h))
  have C0 := Lib.hid (show Counts w3 I ((0 : Nat) : Int) ((0 : Nat) : Int) [] [] W5 by
    refine ⟨?_, ?_, ?_, ?_⟩
    · rw [show ((0 : Nat) : Int) = 0 from rfl, cnt_start _ _ (fun a h => (FE.out a h).1.1), HM.out, hW5]
      exact (Blk.new w3 _ _).alloc _
    · rw [show ((0 : Nat) : Int) = 0 from rfl, cnt_start _ _ (fun a h => (FE.out a h).2.1), HM.out, hW5]
      exact blk_at (by simp) _ _
    · rw [hW5]
      exact ((Below.refl _ _).alloc (Nat.le_refl _) _).alloc (by simp) _
    · rw [hW5]
      simp)
  have BW3 := Lib.hid M3.out.below
  clear hW5 x1 x2 x3 hmk NW IN M2 BP HI M3 BP3
  have m9 : I.arcs.length ≤ 1000 := by rw [HM.out]; omega
  have NO := Lib.hid (fun u (h : Below w3.heap.size w3 u) => (show Calls Try.prog 14 #[.pointer (some ⟨g, 0, none⟩)] u (fun e w' => e = .returned (.int .i64 (n : Int)) ∧ Below u.heap.size u w') from by have q := C.nodes g I u (C.later G3.out h); rw [HN.out] at q; exact q))
  go_loopw [9] (fun s u => OnceRel w3 I n s u) (fun s _ => n - (intOf s).toNat)
  case atStart => exact ⟨0, by omega, rfl, C0.out⟩
  case round =>
    obtain ⟨k, hk, rfl, hC⟩ := hrel
    have HC := Lib.hid hC
    clear hC C0
    by_cases hlt : k < n
    · have jb : I64 (k : Int) := I64_small (by omega) (by omega)
      obtain ⟨lo, hlo⟩ : ∃ l, outD I (k : Int) = l := ⟨_, rfl⟩
      obtain ⟨li, hli⟩ : ∃ l, inD I (k : Int) = l := ⟨_, rfl⟩
      have lo9 : lo.length ≤ 1000 := by rw [← hlo]; exact some_1000 _ _ _ _ m9
      have li9 : li.length ≤ 1000 := by rw [← hli]; exact some_1000 _ _ _ _ m9
      have ON := Lib.hid (show lo.Nodup by rw [← hlo]; exact some_nodup _ _ _ _)
      have INN := Lib.hid (show li.Nodup by rw [← hli]; exact some_nodup _ _ _ _)
      have OM := Lib.hid (fun a (h : a < I.arcs.length) => (show a ∈ lo ↔ (arcAt I.arcs a).frm = (k : Int) by rw [← hlo]; exact out_mem FT.out k a h))
      have IM := Lib.hid (fun a (h : a < I.arcs.length) => (show a ∈ li ↔ (arcAt I.arcs a).to = (k : Int) by rw [← hli]; exact in_mem FT.out k a h))
      have OL := Lib.hid (fun j a (h : lo[j]? = some a) => (show a < m ∧ a ∈ lo from ⟨by have q := mem_some.1 (show a ∈ outD I (k : Int) by rw [hlo]; exact List.mem_of_getElem? h); rw [← HM.out]; exact q.1, List.mem_of_getElem? h⟩))
      have IL := Lib.hid (fun j a (h : li[j]? = some a) => (show a < m ∧ a ∈ li from ⟨by have q := mem_some.1 (show a ∈ inD I (k : Int) by rw [hli]; exact List.mem_of_getElem? h); rw [← HM.out]; exact q.1, List.mem_of_getElem? h⟩))
      have OB := Lib.hid (fun a (h : a ∈ lo) => (show otherD I (a : Int) (otherD I (a : Int) (k : Int)) = (k : Int) from other_back (by rw [hlo]; exact h)))
      obtain ⟨la, hla⟩ : ∃ l, atD I (k : Int) = l := ⟨_, rfl⟩
      obtain ⟨lp, hlp⟩ : ∃ l, loopsD I (k : Int) = l := ⟨_, rfl⟩
      have AT := Lib.hid (show la.length + lp = lo.length + li.length by rw [← hla, ← hlp, ← hlo, ← hli]; exact at_length I k)
      have O1 := Lib.hid (fun u (hb : Below w3.heap.size w3 u) => (show Calls Try.prog 15 #[.pointer (some ⟨g, 0, none⟩), .int .i64 (k : Int)] u (TellsNats lo u) from by rw [← hlo]; exact C.out g I k u (C.later G3.out hb) jb))
      have O2 := Lib.hid (fun u (hb : Below w3.heap.size w3 u) => (show Calls Try.prog 17 #[.pointer (some ⟨g, 0, none⟩), .int .i64 (k : Int)] u (TellsNats li u) from by rw [← hli]; exact C.in_ g I k u (C.later G3.out hb) jb))
      have O3 := Lib.hid (fun u (hb : Below w3.heap.size w3 u) => (show Calls Try.prog 18 #[.pointer (some ⟨g, 0, none⟩), .int .i64 (k : Int)] u (TellsNats la u) from by rw [← hla]; exact C.at_ g I k u (C.later G3.out hb) jb))
      have L1 := Lib.hid (fun u (hb : Below w3.heap.size w3 u) => (show Calls Try.prog 19 #[.pointer (some ⟨g, 0, none⟩), .int .i64 (k : Int)] u (fun e w' => e = .returned (.int .i64 (lp : Int)) ∧ Below u.heap.size u w') from by rw [← hlp]; exact C.loops g I k u (C.later G3.out hb) jb))
      have OT := Lib.hid (fun (a : Nat) (x : Int) (ha : a < m) (hx : I64 x) u (hb : Below w3.heap.size w3 u) => (show Calls Try.prog 16 #[.pointer (some ⟨g, 0, none⟩), .int .i64 (a : Int), .int .i64 x] u (fun e w' => e = .returned (.int .i64 (otherD I a x)) ∧ Below u.heap.size u w') from C.other g I a x u (C.later G3.out hb) (I64_small (by omega) (by omega)) hx))
      have la9 : la.length ≤ 1000 := by rw [← hla]; exact some_1000 _ _ _ _ m9
      clear hlo hli hla hlp
      go_upto_region 12 with (first
        | (go_at_call 14; (with_reducible refine (NO.out _ HC.out.below).mono ?_); rintro e wa ⟨rfl, hb⟩; replace HC := Lib.hid (HC.out.later hb); clear hb)
        | (go_at_call 15; (with_reducible refine (O1.out _ HC.out.below).mono ?_); rintro e wb ⟨Na, ca1, rfl, _, na, hb, ho⟩; have S1 := Lib.hid (own_base ho HC.out.size); replace HC := Lib.hid (HC.out.later hb); clear na hb ho))
      obtain ⟨t1, ht1⟩ : ∃ t, lo.length = t := ⟨_, rfl⟩
      rw [ht1] at S1 ⊢
      rw [ht1] at lo9 AT
      have HT1 := Lib.hid ht1
      clear ht1
      go_loopw [11] (fun s u => OutRel w3 I k lo t1 (.slice Na t1 ca1) s u) (fun s _ => t1 - (intOf s).toNat)
      case atStart => exact ⟨0, by omega, rfl, HC.out, S1.out⟩
      case round =>
        obtain ⟨j, hj, rfl, hC2, hS2⟩ := hrel
        have HC2 := Lib.hid hC2
        have HS2 := Lib.hid hS2
        clear hC2 hS2 HC S1
        by_cases hlt2 : j < t1
        · obtain ⟨a, haj⟩ : ∃ a, lo[j]? = some a := ⟨lo[j]'(by rw [HT1.out]; exact hlt2), List.getElem?_eq_getElem _⟩
          obtain ⟨am, al⟩ := OL.out j a haj
          have ai : a < I.arcs.length := by rw [HM.out]; exact am
          obtain ⟨y, hy, y2⟩ := cnt_le I ArcD.frm (k : Int) (lo.take j) a ai
          have TK := Lib.hid (take_snoc lo j a haj)
          have NM := Lib.hid (not_mem_take ON.out j a haj)
          have CN := Lib.hid (HC2.out.set1 ai NM.out hy)
          rw [← TK.out] at CN
          obtain ⟨gl, el, ll, cl, -⟩ := own_at HS2.out (by omega)
          subst el
          have gb := own_ge HS2.out gl rfl
          have r0 : ∀ u : World, u.cell? ⟨gl, j, none⟩ = wr.cell? ⟨gl, j, none⟩ → u.cell? ⟨gl, j, none⟩ = some (.int .i64 (a : Int)) := fun u hu => by
            rw [hu, cl j (by rw [natV_length, HT1.out]; exact hlt2)]
            have q := natV_get lo j a haj
            rw [List.getElem?_eq_getElem (by rw [natV_length, HT1.out]; exact hlt2)] at q
            exact q
          have x0 := r0 wr rfl
          have q0 := HC2.out.b1.cell a
          rw [List.getElem?_toArray, natV_get _ _ _ hy] at q0
          have q1 := HC2.out.b1.lt
          have q2 := HC2.out.b1.frozen a
          have j0 : (0 : Int) ≤ (j : Int) := by omega
          have j1 : (j : Int) < (t1 : Int) := by omega
          have a0 : (0 : Int) ≤ (a : Int) := by omega
          have a1 : (a : Int) < (m : Int) := by omega
          have CS := Lib.hid (fun v => own_far HS2.out (p := ⟨w3.heap.size, a, none⟩) (fun e => by have h : w3.heap.size + 2 ≤ w3.heap.size := own_ge HS2.out _ e; omega) v)
          have RC := Lib.hid r0
          clear cl hy r0
          have fk : (arcAt I.arcs a).frm = (k : Int) := (OM.out a ai).1 al
          have ot : otherD I (a : Int) (k : Int) = (arcAt I.arcs a).to := by
            unfold otherD
            rw [FT.out a ai, Int.toNat_natCast, if_neg (by simp), if_pos fk]
          obtain ⟨o1, ho1⟩ : ∃ x, otherD I (a : Int) (k : Int) = x := ⟨_, rfl⟩
          have o9 : I64 o1 := by
            have q := (FE.out a ai).2
            rw [HN.out, ← ot, ho1] at q
            unfold I64
            omega
          have OT1 := Lib.hid (fun u h => OT.out a (k : Int) am jb u h)
          have OT2 := Lib.hid (fun u h => OT.out a o1 am o9 u h)
          rw [ho1] at OT1
          rw [← ho1, OB.out a al, ho1] at OT2
          clear ot ho1 fk
          go_upto_region 15 with fail
          obtain ⟨W4, hW4⟩ : ∃ W4, W4 = wr.setCell ⟨w3.heap.size, a, none⟩ (.int .i64 ((y : Int) + 1)) := ⟨_, rfl⟩
          have CS4 := Lib.hid (CS.out (.int .i64 ((y : Int) + 1)))
          have x4 : W4.cell? ⟨gl, j, none⟩ = some (.int .i64 (a : Int)) := RC.out W4 (by rw [hW4]; exact cell_far _ _ _ _ (by show gl ≠ w3.heap.size; omega))
          rw [← hW4] at CN CS4 ⊢
          have gl4 : gl < W4.heap.size := by rw [hW4]; simpa using ll
          clear hW4 x0 q0 q1 q2 CS RC TK NM
          go_region_held3 (fun u => u.cell? ⟨gl, j, none⟩ = some (.int .i64 (a : Int)) ∧ Below W4.heap.size W4 u)
            (first | exact ⟨x4, (Below.refl _ _).drew⟩ | exact ⟨(hb.cell (p := ⟨gl, j, none⟩) (Nat.lt_of_lt_of_le gl4 hS4.2.size)).trans hS4.1, chain2 hS4.2 hb⟩)
            (first
              | (go_at_call 16; have hS4 := (by assumption : _ ∧ Below W4.heap.size W4 _); (with_reducible refine (OT1.out _ (chain2 CN.out.below hS4.2)).mono ?_); rintro e wa ⟨rfl, hb⟩)
              | (go_at_call 16; have hS4 := (by assumption : _ ∧ Below W4.heap.size W4 _); (with_reducible refine (OT2.out _ (chain2 CN.out.below hS4.2)).mono ?_); rintro e wb ⟨rfl, hb⟩))
          all_goals
            rename_i hs
            have HS := Lib.hid hs.2
            clear hs
            go_wp2_with fail
            exact ⟨⟨j + 1, by omega, by simp, CN.out.later HS.out, own_later CS4.out HS.out⟩, by simp [intOf]; omega⟩
        · obtain rfl : j = t1 := by omega
          have ta : ¬ ((j : Int) < (j : Int)) := by omega
          have HC3 := Lib.hid (show Counts w3 I ((k : Int) + 1) (k : Int) [] [] wr by
            have q := HC2.out
            rw [List.take_of_length_le (by rw [HT1.out]; exact Nat.le_refl _)] at q
            unfold Counts at q ⊢
            rw [cnt_next _ _ _ _ (fun a h => OM.out a h)] at q
            exact q)
          clear HC2 HS2 OM OL OB ON
          go_upto_region 19 with (first
            | (go_at_call 17; (with_reducible refine (O2.out _ HC3.out.below).mono ?_); rintro e wb ⟨Nb, cb1, rfl, _, na, hb, ho⟩; have S1 := Lib.hid (own_base ho HC3.out.size); replace HC3 := Lib.hid (HC3.out.later hb); clear na hb ho))
          obtain ⟨t2, ht2⟩ : ∃ t, li.length = t := ⟨_, rfl⟩
          rw [ht2] at S1 ⊢
          rw [ht2] at li9 AT
          have HT2 := Lib.hid ht2
          clear ht2 ta
          go_loopw [13] (fun s u => InRel w3 I k li t2 (.slice Nb t2 cb1) s u) (fun s _ => t2 - (intOf s).toNat)
          case atStart => exact ⟨0, by omega, rfl, HC3.out, S1.out⟩
          case round =>
            obtain ⟨i, hi, rfl, hC2, hS2⟩ := hrel
            have HC2 := Lib.hid hC2
            have HS2 := Lib.hid hS2
            clear hC2 hS2 HC3 S1
            by_cases hlt3 : i < t2
            · obtain ⟨a, haj⟩ : ∃ a, li[i]? = some a := ⟨li[i]'(by rw [HT2.out]; exact hlt3), List.getElem?_eq_getElem _⟩
              obtain ⟨am, al⟩ := IL.out i a haj
              have ai : a < I.arcs.length := by rw [HM.out]; exact am
              obtain ⟨y, hy, y2⟩ := cnt_le I ArcD.to (k : Int) (li.take i) a ai
              have TK := Lib.hid (take_snoc li i a haj)
              have NM := Lib.hid (not_mem_take INN.out i a haj)
              have CN := Lib.hid (HC2.out.set2 ai NM.out hy)
              rw [← TK.out] at CN
              obtain ⟨gl, el, ll, cl, -⟩ := own_at HS2.out (by omega)
              subst el
              have gb := own_ge HS2.out gl rfl
              have x0 : wr.cell? ⟨gl, i, none⟩ = some (.int .i64 (a : Int)) := by
                rw [cl i (by rw [natV_length, HT2.out]; exact hlt3)]
                have q := natV_get li i a haj
                rw [List.getElem?_eq_getElem (by rw [natV_length, HT2.out]; exact hlt3)] at q
                exact q
              have q0 := HC2.out.b2.cell a
              rw [List.getElem?_toArray, natV_get _ _ _ hy] at q0
              have q1 := HC2.out.b2.lt
              have q2 := HC2.out.b2.frozen a
              have j0 : (0 : Int) ≤ (i : Int) := by omega
              have j1 : (i : Int) < (t2 : Int) := by omega
              have a0 : (0 : Int) ≤ (a : Int) := by omega
              have a1 : (a : Int) < (m : Int) := by omega
              have CS := Lib.hid (fun v => own_far HS2.out (p := ⟨w3.heap.size + 1, a, none⟩) (fun e => by have h : w3.heap.size + 2 ≤ w3.heap.size + 1 := own_ge HS2.out _ e; omega) v)
              clear cl hy TK NM
              go_wp2_with fail
              exact ⟨⟨i + 1, by omega, by simp, CN.out, CS.out _⟩, by simp [intOf]; omega⟩
            · obtain rfl : i = t2 := by omega
              have ta : ¬ ((i : Int) < (i : Int)) := by omega
              have HC3 := Lib.hid (show Counts w3 I ((k : Int) + 1) ((k : Int) + 1) [] [] wr by
                have q := HC2.out
                rw [List.take_of_length_le (by rw [HT2.out]; exact Nat.le_refl _)] at q
                unfold Counts at q ⊢
                rw [cnt_next _ ArcD.to _ _ (fun a h => IM.out a h)] at q
                exact q)
              have at1 := AT.out
              have at2 : (j : Int) + (i : Int) - (lp : Int) = (la.length : Int) := by omega
              clear HC2 HS2 IM IL INN
              go_wp2_with (first
                | (go_at_call 18; (with_reducible refine (O3.out _ HC3.out.below).mono ?_); rintro e wb ⟨Nc, cc1, rfl, _, na, hb, ho⟩; replace HC3 := Lib.hid (HC3.out.later hb); clear na hb ho)
                | (go_at_call 19; (with_reducible refine (L1.out _ HC3.out.below).mono ?_); rintro e wb ⟨rfl, hb⟩; replace HC3 := Lib.hid (HC3.out.later hb); clear hb))
              refine ⟨⟨k + 1, by omega, by simp, ?_⟩, by simp [intOf]; omega⟩
              have ek : ((k + 1 : Nat) : Int) = (k : Int) + 1 := by simp
              rw [ek]
              exact HC3.out
    · obtain rfl : k = n := by omega
      have ta : ¬ ((k : Int) < (k : Int)) := by omega
      go_upto_region 25 with (go_at_call 14; (with_reducible refine (NO.out _ HC.out.below).mono ?_); rintro e wa ⟨rfl, hb⟩; replace HC := Lib.hid (HC.out.later hb); clear hb)
      have FO := Lib.hid (fun a (h : a < m) => (show wa.cell? ⟨w3.heap.size, a, none⟩ = some (.int .i64 1) ∧ wa.cell? ⟨w3.heap.size + 1, a, none⟩ = some (.int .i64 1) ∧ w3.heap.size < wa.heap.size ∧ w3.heap.size + 1 < wa.heap.size from by
        have hi : a < I.arcs.length := by rw [HM.out]; exact h
        have q := FE.out a hi
        rw [HN.out] at q
        have c1 := HC.out.b1.cell a
        have c2 := HC.out.b2.cell a
        rw [List.getElem?_toArray, natV_get _ _ _ (cnt_end I ArcD.frm k a hi q.1.2)] at c1
        rw [List.getElem?_toArray, natV_get _ _ _ (cnt_end I ArcD.to k a hi q.2.2)] at c2
        exact ⟨c1, c2, HC.out.b1.lt, HC.out.b2.lt⟩))
      clear ta
      go_loopw [14] (fun s u => EachRel wa m s u) (fun s _ => m - (intOf s).toNat)
      case atStart => exact ⟨0, by omega, rfl, rfl⟩
      case round =>
        obtain ⟨a, ha, rfl, rfl⟩ := hrel
        by_cases hlt4 : a < m
        · obtain ⟨x0, x1, x2, x3⟩ := FO.out a hlt4
          have a0 : (0 : Int) ≤ (a : Int) := by omega
          have a1 : (a : Int) < (m : Int) := by omega
          go_wp2_with fail
          exact ⟨⟨a + 1, by omega, by simp, rfl⟩, by simp [intOf]; omega⟩
        · have hjn : ¬ (a : Int) < (m : Int) := by omega
          go_wp2_with (go_at_call 10; (refine (KN.out _).mono ?_); rintro e wn ⟨rfl, hb⟩; have HB := Lib.hid hb; clear hb)
          go_ret
          exact ⟨rfl, chain2 (chain2 BW3.out HC.out.below) HB.out⟩
end Go.Proofs.Ytldjlclinckblaa.Adj
