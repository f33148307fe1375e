/- The law AdjKeeps: its walk. -/
import Derived.Test.YtldjlclinckblaaAdjG
import Derived.Test.YtldjlclinckblaaAdjH
namespace Go.Proofs.Ytldjlclinckblaa.Adj
open Go.RowKit Go.Proofs.Ytldjlclinckblaa.Inst

/-- What graphs do, and that they live in what New makes: to be proved of what has landed. -/
structure AdjO (Gr : World → Nat → InstD → Prop) : Prop where
  c : AdjC Gr
  own : ∀ (A A2 : Option Addr) (c d n m : Nat) (I : InstD) (w : World), Here w A A2 n m I → n ≤ 1000 → m ≤ 1000 →
    Calls Try.prog 13 #[.agg #[.slice A n c, .slice A2 m d]] w fun e w' => ∃ b, e = .returned (.pointer (some ⟨b, 0, none⟩)) ∧ Below w.heap.size w w' ∧
      ∀ v : World, w'.heap.size ≤ v.heap.size → (∀ i, w.heap.size ≤ i → i < w'.heap.size → v.heap[i]? = w'.heap[i]?) → Gr v b I

/-- From a number on all is as it was. -/
def Above (w3 : World) (s2 : Nat) (u : World) : Prop := w3.heap.size ≤ u.heap.size ∧ ∀ i, s2 ≤ i → i < w3.heap.size → u.heap[i]? = w3.heap[i]?
theorem Above.refl (w3 : World) (s2 : Nat) : Above w3 s2 w3 := ⟨Nat.le_refl _, fun _ _ _ => rfl⟩
theorem Above.set_ {w3 u : World} {s2 : Nat} (h : Above w3 s2 u) (g o : Nat) (v : Value) (hg : g < s2) : Above w3 s2 (u.setCell ⟨g, o, none⟩ v) :=
  ⟨by have := h.1; simp; omega, fun i h1 h2 => (Below.heap_setCell u ⟨g, o, none⟩ v i (by show i ≠ g; omega)).trans (h.2 i h1 h2)⟩
/-- At the head of the first loop. -/
def SpoilRel (W w3 : World) (s2 p sA : Nat) (A : Option Addr) (n m ca : Nat) (I : InstD) (s : Value) (u : World) : Prop :=
  ∃ (k : Nat) (L : List ArcD), k ≤ m ∧ s = .int .i64 (k : Int) ∧ L.length = m ∧ Made W u sA (.slice A m ca) I.sup L ∧ Blk u p 25 #[.slice (some ⟨sA, 0, none⟩) n n, .slice A m ca] ∧ Above w3 s2 u
/-- At the head of the second loop. -/
def NineRel (W6 : World) (NA : Option Addr) (t cap : Nat) (s : Value) (u : World) : Prop :=
  ∃ (j : Nat) (vs : List Value), j ≤ t ∧ s = .int .i64 (j : Int) ∧ u.ownsRow W6.heap.size 3 1 (.slice NA t cap) t vs ∧ Below W6.heap.size W6 u
/-- At the head of the third loop. -/
def SeeRel (W6 : World) (m : Nat) (s : Value) (u : World) : Prop := ∃ a : Nat, a ≤ m ∧ s = .int .i64 (a : Int) ∧ Below W6.heap.size W6 u
abbrev SQ (W : World) (q : Nat) (a b : Value) (u : World) : Prop := u.cell? ⟨q, 0, none⟩ = some a ∧ u.cell? ⟨q, 1, none⟩ = some b ∧ Below W.heap.size W u
theorem keep2 {W w w' : World} {q : Nat} {a b : Value} (hq : q < W.heap.size) (h : SQ W q a b w) (hb : Below w.heap.size w w') : SQ W q a b w' := by
  obtain ⟨h1, h2, h5⟩ := h
  have z := h5.size
  exact ⟨(hb.cell (p := ⟨q, 0, none⟩) (by show q < _; omega)).trans h1, (hb.cell (p := ⟨q, 1, none⟩) (by show q < _; omega)).trans h2, chain2 h5 hb⟩
theorem inst_fit (c d : List Nat) (a : Nat) (h : a < (instC c d).arcs.length) : fitD (instC c d) (a : Int) = true := by
  unfold fitD
  rw [Int.toNat_natCast]
  have q := instC_in c d (arcAt (instC c d).arcs a) (by rw [arcAt_get _ _ h]; exact List.getElem_mem h)
  exact decide_eq_true ⟨by omega, by omega, q⟩

set_option maxRecDepth 100000 in
set_option maxHeartbeats 8000000 in
theorem keeps_walk {Gr : World → Nat → InstD → Prop} (O : AdjO Gr) {W : World} (s : Option Addr) (l c : Nat) (xs : List Nat) (hl : xs.length = l) (h9 : l ≤ 140737488355328) (hx : Octs xs) (hs : Cells W W.heap.size s (octV xs)) (s' : Option Addr) (l' c' : Nat) (ys : List Nat) (hl' : ys.length = l') (h9' : l' ≤ 140737488355328) (hy : Octs ys) (hs' : Cells W W.heap.size s' (octV ys)) (kk : Int) (hkk : U8 kk) :
    Calls Try.prog 5 #[.slice s l c, .slice s' l' c', .int .u8 kk] W fun e W' => e = .returned (.bool true) ∧ Below W.heap.size W W' := by
  unfold U8 at hkk
  obtain ⟨k8, rfl⟩ : ∃ k : Nat, kk = k := ⟨kk.toNat, by omega⟩
  have C := O.c
  have IN := Lib.hid (fun w' (h : Below W.heap.size W w') => inst_any s s' c c' xs ys hx hy (by omega) (by omega) w' (hs.later (Nat.le_refl _) h) (hs'.later (Nat.le_refl _) h))
  rw [hl, hl'] at IN
  obtain ⟨I, hI⟩ : ∃ I, I = instC xs ys := ⟨_, rfl⟩
  have i0 := instC_sup xs ys
  have i1 := instC_arcs xs ys
  have i2 := nodesC_bd ys
  have i3 := inst_fit xs ys
  rw [← hI] at IN i0 i1 i3
  obtain ⟨n, hn⟩ : ∃ n, n = nodesC ys := ⟨_, rfl⟩
  rw [← hn] at IN i0 i2
  obtain ⟨m, hm⟩ : ∃ m, m = I.arcs.length := ⟨_, rfl⟩
  rw [← hm] at i1 i3
  have HN := Lib.hid i0
  have HM := Lib.hid hm.symm
  have FT := Lib.hid i3
  obtain ⟨n1, n7⟩ := i2
  have KN := Lib.hid (fun w => known_any C w)
  have NW := Lib.hid (fun w (A : Option Addr) (B : Option Addr) (cc dd : Nat) (h : Here w A B n m I) => O.own A B cc dd n m I w h (by omega) (by omega))
  -- the place asked for
  obtain ⟨K2, hK2⟩ : ∃ K, K = k8 % n := ⟨_, rfl⟩
  have l2 : K2 ≤ k8 := by rw [hK2]; exact Nat.mod_le _ _
  have w0 : IntKind.i64.wrap (k8 : Int) = (k8 : Int) := wrap_id (by omega) (by omega)
  have q2 : (k8 : Int) % (n : Int) = (K2 : Int) := by rw [hK2]; omega
  have tm2 : (k8 : Int).tmod (n : Int) = (K2 : Int) := by rw [Int.tmod_eq_emod_of_nonneg (by omega)]; exact q2
  have tw2 : (IntKind.i64.wrap (k8 : Int)).tmod (n : Int) = (K2 : Int) := by rw [w0]; exact tm2
  have n0 : ¬ n = 0 := by omega
  clear hI hn hm i0 i3 hs hs' hx hy hK2 O
  go_enter Try.func5, Try.ntmps5
  go_upto_region 2 with (go_at_call 11; (with_reducible refine (IN.out _ (Below.refl _ _)).mono ?_); rintro e w1 ⟨sA, aV, rfl, hM⟩; obtain ⟨-, A, ca, ea, -, -, -⟩ := own_cells hM.arcs; subst ea; rw [HM.out] at hM; rw [HM.out]; have M1 := Lib.hid hM; clear hM)
  obtain ⟨p, hp⟩ : ∃ p, p = w1.heap.size := ⟨_, rfl⟩
  obtain ⟨W2, hW2⟩ : ∃ W2, W2 = w1.alloc (.cells #[.slice (some ⟨sA, 0, none⟩) n n, .slice A m ca] 25) := ⟨_, rfl⟩
  have M2 := Lib.hid (show Made W W2 sA (.slice A m ca) I.sup I.arcs by rw [hW2]; exact M1.out.alloc _)
  have BP := Lib.hid (show Blk W2 p 25 #[.slice (some ⟨sA, 0, none⟩) n n, .slice A m ca] by rw [hW2]; exact blk_at hp.symm _ _)
  have PN := Lib.hid (show ∀ g, (Value.slice A m ca).ownBlock = some g → g < p from fun g hg => by rw [hp]; exact own_lt M1.out.arcs g hg)
  have HI := Lib.hid (Made.here M2.out (I := I) HN.out HM.out (by omega) (by omega))
  rw [← hW2, ← hp]
  clear hp hW2 M1
  have x0 := BP.out.cell 0
  have x1 := BP.out.cell 1
  have x2 := BP.out.lt
  simp at x0 x1
  go_upto_region 3 with (go_at_call 13; (with_reducible refine (NW.out _ _ _ _ _ HI.out).mono ?_); rintro e w3 ⟨g, rfl, hb, hg⟩; have G3 := Lib.hid hg; have M3 := Lib.hid (M2.out.step hb); have BP3 := Lib.hid (BP.out.below hb BP.out.lt); clear hg hb)
  clear x0 x1 x2
  go_wp2_with fail
  go_loopw [9] (fun s u => SpoilRel W w3 W2.heap.size p sA A n m ca I s u) (fun s _ => m - (intOf s).toNat)
  case atStart => exact ⟨0, I.arcs, by omega, rfl, HM.out, M3.out, BP3.out, Above.refl _ _⟩
  case round =>
    obtain ⟨k, L, hk, rfl, hL, hM, hQ, hA⟩ := hrel
    have MI := Lib.hid hM
    have BP2 := Lib.hid hQ
    have AB := Lib.hid hA
    have LL := Lib.hid hL
    have x0 := BP2.out.cell 0
    have x1 := BP2.out.cell 1
    have x2 := BP2.out.lt
    simp at x0 x1
    have oI : wr.ownsRow W.heap.size 41 5 (.slice A m ca) m (arcV L) := by have q := MI.out.arcs; rw [LL.out] at q; exact q
    clear hM hQ hA hL
    by_cases hlt : k < m
    · obtain ⟨gI, eI, lI, ⟨a0, -, -, a3, -⟩, fI⟩ := arc_cells oI LL.out k hlt
      subst eI
      have f0 := fI (k * 5)
      have gp := PN.out gI rfl
      have g2 : gI < W2.heap.size := by have := BP.out.lt; omega
      clear oI fI
      go_upto_region 9 with fail
      obtain ⟨u1, hu1⟩ : ∃ u1, u1 = wr.setCell ⟨gI, k * 5, none⟩ (.int .i64 0) := ⟨_, rfl⟩
      rw [← hu1]
      have MJ1 := Lib.hid (show Made W u1 sA (.slice (some ⟨gI, 0, none⟩) m ca) I.sup (L.set k (setF (arcAt L k) 0 0)) by rw [hu1]; exact made_set MI.out LL.out k 0 0 (by omega) hlt)
      have BQ1 := Lib.hid (show Blk u1 p 25 #[.slice (some ⟨sA, 0, none⟩) n n, .slice (some ⟨gI, 0, none⟩) m ca] by rw [hu1]; exact BP2.out.far (by show p ≠ gI; omega) _)
      have AB1 := Lib.hid (show Above w3 W2.heap.size u1 by rw [hu1]; exact AB.out.set_ gI _ _ g2)
      have TL1 := Lib.hid (show (L.set k (setF (arcAt L k) 0 0)).length = m by rw [List.length_set]; exact LL.out)
      have oJ : u1.ownsRow W.heap.size 41 5 (.slice (some ⟨gI, 0, none⟩) m ca) m (arcV (L.set k (setF (arcAt L k) 0 0))) := by have q := MJ1.out.arcs; rw [TL1.out] at q; exact q
      obtain ⟨g1, e1, lI1, ⟨-, -, -, d3, -⟩, fJ1⟩ := arc_cells oJ TL1.out k hlt
      cases e1
      have f2 := fJ1 (k * 5 + 3)
      generalize (arcAt (L.set k (setF (arcAt L k) 0 0)) k).cap = y3 at d3
      clear hu1 oJ fJ1 f0 a0 a3 x0 x1 x2 lI
      have x0 := BQ1.out.cell 0
      have x1 := BQ1.out.cell 1
      have x2 := BQ1.out.lt
      simp at x0 x1
      go_wp2_with fail
      refine ⟨⟨k + 1, _, by omega, by simp, ?_, made_set MJ1.out TL1.out k 3 1 (by omega) hlt, BQ1.out.far (by show p ≠ gI; omega) _, AB1.out.set_ gI _ _ g2⟩, by simp [intOf]; omega⟩
      rw [List.length_set]
      exact TL1.out
    · obtain rfl : k = m := by omega
      have GW := Lib.hid (G3.out wr AB.out.1 AB.out.2)
      have BWr := Lib.hid MI.out.below
      clear oI G3 M3 BP3 M2 BP PN HI NW MI BP2 AB LL L
      have ta : ¬ ((k : Int) < (k : Int)) := by omega
      go_upto_region 11 with (go_at_call 11; (with_reducible refine (IN.out _ BWr.out).mono ?_); rintro e w5 ⟨sB, aV, rfl, hM⟩; obtain ⟨-, B, cb, ea, -, -, -⟩ := own_cells hM.arcs; subst ea; rw [HM.out] at hM; rw [HM.out]; have M5 := Lib.hid hM; clear hM)
      obtain ⟨q, hq⟩ : ∃ q, q = w5.heap.size := ⟨_, rfl⟩
      obtain ⟨W6, hW6⟩ : ∃ W6, W6 = w5.alloc (.cells #[.slice (some ⟨sB, 0, none⟩) n n, .slice B k cb] 25) := ⟨_, rfl⟩
      have M6 := Lib.hid (show Made wr W6 sB (.slice B k cb) I.sup I.arcs by rw [hW6]; exact M5.out.alloc _)
      have BQ := Lib.hid (show Blk W6 q 25 #[.slice (some ⟨sB, 0, none⟩) n n, .slice B k cb] by rw [hW6]; exact blk_at hq.symm _ _)
      have HJ := Lib.hid (Made.here M6.out (I := I) HN.out HM.out (by omega) (by omega))
      have G6 := Lib.hid (C.later GW.out M6.out.below)
      have BW6 := Lib.hid (chain2 BWr.out M6.out.below)
      rw [← hW6, ← hq]
      clear hq hW6 M5 M6 GW BWr IN x0 x1 x2 ta
      have m9 : I.arcs.length ≤ 1000 := by rw [HM.out]; omega
      have jb : I64 (K2 : Int) := I64_small (by omega) (by omega)
      obtain ⟨lo, hlo⟩ : ∃ l, someD I (K2 : Int) true false = l := ⟨_, rfl⟩
      obtain ⟨lt, hlt2⟩ : ∃ l, someD I (K2 : Int) true true = l := ⟨_, rfl⟩
      have lo9 : lo.length ≤ 1000 := by rw [← hlo]; exact some_1000 _ _ _ _ m9
      have lt9 : lt.length ≤ 1000 := by rw [← hlt2]; exact some_1000 _ _ _ _ m9
      have OG := Lib.hid (fun u (hb : Below W6.heap.size W6 u) => (show Calls Try.prog 15 #[.pointer (some ⟨g, 0, none⟩), .int .i64 (K2 : Int)] u (TellsNats lo u) from by rw [← hlo]; exact C.out g I K2 u (C.later G6.out hb) jb))
      have K1 := Lib.hid (fun u (h : SQ W6 q (.slice (some ⟨sB, 0, none⟩) n n) (.slice B k cb) u) => OG.out u h.2.2)
      have K3 := Lib.hid (fun u (h : SQ W6 q (.slice (some ⟨sB, 0, none⟩) n n) (.slice B k cb) u) => rout_any (some ⟨sB, 0, none⟩) B n cb n k I (K2 : Int) lo hlo u (HJ.out.later h.2.2) (by omega))
      have K4 := Lib.hid (fun u (h : SQ W6 q (.slice (some ⟨sB, 0, none⟩) n n) (.slice B k cb) u) => (show Calls Try.prog 18 #[.pointer (some ⟨g, 0, none⟩), .int .i64 (K2 : Int)] u (TellsNats lt u) from by rw [← hlt2]; exact C.at_ g I K2 u (C.later G6.out h.2.2) jb))
      have K5 := Lib.hid (fun u (h : SQ W6 q (.slice (some ⟨sB, 0, none⟩) n n) (.slice B k cb) u) => rat_any (some ⟨sB, 0, none⟩) B n cb n k I (K2 : Int) lt hlt2 u (HJ.out.later h.2.2) (by omega))
      have I1 := Lib.hid (fun E F e f w' g1 g2 => ints_same E F lo lo.length e f rfl (by omega) w' g1 g2)
      have I3 := Lib.hid (fun E F e f w' g1 g2 => ints_same E F lt lt.length e f rfl (by omega) w' g1 g2)
      have AR := Lib.hid (fun (a : Nat) u (ha : a < k) (hb : Below W6.heap.size W6 u) => (show Calls Try.prog 20 #[.pointer (some ⟨g, 0, none⟩), .int .i64 (a : Int)] u (TellsArc (arcAt I.arcs a) true u) from by
        have r := C.arc g I (a : Int) u (C.later G6.out hb) (I64_small (by omega) (by omega))
        have f := FT.out a ha
        rw [f] at r
        unfold arcD at r
        rw [if_pos f, Int.toNat_natCast] at r
        exact r))
      obtain ⟨T, hT⟩ : ∃ T, T = lo.length := ⟨_, rfl⟩
      have HT := Lib.hid hT
      have YQ := Lib.hid (fun u (h : Below W6.heap.size W6 u) => (show u.cell? ⟨q, 0, none⟩ = some (.slice (some ⟨sB, 0, none⟩) n n) ∧ u.cell? ⟨q, 1, none⟩ = some (.slice B k cb) ∧ q < u.heap.size from ⟨(BQ.out.below h BQ.out.lt).cell 0, (BQ.out.below h BQ.out.lt).cell 1, (BQ.out.below h BQ.out.lt).lt⟩))
      have q9 := BQ.out.lt
      obtain ⟨x0, x1, x2⟩ := YQ.out _ (Below.refl _ _)
      clear hlo hlt2 jb m9 C G6 FT hT
      go_upto_region 13 with (go_at_call 15; (with_reducible refine (OG.out _ (Below.refl _ _)).mono ?_); rintro e w7 ⟨NA, c7, rfl, _, _, hb, no⟩; have B7 := Lib.hid hb; have O7 := Lib.hid no; clear hb no)
      rw [← HT.out] at O7 ⊢
      have t9 : T ≤ 1000 := by rw [HT.out]; exact lo9
      clear x0 x1 x2
      go_wp2_with fail
      go_loopw [13] (fun s u => NineRel W6 NA T c7 s u) (fun s _ => T - (intOf s).toNat)
      case atStart => exact ⟨0, _, by omega, rfl, O7.out, B7.out⟩
      case round =>
        obtain ⟨j, vs, hj, rfl, ho, hb⟩ := hrel
        have OV := Lib.hid ho
        have HB := Lib.hid hb
        by_cases hlt : j < T
        · have vl : vs.length = T := by have := ho.1; omega
          have ge := own_ge ho
          obtain ⟨gN, rfl, lN, cN, fN⟩ := own_at ho (by omega)
          have c0 := cN j (by omega)
          have f0 := fN j
          generalize vs[j] = y3 at c0
          have ge := ge gN rfl
          clear ho hb cN fN
          go_wp2_with fail
          exact ⟨⟨j + 1, _, by omega, by simp, own_set OV.out j _, HB.out.setCell ge _⟩, by simp [intOf]; omega⟩
        · obtain rfl : j = T := by omega
          have ta : ¬ ((j : Int) < (j : Int)) := by omega
          clear ho hb OV O7 B7 OG
          go_wp2_with fail
          go_loopw [14] (fun s u => SeeRel W6 k s u) (fun s _ => k - (intOf s).toNat)
          case atStart => exact ⟨0, by omega, rfl, HB.out⟩
          case round =>
            obtain ⟨a, ha, rfl, hb⟩ := hrel
            replace HB := Lib.hid hb
            obtain ⟨x0, x1, x2⟩ := YQ.out _ hb
            clear hb
            by_cases hlt2 : a < k
            · obtain ⟨x, hx⟩ : ∃ x, x = arcAt I.arcs a := ⟨_, rfl⟩
              have AA := Lib.hid (AR.out a wr hlt2 HB.out)
              rw [← hx] at AA
              have HX := Lib.hid hx
              clear hx
              go_upto_region 21 with (go_at_call 20; (with_reducible refine AA.out.mono ?_); rintro e w8 ⟨rfl, hb⟩; have B8 := Lib.hid (chain2 HB.out hb); clear hb)
              obtain ⟨r, hr⟩ : ∃ r, r = w8.heap.size := ⟨_, rfl⟩
              obtain ⟨W9, hW9⟩ : ∃ W9, W9 = w8.alloc (.cells (arcCs x) 41) := ⟨_, rfl⟩
              have BR := Lib.hid (show Blk W9 r 41 (arcCs x) by rw [hW9]; exact blk_at hr.symm _ _)
              have B9 := Lib.hid (show Below W6.heap.size W6 W9 by rw [hW9]; exact B8.out.alloc B8.out.size _)
              rw [← hW9, ← hr]
              obtain ⟨ib, io, ei, _, d0, d1, d2, d3, d4⟩ := (HJ.out.later B9.out).arc a hlt2
              rw [← HX.out] at d0 d1 d2 d3 d4
              have EI := Lib.hid ei
              clear hr hW9 x0 x1 x2
              obtain ⟨x0, x1, x2⟩ := YQ.out _ B9.out
              rw [ei] at x1
              have y0 := BR.out.cell 0
              have y1 := BR.out.cell 1
              have y2 := BR.out.cell 2
              have y3 := BR.out.cell 3
              have y4 := BR.out.cell 4
              simp at y0 y1 y2 y3 y4
              have nq := fun w => neq_arc x x w
              rw [decide_eq_true rfl] at nq
              have j0 : (0 : Int) ≤ (a : Int) := by omega
              have j1 : (a : Int) < (k : Int) := by omega
              clear ei
              go_wp2_with fail
              go_quiet (fail)
              go_wp2_with fail
              exact ⟨⟨a + 1, by omega, by simp, below_drewN B9.out _⟩, by simp [intOf]; omega⟩
            · obtain rfl : a = k := by omega
              have tb : ¬ ((a : Int) < (a : Int)) := by omega
              clear YQ AR HJ BQ
              go_wp2_with fail
              go_region_held3 (fun u => u.cell? ⟨q, 0, none⟩ = some (.slice (some ⟨sB, 0, none⟩) n n) ∧ u.cell? ⟨q, 1, none⟩ = some (.slice B a cb) ∧ Below W6.heap.size W6 u)
                (first | exact ⟨x0, x1, HB.out.drew⟩ | exact keep2 q9 ⟨x0, x1, HB.out.drew⟩ hb | exact keep2 q9 (by assumption) hb)
                (first
            | (go_at_call 10; (refine (KN.out _).mono ?_); rintro e wn ⟨rfl, hb⟩)
            | (go_at_call 15; (with_reducible refine (K1.out _ (by assumption)).mono ?_); rintro e wn ⟨NB, c7, rfl, _, nc, hb, _⟩; have T1 := Lib.hid nc; clear nc)
            | (go_at_call 22; (with_reducible refine (K3.out _ (by assumption)).mono ?_); rintro e wn ⟨NB, c7, rfl, _, nc, hb, _⟩; have T2 := Lib.hid nc; have T3 := Lib.hid (T1.out.later (Nat.le_refl _) hb); clear nc)
            | (go_at_call 21; (with_reducible refine (I1.out _ _ _ _ _ T3.out T2.out).mono ?_); rintro e wn ⟨rfl, hb⟩)
            | (go_at_call 18; (with_reducible refine (K4.out _ (by assumption)).mono ?_); rintro e wn ⟨NB, c7, rfl, _, nc, hb, _⟩; have T4 := Lib.hid nc; clear nc)
            | (go_at_call 23; (with_reducible refine (K5.out _ (by assumption)).mono ?_); rintro e wn ⟨NB, c7, rfl, _, nc, hb, _⟩; have T5 := Lib.hid nc; have T6 := Lib.hid (T4.out.later (Nat.le_refl _) hb); clear nc)
            | (go_at_call 21; (with_reducible refine (I3.out _ _ _ _ _ T6.out T5.out).mono ?_); rintro e wn ⟨rfl, hb⟩))
              all_goals
                rename_i hs
                have H9 := Lib.hid (show Below W6.heap.size W6 _ from hs.2.2)
                clear hs
                go_wp2_with fail
                go_ret
                exact ⟨rfl, chain2 BW6.out H9.out⟩
end Go.Proofs.Ytldjlclinckblaa.Adj
