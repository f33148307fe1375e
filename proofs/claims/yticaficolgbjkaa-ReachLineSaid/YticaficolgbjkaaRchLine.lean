/- The law ReachLine: its walk (a draft). -/
import Derived.Test.YticaficolgbjkaaRchLineMath
import Derived.Deep.QuietTactic
import Derived.BigQuiet
namespace Go.Proofs.Yticaficolgbjkaa.Rch
open Go.RowKit Go.Proofs.Yticaficolgbjkaa.Inst Go.Proofs.Yticaficolgbjkaa.Adj
set_option maxRecDepth 100000

/-- What stands where, with the first k arcs made. -/
structure LV (W : World) (p sb m : Nat) (Z : Array Value) (k : Nat) (L : List ArcD) (A : Option Addr) (c : Nat) (u : World) : Prop where
  own : u.ownsRow W.heap.size 37 5 (.slice A k c) k (arcV L)
  pp : Blk u p 25 #[.slice (some ⟨sb, 0, none⟩) m m, .slice A k c]
  ss : Blk u sb 2 Z
  np : (Value.slice A k c).ownBlock ≠ some p
  ns : (Value.slice A k c).ownBlock ≠ some sb
  below : Below W.heap.size W u
theorem LV.later {W u v : World} {p sb m k c : Nat} {Z : Array Value} {L : List ArcD} {A : Option Addr} (h : LV W p sb m Z k L A c u) (hb : Below u.heap.size u v) : LV W p sb m Z k L A c v :=
  ⟨own_later h.own hb, h.pp.below hb h.pp.lt, h.ss.below hb h.ss.lt, h.np, h.ns, chain2 h.below hb⟩
theorem LV.far {W u : World} {p sb m k c : Nat} {Z : Array Value} {L : List ArcD} {A : Option Addr} (h : LV W p sb m Z k L A c u) {b : Nat} (h1 : p ≠ b) (h2 : sb ≠ b) (h3 : (Value.slice A k c).ownBlock ≠ some b) (h4 : W.heap.size ≤ b) (o : Nat) (v : Value) : LV W p sb m Z k L A c (u.setCell ⟨b, o, none⟩ v) :=
  ⟨own_far h.own (p := ⟨b, o, none⟩) h3 v, h.pp.far (p := ⟨b, o, none⟩) h1 v, h.ss.far (p := ⟨b, o, none⟩) h2 v, h.np, h.ns, h.below.setCell (p := ⟨b, o, none⟩) h4 v⟩
/-- One more arc. -/
theorem LV.app {W u w' : World} {p sb m k c g cap : Nat} {Z : Array Value} {L : List ArcD} {A : Option Addr} (h : LV W p sb m Z k L A c u) (o : Obj) (X : ArcD) (hp : W.heap.size ≤ p)
    (ho : w'.ownsRow W.heap.size 37 5 (.slice (some ⟨g, 0, none⟩) (k + 1) cap) (k + 1) (arcV L ++ [nv X.frm, nv X.to, nv X.low, nv X.cap, nv X.cost])) (hg : (u.alloc o).grownBy w' (Value.slice A k c).ownBlock) (hat : (Value.slice A k c).ownBlock = some g ∨ g = (u.alloc o).heap.size) :
    LV W p sb m Z (k + 1) (L ++ [X]) (some ⟨g, 0, none⟩) cap (w'.setCell ⟨p, 1, none⟩ (.slice (some ⟨g, 0, none⟩) (k + 1) cap)) := by
  have z := h.pp.lt
  have z2 := h.ss.lt
  have zs : (u.alloc o).heap.size = u.heap.size + 1 := World.size_alloc _ _
  have gp : g ≠ p := by
    rcases hat with e | e
    · intro q; subst q; exact h.np e
    · omega
  have gs : g ≠ sb := by
    rcases hat with e | e
    · intro q; subst q; exact h.ns e
    · omega
  have B1 : Blk w' p 25 #[.slice (some ⟨sb, 0, none⟩) m m, .slice A k c] := (hg.block p (by omega) (fun e => h.np e.symm)).trans (h.pp.alloc o)
  have B2 : Blk w' sb 2 Z := (hg.block sb (by omega) (fun e => h.ns e.symm)).trans (h.ss.alloc o)
  have ps : sb ≠ p := by
    intro e
    have q := h.ss
    rw [e] at q
    have q2 := h.pp.symm.trans q
    simp at q2
  refine ⟨?_, B1.set_ 1 _, B2.far (p := ⟨p, 1, none⟩) ps _, fun e => gp (by simpa [Value.ownBlock] using e), fun e => gs (by simpa [Value.ownBlock] using e), ((h.below.alloc h.below.size o).grown hg (by rw [zs]; have := h.below.size; omega) (own_ge h.own)).setCell (p := ⟨p, 1, none⟩) hp _⟩
  have e : arcV (L ++ [X]) = arcV L ++ [nv X.frm, nv X.to, nv X.low, nv X.cap, nv X.cost] := by simp [arcV, flat, ArcD.nums, numV]
  rw [e]
  exact own_far ho (p := ⟨p, 1, none⟩) (fun q => gp (by simpa [Value.ownBlock] using q)) _
structure LW (W : World) (p sb m : Nat) (Z : Array Value) (k : Nat) (L : List ArcD) (A : Option Addr) (c : Nat) (u : World) : Prop extends LV W p sb m Z k L A c u where
  line : LineL L k
theorem LW.later {W u v : World} {p sb m k c : Nat} {Z : Array Value} {L : List ArcD} {A : Option Addr} (h : LW W p sb m Z k L A c u) (hb : Below u.heap.size u v) : LW W p sb m Z k L A c v := ⟨h.toLV.later hb, h.line⟩
theorem LW.far {W u : World} {p sb m k c : Nat} {Z : Array Value} {L : List ArcD} {A : Option Addr} (h : LW W p sb m Z k L A c u) {b : Nat} (h1 : p ≠ b) (h2 : sb ≠ b) (h3 : (Value.slice A k c).ownBlock ≠ some b) (h4 : W.heap.size ≤ b) (o : Nat) (v : Value) : LW W p sb m Z k L A c (u.setCell ⟨b, o, none⟩ v) := ⟨h.toLV.far h1 h2 h3 h4 o v, h.line⟩
theorem ring_is {L : List ArcD} {m : Nat} {X : ArcD} (h : LineL L (m - 1)) (h1 : 1 ≤ m) (hx : X.frm = ((m - 1 : Nat) : Int)) (hy : X.to = 0) : strongL ⟨List.replicate m 0, L ++ [X]⟩ = List.replicate m 0 := by
  have hl : ∀ i, i < m - 1 → arcAt (L ++ [X]) i = arcAt L i := fun i hi => by
    unfold arcAt; rw [List.getD_eq_getElem?_getD, List.getD_eq_getElem?_getD, List.getElem?_append_left (by rw [h.1]; exact hi)]
  have hz : arcAt (L ++ [X]) (m - 1) = X := by
    unfold arcAt; rw [List.getD_eq_getElem?_getD, List.getElem?_append_right (by rw [h.1]; exact Nat.le_refl _), h.1, Nat.sub_self]; rfl
  have hn : (L ++ [X]).length = m := by rw [List.length_append, h.1]; simp; omega
  refine ring_strong (by simp) (fun i hi => ?_) ?_
  · have q := h.2 i (by omega)
    rw [← hl i (by omega)] at q
    exact ⟨i, line_fit (m := m) (by simp) (by show i < (L ++ [X]).length; omega) q hi, q.1, q.2⟩
  · refine ⟨m - 1, ?_, by show (arcAt (L ++ [X]) (m - 1)).frm = _; rw [hz]; exact hx, by show (arcAt (L ++ [X]) (m - 1)).to = _; rw [hz]; exact hy⟩
    unfold fitD
    simp only [Int.toNat_natCast, hz, hn, List.length_replicate]
    exact decide_eq_true ⟨by omega, by omega, by rw [hx]; omega, by rw [hx]; omega, by rw [hy]; omega, by rw [hy]; omega⟩
def LineRel (W : World) (p sb m : Nat) (Z : Array Value) (s : Value) (u : World) : Prop := ∃ (k : Nat) (L : List ArcD) (A : Option Addr) (c : Nat), k + 1 ≤ m ∧ s = .int .i64 (k : Int) ∧ LW W p sb m Z k L A c u

theorem info_int' : (Try.prog.info? 3).map (fun i => (i.zero, i.size, i.bytes)) = some (some (.int .i64 0), 1, 8) := by kernel_rfl
theorem make_ints (n : Nat) (hn : n ≤ 1000) (W : World) : (Instr.makeSlice 26 (.int .i64 (n : Int)) (.int .i64 (n : Int))).run Try.prog W = .ok (.slice (some ⟨W.heap.size, 0, none⟩) n n) (W.alloc (.cells (numV (List.replicate n 0)).toArray 3)) := by
  obtain ⟨i0, hi0, hz0, hz1, hz2⟩ := info_parts info_int'
  have h := run_make (P := Try.prog) W 26 3 i0 (.int .i64 0) Try.underlying26 hi0 hz0 .i64 .i64 (n : Int) (n : Int) (by omega) (by omega) (by rw [hz2]; omega) (by omega)
  rw [h, hz1, Int.toNat_natCast, Nat.mul_one]
  congr 3
  exact Inst.zeros_eq n
theorem nat_zeros (m : Nat) : natV (List.replicate m 0) = numV (List.replicate m 0) := by simp [natV]

set_option maxHeartbeats 16000000 in
theorem line_walk {W : World} (a0 : Int) (h0 : U8 a0) (a1 : Int) (h1 : U8 a1) :
    Calls Try.prog 9 #[.int .u8 a0, .int .u8 a1] W fun e W' => e = .returned (.bool true) ∧ Below W.heap.size W W' := by
  unfold U8 at h0 h1
  obtain ⟨i0, hi0, hz0, hz1, hz2⟩ := info_parts info_arc
  have G0 := Lib.hid hi0
  have G1 := Lib.hid hz0
  have G2 := Lib.hid hz1
  have G3 := Lib.hid hz2
  clear hi0 hz0 hz1 hz2
  obtain ⟨x0, rfl⟩ : ∃ n : Nat, a0 = n := ⟨a0.toNat, by omega⟩
  obtain ⟨x1, rfl⟩ : ∃ n : Nat, a1 = n := ⟨a1.toNat, by omega⟩
  obtain ⟨m, hm⟩ : ∃ m : Nat, m = 1 + x0 % 12 := ⟨_, rfl⟩
  have m12 : m ≤ 12 := by omega
  have m1 : 1 ≤ m := by omega
  have IN := Lib.hid (inst_here (n := 1) (m := 0) (I := instC [] []) none 0 0 [] rfl (by omega) (by intro x hx; cases hx) none 0 0 [] rfl (by omega) (by intro x hx; cases hx) rfl rfl (by decide +kernel) W (by intro h; simp [octV] at h) (by intro h; simp [octV] at h))
  have HM := Lib.hid (show (1 : Int) + (x0 : Int) % 12 = (m : Int) by omega)
  have MK := make_any m (by omega)
  obtain ⟨Z, hZ⟩ : ∃ Z, Z = (numV (List.replicate m 0)).toArray := ⟨_, rfl⟩
  rw [← hZ] at MK
  have HZ := Lib.hid hZ
  clear hZ hm
  go_enter Try.func9, Try.ntmps9
  go_wp2_with fail
  refine IN.out.mono ?_
  rintro e w1 ⟨sA, A, ca, rfl, hM, -, hb⟩
  rw [HM.out]
  obtain ⟨p, hp⟩ : ∃ p, p = w1.heap.size := ⟨_, rfl⟩
  have HP := Lib.hid hp
  have HB := Lib.hid hb
  have HMd := Lib.hid hM
  clear hM hb hp
  go_upto_region 5 with fail
  rw [← HP.out]
  obtain ⟨W3, hW3⟩ : ∃ W3, W3 = (w1.alloc (.cells #[.slice (some ⟨p + 1, 0, none⟩) m m, .slice A 0 ca] 25)).alloc (.cells Z 2) := ⟨_, rfl⟩
  have F3 := Lib.hid (show LW W p (p + 1) m Z 0 [] A ca W3 by
    have ap := own_lt HMd.out.arcs
    have o := (HMd.out.arcs.alloc (.cells #[.slice (some ⟨p + 1, 0, none⟩) m m, .slice A 0 ca] 25)).alloc (.cells Z 2)
    rw [hW3]
    refine ⟨⟨o, (blk_at HP.out.symm _ _).alloc _, blk_at (by simp [HP.out]) _ _, fun e => ?_, fun e => ?_, (HB.out.alloc HB.out.size _).alloc (by have := HB.out.size; simp; omega) _⟩, ⟨rfl, fun i hi => absurd hi (by omega)⟩⟩
    · have := ap _ e; have := HP.out; omega
    · have := ap _ e; have := HP.out; omega)
  rw [← hW3]
  clear hW3
  go_loopw [7] (fun s u => LineRel W p (p + 1) m Z s u) (fun s _ => m - (intOf s).toNat)
  case atStart => exact ⟨0, [], A, ca, by omega, rfl, F3.out⟩
  case round =>
    obtain ⟨k, L, A', c', hk, rfl, hF⟩ := hrel
    have F := Lib.hid hF
    clear hF
    by_cases hlt : k + 1 < m
    · have t1 : (k : Int) + 1 < (m : Int) := by omega
      have FZ := Lib.hid (F.out.later ((Below.refl _ _).alloc (Nat.le_refl _) (.cells #[.int .u8 0, .int .u8 0, .int .u8 0, .int .u8 0] 5)))
      have AR := Lib.hid (arcs_eq (some ⟨wr.heap.size, 0, none⟩) 4 [0, 0, 0, 0] (by intro x hx; simp at hx; subst hx; omega) (by simp) 1 1 rfl (by omega) (by omega) (wr.alloc (.cells #[.int .u8 0, .int .u8 0, .int .u8 0, .int .u8 0] 5)) (cells_blk (t := 5) (vs := [.int .u8 0, .int .u8 0, .int .u8 0, .int .u8 0]) (Blk.new _ _ _)))
      go_wp2_with fail
      refine AR.out.mono ?_
      rintro e v1 ⟨v, rfl, ho, hb⟩
      obtain ⟨-, G, gc, rfl, -, -, -⟩ := own_cells ho
      have F1 := Lib.hid (FZ.out.later hb)
      have l1 : (arcsC 1 [0, 0, 0, 0]).length = 1 := by rw [arcsC_length]; rfl
      rw [l1] at ho ⊢
      obtain ⟨g, eg, lg, ⟨b0, b1, b2, b3, b4⟩, -⟩ := arc_cells ho l1 0 (by omega)
      subst eg
      obtain ⟨Y, hY⟩ : ∃ Y, Y = arcAt (arcsC 1 [0, 0, 0, 0]) 0 := ⟨_, rfl⟩
      rw [← hY] at b0 b1 b2 b3 b4
      rw [Nat.zero_mul] at b0 b1 b2 b3 b4
      clear ho hb hY AR FZ l1
      go_upto_region 8 with fail
      obtain ⟨ab, hab⟩ : ∃ ab, ab = v1.heap.size := ⟨_, rfl⟩
      obtain ⟨v2, hv2⟩ : ∃ v2, v2 = v1.alloc (.cells #[.int .i64 Y.frm, .int .i64 Y.to, .int .i64 Y.low, .int .i64 Y.cap, .int .i64 Y.cost] 37) := ⟨_, rfl⟩
      have F2 := Lib.hid (show LW W p (p + 1) m Z k L A' c' v2 by rw [hv2]; exact F1.out.later ((Below.refl _ _).alloc (Nat.le_refl _) _))
      have A2 := Lib.hid (show Blk v2 ab 37 #[.int .i64 Y.frm, .int .i64 Y.to, .int .i64 Y.low, .int .i64 Y.cap, .int .i64 Y.cost] by rw [hv2]; exact blk_at hab.symm _ _)
      have NE := Lib.hid (show p ≠ ab ∧ p + 1 ≠ ab ∧ (Value.slice A' k c').ownBlock ≠ some ab ∧ W.heap.size ≤ ab by
        have q1 := F1.out.pp.lt
        have q2 := F1.out.ss.lt
        have q3 := F1.out.below.size
        exact ⟨by omega, by omega, fun e => by have := own_lt F1.out.own _ e; omega, by omega⟩)
      rw [← hv2, ← hab]
      clear hv2 hab b0 b1 b2 b3 b4 lg
      have y0 := A2.out.cell 0
      have y1 := A2.out.cell 1
      have y2 := A2.out.lt
      have y3 := A2.out.frozen 0
      have y4 := A2.out.frozen 1
      simp at y0 y1
      go_upto_region 10 with fail
      obtain ⟨v3, hv3⟩ : ∃ v3, v3 = (v2.setCell ⟨ab, 0, none⟩ (.int .i64 (k : Int))).setCell ⟨ab, 1, none⟩ (.int .i64 ((k : Int) + 1)) := ⟨_, rfl⟩
      have F4 := Lib.hid (show LW W p (p + 1) m Z k L A' c' v3 by rw [hv3]; exact (F2.out.far NE.out.1 NE.out.2.1 NE.out.2.2.1 NE.out.2.2.2 0 _).far NE.out.1 NE.out.2.1 NE.out.2.2.1 NE.out.2.2.2 1 _)
      have A4 := Lib.hid (show Blk v3 ab 37 #[.int .i64 (k : Int), .int .i64 ((k : Int) + 1), .int .i64 Y.low, .int .i64 Y.cap, .int .i64 Y.cost] by rw [hv3]; exact (A2.out.set_ 0 _).set_ 1 _)
      rw [← hv3]
      clear hv3 y0 y1 y2 y3 y4
      have y0 := A4.out.cell 0
      have y1 := A4.out.cell 1
      have y2 := A4.out.cell 2
      have y3 := A4.out.cell 3
      have y4 := A4.out.cell 4
      have y5 := A4.out.lt
      simp at y0 y1 y2 y3 y4
      have x0 := F4.out.pp.cell 0
      have x1 := F4.out.pp.cell 1
      have x2 := F4.out.pp.lt
      simp at x0 x1
      have WP := Lib.hid (show W.heap.size ≤ p from by have := HB.out.size; have := HP.out; omega)
      have FIN := Lib.hid (fun g cap w' ho hg hat => (show LW W p (p + 1) m Z (k + 1) _ _ _ _ from ⟨F4.out.toLV.app (g := g) (cap := cap) (w' := w') (.cells #[.int .i64 (k : Int), .int .i64 ((k : Int) + 1), .int .i64 Y.low, .int .i64 Y.cap, .int .i64 Y.cost] 37) ⟨k, (k : Int) + 1, Y.low, Y.cap, Y.cost⟩ WP.out ho hg hat, F4.out.line.snoc rfl (by simp)⟩))
      go_wp2_with (
        at_builtin
        refine wpList_append_lies _ rfl _ _ 23 rfl W.heap.size 37 i0 _ 5 40 Try.underlying23 G0.out G1.out G2.out G3.out rfl (by decide) (.slice A' k c') _ _ rfl (F4.out.own.alloc _) ⟨v3.heap.size, 0, none⟩ 1 1 [nv (k : Int), nv ((k : Int) + 1), nv Y.low, nv Y.cap, nv Y.cost] rfl rfl ?c1 ?c2 (by omega) ?c3 ?c4 ?c5 _ rfl ?_
        case c1 => exact cell_five_at rfl _ _ _ _ _ _
        case c2 => simp [Value.oneCell', nv]
        case c3 => simp only [maxLen]; omega
        case c4 => omega
        case c5 => have := F4.out.below.size; simp; omega
        intro g' cap w' hown hgrow hat hlt'
        have F5 := Lib.hid (FIN.out g' cap w' hown hgrow hat)
        have z1 := (hgrow.cell_far ⟨p, 1, none⟩ (by simp; omega) (fun e => F4.out.np e.symm)).trans ((F4.out.pp.alloc _).cell 1)
        have z2 := (hgrow.frozen_far ⟨p, 1, none⟩ (by simp; omega) (fun e => F4.out.np e.symm)).trans ((F4.out.pp.alloc _).frozen 1)
        have z3 : p < w'.heap.size := by have := hgrow.size; simp at this; omega
        simp at z1
        clear hown hgrow hat)
      exact ⟨⟨k + 1, _, _, _, by omega, by simp, F5.out⟩, by simp [intOf]; omega⟩
    · have km : k + 1 = m := by omega
      have t1 : ¬ ((k : Int) + 1 < (m : Int)) := by omega
      obtain ⟨J, hJ⟩ : ∃ J : InstD, J = ⟨List.replicate m 0, L⟩ := ⟨_, rfl⟩
      have JS := Lib.hid (show J.sup.length = m by rw [hJ]; simp)
      have JL := Lib.hid (show LineL J.arcs (m - 1) by rw [hJ, ← km]; exact F.out.line)
      have V0 : IVar wr p (some ⟨p + 1, 0, none⟩) A' m c' m k J := by
        refine ⟨F.out.pp, ⟨by rw [JS.out]; omega, by rw [JL.out.1]; omega, ?_, ?_⟩, JS.out, by rw [JL.out.1]; omega⟩
        · rw [hJ]
          have q := F.out.ss
          rw [HZ.out] at q
          exact cells_blk q
        · rw [hJ]
          exact own_row F.out.own
      have VI := Lib.hid (fun u (hu : Below wr.heap.size wr u) => V0.later hu)
      obtain ⟨v, hv⟩ : ∃ v, v = x1 % m := ⟨_, rfl⟩
      have v9 : v < m := by rw [hv]; exact Nat.mod_lt _ (by omega)
      have HV := Lib.hid (show (x1 : Int) % (m : Int) = (v : Int) by rw [hv]; rfl)
      have mz : (m : Int) ≠ 0 := by omega
      obtain ⟨w5, hw5⟩ : ∃ w5, w5 = wr := ⟨_, rfl⟩
      subst hw5
      obtain ⟨x0', x1', x2'⟩ := V0.cells
      have JA := Lib.hid hJ
      clear V0 hJ hv
      go_upto_region 12 with fail
      rw [HV.out]
      clear mz HM
      obtain ⟨v6, hv6⟩ : ∃ v6, v6 = w5.alloc (.cells #[.int .i64 (v : Int)] 3) := ⟨_, rfl⟩
      have BV := Lib.hid (show Below w5.heap.size w5 v6 by rw [hv6]; exact (Below.refl _ _).alloc (Nat.le_refl _) _)
      have OC := one_cells w5 v
      rw [← hv6] at OC
      have FO := Lib.hid (from_any _ _ (Option.some ⟨w5.heap.size, 0, none⟩) m c' 1 m _ 1 J [(v : Int)] v6 (VI.out _ BV.out).is (by omega) (by omega) (by intro x hx; simp at hx; subst hx; unfold I64; omega) rfl (by omega) OC)
      have V6 := Lib.hid hv6
      clear hv6 OC
      go_wp2_with fail
      rw [← V6.out]
      refine FO.out.mono ?_
      rintro e v7 hq
      rw [line_from JS.out JL.out v9] at hq
      obtain ⟨KA, kc, rfl, hcc, hb⟩ := marks_cells (show ((List.range m).map fun k => decide (v ≤ k)).length = m by simp) hq
      have B7 := Lib.hid (chain2 BV.out hb)
      have KC := Lib.hid hcc
      obtain ⟨x0', x1', x2'⟩ := (VI.out _ B7.out).cells
      have OR := Lib.hid (Order_any _ _ m c' m k J v7 (VI.out _ B7.out).is (by omega) (by omega))
      clear hq hcc hb FO V6 BV
      go_wp2_with fail
      refine OR.out.mono ?_
      rintro e v8 ⟨TA, tc, rfl, -, hc, hb⟩
      rw [line_told JS.out JL.out, line_ok JS.out JL.out, List.length_range]
      rw [line_told JS.out JL.out] at hc
      have B8 := Lib.hid (chain2 B7.out hb)
      have KC8 := Lib.hid (KC.out.later (Nat.le_refl _) hb)
      have TC8 := Lib.hid hc
      have tq : ((m : Int) != (m : Int)) = false := by simp
      clear hc hb OR KC B7
      go_wp2_with fail
      go_loopw [13] (fun s13 u => StillK v8 m s13 u) (fun s13 _ => m - (intOf s13).toNat)
      case atStart => exact ⟨0, Nat.zero_le _, rfl, rfl⟩
      case round =>
        obtain ⟨j, hj, rfl, rfl⟩ := hrel
        by_cases hlt2 : j < m
        · obtain ⟨kb, ko, ek, lk, hkc⟩ := bools_at KC8.out (by simp; omega)
          obtain ⟨tb, tof, et, lt, htc⟩ := nats_at TC8.out (by simp; omega)
          have c0 := hkc j (by simp; omega)
          have c1 := htc j (by simp; omega)
          rw [List.getElem_range] at c1
          rw [List.getElem_map, List.getElem_range] at c0
          subst ek et
          have j0 : (0 : Int) ≤ (j : Int) := by omega
          have j1 : (j : Int) < (m : Int) := by omega
          have t2 : ((j : Int) != (j : Int)) = false := by simp
          clear hkc htc
          by_cases g : v ≤ j
          · rw [decide_eq_true g] at c0
            have g2 : (v : Int) ≤ (j : Int) := by omega
            go_wp2_with fail
            exact ⟨⟨j + 1, by omega, by simp, rfl⟩, by simp [intOf]; omega⟩
          · rw [decide_eq_false g] at c0
            have g2 : ¬ ((v : Int) ≤ (j : Int)) := by omega
            go_wp2_with fail
            exact ⟨⟨j + 1, by omega, by simp, rfl⟩, by simp [intOf]; omega⟩
        · obtain rfl : m = j := by omega
          have t2 : ¬ ((m : Int) < (m : Int)) := by omega
          have F8 := Lib.hid (F.out.later B8.out).toLV
          have FZ := Lib.hid (F8.out.later ((Below.refl _ _).alloc (Nat.le_refl _) (.cells #[.int .u8 0, .int .u8 0, .int .u8 0, .int .u8 0] 5)))
          have AR := Lib.hid (arcs_eq (some ⟨wr.heap.size, 0, none⟩) 4 [0, 0, 0, 0] (by intro x hx; simp at hx; subst hx; omega) (by simp) 1 1 rfl (by omega) (by omega) (wr.alloc (.cells #[.int .u8 0, .int .u8 0, .int .u8 0, .int .u8 0] 5)) (cells_blk (t := 5) (vs := [.int .u8 0, .int .u8 0, .int .u8 0, .int .u8 0]) (Blk.new _ _ _)))
          go_wp2_with fail
          refine AR.out.mono ?_
          rintro e z1 ⟨v, rfl, ho, hb⟩
          obtain ⟨-, G, gc, rfl, -, -, -⟩ := own_cells ho
          have F1 := Lib.hid (FZ.out.later hb)
          have l1 : (arcsC 1 [0, 0, 0, 0]).length = 1 := by rw [arcsC_length]; rfl
          rw [l1] at ho ⊢
          obtain ⟨g, eg, lg, ⟨b0, b1, b2, b3, b4⟩, -⟩ := arc_cells ho l1 0 (by omega)
          subst eg
          obtain ⟨Y, hY⟩ : ∃ Y, Y = arcAt (arcsC 1 [0, 0, 0, 0]) 0 := ⟨_, rfl⟩
          have YT := Lib.hid (show Y.to = 0 by rw [hY]; decide +kernel)
          rw [← hY] at b0 b1 b2 b3 b4
          rw [Nat.zero_mul] at b0 b1 b2 b3 b4
          clear ho hb hY AR FZ l1 x0' x1' x2'
          go_upto_region 22 with fail
          obtain ⟨ab, hab⟩ : ∃ ab, ab = z1.heap.size := ⟨_, rfl⟩
          obtain ⟨z2, hz2⟩ : ∃ z2, z2 = z1.alloc (.cells #[.int .i64 Y.frm, .int .i64 Y.to, .int .i64 Y.low, .int .i64 Y.cap, .int .i64 Y.cost] 37) := ⟨_, rfl⟩
          have F2 := Lib.hid (show LV W p (p + 1) m Z k L A' c' z2 by rw [hz2]; exact F1.out.later ((Below.refl _ _).alloc (Nat.le_refl _) _))
          have A2 := Lib.hid (show Blk z2 ab 37 #[.int .i64 Y.frm, .int .i64 Y.to, .int .i64 Y.low, .int .i64 Y.cap, .int .i64 Y.cost] by rw [hz2]; exact blk_at hab.symm _ _)
          have NE := Lib.hid (show p ≠ ab ∧ p + 1 ≠ ab ∧ (Value.slice A' k c').ownBlock ≠ some ab ∧ W.heap.size ≤ ab by
            have q1 := F1.out.pp.lt
            have q2 := F1.out.ss.lt
            have q3 := F1.out.below.size
            exact ⟨by omega, by omega, fun e => by have := own_lt F1.out.own _ e; omega, by omega⟩)
          rw [← hz2, ← hab]
          clear hz2 hab b0 b1 b2 b3 b4 lg
          have y0 := A2.out.cell 0
          have y1 := A2.out.cell 1
          have y2 := A2.out.lt
          have y3 := A2.out.frozen 0
          simp at y0 y1
          go_upto_region 23 with fail
          obtain ⟨z3, hz3⟩ : ∃ z3, z3 = z2.setCell ⟨ab, 0, none⟩ (.int .i64 ((m : Int) - 1)) := ⟨_, rfl⟩
          have F4 := Lib.hid (show LV W p (p + 1) m Z k L A' c' z3 by rw [hz3]; exact F2.out.far NE.out.1 NE.out.2.1 NE.out.2.2.1 NE.out.2.2.2 0 _)
          have A4 := Lib.hid (show Blk z3 ab 37 #[.int .i64 ((m : Int) - 1), .int .i64 Y.to, .int .i64 Y.low, .int .i64 Y.cap, .int .i64 Y.cost] by rw [hz3]; exact A2.out.set_ 0 _)
          rw [← hz3]
          clear hz3 y0 y1 y2 y3
          have y0 := A4.out.cell 0
          have y1 := A4.out.cell 1
          have y2 := A4.out.cell 2
          have y3 := A4.out.cell 3
          have y4 := A4.out.cell 4
          have y5 := A4.out.lt
          simp at y0 y1 y2 y3 y4
          have c0 := F4.out.pp.cell 0
          have c1 := F4.out.pp.cell 1
          have c2 := F4.out.pp.lt
          simp at c0 c1
          have WP := Lib.hid (show W.heap.size ≤ p from by have := HB.out.size; have := HP.out; omega)
          have FIN := Lib.hid (fun g cap w' ho hg hat => F4.out.app (g := g) (cap := cap) (w' := w') (.cells #[.int .i64 ((m : Int) - 1), .int .i64 Y.to, .int .i64 Y.low, .int .i64 Y.cap, .int .i64 Y.cost] 37) ⟨(m : Int) - 1, Y.to, Y.low, Y.cap, Y.cost⟩ WP.out ho hg hat)
          go_upto_region 24 with (
            at_builtin
            refine wpList_append_lies _ rfl _ _ 23 rfl W.heap.size 37 i0 _ 5 40 Try.underlying23 G0.out G1.out G2.out G3.out rfl (by decide) (.slice A' k c') _ _ rfl (F4.out.own.alloc _) ⟨z3.heap.size, 0, none⟩ 1 1 [nv ((m : Int) - 1), nv Y.to, nv Y.low, nv Y.cap, nv Y.cost] rfl rfl ?c1 ?c2 (by omega) ?c3 ?c4 ?c5 _ rfl ?_
            case c1 => exact cell_five_at rfl _ _ _ _ _ _
            case c2 => simp [Value.oneCell', nv]
            case c3 => simp only [maxLen]; omega
            case c4 => omega
            case c5 => have := F4.out.below.size; simp; omega
            intro g' cap w' hown hgrow hat hlt'
            have F5 := Lib.hid (FIN.out g' cap w' hown hgrow hat)
            have q1 := (hgrow.cell_far ⟨p, 1, none⟩ (by simp; omega) (fun e => F4.out.np e.symm)).trans ((F4.out.pp.alloc _).cell 1)
            have q2 := (hgrow.frozen_far ⟨p, 1, none⟩ (by simp; omega) (fun e => F4.out.np e.symm)).trans ((F4.out.pp.alloc _).frozen 1)
            have q3 : p < w'.heap.size := by have := hgrow.size; simp at this; omega
            simp at q1
            clear hown hgrow hat)
          obtain ⟨z5, hz5⟩ : ∃ z5, z5 = w'.setCell ⟨p, 1, none⟩ (.slice (some ⟨g', 0, none⟩) (k + 1) cap) := ⟨_, rfl⟩
          rw [← hz5] at F5
          replace F5 := F5.out
          rw [km] at hz5 F5
          replace F5 := Lib.hid F5
          obtain ⟨X, hX⟩ : ∃ X : ArcD, X = ⟨(m : Int) - 1, Y.to, Y.low, Y.cap, Y.cost⟩ := ⟨_, rfl⟩
          rw [← hX] at F5
          have SJ := Lib.hid (show strongL ⟨List.replicate m 0, L ++ [X]⟩ = List.replicate m 0 from ring_is (by rw [← km]; exact F.out.line) m1 (by rw [hX]; show (m : Int) - 1 = _; omega) (by rw [hX]; exact YT.out))
          have LL : L.length = k := F.out.line.1
          have V5 : IVar z5 p (some ⟨p + 1, 0, none⟩) (some ⟨g', 0, none⟩) m cap m m ⟨List.replicate m 0, L ++ [X]⟩ := by
            refine ⟨F5.out.pp, ⟨by simp; omega, by simp; omega, ?_, ?_⟩, by simp, by simp; omega⟩
            · have q := F5.out.ss
              rw [HZ.out] at q
              exact cells_blk q
            · exact own_row F5.out.own
          have VV := Lib.hid (fun u (hu : Below z5.heap.size z5 u) => V5.later hu)
          have ST := Lib.hid (fun u (hu : Below z5.heap.size z5 u) => (Strong_any _ _ m cap m m _ u (VV.out u hu).is (by omega) (by omega)).mono fun e w' h => strong_cells (show (List.replicate m 0).length = m by simp) (show TellsNats (List.replicate m 0) _ e w' from by rw [SJ.out] at h; exact h))
          have IC := Lib.hid (fun u A B c d ha hb => ints_same A B (List.replicate m 0) m c d (by simp) (by omega) u ha hb)
          have MI := make_ints m (by omega)
          obtain ⟨Q, hQ⟩ : ∃ Q, Q = (numV (List.replicate m 0)).toArray := ⟨_, rfl⟩
          rw [← hQ] at MI
          have HQ := Lib.hid (show ∀ u b, Blk u b 3 Q → Cells u u.heap.size (some ⟨b, 0, none⟩) (natV (List.replicate m 0)) from fun u b h => by rw [hQ] at h; rw [nat_zeros]; exact cells_blk h)
          have BZ := Lib.hid F5.out.below
          have KN := Lib.hid (fun u => known_any u)
          obtain ⟨e0, e1, e2⟩ := V5.cells
          rw [← hz5]
          clear hz5 hX V5 hQ q1 q2 q3 c0 c1 c2 y0 y1 y2 y3 y4 y5 MK F5 F4 A4 FIN NE
          go_region_with (first
            | (go_at_call 11; (refine (KN.out _).mono ?_); rintro e wn ⟨rfl, hb⟩; have D1 := Lib.hid (show Below z5.heap.size z5 wn from chain2 (Below.refl _ _).drew hb); obtain ⟨f0, f1, f2⟩ := (VV.out wn D1.out).cells; clear hb)
            | (go_at_call 18; (refine (ST.out _ ?bb).mono ?_); (case bb => (repeat (first | exact D1.out | refine Below.drew ?_ | refine Below.alloc ?_ (by have := D1.out.size; simp <;> omega) _))); rintro e ws ⟨FS, fs, rfl, hcc, hb⟩; have S1 := Lib.hid hcc; have D2 := Lib.hid hb; clear hcc hb)
            | (go_at_call 23; (refine (IC.out _ _ _ _ _ ?ca ?cb).mono ?_); (case ca => first | exact S1.out | exact S1.out.later (Nat.le_refl _) ((Below.refl _ _).alloc (Nat.le_refl _) _)); (case cb => first | exact HQ.out _ _ (Blk.new _ _ _) | exact HQ.out _ _ (Blk.below (Blk.new _ _ _) D2.out (by simp))); rintro e wt ⟨rfl, hb⟩; have D3 := Lib.hid hb; clear hb))
          all_goals
            go_wp2_with fail
            go_ret
            refine ⟨rfl, chain2 BZ.out (chain2 D1.out ?_)⟩
            first
              | exact chain2 ((Below.refl _ _).alloc (Nat.le_refl _) _) (chain2 D2.out D3.out)
              | exact chain2 D2.out (chain2 ((Below.refl _ _).alloc (Nat.le_refl _) _) D3.out)
end Go.Proofs.Yticaficolgbjkaa.Rch
