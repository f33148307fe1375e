/- The walk of UniteParts. -/
import Derived.Test.YtoccgpkpmhkeiaaUniP
import Derived.Test.YtoccgpkpmhkeiaaUniMathT
import Derived.Maps.AppendAt
import Derived.IntWalk
import Derived.Deep.RegionHeld3
import Derived.Test.YtoccgpkpmhkeiaaUniRg
namespace Go.Proofs.Ytoccgpkpmhkeiaa.Uni
open Go.RowKit Go.Proofs.Ytoccgpkpmhkeiaa.Inst
set_option linter.unusedVariables false

theorem zeros_int (n : Nat) : madeCells #[Value.int .i64 0] n = (natV (List.replicate n 0)).toArray := by
  apply Array.ext'
  rw [toList_madeCells_one]
  simp [natV, numV]
theorem make_ints (n : Nat) (hn : n ≤ 1000) (W : World) : (Instr.makeSlice 25 (.int .i64 (n : Int)) (.int .i64 (n : Int))).run Try.prog W = .ok (.slice (some ⟨W.heap.size, 0, none⟩) n n) (W.alloc (.cells (natV (List.replicate n 0)).toArray 3)) := by
  obtain ⟨i0, hi0, hz0, hz1, hz2⟩ := info_parts info_int
  have h := run_make (P := Try.prog) W 25 3 i0 (.int .i64 0) Try.underlying25 hi0 hz0 .i64 .i64 (n : Int) (n : Int) (by omega) (by omega) (by rw [hz2]; omega) (by omega)
  rw [h, hz1, Int.toNat_natCast, Nat.mul_one]
  congr 3
  exact zeros_int n

theorem zown_off {w u : World} {base lo hi : Nat} {v : Value} {G : List (List Int)} (h : ZOwn w base v G) (ho : Off lo hi w u) (hb : hi ≤ base) : ZOwn u base v G := by
  obtain ⟨VS, h1, h2, h3⟩ := h
  exact ⟨VS, own_off h1 ho (fun g hg => .inr (Nat.le_trans hb (own_ge h1 g hg))), h2, fun i a b => own_off (h3 i a b) ho (fun g hg => .inr (Nat.le_trans hb (own_ge (h3 i a b) g hg)))⟩
def Par1 (Un : World → Nat → Nat → Nat → List Nat → Prop) (W w2 : World) (m : Nat) (P : List (Int × Int)) (b hi t : Nat) (s8 s9 : Value) (u : World) : Prop :=
  ∃ k : Nat, s9 = .int .i64 (k : Int) ∧ k ≤ t ∧ s8 = .int .i64 ((rootsL (joinsL (startL (m : Int)) (P.take k))).length : Int) ∧ Un u b W.heap.size hi (joinsL (startL (m : Int)) (P.take k)) ∧ Off W.heap.size hi w2 u

/-- At the heads of the loops over groups; over a group's numbers. -/
structure Par2 (Un : World → Nat → Nat → Nat → List Nat → Prop) (W : World) (m b hi sb : Nat) (gv : Value) (L Q : List Nat) (u : World) : Prop where
  seen : Blk u sb 3 (natV (cntN Q m)).toArray
  grid : Grid u (sb + 1) gv (groupsL L)
  un : Un u b W.heap.size hi L
  below : Below W.heap.size W u
theorem Par2.off {Un : World → Nat → Nat → Nat → List Nat → Prop} (C : ∀ (w u : World) (b lo hi x y : Nat) (L : List Nat), Un w b lo hi L → Off x y w u → hi ≤ x ∨ y ≤ lo → Un u b lo hi L) {W u v : World} {m b hi sb : Nat} {gv : Value} {L Q : List Nat} (h : Par2 Un W m b hi sb gv L Q u) (hs : hi ≤ sb) (ho : Off W.heap.size hi u v) (hu : Un v b W.heap.size hi L) : Par2 Un W m b hi sb gv L Q v :=
  ⟨ho.blk h.seen (.inr hs), h.grid.off ho (by omega), hu, below_off h.below ho (Nat.le_refl _) h.below.size⟩
theorem grid_at {w : World} {p m c : Nat} {A : Option Addr} {G : List (List Nat)} (h : Grid w p (.slice A m c) G) (k : Nat) (hk : k < G.length) :
    ∃ b off B rc, A = some ⟨b, off, none⟩ ∧ p ≤ b ∧ b < w.heap.size ∧ w.cell? ⟨b, off + k, none⟩ = some (.slice B G[k].length rc) ∧ Past w p B (natV G[k]) := by
  obtain ⟨A', c', e, hr⟩ := h.row
  cases e
  exact hr k hk
/-- What holds in the regions: three cells read as they did. -/
def Good3 (Un : World → Nat → Nat → Nat → List Nat → Prop) (W w0 : World) (b hi : Nat) (L : List Nat) (u : World) : Prop := Un u b W.heap.size hi L ∧ Off W.heap.size hi w0 u
abbrev T3 (Un : World → Nat → Nat → Nat → List Nat → Prop) (W w0 : World) (b hi : Nat) (L : List Nat) (g1 o1 g2 o2 g3 o3 g4 o4 : Nat) (v1 v2 v3 v4 : Value) (u : World) : Prop :=
  u.cell? ⟨g1, o1, none⟩ = some v1 ∧ u.cell? ⟨g2, o2, none⟩ = some v2 ∧ u.cell? ⟨g3, o3, none⟩ = some v3 ∧ u.cell? ⟨g4, o4, none⟩ = some v4 ∧ Good3 Un W w0 b hi L u
theorem T3.off {Un : World → Nat → Nat → Nat → List Nat → Prop} {W w0 u v : World} {b hi : Nat} {L : List Nat} {g1 o1 g2 o2 g3 o3 g4 o4 : Nat} {v1 v2 v3 v4 : Value} (h : T3 Un W w0 b hi L g1 o1 g2 o2 g3 o3 g4 o4 v1 v2 v3 v4 u)
    (h1 : hi ≤ g1 ∧ g1 < w0.heap.size) (h2 : hi ≤ g2 ∧ g2 < w0.heap.size) (h3 : hi ≤ g3 ∧ g3 < w0.heap.size) (h4 : hi ≤ g4 ∧ g4 < w0.heap.size) (ho : Off W.heap.size hi u v) (hu : Un v b W.heap.size hi L) : T3 Un W w0 b hi L g1 o1 g2 o2 g3 o3 g4 o4 v1 v2 v3 v4 v := by
  have z := h.2.2.2.2.2.size
  exact ⟨(ho.cell _ (by omega) (.inr h1.1)).trans h.1, (ho.cell _ (by omega) (.inr h2.1)).trans h.2.1, (ho.cell _ (by omega) (.inr h3.1)).trans h.2.2.1, (ho.cell _ (by omega) (.inr h4.1)).trans h.2.2.2.1, hu, h.2.2.2.2.2.trans ho⟩
theorem seen_at {Un : World → Nat → Nat → Nat → List Nat → Prop} {W u : World} {m b hi sb x : Nat} {gv : Value} {L Q : List Nat} (h : Par2 Un W m b hi sb gv L Q u) (hx : x < m) : u.cell? ⟨sb, x, none⟩ = some (.int .i64 (Q.count x : Int)) := by
  rw [h.seen.cell]
  simp [natV, numV, cntN, hx]
theorem seen_put {Un : World → Nat → Nat → Nat → List Nat → Prop} (C : ∀ (w u : World) (b lo hi x y : Nat) (L : List Nat), Un w b lo hi L → Off x y w u → hi ≤ x ∨ y ≤ lo → Un u b lo hi L) {W u : World} {m b hi sb x : Nat} {z : Int} {gv : Value} {L Q : List Nat} (h : Par2 Un W m b hi sb gv L Q u) (hs : hi ≤ sb) (hw : W.heap.size ≤ hi) (hz : z = (Q.count x : Int) + 1) :
    Par2 Un W m b hi sb gv L (Q ++ [x]) (u.setCell ⟨sb, x, none⟩ (.int .i64 z)) := by
  obtain ⟨c, hc⟩ : ∃ c, c = Q.count x + 1 := ⟨_, rfl⟩
  obtain rfl : z = (c : Int) := by omega
  refine ⟨?_, h.grid.off (off_put u (lo := sb) (hi := sb + 1) x _ (Nat.le_refl _) (Nat.lt_succ_self _)) (Nat.le_refl _), C _ _ _ _ _ _ _ _ h.un (off_put u (lo := sb) (hi := sb + 1) x _ (Nat.le_refl _) (Nat.lt_succ_self _)) (.inl hs), h.below.setCell (by show _ ≤ sb; omega) _⟩
  have e : (natV (cntN (Q ++ [x]) m)).toArray = (natV (cntN Q m)).toArray.setIfInBounds x (.int .i64 (c : Int)) := by
    rw [cntN_snoc, natV_set, hc]
    simp
  rw [e]
  exact h.seen.set_ x _
def OutRel (Un : World → Nat → Nat → Nat → List Nat → Prop) (W : World) (m b hi sb gl : Nat) (gv : Value) (L : List Nat) (s12 : Value) (u : World) : Prop :=
  ∃ k : Nat, s12 = .int .i64 (k : Int) ∧ k ≤ gl ∧ Par2 Un W m b hi sb gv L ((groupsL L).take k).flatten u
def InRel (Un : World → Nat → Nat → Nat → List Nat → Prop) (W : World) (m b hi sb ln : Nat) (gv : Value) (L Q R : List Nat) (s13 : Value) (u : World) : Prop :=
  ∃ j : Nat, s13 = .int .i64 (j : Int) ∧ j ≤ ln ∧ Par2 Un W m b hi sb gv L (Q ++ R.take j) u

set_option maxRecDepth 100000 in
set_option maxHeartbeats 8000000 in
theorem parts_walk {Un : World → Nat → Nat → Nat → List Nat → Prop} (C : UniC Un) {W : World}
    (s : Option Addr) (l cc : Nat) (c : List Nat) (hc : c.length = l) (h9 : l ≤ 140737488355328) (hx : Octs c) (hs : Cells W W.heap.size s (octV c)) (n : Int) (hn : U8 n) :
    Calls Try.prog 5 #[.slice s l cc, .int .u8 n] W fun e W' => e = .returned (.bool true) ∧ Below W.heap.size W W' := by
  subst hc
  have hn2 := hn
  unfold U8 at hn2
  obtain ⟨m, hm⟩ : ∃ m : Nat, (m : Int) = n % 19 := ⟨(n % 19).toNat, by omega⟩
  have m9 : m ≤ 18 := by omega
  have KN := Lib.hid (fun w => known_any C w)
  have NW := Lib.hid (C.new (m : Int) W (by unfold I64; omega) (by omega))
  have PR := Lib.hid (fun w' (h : Below W.heap.size W w') => pairs_any s cc c hx (by omega) w' (hs.later (Nat.le_refl _) h))
  have LA := Lib.hid (fun (w u : World) (b lo hi : Nat) (L : List Nat) (h : Un w b lo hi L) (hb : Below w.heap.size w u) => C.later h hb)
  have OF := Lib.hid (fun (w u : World) (b lo hi x y : Nat) (L : List Nat) (h : Un w b lo hi L) (ho : Off x y w u) (hx : hi ≤ x ∨ y ≤ lo) => C.off h ho hx)
  have IS := Lib.hid (fun (w : World) (b lo hi : Nat) (L : List Nat) (h : Un w b lo hi L) => C.is h)
  have JO := Lib.hid (fun b lo hi L x y w' => C.join b lo hi L x y w')
  have GR := Lib.hid (fun b lo hi L w' => C.groups b lo hi L w')
  have MA := Lib.hid (fun b lo hi L w' => C.many b lo hi L w')
  have LE := Lib.hid (fun b lo hi L x w' => C.least b lo hi L x w')
  have SA := Lib.hid (fun b lo hi L x y w' => C.same b lo hi L x y w')
  have e1 : IntKind.i64.wrap (n % 19) = n % 19 := wrap_id (by omega) (by omega)
  have e2 : n % 19 = (m : Int) := hm.symm
  clear hx hs C hn hm
  go_enter Try.func5, Try.ntmps5
  go_upto_region 6 with (first
    | (go_at_call 11; (with_reducible refine NW.out.mono ?_); rintro e w1 ⟨b, rfl, hu, hb⟩; have U1 := Lib.hid hu; have HB1 := Lib.hid hb; clear hu hb)
    | (go_at_call 10; (with_reducible refine (PR.out _ HB1.out).mono ?_); rintro e w2 ⟨v, rfl, hz, hb⟩
       obtain ⟨VA, vc, VS, ev, -⟩ := zOwn_parts hz; subst ev; have ZO := Lib.hid hz; have HB2 := Lib.hid hb; clear hz hb))
  obtain ⟨hi, hhi⟩ : ∃ hi, hi = w1.heap.size := ⟨_, rfl⟩
  have U2 := Lib.hid (show Un w2 b W.heap.size hi (startL (m : Int)) by rw [hhi]; exact LA.out _ _ _ _ _ _ U1.out HB2.out)
  have HB := Lib.hid (show Below W.heap.size W w2 from chain2 HB1.out HB2.out)
  have WH := Lib.hid (show W.heap.size ≤ hi by rw [hhi]; exact HB1.out.size)
  obtain ⟨t, ht⟩ : ∃ t, (pairsZ c).length = t := ⟨_, rfl⟩
  have HT := Lib.hid ht
  have t9 : t ≤ 30 := by rw [← ht]; exact pairsZ_length c
  obtain ⟨P, hP⟩ : ∃ P, P = pairsP c := ⟨_, rfl⟩
  have PM := Lib.hid (show P.length = t by rw [hP, pairsP_length]; exact ht)
  have ROW := Lib.hid (show ∀ u, Off W.heap.size hi w2 u → ∀ k (hk : k < t) (hk2 : k < P.length), ∃ b off R rc, VA = some ⟨b, off, none⟩ ∧ b < u.heap.size ∧ u.cell? ⟨b, off + k, none⟩ = some (.slice R 2 rc) ∧ Cells u u.heap.size R (numV [P[k].1, P[k].2]) from by
    intro u ho k hk hk2
    subst hP
    obtain ⟨b, off, R, rc, e1, e2, e3, e4⟩ := zgrid_at (zown_off ZO.out ho (by rw [hhi]; exact Nat.le_refl _)).grid k (by omega)
    rw [pairs_alike c k (by omega) hk2] at e3 e4
    exact ⟨b, off, R, rc, e1, e2, e3, e4⟩)
  have PB := Lib.hid (show ∀ k (h : k < P.length), (-1 ≤ P[k].1 ∧ P[k].1 ≤ 18) ∧ (-1 ≤ P[k].2 ∧ P[k].2 ≤ 18) by subst hP; exact pairsP_bd c)
  rw [ht]
  clear ht hP hhi U1 HB1 HB2
  go_wp2_with fail
  have ST := Lib.hid (roots_start m (by omega))
  have CN := Lib.hid (canon_start (m : Int))
  go_loopw [8, 9] (fun s8 s9 u => Par1 Un W w2 m P b hi t s8 s9 u) (fun _ s9 _ => t - (intOf s9).toNat)
  case atStart => exact ⟨0, rfl, by omega, by rw [List.take_zero]; show _ = Value.int .i64 ((rootsL (startL (m : Int))).length : Int); rw [ST.out], U2.out, Off.refl _ _ _⟩
  case round =>
    obtain ⟨k, rfl, hk, rfl, hu, ho⟩ := hrel
    have A1 := Lib.hid hu
    have OO := Lib.hid ho
    have JC := Lib.hid (joins_canon CN.out (P.take k))
    have JN := Lib.hid (joins_length (startL (m : Int)) (P.take k))
    have RL := Lib.hid (show (rootsL (joinsL (startL (m : Int)) (P.take k))).length ≤ 18 from Nat.le_trans (roots_few _) (by rw [JN.out, startL_nat m (by omega), List.length_range]; exact m9))
    clear hu ho
    by_cases hlt : k < t
    · have hk2 : k < P.length := by have := PM.out; omega
      obtain ⟨gb, off, R, rc, ea, lb, y0, hc⟩ := ROW.out wr OO.out k hlt hk2
      obtain ⟨rb, ro, er, lr, hcs⟩ := nums_at hc (by simp)
      have z0 := hcs 0 (by simp)
      have z1 := hcs 1 (by simp)
      have pb := PB.out k hk2
      have JS := joinsL_succ (startL (m : Int)) P k hk2
      obtain ⟨x, hx⟩ : ∃ x, x = P[k].1 := ⟨_, rfl⟩
      obtain ⟨y, hy⟩ : ∃ y, y = P[k].2 := ⟨_, rfl⟩
      simp only [List.getElem_cons_zero, List.getElem_cons_succ, Nat.add_zero] at z0 z1
      rw [← hx] at z0 pb JS
      rw [← hy] at z1 pb JS
      have EA := Lib.hid ea
      have ER := Lib.hid er
      subst ea er
      have JS2 := Lib.hid JS
      obtain ⟨L, hL⟩ : ∃ L, L = joinsL (startL (m : Int)) (P.take k) := ⟨_, rfl⟩
      rw [← hL] at A1 JC JN JS2 RL ⊢
      have JO1 := Lib.hid (fun w' h => JO.out b W.heap.size hi L x y w' h (by unfold I64; omega) (by unfold I64; omega))
      have RJ := Lib.hid (roots_join JC.out x y)
      obtain ⟨jb, hjb⟩ : ∃ jb, joinB L x y = jb := ⟨_, rfl⟩
      rw [hjb] at JO1 RJ
      obtain ⟨rl, hrl⟩ : ∃ rl, rl = (rootsL L).length := ⟨_, rfl⟩
      rw [← hrl] at RL RJ ⊢
      have rl9 := RL.out
      clear hc hcs hx hy JS pb hL hjb hrl
      have i0 : (0 : Int) ≤ (k : Int) := by omega
      have i1 : (k : Int) < (t : Int) := by omega
      go_wp2_with fail
      go_still_tail 13, (by kernel_rfl)
      cases jb with
      | true =>
        have RJ2 := Lib.hid (show ((rootsL (joinL L x y)).length : Int) = (rl : Int) - 1 by have := RJ.out; rw [if_pos rfl] at this; omega)
        have r0 : (0 : Int) ≤ (rl : Int) := by omega
        go_wp2_with (go_at_call 12; (with_reducible refine (JO1.out _ (LA.out _ _ _ _ _ _ A1.out (Below.refl _ _).drew)).mono ?_); rintro e w5 ⟨rfl, hu, ho⟩; have U5 := Lib.hid hu; have O5 := Lib.hid ho; clear hu ho)
        exact ⟨⟨k + 1, by simp, by omega, by rw [JS2.out, RJ2.out], by rw [JS2.out]; exact U5.out, OO.out.drew.trans O5.out⟩, by simp [intOf]; omega⟩
      | false =>
        have RJ2 := Lib.hid (show ((rootsL (joinL L x y)).length : Int) = (rl : Int) by have := RJ.out; rw [if_neg (by simp)] at this; omega)
        go_wp2_with (go_at_call 12; (with_reducible refine (JO1.out _ (LA.out _ _ _ _ _ _ A1.out (Below.refl _ _).drew)).mono ?_); rintro e w5 ⟨rfl, hu, ho⟩; have U5 := Lib.hid hu; have O5 := Lib.hid ho; clear hu ho)
        exact ⟨⟨k + 1, by simp, by omega, by rw [JS2.out, RJ2.out], by rw [JS2.out]; exact U5.out, OO.out.drew.trans O5.out⟩, by simp [intOf]; omega⟩
    · have kt := Lib.hid (show k = t by omega)
      obtain ⟨L, hL⟩ : ∃ L, L = joinsL (startL (m : Int)) (P.take k) := ⟨_, rfl⟩
      rw [← hL] at A1 JC JN RL ⊢
      have LM := Lib.hid (show L.length = m by rw [JN.out, startL_nat m (by omega), List.length_range])
      obtain ⟨rl, hrl⟩ : ∃ rl, rl = (rootsL L).length := ⟨_, rfl⟩
      have RLe := Lib.hid hrl
      rw [← hrl] at RL ⊢
      have rl9 := RL.out
      have BB := Lib.hid (below_off HB.out OO.out (Nat.le_refl _) HB.out.size)
      have HH := Lib.hid (IS.out _ _ _ _ _ A1.out).1
      clear hL hrl ROW PB ZO PM HT
      have hmk := make_ints m (by omega)
      obtain ⟨sb, hsb⟩ : ∃ sb, sb = wr.heap.size := ⟨_, rfl⟩
      obtain ⟨W4, hW4⟩ : ∃ W4, W4 = wr.alloc (.cells (natV (List.replicate m 0)).toArray 3) := ⟨_, rfl⟩
      have B4 := Lib.hid (show Below wr.heap.size wr W4 by rw [hW4]; exact (Below.refl _ _).alloc (Nat.le_refl _) _)
      have S4 := Lib.hid (show Blk W4 sb 3 (natV (List.replicate m 0)).toArray by rw [hW4]; exact blk_at hsb.symm _ _)
      have Z4 := Lib.hid (show W4.heap.size = sb + 1 by rw [hW4, hsb]; simp)
      have U4 := Lib.hid (LA.out _ _ _ _ _ _ A1.out B4.out)
      have hsb2 : hi ≤ sb := by rw [hsb]; exact HH.out
      have H4 := Lib.hid hW4
      have HS := Lib.hid hsb
      have GR1 := Lib.hid (GR.out b W.heap.size hi L W4 U4.out)
      clear hsb hW4
      go_upto_region 13 with fail
      rw [← H4.out, ← HS.out]
      go_wp2_with (go_at_call 14; (with_reducible refine GR1.out.mono ?_); rintro e w5 ⟨gv, rfl, hg, hu, ho⟩; have GG := Lib.hid hg; have U5 := Lib.hid hu; have O5 := Lib.hid ho; clear hg hu ho)
      obtain ⟨GA, gc, ev, -⟩ := GG.out.row
      subst ev
      obtain ⟨gl, hgl⟩ : ∃ gl, (groupsL L).length = gl := ⟨_, rfl⟩
      have GL := Lib.hid hgl
      have GE := Lib.hid (show gl = rl by rw [← hgl, groups_length]; exact RLe.out.symm)
      have gl9 : gl ≤ 18 := by rw [GE.out]; exact rl9
      have S5 := Lib.hid (O5.out.blk S4.out (.inr hsb2))
      have BB5 := Lib.hid (below_off (chain2 BB.out B4.out) O5.out (Nat.le_refl _) (chain2 BB.out B4.out).size)
      have GG5 := Lib.hid (show Grid w5 (sb + 1) (.slice GA gl gc) (groupsL L) by rw [← hgl, ← Z4.out]; exact GG.out)
      rw [hgl]
      clear hgl GG
      have P5 := Lib.hid (show Par2 Un W m b hi sb (.slice GA gl gc) L ((groupsL L).take 0).flatten w5 from ⟨by rw [List.take_zero]; show Blk w5 sb _ (natV (cntN [] m)).toArray; rw [cntN_nil]; exact S5.out, GG5.out, U5.out, BB5.out⟩)
      go_loopw [12] (fun s12 u => OutRel Un W m b hi sb gl (.slice GA gl gc) L s12 u) (fun s12 _ => gl - (intOf s12).toNat)
      case atStart => exact ⟨0, rfl, by omega, P5.out⟩
      case round =>
        obtain ⟨k2, rfl, hk2, hp⟩ := hrel
        have PP := Lib.hid hp
        clear hp
        by_cases hlt2 : k2 < gl
        · have kG : k2 < (groupsL L).length := by rw [GL.out]; exact hlt2
          obtain ⟨r, TL, hrr, er⟩ := groups_tell JC.out k2 kG
          obtain ⟨R, hR⟩ : ∃ R, (groupsL L)[k2] = R := ⟨_, rfl⟩
          obtain ⟨ln, hln⟩ : ∃ ln, R.length = ln := ⟨_, rfl⟩
          have TLr := TL.root
          have TLp := TL.pos
          have TLh := TL.head
          have TLm := TL.mem
          have TLs := TL.sorted
          rw [hR] at TLp TLh TLm TLs
          rw [hln] at TLp
          have RR := Lib.hid hR
          have RN := Lib.hid hln
          have TM := Lib.hid TLm
          have TS := Lib.hid TLs
          have TH := Lib.hid TLh
          have TR := Lib.hid TLr
          have ER := Lib.hid er
          have ln9 : ln ≤ 18 := by rw [← hln, ← hR]; exact Nat.le_trans (groups_rows L k2 kG) (by rw [LM.out]; exact m9)
          have r9 : r < m := by rw [← LM.out]; exact TLr.1
          clear TL TLr TLh TLm TLs er hR hln
          have k0 : (0 : Int) ≤ (k2 : Int) := by omega
          have k1 : (k2 : Int) < (gl : Int) := by omega
          obtain ⟨Wk, rfl⟩ : ∃ Wk, Wk = wr := ⟨_, rfl⟩
          go_wp2_with fail
          have P0 := Lib.hid (show Par2 Un W m b hi sb (.slice GA gl gc) L (((groupsL L).take k2).flatten ++ R.take 0) Wk by rw [List.take_zero, List.append_nil]; exact PP.out)
          go_loopw [13] (fun s13 u => InRel Un W m b hi sb ln (.slice GA gl gc) L ((groupsL L).take k2).flatten R s13 u) (fun s13 _ => ln - (intOf s13).toNat)
          case atStart => exact ⟨0, rfl, by omega, P0.out⟩
          case round =>
            obtain ⟨j, rfl, hj, hq⟩ := hrel
            obtain ⟨gb, go, RA, rc2, ea, lg1, lg2, y0, hpast⟩ := grid_at hq.grid k2 kG
            rw [RR.out, RN.out] at y0
            rw [RR.out] at hpast
            obtain ⟨rb, ro, eb, lr1, lr2, hcs⟩ := past_at hpast (by rw [RN.out]; exact TLp)
            have z0 := hcs 0 (by rw [RN.out]; exact TLp)
            have er0 : R[0]'(by rw [RN.out]; exact TLp) = r := by have := TH.out; rw [List.getElem?_eq_getElem (by rw [RN.out]; exact TLp)] at this; exact Option.some.inj this
            rw [er0, Nat.add_zero] at z0
            have QQ := Lib.hid hq
            have EA := Lib.hid ea
            have EB := Lib.hid eb
            subst eb
            have lg3 := Lib.hid lg1
            have lr3 := Lib.hid lr1
            have HCS := Lib.hid hcs
            clear hq hpast hcs er0 lg1 lr1
            subst ea
            by_cases hlt3 : j < ln
            · have jR : j < R.length := by rw [RN.out]; exact hlt3
              obtain ⟨x, hx⟩ : ∃ x, R[j] = x := ⟨_, rfl⟩
              have zj := HCS.out j jR
              rw [hx] at zj
              have xm := TM.out x (by rw [← hx]; exact List.getElem_mem jR)
              have xl : x < m := by rw [← LM.out]; exact xm.1
              have XM := Lib.hid xm
              have HX := Lib.hid hx
              clear hx xm
              have j0 : (0 : Int) ≤ (j : Int) := by omega
              have j1 : (j : Int) < (ln : Int) := by omega
              have K1 := Lib.hid (fun (w0 : World) (gi oi y : Nat) (q1 : hi ≤ gb ∧ gb < w0.heap.size) (q2 : hi ≤ rb ∧ rb < w0.heap.size) (w' : World) (h' : T3 Un W w0 b hi L gb (go + k2) rb ro rb oi rb (ro + j) (.slice (some ⟨rb, ro, none⟩) ln rc2) (.int .i64 (r : Int)) (.int .i64 (y : Int)) (.int .i64 (x : Int)) w') => (LE.out b W.heap.size hi L (x : Int) w' h'.2.2.2.2.1 (by unfold I64; omega)).mono (R' := fun e u => e = .returned (.int .i64 (r : Int)) ∧ T3 Un W w0 b hi L gb (go + k2) rb ro rb oi rb (ro + j) (.slice (some ⟨rb, ro, none⟩) ln rc2) (.int .i64 (r : Int)) (.int .i64 (y : Int)) (.int .i64 (x : Int)) u) (by
                rintro e u ⟨he, hu, ho⟩
                exact ⟨by rw [he, XM.out.2.1], h'.off q1 q2 q2 q2 ho hu⟩))
              have K2 := Lib.hid (fun (w0 : World) (gi oi y : Nat) (q1 : hi ≤ gb ∧ gb < w0.heap.size) (q2 : hi ≤ rb ∧ rb < w0.heap.size) (w' : World) (h' : T3 Un W w0 b hi L gb (go + k2) rb ro rb oi rb (ro + j) (.slice (some ⟨rb, ro, none⟩) ln rc2) (.int .i64 (r : Int)) (.int .i64 (y : Int)) (.int .i64 (x : Int)) w') => (SA.out b W.heap.size hi L (x : Int) (r : Int) w' h'.2.2.2.2.1 (by unfold I64; omega) (by unfold I64; omega)).mono (R' := fun e u => e = .returned (.bool true) ∧ T3 Un W w0 b hi L gb (go + k2) rb ro rb oi rb (ro + j) (.slice (some ⟨rb, ro, none⟩) ln rc2) (.int .i64 (r : Int)) (.int .i64 (y : Int)) (.int .i64 (x : Int)) u) (by
                rintro e u ⟨he, hu, ho⟩
                exact ⟨by rw [he, XM.out.2.2], h'.off q1 q2 q2 q2 ho hu⟩))
              have g9 := Lib.hid (show (hi ≤ gb ∧ gb < wr.heap.size) ∧ (hi ≤ rb ∧ rb < wr.heap.size) from ⟨⟨by have := lg3.out; omega, lg2⟩, ⟨by have := lr3.out; omega, lr2⟩⟩)
              have t1 : decide (m ≤ x) = false := decide_eq_false (by omega)
              have t2 : ((r : Int) != (r : Int)) = false := by simp
              by_cases jz : j = 0
              · have e0 : x = r := by
                  subst jz
                  have h1 := HX.out
                  have h2 := TH.out
                  rw [List.getElem?_eq_getElem jR, h1] at h2
                  exact Option.some.inj h2
                have S0 := Lib.hid (show T3 Un W wr b hi L gb (go + k2) rb ro rb ro rb (ro + j) (.slice (some ⟨rb, ro, none⟩) ln rc2) (.int .i64 (r : Int)) (.int .i64 (r : Int)) (.int .i64 (x : Int)) wr.drew from ⟨y0, z0, z0, zj, LA.out _ _ _ _ _ _ QQ.out.un (Below.refl _ _).drew, (Off.refl _ _ _).drew⟩)
                have F1 := Lib.hid (fun w' h => K1.out wr 0 ro r g9.out.1 g9.out.2 w' h)
                have F2 := Lib.hid (fun w' h => K2.out wr 0 ro r g9.out.1 g9.out.2 w' h)
                have JZ := Lib.hid jz
                have t4 : decide (0 < j) = false := decide_eq_false (by omega)
                clear K1 K2 e0 jz z0
                go_upto_region 21 with fail
                clear y0 zj
                refine wp_region_held_drew (S := fun u => u.cell? ⟨gb, go + k2, none⟩ = some (.slice (some ⟨rb, ro, none⟩) ln rc2) ∧ u.cell? ⟨rb, ro, none⟩ = some (.int .i64 (r : Int)) ∧ u.cell? ⟨rb, ro, none⟩ = some (.int .i64 (r : Int)) ∧ u.cell? ⟨rb, ro + j, none⟩ = some (.int .i64 (x : Int)) ∧ Good3 Un W wr b hi L u) (by kernel_rfl) S0.out (fun hH => ?_)
                refine take_run 0 (some 74) (v := _) rfl rfl (by kernel_rfl) (by kernel_rfl) (by kernel_rfl) (fun _ _ _ h => h) (by rfl) (by intro u hu; obtain ⟨h1, h2, h3, h4, h5⟩ := hu; go_simp; try with_reducible rfl) hH ?_
                try simp only [Act.put, List.setIfInBounds_toArray, List.set_cons_zero, List.set_cons_succ]
                refine take_run 1 (some 75) (v := _) rfl rfl (by kernel_rfl) (by kernel_rfl) (by kernel_rfl) (fun _ _ _ h => h) (by rfl) (by intro u hu; obtain ⟨h1, h2, h3, h4, h5⟩ := hu; go_simp; try with_reducible rfl) hH ?_
                try simp only [Act.put, List.setIfInBounds_toArray, List.set_cons_zero, List.set_cons_succ]
                refine take_run 2 (some 76) (v := _) rfl rfl (by kernel_rfl) (by kernel_rfl) (by kernel_rfl) (fun _ _ _ h => h) (by rfl) (by intro u hu; obtain ⟨h1, h2, h3, h4, h5⟩ := hu; go_simp; try with_reducible rfl) hH ?_
                try simp only [Act.put, List.setIfInBounds_toArray, List.set_cons_zero, List.set_cons_succ]
                refine take_run 3 (some 77) (v := _) rfl rfl (by kernel_rfl) (by kernel_rfl) (by kernel_rfl) (fun _ _ _ h => h) (by rfl) (by intro u hu; obtain ⟨h1, h2, h3, h4, h5⟩ := hu; go_simp; try with_reducible rfl) hH ?_
                try simp only [Act.put, List.setIfInBounds_toArray, List.set_cons_zero, List.set_cons_succ]
                refine take_run 4 (some 78) (v := _) rfl rfl (by kernel_rfl) (by kernel_rfl) (by kernel_rfl) (fun _ _ _ h => h) (by rfl) (by intro u hu; obtain ⟨h1, h2, h3, h4, h5⟩ := hu; go_simp; try with_reducible rfl) hH ?_
                try simp only [Act.put, List.setIfInBounds_toArray, List.set_cons_zero, List.set_cons_succ]
                refine take_run 5 (some 79) (v := _) rfl rfl (by kernel_rfl) (by kernel_rfl) (by kernel_rfl) (fun _ _ _ h => h) (by rfl) (by intro u hu; obtain ⟨h1, h2, h3, h4, h5⟩ := hu; go_simp; try with_reducible rfl) hH ?_
                try simp only [Act.put, List.setIfInBounds_toArray, List.set_cons_zero, List.set_cons_succ]
                refine take_run 6 (some 80) (v := _) rfl rfl (by kernel_rfl) (by kernel_rfl) (by kernel_rfl) (fun _ _ _ h => h) (by rfl) (by intro u hu; obtain ⟨h1, h2, h3, h4, h5⟩ := hu; go_simp; try with_reducible rfl) hH ?_
                try simp only [Act.put, List.setIfInBounds_toArray, List.set_cons_zero, List.set_cons_succ]
                refine take_run 7 (some 81) (v := _) rfl rfl (by kernel_rfl) (by kernel_rfl) (by kernel_rfl) (fun _ _ _ h => h) (by rfl) (by intro u hu; obtain ⟨h1, h2, h3, h4, h5⟩ := hu; go_simp; try with_reducible rfl) hH ?_
                try simp only [Act.put, List.setIfInBounds_toArray, List.set_cons_zero, List.set_cons_succ]
                refine take_run 8 (some 82) (v := _) rfl rfl (by kernel_rfl) (by kernel_rfl) (by kernel_rfl) (fun _ _ _ h => h) (by rfl) (by intro u hu; obtain ⟨h1, h2, h3, h4, h5⟩ := hu; go_simp; try with_reducible rfl) hH ?_
                try simp only [Act.put, List.setIfInBounds_toArray, List.set_cons_zero, List.set_cons_succ]
                refine take_run 9 (some 83) (v := _) rfl rfl (by kernel_rfl) (by kernel_rfl) (by kernel_rfl) (fun _ _ _ h => h) (by rfl) (by intro u hu; obtain ⟨h1, h2, h3, h4, h5⟩ := hu; go_simp; try with_reducible rfl) hH ?_
                try simp only [Act.put, List.setIfInBounds_toArray, List.set_cons_zero, List.set_cons_succ]
                refine take_run 11 (some 85) (v := _) rfl rfl (by kernel_rfl) (by kernel_rfl) (by kernel_rfl) (fun _ _ _ h => h) (by rfl) (by intro u hu; obtain ⟨h1, h2, h3, h4, h5⟩ := hu; go_simp; try with_reducible rfl) hH ?_
                try simp only [Act.put, List.setIfInBounds_toArray, List.set_cons_zero, List.set_cons_succ]
                refine take_run 12 (some 86) (v := _) rfl rfl (by kernel_rfl) (by kernel_rfl) (by kernel_rfl) (fun _ _ _ h => h) (by rfl) (by intro u hu; obtain ⟨h1, h2, h3, h4, h5⟩ := hu; go_simp; try with_reducible rfl) hH ?_
                try simp only [Act.put, List.setIfInBounds_toArray, List.set_cons_zero, List.set_cons_succ]
                refine take_run 13 (some 87) (v := _) rfl rfl (by kernel_rfl) (by kernel_rfl) (by kernel_rfl) (fun _ _ _ h => h) (by rfl) (by intro u hu; obtain ⟨h1, h2, h3, h4, h5⟩ := hu; go_simp; try with_reducible rfl) hH ?_
                try simp only [Act.put, List.setIfInBounds_toArray, List.set_cons_zero, List.set_cons_succ]
                refine take_run 14 (some 88) (v := _) rfl rfl (by kernel_rfl) (by kernel_rfl) (by kernel_rfl) (fun _ _ _ h => h) (by rfl) (by intro u hu; obtain ⟨h1, h2, h3, h4, h5⟩ := hu; go_simp; try with_reducible rfl) hH ?_
                try simp only [Act.put, List.setIfInBounds_toArray, List.set_cons_zero, List.set_cons_succ]
                refine take_run 15 (some 89) (v := _) rfl rfl (by kernel_rfl) (by kernel_rfl) (by kernel_rfl) (fun _ _ _ h => h) (by rfl) (by intro u hu; obtain ⟨h1, h2, h3, h4, h5⟩ := hu; go_simp; try with_reducible rfl) hH ?_
                try simp only [Act.put, List.setIfInBounds_toArray, List.set_cons_zero, List.set_cons_succ]
                refine take_run 16 (some 90) (v := _) rfl rfl (by kernel_rfl) (by kernel_rfl) (by kernel_rfl) (fun _ _ _ h => h) (by rfl) (by intro u hu; obtain ⟨h1, h2, h3, h4, h5⟩ := hu; go_simp; try with_reducible rfl) hH ?_
                try simp only [Act.put, List.setIfInBounds_toArray, List.set_cons_zero, List.set_cons_succ]
                refine wpAnyH_ready (rs := [10]) (by kernel_rfl) (by simp) ?_
                refine AllReadyH.cons rfl (fun K hK => ?_) AllReadyH.nil
                go_simp
                refine (F1.out _ hH).mono ?_; rintro e wa ⟨rfl, hs⟩; go_wp2_with fail
                refine hK.out _ _ hs (fun hH1 => ?_)
                clear hK K hs
                try simp only [Act.put, List.setIfInBounds_toArray, List.set_cons_zero, List.set_cons_succ]
                refine take_run 17 (some 91) (v := _) rfl rfl (by kernel_rfl) (by kernel_rfl) (by kernel_rfl) (fun _ _ _ h => h) (by rfl) (by intro u hu; obtain ⟨h1, h2, h3, h4, h5⟩ := hu; go_simp; try with_reducible rfl) hH1 ?_
                try simp only [Act.put, List.setIfInBounds_toArray, List.set_cons_zero, List.set_cons_succ]
                refine take_run 18 (some 92) (v := _) rfl rfl (by kernel_rfl) (by kernel_rfl) (by kernel_rfl) (fun _ _ _ h => h) (by rfl) (by intro u hu; obtain ⟨h1, h2, h3, h4, h5⟩ := hu; go_simp; try with_reducible rfl) hH1 ?_
                try simp only [Act.put, List.setIfInBounds_toArray, List.set_cons_zero, List.set_cons_succ]
                refine take_run 19 (some 93) (v := _) rfl rfl (by kernel_rfl) (by kernel_rfl) (by kernel_rfl) (fun _ _ _ h => h) (by rfl) (by intro u hu; obtain ⟨h1, h2, h3, h4, h5⟩ := hu; go_simp; try with_reducible rfl) hH1 ?_
                try simp only [Act.put, List.setIfInBounds_toArray, List.set_cons_zero, List.set_cons_succ]
                refine take_run 20 (some 94) (v := _) rfl rfl (by kernel_rfl) (by kernel_rfl) (by kernel_rfl) (fun _ _ _ h => h) (by rfl) (by intro u hu; obtain ⟨h1, h2, h3, h4, h5⟩ := hu; go_simp; try with_reducible rfl) hH1 ?_
                try simp only [Act.put, List.setIfInBounds_toArray, List.set_cons_zero, List.set_cons_succ]
                refine take_run 21 (some 95) (v := _) rfl rfl (by kernel_rfl) (by kernel_rfl) (by kernel_rfl) (fun _ _ _ h => h) (by rfl) (by intro u hu; obtain ⟨h1, h2, h3, h4, h5⟩ := hu; go_simp; try with_reducible rfl) hH1 ?_
                try simp only [Act.put, List.setIfInBounds_toArray, List.set_cons_zero, List.set_cons_succ]
                refine take_run 22 (some 96) (v := _) rfl rfl (by kernel_rfl) (by kernel_rfl) (by kernel_rfl) (fun _ _ _ h => h) (by rfl) (by intro u hu; obtain ⟨h1, h2, h3, h4, h5⟩ := hu; go_simp; try with_reducible rfl) hH1 ?_
                try simp only [Act.put, List.setIfInBounds_toArray, List.set_cons_zero, List.set_cons_succ]
                refine take_run 23 (some 97) (v := _) rfl rfl (by kernel_rfl) (by kernel_rfl) (by kernel_rfl) (fun _ _ _ h => h) (by rfl) (by intro u hu; obtain ⟨h1, h2, h3, h4, h5⟩ := hu; go_simp; try with_reducible rfl) hH1 ?_
                try simp only [Act.put, List.setIfInBounds_toArray, List.set_cons_zero, List.set_cons_succ]
                refine take_run 24 (some 98) (v := _) rfl rfl (by kernel_rfl) (by kernel_rfl) (by kernel_rfl) (fun _ _ _ h => h) (by rfl) (by intro u hu; obtain ⟨h1, h2, h3, h4, h5⟩ := hu; go_simp; try with_reducible rfl) hH1 ?_
                try simp only [Act.put, List.setIfInBounds_toArray, List.set_cons_zero, List.set_cons_succ]
                refine take_run 25 (some 99) (v := _) rfl rfl (by kernel_rfl) (by kernel_rfl) (by kernel_rfl) (fun _ _ _ h => h) (by rfl) (by intro u hu; obtain ⟨h1, h2, h3, h4, h5⟩ := hu; go_simp; try with_reducible rfl) hH1 ?_
                try simp only [Act.put, List.setIfInBounds_toArray, List.set_cons_zero, List.set_cons_succ]
                refine take_run 26 (some 100) (v := _) rfl rfl (by kernel_rfl) (by kernel_rfl) (by kernel_rfl) (fun _ _ _ h => h) (by rfl) (by intro u hu; obtain ⟨h1, h2, h3, h4, h5⟩ := hu; go_simp; try with_reducible rfl) hH1 ?_
                try simp only [Act.put, List.setIfInBounds_toArray, List.set_cons_zero, List.set_cons_succ]
                refine take_run 27 (some 101) (v := _) rfl rfl (by kernel_rfl) (by kernel_rfl) (by kernel_rfl) (fun _ _ _ h => h) (by rfl) (by intro u hu; obtain ⟨h1, h2, h3, h4, h5⟩ := hu; go_simp; try with_reducible rfl) hH1 ?_
                try simp only [Act.put, List.setIfInBounds_toArray, List.set_cons_zero, List.set_cons_succ]
                refine wpAnyH_ready (rs := [28]) (by kernel_rfl) (by simp) ?_
                refine AllReadyH.cons rfl (fun K hK => ?_) AllReadyH.nil
                go_simp
                refine (F2.out _ hH1).mono ?_; rintro e wb ⟨rfl, hs⟩; go_wp2_with fail
                refine hK.out _ _ hs (fun hH2 => ?_)
                clear hK K hs
                try simp only [Act.put, List.setIfInBounds_toArray, List.set_cons_zero, List.set_cons_succ]
                refine take_run 29 (some 103) (v := _) rfl rfl (by kernel_rfl) (by kernel_rfl) (by kernel_rfl) (fun _ _ _ h => h) (by rfl) (by intro u hu; obtain ⟨h1, h2, h3, h4, h5⟩ := hu; go_simp; try with_reducible rfl) hH2 ?_
                try simp only [Act.put, List.setIfInBounds_toArray, List.set_cons_zero, List.set_cons_succ]
                refine take_run 30 (some 104) (v := _) rfl rfl (by kernel_rfl) (by kernel_rfl) (by kernel_rfl) (fun _ _ _ h => h) (by rfl) (by intro u hu; obtain ⟨h1, h2, h3, h4, h5⟩ := hu; go_simp; try with_reducible rfl) hH2 ?_
                try simp only [Act.put, List.setIfInBounds_toArray, List.set_cons_zero, List.set_cons_succ]
                refine take_run 31 (some 105) (v := _) rfl rfl (by kernel_rfl) (by kernel_rfl) (by kernel_rfl) (fun _ _ _ h => h) (by rfl) (by intro u hu; obtain ⟨h1, h2, h3, h4, h5⟩ := hu; go_simp; try with_reducible rfl) hH2 ?_
                try simp only [Act.put, List.setIfInBounds_toArray, List.set_cons_zero, List.set_cons_succ]
                refine take_run 32 (some 106) (v := _) rfl rfl (by kernel_rfl) (by kernel_rfl) (by kernel_rfl) (fun _ _ _ h => h) (by rfl) (by intro u hu; obtain ⟨h1, h2, h3, h4, h5⟩ := hu; go_simp; try with_reducible rfl) hH2 ?_
                try simp only [Act.put, List.setIfInBounds_toArray, List.set_cons_zero, List.set_cons_succ]
                refine take_run 33 (some 107) (v := _) rfl rfl (by kernel_rfl) (by kernel_rfl) (by kernel_rfl) (fun _ _ _ h => h) (by rfl) (by intro u hu; obtain ⟨h1, h2, h3, h4, h5⟩ := hu; go_simp; try with_reducible rfl) hH2 ?_
                try simp only [Act.put, List.setIfInBounds_toArray, List.set_cons_zero, List.set_cons_succ]
                refine take_run 34 (some 108) (v := _) rfl rfl (by kernel_rfl) (by kernel_rfl) (by kernel_rfl) (fun _ _ _ h => h) (by rfl) (by intro u hu; obtain ⟨h1, h2, h3, h4, h5⟩ := hu; go_simp; try with_reducible rfl) hH2 ?_
                try simp only [Act.put, List.setIfInBounds_toArray, List.set_cons_zero, List.set_cons_succ]
                refine take_skip 35 (some 109) rfl rfl (by kernel_rfl) (by kernel_rfl) (by kernel_rfl) (fun _ _ _ h => h) (by rfl) hH2 ?_
                try simp only [Act.put, List.setIfInBounds_toArray, List.set_cons_zero, List.set_cons_succ]
                refine take_skip 36 (some 110) rfl rfl (by kernel_rfl) (by kernel_rfl) (by kernel_rfl) (fun _ _ _ h => h) (by rfl) hH2 ?_
                try simp only [Act.put, List.setIfInBounds_toArray, List.set_cons_zero, List.set_cons_succ]
                refine take_skip 37 (some 111) rfl rfl (by kernel_rfl) (by kernel_rfl) (by kernel_rfl) (fun _ _ _ h => h) (by rfl) hH2 ?_
                try simp only [Act.put, List.setIfInBounds_toArray, List.set_cons_zero, List.set_cons_succ]
                refine take_skip 38 (some 112) rfl rfl (by kernel_rfl) (by kernel_rfl) (by kernel_rfl) (fun _ _ _ h => h) (by rfl) hH2 ?_
                try simp only [Act.put, List.setIfInBounds_toArray, List.set_cons_zero, List.set_cons_succ]
                refine take_skip 39 (some 113) rfl rfl (by kernel_rfl) (by kernel_rfl) (by kernel_rfl) (fun _ _ _ h => h) (by rfl) hH2 ?_
                try simp only [Act.put, List.setIfInBounds_toArray, List.set_cons_zero, List.set_cons_succ]
                refine take_skip 40 (some 114) rfl rfl (by kernel_rfl) (by kernel_rfl) (by kernel_rfl) (fun _ _ _ h => h) (by rfl) hH2 ?_
                try simp only [Act.put, List.setIfInBounds_toArray, List.set_cons_zero, List.set_cons_succ]
                refine take_skip 41 (some 115) rfl rfl (by kernel_rfl) (by kernel_rfl) (by kernel_rfl) (fun _ _ _ h => h) (by rfl) hH2 ?_
                try simp only [Act.put, List.setIfInBounds_toArray, List.set_cons_zero, List.set_cons_succ]
                refine take_skip 42 (some 116) rfl rfl (by kernel_rfl) (by kernel_rfl) (by kernel_rfl) (fun _ _ _ h => h) (by rfl) hH2 ?_
                try simp only [Act.put, List.setIfInBounds_toArray, List.set_cons_zero, List.set_cons_succ]
                refine take_skip 43 (some 117) rfl rfl (by kernel_rfl) (by kernel_rfl) (by kernel_rfl) (fun _ _ _ h => h) (by rfl) hH2 ?_
                try simp only [Act.put, List.setIfInBounds_toArray, List.set_cons_zero, List.set_cons_succ]
                refine take_skip 44 (some 118) rfl rfl (by kernel_rfl) (by kernel_rfl) (by kernel_rfl) (fun _ _ _ h => h) (by rfl) hH2 ?_
                try simp only [Act.put, List.setIfInBounds_toArray, List.set_cons_zero, List.set_cons_succ]
                refine take_run 45 (some 119) (v := _) rfl rfl (by kernel_rfl) (by kernel_rfl) (by kernel_rfl) (fun _ _ _ h => h) (by rfl) (by intro u hu; obtain ⟨h1, h2, h3, h4, h5⟩ := hu; go_simp; try with_reducible rfl) hH2 ?_
                try simp only [Act.put, List.setIfInBounds_toArray, List.set_cons_zero, List.set_cons_succ]
                refine take_run 46 (some 120) (v := _) rfl rfl (by kernel_rfl) (by kernel_rfl) (by kernel_rfl) (fun _ _ _ h => h) (by rfl) (by intro u hu; obtain ⟨h1, h2, h3, h4, h5⟩ := hu; go_simp; try with_reducible rfl) hH2 ?_
                try simp only [Act.put, List.setIfInBounds_toArray, List.set_cons_zero, List.set_cons_succ]
                refine wpAnyH_done (by kernel_rfl) ?_ _
                have H9 := Lib.hid (show T3 Un W wr b hi L _ _ _ _ _ _ _ _ _ _ _ _ _ from hH2)
                clear hH hH1 hH2
                have F := Lib.hid (Par2.off OF.out QQ.out hsb2 H9.out.2.2.2.2.2 H9.out.2.2.2.2.1)
                have s0 := seen_at F.out xl
                have s1 := F.out.seen.frozen x
                have s2 := F.out.seen.lt
                have cb := cnt_prefix JC.out k2 j x kG (by rw [LM.out]; exact xl)
                rw [RR.out] at cb
                obtain ⟨cn, hcn⟩ : ∃ cn, (((groupsL L).take k2).flatten ++ R.take j).count x = cn := ⟨_, rfl⟩
                rw [hcn] at s0 cb
                have CN := Lib.hid hcn
                have x0 : (0 : Int) ≤ (x : Int) := by omega
                have x1 : (x : Int) < (m : Int) := by omega
                clear hcn
                go_wp2_with fail
                exact ⟨⟨j + 1, by simp, by omega, by rw [row_take R j jR, HX.out, ← List.append_assoc]; exact seen_put OF.out F.out hsb2 WH.out (by rw [CN.out])⟩, by simp [intOf]; omega⟩
              · obtain ⟨i, hij⟩ : ∃ i, j = i + 1 := ⟨j - 1, by omega⟩
                have iR : i < R.length := by omega
                obtain ⟨y, hy⟩ : ∃ y, R[i] = y := ⟨_, rfl⟩
                have zi := HCS.out i iR
                rw [hy] at zi
                have yx : y < x := by rw [← hy, ← HX.out]; exact List.pairwise_iff_getElem.1 TS.out i j iR jR (by omega)
                have t3 : decide (x ≤ y) = false := decide_eq_false (by omega)
                have t4 : decide (0 < j) = true := decide_eq_true (by omega)
                have t5 : IntKind.i64.wrap ((j : Int) - 1) = (i : Int) := by rw [IntWalk.i64_in _ (by omega)]; omega
                have t6 : (0 : Int) ≤ (i : Int) := by omega
                have t7 : (i : Int) < (ln : Int) := by omega
                have S0 := Lib.hid (show T3 Un W wr b hi L gb (go + k2) rb ro rb (ro + i) rb (ro + j) (.slice (some ⟨rb, ro, none⟩) ln rc2) (.int .i64 (r : Int)) (.int .i64 (y : Int)) (.int .i64 (x : Int)) wr.drew from ⟨y0, z0, zi, zj, LA.out _ _ _ _ _ _ QQ.out.un (Below.refl _ _).drew, (Off.refl _ _ _).drew⟩)
                have F1 := Lib.hid (fun w' h => K1.out wr 0 (ro + i) y g9.out.1 g9.out.2 w' h)
                have F2 := Lib.hid (fun w' h => K2.out wr 0 (ro + i) y g9.out.1 g9.out.2 w' h)
                have HIJ := Lib.hid hij
                clear K1 K2 hy hij iR jz
                go_upto_region 21 with fail
                go_region_held3 (fun u => u.cell? ⟨gb, go + k2, none⟩ = some (.slice (some ⟨rb, ro, none⟩) ln rc2) ∧ u.cell? ⟨rb, ro, none⟩ = some (.int .i64 (r : Int)) ∧ u.cell? ⟨rb, ro + i, none⟩ = some (.int .i64 (y : Int)) ∧ u.cell? ⟨rb, ro + j, none⟩ = some (.int .i64 (x : Int)) ∧ Good3 Un W wr b hi L u)
                  (first | assumption | exact S0.out)
                  (first
                    | (go_at_call 16; (with_reducible refine (F1.out _ S0.out).mono ?_); rintro e wa ⟨rfl, hs⟩)
                    | (go_at_call 16; (with_reducible refine (F1.out _ (by assumption)).mono ?_); rintro e wa ⟨rfl, hs⟩)
                    | (go_at_call 17; (with_reducible refine (F2.out _ (by assumption)).mono ?_); rintro e wb ⟨rfl, hs⟩))
                all_goals
                  rename_i hs
                  have H9 := Lib.hid (show T3 Un W wr b hi L _ _ _ _ _ _ _ _ _ _ _ _ _ from hs)
                  clear hs
                  have F := Lib.hid (Par2.off OF.out QQ.out hsb2 H9.out.2.2.2.2.2 H9.out.2.2.2.2.1)
                  have s0 := seen_at F.out xl
                  have s1 := F.out.seen.frozen x
                  have s2 := F.out.seen.lt
                  have cb := cnt_prefix JC.out k2 j x kG (by rw [LM.out]; exact xl)
                  rw [RR.out] at cb
                  obtain ⟨cn, hcn⟩ : ∃ cn, (((groupsL L).take k2).flatten ++ R.take j).count x = cn := ⟨_, rfl⟩
                  rw [hcn] at s0 cb
                  have CN := Lib.hid hcn
                  have x0 : (0 : Int) ≤ (x : Int) := by omega
                  have x1 : (x : Int) < (m : Int) := by omega
                  clear hcn
                  go_wp2_with fail
                  exact ⟨⟨j + 1, by simp, by omega, by rw [row_take R j jR, HX.out, ← List.append_assoc]; exact seen_put OF.out F.out hsb2 WH.out (by rw [CN.out])⟩, by simp [intOf]; omega⟩
            · have jn := Lib.hid (show j = ln by omega)
              have FK := Lib.hid (show ((groupsL L).take k2).flatten ++ R.take j = ((groupsL L).take (k2 + 1)).flatten by
                rw [jn.out, ← RN.out, List.take_length, flat_take _ _ kG, RR.out])
              have SG := Lib.hid (show hi ≤ gb ∧ gb < wr.heap.size from ⟨by have := lg3.out; omega, lg2⟩)
              have SR := Lib.hid (show hi ≤ rb ∧ rb < wr.heap.size from ⟨by have := lr3.out; omega, lr2⟩)
              by_cases kz : k2 = 0
              · have S0 := Lib.hid (show T3 Un W wr b hi L gb (go + k2) rb ro rb ro rb ro (.slice (some ⟨rb, ro, none⟩) ln rc2) (.int .i64 (r : Int)) (.int .i64 (r : Int)) (.int .i64 (r : Int)) wr.drew from ⟨y0, z0, z0, z0, LA.out _ _ _ _ _ _ QQ.out.un (Below.refl _ _).drew, (Off.refl _ _ _).drew⟩)
                have t4 : decide (0 < k2) = false := decide_eq_false (by omega)
                clear kz z0
                go_upto_region 24 with fail
                clear y0
                refine wp_region_held_drew (S := fun u => u.cell? ⟨gb, go + k2, none⟩ = some (.slice (some ⟨rb, ro, none⟩) ln rc2) ∧ u.cell? ⟨rb, ro, none⟩ = some (.int .i64 (r : Int)) ∧ u.cell? ⟨rb, ro, none⟩ = some (.int .i64 (r : Int)) ∧ u.cell? ⟨rb, ro, none⟩ = some (.int .i64 (r : Int)) ∧ Good3 Un W wr b hi L u) (by kernel_rfl) S0.out (fun hH => ?_)
                refine take_run 0 (some 127) (v := _) rfl rfl (by kernel_rfl) (by kernel_rfl) (by kernel_rfl) (fun _ _ _ h => h) (by rfl) (by intro u hu; obtain ⟨h1, h2, h3, h4, h5⟩ := hu; go_simp; try with_reducible rfl) hH ?_
                try simp only [Act.put, List.setIfInBounds_toArray, List.set_cons_zero, List.set_cons_succ]
                refine take_run 1 (some 128) (v := _) rfl rfl (by kernel_rfl) (by kernel_rfl) (by kernel_rfl) (fun _ _ _ h => h) (by rfl) (by intro u hu; obtain ⟨h1, h2, h3, h4, h5⟩ := hu; go_simp; try with_reducible rfl) hH ?_
                try simp only [Act.put, List.setIfInBounds_toArray, List.set_cons_zero, List.set_cons_succ]
                refine take_run 2 (some 129) (v := _) rfl rfl (by kernel_rfl) (by kernel_rfl) (by kernel_rfl) (fun _ _ _ h => h) (by rfl) (by intro u hu; obtain ⟨h1, h2, h3, h4, h5⟩ := hu; go_simp; try with_reducible rfl) hH ?_
                try simp only [Act.put, List.setIfInBounds_toArray, List.set_cons_zero, List.set_cons_succ]
                refine take_skip 3 (some 130) rfl rfl (by kernel_rfl) (by kernel_rfl) (by kernel_rfl) (fun _ _ _ h => h) (by rfl) hH ?_
                try simp only [Act.put, List.setIfInBounds_toArray, List.set_cons_zero, List.set_cons_succ]
                refine take_skip 4 (some 131) rfl rfl (by kernel_rfl) (by kernel_rfl) (by kernel_rfl) (fun _ _ _ h => h) (by rfl) hH ?_
                try simp only [Act.put, List.setIfInBounds_toArray, List.set_cons_zero, List.set_cons_succ]
                refine take_skip 5 (some 132) rfl rfl (by kernel_rfl) (by kernel_rfl) (by kernel_rfl) (fun _ _ _ h => h) (by rfl) hH ?_
                try simp only [Act.put, List.setIfInBounds_toArray, List.set_cons_zero, List.set_cons_succ]
                refine take_skip 6 (some 133) rfl rfl (by kernel_rfl) (by kernel_rfl) (by kernel_rfl) (fun _ _ _ h => h) (by rfl) hH ?_
                try simp only [Act.put, List.setIfInBounds_toArray, List.set_cons_zero, List.set_cons_succ]
                refine take_skip 7 (some 134) rfl rfl (by kernel_rfl) (by kernel_rfl) (by kernel_rfl) (fun _ _ _ h => h) (by rfl) hH ?_
                try simp only [Act.put, List.setIfInBounds_toArray, List.set_cons_zero, List.set_cons_succ]
                refine take_skip 8 (some 135) rfl rfl (by kernel_rfl) (by kernel_rfl) (by kernel_rfl) (fun _ _ _ h => h) (by rfl) hH ?_
                try simp only [Act.put, List.setIfInBounds_toArray, List.set_cons_zero, List.set_cons_succ]
                refine take_skip 9 (some 136) rfl rfl (by kernel_rfl) (by kernel_rfl) (by kernel_rfl) (fun _ _ _ h => h) (by rfl) hH ?_
                try simp only [Act.put, List.setIfInBounds_toArray, List.set_cons_zero, List.set_cons_succ]
                refine take_skip 10 (some 137) rfl rfl (by kernel_rfl) (by kernel_rfl) (by kernel_rfl) (fun _ _ _ h => h) (by rfl) hH ?_
                try simp only [Act.put, List.setIfInBounds_toArray, List.set_cons_zero, List.set_cons_succ]
                refine take_skip 11 (some 138) rfl rfl (by kernel_rfl) (by kernel_rfl) (by kernel_rfl) (fun _ _ _ h => h) (by rfl) hH ?_
                try simp only [Act.put, List.setIfInBounds_toArray, List.set_cons_zero, List.set_cons_succ]
                refine take_skip 12 (some 139) rfl rfl (by kernel_rfl) (by kernel_rfl) (by kernel_rfl) (fun _ _ _ h => h) (by rfl) hH ?_
                try simp only [Act.put, List.setIfInBounds_toArray, List.set_cons_zero, List.set_cons_succ]
                refine take_skip 13 (some 140) rfl rfl (by kernel_rfl) (by kernel_rfl) (by kernel_rfl) (fun _ _ _ h => h) (by rfl) hH ?_
                try simp only [Act.put, List.setIfInBounds_toArray, List.set_cons_zero, List.set_cons_succ]
                refine take_skip 14 (some 141) rfl rfl (by kernel_rfl) (by kernel_rfl) (by kernel_rfl) (fun _ _ _ h => h) (by rfl) hH ?_
                try simp only [Act.put, List.setIfInBounds_toArray, List.set_cons_zero, List.set_cons_succ]
                refine take_skip 15 (some 142) rfl rfl (by kernel_rfl) (by kernel_rfl) (by kernel_rfl) (fun _ _ _ h => h) (by rfl) hH ?_
                try simp only [Act.put, List.setIfInBounds_toArray, List.set_cons_zero, List.set_cons_succ]
                refine take_skip 16 (some 143) rfl rfl (by kernel_rfl) (by kernel_rfl) (by kernel_rfl) (fun _ _ _ h => h) (by rfl) hH ?_
                try simp only [Act.put, List.setIfInBounds_toArray, List.set_cons_zero, List.set_cons_succ]
                refine take_skip 17 (some 144) rfl rfl (by kernel_rfl) (by kernel_rfl) (by kernel_rfl) (fun _ _ _ h => h) (by rfl) hH ?_
                try simp only [Act.put, List.setIfInBounds_toArray, List.set_cons_zero, List.set_cons_succ]
                refine take_skip 18 (some 145) rfl rfl (by kernel_rfl) (by kernel_rfl) (by kernel_rfl) (fun _ _ _ h => h) (by rfl) hH ?_
                try simp only [Act.put, List.setIfInBounds_toArray, List.set_cons_zero, List.set_cons_succ]
                refine take_skip 19 (some 146) rfl rfl (by kernel_rfl) (by kernel_rfl) (by kernel_rfl) (fun _ _ _ h => h) (by rfl) hH ?_
                try simp only [Act.put, List.setIfInBounds_toArray, List.set_cons_zero, List.set_cons_succ]
                refine take_skip 20 (some 147) rfl rfl (by kernel_rfl) (by kernel_rfl) (by kernel_rfl) (fun _ _ _ h => h) (by rfl) hH ?_
                try simp only [Act.put, List.setIfInBounds_toArray, List.set_cons_zero, List.set_cons_succ]
                refine take_skip 21 (some 148) rfl rfl (by kernel_rfl) (by kernel_rfl) (by kernel_rfl) (fun _ _ _ h => h) (by rfl) hH ?_
                try simp only [Act.put, List.setIfInBounds_toArray, List.set_cons_zero, List.set_cons_succ]
                refine take_skip 22 (some 149) rfl rfl (by kernel_rfl) (by kernel_rfl) (by kernel_rfl) (fun _ _ _ h => h) (by rfl) hH ?_
                try simp only [Act.put, List.setIfInBounds_toArray, List.set_cons_zero, List.set_cons_succ]
                refine take_skip 23 (some 150) rfl rfl (by kernel_rfl) (by kernel_rfl) (by kernel_rfl) (fun _ _ _ h => h) (by rfl) hH ?_
                try simp only [Act.put, List.setIfInBounds_toArray, List.set_cons_zero, List.set_cons_succ]
                refine take_skip 24 (some 151) rfl rfl (by kernel_rfl) (by kernel_rfl) (by kernel_rfl) (fun _ _ _ h => h) (by rfl) hH ?_
                try simp only [Act.put, List.setIfInBounds_toArray, List.set_cons_zero, List.set_cons_succ]
                refine take_skip 25 (some 152) rfl rfl (by kernel_rfl) (by kernel_rfl) (by kernel_rfl) (fun _ _ _ h => h) (by rfl) hH ?_
                try simp only [Act.put, List.setIfInBounds_toArray, List.set_cons_zero, List.set_cons_succ]
                refine take_skip 26 (some 153) rfl rfl (by kernel_rfl) (by kernel_rfl) (by kernel_rfl) (fun _ _ _ h => h) (by rfl) hH ?_
                try simp only [Act.put, List.setIfInBounds_toArray, List.set_cons_zero, List.set_cons_succ]
                refine take_skip 27 (some 154) rfl rfl (by kernel_rfl) (by kernel_rfl) (by kernel_rfl) (fun _ _ _ h => h) (by rfl) hH ?_
                try simp only [Act.put, List.setIfInBounds_toArray, List.set_cons_zero, List.set_cons_succ]
                refine take_skip 28 (some 155) rfl rfl (by kernel_rfl) (by kernel_rfl) (by kernel_rfl) (fun _ _ _ h => h) (by rfl) hH ?_
                try simp only [Act.put, List.setIfInBounds_toArray, List.set_cons_zero, List.set_cons_succ]
                refine take_skip 29 (some 156) rfl rfl (by kernel_rfl) (by kernel_rfl) (by kernel_rfl) (fun _ _ _ h => h) (by rfl) hH ?_
                try simp only [Act.put, List.setIfInBounds_toArray, List.set_cons_zero, List.set_cons_succ]
                refine take_skip 30 (some 157) rfl rfl (by kernel_rfl) (by kernel_rfl) (by kernel_rfl) (fun _ _ _ h => h) (by rfl) hH ?_
                try simp only [Act.put, List.setIfInBounds_toArray, List.set_cons_zero, List.set_cons_succ]
                refine take_skip 31 (some 158) rfl rfl (by kernel_rfl) (by kernel_rfl) (by kernel_rfl) (fun _ _ _ h => h) (by rfl) hH ?_
                try simp only [Act.put, List.setIfInBounds_toArray, List.set_cons_zero, List.set_cons_succ]
                refine take_skip 32 (some 159) rfl rfl (by kernel_rfl) (by kernel_rfl) (by kernel_rfl) (fun _ _ _ h => h) (by rfl) hH ?_
                try simp only [Act.put, List.setIfInBounds_toArray, List.set_cons_zero, List.set_cons_succ]
                refine take_skip 33 (some 160) rfl rfl (by kernel_rfl) (by kernel_rfl) (by kernel_rfl) (fun _ _ _ h => h) (by rfl) hH ?_
                try simp only [Act.put, List.setIfInBounds_toArray, List.set_cons_zero, List.set_cons_succ]
                refine take_run 34 (some 161) (v := _) rfl rfl (by kernel_rfl) (by kernel_rfl) (by kernel_rfl) (fun _ _ _ h => h) (by rfl) (by intro u hu; obtain ⟨h1, h2, h3, h4, h5⟩ := hu; go_simp; try with_reducible rfl) hH ?_
                try simp only [Act.put, List.setIfInBounds_toArray, List.set_cons_zero, List.set_cons_succ]
                refine wpAnyH_done (by kernel_rfl) ?_ _
                have F := Lib.hid (Par2.off OF.out QQ.out hsb2 S0.out.2.2.2.2.2 S0.out.2.2.2.2.1)
                rw [FK.out] at F
                clear hH
                go_wp2_with fail
                exact ⟨⟨k2 + 1, by simp, by omega, F.out⟩, by simp [intOf]; omega⟩
              · obtain ⟨kp, hkp⟩ : ∃ kp, k2 = kp + 1 := ⟨k2 - 1, by omega⟩
                have kpG : kp < (groupsL L).length := by omega
                obtain ⟨r1, T1, hr1, e1r⟩ := groups_tell JC.out kp kpG
                obtain ⟨g2b, g2o, RA2, rc3, ea2, lq1, lq2, y1, hpast⟩ := grid_at QQ.out.grid kp kpG
                cases ea2
                obtain ⟨l1, hl1⟩ : ∃ l1, ((groupsL L)[kp]).length = l1 := ⟨_, rfl⟩
                have T1p := T1.pos
                obtain ⟨qb, qo, eb2, lr4, lr5, hcs⟩ := past_at hpast T1p
                have z1 := hcs 0 T1p
                have er1 : ((groupsL L)[kp])[0]'T1p = r1 := by have := T1.head; rw [List.getElem?_eq_getElem T1p] at this; exact Option.some.inj this
                rw [er1, Nat.add_zero] at z1
                rw [hl1] at y1 T1p
                have rlt : r1 < r := by
                  have e2r := ER.out
                  rw [e1r, e2r]
                  have := roots_rise (L := L) kp (by omega)
                  simpa [hkp] using this
                have SAr := Lib.hid (show sameB L (r1 : Int) (r : Int) = false from roots_apart T1.root TR.out (by omega))
                have SQ := Lib.hid (show hi ≤ qb ∧ qb < wr.heap.size from ⟨by omega, lr5⟩)
                have l19 : l1 ≤ 18 := by rw [← hl1]; exact Nat.le_trans (groups_rows L kp kpG) (by rw [LM.out]; exact m9)
                have r19 : r1 < m := by omega
                have EB2 := Lib.hid eb2
                subst eb2
                have K3 := Lib.hid (fun (w' : World) (h' : T3 Un W wr b hi L gb (go + k2) rb ro gb (go + kp) qb qo (.slice (some ⟨rb, ro, none⟩) ln rc2) (.int .i64 (r : Int)) (.slice (some ⟨qb, qo, none⟩) l1 rc3) (.int .i64 (r1 : Int)) w') => (SA.out b W.heap.size hi L (r1 : Int) (r : Int) w' h'.2.2.2.2.1 (by unfold I64; omega) (by unfold I64; omega)).mono (R' := fun e u => e = .returned (.bool false) ∧ T3 Un W wr b hi L gb (go + k2) rb ro gb (go + kp) qb qo (.slice (some ⟨rb, ro, none⟩) ln rc2) (.int .i64 (r : Int)) (.slice (some ⟨qb, qo, none⟩) l1 rc3) (.int .i64 (r1 : Int)) u) (by
                  rintro e u ⟨he, hu, ho⟩
                  exact ⟨by rw [he, SAr.out], h'.off SG.out SR.out SG.out SQ.out ho hu⟩))
                have S0 := Lib.hid (show T3 Un W wr b hi L gb (go + k2) rb ro gb (go + kp) qb qo (.slice (some ⟨rb, ro, none⟩) ln rc2) (.int .i64 (r : Int)) (.slice (some ⟨qb, qo, none⟩) l1 rc3) (.int .i64 (r1 : Int)) wr.drew from ⟨y0, z0, y1, z1, LA.out _ _ _ _ _ _ QQ.out.un (Below.refl _ _).drew, (Off.refl _ _ _).drew⟩)
                have t3 : decide (r ≤ r1) = false := decide_eq_false (by omega)
                have t4 : decide (0 < k2) = true := decide_eq_true (by omega)
                have t5 : IntKind.i64.wrap ((k2 : Int) - 1) = (kp : Int) := by rw [IntWalk.i64_in _ (by omega)]; omega
                have t6 : (0 : Int) ≤ (kp : Int) := by omega
                have t7 : (kp : Int) < (gl : Int) := by have := GL.out; omega
                have t8 : (0 : Int) < (l1 : Int) := by omega
                have t9 : (0 : Int) < (ln : Int) := by omega
                clear hpast hcs er1 hl1 T1 e1r kz hkp rlt
                go_upto_region 24 with fail
                go_region_held3 (fun u => u.cell? ⟨gb, go + k2, none⟩ = some (.slice (some ⟨rb, ro, none⟩) ln rc2) ∧ u.cell? ⟨rb, ro, none⟩ = some (.int .i64 (r : Int)) ∧ u.cell? ⟨gb, go + kp, none⟩ = some (.slice (some ⟨qb, qo, none⟩) l1 rc3) ∧ u.cell? ⟨qb, qo, none⟩ = some (.int .i64 (r1 : Int)) ∧ Good3 Un W wr b hi L u)
                  (first | assumption | exact S0.out)
                  (first
                    | (go_at_call 17; (with_reducible refine (K3.out _ S0.out).mono ?_); rintro e wb ⟨rfl, hs⟩)
                    | (go_at_call 17; (with_reducible refine (K3.out _ (by assumption)).mono ?_); rintro e wb ⟨rfl, hs⟩))
                all_goals
                  rename_i hs
                  have H9 := Lib.hid (show T3 Un W wr b hi L _ _ _ _ _ _ _ _ _ _ _ _ _ from hs)
                  clear hs
                  have F := Lib.hid (Par2.off OF.out QQ.out hsb2 H9.out.2.2.2.2.2 H9.out.2.2.2.2.1)
                  rw [FK.out] at F
                  go_wp2_with fail
                  exact ⟨⟨k2 + 1, by simp, by omega, F.out⟩, by simp [intOf]; omega⟩
        · have FQ := Lib.hid (show ((groupsL L).take k2).flatten = (groupsL L).flatten by rw [show k2 = (groupsL L).length by have := GL.out; omega, List.take_length])
          have P9 := Lib.hid (show Par2 Un W m b hi sb (.slice GA gl gc) L (groupsL L).flatten wr by rw [← FQ.out]; exact PP.out)
          have MA1 := Lib.hid (fun w' h => MA.out b W.heap.size hi L w' h)
          rw [GL.out] at MA1
          have tq : ((gl : Int) == (rl : Int)) = true := by rw [GE.out]; simp
          have CNT := Lib.hid (show ∀ v, v < m → wr.cell? ⟨sb, v, none⟩ = some (.int .i64 1) from fun v hv => by
            have := seen_at P9.out hv
            rw [count_groups JC.out (by rw [LM.out]; exact hv)] at this
            exact this)
          have sz := P9.out.seen.lt
          obtain ⟨Wz, hWz⟩ : ∃ Wz, Wz = wr := ⟨_, rfl⟩
          have HWz := Lib.hid hWz
          clear PP hWz
          go_upto_region 26 with fail
          go_wp2_with fail
          go_loopw [15] (fun s15 u => ∃ v : Nat, s15 = .int .i64 (v : Int) ∧ v ≤ m ∧ u = Wz) (fun s15 _ => m - (intOf s15).toNat)
          case atStart => exact ⟨0, rfl, by omega, HWz.out.symm⟩
          case round =>
            obtain ⟨v, rfl, hv, rfl⟩ := hrel
            by_cases hv2 : v < m
            · have c1 := CNT.out v hv2
              rw [← HWz.out] at c1
              have v0 : (0 : Int) ≤ (v : Int) := by omega
              have v1 : (v : Int) < (m : Int) := by omega
              have v2 : sb < wr.heap.size := by rw [HWz.out]; exact sz
              go_wp2_with fail
              exact ⟨⟨v + 1, by simp, by omega, by first | rfl | trivial⟩, by simp [intOf]; omega⟩
            · have UU := Lib.hid (show Un wr b W.heap.size hi L by rw [HWz.out]; exact P9.out.un)
              have BU := Lib.hid (show Below W.heap.size W wr by rw [HWz.out]; exact P9.out.below)
              go_wp2_with (first
                | (go_at_call 8; (with_reducible refine (KN.out _).mono ?_); rintro e wa ⟨rfl, hb⟩; have U8 := Lib.hid (LA.out _ _ _ _ _ _ UU.out hb); have B8 := Lib.hid (chain2 BU.out hb); clear hb)
                | (go_at_call 15; (with_reducible refine (MA1.out _ U8.out).mono ?_); rintro e wm ⟨rfl, hu, ho⟩; have B9 := Lib.hid (below_off B8.out ho (Nat.le_refl _) B8.out.size); clear hu ho))
              go_ret
              exact ⟨rfl, B9.out⟩
end Go.Proofs.Ytoccgpkpmhkeiaa.Uni
