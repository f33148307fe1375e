/- The walk of UniteOrder. -/
import Derived.Test.YtoccgpkpmhkeiaaUniN
import Derived.StillTailTactics
namespace Go.Proofs.Ytoccgpkpmhkeiaa.Uni
open Go.RowKit Go.Proofs.Ytoccgpkpmhkeiaa.Inst

/-- The pairs of choices, as pairs. -/
def pairP (c : List Nat) (j : Nat) : Int × Int := ((at0 c (2 * j) : Int) % 20 - 1, (at0 c (2 * j + 1) : Int) % 20 - 1)
def pairsP (c : List Nat) : List (Int × Int) := (List.range (min (c.length / 2) 30)).map (pairP c)
theorem pairsP_length (c : List Nat) : (pairsP c).length = (pairsZ c).length := by
  unfold pairsP pairsZ
  rw [pairsN_length, List.length_map, List.length_range]
theorem pairs_alike (c : List Nat) (k : Nat) (h : k < (pairsZ c).length) (h2 : k < (pairsP c).length) : (pairsZ c)[k] = [(pairsP c)[k].1, (pairsP c)[k].2] := by
  simp [pairsZ, pairsN, pairsP, pairZ, pairP]
theorem pairsP_bd (c : List Nat) (k : Nat) (h : k < (pairsP c).length) : (-1 ≤ (pairsP c)[k].1 ∧ (pairsP c)[k].1 ≤ 18) ∧ (-1 ≤ (pairsP c)[k].2 ∧ (pairsP c)[k].2 ≤ 18) := by
  simp only [pairsP, List.getElem_map, pairP]
  omega
theorem joinsL_succ (L : List Nat) (l : List (Int × Int)) (k : Nat) (h : k < l.length) : joinsL L (l.take (k + 1)) = joinL (joinsL L (l.take k)) l[k].1 l[k].2 := by
  rw [List.take_succ_eq_append_getElem h, joins_snoc]
/-- Backwards, and the other way round. -/
def back (l : List (Int × Int)) : List (Int × Int) := (l.map fun p => (p.2, p.1)).reverse
theorem back_length (l : List (Int × Int)) : (back l).length = l.length := by simp [back]
theorem back_at (l : List (Int × Int)) (k r : Nat) (h : k + r + 1 = l.length) (h1 : r < l.length) (h2 : k < (back l).length) : (back l)[k] = (l[r].2, l[r].1) := by
  simp only [back, List.getElem_reverse, List.length_map, List.getElem_map]
  have e : l.length - 1 - k = r := by omega
  simp [e]
theorem mem_back (l : List (Int × Int)) (a b : Int) : (a, b) ∈ back l ↔ (b, a) ∈ l := by
  unfold back
  rw [List.mem_reverse, List.mem_map]
  constructor
  · rintro ⟨⟨x, y⟩, h, e⟩
    cases e
    exact h
  · intro h
    exact ⟨(b, a), h, rfl⟩
theorem back_order (n : Int) (l : List (Int × Int)) : joinsL (startL n) (back l) = joinsL (startL n) l := by
  unfold startL
  refine joins_order _ _ _ fun a b => ?_
  rw [mem_back, mem_back]
  exact Or.comm
/-- The first so many joins of the two. -/
theorem joinsL_all (L : List Nat) (l : List (Int × Int)) : joinsL L (l.take l.length) = joinsL L l := by rw [List.take_length]

def Ord1 (Un : World → Nat → Nat → Nat → List Nat → Prop) (w1 : World) (N : Int) (P : List (Int × Int)) (p q m2 m3 m : Nat) (s8 : Value) (u : World) : Prop :=
  ∃ k : Nat, s8 = .int .i64 (k : Int) ∧ k ≤ m ∧ Un u p w1.heap.size m2 (joinsL (startL N) (P.take k)) ∧ Un u q m2 m3 (startL N) ∧ Below w1.heap.size w1 u
def Ord2 (Un : World → Nat → Nat → Nat → List Nat → Prop) (w1 : World) (N : Int) (P : List (Int × Int)) (p q m2 m3 m : Nat) (s9 : Value) (u : World) : Prop :=
  ∃ k : Nat, s9 = .int .i64 ((m : Int) - 1 - (k : Int)) ∧ k ≤ m ∧ Un u p w1.heap.size m2 (joinsL (startL N) P) ∧ Un u q m2 m3 (joinsL (startL N) ((back P).take k)) ∧ Below w1.heap.size w1 u

set_option maxRecDepth 100000 in
set_option maxHeartbeats 8000000 in
theorem order_walk {Un : World → Nat → Nat → Nat → List Nat → Prop} (C : UniC Un) {W : World}
    (s : Option Addr) (l cc : Nat) (c : List Nat) (hc : c.length = l) (h9 : l ≤ 140737488355328) (hx : Octs c) (hs : Cells W W.heap.size s (octV c)) (n : Int) (hn : U8 n) :
    Calls Try.prog 4 #[.slice s l cc, .int .u8 n] W fun e W' => e = .returned (.bool true) ∧ Below W.heap.size W W' := by
  subst hc
  have hn2 := hn
  unfold U8 at hn2
  obtain ⟨N, hN⟩ : ∃ N, N = n % 19 := ⟨_, rfl⟩
  have KN := Lib.hid (fun w => known_any C w)
  have NW := Lib.hid (fun w => C.new N w (by unfold I64; omega) (by omega))
  have PR := Lib.hid (fun w' (h : Below W.heap.size W w') => pairs_any s cc c hx (by omega) w' (hs.later (Nat.le_refl _) h))
  have LA := Lib.hid (fun (w u : World) (b lo hi : Nat) (L : List Nat) (h : Un w b lo hi L) (hb : Below w.heap.size w u) => C.later h hb)
  have OF := Lib.hid (fun (w u : World) (b lo hi x y : Nat) (L : List Nat) (h : Un w b lo hi L) (ho : Off x y w u) (hx : hi ≤ x ∨ y ≤ lo) => C.off h ho hx)
  have JO := Lib.hid (fun b lo hi L x y w' => C.join b lo hi L x y w')
  have GR := Lib.hid (fun b lo hi L w' => C.groups b lo hi L w')
  have MA := Lib.hid (fun b lo hi L w' => C.many b lo hi L w')
  have IS := Lib.hid (fun (w : World) (b lo hi : Nat) (L : List Nat) (h : Un w b lo hi L) => C.is h)
  have e1 : IntKind.i64.wrap N = N := wrap_id (by omega) (by omega)
  have e2 : n % 19 = N := hN.symm
  clear hx hs hN C hn
  go_enter Try.func4, Try.ntmps4
  go_upto_region 7 with (first
    | (go_at_call 10; (with_reducible refine (PR.out _ (Below.refl _ _)).mono ?_); rintro e w1 ⟨v, rfl, hz, hb⟩
       obtain ⟨VA, vc, VS, ev, -⟩ := zOwn_parts hz; subst ev; have ZO := Lib.hid hz; have HB1 := Lib.hid hb; have XX := Lib.hid trivial; clear hz hb)
    | (go_at_call 11; clear XX; (with_reducible refine (NW.out _).mono ?_); rintro e w2 ⟨p, rfl, hu, hb⟩; have U1 := Lib.hid hu; have HB2 := Lib.hid hb; clear hu hb)
    | (go_at_call 11; (with_reducible refine (NW.out _).mono ?_); rintro e w3 ⟨q, rfl, hu, hb⟩; have U2 := Lib.hid hu; have HB3 := Lib.hid hb; clear hu hb))
  obtain ⟨m2, hm2⟩ : ∃ m2, m2 = w2.heap.size := ⟨_, rfl⟩
  obtain ⟨m3, hm3⟩ : ∃ m3, m3 = w3.heap.size := ⟨_, rfl⟩
  have V1 := Lib.hid (show Un w3 p w1.heap.size m2 (startL N) by rw [hm2]; exact LA.out _ _ _ _ _ _ U1.out HB3.out)
  have V2 := Lib.hid (show Un w3 q m2 m3 (startL N) by rw [hm2, hm3]; exact U2.out)
  have HB := Lib.hid (show Below w1.heap.size w1 w3 from chain2 HB2.out HB3.out)
  have l12 := Lib.hid (show w1.heap.size ≤ m2 by rw [hm2]; exact HB2.out.size)
  obtain ⟨m, hm⟩ : ∃ m, (pairsZ c).length = m := ⟨_, rfl⟩
  have HM := Lib.hid hm
  have m9 : m ≤ 30 := by rw [← hm]; exact pairsZ_length c
  obtain ⟨P, hP⟩ : ∃ P, P = pairsP c := ⟨_, rfl⟩
  have PM := Lib.hid (show P.length = m by rw [hP, pairsP_length]; exact hm)
  have ROW := Lib.hid (show ∀ u, Below w1.heap.size w1 u → ∀ k (hk : k < m) (hk2 : k < P.length), ∃ b off R rc, VA = some ⟨b, off, none⟩ ∧ b < w1.heap.size ∧ u.cell? ⟨b, off + k, none⟩ = some (.slice R 2 rc) ∧ Cells u w1.heap.size R (numV [P[k].1, P[k].2]) from by
    intro u hb k hk hk2
    subst hP
    obtain ⟨b, off, R, rc, e1, e2, e3, e4⟩ := zgrid_at (ZO.out.grid.below hb) k (by omega)
    rw [pairs_alike c k (by omega) hk2] at e3 e4
    exact ⟨b, off, R, rc, e1, e2, e3, e4⟩)
  have PB := Lib.hid (show ∀ k (h : k < P.length), (-1 ≤ P[k].1 ∧ P[k].1 ≤ 18) ∧ (-1 ≤ P[k].2 ∧ P[k].2 ≤ 18) by subst hP; exact pairsP_bd c)
  rw [hm]
  clear hm hP hm2 hm3 U1 U2 HB2 HB3
  go_loopw [8] (fun s8 u => Ord1 Un w1 N P p q m2 m3 m s8 u) (fun s8 _ => m - (intOf s8).toNat)
  case atStart => exact ⟨0, rfl, by omega, V1.out, V2.out, HB.out⟩
  case round =>
    obtain ⟨k, rfl, hk, hu, hv, hB⟩ := hrel
    have A1 := Lib.hid hu
    have A2 := Lib.hid hv
    have HB4 := Lib.hid hB
    have bs := hB.size
    clear hu hv hB
    by_cases hlt : k < m
    · have hk2 : k < P.length := by have := PM.out; omega
      obtain ⟨b, off, R, rc, ea, lb, y0, hc⟩ := ROW.out wr HB4.out k hlt hk2
      obtain ⟨rb, ro, er, lr, hcs⟩ := nums_at hc (by simp)
      have z0 := hcs 0 (by simp)
      have z1 := hcs 1 (by simp)
      have pb := PB.out k hk2
      have JS := joinsL_succ (startL N) P k hk2
      obtain ⟨x, hx⟩ : ∃ x, x = P[k].1 := ⟨_, rfl⟩
      obtain ⟨y, hy⟩ : ∃ y, y = P[k].2 := ⟨_, rfl⟩
      simp only [List.getElem_cons_zero, List.getElem_cons_succ, Nat.add_zero] at z0 z1
      rw [← hx] at z0 pb JS
      rw [← hy] at z1 pb JS
      have EA := Lib.hid ea
      have ER := Lib.hid er
      subst ea er
      have y2 : b < wr.heap.size := by omega
      have z2 : rb < wr.heap.size := by omega
      have JS2 := Lib.hid JS
      have JO1 := Lib.hid (fun w' h => JO.out p w1.heap.size m2 (joinsL (startL N) (P.take k)) x y w' h (by unfold I64; omega) (by unfold I64; omega))
      clear hc hcs hx hy JS pb
      have i0 : (0 : Int) ≤ (k : Int) := by omega
      have i1 : (k : Int) < (m : Int) := by omega
      go_wp2_with fail
      go_still_tail 13, (by kernel_rfl)
      go_wp2_with (go_at_call 12; (with_reducible refine (JO1.out _ (LA.out _ _ _ _ _ _ A1.out (Below.refl _ _).drew)).mono ?_); rintro e w5 ⟨rfl, hu, ho⟩; have U5 := Lib.hid hu; have O5 := Lib.hid ho; clear hu ho)
      exact ⟨⟨k + 1, by simp, by omega, by rw [JS2.out]; exact U5.out, OF.out _ _ _ _ _ _ _ _ (LA.out _ _ _ _ _ _ A2.out (Below.refl _ _).drew) O5.out (.inr (Nat.le_refl _)), below_off HB4.out.drew O5.out (Nat.le_refl _) bs⟩, by simp [intOf]; omega⟩
    · have km := Lib.hid (show k = m by omega)
      have A3 := Lib.hid (show Un wr p w1.heap.size m2 (joinsL (startL N) P) by have := A1.out; rw [km.out, ← PM.out, List.take_length] at this; exact this)
      go_upto_region 11 with fail
      obtain ⟨wl, rfl⟩ : ∃ wl, wl = wr := ⟨_, rfl⟩
      go_loopw [9] (fun s9 u => Ord2 Un w1 N P p q m2 m3 m s9 u) (fun s9 _ => (intOf s9 + 1).toNat)
      case atStart => exact ⟨0, by simp, by omega, A3.out, A2.out, HB4.out⟩
      case round =>
        obtain ⟨k, rfl, hk, hu, hv, hB⟩ := hrel
        have A1 := Lib.hid hu
        have A2 := Lib.hid hv
        have HB4 := Lib.hid hB
        have bs := hB.size
        clear hu hv hB
        by_cases hlt : k < m
        · obtain ⟨r, hr⟩ : ∃ r, r = m - 1 - k := ⟨_, rfl⟩
          have er9 : (m : Int) - 1 - (k : Int) = (r : Int) := by omega
          have rm : r < m := by omega
          have hk2 : r < P.length := by have := PM.out; omega
          obtain ⟨b, off, R, rc, ea, lb, y0, hc⟩ := ROW.out wr HB4.out r rm hk2
          obtain ⟨rb, ro, er, lr, hcs⟩ := nums_at hc (by simp)
          have z0 := hcs 0 (by simp)
          have z1 := hcs 1 (by simp)
          have pb := PB.out r hk2
          have JS := joinsL_succ (startL N) (back P) k (by rw [back_length, PM.out]; omega)
          rw [back_at P k r (by rw [PM.out]; omega) hk2] at JS
          obtain ⟨x, hx⟩ : ∃ x, x = P[r].1 := ⟨_, rfl⟩
          obtain ⟨y, hy⟩ : ∃ y, y = P[r].2 := ⟨_, rfl⟩
          simp only [List.getElem_cons_zero, List.getElem_cons_succ, Nat.add_zero] at z0 z1
          simp only at JS
          rw [← hx] at z0 pb JS
          rw [← hy] at z1 pb JS
          rw [er9]
          have RK := Lib.hid (show (r : Int) - 1 = (m : Int) - 1 - ((k + 1 : Nat) : Int) by omega)
          have EA := Lib.hid ea
          have ER := Lib.hid er
          subst ea er
          have y2 : b < wr.heap.size := by omega
          have z2 : rb < wr.heap.size := by omega
          have JS2 := Lib.hid JS
          have JO1 := Lib.hid (fun w' h => JO.out q m2 m3 (joinsL (startL N) ((back P).take k)) y x w' h (by unfold I64; omega) (by unfold I64; omega))
          have R9 := Lib.hid (show r ≤ 30 by omega)
          have r30 : r ≤ 30 := R9.out
          clear hc hcs hx hy JS pb hr er9
          have i0 : (0 : Int) ≤ (r : Int) := by omega
          have i1 : (r : Int) < (m : Int) := by omega
          go_wp2_with fail
          go_still_tail 13, (by kernel_rfl)
          go_wp2_with (go_at_call 12; (with_reducible refine (JO1.out _ (LA.out _ _ _ _ _ _ A2.out (Below.refl _ _).drew)).mono ?_); rintro e w5 ⟨rfl, hu, ho⟩; have U5 := Lib.hid hu; have O5 := Lib.hid ho; clear hu ho)
          exact ⟨⟨k + 1, by simp; have := RK.out; omega, by omega, OF.out _ _ _ _ _ _ _ _ (LA.out _ _ _ _ _ _ A1.out (Below.refl _ _).drew) O5.out (.inl (Nat.le_refl _)), by rw [JS2.out]; exact U5.out, below_off HB4.out.drew O5.out l12.out bs⟩, by first | (simp [intOf]; done) | (simp [intOf]; omega)⟩
        · have km := Lib.hid (show k = m by omega)
          obtain ⟨L, hL⟩ : ∃ L, L = joinsL (startL N) P := ⟨_, rfl⟩
          have A4 := Lib.hid (show Un wr q m2 m3 L by
            have := A2.out
            rw [km.out, ← PM.out, ← back_length P, List.take_length, back_order, ← hL] at this
            exact this)
          have A5 := Lib.hid (show Un wr p w1.heap.size m2 L by rw [hL]; exact A1.out)
          have L9 := Lib.hid (IS.out _ _ _ _ _ A4.out).2.1
          have e9 : (m : Int) - 1 - (k : Int) = -1 := by omega
          rw [e9]
          obtain ⟨gn, hgn⟩ : ∃ gn, gn = (groupsL L).length := ⟨_, rfl⟩
          have G1 := Lib.hid (fun w' h => GR.out p w1.heap.size m2 L w' h)
          have G2 := Lib.hid (fun w' h => GR.out q m2 m3 L w' h)
          have M1 := Lib.hid (fun w' h => MA.out p w1.heap.size m2 L w' h)
          have M2 := Lib.hid (fun w' h => MA.out q m2 m3 L w' h)
          rw [← hgn] at M1 M2
          have t0 : ((gn : Int) == (gn : Int)) = true := by simp
          have lw := Lib.hid HB4.out.size
          clear hL hgn e9 A1 A2
          go_wp2_with (first
            | (go_at_call 8; (with_reducible refine (KN.out _).mono ?_); rintro e wa ⟨rfl, hb⟩; replace A4 := Lib.hid (LA.out _ _ _ _ _ _ A4.out hb); replace A5 := Lib.hid (LA.out _ _ _ _ _ _ A5.out hb); replace HB4 := Lib.hid (chain2 HB4.out hb); clear hb)
            | (go_at_call 14; (with_reducible refine (G1.out _ A5.out).mono ?_); rintro e wb ⟨v, rfl, hg, hu, ho⟩; have GA := Lib.hid (hg.from (IS.out _ _ _ _ _ A4.out).1); replace A4 := Lib.hid (OF.out _ _ _ _ _ _ _ _ A4.out ho (.inr (Nat.le_refl _))); replace A5 := Lib.hid hu; have HB5 := Lib.hid (below_off HB4.out ho (Nat.le_refl _) HB4.out.size); clear hg hu ho)
            | (go_at_call 14; (with_reducible refine (G2.out _ A4.out).mono ?_); rintro e wc ⟨v', rfl, hg, hu, ho⟩; have GB := Lib.hid hg; replace GA := Lib.hid ((GA.out.off ho (Nat.le_refl _)).from (Nat.zero_le _)); replace A5 := Lib.hid (OF.out _ _ _ _ _ _ _ _ A5.out ho (.inl (Nat.le_refl _))); replace A4 := Lib.hid hu; have HB6 := Lib.hid (below_off HB5.out ho l12.out HB5.out.size); clear hg hu ho)
            | (go_at_call 13; (with_reducible refine (lists_same L L9.out _ _ _ ?ga ?gb).mono ?_); (case ga => exact GA.out); (case gb => exact GB.out.from (Nat.zero_le _)); rintro e wd ⟨rfl, hb⟩; replace A4 := Lib.hid (LA.out _ _ _ _ _ _ A4.out hb); replace A5 := Lib.hid (LA.out _ _ _ _ _ _ A5.out hb); have HB7 := Lib.hid (chain2 HB6.out hb); clear hb)
            | (go_at_call 15; (with_reducible refine (M1.out _ A5.out).mono ?_); rintro e we ⟨rfl, hu, ho⟩; replace A4 := Lib.hid (OF.out _ _ _ _ _ _ _ _ A4.out ho (.inr (Nat.le_refl _))); replace A5 := Lib.hid hu; have HB8 := Lib.hid (below_off HB7.out ho (Nat.le_refl _) HB7.out.size); clear hu ho)
            | (go_at_call 15; (with_reducible refine (M2.out _ A4.out).mono ?_); rintro e wf ⟨rfl, hu, ho⟩; have HB9 := Lib.hid (below_off HB8.out ho l12.out HB8.out.size); clear hu ho))
          go_ret
          exact ⟨rfl, chain2 HB1.out HB9.out⟩
end Go.Proofs.Ytoccgpkpmhkeiaa.Uni
