/- The law InstCopy: its walk. -/
import Derived.Test.YtekjbpdfginplaaInstWD
import Derived.Test.YtekjbpdfginplaaInstO
namespace Go.Proofs.Ytekjbpdfginplaa.Inst
open Go.RowKit

theorem Here.copy {w : World} {n m : Nat} {A A2 : Option Addr} {I : InstD} (h : Here w A A2 n m I) (c d : Nat) (h1 : n ≤ 1000) (h2 : m ≤ 1000) : Calls Try.prog 25 #[.agg #[.slice A n c, .slice A2 m d]] w fun e w' => ∃ B x B2 y, e = .returned (.agg #[.slice B n x, .slice B2 m y]) ∧ Copied w w' (.slice B n x) (.slice B2 m y) n m I := by
  refine (copy_any A A2 c d I n m h.n h.m h1 h2 w h.is).mono ?_
  rintro e w' ⟨v1, v2, rfl, hc⟩
  obtain ⟨-, A3, c3, rfl, -, -, -⟩ := own_cells hc.sup
  obtain ⟨-, A4, c4, rfl, -, -, -⟩ := own_cells hc.arcs
  exact ⟨_, _, _, _, rfl, hc⟩
theorem Copied.same {w u : World} {B B2 : Option Addr} {x y n m : Nat} {J : InstD} (h : Copied w u (.slice B n x) (.slice B2 m y) n m J) (hn : J.sup.length = n) (hm : J.arcs.length = m) (h1 : n ≤ 1000) (h2 : m ≤ 1000) : Here u B B2 n m J := h.here hn hm (by omega) (by omega)
/-- When all three are made. -/
structure Three (W u : World) (sB p z q r gj : Nat) (A A' B B2 : Option Addr) (n m cap c' m2 y cj n' x : Nat) (I : InstD) (L'' : List ArcD) : Prop where
  cp : Cp W u sB p z q r gj A A' B B2 n m cap c' m2 y cj n' x I I.sup I.arcs L''
  lay : Lay W sB p z q r gj A A' B2 m cap m c' m2 y

/-- At the head of each loop. -/
def CpRel1 (W u : World) (sB p z q r gj : Nat) (A A' B B2 : Option Addr) (n m cap c' m2 y cj n' x : Nat) (I : InstD) (L'' : List ArcD) (s9 : Value) : Prop :=
  ∃ (k : Nat) (S' : List Int), k ≤ n ∧ s9 = .int .i64 (k : Int) ∧ S'.length = n ∧ (∀ i, i < n → S'.getD i 0 = I.sup.getD i 0 + if i < k then 1 else 0) ∧ Cp W u sB p z q r gj A A' B B2 n m cap c' m2 y cj n' x I S' I.arcs L''
def CpRel2 (W u : World) (sB p z q r gj : Nat) (A A' B B2 : Option Addr) (n m cap c' m2 y cj n' x : Nat) (I : InstD) (S' : List Int) (L'' : List ArcD) (s10 : Value) : Prop :=
  ∃ (k : Nat) (L' : List ArcD), k ≤ m ∧ s10 = .int .i64 (k : Int) ∧ L'.length = m ∧ Cp W u sB p z q r gj A A' B B2 n m cap c' m2 y cj n' x I S' L' L''
def CpRel3 (W u : World) (sB p z q r gj : Nat) (A A' B B2 : Option Addr) (n m cap c' m2 y cj n' x : Nat) (I : InstD) (S' : List Int) (L' : List ArcD) (s11 : Value) : Prop :=
  ∃ (k : Nat) (L'' : List ArcD), k ≤ m2 ∧ s11 = .int .i64 (k : Int) ∧ L''.length = m2 ∧ Cp W u sB p z q r gj A A' B B2 n m cap c' m2 y cj n' x I S' L' L''

set_option maxRecDepth 100000 in
set_option maxHeartbeats 4000000 in
theorem copy_walk {W : World} (s : Option Addr) (l c : Nat) (xs : List Nat) (hl : xs.length = l) (h9 : l ≤ 140737488355328) (hx : Octs xs) (hs : Cells W W.heap.size s (octV xs)) (s' : Option Addr) (l' c' : Nat) (ys : List Nat) (hl' : ys.length = l') (h9' : l' ≤ 140737488355328) (hy : Octs ys) (hs' : Cells W W.heap.size s' (octV ys)) :
    Calls Try.prog 6 #[.slice s l c, .slice s' l' c'] W fun e W' => e = .returned (.bool true) ∧ Below W.heap.size W W' := by
  have IN0 := Lib.hid (fun w' (h : Below W.heap.size W w') => inst_any s s' c c' xs ys hx hy (by omega) (by omega) w' (hs.later (Nat.le_refl _) h) (hs'.later (Nat.le_refl _) h))
  rw [hl, hl'] at IN0
  obtain ⟨I, hI⟩ : ∃ I, I = instC xs ys := ⟨_, rfl⟩
  have i0 := instC_sup xs ys
  have i1 := instC_arcs xs ys
  have i2 := nodesC_bd ys
  have i3 := instC_bd xs ys
  rw [← hI] at IN0 i0 i1 i3
  obtain ⟨n, hn⟩ : ∃ n, n = nodesC ys := ⟨_, rfl⟩
  rw [← hn] at IN0 i0 i2
  obtain ⟨m, hm⟩ : ∃ m, m = I.arcs.length := ⟨_, rfl⟩
  rw [← hm] at i1
  have HN := Lib.hid i0
  have HM := Lib.hid hm.symm
  have BD := Lib.hid i3
  have IN := Lib.hid (IN0.out W (Below.refl _ _))
  have KW := Lib.hid (fun w => known_any w)
  obtain ⟨n1, n7⟩ := i2
  clear hI hn hm i0 i3 hs hs' hx hy
  go_enter Try.func6, Try.ntmps6
  go_upto_region 2 with (go_at_call 12; (with_reducible refine IN.out.mono ?_); rintro e w1 ⟨sB, aV, rfl, hM⟩; obtain ⟨-, A, cap, ea, -, -, -⟩ := own_cells hM.arcs; subst ea; rw [HM.out] at hM; rw [HM.out]; have M1 := Lib.hid hM; clear hM)
  obtain ⟨p, hp⟩ : ∃ p, p = w1.heap.size := ⟨_, rfl⟩
  obtain ⟨W2, hW2⟩ : ∃ W2, W2 = w1.alloc (.cells #[.slice (some ⟨sB, 0, none⟩) n n, .slice A m cap] 25) := ⟨_, rfl⟩
  have M2 := Lib.hid (show Made W W2 sB (.slice A m cap) I.sup I.arcs by rw [hW2]; exact M1.out.alloc _)
  have PL := Lib.hid (show sB < p ∧ (∀ g, (Value.slice A m cap).ownBlock = some g → g < p) ∧ W2.heap.size = p + 1 ∧ W.heap.size ≤ p by
    refine ⟨by rw [hp]; exact M1.out.sup.lt, fun g e => by rw [hp]; exact own_lt M1.out.arcs _ e, by rw [hW2, hp]; simp, by rw [hp]; exact M1.out.below.size⟩)
  have BX := Lib.hid (show Blk W2 p 25 #[.slice (some ⟨sB, 0, none⟩) n n, .slice A m cap] by rw [hW2]; exact blk_at hp.symm _ _)
  have HI := Lib.hid (M2.out.here (I := I) HN.out HM.out (by omega) (by omega))
  rw [← hW2, ← hp]
  have x0 := BX.out.cell 0
  have x1 := BX.out.cell 1
  have x2 := BX.out.lt
  simp at x0 x1
  clear hp hW2
  have CO := Lib.hid (HI.out.copy n cap (by omega) (by omega))
  go_upto_region 3 with (go_at_call 25; (with_reducible refine CO.out.mono ?_); rintro e w3 ⟨B0, cj, A', cj', rfl, hc⟩; have C3 := Lib.hid hc; clear hc)
  obtain ⟨gj, eg, -, -, -⟩ := own_at C3.out.sup (by omega)
  have EG := Lib.hid eg
  obtain ⟨q, hq⟩ : ∃ q, q = w3.heap.size := ⟨_, rfl⟩
  obtain ⟨W4, hW4⟩ : ∃ W4, W4 = w3.alloc (.cells #[.slice B0 n cj, .slice A' m cj'] 25) := ⟨_, rfl⟩
  rw [← hW4, ← hq]
  have QL := Lib.hid (show W4.heap.size = q + 1 ∧ p + 1 ≤ q ∧ Below W2.heap.size W2 W4 ∧ Blk W4 q 25 #[.slice B0 n cj, .slice A' m cj'] by
    have z := C3.out.below.size
    have := PL.out.2.2.1
    refine ⟨by rw [hW4, hq]; simp, by rw [hq]; omega, by rw [hW4]; exact C3.out.below.alloc z _, by rw [hW4]; exact blk_at hq.symm _ _⟩)
  have JL := Lib.hid (show W4.ownsRow (p + 1) 2 1 (.slice B0 n cj) n (numV I.sup) ∧ W4.ownsRow (p + 1) 45 5 (.slice A' m cj') m (arcV I.arcs) ∧ (∀ g, (Value.slice B0 n cj).ownBlock = some g → g < q) ∧ (∀ g, (Value.slice A' m cj').ownBlock = some g → g < q) by
    have := PL.out.2.2.1
    rw [hW4, hq]
    exact ⟨own_base (C3.out.sup.alloc _) (by omega), own_base (C3.out.arcs.alloc _) (by omega), own_lt C3.out.sup, own_lt C3.out.arcs⟩)
  have HJ := Lib.hid (show Here W4 B0 A' n m I from ⟨⟨by rw [HN.out]; omega, by rw [HM.out]; omega, own_row JL.out.1, own_row JL.out.2.1⟩, HN.out, HM.out⟩)
  have BX4 := Lib.hid (BX.out.below QL.out.2.2.1 BX.out.lt)
  have y0 := BX4.out.cell 0
  have y1 := BX4.out.cell 1
  have y2 := BX4.out.lt
  have y3 := QL.out.2.2.2.cell 0
  have y4 := QL.out.2.2.2.cell 1
  have y5 := QL.out.2.2.2.lt
  simp at y0 y1 y3 y4
  clear x0 x1 x2 hW4 hq eg
  have SA := Lib.hid ((HI.out.later QL.out.2.2.1).same HJ.out n cap cj cj' true (decide_eq_true rfl))
  go_upto_region 4 with (go_at_call 23; (with_reducible refine SA.out.mono ?_); rintro e w5 ⟨rfl, hb⟩; have B5 := Lib.hid hb; clear hb)
  have BX5 := Lib.hid (BX4.out.below B5.out BX4.out.lt)
  have v0 := BX5.out.cell 0
  have v1 := BX5.out.cell 1
  have v2 := BX5.out.lt
  simp at v0 v1
  obtain ⟨J3, hJ3⟩ : ∃ J, withoutD I [] [] = J := ⟨_, rfl⟩
  have WI := Lib.hid ((HI.out.later (chain2 QL.out.2.2.1 B5.out)).without n cap none none 0 0 0 0 [] [] J3 hJ3 rfl rfl (row_nil _ _) (row_nil _ _))
  have m2b : J3.arcs.length ≤ 1000 := by
    rw [← hJ3]
    exact Nat.le_trans (leftA_length _ _ _) (kept_1000 _ _)
  clear hJ3 y0 y1 y2 y3 y4 y5
  go_upto_region 5 with (go_at_call 22; (with_reducible refine WI.out.mono ?_); rintro e w6 ⟨B, x, B2, y, rfl, hc⟩; have C6 := Lib.hid hc; clear hc)
  obtain ⟨n', hn'⟩ : ∃ k, k = J3.sup.length := ⟨_, rfl⟩
  obtain ⟨m2, hm2⟩ : ∃ k, k = J3.arcs.length := ⟨_, rfl⟩
  obtain ⟨r, hr⟩ : ∃ r, r = w6.heap.size := ⟨_, rfl⟩
  rw [← hn', ← hm2] at C6 ⊢
  rw [← hm2] at m2b
  have HM2 := Lib.hid hm2
  obtain ⟨W7, hW7⟩ : ∃ W7, W7 = w6.alloc (.cells #[.slice B n' x, .slice B2 m2 y] 25) := ⟨_, rfl⟩
  rw [← hW7, ← hr]
  have B67 : Below w6.heap.size w6 W7 := by rw [hW7]; exact (Below.refl _ _).alloc (Nat.le_refl _) _
  have B47 := chain2 (chain2 B5.out C6.out.below) B67
  have B27 := chain2 QL.out.2.2.1 B47
  obtain rfl := EG.out
  have TH := Lib.hid (show Three W W7 sB p (p + 1) q r gj A A' B B2 n m cap cj' m2 y cj n' x I J3.arcs by
    have z5 := B5.out.size
    have z6 := C6.out.below.size
    have z4 := QL.out.1
    refine ⟨⟨M2.out.step B27, BX.out.below B27 BX.out.lt, QL.out.2.2.2.below B47 QL.out.2.2.2.lt, by rw [hW7]; exact blk_at hr.symm _ _, own_later JL.out.1 B47, own_later JL.out.2.1 B47, ?_⟩, ⟨M2.out.new, by have := PL.out.1; omega, PL.out.2.2.2, by omega, fun g e => by have := PL.out.2.1 g e; omega, own_ge JL.out.1 _ rfl, JL.out.2.2.1 _ rfl, fun g e => ⟨own_ge JL.out.2.1 _ e, JL.out.2.2.2 _ e, fun e2 => own_apart JL.out.2.1 JL.out.1 (by decide) g e (by rw [e2]; rfl)⟩, fun g e => ⟨by have := own_ge C6.out.arcs _ e; omega, by rw [hr]; exact own_lt C6.out.arcs _ e⟩, by have := PL.out.2.2.2; omega, by rw [hr]; omega⟩⟩
    rw [hW7]
    exact own_base (C6.out.arcs.alloc _) (by omega))
  have ML := Lib.hid (show J3.arcs.length = m2 from HM2.out.symm)
  clear HM2 hn' hm2 hr hW7 B67 B47 B27 v0 v1 v2 CO SA WI
  have LY := Lib.hid TH.out.lay
  go_wp2_with fail
  go_loopw [9] (fun s9 u => CpRel1 W u sB p (p + 1) q r gj A A' B B2 n m cap cj' m2 y cj n' x I J3.arcs s9) (fun s9 _ => n - (intOf s9).toNat)
  case atStart => exact ⟨0, I.sup, by omega, rfl, HN.out, fun i hi => by simp, TH.out.cp⟩
  case round =>
    obtain ⟨k, S', hk, rfl, hS, hget, hc⟩ := hrel
    have KC := Lib.hid hc
    have KG := Lib.hid hget
    have y3 : wr.cell? ⟨q, 0, none⟩ = some (.slice (some ⟨gj, 0, none⟩) n cj) := hc.bj.cell 0
    have y4 : wr.cell? ⟨q, 1, none⟩ = some (.slice A' m cj') := hc.bj.cell 1
    have y5 := hc.bj.lt
    by_cases hlt : k < n
    · obtain ⟨g', eg, glt, gc, gf⟩ := own_at hc.js (by omega)
      cases eg
      have c0 := gc k (by rw [numV_length]; omega)
      have f0 := gf k
      have e1 : (numV S')[k]'(by rw [numV_length]; omega) = nv (S'.getD k 0) := by
        unfold numV
        rw [List.getElem_map, List.getD_eq_getElem?_getD, List.getElem?_eq_getElem (show k < S'.length by omega)]
        rfl
      rw [e1] at c0
      have gk := hget k hlt
      rw [if_neg (by omega)] at gk
      have bd := BD.out.get (by omega) k
      rw [gk] at c0
      obtain ⟨v, hv⟩ : ∃ v, v = I.sup.getD k 0 + 0 := ⟨_, rfl⟩
      rw [← hv] at c0 gk
      have b0 : -200 ≤ v := by omega
      have b1 : v ≤ 200 := by omega
      have GK := Lib.hid gk
      have k0 : (0 : Int) ≤ (k : Int) := by omega
      have k1 : (k : Int) < (n : Int) := by omega
      have HV := Lib.hid hv
      clear hv bd gk e1 gc gf hc hget
      go_wp2_with fail
      refine ⟨⟨k + 1, S'.set k (v + 1), by omega, by simp, by rw [List.length_set]; exact hS, fun i hi => ?_, KC.out.sup LY.out k (v + 1)⟩, by simp [intOf]; omega⟩
      by_cases e : i = k
      · subst e
        rw [if_pos (by omega), List.getD_eq_getElem?_getD, List.getElem?_set_self (by omega)]
        have := HV.out
        show v + 1 = _
        omega
      · have := KG.out i hi
        rw [List.getD_eq_getElem?_getD, List.getElem?_set_ne (fun h => e h.symm), ← List.getD_eq_getElem?_getD, this]
        congr 1
        by_cases e2 : i < k
        · rw [if_pos e2, if_pos (by omega)]
        · rw [if_neg e2, if_neg (by omega)]
    · obtain rfl : k = n := by omega
      have NE := Lib.hid (show ¬ (I.sup = S') from fun e => by
        have := hget 0 (by omega)
        rw [if_pos (by omega), ← e] at this
        omega)
      clear hget hc KG TH
      go_wp2_with fail
      have KC0 := Lib.hid KC.out
      clear KC
      go_loopw [10] (fun s10 u => CpRel2 W u sB p (p + 1) q r gj A A' B B2 k m cap cj' m2 y cj n' x I S' J3.arcs s10) (fun s10 _ => m - (intOf s10).toNat)
      case atStart => exact ⟨0, I.arcs, by omega, rfl, HM.out, KC0.out⟩
      case round =>
        clear y3 y4 y5
        obtain ⟨j, L', hj, rfl, hL, hc⟩ := hrel
        have KC := Lib.hid hc
        have y3 : wr.cell? ⟨q, 0, none⟩ = some (.slice (some ⟨gj, 0, none⟩) k cj) := hc.bj.cell 0
        have y4 : wr.cell? ⟨q, 1, none⟩ = some (.slice A' m cj') := hc.bj.cell 1
        have y5 := hc.bj.lt
        by_cases hlt2 : j < m
        · obtain ⟨ga, rfl, glt, gc, gf⟩ := own_at hc.ja (by omega)
          obtain ⟨w0, c0⟩ : ∃ w0, wr.cell? ⟨ga, j * 5 + 3, none⟩ = some w0 := ⟨_, gc (j * 5 + 3) (by rw [arcV_length]; omega)⟩
          have f0 := gf (j * 5 + 3)
          have k0 : (0 : Int) ≤ (j : Int) := by omega
          have k1 : (j : Int) < (m : Int) := by omega
          clear gc gf hc
          go_wp2_with fail
          exact ⟨⟨j + 1, _, by omega, by simp, by rw [List.length_set]; exact hL, KC.out.arc LY.out j 3 7 (by omega) (by omega)⟩, by simp [intOf]; omega⟩
        · obtain rfl : j = m := by omega
          have KC1 := Lib.hid KC.out
          clear KC hc
          have z3 : wr.cell? ⟨r, 0, none⟩ = some (.slice B n' x) := KC1.out.bw.cell 0
          have z4 : wr.cell? ⟨r, 1, none⟩ = some (.slice B2 m2 y) := KC1.out.bw.cell 1
          have z5 := KC1.out.bw.lt
          go_wp2_with fail
          go_loopw [11] (fun s11 u => CpRel3 W u sB p (p + 1) q r gj A A' B B2 k j cap cj' m2 y cj n' x I S' L' s11) (fun s11 _ => m2 - (intOf s11).toNat)
          case atStart => exact ⟨0, J3.arcs, by omega, rfl, ML.out, KC1.out⟩
          case round =>
            clear y3 y4 y5 z3 z4 z5
            obtain ⟨t, L'', ht, rfl, hL2, hc⟩ := hrel
            have KC := Lib.hid hc
            have z3 : wr.cell? ⟨r, 0, none⟩ = some (.slice B n' x) := hc.bw.cell 0
            have z4 : wr.cell? ⟨r, 1, none⟩ = some (.slice B2 m2 y) := hc.bw.cell 1
            have z5 := hc.bw.lt
            by_cases hlt3 : t < m2
            · obtain ⟨gw, rfl, glt, gc, gf⟩ := own_at hc.wa (by omega)
              obtain ⟨w0, c0⟩ : ∃ w0, wr.cell? ⟨gw, t * 5 + 2, none⟩ = some w0 := ⟨_, gc (t * 5 + 2) (by rw [arcV_length]; omega)⟩
              have f0 := gf (t * 5 + 2)
              have k0 : (0 : Int) ≤ (t : Int) := by omega
              have k1 : (t : Int) < (m2 : Int) := by omega
              clear gc gf hc
              go_wp2_with fail
              exact ⟨⟨t + 1, _, by omega, by simp, by rw [List.length_set]; exact hL2, KC.out.war LY.out t 2 9 (by omega) (by omega)⟩, by simp [intOf]; omega⟩
            · obtain rfl : t = m2 := by omega
              clear hc
              have HI9 := Lib.hid (KC.out.made.here (I := I) HN.out HM.out (by omega) (by omega))
              have HJ9 := Lib.hid (show Here wr (some ⟨gj, 0, none⟩) A' k j ⟨S', L'⟩ from ⟨⟨by show S'.length ≤ _; omega, by show L'.length ≤ _; omega, own_row KC.out.js, own_row KC.out.ja⟩, hS, hL⟩)
              have BL := Lib.hid KC.out.made.below
              have BI := Lib.hid (fun w' (h : Below wr.heap.size wr w') => (show w'.cell? ⟨p, 0, none⟩ = some (.slice (some ⟨sB, 0, none⟩) k k) ∧ w'.cell? ⟨p, 1, none⟩ = some (.slice A j cap) ∧ p < w'.heap.size ∧ w'.cell? ⟨q, 0, none⟩ = some (.slice (some ⟨gj, 0, none⟩) k cj) ∧ w'.cell? ⟨q, 1, none⟩ = some (.slice A' j cj') ∧ q < w'.heap.size from
                ⟨(KC.out.bi.below h KC.out.bi.lt).cell 0, (KC.out.bi.below h KC.out.bi.lt).cell 1, (KC.out.bi.below h KC.out.bi.lt).lt, (KC.out.bj.below h KC.out.bj.lt).cell 0, (KC.out.bj.below h KC.out.bj.lt).cell 1, (KC.out.bj.below h KC.out.bj.lt).lt⟩))
              have IN2 := Lib.hid (fun w' (h : Below wr.heap.size wr w') => IN0.out w' (chain2 BL.out h))
              have RS := Lib.hid (fun w' (h : Below wr.heap.size wr w') sB2 A2 c2 (g : Here w' (some ⟨sB2, 0, none⟩) A2 k j I) => (HI9.out.later h).rsame g k cap k c2 true (decide_eq_true rfl))
              have SJ := Lib.hid (fun w' (h : Below wr.heap.size wr w') => (HI9.out.later h).same (HJ9.out.later h) k cap cj cj' false (decide_eq_false (fun e => NE.out (by rw [e]))))
              have MN := Lib.hid (fun (w' u : World) sB2 A2 c2 (h : Made w' u sB2 (.slice A2 j c2) I.sup I.arcs) => h.here (I := I) HN.out HM.out (by omega) (by omega))
              clear KC KC1 KC0 HI9 HJ9 NE LY
              go_upto_region 17 with fail
              go_cut [4] (fun s4 wx => s4 = .bool true ∧ Below W.heap.size W wx)
              case first =>
                go_region_with (first
                  | (go_at_call 11; (refine (KW.out _).mono ?_); rintro e wn ⟨rfl, hb⟩; have HB1 := Lib.hid (chain2 (w := wr) (by repeat (first | exact Below.refl _ _ | refine Below.drew ?_)) hb); obtain ⟨q0, q1, q2, q3, q4, q5⟩ := BI.out _ HB1.out; clear hb)
                  | (go_at_call 12; (with_reducible refine (IN2.out _ ?bb).mono ?_); (case bb => repeat (first | exact HB1.out | refine Below.drew ?_)); rintro e wp ⟨sB2, aV2, rfl, hM⟩; obtain ⟨-, A9, c9, ea, -, -, -⟩ := own_cells hM.arcs; subst ea; rw [HM.out] at hM; rw [HM.out]; have HB2 := Lib.hid (chain2 (w := wr) (by repeat (first | exact HB1.out | refine Below.drew ?_)) (hM.below)); have H9 := Lib.hid (MN.out _ _ _ _ _ hM); obtain ⟨v0, v1, v2, v3, v4, v5⟩ := BI.out _ HB2.out; clear hM)
                  | (go_at_call 26; (with_reducible refine (RS.out _ ?bb _ _ _ ?cc).mono ?_); (case bb => repeat (first | exact HB2.out | refine Below.drew ?_)); (case cc => exact H9.out); rintro e wt ⟨rfl, hb⟩; have HB3 := Lib.hid (chain2 (w := wr) (by repeat (first | exact HB2.out | refine Below.drew ?_)) hb); obtain ⟨t0, t1, t2, t3, t4, t5⟩ := BI.out _ HB3.out; clear hb)
                  | (go_at_call 23; (with_reducible refine (SJ.out _ ?bb).mono ?_); (case bb => repeat (first | exact HB3.out | refine Below.drew ?_)); rintro e wv ⟨rfl, hb⟩; have HB4 := Lib.hid (chain2 (w := wr) (by repeat (first | exact HB3.out | refine Below.drew ?_)) hb); clear hb))
                all_goals
                  go_wp2_with fail
                  go_meet
                  case rel => exact ⟨by simp, chain2 BL.out HB4.out⟩
              case rest =>
                obtain ⟨rfl, hb⟩ := hcut
                have HB := Lib.hid hb
                go_wp2_with fail
                go_ret
                exact ⟨rfl, HB.out⟩
end Go.Proofs.Ytekjbpdfginplaa.Inst
