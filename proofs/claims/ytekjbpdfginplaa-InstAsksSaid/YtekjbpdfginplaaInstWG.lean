/- The law InstSpan: its walk. -/
import Derived.Test.YtekjbpdfginplaaInstMathD
import Derived.Test.YtekjbpdfginplaaInstWF
namespace Go.Proofs.Ytekjbpdfginplaa.Inst
open Go.RowKit

theorem own_blk {u : World} {g base n : Nat} {S : List Int} (h : Blk u g 2 (numV S).toArray) (hb : base ≤ g) (hn : S.length = n) (hm : n ≤ 1000) : u.ownsRow base 2 1 (.slice (some ⟨g, 0, none⟩) n n) n (numV S) := by
  refine ⟨by rw [numV_length, hn, Nat.mul_one], .inr ⟨g, n, (numV S).toArray, rfl, hb, h, Nat.le_refl _, by unfold maxLen; omega, by simp [numV_length, hn], ?_⟩⟩
  rw [Nat.mul_one]
  show (numV S).take n = numV S
  rw [List.take_of_length_le (by rw [numV_length]; omega)]
theorem own_not {w : World} {b n sz g : Nat} {e t : TypeId} {v : Value} {xs : List Value} {cs : Array Value} (h : w.ownsRow b e sz v n xs) (hb : Blk w g t cs) (he : e ≠ t) : v.ownBlock ≠ some g := by
  intro hg
  rcases h.2 with ⟨rfl, _⟩ | ⟨g1, c1, cur1, rfl, _, hh1, _⟩
  · simp [Value.ownBlock] at hg
  · simp [Value.ownBlock] at hg
    subst hg
    unfold Blk at hb
    rw [hh1] at hb
    simp at hb
    exact he hb.2
theorem falses_eq (n : Nat) : madeCells #[Value.bool false] n = (boolV (List.replicate n false)).toArray := by
  apply Array.ext'
  rw [toList_madeCells_one]
  simp [boolV]
theorem make_bools (n : Nat) (hn : n ≤ 1000) (W : World) : (Instr.makeSlice 26 (.int .i64 (n : Int)) (.int .i64 (n : Int))).run Try.prog W = .ok (.slice (some ⟨W.heap.size, 0, none⟩) n n) (W.alloc (.cells (boolV (List.replicate n false)).toArray 4)) := by
  obtain ⟨i0, hi0, hz0, hz1, hz2⟩ := info_parts info_bool
  have h := run_make (P := Try.prog) W 26 4 i0 (.bool false) Try.underlying26 hi0 hz0 .i64 .i64 (n : Int) (n : Int) (by omega) (by omega) (by rw [hz2]; omega) (by omega)
  rw [h, hz1, Int.toNat_natCast, Nat.mul_one]
  congr 3
  exact falses_eq n
theorem mark_blk {u : World} {g a : Nat} (h : Blk u g 4 (boolV (List.replicate (a + 1) false)).toArray) : Cells (u.setCell ⟨g, a, none⟩ (.bool true)) (u.setCell ⟨g, a, none⟩ (.bool true)).heap.size (some ⟨g, 0, none⟩) (boolV (mark a)) := by
  refine cells_blk (t := 4) ?_
  have := h.set_ a (.bool true)
  rw [List.setIfInBounds_toArray] at this
  unfold mark boolV at *
  rw [List.map_set]
  exact this

/-- What holds in the last region: a box, and that all else is as it was. -/
abbrev SQ (W : World) (q : Nat) (a b : Value) (u : World) : Prop := u.cell? ⟨q, 0, none⟩ = some a ∧ u.cell? ⟨q, 1, none⟩ = some b ∧ Below W.heap.size W u
theorem keep2 {W w w' : World} {q : Nat} {a b : Value} (hq : q < W.heap.size) (h : SQ W q a b w) (hb : Below w.heap.size w w') : SQ W q a b w' := by
  obtain ⟨h1, h2, h5⟩ := h
  have z := h5.size
  exact ⟨(hb.cell (p := ⟨q, 0, none⟩) (by show q < _; omega)).trans h1, (hb.cell (p := ⟨q, 1, none⟩) (by show q < _; omega)).trans h2, chain2 h5 hb⟩

set_option maxRecDepth 100000 in
set_option maxHeartbeats 8000000 in
theorem span_walk {W : World} (s : Option Addr) (l c : Nat) (xs : List Nat) (hl : xs.length = l) (h9 : l ≤ 140737488355328) (hx : Octs xs) (hs : Cells W W.heap.size s (octV xs)) (s' : Option Addr) (l' c' : Nat) (ys : List Nat) (hl' : ys.length = l') (h9' : l' ≤ 140737488355328) (hy : Octs ys) (hs' : Cells W W.heap.size s' (octV ys))
    (kk : Int) (hk : U8 kk) :
    Calls Try.prog 9 #[.slice s l c, .slice s' l' c', .int .u8 kk] W fun e W' => e = .returned (.bool true) ∧ Below W.heap.size W W' := by
  unfold U8 at hk
  obtain ⟨k, rfl⟩ : ∃ n : Nat, kk = n := ⟨kk.toNat, by omega⟩
  have IN0 := Lib.hid (fun w' (h : Below W.heap.size W w') => inst_any s s' c c' xs ys hx hy (by omega) (by omega) w' (hs.later (Nat.le_refl _) h) (hs'.later (Nat.le_refl _) h))
  rw [hl, hl'] at IN0
  obtain ⟨I, hI⟩ : ∃ I, I = instC xs ys := ⟨_, rfl⟩
  have i0 := instC_sup xs ys
  have i1 := instC_arcs xs ys
  have i2 := nodesC_bd ys
  have i3 := instC_in xs ys
  rw [← hI] at IN0 i0 i1 i3
  obtain ⟨n, hn⟩ : ∃ n, n = nodesC ys := ⟨_, rfl⟩
  rw [← hn] at IN0 i0 i2
  obtain ⟨m, hm⟩ : ∃ m, m = I.arcs.length := ⟨_, rfl⟩
  rw [← hm] at i1
  have HN := Lib.hid i0
  have HM := Lib.hid hm.symm
  have HIN := Lib.hid i3
  have IN := Lib.hid (IN0.out W (Below.refl _ _))
  have KW := Lib.hid (fun w => known_any w)
  obtain ⟨n1, n7⟩ := i2
  obtain ⟨N1, hN1⟩ : ∃ a, spanD I = a := ⟨_, rfl⟩
  have HS := Lib.hid hN1
  have sb : 0 ≤ N1 ∧ N1 ≤ 100 := by
    rw [← hN1]
    have := lows_le I.arcs
    unfold spanD
    rw [i0, ← hm]
    omega
  obtain ⟨sb0, sb1⟩ := sb
  obtain ⟨ii, hi0, hz0, hz1, hz2⟩ := info_parts info_i64'
  have G0 := Lib.hid hi0
  have G1 := Lib.hid hz0
  have G2 := Lib.hid hz1
  have G3 := Lib.hid hz2
  clear hI hn hm i0 i3 hs hs' hx hy hN1 hi0 hz0 hz1 hz2
  go_enter Try.func9, Try.ntmps9
  go_upto_region 2 with (go_at_call 12; (with_reducible refine IN.out.mono ?_); rintro e w1 ⟨sB, aV, rfl, hM⟩; obtain ⟨-, A, cap, ea, -, -, -⟩ := own_cells hM.arcs; subst ea; rw [HM.out] at hM; rw [HM.out]; have M1 := Lib.hid hM; clear hM)
  obtain ⟨p, hp⟩ : ∃ p, p = w1.heap.size := ⟨_, rfl⟩
  obtain ⟨W2, hW2⟩ : ∃ W2, W2 = w1.alloc (.cells #[.slice (some ⟨sB, 0, none⟩) n n, .slice A m cap] 25) := ⟨_, rfl⟩
  have M2 := Lib.hid (show Made W W2 sB (.slice A m cap) I.sup I.arcs by rw [hW2]; exact M1.out.alloc _)
  have BX := Lib.hid (show Blk W2 p 25 #[.slice (some ⟨sB, 0, none⟩) n n, .slice A m cap] by rw [hW2]; exact blk_at hp.symm _ _)
  have HI := Lib.hid (M2.out.here (I := I) HN.out HM.out (by omega) (by omega))
  have PL := Lib.hid (show p ≠ sB ∧ W.heap.size ≤ p from ⟨by rw [hp]; have := M1.out.sup.lt; omega, by rw [hp]; exact M1.out.below.size⟩)
  rw [← hW2, ← hp]
  have x0 := BX.out.cell 0
  have x1 := BX.out.cell 1
  have x2 := BX.out.lt
  simp at x0 x1
  clear hp hW2 M1
  have SP := Lib.hid (HI.out.span n cap N1 HS.out)
  go_upto_region 3 with (go_at_call 24; (with_reducible refine SP.out.mono ?_); rintro e w3 ⟨rfl, hb⟩; have B3 := Lib.hid hb; clear hb)
  have M3 := Lib.hid (M2.out.step B3.out)
  have BX3 := Lib.hid (BX.out.below B3.out BX.out.lt)
  have RS3 := Lib.hid (own_blk (base := W.heap.size) M3.out.sup M3.out.new HN.out (by omega))
  have zz := M3.out.below.size
  clear x0 x1 x2 SP HI M2 BX
  have x0 := BX3.out.cell 0
  have x1 := BX3.out.cell 1
  have x2 := BX3.out.lt
  simp at x0 x1
  go_upto_region 4 with (
    at_builtin
    go_loud (
      refine wpList_append_own _ rfl _ _ 22 rfl W.heap.size 2 ii _ 1 8 Try.underlying22 G0.out G1.out G2.out G3.out rfl (by decide) (.slice (some ⟨sB, 0, none⟩) n n) n _ rfl (RS3.out.alloc _) ⟨w3.heap.size, 0, none⟩ 1 1 [nv 0] rfl rfl ?c1 ?c2 ?c3 ?c4 ?c5 ?_
      case c1 => exact cell_one_new _ _ _
      case c2 => simp [Value.oneCell', nv]
      case c3 => simp only [maxLen]; omega
      case c4 => omega
      case c5 => simp; omega
      intro v1 u1 hown1 hgrow1 _
      obtain ⟨-, A1, c1, ev, -, -, -⟩ := own_cells hown1
      subst ev
      have BU := Lib.hid (show Blk u1 p 25 #[.slice (some ⟨sB, 0, none⟩) n n, .slice A m cap] from (hgrow1.block _ (by simp; omega) (fun e => PL.out.1 (Option.some.inj e))).trans (BX3.out.alloc _))
      have u0 := BU.out.cell 0
      have ug := BU.out.cell 1
      have uf := BU.out.frozen 0
      have ul := BU.out.lt
      simp at u0 ug
      have OW := Lib.hid hown1
      have GR := Lib.hid hgrow1
      clear hown1 hgrow1))
  obtain ⟨K, hK⟩ : ∃ K, K = n + 1 := ⟨_, rfl⟩
  rw [← hK] at OW ⊢
  obtain ⟨W4, hW4⟩ : ∃ W4, W4 = u1.setCell ⟨p, 0, none⟩ (.slice A1 K c1) := ⟨_, rfl⟩
  obtain ⟨I1, hI1⟩ : ∃ I1, I1 = oneMore I := ⟨_, rfl⟩
  have HI1 := Lib.hid hI1
  have HK := Lib.hid hK
  have IN1 := Lib.hid (show I1.sup.length = K by rw [hI1, hK]; simp [oneMore]; exact HN.out)
  have IM1 := Lib.hid (show I1.arcs.length = m by rw [hI1]; exact HM.out)
  have F1 := Lib.hid (own_not OW.out BU.out (by decide))
  have RAu := Lib.hid (show u1.ownsRow W.heap.size 45 5 (.slice A m cap) m (arcV I.arcs) by
    have h := (M3.out.arcs.alloc (.cells #[.int .i64 0] 2)).kept GR.out (Or.inr (fun e => M3.out.far e))
    rw [HM.out] at h
    exact h)
  have FA := Lib.hid (own_not RAu.out BU.out (by decide))
  have BX4 := Lib.hid (show Blk W4 p 25 #[.slice A1 K c1, .slice A m cap] by rw [hW4]; exact BU.out.set_ 0 _)
  have RS4 := Lib.hid (show W4.ownsRow W.heap.size 2 1 (.slice A1 K c1) K (numV I1.sup) by
    rw [hW4, hI1]
    have e : numV (oneMore I).sup = numV I.sup ++ [nv 0] := by simp [oneMore, numV]
    rw [e]
    exact own_far OW.out F1.out _)
  have RA4 := Lib.hid (show W4.ownsRow W.heap.size 45 5 (.slice A m cap) m (arcV I1.arcs) by
    rw [hW4, hI1]
    exact own_far RAu.out FA.out _)
  have BL4 := Lib.hid (show Below W.heap.size W W4 by
    rw [hW4]
    refine ((M3.out.below.alloc zz _).grown GR.out (by simp; omega) (fun g e => ?_)).setCell PL.out.2 _
    have : g = sB := (Option.some.inj e).symm
    rw [this]
    exact M3.out.new)
  rw [← hW4]
  have H4 := Lib.hid (show Here W4 A1 A K m I1 from ⟨⟨by rw [IN1.out]; omega, by rw [IM1.out]; omega, own_row RS4.out, own_row RA4.out⟩, IN1.out, IM1.out⟩)
  clear hW4 OW BU GR RAu F1 FA RS3 u0 ug uf ul x0 x1 x2 M3 BX3 zz hI1
  have kb1 : 2 ≤ K := by omega
  have kb2 : K ≤ 8 := by omega
  clear hK
  have x0 := BX4.out.cell 0
  have x1 := BX4.out.cell 1
  have x2 := BX4.out.lt
  simp at x0 x1
  obtain ⟨N2, hN2⟩ : ∃ a, a = N1 + 1 := ⟨_, rfl⟩
  have HN2 := Lib.hid hN2
  have SP := Lib.hid (H4.out.span c1 cap N2 (by rw [HI1.out, more_span, HS.out, hN2]))
  have n20 : 0 ≤ N2 := by omega
  have n21 : N2 ≤ 101 := by omega
  clear hN2
  go_upto_region 5 with (go_at_call 24; (with_reducible refine SP.out.mono ?_); rintro e w5 ⟨rfl, hb⟩; have B5 := Lib.hid hb; clear hb)
  have BX5 := Lib.hid (BX4.out.below B5.out BX4.out.lt)
  clear x0 x1 x2
  have x0 := BX5.out.cell 0
  have x1 := BX5.out.cell 1
  have x2 := BX5.out.lt
  simp at x0 x1
  have hmk := make_bools K (by omega)
  obtain ⟨Z, hZ⟩ : ∃ Z, Z = (boolV (List.replicate K false)).toArray := ⟨_, rfl⟩
  rw [← hZ] at hmk
  have HZ := Lib.hid hZ
  clear hZ
  go_upto_region 6 with fail
  obtain ⟨o, ho⟩ : ∃ o, o = w5.heap.size := ⟨_, rfl⟩
  obtain ⟨W6, hW6⟩ : ∃ W6, W6 = w5.alloc (.cells Z 4) := ⟨_, rfl⟩
  rw [← hW6, ← ho]
  have BO := Lib.hid (show Blk W6 o 4 (boolV (List.replicate (n + 1) false)).toArray by rw [hW6, HZ.out, HK.out]; exact blk_at ho.symm _ _)
  have B56 := Lib.hid (show Below w5.heap.size w5 W6 by rw [hW6]; exact (Below.refl _ _).alloc (Nat.le_refl _) _)
  have OL := Lib.hid (show w5.heap.size ≤ o by omega)
  have b0 : W6.cell? ⟨o, n, none⟩ = some (.bool false) := by
    rw [BO.out.cell n]
    simp [boolV]
  have b1 := BO.out.frozen n
  have b2 := BO.out.lt
  have BX6 := Lib.hid (BX5.out.below B56.out BX5.out.lt)
  clear x0 x1 x2 hW6 ho hmk
  have x0 := BX6.out.cell 0
  have x1 := BX6.out.cell 1
  have x2 := BX6.out.lt
  simp at x0 x1
  have tk : (K : Int) - 1 = (n : Int) := by have := HK.out; omega
  have tn : (n : Int) < (K : Int) := by have := HK.out; omega
  go_upto_region 7 with fail
  obtain ⟨W7, hW7⟩ : ∃ W7, W7 = W6.setCell ⟨o, n, none⟩ (.bool true) := ⟨_, rfl⟩
  rw [← hW7]
  have CM := Lib.hid (show Cells W7 W7.heap.size (some ⟨o, 0, none⟩) (boolV (mark n)) by rw [hW7]; exact mark_blk BO.out)
  have B57 := Lib.hid (show Below w5.heap.size w5 W7 by rw [hW7]; exact B56.out.setCell OL.out _)
  have B47 := Lib.hid (chain2 B5.out B57.out)
  have H7 := Lib.hid (H4.out.later B47.out)
  have BX7 := Lib.hid (BX5.out.below B57.out BX5.out.lt)
  have MB := Lib.hid (show withoutD I1 (mark n) [] = I by
    have h := more_back I HIN.out (by rw [HN.out]; omega) (by rw [HM.out]; omega)
    rw [HN.out] at h
    rw [HI1.out]
    exact h)
  have WB := Lib.hid (H7.out.without c1 cap (some ⟨o, 0, none⟩) none K 0 K 0 (mark n) [] I MB.out (by rw [mark_length]; exact HK.out.symm) rfl CM.out (row_nil _ _))
  rw [HN.out, HM.out] at WB
  clear x0 x1 x2 hW7 b0 b1 b2 tk tn BO B56 OL BX6 H4 SP
  have x0 := BX7.out.cell 0
  have x1 := BX7.out.cell 1
  have x2 := BX7.out.lt
  simp at x0 x1
  go_upto_region 8 with (go_at_call 22; (with_reducible refine WB.out.mono ?_); rintro e w8 ⟨B, x, B2, y, rfl, hc⟩; have C8 := Lib.hid hc; clear hc)
  obtain ⟨q, hq⟩ : ∃ q, q = w8.heap.size := ⟨_, rfl⟩
  obtain ⟨W9, hW9⟩ : ∃ W9, W9 = w8.alloc (.cells #[.slice B n x, .slice B2 m y] 25) := ⟨_, rfl⟩
  rw [← hW9, ← hq]
  have B89 : Below w8.heap.size w8 W9 := by rw [hW9]; exact (Below.refl _ _).alloc (Nat.le_refl _) _
  have B79 := Lib.hid (chain2 C8.out.below B89)
  have B49 := Lib.hid (chain2 B47.out B79.out)
  have BQ := Lib.hid (show Blk W9 q 25 #[.slice B n x, .slice B2 m y] by rw [hW9]; exact blk_at hq.symm _ _)
  have BX9 := Lib.hid (BX7.out.below B79.out BX7.out.lt)
  have RS9 := Lib.hid (own_later RS4.out B49.out)
  have RA9 := Lib.hid (own_later RA4.out B49.out)
  have RB1 := Lib.hid (own_later C8.out.sup B89)
  have RB2 := Lib.hid (own_later C8.out.arcs B89)
  have BL9 := Lib.hid (chain2 BL4.out B49.out)
  have AL := Lib.hid (show ∀ g, (Value.slice A m cap).ownBlock = some g → g < W7.heap.size from fun g e => Nat.lt_of_lt_of_le (own_lt RA4.out g e) B47.out.size)
  have QL := Lib.hid (show W7.heap.size ≤ q by rw [hq]; exact C8.out.below.size)
  have e12 : (N2 == N1 + 1) = true := by rw [beq_iff_eq]; exact HN2.out
  have e11 : (N1 == N1) = true := by simp
  clear x0 x1 x2 hW9 hq B89 WB CM H7 BX7 BX5 RS4 RA4
  have x0 := BX9.out.cell 0
  have x1 := BX9.out.cell 1
  have x2 := BX9.out.lt
  have y0 := BQ.out.cell 0
  have y1 := BQ.out.cell 1
  have y2 := BQ.out.lt
  simp at x0 x1 y0 y1
  by_cases m0 : m = 0
  · subst m0
    have HB9 := Lib.hid (show Here W9 B B2 n 0 I from ⟨⟨by rw [HN.out]; omega, by rw [HM.out]; omega, own_row RB1.out, own_row RB2.out⟩, HN.out, HM.out⟩)
    have KN := Lib.hid (known_any W9)
    have SB := Lib.hid (fun w' (h : Below W9.heap.size W9 w') => (HB9.out.later h).span x y N1 HS.out)
    have QC := Lib.hid (fun w' (h : Below W9.heap.size W9 w') => (show w'.cell? ⟨q, 0, none⟩ = some (.slice B n x) ∧ w'.cell? ⟨q, 1, none⟩ = some (.slice B2 0 y) ∧ q < w'.heap.size from ⟨(BQ.out.below h BQ.out.lt).cell 0, (BQ.out.below h BQ.out.lt).cell 1, (BQ.out.below h BQ.out.lt).lt⟩))
    go_wp2_with (first
      | (go_at_call 11; refine KN.out.mono ?_; rintro e wn ⟨rfl, hb⟩; have HB1 := Lib.hid hb; obtain ⟨q0, q1, q2⟩ := QC.out _ hb; clear hb)
      | (go_at_call 24; (with_reducible refine (SB.out _ HB1.out).mono ?_); rintro e ws ⟨rfl, hb⟩; have HB2 := Lib.hid (chain2 HB1.out hb); clear hb))
    go_ret
    exact ⟨rfl, chain2 BL9.out HB2.out⟩
  · have mp : 0 < m := by omega
    have me : ((m : Int) == 0) = false := by rw [beq_eq_false_iff_ne]; omega
    obtain ⟨a, ha⟩ : ∃ a, a = k % m := ⟨_, rfl⟩
    have al : a < m := by rw [ha]; exact Nat.mod_lt _ mp
    have tk : (k : Int) % (m : Int) = (a : Int) := by omega
    obtain ⟨gA, rfl, gl, gc, gf⟩ := own_at RA9.out mp
    have hai : a < I1.arcs.length := by rw [IM1.out]; exact al
    obtain ⟨v, hv⟩ : ∃ v, v = (I1.arcs[a]).low := ⟨_, rfl⟩
    have c0 : W9.cell? ⟨gA, a * 5 + 2, none⟩ = some (.int .i64 v) := by
      rw [gc (a * 5 + 2) (by rw [arcV_length]; omega)]
      have fg := flat_get I1.arcs a 2 hai (by omega)
      have e : (arcV I1.arcs)[a * 5 + 2]? = some (.int .i64 v) := by
        show ((flat I1.arcs).map nv)[a * 5 + 2]? = _
        rw [List.getElem?_map, fg, hv]
        rfl
      rw [List.getElem?_eq_getElem (by rw [arcV_length]; omega)] at e
      exact e
    have f0 := gf (a * 5 + 2)
    have HV := Lib.hid hv
    have HA := Lib.hid ha
    have a0 : (0 : Int) ≤ (a : Int) := by omega
    have a1 : (a : Int) < (m : Int) := by omega
    clear gc gf ha hv
    go_upto_region 13 with fail
    obtain ⟨W10, hW10⟩ : ∃ W10, W10 = W9.setCell ⟨gA, a * 5 + 2, none⟩ (.int .i64 0) := ⟨_, rfl⟩
    obtain ⟨I2, hI2⟩ : ∃ I2, I2 = lowLess I1 a (setF (arcAt I1.arcs a) 2 0) := ⟨_, rfl⟩
    have ay : arcAt I1.arcs a = I1.arcs[a] := by unfold arcAt; rw [List.getD_eq_getElem?_getD, List.getElem?_eq_getElem hai]; rfl
    have gpA := own_not RA9.out BX9.out (by decide)
    have gqA := own_not RA9.out BQ.out (by decide)
    have gsA := own_apart RA9.out RS9.out (by decide) gA rfl
    have glt := AL.out gA rfl
    have RA10 := Lib.hid (show W10.ownsRow W.heap.size 45 5 (.slice (some ⟨gA, 0, none⟩) m cap) m (arcV I2.arcs) by
      rw [hW10, hI2]
      show World.ownsRow _ _ _ _ _ _ (arcV (I1.arcs.set a (setF (arcAt I1.arcs a) 2 0)))
      rw [← arcV_set _ _ _ _ (by omega) hai]
      exact own_set RA9.out _ _)
    have RS10 := Lib.hid (show W10.ownsRow W.heap.size 2 1 (.slice A1 K c1) K (numV I2.sup) by
      rw [hW10, hI2]
      exact own_far RS9.out gsA _)
    have BX10 := Lib.hid (show Blk W10 p 25 #[.slice A1 K c1, .slice (some ⟨gA, 0, none⟩) m cap] by rw [hW10]; exact BX9.out.far (fun e => gpA (by rw [show p = gA from e]; rfl)) _)
    have BQ10 := Lib.hid (show Blk W10 q 25 #[.slice B n x, .slice B2 m y] by rw [hW10]; exact BQ.out.far (fun e => gqA (by rw [show q = gA from e]; rfl)) _)
    have RB10 := Lib.hid (show W10.ownsRow W7.heap.size 2 1 (.slice B n x) n (numV I.sup) by rw [hW10]; exact own_far RB1.out (fun e => by have h : W7.heap.size ≤ gA := own_ge RB1.out _ e; omega) _)
    have RC10 := Lib.hid (show W10.ownsRow W7.heap.size 45 5 (.slice B2 m y) m (arcV I.arcs) by rw [hW10]; exact own_far RB2.out (fun e => by have h : W7.heap.size ≤ gA := own_ge RB2.out _ e; omega) _)
    have BL10 := Lib.hid (show Below W.heap.size W W10 by rw [hW10]; exact BL9.out.setCell (show W.heap.size ≤ gA from own_ge RA9.out gA rfl) _)
    have IN2 := Lib.hid (show I2.sup.length = K by rw [hI2]; exact IN1.out)
    have IM2 := Lib.hid (show I2.arcs.length = m by rw [hI2]; simp [lowLess]; exact IM1.out)
    have H10 := Lib.hid (show Here W10 A1 (some ⟨gA, 0, none⟩) K m I2 from ⟨⟨by rw [IN2.out]; omega, by rw [IM2.out]; omega, own_row RS10.out, own_row RA10.out⟩, IN2.out, IM2.out⟩)
    have HB10 := Lib.hid (show Here W10 B B2 n m I from ⟨⟨by rw [HN.out]; omega, by rw [HM.out]; omega, own_row RB10.out, own_row RC10.out⟩, HN.out, HM.out⟩)
    obtain ⟨N3, hN3⟩ : ∃ N3, spanD I2 = N3 := ⟨_, rfl⟩
    have E3 : N3 = N2 - if v ≠ 0 then 1 else 0 := by
      have h := less_span I1 a (setF (arcAt I1.arcs a) 2 0) hai rfl
      rw [← hI2, hN3, ← HV.out, HI1.out, more_span, HS.out, ← HN2.out] at h
      exact h
    obtain ⟨lb, hlb⟩ : ∃ lb, (v != 0) = lb := ⟨_, rfl⟩
    have n30 : -1 ≤ N3 := by rw [E3]; split <;> omega
    have n31 : N3 ≤ 101 := by rw [E3]; split <;> omega
    obtain ⟨N4, hN4⟩ : ∃ N4, N4 = N3 - 1 := ⟨_, rfl⟩
    have GS := Lib.hid (show spanD (withoutD I2 [] (mark a)) = N4 by
      have hin : InD I2 := by rw [hI2]; exact set_in I1 a hai (by rw [HI1.out]; exact more_in I HIN.out) _ rfl rfl
      have h0 : (arcAt I2.arcs a).low = 0 := by
        rw [hI2]
        unfold arcAt lowLess
        simp only
        rw [List.getD_eq_getElem?_getD, List.getElem?_set_self hai]
        rfl
      rw [gone_span I2 a hin (by rw [IM2.out]; exact al) h0 (by rw [IN2.out]; omega) (by rw [IM2.out]; omega), hN3, hN4])
    have e3 : (N3 == IntKind.i64.wrap (N2 - 1)) = lb := by
      rw [IntKind.wrap_i64, ← hlb, E3]
      by_cases z : v = 0
      · rw [if_neg (by simp [z]), Bool.eq_iff_iff]
        simp [z]
        omega
      · rw [if_pos z, Bool.eq_iff_iff]
        simp [z]
        omega
    have e4 : (N4 == IntKind.i64.wrap (N3 - 1)) = true := by rw [IntKind.wrap_i64, hN4, beq_iff_eq]; omega
    have e12w : (N2 == IntKind.i64.wrap (N1 + 1)) = true := by rw [IntKind.wrap_i64, HN2.out, beq_iff_eq]; omega
    have eb : (lb == lb) = true := by simp
    have SP10 := Lib.hid (H10.out.span c1 cap N3 hN3)
    obtain ⟨Ka, hKa⟩ : ∃ Ka, Ka = a + 1 := ⟨_, rfl⟩
    have tk1 : (a : Int) + 1 = (Ka : Int) := by omega
    have ka1 : Ka ≤ 19 := by omega
    have HKa := Lib.hid hKa
    have HI2 := Lib.hid hI2
    rw [← hW10]
    clear HV hW10 hI2 hN3 hN4 E3 ay gpA gqA gsA glt x0 x1 x2 y0 y1 y2 c0 f0 gl hai hKa e12 BX9 BQ RS9 RA9 RB1 RB2
    have x0 := BX10.out.cell 0
    have x1 := BX10.out.cell 1
    have x2 := BX10.out.lt
    simp at x0 x1
    go_upto_region 14 with (go_at_call 24; (with_reducible refine SP10.out.mono ?_); rintro e w11 ⟨rfl, hb⟩; have B11 := Lib.hid hb; clear hb)
    have hmk2 := make_bools Ka (by omega)
    obtain ⟨Z2, hZ2⟩ : ∃ Z, Z = (boolV (List.replicate Ka false)).toArray := ⟨_, rfl⟩
    rw [← hZ2] at hmk2
    have HZ2 := Lib.hid hZ2
    clear hZ2 x0 x1 x2
    go_upto_region 15 with fail
    obtain ⟨o2, ho2⟩ : ∃ o, o = w11.heap.size := ⟨_, rfl⟩
    obtain ⟨W12, hW12⟩ : ∃ W12, W12 = w11.alloc (.cells Z2 4) := ⟨_, rfl⟩
    rw [← hW12, ← ho2]
    have BO := Lib.hid (show Blk W12 o2 4 (boolV (List.replicate (a + 1) false)).toArray by rw [hW12, HZ2.out, HKa.out]; exact blk_at ho2.symm _ _)
    have B12 := Lib.hid (show Below w11.heap.size w11 W12 by rw [hW12]; exact (Below.refl _ _).alloc (Nat.le_refl _) _)
    have OL := Lib.hid (show w11.heap.size ≤ o2 by omega)
    have b0 : W12.cell? ⟨o2, a, none⟩ = some (.bool false) := by
      rw [BO.out.cell a]
      simp [boolV]
    have b1 := BO.out.frozen a
    have b2 := BO.out.lt
    have ak : (a : Int) < (Ka : Int) := by have := HKa.out; omega
    clear hW12 ho2 hmk2
    go_upto_region 16 with fail
    obtain ⟨W13, hW13⟩ : ∃ W13, W13 = W12.setCell ⟨o2, a, none⟩ (.bool true) := ⟨_, rfl⟩
    rw [← hW13]
    have CM2 := Lib.hid (show Cells W13 W13.heap.size (some ⟨o2, 0, none⟩) (boolV (mark a)) by rw [hW13]; exact mark_blk BO.out)
    have B13 := Lib.hid (chain2 B11.out (show Below w11.heap.size w11 W13 by rw [hW13]; exact B12.out.setCell OL.out _))
    have BX13 := Lib.hid (BX10.out.below B13.out BX10.out.lt)
    have WG := Lib.hid ((H10.out.later B13.out).without c1 cap none (some ⟨o2, 0, none⟩) 0 Ka 0 Ka [] (mark a) _ rfl rfl (by rw [mark_length]; exact HKa.out.symm) (row_nil _ _) CM2.out)
    obtain ⟨J, hJ⟩ : ∃ J, withoutD I2 [] (mark a) = J := ⟨_, rfl⟩
    have jn : J.sup.length ≤ 1000 := by
      rw [← hJ]
      unfold withoutD
      simp only [List.length_map]
      exact kept_1000 _ _
    have jm : J.arcs.length ≤ 1000 := by
      rw [← hJ]
      exact Nat.le_trans (leftA_length _ _ _) (kept_1000 _ _)
    rw [hJ] at WG GS
    have GW := Lib.hid (fun (w' u : World) D D2 c1 c2 (h : Copied w' u (.slice D J.sup.length c1) (.slice D2 J.arcs.length c2) J.sup.length J.arcs.length J) => (h.here rfl rfl (by omega) (by omega)).span c1 c2 N4 GS.out)
    clear hJ hW13 b0 b1 b2 BO B12 OL
    have x0 := BX13.out.cell 0
    have x1 := BX13.out.cell 1
    have x2 := BX13.out.lt
    simp at x0 x1
    go_upto_region 17 with (first
      | (go_at_call 22; (with_reducible refine WG.out.mono ?_); rintro e w14 ⟨D, d1, D2, d2, rfl, hc⟩; have C14 := Lib.hid hc.below; have SG := Lib.hid (GW.out _ _ _ _ _ _ hc); clear hc)
      | (go_at_call 24; (with_reducible refine SG.out.mono ?_); rintro e w15 ⟨rfl, hb⟩; have B15 := Lib.hid (chain2 (chain2 B13.out C14.out) hb); clear hb))
    have HB15 := Lib.hid (HB10.out.later B15.out)
    have BL15 := Lib.hid (chain2 BL10.out B15.out)
    have BQ15 := Lib.hid (BQ10.out.below B15.out BQ10.out.lt)
    have SB := Lib.hid (fun w' (h : SQ w15 q (.slice B n x) (.slice B2 m y) w') => (HB15.out.later h.2.2).span x y N1 HS.out)
    have IN2' := Lib.hid (fun w' (h : SQ w15 q (.slice B n x) (.slice B2 m y) w') => IN0.out w' (chain2 BL15.out h.2.2))
    have RS := Lib.hid (fun w' (h : SQ w15 q (.slice B n x) (.slice B2 m y) w') sB2 A2 c2 (g : Here w' (some ⟨sB2, 0, none⟩) A2 n m I) => (HB15.out.later h.2.2).rsame g x y n c2 true (decide_eq_true rfl))
    have MN := Lib.hid (fun (w' u : World) sB2 A2 c2 (h : Made w' u sB2 (.slice A2 m c2) I.sup I.arcs) => h.here (I := I) HN.out HM.out (by omega) (by omega))
    clear x0 x1 x2
    have y0 := BQ15.out.cell 0
    have y1 := BQ15.out.cell 1
    have y2 := BQ15.out.lt
    simp at y0 y1
    go_wp2_with fail
    go_region_held3 (fun u => u.cell? ⟨q, 0, none⟩ = some (.slice B n x) ∧ u.cell? ⟨q, 1, none⟩ = some (.slice B2 m y) ∧ Below w15.heap.size w15 u)
      (first | exact ⟨y0, y1, (Below.refl _ _).drew⟩ | exact keep2 y2 ⟨y0, y1, (Below.refl _ _).drew⟩ hb | exact keep2 y2 (by assumption) hb)
      (first
        | (go_at_call 11; (refine (KW.out _).mono ?_); rintro e wn ⟨rfl, hb⟩)
        | (go_at_call 24; (with_reducible refine (SB.out _ (by assumption)).mono ?_); rintro e we ⟨rfl, hb⟩)
        | (go_at_call 12; (with_reducible refine (IN2'.out _ (by assumption)).mono ?_); rintro e wp ⟨sB2, aV2, rfl, hM⟩; obtain ⟨-, A9, c9, ea, -, -, -⟩ := own_cells hM.arcs; subst ea; rw [HM.out] at hM; rw [HM.out]; have hb := hM.below; have H9 := Lib.hid (MN.out _ _ _ _ _ hM); clear hM)
        | (go_at_call 26; (with_reducible refine (RS.out _ (by assumption) _ _ _ H9.out).mono ?_); rintro e wt ⟨rfl, hb⟩))
    all_goals
      rename_i hs
      have H9 := Lib.hid (show Below w15.heap.size w15 _ from hs.2.2)
      clear hs
      go_wp2_with fail
      go_ret
      exact ⟨rfl, chain2 BL15.out H9.out⟩
end Go.Proofs.Ytekjbpdfginplaa.Inst
