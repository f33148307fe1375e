/- What the landed layer 3 does: Without. -/
import Derived.Test.YtekjbpdfginplaaInstLJ
import Derived.Test.YtekjbpdfginplaaInstLG
namespace Go.Proofs.Ytekjbpdfginplaa.Inst
open Go.RowKit

theorem kept_lt (off : List Bool) (n : Nat) (k : Nat) (hk : k < (keptD off (n : Int)).length) : (keptD off (n : Int))[k] < n := by
  have h1 : (keptD off (n : Int))[k] < upto (n : Int) := keptN_lt off (upto (n : Int)) _ (List.getElem_mem hk)
  have h2 : upto (n : Int) ≤ n := by unfold upto; omega
  omega
theorem kept_1000 (off : List Bool) (n : Int) : (keptD off n).length ≤ 1000 := by
  have := keptN_length off (upto n)
  unfold keptD
  unfold upto at this ⊢
  omega
theorem kept_n (off : List Bool) (n : Nat) : (keptD off (n : Int)).length ≤ n := by
  have := keptN_length off (upto (n : Int))
  unfold keptD
  unfold upto at this ⊢
  omega
theorem size_instk : (Try.prog.info? 25).map (·.size) = some 2 := by kernel_rfl
theorem left_mk {w W w2 w3 w4 : World} {v1 v2 : Value} {s : Nat} {I : InstD} {n m : Nat} (hs : w.heap.size + 1 + 1 ≤ W.heap.size) (h0 : Below w.heap.size w W) (h2 : Below W.heap.size W w2) (o2 : w2.ownsRow W.heap.size 2 1 v1 n (numV I.sup))
    (h3 : Below w2.heap.size w2 w3) (h4 : Below w3.heap.size w3 w4) (o4 : w4.ownsRow w3.heap.size 45 5 v2 m (arcV I.arcs)) (e : s = w.heap.size + 1) : Copied w ((w4.setCell ⟨s, 0, none⟩ v1).setCell ⟨s, 1, none⟩ v2) v1 v2 n m I := by
  subst e
  have z2 := h2.size
  have z3 := h3.size
  have p1 := own_later (own_later o2 h3) h4
  have f1 : v1.ownBlock ≠ some (w.heap.size + 1) := fun e => by have := own_ge o2 _ e; omega
  have f2 : v2.ownBlock ≠ some (w.heap.size + 1) := fun e => by have := own_ge o4 _ e; omega
  refine ⟨own_far (own_far (own_base p1 (by omega)) f1 _) f1 _, own_far (own_far (own_base o4 (by omega)) f2 _) f2 _, ?_⟩
  exact ((chain2 (chain2 (chain2 h0 h2) h3) h4).setCell (by simp <;> omega) _).setCell (by simp <;> omega) _

set_option maxRecDepth 100000 in
set_option maxHeartbeats 4000000 in
theorem without_any (A A2 : Option Addr) (c d : Nat) (I : InstD) (n m : Nat) (hn : I.sup.length = n) (hm : I.arcs.length = m) (a b : Option Addr) (ca cb : Nat) (ns zs : List Bool) (w : World) (hI : InstIs w A A2 I) (ha : Cells w w.heap.size a (boolV ns)) (hb : Cells w w.heap.size b (boolV zs)) :
    Calls Try.prog 22 #[.agg #[.slice A n c, .slice A2 m d], .slice a ns.length ca, .slice b zs.length cb] w fun e w' => ∃ v1 v2, e = .returned (.agg #[v1, v2]) ∧ Copied w w' v1 v2 (withoutD I ns zs).sup.length (withoutD I ns zs).arcs.length (withoutD I ns zs) := by
  have n9 := hI.n
  have m9 := hI.m
  rw [hn] at n9
  rw [hm] at m9
  have HI := Lib.hid hI
  have HA := Lib.hid ha
  have HB := Lib.hid hb
  have HN := Lib.hid hn
  have HM := Lib.hid hm
  obtain ⟨N, hN⟩ : ∃ N, N = keptD ns (n : Int) := ⟨_, rfl⟩
  obtain ⟨M, hM⟩ : ∃ M, M = keptD zs (m : Int) := ⟨_, rfl⟩
  have KN := Lib.hid (fun w' (h : Below w.heap.size w w') => kept_any a ca ns (n : Int) (by omega) w' (HA.out.later (Nat.le_refl _) h))
  have KM := Lib.hid (fun w' (h : Below w.heap.size w w') => kept_any b cb zs (m : Int) (by omega) w' (HB.out.later (Nat.le_refl _) h))
  have N1 := Lib.hid (show N.length ≤ 1000 by rw [hN]; exact kept_1000 _ _)
  have M1 := Lib.hid (show M.length ≤ 1000 by rw [hM]; exact kept_1000 _ _)
  have NL := Lib.hid (show ∀ (k : Nat) (hk : k < N.length), N[k] < n by subst hN; exact fun k hk => kept_lt _ _ k hk)
  have ML := Lib.hid (show ∀ (k : Nat) (hk : k < M.length), M[k] < m by subst hM; exact fun k hk => kept_lt _ _ k hk)
  have NR := Lib.hid (show Rising N by rw [hN]; exact keptN_rising _ _)
  have WD := Lib.hid (show withoutD I ns zs = ⟨N.map fun k => I.sup.getD k 0, leftA N I.arcs M⟩ by unfold withoutD; rw [hn, hm, ← hN, ← hM])
  rw [← hN] at KN
  rw [← hM] at KM
  clear hI ha hb hN hM hn hm
  go_enter Try.func22, Try.ntmps22
  go_upto_region 4 with (go_at_call 17; (with_reducible refine (KN.out _ ?bb).mono ?_); (case bb => repeat (first | exact Below.refl _ _ | refine Below.drew ?_ | refine Below.alloc ?_ (by simp <;> omega) _)); rintro e w1 ⟨NA, ncap, rfl, nc1, nc2, nb, no⟩; have NB := Lib.hid nb; have NC := Lib.hid nc2; clear nb no nc2)
  have BW := chain2 (w := w) (by repeat (first | exact Below.refl _ _ | refine Below.alloc ?_ (by simp <;> omega) _)) NB.out
  have z1 := NB.out.size
  simp at z1
  have BX : Blk w1 w.heap.size 25 #[.slice A n c, .slice A2 m d] := ((Blk.new _ _ _).alloc _).below NB.out (by simp; omega)
  have RS : Blk w1 (w.heap.size + 1) 25 #[.slice none 0 0, .slice none 0 0] := (blk_at (by simp) _ _).below NB.out (by simp)
  obtain ⟨W1, hW1⟩ : ∃ W1, W1 = w1.alloc (.cells #[.slice NA N.length ncap] 35) := ⟨_, rfl⟩
  obtain ⟨s, hs⟩ : ∃ s, s = w1.heap.size := ⟨_, rfl⟩
  rw [← hW1, ← hs]
  have HX := Lib.hid (show Blk W1 w.heap.size 25 #[.slice A n c, .slice A2 m d] by rw [hW1]; exact BX.alloc _)
  have HR := Lib.hid (show Blk W1 (w.heap.size + 1) 25 #[.slice none 0 0, .slice none 0 0] by rw [hW1]; exact RS.alloc _)
  have HS := Lib.hid (show Blk W1 s 35 #[.slice NA N.length ncap] by rw [hW1, hs]; exact Blk.new _ _ _)
  have CN := Lib.hid (show Cells W1 W1.heap.size NA (natV N) by rw [hW1]; exact NC.out.later (Nat.le_refl _) ((Below.refl _ _).alloc (Nat.le_refl _) _))
  have HW := Lib.hid (show Below w.heap.size w W1 by rw [hW1]; exact BW.alloc (by omega) _)
  have g1 : w.heap.size + 1 + 1 ≤ W1.heap.size := by rw [hW1]; simp; omega
  have g2 : s < W1.heap.size := HS.out.lt
  clear BX RS BW hW1 hs NB NC z1
  have TS := Lib.hid (fun w' (h : Below W1.heap.size W1 w') => takes_any NA ncap N N1.out w.heap.size A c n I.sup HN.out n9 NL.out w' (HX.out.below h HX.out.lt).lt ((HX.out.below h HX.out.lt).cell 0) (HI.out.later (chain2 HW.out h)).sup (CN.out.later (Nat.le_refl _) h))
  have TA := Lib.hid (fun w' (h : Below W1.heap.size W1 w') MA mc (hm : Cells w' w'.heap.size MA (natV M)) => takea_any MA mc M M1.out w.heap.size s A2 d m I.arcs HM.out m9 ML.out NA ncap N N1.out NR.out w' (HX.out.below h HX.out.lt).lt (HS.out.below h HS.out.lt).lt ((HX.out.below h HX.out.lt).cell 1) ((HS.out.below h HS.out.lt).cell 0) (HI.out.later (chain2 HW.out h)).arcs (CN.out.later (Nat.le_refl _) h) hm)
  have x0 := HS.out.cell 0
  have x1 := HX.out.cell 1
  simp at x0 x1
  go_cut [6] (fun s6 wx => s6 = .pointer (some ⟨w.heap.size + 1, 0, none⟩) ∧ ∃ v1 v2, Blk wx (w.heap.size + 1) 25 #[v1, v2] ∧ Copied w wx v1 v2 (withoutD I ns zs).sup.length (withoutD I ns zs).arcs.length (withoutD I ns zs))
  case first =>
    go_region_with (first
      | (go_at_call 38; (with_reducible refine (TS.out _ ?bb).mono ?_); (case bb => repeat (first | exact Below.refl _ _ | refine Below.drew ?_)); rintro e w2 ⟨v1, rfl, o2, hb2⟩; obtain ⟨-, A1, cap1, rfl, -, -, -⟩ := own_cells o2; have O2 := Lib.hid o2
         have r2 : Below W1.heap.size W1 w2 := chain2 (by repeat (first | exact Below.refl _ _ | refine Below.drew ?_)) hb2
         have y1 := (HX.out.below r2 HX.out.lt).cell 1; simp at y1
         have R2 := Lib.hid r2; have z2 := r2.size
         clear o2 hb2 r2)
      | (go_at_call 17; (with_reducible refine (KM.out _ ?bb).mono ?_); (case bb => exact chain2 HW.out (by repeat (first | exact R2.out | refine Below.drew ?_))); rintro e w3 ⟨MA, mcap, rfl, mc1, mc2, mb, mo⟩
         have r3 : Below w2.heap.size w2 w3 := chain2 (by repeat (first | exact Below.refl _ _ | refine Below.drew ?_)) mb
         have q3 := chain2 R2.out r3
         have u1 := (HX.out.below q3 HX.out.lt).cell 1; simp at u1
         have R3 := Lib.hid r3; have Q3 := Lib.hid q3; have z3 := r3.size; have C3 := Lib.hid mc2
         clear mb mo mc2 r3 q3)
      | (go_at_call 39; (with_reducible refine (TA.out _ ?bb _ _ ?cc).mono ?_); (case bb => repeat (first | exact Q3.out | refine Below.drew ?_)); (case cc => exact C3.out); rintro e w4 ⟨v2, rfl, o4, hb4⟩; obtain ⟨-, A4, cap4, rfl, -, -, -⟩ := own_cells o4; have O4 := Lib.hid o4
         have r4 : Below w3.heap.size w3 w4 := chain2 (by repeat (first | exact Below.refl _ _ | refine Below.drew ?_)) hb4
         have B4 : Blk w4 (w.heap.size + 1) 25 #[.slice none 0 0, .slice none 0 0] := HR.out.below (chain2 Q3.out r4) HR.out.lt
         have y40 := B4.cell 0; have y41 := B4.cell 1; simp at y40 y41; have f40 := B4.frozen 0; have f41 := B4.frozen 1; have lt4 := B4.lt
         have HB4 := Lib.hid B4; have R4 := Lib.hid r4; have z4 := r4.size
         clear o4 hb4 r4 B4))
    all_goals
      go_wp2_with fail
      go_meet
      case rel =>
        refine ⟨rfl, _, _, (HB4.out.set_ 0 _).set_ 1 _, ?_⟩
        rw [WD.out]
        show Copied _ _ _ _ (N.map fun k => I.sup.getD k 0).length _ _
        rw [List.length_map]
        exact left_mk g1 HW.out R2.out O2.out R3.out R4.out O4.out rfl
  case rest =>
    obtain ⟨rfl, v1, v2, hb, hc⟩ := hcut
    have HB := Lib.hid hb
    have HC := Lib.hid hc
    have b0 := hb.cell 0
    have b1 := hb.cell 1
    simp at b0 b1
    go_wp2_with fail
    refine bodyPost_ret (v := .agg #[v1, v2]) ?_ rfl ⟨v1, v2, rfl, HC.out⟩
    exact results_cell_row rfl _ _ _ _ _ _ _ rfl HB.out Try.underlying25 rfl size_instk
end Go.Proofs.Ytekjbpdfginplaa.Inst
