/- The laws' own helpers: all that is asked of an instance; whether two are the same. -/
import Derived.Test.YtekjbpdfginplaaInstWG
namespace Go.Proofs.Ytekjbpdfginplaa.Inst
open Go.RowKit

theorem size_big (A A2 : Option Addr) (c d n m : Nat) (h1 : n ≤ 140737488355328) (h2 : m ≤ 140737488355328) (w : World) :
    Calls Try.prog 10 #[.agg #[.slice A n c, .slice A2 m d]] w fun e w' => e = .returned (.int .i64 ((n : Int) + 2 * (m : Int))) ∧ Below w.heap.size w w' := by
  go_enter Try.func10, Try.ntmps10
  go_wp2_with fail
  go_ret
  exact ⟨rfl, (Below.refl _ _).alloc (Nat.le_refl _) _⟩

set_option maxRecDepth 100000 in
set_option maxHeartbeats 8000000 in
theorem asks_any (A A2 : Option Addr) (c d n m : Nat) (I : InstD) (h1 : n ≤ 1000) (h2 : m ≤ 1000) (a b : Option Addr) (k l ca cb : Nat) (ns zs : List Bool) (hk : ns.length = k) (hl : zs.length = l) (w : World) (hI : Here w A A2 n m I) (ha : Cells w w.heap.size a (boolV ns)) (hb : Cells w w.heap.size b (boolV zs)) :
    Calls Try.prog 13 #[.agg #[.slice A n c, .slice A2 m d], .slice a k ca, .slice b l cb] w fun e w' => e = .returned (.bool true) ∧ Below w.heap.size w w' := by
  obtain ⟨W1, hW1⟩ : ∃ W1, W1 = w.alloc (.cells #[.slice A n c, .slice A2 m d] 25) := ⟨_, rfl⟩
  obtain ⟨p, hp⟩ : ∃ p, p = w.heap.size := ⟨_, rfl⟩
  have B1 := Lib.hid (show Below w.heap.size w W1 by rw [hW1]; exact (Below.refl _ _).alloc (Nat.le_refl _) _)
  have BX := Lib.hid (show Blk W1 p 25 #[.slice A n c, .slice A2 m d] by rw [hW1]; exact blk_at hp.symm _ _)
  have H := Lib.hid (hI.later B1.out)
  have CA := Lib.hid (ha.later (Nat.le_refl _) B1.out)
  have CB := Lib.hid (hb.later (Nat.le_refl _) B1.out)
  have rb := rightD_bd I
  obtain ⟨r, hr⟩ : ∃ r, rightD I = r := ⟨_, rfl⟩
  rw [hr] at rb
  have er : (IntKind.i64.wrap r == r) = true := by rw [wrap_id rb.1 rb.2]; simp
  obtain ⟨t, ht⟩ : ∃ t, spanD I = t := ⟨_, rfl⟩
  have et : (t == t) = true := by simp
  obtain ⟨J, hJ⟩ : ∃ J, withoutD I ns zs = J := ⟨_, rfl⟩
  have jn : J.sup.length ≤ 1000 := by
    rw [← hJ]
    unfold withoutD
    simp only [List.length_map]
    exact kept_1000 _ _
  have jm : J.arcs.length ≤ 1000 := by
    rw [← hJ]
    exact Nat.le_trans (leftA_length _ _ _) (kept_1000 _ _)
  have hn := hI.n
  have hm := hI.m
  have R1 := Lib.hid (fun w' (h : SQ W1 p (.slice A n c) (.slice A2 m d) w') => (H.out.later h.2.2).right c d r hr)
  have R2 := Lib.hid (fun w' (h : SQ W1 p (.slice A n c) (.slice A2 m d) w') => (H.out.later h.2.2).rright c d r hr)
  have S1 := Lib.hid (fun w' (h : SQ W1 p (.slice A n c) (.slice A2 m d) w') => (H.out.later h.2.2).span c d t ht)
  have S2 := Lib.hid (fun w' (h : SQ W1 p (.slice A n c) (.slice A2 m d) w') => (H.out.later h.2.2).rspan c d t ht)
  have CO := Lib.hid (fun w' (h : SQ W1 p (.slice A n c) (.slice A2 m d) w') => (H.out.later h.2.2).copy c d h1 h2)
  have W3 := Lib.hid (fun w' (h : SQ W1 p (.slice A n c) (.slice A2 m d) w') => (H.out.later h.2.2).without c d a b k l ca cb ns zs J hJ hk hl (CA.out.later (Nat.le_refl _) h.2.2) (CB.out.later (Nat.le_refl _) h.2.2))
  have W4 := Lib.hid (fun w' (h : SQ W1 p (.slice A n c) (.slice A2 m d) w') => (H.out.later h.2.2).rwithout c d a b k l ca cb ns zs J hJ hk hl (CA.out.later (Nat.le_refl _) h.2.2) (CB.out.later (Nat.le_refl _) h.2.2))
  have SC := Lib.hid (fun w' (h : SQ W1 p (.slice A n c) (.slice A2 m d) w') D D2 x y (g : Here w' D D2 n m I) => g.rsame (H.out.later h.2.2) x y c d true (decide_eq_true rfl))
  have SJ := Lib.hid (fun w' D D2 x y E E2 u v (g : Here w' D D2 J.sup.length J.arcs.length J) (f : Here w' E E2 J.sup.length J.arcs.length J) => g.rsame f x y u v true (decide_eq_true rfl))
  have HC := Lib.hid (fun (w' u : World) D D2 x y (h : Copied w' u (.slice D n x) (.slice D2 m y) n m I) => h.here hn hm (by omega) (by omega))
  have HJ := Lib.hid (fun (w' u : World) D D2 x y (h : Copied w' u (.slice D J.sup.length x) (.slice D2 J.arcs.length y) J.sup.length J.arcs.length J) => h.here rfl rfl (by omega) (by omega))
  have x0 := BX.out.cell 0
  have x1 := BX.out.cell 1
  have x2 := BX.out.lt
  simp at x0 x1
  have HW := Lib.hid hW1
  have HP := Lib.hid hp
  clear hI ha hb hJ hr ht hk hl hn hm rb hW1 hp
  go_enter Try.func13, Try.ntmps13
  go_upto_region 1 with fail
  rw [← HW.out, ← HP.out]
  go_wp2_with fail
  go_region_held3 (fun u => u.cell? ⟨p, 0, none⟩ = some (.slice A n c) ∧ u.cell? ⟨p, 1, none⟩ = some (.slice A2 m d) ∧ Below W1.heap.size W1 u)
    (first | exact ⟨x0, x1, (Below.refl _ _).drew⟩ | exact keep2 x2 ⟨x0, x1, (Below.refl _ _).drew⟩ hb | exact keep2 x2 (by assumption) hb)
    (first
      | (go_at_call 20; (with_reducible refine (R1.out _ (by assumption)).mono ?_); rintro e wa ⟨rfl, hb⟩)
      | (go_at_call 20; (with_reducible refine (R1.out _ ⟨x0, x1, (Below.refl _ _).drew⟩).mono ?_); rintro e wa ⟨rfl, hb⟩)
      | (go_at_call 21; (with_reducible refine (R2.out _ (by assumption)).mono ?_); rintro e wb ⟨rfl, hb⟩)
      | (go_at_call 24; (with_reducible refine (S1.out _ (by assumption)).mono ?_); rintro e wc ⟨rfl, hb⟩)
      | (go_at_call 28; (with_reducible refine (S2.out _ (by assumption)).mono ?_); rintro e wd ⟨rfl, hb⟩)
      | (go_at_call 25; (with_reducible refine (CO.out _ (by assumption)).mono ?_); rintro e we ⟨D, x, D2, y, rfl, hc⟩; have hb := hc.below; have G1 := Lib.hid (HC.out _ _ _ _ _ _ hc); clear hc)
      | (go_at_call 26; (with_reducible refine (SC.out _ (by assumption) _ _ _ _ G1.out).mono ?_); rintro e wf ⟨rfl, hb⟩)
      | (go_at_call 22; (with_reducible refine (W3.out _ (by assumption)).mono ?_); rintro e wg ⟨E, u, E2, v, rfl, hc⟩; have hb := hc.below; have G2 := Lib.hid (HJ.out _ _ _ _ _ _ hc); clear hc)
      | (go_at_call 29; (with_reducible refine (W4.out _ (by assumption)).mono ?_); rintro e wh ⟨F, u2, F2, v2, rfl, g3, hb⟩; have G3 := Lib.hid g3; have G4 := Lib.hid (G2.out.later hb); clear g3)
      | (go_at_call 26; (with_reducible refine (SJ.out _ _ _ _ _ _ _ _ _ G4.out G3.out).mono ?_); rintro e wi ⟨rfl, hb⟩))
  all_goals
    rename_i hs
    have H9 := Lib.hid (show Below W1.heap.size W1 _ from hs.2.2)
    clear hs
    go_wp2_with fail
    go_ret
    exact ⟨rfl, chain2 B1.out H9.out⟩

set_option maxRecDepth 100000 in
set_option maxHeartbeats 8000000 in
theorem same_law (A A2 B B2 : Option Addr) (c d n m c' d' n' m' : Nat) (I J : InstD) (w : World) (hI : Here w A A2 n m I) (hJ : Here w B B2 n' m' J) :
    Calls Try.prog 15 #[.agg #[.slice A n c, .slice A2 m d], .agg #[.slice B n' c', .slice B2 m' d']] w fun e w' => e = .returned (.bool true) ∧ Below w.heap.size w w' := by
  obtain ⟨W1, hW1⟩ : ∃ W1, W1 = (w.alloc (.cells #[.slice A n c, .slice A2 m d] 25)).alloc (.cells #[.slice B n' c', .slice B2 m' d'] 25) := ⟨_, rfl⟩
  obtain ⟨p, hp⟩ : ∃ p, p = w.heap.size := ⟨_, rfl⟩
  obtain ⟨q, hq⟩ : ∃ q, q = w.heap.size + 1 := ⟨_, rfl⟩
  have B1 := Lib.hid (show Below w.heap.size w W1 by rw [hW1]; exact ((Below.refl _ _).alloc (Nat.le_refl _) _).alloc (by simp) _)
  have BX := Lib.hid (show Blk W1 p 25 #[.slice A n c, .slice A2 m d] by rw [hW1]; exact (blk_at hp.symm _ _).alloc _)
  have BY := Lib.hid (show Blk W1 q 25 #[.slice B n' c', .slice B2 m' d'] by rw [hW1, hq]; exact blk_at (by simp) _ _)
  obtain ⟨r, hr⟩ : ∃ r, decide (I = J) = r := ⟨_, rfl⟩
  have H := Lib.hid (hI.later B1.out)
  have G := Lib.hid (hJ.later B1.out)
  have S1 := Lib.hid (fun w' (h : SS W1 p q (.slice A n c) (.slice A2 m d) (.slice B n' c') (.slice B2 m' d') w') => (H.out.later h.2.2.2.2).same (G.out.later h.2.2.2.2) c d c' d' r hr)
  have S2 := Lib.hid (fun w' (h : SS W1 p q (.slice A n c) (.slice A2 m d) (.slice B n' c') (.slice B2 m' d') w') => (H.out.later h.2.2.2.2).rsame (G.out.later h.2.2.2.2) c d c' d' r hr)
  have er : (r == r) = true := by simp
  have x0 := BX.out.cell 0
  have x1 := BX.out.cell 1
  have x2 := BX.out.lt
  have y0 := BY.out.cell 0
  have y1 := BY.out.cell 1
  have y2 := BY.out.lt
  simp at x0 x1 y0 y1
  have HW := Lib.hid hW1
  have HP := Lib.hid hp
  have HQ := Lib.hid hq
  clear hI hJ hr hW1 hp hq
  go_enter Try.func15, Try.ntmps15
  go_upto_region 1 with fail
  rw [← HW.out, ← HQ.out, ← HP.out]
  go_wp2_with fail
  go_region_held3 (fun u => u.cell? ⟨p, 0, none⟩ = some (.slice A n c) ∧ u.cell? ⟨p, 1, none⟩ = some (.slice A2 m d) ∧ u.cell? ⟨q, 0, none⟩ = some (.slice B n' c') ∧ u.cell? ⟨q, 1, none⟩ = some (.slice B2 m' d') ∧ Below W1.heap.size W1 u)
    (first | exact ⟨x0, x1, y0, y1, (Below.refl _ _).drew⟩ | exact keep4 x2 y2 ⟨x0, x1, y0, y1, (Below.refl _ _).drew⟩ hb | exact keep4 x2 y2 (by assumption) hb)
    (first
      | (go_at_call 23; (with_reducible refine (S1.out _ (by assumption)).mono ?_); rintro e wa ⟨rfl, hb⟩)
      | (go_at_call 23; (with_reducible refine (S1.out _ ⟨x0, x1, y0, y1, (Below.refl _ _).drew⟩).mono ?_); rintro e wa ⟨rfl, hb⟩)
      | (go_at_call 26; (with_reducible refine (S2.out _ (by assumption)).mono ?_); rintro e wb ⟨rfl, hb⟩))
  all_goals
    rename_i hs
    have H9 := Lib.hid (show Below W1.heap.size W1 _ from hs.2.2.2.2)
    clear hs
    go_wp2_with fail
    go_ret
    exact ⟨rfl, chain2 B1.out H9.out⟩
end Go.Proofs.Ytekjbpdfginplaa.Inst
