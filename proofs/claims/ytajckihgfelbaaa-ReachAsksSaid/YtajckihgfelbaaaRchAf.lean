/- ReachAsks: all calls of any instances, and of choices. -/
import Derived.Test.YtajckihgfelbaaaRchAe
import Derived.Test.YtajckihgfelbaaaRchForth
import Derived.Test.YtajckihgfelbaaaInstO
namespace Go.Proofs.Ytajckihgfelbaaa.Rch
open Go.RowKit Go.Proofs.Ytajckihgfelbaaa.Inst Go.Proofs.Ytajckihgfelbaaa.Adj
set_option maxRecDepth 100000

section
open Go.ChangeShapes Go.WideShapes Go.ChangeAt Go.RowKit Go.Joins Go.Deep
theorem open_nums {H : Type} {enc : TypeId × Value → H} {W : World} {s : Option Addr} {l c : Nat} {d : DataW H} {p : List MemPlace}
    (h : DataW.Trod enc Try.prog W 0 (fun _ => true) true 32 (.slice s l c) d p) (hw : ∀ n ∈ d.weights Try.prog 32, n ≤ reachBytes) : ∃ xs : List Int, xs.length = l ∧ l ≤ 140737488355328 ∧ (∀ x ∈ xs, I64 x) ∧ Cells W W.heap.size s (numV xs) := by
  obtain ⟨fuel, hf⟩ := h
  rcases open_ints Try.underlying32 Try.underlying3 (by kernel_rfl) hf with ⟨hcs, _⟩ | ⟨a, l', c', zs, hcs, _, hl, hm, hz, hx, hcell, hwz⟩
  · simp [Value.cells] at hcs
    obtain ⟨rfl, rfl, rfl⟩ := hcs
    exact ⟨[], rfl, by omega, fun x hx => by simp at hx, row_none _ _⟩
  · simp [Value.cells] at hcs
    obtain ⟨rfl, rfl, rfl⟩ := hcs
    rw [if_pos rfl] at hz
    simp only [Prod.mk.injEq] at hx
    obtain ⟨rfl, _⟩ := hx
    have hb := sized_row Try.underlying32 (by rw [show Try.prog.bytesOf 3 = 8 by kernel_rfl]; omega) hw
    have e1 : (lits (H := H) .i64 (zs.take l)).length = l := by simp [lits, hz]; omega
    rw [e1] at hb
    refine ⟨zs.take l, by simp [hz]; omega, hb, fun x hx => I64_of_wf (hwz x (List.mem_of_mem_take hx)), row_of (n := zs.length) (by rw [numV_length]; simp; omega) ?_⟩
    intro i hi h2
    rw [hcell i hi]
    simp only [numV, List.getElem_map, List.getElem_take]
    rw [List.getD_eq_getElem?_getD, List.getElem?_eq_getElem hi]
    rfl
end
theorem size_named (A A2 : Option Addr) (c d n m : Nat) (h1 : n ≤ 140737488355328) (h2 : m ≤ 140737488355328) (w : World) :
    Calls Try.prog 19 #[.agg #[.slice A n c, .slice A2 m d]] w fun e w' => e = .returned (.int .i64 ((n : Int) + 2 * (m : Int))) ∧ Below w.heap.size w w' := by
  go_enter Try.func19, Try.ntmps19
  go_wp2_with fail
  go_ret
  exact ⟨rfl, (Below.refl _ _).alloc (Nat.le_refl _) _⟩
set_option maxHeartbeats 8000000 in
theorem big_walk {W : World} (A A2 : Option Addr) (c1 d1 n m : Nat) (h1 : n ≤ 140737488355328) (h2 : m ≤ 140737488355328) (ao : Option Addr) (k cs : Nat) (s s' s'' : Option Addr) (l c l' c' l'' c'' : Nat) (hk : k ≤ 140737488355328) (h : 120 < n + 2 * m ∨ 40 < k) :
    Calls Try.prog 8 #[.agg #[.slice A n c1, .slice A2 m d1], .slice ao k cs, .slice s l c, .slice s' l' c', .slice s'' l'' c''] W fun e W' => e = .returned (.bool true) ∧ Below W.heap.size W W' := by
  have KW := Lib.hid (fun w => known_any w)
  have Z1 := Lib.hid (fun w => size_named A A2 c1 d1 n m h1 h2 w)
  obtain ⟨s1, hq1⟩ : ∃ s : Int, s = (n : Int) + 2 * (m : Int) := ⟨_, rfl⟩
  rw [← hq1] at Z1
  obtain ⟨W1, hW1⟩ : ∃ W1, W1 = W.alloc (.cells #[.slice A n c1, .slice A2 m d1] 25) := ⟨_, rfl⟩
  obtain ⟨p, hp⟩ : ∃ p, p = W.heap.size := ⟨_, rfl⟩
  have BW := Lib.hid (show Below W.heap.size W W1 by rw [hW1]; exact (Below.refl _ _).alloc (Nat.le_refl _) _)
  have BP := Lib.hid (show Blk W1 p 25 #[.slice A n c1, .slice A2 m d1] by rw [hW1]; exact blk_at hp.symm _ _)
  have HW := Lib.hid hW1
  have HP := Lib.hid hp
  have y0 := BP.out.cell 0
  have y1 := BP.out.cell 1
  have y2 := BP.out.lt
  simp at y0 y1
  clear hW1 hp
  by_cases big : 120 < n + 2 * m
  · have t1 : 120 < s1 := by omega
    clear hq1 h big
    go_enter Try.func8, Try.ntmps8
    go_upto_region 1 with fail
    rw [← HW.out, ← HP.out]
    go_wp2_with (first
      | (go_at_call 19; (with_reducible refine (Z1.out _).mono ?_); rintro e w2 ⟨rfl, hb⟩; have B2' := Lib.hid hb; clear hb)
      | (go_at_call 20; (refine (KW.out _).mono ?_); rintro e w3 ⟨rfl, hb⟩; have B3 := Lib.hid (chain2 B2'.out hb); clear hb))
    go_ret
    exact ⟨rfl, chain2 BW.out B3.out⟩
  · have t1 : ¬ 120 < s1 := by omega
    have t2 : 40 < (k : Int) := by omega
    clear hq1 h big
    go_enter Try.func8, Try.ntmps8
    go_upto_region 1 with fail
    rw [← HW.out, ← HP.out]
    go_wp2_with (first
      | (go_at_call 19; (with_reducible refine (Z1.out _).mono ?_); rintro e w2 ⟨rfl, hb⟩; have B2' := Lib.hid hb; clear hb)
      | (go_at_call 20; (refine (KW.out _).mono ?_); rintro e w3 ⟨rfl, hb⟩; have B3 := Lib.hid (chain2 B2'.out hb); clear hb))
    go_ret
    exact ⟨rfl, chain2 BW.out B3.out⟩
set_option maxHeartbeats 16000000 in
theorem small_walk {W : World} (A A2 : Option Addr) (c1 d1 n1 m1 : Nat) (I : InstD) (hI : Here W A A2 n1 m1 I) (ao : Option Addr) (kk ka : Nat) (sm : List Int) (hkk : sm.length = kk) (hs0 : ∀ x ∈ sm, I64 x) (hA : Cells W W.heap.size ao (numV sm))
    (s : Option Addr) (l c : Nat) (xs : List Nat) (hl : xs.length = l) (h9 : l ≤ 140737488355328) (hx : Octs xs) (hs : Cells W W.heap.size s (octV xs)) (s' : Option Addr) (l' c' : Nat) (ys : List Nat) (hl' : ys.length = l') (h9' : l' ≤ 140737488355328) (hy : Octs ys) (hs' : Cells W W.heap.size s' (octV ys))
    (s'' : Option Addr) (l'' c'' : Nat) (zs : List Nat) (hl'' : zs.length = l'') (h9'' : l'' ≤ 140737488355328) (hz : Octs zs) (hs'' : Cells W W.heap.size s'' (octV zs)) (h1 : n1 + 2 * m1 ≤ 120) (h2 : kk ≤ 40) :
    Calls Try.prog 8 #[.agg #[.slice A n1 c1, .slice A2 m1 d1], .slice ao kk ka, .slice s l c, .slice s' l' c', .slice s'' l'' c''] W fun e W' => e = .returned (.bool true) ∧ Below W.heap.size W W' := by
  have KW := Lib.hid (fun w => known_any w)
  have Z1 := Lib.hid (fun w => size_named A A2 c1 d1 n1 m1 (by omega) (by omega) w)
  obtain ⟨s1, hq1⟩ : ∃ s : Int, s = (n1 : Int) + 2 * (m1 : Int) := ⟨_, rfl⟩
  rw [← hq1] at Z1
  have t1 : ¬ (120 < s1) := by omega
  have t2 : ¬ (40 < (kk : Int)) := by omega
  obtain ⟨X, hX⟩ : ∃ X, X = instC xs ys := ⟨_, rfl⟩
  obtain ⟨n, hn⟩ : ∃ n, nodesC ys = n := ⟨_, rfl⟩
  obtain ⟨m, hm⟩ : ∃ m, X.arcs.length = m := ⟨_, rfl⟩
  have n7 : n ≤ 7 ∧ 1 ≤ n := by rw [← hn]; exact ⟨(nodesC_bd ys).2, (nodesC_bd ys).1⟩
  have m18 : m ≤ 18 := by rw [← hm, hX]; exact instC_arcs xs ys
  have IN := Lib.hid (fun w (h : Below W.heap.size W w) => inst_here s l c xs hl h9 hx s' l' c' ys hl' h9' hy hX hn hm w (hs.later (Nat.le_refl _) h) (hs'.later (Nat.le_refl _) h))
  have SO := Lib.hid (fun w (h : Below W.heap.size W w) => some_any s'' c'' zs l'' hl'' hz h9'' w (hs''.later (Nat.le_refl _) h))
  have FO := Lib.hid (fun w (h : Below W.heap.size W w) => forth_any s l c xs hl h9 hx (hs.later (Nat.le_refl _) h) s' l' c' ys hl' h9' hy (hs'.later (Nat.le_refl _) h))
  obtain ⟨S, hso⟩ : ∃ S, S = someC zs := ⟨_, rfl⟩
  have so6 : S.length ≤ 6 := by rw [hso]; exact someC_length zs
  have SI := Lib.hid (show ∀ x ∈ S, I64 x by rw [hso]; exact someC_small zs)
  obtain ⟨t, ht⟩ : ∃ t, S.length = t := ⟨_, rfl⟩
  rw [← hso, ht] at SO
  rw [ht] at so6
  have HT := Lib.hid ht
  have HK := Lib.hid hkk
  have HS0 := Lib.hid hs0
  obtain ⟨W1, hW1⟩ : ∃ W1, W1 = W.alloc (.cells #[.slice A n1 c1, .slice A2 m1 d1] 25) := ⟨_, rfl⟩
  obtain ⟨p, hp⟩ : ∃ p, p = W.heap.size := ⟨_, rfl⟩
  have BW := Lib.hid (show Below W.heap.size W W1 by rw [hW1]; exact (Below.refl _ _).alloc (Nat.le_refl _) _)
  have VI1 : IVar W1 p A A2 c1 d1 n1 m1 I := by rw [hW1]; exact IVar.new hI hp
  have VI := Lib.hid (fun u (hu : Below W1.heap.size W1 u) => VI1.later hu)
  have AO := Lib.hid (fun u (hu : Below W.heap.size W u) => hA.later (Nat.le_refl _) hu)
  have HW := Lib.hid hW1
  have HP := Lib.hid hp
  obtain ⟨x0, x1, x2⟩ := VI1.cells
  obtain ⟨n7, n1'⟩ := n7
  clear hs hs' hx hy hX hn hm hI hW1 hp VI1 hA hs'' hz hso ht hkk hs0 hq1
  go_enter Try.func8, Try.ntmps8
  go_upto_region 1 with fail
  rw [← HW.out, ← HP.out]
  go_upto_region 4 with (first
    | (go_at_call 19; (with_reducible refine (Z1.out _).mono ?_); rintro e w2 ⟨rfl, hb⟩; have B2' := Lib.hid hb; clear hb)
    | (go_at_call 20; (refine (KW.out _).mono ?_); rintro e w4 ⟨rfl, hb⟩; have B4 := Lib.hid (chain2 B2'.out hb); clear hb)
    | (go_at_call 10; (with_reducible refine (IN.out _ (chain2 BW.out B4.out)).mono ?_); rintro e w5 ⟨sB, D, ca, rfl, -, hh, hb⟩; have H5 := Lib.hid hh; have B5 := Lib.hid hb; clear hh hb))
  obtain ⟨r, hr⟩ : ∃ r, r = w5.heap.size := ⟨_, rfl⟩
  obtain ⟨W6, hW6⟩ : ∃ W6, W6 = w5.alloc (.cells #[.slice (some ⟨sB, 0, none⟩) n n, .slice D m ca] 25) := ⟨_, rfl⟩
  rw [← hW6, ← hr]
  have B16 := Lib.hid (show Below W1.heap.size W1 W6 by rw [hW6]; exact (chain2 B4.out B5.out).alloc (by have := chain2 B4.out B5.out; exact this.size) _)
  have BW6 := Lib.hid (chain2 BW.out B16.out)
  have VX6 : IVar W6 r (some ⟨sB, 0, none⟩) D n ca n m X := by rw [hW6]; exact IVar.new H5.out hr
  have VX := Lib.hid (fun u (hu : Below W6.heap.size W6 u) => (VX6.later hu).is)
  have VY := Lib.hid (fun u (hu : Below W6.heap.size W6 u) => (VI.out u (chain2 B16.out hu)).is)
  obtain ⟨z0, z1, z2⟩ := VX6.cells
  clear hW6 hr x0 x1 x2 H5 B5 VX6
  obtain ⟨x0, x1, x2⟩ := (VI.out _ B16.out).cells
  have A1 := Lib.hid (fun w' (h : SS W6 p r (.slice A n1 c1) (.slice A2 m1 d1) (.slice (some ⟨sB, 0, none⟩) n n) (.slice D m ca) w') => asks_any A A2 ao c1 d1 ka n1 m1 kk I sm w' (VY.out w' h.2.2.2.2) (by omega) (by omega) HS0.out HK.out (by omega) (AO.out w' (chain2 BW6.out h.2.2.2.2)))
  have A2' := Lib.hid (fun w' (h : SS W6 p r (.slice A n1 c1) (.slice A2 m1 d1) (.slice (some ⟨sB, 0, none⟩) n n) (.slice D m ca) w') => asks_any (some ⟨sB, 0, none⟩) D ao n ca ka n m kk X sm w' (VX.out w' h.2.2.2.2) (by omega) (by omega) HS0.out HK.out (by omega) (AO.out w' (chain2 BW6.out h.2.2.2.2)))
  have A3 := Lib.hid (fun w' (h : SS W6 p r (.slice A n1 c1) (.slice A2 m1 d1) (.slice (some ⟨sB, 0, none⟩) n n) (.slice D m ca) w') ab cb hc => asks_any (some ⟨sB, 0, none⟩) D ab n ca cb n m t X S w' (VX.out w' h.2.2.2.2) (by omega) (by omega) SI.out HT.out (by omega) hc)
  have SO2 := Lib.hid (fun w' (h : SS W6 p r (.slice A n1 c1) (.slice A2 m1 d1) (.slice (some ⟨sB, 0, none⟩) n n) (.slice D m ca) w') => SO.out w' (chain2 BW6.out h.2.2.2.2))
  have FO2 := Lib.hid (fun w' (h : SS W6 p r (.slice A n1 c1) (.slice A2 m1 d1) (.slice (some ⟨sB, 0, none⟩) n n) (.slice D m ca) w') => FO.out w' (chain2 BW6.out h.2.2.2.2))
  clear IN SO FO KW Z1
  go_wp2_with fail
  go_region_held3 (fun u => u.cell? ⟨p, 0, none⟩ = some (.slice A n1 c1) ∧ u.cell? ⟨p, 1, none⟩ = some (.slice A2 m1 d1) ∧ u.cell? ⟨r, 0, none⟩ = some (.slice (some ⟨sB, 0, none⟩) n n) ∧ u.cell? ⟨r, 1, none⟩ = some (.slice D m ca) ∧ Below W6.heap.size W6 u)
    (first | exact ⟨x0, x1, z0, z1, (Below.refl _ _).drew⟩ | exact keep4 x2 z2 ⟨x0, x1, z0, z1, (Below.refl _ _).drew⟩ hb | exact keep4 x2 z2 (by assumption) hb)
    (first
      | (go_at_call 21; (with_reducible refine (A1.out _ (by assumption)).mono ?_); rintro e wa ⟨rfl, hb⟩)
      | (go_at_call 21; (with_reducible refine (A2'.out _ (by assumption)).mono ?_); rintro e wb ⟨rfl, hb⟩)
      | (go_at_call 23; (with_reducible refine (FO2.out _ (by assumption)).mono ?_); rintro e wf ⟨J, nJ, mJ, sJ, AJ, cJ, rfl, hJ, -, -, j7, j18, hb⟩; have HJ := Lib.hid hJ; clear hJ)
      | (go_at_call 22; (with_reducible refine (SO2.out _ (by assumption)).mono ?_); rintro e ws ⟨v, rfl, ho, hb⟩; obtain ⟨-, SB, sc, rfl, -, -, hsc⟩ := own_cells ho; have SC := Lib.hid hsc; (try have HJ2 := Lib.hid (HJ.out.later hb)); clear ho hsc)
      | (go_at_call 21; (with_reducible refine (A3.out _ (by assumption) _ _ SC.out).mono ?_); rintro e wc ⟨rfl, hb⟩)
      | (go_at_call 21; (with_reducible refine (asks_any _ _ _ _ _ _ nJ mJ t J S _ HJ2.out (by omega) (by omega) SI.out HT.out (by omega) SC.out).mono ?_); rintro e wd ⟨rfl, hb⟩))
  all_goals
    rename_i hs
    have H9 := Lib.hid (show Below W6.heap.size W6 _ from hs.2.2.2.2)
    clear hs
    go_wp2_with fail
    go_ret
    exact ⟨rfl, chain2 BW6.out H9.out⟩
theorem reachAsks_walk {W : World} (A A2 : Option Addr) (c1 d1 : Nat) (I : InstD) (hI : InstOf W A A2 I) (ao : Option Addr) (kk ka : Nat) (sm : List Int) (hkk : sm.length = kk) (k9 : kk ≤ 140737488355328) (hs0 : ∀ x ∈ sm, I64 x) (hA : Cells W W.heap.size ao (numV sm))
    (s : Option Addr) (l c : Nat) (xs : List Nat) (hl : xs.length = l) (h9 : l ≤ 140737488355328) (hx : Octs xs) (hs : Cells W W.heap.size s (octV xs)) (s' : Option Addr) (l' c' : Nat) (ys : List Nat) (hl' : ys.length = l') (h9' : l' ≤ 140737488355328) (hy : Octs ys) (hs' : Cells W W.heap.size s' (octV ys))
    (s'' : Option Addr) (l'' c'' : Nat) (zs : List Nat) (hl'' : zs.length = l'') (h9'' : l'' ≤ 140737488355328) (hz : Octs zs) (hs'' : Cells W W.heap.size s'' (octV zs)) :
    Calls Try.prog 8 #[instV A c1 A2 d1 I, .slice ao kk ka, .slice s l c, .slice s' l' c', .slice s'' l'' c''] W fun e W' => e = .returned (.bool true) ∧ Below W.heap.size W W' := by
  by_cases h : 120 < I.sup.length + 2 * I.arcs.length ∨ 40 < kk
  · exact big_walk A A2 c1 d1 _ _ hI.n hI.m ao kk ka s s' s'' l c l' c' l'' c'' k9 h
  · exact small_walk A A2 c1 d1 _ _ I ⟨⟨by omega, by omega, hI.sup, hI.arcs⟩, rfl, rfl⟩ ao kk ka sm hkk hs0 hA s l c xs hl h9 hx hs s' l' c' ys hl' h9' hy hs' s'' l'' c'' zs hl'' h9'' hz hs'' (by omega) (by omega)
end Go.Proofs.Ytajckihgfelbaaa.Rch
