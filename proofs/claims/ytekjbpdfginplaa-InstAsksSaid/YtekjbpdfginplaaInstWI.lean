/- The law InstAsks: its walk. -/
import Derived.Test.YtekjbpdfginplaaInstWH
namespace Go.Proofs.Ytekjbpdfginplaa.Inst
open Go.RowKit

/-- What holds in the last region: three boxes, and that all else is as it was. -/
abbrev ST (W : World) (p q r : Nat) (a b c d e f : Value) (u : World) : Prop := u.cell? ⟨p, 0, none⟩ = some a ∧ u.cell? ⟨p, 1, none⟩ = some b ∧ u.cell? ⟨q, 0, none⟩ = some c ∧ u.cell? ⟨q, 1, none⟩ = some d ∧ u.cell? ⟨r, 0, none⟩ = some e ∧ u.cell? ⟨r, 1, none⟩ = some f ∧ Below W.heap.size W u
theorem keep6 {W w w' : World} {p q r : Nat} {a b c d e f : Value} (hp : p < W.heap.size) (hq : q < W.heap.size) (hr : r < W.heap.size) (h : ST W p q r a b c d e f w) (hb : Below w.heap.size w w') : ST W p q r a b c d e f w' := by
  obtain ⟨h1, h2, h3, h4, h5, h6, h7⟩ := h
  have z := h7.size
  exact ⟨(hb.cell (p := ⟨p, 0, none⟩) (by show p < _; omega)).trans h1, (hb.cell (p := ⟨p, 1, none⟩) (by show p < _; omega)).trans h2, (hb.cell (p := ⟨q, 0, none⟩) (by show q < _; omega)).trans h3, (hb.cell (p := ⟨q, 1, none⟩) (by show q < _; omega)).trans h4, (hb.cell (p := ⟨r, 0, none⟩) (by show r < _; omega)).trans h5, (hb.cell (p := ⟨r, 1, none⟩) (by show r < _; omega)).trans h6, chain2 h7 hb⟩
theorem two_boxes (w : World) (v0 v1 u0 u1 : Value) (t : TypeId) : Blk ((w.alloc (.cells #[v0, v1] t)).alloc (.cells #[u0, u1] t)) w.heap.size t #[v0, v1] ∧ Blk ((w.alloc (.cells #[v0, v1] t)).alloc (.cells #[u0, u1] t)) (w.heap.size + 1) t #[u0, u1] ∧ Below w.heap.size w ((w.alloc (.cells #[v0, v1] t)).alloc (.cells #[u0, u1] t)) :=
  ⟨(Blk.new _ _ _).alloc _, blk_at (by simp) _ _, ((Below.refl _ _).alloc (Nat.le_refl _) _).alloc (by simp) _⟩

set_option maxRecDepth 100000 in
set_option maxHeartbeats 8000000 in
theorem ask_big (A A2 B B2 : Option Addr) (c1 d1 n1 m1 c2 d2 n2 m2 k l : Nat) (sa sb : Option Addr) (ca cb : Nat) (x4 x5 x6 : Value) (hn1 : n1 ≤ 140737488355328) (hm1 : m1 ≤ 140737488355328) (hn2 : n2 ≤ 140737488355328) (hm2 : m2 ≤ 140737488355328) (hk : k ≤ 140737488355328) (hl : l ≤ 140737488355328)
    (hb : 120 < n1 + 2 * m1 ∨ 120 < n2 + 2 * m2 ∨ 200 < k + l) (W : World) :
    Calls Try.prog 3 #[.agg #[.slice A n1 c1, .slice A2 m1 d1], .agg #[.slice B n2 c2, .slice B2 m2 d2], .slice sa k ca, .slice sb l cb, x4, x5, x6] W fun e W' => e = .returned (.bool true) ∧ Below W.heap.size W W' := by
  have KW := Lib.hid (fun w => known_any w)
  have Z1 := Lib.hid (fun w => size_big A A2 c1 d1 n1 m1 hn1 hm1 w)
  have Z2 := Lib.hid (fun w => size_big B B2 c2 d2 n2 m2 hn2 hm2 w)
  obtain ⟨s1, hs1⟩ : ∃ s : Int, s = (n1 : Int) + 2 * (m1 : Int) := ⟨_, rfl⟩
  obtain ⟨s2, hs2⟩ : ∃ s : Int, s = (n2 : Int) + 2 * (m2 : Int) := ⟨_, rfl⟩
  rw [← hs1] at Z1
  rw [← hs2] at Z2
  obtain ⟨b0, b1, hW⟩ := two_boxes W (.slice A n1 c1) (.slice A2 m1 d1) (.slice B n2 c2) (.slice B2 m2 d2) 25
  obtain ⟨W1, hW1⟩ : ∃ W1, W1 = (W.alloc (.cells #[.slice A n1 c1, .slice A2 m1 d1] 25)).alloc (.cells #[.slice B n2 c2, .slice B2 m2 d2] 25) := ⟨_, rfl⟩
  obtain ⟨p, hp⟩ : ∃ p, p = W.heap.size := ⟨_, rfl⟩
  obtain ⟨q, hq⟩ : ∃ q, q = W.heap.size + 1 := ⟨_, rfl⟩
  rw [← hW1] at b0 b1 hW
  rw [← hp] at b0
  rw [← hq] at b1
  have BP := Lib.hid b0
  have BQ := Lib.hid b1
  have BW := Lib.hid hW
  have HW := Lib.hid hW1
  have HP := Lib.hid hp
  have HQ := Lib.hid hq
  have PC := Lib.hid (fun w' (h : Below W1.heap.size W1 w') => (show w'.cell? ⟨q, 0, none⟩ = some (.slice B n2 c2) ∧ w'.cell? ⟨q, 1, none⟩ = some (.slice B2 m2 d2) ∧ q < w'.heap.size from ⟨(BQ.out.below h BQ.out.lt).cell 0, (BQ.out.below h BQ.out.lt).cell 1, (BQ.out.below h BQ.out.lt).lt⟩))
  have x0 := b0.cell 0
  have x1 := b0.cell 1
  have x2 := b0.lt
  simp at x0 x1
  have HB := Lib.hid hb
  clear b0 b1 hW hW1 hp hq hb
  by_cases h1 : 120 < n1 + 2 * m1
  · have t1 : 120 < s1 := by omega
    clear hs1 hs2
    go_enter Try.func3, Try.ntmps3
    go_upto_region 1 with fail
    rw [← HW.out, ← HQ.out, ← HP.out]
    go_wp2_with (first
      | (go_at_call 10; (with_reducible refine (Z1.out _).mono ?_); rintro e w2 ⟨rfl, hb⟩; have B2' := Lib.hid hb; clear hb)
      | (go_at_call 11; (refine (KW.out _).mono ?_); rintro e w3 ⟨rfl, hb⟩; have B3 := Lib.hid (chain2 B2'.out hb); clear hb))
    go_ret
    exact ⟨rfl, chain2 BW.out B3.out⟩
  · have t1 : ¬ (120 < s1) := by omega
    by_cases h2 : 120 < n2 + 2 * m2
    · have t2 : 120 < s2 := by omega
      clear hs1 hs2
      go_enter Try.func3, Try.ntmps3
      go_upto_region 1 with fail
      rw [← HW.out, ← HQ.out, ← HP.out]
      go_wp2_with (first
        | (go_at_call 10; (with_reducible refine (Z1.out _).mono ?_); rintro e w2 ⟨rfl, hb⟩; have B2' := Lib.hid hb; obtain ⟨y0, y1, y2⟩ := PC.out _ hb; clear hb)
        | (go_at_call 10; (with_reducible refine (Z2.out _).mono ?_); rintro e w3 ⟨rfl, hb⟩; have B3 := Lib.hid (chain2 B2'.out hb); clear hb)
        | (go_at_call 11; (refine (KW.out _).mono ?_); rintro e w4 ⟨rfl, hb⟩; have B4 := Lib.hid (chain2 B3.out hb); clear hb))
      go_ret
      exact ⟨rfl, chain2 BW.out B4.out⟩
    · have t2 : ¬ (120 < s2) := by omega
      have t3 : (200 : Int) < (k : Int) + (l : Int) := by have := HB.out; omega
      clear hs1 hs2
      go_enter Try.func3, Try.ntmps3
      go_upto_region 1 with fail
      rw [← HW.out, ← HQ.out, ← HP.out]
      go_wp2_with (first
        | (go_at_call 10; (with_reducible refine (Z1.out _).mono ?_); rintro e w2 ⟨rfl, hb⟩; have B2' := Lib.hid hb; obtain ⟨y0, y1, y2⟩ := PC.out _ hb; clear hb)
        | (go_at_call 10; (with_reducible refine (Z2.out _).mono ?_); rintro e w3 ⟨rfl, hb⟩; have B3 := Lib.hid (chain2 B2'.out hb); clear hb)
        | (go_at_call 11; (refine (KW.out _).mono ?_); rintro e w4 ⟨rfl, hb⟩; have B4 := Lib.hid (chain2 B3.out hb); clear hb))
      go_ret
      exact ⟨rfl, chain2 BW.out B4.out⟩

theorem ints_same (a b : Option Addr) (N : List Nat) (c d : Nat) (hN : N.length ≤ 1000) (w : World) (ha : Cells w w.heap.size a (natV N)) (hb : Cells w w.heap.size b (natV N)) :
    Calls Try.prog 16 #[.slice a N.length c, .slice b N.length d] w fun e w' => e = .returned (.bool true) ∧ Below w.heap.size w w' := by
  have h := rints_any a b (N.map fun (x : Nat) => (x : Int)) (N.map fun (x : Nat) => (x : Int)) N.length N.length c d (by simp) (by simp) (by rw [List.length_map]; unfold maxLen; omega) w ha hb
  rw [decide_eq_true rfl] at h
  exact h

set_option maxRecDepth 100000 in
set_option maxHeartbeats 8000000 in
theorem ask_small (A A2 B B2 : Option Addr) (c1 d1 n1 m1 c2 d2 n2 m2 k l : Nat) (sa sb : Option Addr) (ca cb : Nat) (I J : InstD) (ns zs : List Bool) (hk : ns.length = k) (hl : zs.length = l) (x4 : Int) (h4 : x4 ≤ 9223372036854775807)
    (s : Option Addr) (ls cs : Nat) (xs : List Nat) (hxl : xs.length = ls) (h9 : ls ≤ 140737488355328) (hx : Octs xs) (s' : Option Addr) (ls' cs' : Nat) (ys : List Nat) (hyl : ys.length = ls') (h9' : ls' ≤ 140737488355328) (hy : Octs ys)
    (hs1 : n1 + 2 * m1 ≤ 120) (hs2 : n2 + 2 * m2 ≤ 120) (hs3 : k + l ≤ 200) (W : World) (hI : Here W A A2 n1 m1 I) (hJ : Here W B B2 n2 m2 J) (ha : Cells W W.heap.size sa (boolV ns)) (hb : Cells W W.heap.size sb (boolV zs)) (hs : Cells W W.heap.size s (octV xs)) (hs' : Cells W W.heap.size s' (octV ys)) :
    Calls Try.prog 3 #[.agg #[.slice A n1 c1, .slice A2 m1 d1], .agg #[.slice B n2 c2, .slice B2 m2 d2], .slice sa k ca, .slice sb l cb, .int .i64 x4, .slice s ls cs, .slice s' ls' cs'] W fun e W' => e = .returned (.bool true) ∧ Below W.heap.size W W' := by
  have KW := Lib.hid (fun w => known_any w)
  have Z1 := Lib.hid (fun w => size_big A A2 c1 d1 n1 m1 (by omega) (by omega) w)
  have Z2 := Lib.hid (fun w => size_big B B2 c2 d2 n2 m2 (by omega) (by omega) w)
  obtain ⟨s1, hq1⟩ : ∃ s : Int, s = (n1 : Int) + 2 * (m1 : Int) := ⟨_, rfl⟩
  obtain ⟨s2, hq2⟩ : ∃ s : Int, s = (n2 : Int) + 2 * (m2 : Int) := ⟨_, rfl⟩
  rw [← hq1] at Z1
  rw [← hq2] at Z2
  have t1 : ¬ (120 < s1) := by omega
  have t2 : ¬ (120 < s2) := by omega
  have t3 : ¬ ((200 : Int) < (k : Int) + (l : Int)) := by omega
  have bn1 : n1 ≤ 1000 := by omega
  have bm1 : m1 ≤ 1000 := by omega
  have bk : k ≤ 200 := by omega
  have bl : l ≤ 200 := by omega
  -- the instance of choices
  have IN := Lib.hid (fun w' (h : Below W.heap.size W w') => inst_any s s' cs cs' xs ys hx hy (by omega) (by omega) w' (hs.later (Nat.le_refl _) h) (hs'.later (Nat.le_refl _) h))
  rw [hxl, hyl] at IN
  obtain ⟨X, hX⟩ : ∃ X, X = instC xs ys := ⟨_, rfl⟩
  have i0 := instC_sup xs ys
  have i1 := instC_arcs xs ys
  have i2 := nodesC_bd ys
  rw [← hX] at IN i0 i1
  obtain ⟨n, hn⟩ : ∃ n, n = nodesC ys := ⟨_, rfl⟩
  rw [← hn] at IN i0 i2
  obtain ⟨m, hm⟩ : ∃ m, m = X.arcs.length := ⟨_, rfl⟩
  rw [← hm] at i1
  obtain ⟨n1', n7⟩ := i2
  have XN := Lib.hid i0
  have XM := Lib.hid hm.symm
  have MKd := Lib.hid (fun w' (h : Below W.heap.size W w') => marks_any s' cs' ys hy (by omega) n (by omega) w' (hs'.later (Nat.le_refl _) h))
  have MKc := Lib.hid (fun w' (h : Below W.heap.size W w') => marks_any s cs xs hx (by omega) m (by omega) w' (hs.later (Nat.le_refl _) h))
  rw [hyl] at MKd
  rw [hxl] at MKc
  have mld := marksN_length ys (marksUpto ys n)
  have mlc := marksN_length xs (marksUpto xs m)
  obtain ⟨ds, hds⟩ : ∃ ds, ds = marksN ys (marksUpto ys n) := ⟨_, rfl⟩
  obtain ⟨es, hes⟩ : ∃ es, es = marksN xs (marksUpto xs m) := ⟨_, rfl⟩
  rw [← hds] at MKd mld
  rw [← hes] at MKc mlc
  rw [← mld] at MKd
  rw [← mlc] at MKc
  have KP := Lib.hid (fun w' (h : Below W.heap.size W w') => kept_any sa ca ns x4 h4 w' (ha.later (Nat.le_refl _) h))
  have RP := Lib.hid (fun w' (h : Below W.heap.size W w') => rkept_any sa ca ns x4 h4 w' (ha.later (Nat.le_refl _) h))
  rw [hk] at KP RP
  obtain ⟨N, hN⟩ : ∃ N, N = keptD ns x4 := ⟨_, rfl⟩
  have n1000 : N.length ≤ 1000 := by rw [hN]; exact kept_1000 _ _
  rw [← hN] at KP RP
  have HI := Lib.hid hI
  have HJ := Lib.hid hJ
  have HA := Lib.hid ha
  have HBq := Lib.hid hb
  have KL := Lib.hid hk
  have LL := Lib.hid hl
  obtain ⟨b0, b1, hW⟩ := two_boxes W (.slice A n1 c1) (.slice A2 m1 d1) (.slice B n2 c2) (.slice B2 m2 d2) 25
  obtain ⟨W1, hW1⟩ : ∃ W1, W1 = (W.alloc (.cells #[.slice A n1 c1, .slice A2 m1 d1] 25)).alloc (.cells #[.slice B n2 c2, .slice B2 m2 d2] 25) := ⟨_, rfl⟩
  obtain ⟨p, hp⟩ : ∃ p, p = W.heap.size := ⟨_, rfl⟩
  obtain ⟨q, hq⟩ : ∃ q, q = W.heap.size + 1 := ⟨_, rfl⟩
  rw [← hW1] at b0 b1 hW
  rw [← hp] at b0
  rw [← hq] at b1
  have BP := Lib.hid b0
  have BQ := Lib.hid b1
  have BW := Lib.hid hW
  have HW := Lib.hid hW1
  have HP := Lib.hid hp
  have HQ := Lib.hid hq
  have PC := Lib.hid (fun w' (h : Below W1.heap.size W1 w') => (show w'.cell? ⟨q, 0, none⟩ = some (.slice B n2 c2) ∧ w'.cell? ⟨q, 1, none⟩ = some (.slice B2 m2 d2) ∧ q < w'.heap.size from ⟨(BQ.out.below h BQ.out.lt).cell 0, (BQ.out.below h BQ.out.lt).cell 1, (BQ.out.below h BQ.out.lt).lt⟩))
  have x0 := b0.cell 0
  have x1 := b0.cell 1
  have x2 := b0.lt
  simp at x0 x1
  clear b0 b1 hW hW1 hp hq hb ha hs hs' hx hy hX hn hm i0 mld mlc hds hes hN hI hJ hk hl hq1 hq2
  go_enter Try.func3, Try.ntmps3
  go_upto_region 1 with fail
  rw [← HW.out, ← HQ.out, ← HP.out]
  go_upto_region 4 with (first
    | (go_at_call 10; (with_reducible refine (Z1.out _).mono ?_); rintro e w2 ⟨rfl, hb⟩; have B2' := Lib.hid hb; obtain ⟨y0, y1, y2⟩ := PC.out _ hb; clear hb)
    | (go_at_call 10; (with_reducible refine (Z2.out _).mono ?_); rintro e w3 ⟨rfl, hb⟩; have B3 := Lib.hid (chain2 B2'.out hb); clear hb)
    | (go_at_call 11; (refine (KW.out _).mono ?_); rintro e w4 ⟨rfl, hb⟩; have B4 := Lib.hid (chain2 B3.out hb); clear hb)
    | (go_at_call 12; (with_reducible refine (IN.out _ (chain2 BW.out B4.out)).mono ?_); rintro e w5 ⟨sB, aV, rfl, hM⟩; obtain ⟨-, D, cap, ea, -, -, -⟩ := own_cells hM.arcs; subst ea; rw [XM.out] at hM; rw [XM.out]; have M5 := Lib.hid hM; clear hM))
  obtain ⟨r, hr⟩ : ∃ r, r = w5.heap.size := ⟨_, rfl⟩
  obtain ⟨W6, hW6⟩ : ∃ W6, W6 = w5.alloc (.cells #[.slice (some ⟨sB, 0, none⟩) n n, .slice D m cap] 25) := ⟨_, rfl⟩
  rw [← hW6, ← hr]
  have B16 := Lib.hid (show Below W1.heap.size W1 W6 by rw [hW6]; exact (chain2 B4.out M5.out.below).alloc (by have := chain2 B4.out M5.out.below; exact this.size) _)
  have BW6 := Lib.hid (chain2 BW.out B16.out)
  have BR := Lib.hid (show Blk W6 r 25 #[.slice (some ⟨sB, 0, none⟩) n n, .slice D m cap] by rw [hW6]; exact blk_at hr.symm _ _)
  have HX := Lib.hid (show Here W6 (some ⟨sB, 0, none⟩) D n m X by rw [hW6]; exact (M5.out.alloc _).here (I := X) XN.out XM.out (by omega) (by omega))
  have BP6 := Lib.hid (BP.out.below B16.out BP.out.lt)
  have BQ6 := Lib.hid (BQ.out.below B16.out BQ.out.lt)
  clear hW6 hr x0 x1 x2 M5
  have x0 := BP6.out.cell 0
  have x1 := BP6.out.cell 1
  have x2 := BP6.out.lt
  have y0 := BQ6.out.cell 0
  have y1 := BQ6.out.cell 1
  have y2 := BQ6.out.lt
  have z0 := BR.out.cell 0
  have z1 := BR.out.cell 1
  have z2 := BR.out.lt
  simp at x0 x1 y0 y1 z0 z1
  have A1 := Lib.hid (fun w' (h : ST W6 p q r (.slice A n1 c1) (.slice A2 m1 d1) (.slice B n2 c2) (.slice B2 m2 d2) (.slice (some ⟨sB, 0, none⟩) n n) (.slice D m cap) w') => asks_any A A2 c1 d1 n1 m1 I bn1 bm1 sa sb k l ca cb ns zs KL.out LL.out w' (HI.out.later (chain2 BW6.out h.2.2.2.2.2.2)) (HA.out.later (Nat.le_refl _) (chain2 BW6.out h.2.2.2.2.2.2)) (HBq.out.later (Nat.le_refl _) (chain2 BW6.out h.2.2.2.2.2.2)))
  have A2' := Lib.hid (fun w' (h : ST W6 p q r (.slice A n1 c1) (.slice A2 m1 d1) (.slice B n2 c2) (.slice B2 m2 d2) (.slice (some ⟨sB, 0, none⟩) n n) (.slice D m cap) w') => asks_any (some ⟨sB, 0, none⟩) D n cap n m X (by omega) (by omega) sa sb k l ca cb ns zs KL.out LL.out w' (HX.out.later h.2.2.2.2.2.2) (HA.out.later (Nat.le_refl _) (chain2 BW6.out h.2.2.2.2.2.2)) (HBq.out.later (Nat.le_refl _) (chain2 BW6.out h.2.2.2.2.2.2)))
  have A3 := Lib.hid (fun w' (h : ST W6 p q r (.slice A n1 c1) (.slice A2 m1 d1) (.slice B n2 c2) (.slice B2 m2 d2) (.slice (some ⟨sB, 0, none⟩) n n) (.slice D m cap) w') E F e f (g1 : Cells w' w'.heap.size E (boolV ds)) (g2 : Cells w' w'.heap.size F (boolV es)) => asks_any (some ⟨sB, 0, none⟩) D n cap n m X (by omega) (by omega) E F ds.length es.length e f ds es rfl rfl w' (HX.out.later h.2.2.2.2.2.2) g1 g2)
  have Q1 := Lib.hid (fun w' (h : ST W6 p q r (.slice A n1 c1) (.slice A2 m1 d1) (.slice B n2 c2) (.slice B2 m2 d2) (.slice (some ⟨sB, 0, none⟩) n n) (.slice D m cap) w') => same_law A A2 B B2 c1 d1 n1 m1 c2 d2 n2 m2 I J w' (HI.out.later (chain2 BW6.out h.2.2.2.2.2.2)) (HJ.out.later (chain2 BW6.out h.2.2.2.2.2.2)))
  have Q2 := Lib.hid (fun w' (h : ST W6 p q r (.slice A n1 c1) (.slice A2 m1 d1) (.slice B n2 c2) (.slice B2 m2 d2) (.slice (some ⟨sB, 0, none⟩) n n) (.slice D m cap) w') => same_law (some ⟨sB, 0, none⟩) D A A2 n cap n m c1 d1 n1 m1 X I w' (HX.out.later h.2.2.2.2.2.2) (HI.out.later (chain2 BW6.out h.2.2.2.2.2.2)))
  have Q3 := Lib.hid (fun w' (h : ST W6 p q r (.slice A n1 c1) (.slice A2 m1 d1) (.slice B n2 c2) (.slice B2 m2 d2) (.slice (some ⟨sB, 0, none⟩) n n) (.slice D m cap) w') => same_law (some ⟨sB, 0, none⟩) D (some ⟨sB, 0, none⟩) D n cap n m n cap n m X X w' (HX.out.later h.2.2.2.2.2.2) (HX.out.later h.2.2.2.2.2.2))
  have Md := Lib.hid (fun w' (h : ST W6 p q r (.slice A n1 c1) (.slice A2 m1 d1) (.slice B n2 c2) (.slice B2 m2 d2) (.slice (some ⟨sB, 0, none⟩) n n) (.slice D m cap) w') => MKd.out w' (chain2 BW6.out h.2.2.2.2.2.2))
  have Mc := Lib.hid (fun w' (h : ST W6 p q r (.slice A n1 c1) (.slice A2 m1 d1) (.slice B n2 c2) (.slice B2 m2 d2) (.slice (some ⟨sB, 0, none⟩) n n) (.slice D m cap) w') => MKc.out w' (chain2 BW6.out h.2.2.2.2.2.2))
  have K1 := Lib.hid (fun w' (h : ST W6 p q r (.slice A n1 c1) (.slice A2 m1 d1) (.slice B n2 c2) (.slice B2 m2 d2) (.slice (some ⟨sB, 0, none⟩) n n) (.slice D m cap) w') => KP.out w' (chain2 BW6.out h.2.2.2.2.2.2))
  have K2 := Lib.hid (fun w' (h : ST W6 p q r (.slice A n1 c1) (.slice A2 m1 d1) (.slice B n2 c2) (.slice B2 m2 d2) (.slice (some ⟨sB, 0, none⟩) n n) (.slice D m cap) w') => RP.out w' (chain2 BW6.out h.2.2.2.2.2.2))
  have K3 := Lib.hid (fun (w' : World) E F e f (g1 : Cells w' w'.heap.size E (natV N)) (g2 : Cells w' w'.heap.size F (natV N)) => ints_same E F N e f n1000 w' g1 g2)
  go_wp2_with fail
  go_region_held3 (fun u => u.cell? ⟨p, 0, none⟩ = some (.slice A n1 c1) ∧ u.cell? ⟨p, 1, none⟩ = some (.slice A2 m1 d1) ∧ u.cell? ⟨q, 0, none⟩ = some (.slice B n2 c2) ∧ u.cell? ⟨q, 1, none⟩ = some (.slice B2 m2 d2) ∧ u.cell? ⟨r, 0, none⟩ = some (.slice (some ⟨sB, 0, none⟩) n n) ∧ u.cell? ⟨r, 1, none⟩ = some (.slice D m cap) ∧ Below W6.heap.size W6 u)
    (first | exact ⟨x0, x1, y0, y1, z0, z1, (Below.refl _ _).drew⟩ | exact keep6 x2 y2 z2 ⟨x0, x1, y0, y1, z0, z1, (Below.refl _ _).drew⟩ hb | exact keep6 x2 y2 z2 (by assumption) hb)
    (first
      | (go_at_call 13; (with_reducible refine (A1.out _ ⟨x0, x1, y0, y1, z0, z1, (Below.refl _ _).drew⟩).mono ?_); rintro e wa ⟨rfl, hb⟩)
      | (go_at_call 13; (with_reducible refine (A1.out _ (by assumption)).mono ?_); rintro e wa ⟨rfl, hb⟩)
      | (go_at_call 13; (with_reducible refine (A2'.out _ (by assumption)).mono ?_); rintro e wb ⟨rfl, hb⟩)
      | (go_at_call 14; (with_reducible refine (Md.out _ (by assumption)).mono ?_); rintro e wc ⟨vd, rfl, od, hb⟩; obtain ⟨-, E, ce, ev, -, -, gc⟩ := own_cells od; subst ev; have G1 := Lib.hid gc; clear od gc)
      | (go_at_call 14; (with_reducible refine (Mc.out _ (by assumption)).mono ?_); rintro e wd ⟨ve, rfl, oe, hb⟩; obtain ⟨-, F, cf, ev, -, -, gc⟩ := own_cells oe; subst ev; have G2 := Lib.hid gc; have G3 := Lib.hid (G1.out.later (Nat.le_refl _) hb); clear oe gc)
      | (go_at_call 13; (with_reducible refine (A3.out _ (by assumption) _ _ _ _ G3.out G2.out).mono ?_); rintro e we ⟨rfl, hb⟩)
      | (go_at_call 15; (with_reducible refine (Q1.out _ (by assumption)).mono ?_); rintro e wf ⟨rfl, hb⟩)
      | (go_at_call 15; (with_reducible refine (Q2.out _ (by assumption)).mono ?_); rintro e wg ⟨rfl, hb⟩)
      | (go_at_call 15; (with_reducible refine (Q3.out _ (by assumption)).mono ?_); rintro e wh ⟨rfl, hb⟩)
      | (go_at_call 17; (with_reducible refine (K1.out _ (by assumption)).mono ?_); rintro e wi ⟨NA, c7, rfl, _, nc, hb, _⟩; have G4 := Lib.hid nc; clear nc)
      | (go_at_call 18; (with_reducible refine (K2.out _ (by assumption)).mono ?_); rintro e wj ⟨NB, c8, rfl, _, nc, hb, _⟩; have G5 := Lib.hid nc; have G6 := Lib.hid (G4.out.later (Nat.le_refl _) hb); clear nc)
      | (go_at_call 16; (with_reducible refine (K3.out _ _ _ _ _ G6.out G5.out).mono ?_); rintro e wk ⟨rfl, hb⟩))
  all_goals
    rename_i hs
    have H9 := Lib.hid (show Below W6.heap.size W6 _ from hs.2.2.2.2.2.2)
    clear hs
    go_wp2_with fail
    go_ret
    exact ⟨rfl, chain2 BW6.out H9.out⟩

/-- InstAsks. -/
theorem asks_walk {W : World} (A A2 : Option Addr) (c1 d1 : Nat) (I : InstD) (hI : InstOf W A A2 I) (B B2 : Option Addr) (c2 d2 : Nat) (J : InstD) (hJ : InstOf W B B2 J)
    (sa : Option Addr) (k ca : Nat) (ns : List Bool) (hk : ns.length = k) (k9 : k ≤ 140737488355328) (ha : Cells W W.heap.size sa (boolV ns)) (sb : Option Addr) (l cb : Nat) (zs : List Bool) (hl : zs.length = l) (l9 : l ≤ 140737488355328) (hb : Cells W W.heap.size sb (boolV zs))
    (x4 : Int) (h4 : I64 x4) (s : Option Addr) (ls cs : Nat) (xs : List Nat) (hxl : xs.length = ls) (h9 : ls ≤ 140737488355328) (hx : Octs xs) (hs : Cells W W.heap.size s (octV xs)) (s' : Option Addr) (ls' cs' : Nat) (ys : List Nat) (hyl : ys.length = ls') (h9' : ls' ≤ 140737488355328) (hy : Octs ys) (hs' : Cells W W.heap.size s' (octV ys)) :
    Calls Try.prog 3 #[instV A c1 A2 d1 I, instV B c2 B2 d2 J, .slice sa k ca, .slice sb l cb, .int .i64 x4, .slice s ls cs, .slice s' ls' cs'] W fun e W' => e = .returned (.bool true) ∧ Below W.heap.size W W' := by
  by_cases h : 120 < I.sup.length + 2 * I.arcs.length ∨ 120 < J.sup.length + 2 * J.arcs.length ∨ 200 < k + l
  · exact ask_big A A2 B B2 c1 d1 _ _ c2 d2 _ _ k l sa sb ca cb _ _ _ hI.n hI.m hJ.n hJ.m k9 l9 h W
  · exact ask_small A A2 B B2 c1 d1 _ _ c2 d2 _ _ k l sa sb ca cb I J ns zs hk hl x4 h4.2 s ls cs xs hxl h9 hx s' ls' cs' ys hyl h9' hy (by omega) (by omega) (by omega) W ⟨⟨by omega, by omega, hI.sup, hI.arcs⟩, rfl, rfl⟩ ⟨⟨by omega, by omega, hJ.sup, hJ.arcs⟩, rfl, rfl⟩ ha hb hs hs'
end Go.Proofs.Ytekjbpdfginplaa.Inst
