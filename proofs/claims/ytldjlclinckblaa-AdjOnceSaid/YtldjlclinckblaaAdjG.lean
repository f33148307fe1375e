/- The law AdjAsks: its walk. -/
import Derived.Test.YtldjlclinckblaaAdjF
import Derived.Test.YtldjlclinckblaaInstO
namespace Go.Proofs.Ytldjlclinckblaa.Adj
open Go.RowKit Go.Proofs.Ytldjlclinckblaa.Inst

theorem size_big (A A2 : Option Addr) (c d n m : Nat) (h1 : n ≤ 140737488355328) (h2 : m ≤ 140737488355328) (w : World) :
    Calls Try.prog 9 #[.agg #[.slice A n c, .slice A2 m d]] w fun e w' => e = .returned (.int .i64 ((n : Int) + 2 * (m : Int))) ∧ Below w.heap.size w w' := by
  go_enter Try.func9, Try.ntmps9
  go_wp2_with fail
  go_ret
  exact ⟨rfl, (Below.refl _ _).alloc (Nat.le_refl _) _⟩
theorem wrap_id {r : Int} (h0 : 0 ≤ r) (h1 : r ≤ 65535) : IntKind.i64.wrap r = r := by
  simp only [IntKind.wrap_i64]
  omega
/-- What holds in the last region: two boxes, and that all else is as it was. -/
abbrev SS (W : World) (p q : Nat) (a b c d : Value) (u : World) : Prop := u.cell? ⟨p, 0, none⟩ = some a ∧ u.cell? ⟨p, 1, none⟩ = some b ∧ u.cell? ⟨q, 0, none⟩ = some c ∧ u.cell? ⟨q, 1, none⟩ = some d ∧ Below W.heap.size W u
theorem keep4 {W w w' : World} {p q : Nat} {a b c d : Value} (hp : p < W.heap.size) (hq : q < W.heap.size) (h : SS W p q a b c d w) (hb : Below w.heap.size w w') : SS W p q a b c d w' := by
  obtain ⟨h1, h2, h3, h4, h5⟩ := h
  have z := h5.size
  exact ⟨(hb.cell (p := ⟨p, 0, none⟩) (by show p < _; omega)).trans h1, (hb.cell (p := ⟨p, 1, none⟩) (by show p < _; omega)).trans h2, (hb.cell (p := ⟨q, 0, none⟩) (by show q < _; omega)).trans h3, (hb.cell (p := ⟨q, 1, none⟩) (by show q < _; omega)).trans h4, chain2 h5 hb⟩

set_option maxRecDepth 100000 in
set_option maxHeartbeats 8000000 in
theorem ask_big {Gr : World → Nat → InstD → Prop} (C : AdjC Gr) (A A2 : Option Addr) (c1 d1 n1 m1 : Nat) (x1 x2 x3 x4 x5 : Value) (hn1 : n1 ≤ 140737488355328) (hm1 : m1 ≤ 140737488355328) (hb : 120 < n1 + 2 * m1) (W : World) :
    Calls Try.prog 3 #[.agg #[.slice A n1 c1, .slice A2 m1 d1], x1, x2, x3, x4, x5] W fun e W' => e = .returned (.bool true) ∧ Below W.heap.size W W' := by
  have KW := Lib.hid (fun w => known_any C w)
  have Z1 := Lib.hid (fun w => size_big A A2 c1 d1 n1 m1 hn1 hm1 w)
  obtain ⟨s1, hs1⟩ : ∃ s : Int, s = (n1 : Int) + 2 * (m1 : Int) := ⟨_, rfl⟩
  rw [← hs1] at Z1
  have t1 : 120 < s1 := by omega
  obtain ⟨W1, hW1⟩ : ∃ W1, W1 = W.alloc (.cells #[.slice A n1 c1, .slice A2 m1 d1] 25) := ⟨_, rfl⟩
  obtain ⟨p, hp⟩ : ∃ p, p = W.heap.size := ⟨_, rfl⟩
  have BW := Lib.hid (show Below W.heap.size W W1 by rw [hW1]; exact (Below.refl _ _).alloc (Nat.le_refl _) _)
  have BP := Lib.hid (show Blk W1 p 25 #[.slice A n1 c1, .slice A2 m1 d1] by rw [hW1]; exact blk_at hp.symm _ _)
  have HW := Lib.hid hW1
  have HP := Lib.hid hp
  have y0 := BP.out.cell 0
  have y1 := BP.out.cell 1
  have y2 := BP.out.lt
  simp at y0 y1
  clear hs1 hW1 hp C
  go_enter Try.func3, Try.ntmps3
  go_upto_region 1 with fail
  rw [← HW.out, ← HP.out]
  go_wp2_with (first
    | (go_at_call 9; (with_reducible refine (Z1.out _).mono ?_); rintro e w2 ⟨rfl, hb⟩; have B2' := Lib.hid hb; clear hb)
    | (go_at_call 10; (refine (KW.out _).mono ?_); rintro e w3 ⟨rfl, hb⟩; have B3 := Lib.hid (chain2 B2'.out hb); clear hb))
  go_ret
  exact ⟨rfl, chain2 BW.out B3.out⟩

set_option maxRecDepth 100000 in
set_option maxHeartbeats 8000000 in
theorem ask_small {Gr : World → Nat → InstD → Prop} (C : AdjC Gr) (A A2 : Option Addr) (c1 d1 n1 m1 : Nat) (I : InstD) (a nn : Int) (ha : I64 a) (hn9 : I64 nn) (s : Option Addr) (l c : Nat) (xs : List Nat) (hl : xs.length = l) (h9 : l ≤ 140737488355328) (hx : Octs xs) (s' : Option Addr) (l' c' : Nat) (ys : List Nat) (hl' : ys.length = l') (h9' : l' ≤ 140737488355328) (hy : Octs ys) (k : Nat) (hk : k < 256)
    (hs1 : n1 + 2 * m1 ≤ 120) (W : World) (hI : Here W A A2 n1 m1 I) (hs : Cells W W.heap.size s (octV xs)) (hs' : Cells W W.heap.size s' (octV ys)) :
    Calls Try.prog 3 #[.agg #[.slice A n1 c1, .slice A2 m1 d1], .int .i64 a, .int .i64 nn, .slice s l c, .slice s' l' c', .int .u8 (k : Int)] W fun e W' => e = .returned (.bool true) ∧ Below W.heap.size W W' := by
  have KW := Lib.hid (fun w => known_any C w)
  have Z1 := Lib.hid (fun w => size_big A A2 c1 d1 n1 m1 (by omega) (by omega) w)
  obtain ⟨s1, hq1⟩ : ∃ s : Int, s = (n1 : Int) + 2 * (m1 : Int) := ⟨_, rfl⟩
  rw [← hq1] at Z1
  have t1 : ¬ (120 < s1) := by omega
  have bn1 : n1 ≤ 1000 := by omega
  have bm1 : m1 ≤ 1000 := by omega
  have IN := Lib.hid (fun w' (h : Below W.heap.size W w') => inst_any s s' c c' xs ys hx hy (by omega) (by omega) w' (hs.later (Nat.le_refl _) h) (hs'.later (Nat.le_refl _) h))
  rw [hl, hl'] at IN
  obtain ⟨X, hX⟩ : ∃ X, X = instC xs ys := ⟨_, rfl⟩
  have i0 := instC_sup xs ys
  have i1 := instC_arcs xs ys
  have i2 := nodesC_bd ys
  rw [← hX] at IN i0 i1
  obtain ⟨n, hn⟩ : ∃ n, n = nodesC ys := ⟨_, rfl⟩
  rw [← hn] at IN i0 i2
  obtain ⟨m, hm⟩ : ∃ m, m = X.arcs.length := ⟨_, rfl⟩
  rw [← hm] at i1
  obtain ⟨n1', n7⟩ := i2
  have XN := Lib.hid i0
  have XM := Lib.hid hm.symm
  have HI := Lib.hid hI
  -- the places asked for
  obtain ⟨K1, hK1⟩ : ∃ K, K = k % (m + 1) := ⟨_, rfl⟩
  obtain ⟨K2, hK2⟩ : ∃ K, K = k % n := ⟨_, rfl⟩
  obtain ⟨K3, hK3⟩ : ∃ K, K = k % 8 := ⟨_, rfl⟩
  obtain ⟨K4, hK4⟩ : ∃ K, K = k % 5 := ⟨_, rfl⟩
  have l1 : K1 ≤ k := by rw [hK1]; exact Nat.mod_le _ _
  have l2 : K2 ≤ k := by rw [hK2]; exact Nat.mod_le _ _
  have l3 : K3 ≤ k := by rw [hK3]; exact Nat.mod_le _ _
  have l4 : K4 ≤ k := by rw [hK4]; exact Nat.mod_le _ _
  have w0 : IntKind.i64.wrap (k : Int) = (k : Int) := wrap_id (by omega) (by omega)
  have w3 : IntKind.i64.wrap (K3 : Int) = (K3 : Int) := wrap_id (by omega) (by omega)
  have w4 : IntKind.i64.wrap (K4 : Int) = (K4 : Int) := wrap_id (by omega) (by omega)
  have q1 : (k : Int) % ((m : Int) + 1) = (K1 : Int) := by rw [hK1]; simp
  have q2 : (k : Int) % (n : Int) = (K2 : Int) := by rw [hK2]; omega
  have q3 : (k : Int) % 8 = (K3 : Int) := by omega
  have q4 : (k : Int) % 5 = (K4 : Int) := by omega
  have tm1 : (k : Int).tmod ((m : Int) + 1) = (K1 : Int) := by rw [Int.tmod_eq_emod_of_nonneg (by omega)]; exact q1
  have tm2 : (k : Int).tmod (n : Int) = (K2 : Int) := by rw [Int.tmod_eq_emod_of_nonneg (by omega)]; exact q2
  have tm3 : (k : Int).tmod 8 = (K3 : Int) := by rw [Int.tmod_eq_emod_of_nonneg (by omega)]; exact q3
  have tm4 : (k : Int).tmod 5 = (K4 : Int) := by rw [Int.tmod_eq_emod_of_nonneg (by omega)]; exact q4
  have tw1 : (IntKind.i64.wrap (k : Int)).tmod ((m : Int) + 1) = (K1 : Int) := by rw [w0]; exact tm1
  have tw2 : (IntKind.i64.wrap (k : Int)).tmod (n : Int) = (K2 : Int) := by rw [w0]; exact tm2
  have n0 : ¬ n = 0 := by omega
  have m0 : ¬ ((m : Int) + 1 = 0) := by omega
  have m00 : ((m : Int) + 1 == 0) = false := by simp; omega
  have wm : IntKind.i64.wrap ((m : Int) + 1) = (m : Int) + 1 := wrap_id (by omega) (by omega)
  have m01 : ¬ (m : Int) = -1 := by omega
  have m02 : ((m : Int) + 1 ≠ 0) := by omega
  have n00 : ((n : Int) == 0) = false := by simp; omega
  obtain ⟨W1, hW1⟩ : ∃ W1, W1 = W.alloc (.cells #[.slice A n1 c1, .slice A2 m1 d1] 25) := ⟨_, rfl⟩
  obtain ⟨p, hp⟩ : ∃ p, p = W.heap.size := ⟨_, rfl⟩
  have BW := Lib.hid (show Below W.heap.size W W1 by rw [hW1]; exact (Below.refl _ _).alloc (Nat.le_refl _) _)
  have BP := Lib.hid (show Blk W1 p 25 #[.slice A n1 c1, .slice A2 m1 d1] by rw [hW1]; exact blk_at hp.symm _ _)
  have HW := Lib.hid hW1
  have HP := Lib.hid hp
  have x0 := BP.out.cell 0
  have x1 := BP.out.cell 1
  have x2 := BP.out.lt
  simp at x0 x1
  clear hs hs' hx hy hX hn hm i0 hI hq1 hK1 hK2 hK3 hK4 hW1 hp
  go_enter Try.func3, Try.ntmps3
  go_upto_region 1 with fail
  rw [← HW.out, ← HP.out]
  go_upto_region 4 with (first
    | (go_at_call 9; (with_reducible refine (Z1.out _).mono ?_); rintro e w2 ⟨rfl, hb⟩; have B2' := Lib.hid hb; clear hb)
    | (go_at_call 10; (refine (KW.out _).mono ?_); rintro e w4 ⟨rfl, hb⟩; have B4 := Lib.hid (chain2 B2'.out hb); clear hb)
    | (go_at_call 11; (with_reducible refine (IN.out _ (chain2 BW.out B4.out)).mono ?_); rintro e w5 ⟨sB, aV, rfl, hM⟩; obtain ⟨-, D, cap, ea, -, -, -⟩ := own_cells hM.arcs; subst ea; rw [XM.out] at hM; rw [XM.out]; have M5 := Lib.hid hM; clear hM))
  obtain ⟨r, hr⟩ : ∃ r, r = w5.heap.size := ⟨_, rfl⟩
  obtain ⟨W6, hW6⟩ : ∃ W6, W6 = w5.alloc (.cells #[.slice (some ⟨sB, 0, none⟩) n n, .slice D m cap] 25) := ⟨_, rfl⟩
  rw [← hW6, ← hr]
  have B16 := Lib.hid (show Below W1.heap.size W1 W6 by rw [hW6]; exact (chain2 B4.out M5.out.below).alloc (by have := chain2 B4.out M5.out.below; exact this.size) _)
  have BW6 := Lib.hid (chain2 BW.out B16.out)
  have BR := Lib.hid (show Blk W6 r 25 #[.slice (some ⟨sB, 0, none⟩) n n, .slice D m cap] by rw [hW6]; exact blk_at hr.symm _ _)
  have HX := Lib.hid (show Here W6 (some ⟨sB, 0, none⟩) D n m X by rw [hW6]; exact Made.here (M5.out.alloc _) (I := X) XN.out XM.out (by omega) (by omega))
  have BP6 := Lib.hid (BP.out.below B16.out BP.out.lt)
  clear hW6 hr x0 x1 x2 M5
  have x0 := BP6.out.cell 0
  have x1 := BP6.out.cell 1
  have x2 := BP6.out.lt
  have z0 := BR.out.cell 0
  have z1 := BR.out.cell 1
  have z2 := BR.out.lt
  simp at x0 x1 z0 z1
  have A1 := Lib.hid (fun w' (h : SS W6 p r (.slice A n1 c1) (.slice A2 m1 d1) (.slice (some ⟨sB, 0, none⟩) n n) (.slice D m cap) w') => asks_any C A A2 c1 d1 n1 m1 I bn1 bm1 a nn ha hn9 w' (HI.out.later (chain2 BW6.out h.2.2.2.2)))
  have A2' := Lib.hid (fun w' (h : SS W6 p r (.slice A n1 c1) (.slice A2 m1 d1) (.slice (some ⟨sB, 0, none⟩) n n) (.slice D m cap) w') => asks_any C (some ⟨sB, 0, none⟩) D n cap n m X (by omega) (by omega) a nn ha hn9 w' (HX.out.later h.2.2.2.2))
  have A3 := Lib.hid (fun w' (h : SS W6 p r (.slice A n1 c1) (.slice A2 m1 d1) (.slice (some ⟨sB, 0, none⟩) n n) (.slice D m cap) w') => asks_any C (some ⟨sB, 0, none⟩) D n cap n m X (by omega) (by omega) (K1 : Int) (K2 : Int) (I64_small (by omega) (by omega)) (I64_small (by omega) (by omega)) w' (HX.out.later h.2.2.2.2))
  have A4 := Lib.hid (fun w' (h : SS W6 p r (.slice A n1 c1) (.slice A2 m1 d1) (.slice (some ⟨sB, 0, none⟩) n n) (.slice D m cap) w') => asks_any C A A2 c1 d1 n1 m1 I bn1 bm1 (K3 : Int) (K4 : Int) (I64_small (by omega) (by omega)) (I64_small (by omega) (by omega)) w' (HI.out.later (chain2 BW6.out h.2.2.2.2)))
  clear C
  go_wp2_with fail
  go_region_held3 (fun u => u.cell? ⟨p, 0, none⟩ = some (.slice A n1 c1) ∧ u.cell? ⟨p, 1, none⟩ = some (.slice A2 m1 d1) ∧ u.cell? ⟨r, 0, none⟩ = some (.slice (some ⟨sB, 0, none⟩) n n) ∧ u.cell? ⟨r, 1, none⟩ = some (.slice D m cap) ∧ Below W6.heap.size W6 u)
    (first | exact ⟨x0, x1, z0, z1, (Below.refl _ _).drew⟩ | exact keep4 x2 z2 ⟨x0, x1, z0, z1, (Below.refl _ _).drew⟩ hb | exact keep4 x2 z2 (by assumption) hb)
    (first
      | (go_at_call 12; (with_reducible refine (A1.out _ ⟨x0, x1, z0, z1, (Below.refl _ _).drew⟩).mono ?_); rintro e wa ⟨rfl, hb⟩)
      | (go_at_call 12; (with_reducible refine (A1.out _ (by assumption)).mono ?_); rintro e wa ⟨rfl, hb⟩)
      | (go_at_call 12; (with_reducible refine (A2'.out _ (by assumption)).mono ?_); rintro e wb ⟨rfl, hb⟩)
      | (go_at_call 12; (with_reducible refine (A3.out _ (by assumption)).mono ?_); rintro e wc ⟨rfl, hb⟩)
      | (go_at_call 12; go_loud (with_reducible refine (A4.out _ (by assumption)).mono ?_); rintro e wd ⟨rfl, hb⟩))
  all_goals
    rename_i hs
    have H9 := Lib.hid (show Below W6.heap.size W6 _ from hs.2.2.2.2)
    clear hs
    go_wp2_with fail
    go_ret
    exact ⟨rfl, chain2 BW6.out H9.out⟩

/-- AdjAsks. -/
theorem asks_walk {Gr : World → Nat → InstD → Prop} (C : AdjC Gr) {W : World} (A A2 : Option Addr) (c1 d1 : Nat) (I : InstD) (hI : InstOf W A A2 I) (a : Int) (ha : I64 a) (nn : Int) (hn9 : I64 nn)
    (s : Option Addr) (l c : Nat) (xs : List Nat) (hl : xs.length = l) (h9 : l ≤ 140737488355328) (hx : Octs xs) (hs : Cells W W.heap.size s (octV xs)) (s' : Option Addr) (l' c' : Nat) (ys : List Nat) (hl' : ys.length = l') (h9' : l' ≤ 140737488355328) (hy : Octs ys) (hs' : Cells W W.heap.size s' (octV ys)) (kk : Int) (hk : U8 kk) :
    Calls Try.prog 3 #[instV A c1 A2 d1 I, .int .i64 a, .int .i64 nn, .slice s l c, .slice s' l' c', .int .u8 kk] W fun e W' => e = .returned (.bool true) ∧ Below W.heap.size W W' := by
  unfold U8 at hk
  obtain ⟨k, rfl⟩ : ∃ k : Nat, kk = k := ⟨kk.toNat, by omega⟩
  by_cases h : 120 < I.sup.length + 2 * I.arcs.length
  · exact ask_big C A A2 c1 d1 _ _ _ _ _ _ _ hI.n hI.m h W
  · exact ask_small C A A2 c1 d1 _ _ I a nn ha hn9 s l c xs hl h9 hx s' l' c' ys hl' h9' hy k (by omega) (by omega) W ⟨⟨by omega, by omega, hI.sup, hI.arcs⟩, rfl, rfl⟩ hs hs'
end Go.Proofs.Ytldjlclinckblaa.Adj
