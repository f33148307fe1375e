/- The laws' own helpers: the same marks; some nodes, as choices say; the chapter's example. -/
import Derived.Test.YtajckihgfelbaaaRchXG
import Derived.Test.YtajckihgfelbaaaInstR
import Derived.Test.YtajckihgfelbaaaAdjC
namespace Go.Proofs.Ytajckihgfelbaaa.Rch
open Go.RowKit Go.Proofs.Ytajckihgfelbaaa.Inst Go.Proofs.Ytajckihgfelbaaa.Adj
set_option maxRecDepth 100000

theorem rbools_len (a b : Option Addr) (n m c d : Nat) (h : n ≠ m) (w : World) :
    Calls Try.prog 40 #[.slice a n c, .slice b m d] w fun e w' => e = .returned (.bool false) ∧ Below w.heap.size w w' := by
  have h1 : ((n : Int) != (m : Int)) = true := by simp; omega
  go_enter Try.func40, Try.ntmps40
  go_wp2_with fail
  go_ret
  exact ⟨rfl, Below.refl _ _⟩
set_option maxHeartbeats 2000000 in
theorem rbools_eqlen (a b : Option Addr) (xs ys : List Bool) (c d : Nat) (hn : xs.length ≤ maxLen) (h : xs.length = ys.length) (w : World) (ha : Cells w w.heap.size a (boolV xs)) (hb : Cells w w.heap.size b (boolV ys)) :
    Calls Try.prog 40 #[.slice a xs.length c, .slice b xs.length d] w fun e w' => e = .returned (.bool (decide (xs = ys))) ∧ Below w.heap.size w w' := by
  unfold maxLen at hn
  have HA := Lib.hid ha
  have HB := Lib.hid hb
  have HL := Lib.hid h
  have h1 : ((xs.length : Int) != (xs.length : Int)) = false := by simp
  clear ha hb h
  go_enter Try.func40, Try.ntmps40
  go_wp2_with fail
  go_loopw [5] (fun q u => SameRel w xs ys q u) (fun q _ => xs.length - (intOf q).toNat)
  case atStart => exact ⟨0, 0, by omega, rfl, by simp, rfl⟩
  case round =>
    obtain ⟨k, m, hk, rfl, ht, rfl⟩ := hrel
    have HT := Lib.hid ht
    clear ht
    by_cases hlt : k < xs.length
    · have hlt2 : k < ys.length := by have := HL.out; omega
      obtain ⟨ba, oa, ea, _, ca⟩ := bools_at HA.out (by omega)
      obtain ⟨bb, ob, eb, _, cb⟩ := bools_at HB.out (by omega)
      have c1 := ca k hlt
      have c2 := cb k hlt2
      have EA := Lib.hid ea
      have EB := Lib.hid eb
      rw [EA.out, EB.out]
      have i0 : (0 : Int) ≤ (k : Int) := by omega
      have i1 : (k : Int) < (xs.length : Int) := by omega
      obtain ⟨x, hx⟩ : ∃ x, x = xs[k] := ⟨_, rfl⟩
      obtain ⟨y, hy⟩ : ∃ y, y = ys[k] := ⟨_, rfl⟩
      rw [← hx] at c1
      rw [← hy] at c2
      have HX := Lib.hid hx
      have HY := Lib.hid hy
      clear ca cb ea eb hx hy
      by_cases e : x = y
      · have E := Lib.hid (same_step xs ys k hlt hlt2 HT.out (HX.out.symm.trans (e.trans HY.out)))
        subst e
        clear HX HY
        cases x
        all_goals
          go_wp2_with fail
          go_quiet (fail)
          go_wp2_with fail
          exact ⟨⟨k + 1, _, by omega, by simp, E.out, rfl⟩, by simp [intOf]; omega⟩
      · have D := Lib.hid (show decide (xs = ys) = false by
          apply decide_eq_false
          intro hq
          apply e
          rw [HX.out, HY.out]
          simp [hq])
        clear HX HY
        cases x
        all_goals
          cases y
          all_goals first
            | exact absurd rfl e
            | (clear e
               go_wp2_with fail
               go_quiet (fail)
               go_wp2_with fail
               go_ret
               exact ⟨by rw [D.out]; rfl, below_drewN (below_drewN (Below.refl _ _) _) _⟩)
    · obtain rfl : k = xs.length := by omega
      have D := Lib.hid (show decide (xs = ys) = true by
        apply decide_eq_true
        have q := HT.out
        rw [List.take_length, HL.out, List.take_length] at q
        exact q)
      go_wp2_with fail
      go_ret
      exact ⟨by rw [D.out]; rfl, below_drewN (Below.refl _ _) _⟩
/-- Bools. -/
theorem rbools_any (a b : Option Addr) (xs ys : List Bool) (n m c d : Nat) (hn : xs.length = n) (hm : ys.length = m) (hx : xs.length ≤ maxLen) (w : World) (ha : Cells w w.heap.size a (boolV xs)) (hb : Cells w w.heap.size b (boolV ys)) :
    Calls Try.prog 40 #[.slice a n c, .slice b m d] w fun e w' => e = .returned (.bool (decide (xs = ys))) ∧ Below w.heap.size w w' := by
  subst hn hm
  by_cases h : xs.length = ys.length
  · have q := rbools_eqlen a b xs ys c d hx h w ha hb
    rw [← h]
    exact q
  · rw [show decide (xs = ys) = false from decide_eq_false (fun e => h (by rw [e]))]
    exact rbools_len a b _ _ c d h w

/-- Some nodes, as choices say. -/
def someC (c : List Nat) : List Int := (c.take 6).map fun x => ((x % 10 : Nat) : Int) - 1
theorem someC_length (c : List Nat) : (someC c).length ≤ 6 := by unfold someC; rw [List.length_map, List.length_take]; omega
theorem someC_small (c : List Nat) : ∀ x ∈ someC c, I64 x := by
  intro x hx
  unfold someC at hx
  rw [List.mem_map] at hx
  obtain ⟨y, _, rfl⟩ := hx
  unfold I64
  omega
def SomeRel (w : World) (c : List Nat) (s3 s4 : Value) (u : World) : Prop :=
  ∃ k : Nat, k ≤ c.length ∧ k ≤ 6 ∧ s4 = .int .i64 (k : Int) ∧ u.ownsRow w.heap.size 3 1 s3 k (numV ((someC c).take k)) ∧ Below w.heap.size w u
set_option maxHeartbeats 4000000 in
theorem some_any (a : Option Addr) (cc : Nat) (c : List Nat) (n : Nat) (hn : c.length = n) (hc : Octs c) (hl : n ≤ 140737488355328) (w : World) (ha : Cells w w.heap.size a (octV c)) :
    Calls Try.prog 22 #[.slice a n cc] w fun e w' => ∃ v, e = .returned v ∧ w'.ownsRow w.heap.size 3 1 v (someC c).length (numV (someC c)) ∧ Below w.heap.size w w' := by
  obtain ⟨i0, hi0, hz0, hz1, hz2⟩ := info_parts info_int
  have G0 := Lib.hid hi0
  have G1 := Lib.hid hz0
  have G2 := Lib.hid hz1
  have G3 := Lib.hid hz2
  have HA := Lib.hid ha
  have HC := Lib.hid hc
  have HN := Lib.hid hn
  have SL := Lib.hid (show (someC c).length = min 6 n by unfold someC; rw [List.length_map, List.length_take, hn])
  clear hi0 hz0 hz1 hz2 ha hc hn
  go_enter Try.func22, Try.ntmps22
  go_wp2_with fail
  go_loopw [3, 4] (fun s3 s4 u => SomeRel w c s3 s4 u) (fun _ s4 _ => 6 - (intOf s4).toNat)
  case atStart => exact ⟨0, Nat.zero_le _, Nat.zero_le _, rfl, ⟨rfl, .inl ⟨rfl, rfl⟩⟩, Below.refl _ _⟩
  case round =>
    obtain ⟨k, hk, hk6, rfl, ho, hb⟩ := hrel
    rw [HN.out] at hk
    have UO := Lib.hid ho
    have UB := Lib.hid hb
    have bs := hb.size
    clear ho hb
    by_cases h1 : k < n
    · have t1 : (k : Int) < (n : Int) := by omega
      have k0 : (0 : Int) ≤ (k : Int) := by omega
      by_cases h2 : k < 6
      · have t2 : (k : Int) < 6 := by omega
        obtain ⟨b, off, ea, hbl, hcell⟩ := octs_at (HA.out.later (Nat.le_refl _) UB.out) (by rw [HN.out]; omega)
        have c1 := hcell k (by rw [HN.out]; exact h1)
        obtain ⟨x, hx⟩ : ∃ x, x = c[k]'(by rw [HN.out]; exact h1) := ⟨_, rfl⟩
        rw [show at0 c k = x by rw [hx]; unfold at0; rw [List.getD_eq_getElem?_getD, List.getElem?_eq_getElem (by rw [HN.out]; exact h1)]; rfl] at c1
        have x8 : x < 256 := by rw [hx]; exact HC.out _ (List.getElem_mem _)
        have TK := Lib.hid (show (someC c).take (k + 1) = (someC c).take k ++ [(x : Int) % 10 - 1] by
          rw [show (x : Int) % 10 - 1 = ((x % 10 : Nat) : Int) - 1 by omega, List.take_succ_eq_append_getElem (by rw [SL.out]; omega)]
          congr 2
          simp [someC, hx])
        subst ea
        clear hcell hx
        go_wp2_with (
          at_builtin
          refine wpList_append_own _ rfl _ _ 32 rfl w.heap.size 3 i0 _ 1 8 Try.underlying32 G0.out G1.out G2.out G3.out rfl (by decide) _ _ _ rfl (UO.out.alloc _) ⟨wr.heap.size, 0, none⟩ 1 1 [.int .i64 ((x : Int) % 10 - 1)] rfl rfl ?c1 ?c2 ?c3 ?c4 ?c5 ?_
          case c1 => first | exact cell_one_new _ _ _ | (intro j u hu; simp at hu ⊢; exact cell_one_new _ _ _ j u (by simpa using hu))
          case c2 => simp [Value.oneCell']
          case c3 => simp only [maxLen]; omega
          case c4 => omega
          case c5 => simp; omega
          intro v' u2 hown hgrow _
          have OW := Lib.hid hown
          have GR := Lib.hid hgrow
          clear hown hgrow)
        exact ⟨⟨k + 1, by rw [HN.out]; omega, by omega, by simp, by rw [TK.out, numV_snoc]; exact OW.out, (UB.out.alloc bs _).grown GR.out (by simp; omega) (own_ge UO.out)⟩, by simp [intOf]; omega⟩
      · have t2 : ¬ ((k : Int) < 6) := by omega
        have k6 : k = 6 := by omega
        have UO2 := UO.out
        have E := show k = (someC c).length by rw [SL.out]; omega
        rw [List.take_of_length_le (by omega)] at UO2
        have O3 := Lib.hid (show wr.ownsRow w.heap.size 3 1 u3 (someC c).length (numV (someC c)) by rw [← E]; exact UO2)
        clear UO2 E
        go_wp2_with fail
        go_ret
        exact ⟨_, rfl, O3.out, UB.out⟩
    · have t1 : ¬ ((k : Int) < (n : Int)) := by omega
      have UO2 := UO.out
      have E := show k = (someC c).length by rw [SL.out]; omega
      rw [List.take_of_length_le (by omega)] at UO2
      have O3 := Lib.hid (show wr.ownsRow w.heap.size 3 1 u3 (someC c).length (numV (someC c)) by rw [← E]; exact UO2)
      clear UO2 E
      go_wp2_with fail
      go_ret
      exact ⟨_, rfl, O3.out, UB.out⟩

/-! The chapter's example. -/
def exR : InstD := ⟨[0, 0], [⟨0, 1, 0, 0, 0⟩, ⟨1, 0, 0, 0, 0⟩]⟩
theorem exR_01 : ArcTo exR 0 1 := ⟨0, by decide +kernel, by decide +kernel, by decide +kernel⟩
theorem exR_10 : ArcTo exR 1 0 := ⟨1, by decide +kernel, by decide +kernel, by decide +kernel⟩
theorem exR_strong : strongL exR = [0, 0] := by
  have h0 : strongN exR 0 = 0 := strong_eq (Mut.refl _ _) (fun m hm => absurd hm (by omega))
  have h1 : strongN exR 1 = 0 := strong_eq ⟨Way.one exR_01, Way.one exR_10⟩ (fun m hm => absurd hm (by omega))
  show (List.range 2).map (strongN exR) = [0, 0]
  simp [List.range_succ, h0, h1]
theorem exR_back0 : BackP exR 0 := ⟨by decide +kernel, Way.one exR_10⟩
theorem exR_back1 : BackP exR 1 := ⟨by decide +kernel, Way.one exR_01⟩
theorem exR_back : backL exR = [true, true] := by
  show (List.range 2).map (fun a => yes (BackP exR a)) = [true, true]
  simp [List.range_succ, yes_true exR_back0, yes_true exR_back1]
theorem exR_ok : okD exR = false := by
  cases h : okD exR with
  | false => rfl
  | true => exact absurd exR_back0 (ok_back.1 h 0)
theorem exR_told : toldL exR = [] := by unfold toldL; rw [exR_ok]; rfl
end Go.Proofs.Ytajckihgfelbaaa.Rch
/- The laws' own helpers: the chapter's example, called. -/
namespace Go.Proofs.Ytajckihgfelbaaa.Rch
open Go.RowKit Go.Proofs.Ytajckihgfelbaaa.Inst Go.Proofs.Ytajckihgfelbaaa.Adj
set_option maxRecDepth 100000

set_option maxHeartbeats 8000000 in
theorem known_any (w : World) : Calls Try.prog 20 #[] w fun e w' => e = .returned (.bool true) ∧ Below w.heap.size w w' := by
  obtain ⟨W1, hW1⟩ : ∃ W1, W1 = ((w.alloc (.cells #[.int .i64 0, .int .i64 0] 2)).alloc (.cells #[.int .i64 0, .int .i64 1, .int .i64 0, .int .i64 0, .int .i64 0, .int .i64 1, .int .i64 0, .int .i64 0, .int .i64 0, .int .i64 0] 36)).alloc (.cells #[.slice (some ⟨w.heap.size, 0, none⟩) 2 2, .slice (some ⟨w.heap.size + 1, 0, none⟩) 2 2] 25) := ⟨_, rfl⟩
  have B1 := Lib.hid (show Below w.heap.size w W1 by rw [hW1]; exact (((Below.refl _ _).alloc (Nat.le_refl _) _).alloc (by simp) _).alloc (by simp; omega) _)
  have HX : Here W1 (some ⟨w.heap.size, 0, none⟩) (some ⟨w.heap.size + 1, 0, none⟩) 2 2 exR := by
    rw [hW1]
    refine ⟨⟨by decide, by decide, cells_blk (t := 2) ?_, cells_blk (t := 36) ?_⟩, rfl, rfl⟩
    · show Blk _ _ 2 #[.int .i64 0, .int .i64 0]
      exact ((Blk.new _ _ _).alloc _).alloc _
    · show Blk _ _ 36 #[.int .i64 0, .int .i64 1, .int .i64 0, .int .i64 0, .int .i64 0, .int .i64 1, .int .i64 0, .int .i64 0, .int .i64 0, .int .i64 0]
      exact (blk_at (by simp) _ _).alloc _
  have HB : Blk W1 (w.heap.size + 1 + 1) 25 #[.slice (some ⟨w.heap.size, 0, none⟩) 2 2, .slice (some ⟨w.heap.size + 1, 0, none⟩) 2 2] := by rw [hW1]; exact blk_at (by simp) _ _
  have M2 : ∀ W, (Instr.makeSlice 22 (.int .i64 2) (.int .i64 2)).run Try.prog W = .ok (.slice (some ⟨W.heap.size, 0, none⟩) 2 2) (W.alloc (.cells #[.int .i64 0, .int .i64 0] 2)) := fun W => make_any 2 (by omega) W
  have OR := Lib.hid (Order_any _ _ 2 2 2 2 exR W1 HX (by omega) (by omega))
  have HH := Lib.hid HX
  have HBB := Lib.hid HB
  have HW := Lib.hid hW1
  clear hW1 HX HB
  go_enter Try.func20, Try.ntmps20
  go_wp2_with fail
  rw [← HW.out]
  have BX := Lib.hid (fun u (hu : Below W1.heap.size W1 u) => (show u.cell? ⟨w.heap.size + 1 + 1, 0, none⟩ = some (.slice (some ⟨w.heap.size, 0, none⟩) 2 2) ∧ u.cell? ⟨w.heap.size + 1 + 1, 1, none⟩ = some (.slice (some ⟨w.heap.size + 1, 0, none⟩) 2 2) ∧ w.heap.size + 1 + 1 < u.heap.size from ⟨((HBB.out.below hu HBB.out.lt).cell 0).trans rfl, ((HBB.out.below hu HBB.out.lt).cell 1).trans rfl, (HBB.out.below hu HBB.out.lt).lt⟩))
  have ST := Lib.hid (fun u (hu : Below W1.heap.size W1 u) => Strong_any _ _ 2 2 2 2 exR u (HH.out.later hu) (by omega) (by omega))
  have BA := Lib.hid (fun u (hu : Below W1.heap.size W1 u) => Back_any _ _ 2 2 2 2 exR u (HH.out.later hu) (by omega) (by omega))
  rw [exR_strong] at ST
  rw [exR_back] at BA
  clear HW M2 HBB HH
  refine OR.out.mono ?_
  rintro e u1 ⟨TA, tc, rfl, -, -, hb⟩
  rw [exR_told, exR_ok]
  have H1 := Lib.hid hb
  obtain ⟨x0, x1, x2⟩ := BX.out _ hb
  have S1 := Lib.hid (ST.out _ hb)
  clear hb OR
  go_wp2_with fail
  refine S1.out.mono ?_
  rintro e u2 ⟨SA, sc, rfl, -, hc, hb, -⟩
  have H2 := Lib.hid (chain2 H1.out hb)
  have L2 : Below u2.heap.size u2 (u2.alloc (.cells #[.int .i64 0, .int .i64 0] 3)) := (Below.refl _ _).alloc (Nat.le_refl _) _
  have I2 := Lib.hid (rints_any SA (some ⟨u2.heap.size, 0, none⟩) [0, 0] [0, 0] 2 2 sc 2 rfl rfl (by simp [maxLen]) _ (hc.later (Nat.le_refl _) L2) (cells_blk (t := 3) (vs := [.int .i64 0, .int .i64 0]) (Blk.new _ _ _)))
  rw [decide_eq_true rfl] at I2
  have H2' := Lib.hid (chain2 H2.out L2)
  clear hc hb S1 x0 x1 x2 L2
  go_wp2_with fail
  refine I2.out.mono ?_
  rintro e u3 ⟨rfl, hb⟩
  have H3 := Lib.hid (chain2 H2'.out hb)
  obtain ⟨x0, x1, x2⟩ := BX.out _ H3.out
  have S3 := Lib.hid (BA.out _ H3.out)
  clear hb I2
  go_wp2_with fail
  refine S3.out.mono ?_
  rintro e u4 ⟨BB, bc, rfl, ho, hb⟩
  have H4 := Lib.hid (chain2 H3.out hb)
  obtain ⟨-, _, _, e0, -, -, hc⟩ := own_cells ho
  cases e0
  have L4 : Below u4.heap.size u4 (u4.alloc (.cells #[.bool true, .bool true] 4)) := (Below.refl _ _).alloc (Nat.le_refl _) _
  have I4 := Lib.hid (rbools_any BB (some ⟨u4.heap.size, 0, none⟩) [true, true] [true, true] 2 2 bc 2 rfl rfl (by simp [maxLen]) _ (hc.later (Nat.le_refl _) L4) (cells_blk (t := 4) (vs := [.bool true, .bool true]) (Blk.new _ _ _)))
  rw [decide_eq_true rfl] at I4
  have H4' := Lib.hid (chain2 H4.out L4)
  clear hc ho hb S3 x0 x1 x2 L4
  go_wp2_with fail
  refine I4.out.mono ?_
  rintro e u5 ⟨rfl, hb⟩
  have H5 := Lib.hid (chain2 B1.out (chain2 H4'.out hb))
  clear hb I4
  go_wp2_with fail
  go_ret
  exact ⟨rfl, H5.out⟩
end Go.Proofs.Ytajckihgfelbaaa.Rch
/- The laws: an instance of choices, behind a block; what reach tells of it. -/
namespace Go.Proofs.Ytajckihgfelbaaa.Rch
open Go.RowKit Go.Proofs.Ytajckihgfelbaaa.Inst Go.Proofs.Ytajckihgfelbaaa.Adj
set_option maxRecDepth 100000

theorem fit_in {I : InstD} (h : InD I) {a : Nat} (ha : a < I.arcs.length) : fitD I (a : Int) = true := by
  unfold fitD
  simp only [Int.toNat_natCast]
  have e : arcAt I.arcs a = I.arcs[a] := by unfold arcAt; rw [List.getD_eq_getElem?_getD, List.getElem?_eq_getElem ha]; rfl
  have := h _ (List.getElem_mem ha)
  rw [← e] at this
  exact decide_eq_true ⟨by omega, by omega, this.1, this.2.1, this.2.2.1, this.2.2.2⟩
/-- An instance as a law holds it: behind block p. -/
structure IVar (u : World) (p : Nat) (A A2 : Option Addr) (c d n m : Nat) (I : InstD) : Prop where
  box : Blk u p 25 #[.slice A n c, .slice A2 m d]
  is : Here u A A2 n m I
theorem IVar.later {u v : World} {p : Nat} {A A2 : Option Addr} {c d n m : Nat} {I : InstD} (h : IVar u p A A2 c d n m I) (hb : Below u.heap.size u v) : IVar v p A A2 c d n m I := ⟨h.box.below hb h.box.lt, h.is.later hb⟩
theorem IVar.cells {u : World} {p : Nat} {A A2 : Option Addr} {c d n m : Nat} {I : InstD} (h : IVar u p A A2 c d n m I) : u.cell? ⟨p, 0, none⟩ = some (.slice A n c) ∧ u.cell? ⟨p, 1, none⟩ = some (.slice A2 m d) ∧ p < u.heap.size := ⟨(h.box.cell 0).trans rfl, (h.box.cell 1).trans rfl, h.box.lt⟩
theorem IVar.new {u : World} {p : Nat} {A A2 : Option Addr} {c d n m : Nat} {I : InstD} (h : Here u A A2 n m I) (hp : p = u.heap.size) : IVar (u.alloc (.cells #[.slice A n c, .slice A2 m d] 25)) p A A2 c d n m I := by
  subst hp
  exact ⟨Blk.new _ _ _, h.later ((Below.refl _ _).alloc (Nat.le_refl _) _)⟩
theorem instC_arcs (xs ys : List Nat) : (instC xs ys).arcs.length ≤ 18 := by
  show (arcsC _ _).length ≤ 18
  rw [arcsC_length]
  omega
theorem inst_here {n m : Nat} {I : InstD} (s : Option Addr) (l c : Nat) (xs : List Nat) (hl : xs.length = l) (h9 : l ≤ 140737488355328) (hx : Octs xs) (s' : Option Addr) (l' c' : Nat) (ys : List Nat) (hl' : ys.length = l') (h9' : l' ≤ 140737488355328) (hy : Octs ys) (hI : I = instC xs ys) (hn : nodesC ys = n) (hm : I.arcs.length = m) (w : World) (hs : Cells w w.heap.size s (octV xs)) (hs' : Cells w w.heap.size s' (octV ys)) :
    Calls Try.prog 10 #[.slice s l c, .slice s' l' c'] w fun e w1 => ∃ sA A ca, e = .returned (.agg #[.slice (some ⟨sA, 0, none⟩) n n, .slice A m ca]) ∧ Made w w1 sA (.slice A m ca) I.sup I.arcs ∧ Here w1 (some ⟨sA, 0, none⟩) A n m I ∧ Below w.heap.size w w1 := by
  subst hl hl' hI hn
  refine (inst_any s s' c c' xs ys hx hy (by omega) (by omega) w hs hs').mono ?_
  rintro e w1 ⟨sA, aV, rfl, hM⟩
  obtain ⟨-, A, ca, ea, -, -, -⟩ := own_cells hM.arcs
  subst ea
  have i0 := instC_sup xs ys
  have i1 := instC_arcs xs ys
  have i2 := nodesC_bd ys
  rw [hm] at hM ⊢
  exact ⟨sA, A, ca, rfl, hM, Made.here hM i0 hm (by omega) (by omega), hM.below⟩
theorem inst_few (xs ys : List Nat) : (instC xs ys).sup.length = nodesC ys ∧ nodesC ys ≤ 7 ∧ 1 ≤ nodesC ys ∧ (instC xs ys).arcs.length ≤ 18 := by
  refine ⟨instC_sup xs ys, (nodesC_bd ys).2, (nodesC_bd ys).1, instC_arcs xs ys⟩
/-- One node, as a list. -/
theorem one_cells (u : World) (k : Nat) : Cells (u.alloc (.cells #[.int .i64 (k : Int)] 3)) (u.alloc (.cells #[.int .i64 (k : Int)] 3)).heap.size (some ⟨u.heap.size, 0, none⟩) (numV [(k : Int)]) := cells_blk (t := 3) (vs := [.int .i64 (k : Int)]) (Blk.new _ _ _)
/-- Marks, for reading. -/
theorem met_at {w : World} {A : Option Addr} {N : Nat} {R : Nat → Nat → Prop} {some : List Int} (h : Cells w w.heap.size A (boolV (metL N R some))) (h0 : 0 < N) :
    ∃ b off, A = Option.some ⟨b, off, none⟩ ∧ b < w.heap.size ∧ ∀ k, k < N → w.cell? ⟨b, off + k, none⟩ = Option.some (.bool (yes (Hit N R some k))) := by
  obtain ⟨b, off, e, hb, hc⟩ := bools_at h (by rw [metL_length]; exact h0)
  refine ⟨b, off, e, hb, fun k hk => ?_⟩
  rw [hc k (by rw [metL_length]; exact hk), metL_at]
theorem marks_cells {l : List Bool} {w w' : World} {e : Ending} {n : Nat} (hn : l.length = n) (h : TellsMarks l w e w') : ∃ A cap, e = .returned (.slice A n cap) ∧ Cells w' w'.heap.size A (boolV l) ∧ Below w.heap.size w w' := by
  obtain ⟨A, cap, rfl, ho, hb⟩ := h
  obtain ⟨-, _, _, e0, -, -, hc⟩ := own_cells ho
  cases e0
  exact ⟨A, cap, by rw [hn], hc, hb⟩
theorem hit_one {N : Nat} {R : Nat → Nat → Prop} {a n : Nat} (ha : a < N) : Hit N R [(a : Int)] n ↔ Way R a n := by
  constructor
  · rintro ⟨b, h1, h2, h3⟩
    have h1 : b = a := by simp at h1; omega
    subst h1
    exact h3
  · intro h
    exact ⟨a, by simp, ha, h⟩
theorem fro_way {I : InstD} {a b : Nat} : Way (Fro I) a b ↔ Way (ArcTo I) b a := way_back
end Go.Proofs.Ytajckihgfelbaaa.Rch
