/- The document's answers for layer 6: Back. -/
import Derived.Test.YtajckihgfelbaaaRchAb
import Derived.Deep.RegionHeld3
import Derived.Deep.AppendLies
namespace Go.Proofs.Ytajckihgfelbaaa.Rch
open Go.RowKit Go.Proofs.Ytajckihgfelbaaa.Inst Go.Proofs.Ytajckihgfelbaaa.Adj
set_option maxRecDepth 100000

/-- At the head of Back's loop. -/
def RBackRel (W2 : World) (I : InstD) (s3 s4 : Value) (u : World) : Prop :=
  ∃ k : Nat, k ≤ I.arcs.length ∧ s4 = .int .i64 (k : Int) ∧ u.ownsRow W2.heap.size 4 1 s3 k (boolV ((backL I).take k)) ∧ Below W2.heap.size W2 u
theorem boolV_snoc (l : List Bool) (x : Bool) : boolV (l ++ [x]) = boolV l ++ [.bool x] := by simp [boolV]
/-- What the last region reads. -/
abbrev SB (u0 : World) (p g : Nat) (a b c d : Value) (u : World) : Prop := u.cell? ⟨p, 0, none⟩ = some a ∧ u.cell? ⟨p, 1, none⟩ = some b ∧ u.cell? ⟨g, 0, none⟩ = some c ∧ u.cell? ⟨g, 1, none⟩ = some d ∧ Below u0.heap.size u0 u
theorem keepB {u0 : World} {p g : Nat} {a b c d : Value} (hp : p < u0.heap.size) (hg : g < u0.heap.size) {u v : World} (h : SB u0 p g a b c d u) (hb : Below u.heap.size u v) : SB u0 p g a b c d v := by
  obtain ⟨h1, h2, h3, h4, h5⟩ := h
  have hz := h5.size
  exact ⟨(hb.cell (p := ⟨p, 0, none⟩) (by show p < _; omega)).trans h1, (hb.cell (p := ⟨p, 1, none⟩) (by show p < _; omega)).trans h2, (hb.cell (p := ⟨g, 0, none⟩) (by show g < _; omega)).trans h3, (hb.cell (p := ⟨g, 1, none⟩) (by show g < _; omega)).trans h4, chain2 h5 hb⟩
/-- An operation that is not wanted. -/
theorem any_skip {P : Program} {md : Region.Mode} {ops : Array Oper} {Q : Exit → Act → World → Prop} (i : Nat) (d : Option Tmp) {oi : Oper} {fuel : Nat} {listed : Array Bool} {a : Act} {w : World} (hi : ops[i]? = some oi) (hd : oi.dst = d)
    (hs : Region.noSelect ops = true) (hf : Region.free md ops listed i = true) (hr : (Region.ready md ops listed).contains i = true)
    (hQ : ∀ c a w, Q (.panic c) (a.put d undef) w → Q (.panic c) a w) (hw : Region.wanted oi (yielded ops a.tmps) = false)
    (h : wpAny P md ops Q fuel (listed.setIfInBounds i true) (a.put d undef) w) : wpAny P md ops Q (fuel + 1) listed a w := by
  subst hd
  exact wpAny_take hi hs hf hr hQ (Or.inr ⟨hw, rfl⟩) h
theorem any_run {P : Program} {md : Region.Mode} {ops : Array Oper} {Q : Exit → Act → World → Prop} (i : Nat) (d : Option Tmp) {oi : Oper} {v : Value} {fuel : Nat} {listed : Array Bool} {a : Act} {w : World} (hi : ops[i]? = some oi) (hd : oi.dst = d)
    (hs : Region.noSelect ops = true) (hf : Region.free md ops listed i = true) (hr : (Region.ready md ops listed).contains i = true)
    (hQ : ∀ c a w, Q (.panic c) (a.put d v) w → Q (.panic c) a w) (hw : Region.wanted oi (yielded ops a.tmps) = true) (hy : ∀ w, (execOp a.eval oi).run P w = .ok (.value v) w)
    (h : wpAny P md ops Q fuel (listed.setIfInBounds i true) (a.put d v) w) : wpAny P md ops Q (fuel + 1) listed a w := by
  subst hd
  exact wpAny_take hi hs hf hr hQ (Or.inl ⟨hw, hy⟩) h
theorem sb_below {u0 : World} {p g : Nat} {a b c d : Value} {u : World} (h : SB u0 p g a b c d u) : Below u0.heap.size u0 u := h.2.2.2.2
set_option maxHeartbeats 8000000 in
theorem rback_any (A A2 : Option Addr) (c d n m : Nat) (I : InstD) (w : World) (h : Here w A A2 n m I) (h1 : n ≤ 1000) (h2 : m ≤ 1000) :
    Calls Try.prog 48 #[.agg #[.slice A n c, .slice A2 m d]] w fun e w' => ∃ B cap, e = .returned (.slice B m cap) ∧ Cells w' w'.heap.size B (boolV (backL I)) ∧ Below w.heap.size w w' := by
  obtain ⟨p, hp⟩ : ∃ p, p = w.heap.size := ⟨_, rfl⟩
  obtain ⟨W2, hW2⟩ : ∃ W2, W2 = w.alloc (.cells #[.slice A n c, .slice A2 m d] 25) := ⟨_, rfl⟩
  have V2 := Lib.hid (show IVar W2 p A A2 c d n m I by rw [hW2]; exact IVar.new h hp)
  have B2 := Lib.hid (show Below w.heap.size w W2 by rw [hW2]; exact (Below.refl _ _).alloc (Nat.le_refl _) _)
  have VI := Lib.hid (fun u (hu : Below W2.heap.size W2 u) => V2.out.later hu)
  have HN := Lib.hid h.n
  have HM := Lib.hid h.m
  have BL := Lib.hid (show (backL I).length = m from (backL_length I).trans h.m)
  have HP := Lib.hid hp
  have HW := Lib.hid hW2
  obtain ⟨i0, hi0, hz0, hz1, hz2⟩ := info_parts info_bool
  have G0 := Lib.hid hi0
  have G1 := Lib.hid hz0
  have G2 := Lib.hid hz1
  have G3 := Lib.hid hz2
  clear hi0 hz0 hz1 hz2 h hp hW2
  go_enter Try.func48, Try.ntmps48
  go_wp2_with fail
  rw [← HW.out, ← HP.out]
  go_loopw [3, 4, 5, 6] (fun s3 s4 _ _ u => RBackRel W2 I s3 s4 u) (fun _ s4 _ _ _ => m - (intOf s4).toNat)
  case atStart => exact ⟨0, Nat.zero_le _, rfl, ⟨rfl, .inl ⟨rfl, rfl⟩⟩, Below.refl _ _⟩
  case round =>
    obtain ⟨k, hk, rfl, ho, hb⟩ := hrel
    rw [HM.out] at hk
    have UO := Lib.hid ho
    have UB := Lib.hid hb
    obtain ⟨x0, x1, x2⟩ := (VI.out _ hb).cells
    clear ho hb
    by_cases hlt : k < m
    · have kl : (k : Int) < (m : Int) := by omega
      have AR := Lib.hid (fun x f hx hf => rarc_any A A2 c d n m I (k : Int) x f hx hf wr (VI.out _ UB.out).is)
      have TK : (backL I).take (k + 1) = (backL I).take k ++ [yes (BackP I k)] := by
        rw [List.take_succ_eq_append_getElem (by rw [BL.out]; exact hlt)]
        simp [backL]
      have TK := Lib.hid TK
      cases hf : fitD I (k : Int) with
      | true =>
        obtain ⟨xa, ya, hx, hy, xn, yn, -, -⟩ := fit_nats hf
        have AC := Lib.hid (AR.out _ true rfl hf)
        have ex : arcD I (k : Int) = arcAt I.arcs k := by unfold arcD; rw [if_pos hf]; rfl
        rw [ex] at AC
        have YS := Lib.hid (show yes (BackP I k) = yes (Way (ArcTo I) ya xa) by
          apply yes_same
          unfold BackP
          rw [hx, hy, Int.toNat_natCast, Int.toNat_natCast]
          exact ⟨fun q => q.2, fun q => ⟨hf, q⟩⟩)
        obtain ⟨y, hy'⟩ : ∃ y, y = arcAt I.arcs k := ⟨_, rfl⟩
        rw [← hy'] at AC hx hy
        obtain ⟨y0, z0, y2, y3, y4⟩ := y
        simp only at hx hy
        subst hx hy
        rw [HN.out] at xn yn
        clear hy' hf ex AR
        go_wp2_with fail
        refine AC.out.mono ?_
        rintro e u1 ⟨rfl, hb⟩
        obtain ⟨u2, hu2⟩ : ∃ u2, u2 = u1.alloc (.cells #[.int .i64 (xa : Int), .int .i64 (ya : Int), .int .i64 y2, .int .i64 y3, .int .i64 y4] 36) := ⟨_, rfl⟩
        have BU := Lib.hid (show Below wr.heap.size wr u2 by rw [hu2]; exact hb.alloc hb.size _)
        have AB : Blk u2 u1.heap.size 36 #[.int .i64 (xa : Int), .int .i64 (ya : Int), .int .i64 y2, .int .i64 y3, .int .i64 y4] := by rw [hu2]; exact Blk.new _ _ _
        have a0 := AB.cell 0
        have a1 := AB.cell 1
        have a2 := AB.lt
        simp at a0 a1
        have HU := Lib.hid hu2
        have p0 : (0 : Int) ≤ (xa : Int) := by omega
        have p1 : (xa : Int) < (n : Int) := by omega
        have BW := Lib.hid (chain2 UB.out BU.out)
        clear hu2 hb AB x0 x1 x2
        obtain ⟨x0, x1, x2⟩ := (VI.out _ BW.out).cells
        have FR := Lib.hid (fun u ab cs (hb : Below u2.heap.size u2 u) (hA : Cells u u.heap.size ab (numV [(ya : Int)])) => rfrom_any A A2 ab c d cs n m 1 I [(ya : Int)] u (VI.out _ (chain2 BW.out hb)).is h1 h2 (by intro x hx; simp at hx; subst hx; unfold I64; omega) rfl (by omega) hA)
        obtain ⟨v, hv⟩ : ∃ v, v = yes (Way (ArcTo I) ya xa) := ⟨_, rfl⟩
        have FV := Lib.hid (fun u e u' (q : TellsMarks (fromL I [(ya : Int)]) u e u') => show ∃ fb fo fc, e = .returned (.slice (some ⟨fb, fo, none⟩) n fc) ∧ u'.cell? ⟨fb, fo + xa, none⟩ = some (.bool v) ∧ fb < u'.heap.size ∧ Below u.heap.size u u' by
          have hfl : fromL I [(ya : Int)] = metL n (ArcTo I) [(ya : Int)] := by unfold fromL; rw [HN.out]
          rw [hfl] at q
          obtain ⟨FA, fc, rfl, hcc, hb⟩ := marks_cells (metL_length _ _ _) q
          obtain ⟨fb, fo, eb, lf, hcell⟩ := met_at hcc (by omega)
          subst eb
          refine ⟨fb, fo, fc, rfl, ?_, lf, hb⟩
          rw [hcell xa xn, yes_same (hit_one yn), hv])
        rw [← hv] at YS
        have UO2 := Lib.hid (own_later UO.out BU.out)
        clear hv
        go_upto_region 6 with fail
        rw [← HU.out]
        have bs := BW.out.size
        have FIN := Lib.hid (fun (v : Bool) (y : World) (gg cap : Nat) (x9 : World) (hy : yes (BackP I k) = v) (hyb : Below u2.heap.size u2 y) (ho : x9.ownsRow W2.heap.size 4 1 (.slice (some ⟨gg, 0, none⟩) (k + 1) cap) (k + 1) (boolV ((backL I).take k) ++ [.bool v])) (hg : y.grownBy x9 u3.ownBlock) =>
          show RBackRel W2 I (.slice (some ⟨gg, 0, none⟩) (k + 1) cap) (.int .i64 ((k : Int) + 1)) x9 from
          ⟨k + 1, by rw [HM.out]; omega, by simp, by rw [TK.out, boolV_snoc, hy]; exact ho, (chain2 BW.out hyb).grown hg (by have := BW.out.size; have := hyb.size; omega) (own_ge UO.out)⟩)
        go_region_law (first
          | (refine step_append_lies _ (by rfl) _ _ _ (by rfl) W2.heap.size 4 i0 _ 1 1 Try.underlying68 G0.out G1.out G2.out G3.out rfl (by omega) u3 k _ (by rfl) (OC.out.alloc _) ⟨u5.heap.size, 0, none⟩ 1 1 [.bool v] (by rfl) (by rfl) (cell_one_new _ _ _) (by simp [Value.oneCell']) (by omega) (by simp only [maxLen]; omega) (by omega) (by have := OS.out; simp; omega) (u5.heap.size + 1) (by simp) ?_; intro gg cap x9 hown1 hgrow hat hgl; have HO1 := Lib.hid hown1; have HG1 := Lib.hid hgrow; clear hown1 hgrow hat)
          | (go_simp; go_wp2_with (go_at_call 44; (refine (FR.out _ _ _ ?bb ?cc).mono ?_); (case cc => exact (one_cells _ _).later (Nat.le_refl _) (Below.refl _ _).drew); (case bb => (repeat (first | exact Below.refl _ _ | refine Below.drew ?_ | refine Below.alloc ?_ (by simp <;> omega) _))); rintro e u5 hq; obtain ⟨fb, fo, fc, rfl, cc, fl, hb⟩ := FV.out _ _ _ hq; have B5 := Lib.hid (show Below u2.heap.size u2 u5 from (((Below.refl _ _).alloc (Nat.le_refl _) _).drew).trans (hb.mono (by simp))); have OC := Lib.hid (own_later UO2.out B5.out); have OS := Lib.hid (show W2.heap.size ≤ u5.heap.size by have := B5.out.size; omega); have q0 := (B5.out.cell (p := ⟨u1.heap.size, 0, none⟩) a2).trans a0; have q1 := (B5.out.cell (p := ⟨u1.heap.size, 1, none⟩) a2).trans a1; have q2 : u1.heap.size < u5.heap.size := Nat.lt_of_lt_of_le a2 B5.out.size; clear hq hb)))
        all_goals
          go_wp2_with fail
          exact ⟨FIN.out v _ _ _ _ YS.out (B5.out.alloc B5.out.size _) HO1.out HG1.out, by simp [intOf]; omega⟩
      | false =>
        have AC := Lib.hid (AR.out _ false rfl hf)
        have YS := Lib.hid (show yes (BackP I k) = false from yes_false (fun q => by rw [q.1] at hf; cases hf))
        obtain ⟨y, hy⟩ : ∃ y, y = arcD I (k : Int) := ⟨_, rfl⟩
        rw [← hy] at AC
        obtain ⟨y0, z0, y2, y3, y4⟩ := y
        clear hy hf AR
        go_wp2_with fail
        refine AC.out.mono ?_
        rintro e u1 ⟨rfl, hb⟩
        obtain ⟨u2, hu2⟩ : ∃ u2, u2 = u1.alloc (.cells #[.int .i64 y0, .int .i64 z0, .int .i64 y2, .int .i64 y3, .int .i64 y4] 36) := ⟨_, rfl⟩
        have BU := Lib.hid (show Below wr.heap.size wr u2 by rw [hu2]; exact hb.alloc hb.size _)
        have HU := Lib.hid hu2
        have BW := Lib.hid (chain2 UB.out BU.out)
        have UO2 := Lib.hid (own_later UO.out BU.out)
        have bs := BW.out.size
        clear hu2 hb x0 x1 x2
        have FIN := Lib.hid (fun (v : Bool) (y : World) (gg cap : Nat) (x9 : World) (hy : yes (BackP I k) = v) (hyb : Below u2.heap.size u2 y) (ho : x9.ownsRow W2.heap.size 4 1 (.slice (some ⟨gg, 0, none⟩) (k + 1) cap) (k + 1) (boolV ((backL I).take k) ++ [.bool v])) (hg : y.grownBy x9 u3.ownBlock) =>
          show RBackRel W2 I (.slice (some ⟨gg, 0, none⟩) (k + 1) cap) (.int .i64 ((k : Int) + 1)) x9 from
          ⟨k + 1, by rw [HM.out]; omega, by simp, by rw [TK.out, boolV_snoc, hy]; exact ho, (chain2 BW.out hyb).grown hg (by have := BW.out.size; have := hyb.size; omega) (own_ge UO.out)⟩)
        go_upto_region 6 with fail
        rw [← HU.out]
        refine wp_region_any (by kernel_rfl) ?_
        try (change wpAny _ _ _ _ _ _ _ (World.drew _))
        refine any_run 0 (some 20) (v := _) rfl rfl (by kernel_rfl) (by kernel_rfl) (by kernel_rfl) (fun _ _ _ h => h) (by rfl) (by intro u; go_simp; try with_reducible rfl) ?_
        try simp only [Act.put, List.setIfInBounds_toArray, List.set_cons_zero, List.set_cons_succ]
        refine any_run 1 (some 21) (v := _) rfl rfl (by kernel_rfl) (by kernel_rfl) (by kernel_rfl) (fun _ _ _ h => h) (by rfl) (by intro u; go_simp; try with_reducible rfl) ?_
        try simp only [Act.put, List.setIfInBounds_toArray, List.set_cons_zero, List.set_cons_succ]
        refine any_run 2 (some 22) (v := _) rfl rfl (by kernel_rfl) (by kernel_rfl) (by kernel_rfl) (fun _ _ _ h => h) (by rfl) (by intro u; go_simp; try with_reducible rfl) ?_
        try simp only [Act.put, List.setIfInBounds_toArray, List.set_cons_zero, List.set_cons_succ]
        refine any_skip 3 (some 23) rfl rfl (by kernel_rfl) (by kernel_rfl) (by kernel_rfl) (fun _ _ _ h => h) (by rfl) ?_
        try simp only [Act.put, List.setIfInBounds_toArray, List.set_cons_zero, List.set_cons_succ]
        refine any_skip 4 (some 24) rfl rfl (by kernel_rfl) (by kernel_rfl) (by kernel_rfl) (fun _ _ _ h => h) (by rfl) ?_
        try simp only [Act.put, List.setIfInBounds_toArray, List.set_cons_zero, List.set_cons_succ]
        refine any_skip 5 (some 25) rfl rfl (by kernel_rfl) (by kernel_rfl) (by kernel_rfl) (fun _ _ _ h => h) (by rfl) ?_
        try simp only [Act.put, List.setIfInBounds_toArray, List.set_cons_zero, List.set_cons_succ]
        refine any_skip 6 (some 26) rfl rfl (by kernel_rfl) (by kernel_rfl) (by kernel_rfl) (fun _ _ _ h => h) (by rfl) ?_
        try simp only [Act.put, List.setIfInBounds_toArray, List.set_cons_zero, List.set_cons_succ]
        refine any_skip 7 (some 27) rfl rfl (by kernel_rfl) (by kernel_rfl) (by kernel_rfl) (fun _ _ _ h => h) (by rfl) ?_
        try simp only [Act.put, List.setIfInBounds_toArray, List.set_cons_zero, List.set_cons_succ]
        refine any_skip 8 (some 28) rfl rfl (by kernel_rfl) (by kernel_rfl) (by kernel_rfl) (fun _ _ _ h => h) (by rfl) ?_
        try simp only [Act.put, List.setIfInBounds_toArray, List.set_cons_zero, List.set_cons_succ]
        refine any_skip 9 (some 29) rfl rfl (by kernel_rfl) (by kernel_rfl) (by kernel_rfl) (fun _ _ _ h => h) (by rfl) ?_
        try simp only [Act.put, List.setIfInBounds_toArray, List.set_cons_zero, List.set_cons_succ]
        refine any_skip 10 (some 30) rfl rfl (by kernel_rfl) (by kernel_rfl) (by kernel_rfl) (fun _ _ _ h => h) (by rfl) ?_
        try simp only [Act.put, List.setIfInBounds_toArray, List.set_cons_zero, List.set_cons_succ]
        refine any_skip 11 (some 31) rfl rfl (by kernel_rfl) (by kernel_rfl) (by kernel_rfl) (fun _ _ _ h => h) (by rfl) ?_
        try simp only [Act.put, List.setIfInBounds_toArray, List.set_cons_zero, List.set_cons_succ]
        refine any_run 12 (some 32) (v := _) rfl rfl (by kernel_rfl) (by kernel_rfl) (by kernel_rfl) (fun _ _ _ h => h) (by rfl) (by intro u; go_simp; try with_reducible rfl) ?_
        try simp only [Act.put, List.setIfInBounds_toArray, List.set_cons_zero, List.set_cons_succ]
        refine wpAny_ready (rs := [13]) (by kernel_rfl) (by simp) ?_
        refine AllReady.cons rfl (fun K hK => ?_) AllReady.nil
        go_simp
        refine hK _ _ ?_
        clear hK K
        try simp only [Act.put, List.setIfInBounds_toArray, List.set_cons_zero, List.set_cons_succ]
        refine wpAny_ready (rs := [14]) (by kernel_rfl) (by simp) ?_
        refine AllReady.cons rfl (fun K hK => ?_) AllReady.nil
        refine step_append_lies _ (by rfl) _ _ _ (by rfl) W2.heap.size 4 i0 _ 1 1 Try.underlying68 G0.out G1.out G2.out G3.out rfl (by omega) u3 k _ (by rfl) ((UO2.out.alloc _).drew) ⟨u2.heap.size, 0, none⟩ 1 1 [.bool false] (by rfl) (by rfl) (cell_one_new _ _ _) (by simp [Value.oneCell']) (by omega) (by simp only [maxLen]; omega) (by omega) (by simp; omega) (u2.heap.size + 1) (by simp) ?_
        intro gg cap x1 hown1 hgrow hat hgl
        refine hK _ _ ?_
        clear hK K
        try simp only [Act.put, List.setIfInBounds_toArray, List.set_cons_zero, List.set_cons_succ]
        refine any_run 15 (some 3) (v := _) rfl rfl (by kernel_rfl) (by kernel_rfl) (by kernel_rfl) (fun _ _ _ h => h) (by rfl) (by intro u; go_simp; try with_reducible rfl) ?_
        try simp only [Act.put, List.setIfInBounds_toArray, List.set_cons_zero, List.set_cons_succ]
        refine wpAny_done (by kernel_rfl) ?_ _
        have HO1 := Lib.hid hown1
        have HG1 := Lib.hid hgrow
        clear hown1 hgrow hat
        go_wp2_with fail
        exact ⟨FIN.out false _ _ _ _ YS.out (((Below.refl _ _).alloc (Nat.le_refl _) _).drew) HO1.out HG1.out, by simp [intOf]; omega⟩
    · obtain rfl : k = m := by omega
      have UO2 := UO.out
      rw [List.take_of_length_le (by rw [BL.out]; exact Nat.le_refl _)] at UO2
      obtain ⟨-, RA, rc, ev, -, -, hcs⟩ := own_cells UO2
      subst ev
      have RC := Lib.hid hcs
      clear UO2 hcs
      go_wp2_with fail
      go_ret
      exact ⟨RA, rc, rfl, RC.out, chain2 B2.out UB.out⟩
end Go.Proofs.Ytajckihgfelbaaa.Rch
