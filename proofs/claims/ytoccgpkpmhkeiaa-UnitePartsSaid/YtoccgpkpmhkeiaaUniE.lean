/- Contracts of the document's answers for layer 5: join. -/
import Derived.Test.YtoccgpkpmhkeiaaUniD
namespace Go.Proofs.Ytoccgpkpmhkeiaa.Uni
open Go.RowKit Go.Proofs.Ytoccgpkpmhkeiaa.Inst

abbrev tS : TypeId := 40
/-- What Join tells. -/
def TellsJoin (lo : Nat) (L : List Nat) (r : Bool) (w : World) (e : Ending) (w' : World) : Prop :=
  ∃ A cap, e = .returned (.tuple #[setV A L.length cap, .bool r]) ∧ Past w' lo A (natV L) ∧ Below w.heap.size w w'
/-- At the head of Join's loop. -/
def JoinRel (w : World) (p q r : Nat) (A : Option Addr) (n c : Nat) (M : List Nat) (s11 : Value) (u : World) : Prop :=
  ∃ (k : Nat) (v : Value), s11 = .int .i64 (k : Int) ∧ k ≤ n ∧ Blk u p tS #[.slice A n c] ∧ Blk u q tS #[.slice none 0 0] ∧ Blk u r tS #[v] ∧ u.ownsRow (r + 1) 3 1 v k (natV (M.take k)) ∧ Below w.heap.size w u

theorem results_row_tmp {P : Program} {fn : Func} {p u : Tmp} {ty : TypeId} (h : fn.results = #[.cell p ty, .tmp u]) (tmps : Array Value) (w : World) (g : Nat) (t : TypeId) (cs : Array Value) (fr : Nat × Nat) (d : TypeDesc)
    (hp : tmps.getD p undef = .pointer (some ⟨g, 0, none⟩)) (hg : w.heap[g]? = some (.cells cs t fr))
    (hu : P.underlying ty = some d) (hd : (match d with | .struct _ | .array _ _ => true | _ => false) = true) (hi : (P.info? ty).map (·.size) = some cs.size) :
    (results fn tmps).run P w = .ok (.tuple #[.agg cs, tmps.getD u undef]) w := by
  have hp' : tmps[p]?.getD undef = .pointer (some ⟨g, 0, none⟩) := by simpa using hp
  simp [results, h, hp', asAddr, run_loadVar_row w g t ty cs fr d hg hu hd hi]
theorem merge_take (L : List Nat) (x y k : Nat) (h : k < L.length) : natV ((mergeL L x y).take (k + 1)) = natV ((mergeL L x y).take k) ++ [.int .i64 (((if L.getD k 0 = x ∨ L.getD k 0 = y then min x y else L.getD k 0 : Nat)) : Int)] := by
  have hk : k < (mergeL L x y).length := by rw [merge_length]; exact h
  rw [← merge_get L x y k h, List.take_succ_eq_append_getElem hk, natV_snoc]
  congr 4
  rw [List.getD_eq_getElem?_getD, List.getElem?_eq_getElem hk]
  rfl

set_option maxRecDepth 100000 in
set_option maxHeartbeats 8000000 in
theorem rjoin_any (A : Option Addr) (c n lo : Nat) (L : List Nat) (hn : L.length = n) (h9 : n ≤ 1000) (a b : Int) (w : World) (hlo : lo ≤ w.heap.size) (h : Past w lo A (natV L)) :
    Calls Try.prog 19 #[setV A n c, .int .i64 a, .int .i64 b] w (TellsJoin lo (joinL L a b) (joinB L a b) w) := by
  obtain ⟨i0, hi0, hz0, hz1, hz2⟩ := info_parts info_int
  have G0 := Lib.hid hi0
  have G1 := Lib.hid hz0
  have G2 := Lib.hid hz1
  have G3 := Lib.hid hz2
  clear hi0 hz0 hz1 hz2
  obtain ⟨x, hx⟩ : ∃ x, leastL L a = x := ⟨_, rfl⟩
  obtain ⟨y, hy⟩ : ∃ y, leastL L b = y := ⟨_, rfl⟩
  obtain ⟨p, hp⟩ : ∃ p, p = w.heap.size := ⟨_, rfl⟩
  obtain ⟨q, hq⟩ : ∃ q, q = w.heap.size + 1 := ⟨_, rfl⟩
  obtain ⟨W1, hW1⟩ : ∃ W1, W1 = (w.alloc (.cells #[.slice A n c] tS)).alloc (.cells #[.slice none 0 0] tS) := ⟨_, rfl⟩
  have B1 := Lib.hid (show Below w.heap.size w W1 by rw [hW1]; exact ((Below.refl _ _).alloc (Nat.le_refl _) _).alloc (by simp) _)
  have BP := Lib.hid (show Blk W1 p tS #[.slice A n c] by rw [hW1]; exact (blk_at hp.symm _ _).alloc _)
  have BQ := Lib.hid (show Blk W1 q tS #[.slice none 0 0] by rw [hW1, hq]; exact blk_at (by simp) _ _)
  have HC := Lib.hid h
  have KA := Lib.hid (fun w' (z : Below w.heap.size w w') => rleast_any A c n L hn a x hx w' (HC.out.cells.later (Nat.le_refl _) z) (by omega))
  have KB := Lib.hid (fun w' (z : Below w.heap.size w w') => rleast_any A c n L hn b y hy w' (HC.out.cells.later (Nat.le_refl _) z) (by omega))
  have EB : joinB L a b = decide (0 ≤ x ∧ 0 ≤ y ∧ x ≠ y) := by unfold joinB; rw [hx, hy]
  have EL : joinL L a b = if joinB L a b = true then mergeL L x.toNat y.toNat else L := by unfold joinL; rw [hx, hy]
  have HW := Lib.hid hW1
  have HP := Lib.hid hp
  have HQ := Lib.hid hq
  have HL := Lib.hid hlo
  have HN := Lib.hid hn
  have x0 := BP.out.cell 0
  have x2 := BP.out.lt
  simp at x0
  clear hW1 hp hq h hx hy hlo hn
  by_cases cj : 0 ≤ x ∧ 0 ≤ y ∧ x ≠ y
  · have EB1 := Lib.hid (show joinB L a b = true by rw [EB]; exact decide_eq_true cj)
    obtain ⟨X, rfl⟩ : ∃ X : Nat, x = X := ⟨x.toNat, by omega⟩
    obtain ⟨Y, rfl⟩ : ∃ Y : Nat, y = Y := ⟨y.toNat, by omega⟩
    have EL1 := Lib.hid (show joinL L a b = mergeL L X Y by rw [EL, EB1.out]; simp)
    have HNE := Lib.hid (show X ≠ Y by omega)
    have d1 : ¬ ((X : Int) < 0) := by omega
    have d2 : ¬ ((Y : Int) < 0) := by omega
    have d3 : ((X : Int) == (Y : Int)) = false := by simp; omega
    clear cj EB EL
    go_enter Try.func19, Try.ntmps19
    go_upto_region 1 with fail
    rw [← HW.out, ← HQ.out, ← HP.out]
    go_upto_region 3 with (first
      | (go_at_call 24; (with_reducible refine (KA.out _ B1.out).mono ?_); rintro e w2 ⟨rfl, hb⟩; have B2 := Lib.hid (chain2 B1.out hb); have BP2 := Lib.hid (BP.out.below hb BP.out.lt); have BQ2 := Lib.hid (BQ.out.below hb BQ.out.lt); have y0 := BP2.out.cell 0; have y2 := BP2.out.lt; simp at y0; clear hb)
      | (go_at_call 24; (with_reducible refine (KB.out _ B2.out).mono ?_); rintro e w3 ⟨rfl, hb⟩; have B3 := Lib.hid (chain2 B2.out hb); have BP3 := Lib.hid (BP2.out.below hb BP2.out.lt); have BQ3 := Lib.hid (BQ2.out.below hb BQ2.out.lt); have z0 := BP3.out.cell 0; have z2 := BP3.out.lt; simp at z0; clear hb))
    obtain ⟨r, hr⟩ : ∃ r, r = w3.heap.size := ⟨_, rfl⟩
    have HR := Lib.hid hr
    clear hr x0 x2 y0 y2 z0 z2
    go_upto_region 7 with fail
    rw [← HR.out]
    go_loopw [11, 12] (fun s11 _ u => JoinRel w p q r A n c (mergeL L X Y) s11 u) (fun s11 _ _ => n - (intOf s11).toNat)
    case atStart =>
      have hr := HR.out
      refine ⟨0, .slice none 0 0, rfl, by omega, BP3.out.alloc _, BQ3.out.alloc _, blk_at hr.symm _ _, ⟨rfl, .inl ⟨rfl, rfl⟩⟩, B3.out.alloc B3.out.size _⟩
    case round =>
      obtain ⟨k, v, rfl, hk, hbp, hbq, hbr, ho, hB⟩ := hrel
      have HO := Lib.hid ho
      have HB := Lib.hid hB
      have BP := Lib.hid hbp
      have BQ := Lib.hid hbq
      have BR := Lib.hid hbr
      obtain ⟨V, cap, rfl, -⟩ := past_own ho
      have ge := own_ge ho
      have x0 := hbp.cell 0
      have x2 := hbp.lt
      have q0 := hbq.cell 0
      have q1 := hbq.frozen 0
      have q2 := hbq.lt
      have r0 := hbr.cell 0
      have r1 := hbr.frozen 0
      have r2 := hbr.lt
      simp at x0 q0 r0
      have pr := Lib.hid (show p < r ∧ q < r by have := HR.out; have := BP3.out.lt; have := BQ3.out.lt; omega)
      have wp_ := Lib.hid (show w.heap.size ≤ p ∧ w.heap.size ≤ q by have := HP.out; have := HQ.out; omega)
      clear hbp hbq hbr ho hB
      by_cases hlt : k < n
      · have HC2 := HC.out.later HB.out
        obtain ⟨bl, ol, ea, lb1, lb2, hc⟩ := past_at HC2 (by have := HN.out; omega)
        have c1 := hc k (by have := HN.out; omega)
        have e : L.getD k 0 = L[k]'(by have := HN.out; omega) := by rw [List.getD_eq_getElem?_getD, List.getElem?_eq_getElem (by have := HN.out; omega)]; rfl
        rw [← e] at c1
        have MT := Lib.hid (merge_take L X Y k (by have := HN.out; omega))
        generalize L.getD k 0 = Z at c1 MT
        have EA := Lib.hid ea
        subst ea
        clear HC2 hc e lb1
        have i0' : (0 : Int) ≤ (k : Int) := by omega
        have i1' : (k : Int) < (n : Int) := by omega
        have KEEP := Lib.hid (show ∀ (t : Value) (u1 : World), (wr.alloc (.cells #[t] 3)).grownBy u1 (Value.slice V k cap).ownBlock → Blk u1 p tS #[.slice (some ⟨bl, ol, none⟩) n c] ∧ Blk u1 q tS #[.slice none 0 0] ∧ Blk u1 r tS #[.slice V k cap] ∧ Below w.heap.size w u1 from by
          intro t u1 hg
          refine ⟨(hg.block _ (by simp; omega) (fun e => by have := ge p e.symm; have := pr.out; omega)).trans (BP.out.alloc _), (hg.block _ (by simp; omega) (fun e => by have := ge q e.symm; have := pr.out; omega)).trans (BQ.out.alloc _), (hg.block _ (by simp; omega) (fun e => by have := ge r e.symm; omega)).trans (BR.out.alloc _), ?_⟩
          exact (HB.out.alloc HB.out.size _).grown hg (by simp; have := HB.out.size; omega) (fun g hg => by have := ge g hg; have := pr.out; have := wp_.out; omega))
        have FIN := Lib.hid (show ∀ (A1 : Option Addr) (cap1 : Nat) (u1 : World) (zz : Int), zz = ((if Z = X ∨ Z = Y then min X Y else Z : Nat) : Int) → Blk u1 p tS #[.slice (some ⟨bl, ol, none⟩) n c] → Blk u1 q tS #[.slice none 0 0] → Blk u1 r tS #[.slice V k cap] →
            u1.ownsRow (r + 1) 3 1 (.slice A1 (k + 1) cap1) (k + 1) (natV ((mergeL L X Y).take k) ++ [.int .i64 zz]) → Below w.heap.size w u1 → JoinRel w p q r (some ⟨bl, ol, none⟩) n c (mergeL L X Y) (.int .i64 ((k : Int) + 1)) (u1.setCell ⟨r, 0, none⟩ (.slice A1 (k + 1) cap1)) from by
          intro A1 cap1 u1 zz hz hp hq hr ho hB
          rw [hz, ← MT.out] at ho
          have hf : (Value.slice A1 (k + 1) cap1).ownBlock ≠ some r := fun e => by have := own_ge ho r e; omega
          exact ⟨k + 1, _, by simp, by omega, hp.far (Nat.ne_of_lt pr.out.1) _, hq.far (Nat.ne_of_lt pr.out.2) _, hr.set_ 0 _, own_far ho hf _, hB.setCell (by show _ ≤ r; have := wp_.out; have := pr.out; omega) _⟩)
        by_cases e1 : Z = X
        · have t1 : ((Z : Int) == (X : Int)) = true := by simp [e1]
          have E1 := Lib.hid e1
          clear e1
          by_cases XY : (X : Int) < (Y : Int)
          · have XY2 : ¬ (Y : Int) < (X : Int) := by omega
            have XY3 : (X : Int) ≤ (Y : Int) := by omega
            go_wp2_with (
              at_builtin
              refine wpList_append_own _ rfl _ _ 25 rfl (r + 1) 3 i0 _ 1 8 Try.underlying25 G0.out G1.out G2.out G3.out rfl (by decide) (.slice V k cap) k _ rfl (HO.out.alloc _) ⟨wr.heap.size, 0, none⟩ 1 1 [.int .i64 (X : Int)] rfl rfl ?c1 ?c2 ?c3 ?c4 ?c5 ?_
              case c1 => exact cell_one_new _ _ _
              case c2 => simp [Value.oneCell']
              case c3 => simp only [maxLen]; omega
              case c4 => omega
              case c5 => simp; omega
              intro v1 u1 hown1 hgrow1 _
              obtain ⟨-, A1, cap1, ev, -, -, -⟩ := own_cells hown1
              subst ev
              have OW := Lib.hid hown1
              obtain ⟨hp1, hq1, hr1, hb1⟩ := KEEP.out _ _ hgrow1
              have v1 := hr1.frozen 0
              have v0 := hr1.cell 0
              have v2 := hr1.lt
              simp at v0
              have BP1 := Lib.hid hp1
              have BQ1 := Lib.hid hq1
              have BR1 := Lib.hid hr1
              have BB1 := Lib.hid hb1
              clear hown1 hgrow1 hp1 hq1 hr1 hb1)
            exact ⟨FIN.out _ _ _ _ (by rw [if_pos (Or.inl E1.out), Nat.min_eq_left (by omega)]) BP1.out BQ1.out BR1.out OW.out BB1.out, by simp [intOf]; omega⟩
          · have XY2 : (Y : Int) < (X : Int) := by have := HNE.out; omega
            have XY3 : (Y : Int) ≤ (X : Int) := by omega
            have XY4 : ¬ (X : Int) ≤ (Y : Int) := by omega
            go_wp2_with (
              at_builtin
              refine wpList_append_own _ rfl _ _ 25 rfl (r + 1) 3 i0 _ 1 8 Try.underlying25 G0.out G1.out G2.out G3.out rfl (by decide) (.slice V k cap) k _ rfl (HO.out.alloc _) ⟨wr.heap.size, 0, none⟩ 1 1 [.int .i64 (Y : Int)] rfl rfl ?c1 ?c2 ?c3 ?c4 ?c5 ?_
              case c1 => exact cell_one_new _ _ _
              case c2 => simp [Value.oneCell']
              case c3 => simp only [maxLen]; omega
              case c4 => omega
              case c5 => simp; omega
              intro v1 u1 hown1 hgrow1 _
              obtain ⟨-, A1, cap1, ev, -, -, -⟩ := own_cells hown1
              subst ev
              have OW := Lib.hid hown1
              obtain ⟨hp1, hq1, hr1, hb1⟩ := KEEP.out _ _ hgrow1
              have v1 := hr1.frozen 0
              have v0 := hr1.cell 0
              have v2 := hr1.lt
              simp at v0
              have BP1 := Lib.hid hp1
              have BQ1 := Lib.hid hq1
              have BR1 := Lib.hid hr1
              have BB1 := Lib.hid hb1
              clear hown1 hgrow1 hp1 hq1 hr1 hb1)
            exact ⟨FIN.out _ _ _ _ (by rw [if_pos (Or.inl E1.out), Nat.min_eq_right (by omega)]) BP1.out BQ1.out BR1.out OW.out BB1.out, by simp [intOf]; omega⟩
        · have t1 : ((Z : Int) == (X : Int)) = false := by simp; omega
          have E1 := Lib.hid e1
          clear e1
          by_cases e2 : Z = Y
          · have t2 : ((Z : Int) == (Y : Int)) = true := by simp [e2]
            have E2 := Lib.hid e2
            clear e2
            by_cases XY : (X : Int) < (Y : Int)
            · have XY2 : ¬ (Y : Int) < (X : Int) := by omega
              have XY3 : (X : Int) ≤ (Y : Int) := by omega
              go_wp2_with (
                at_builtin
                refine wpList_append_own _ rfl _ _ 25 rfl (r + 1) 3 i0 _ 1 8 Try.underlying25 G0.out G1.out G2.out G3.out rfl (by decide) (.slice V k cap) k _ rfl (HO.out.alloc _) ⟨wr.heap.size, 0, none⟩ 1 1 [.int .i64 (X : Int)] rfl rfl ?c1 ?c2 ?c3 ?c4 ?c5 ?_
                case c1 => exact cell_one_new _ _ _
                case c2 => simp [Value.oneCell']
                case c3 => simp only [maxLen]; omega
                case c4 => omega
                case c5 => simp; omega
                intro v1 u1 hown1 hgrow1 _
                obtain ⟨-, A1, cap1, ev, -, -, -⟩ := own_cells hown1
                subst ev
                have OW := Lib.hid hown1
                obtain ⟨hp1, hq1, hr1, hb1⟩ := KEEP.out _ _ hgrow1
                have v1 := hr1.frozen 0
                have v0 := hr1.cell 0
                have v2 := hr1.lt
                simp at v0
                have BP1 := Lib.hid hp1
                have BQ1 := Lib.hid hq1
                have BR1 := Lib.hid hr1
                have BB1 := Lib.hid hb1
                clear hown1 hgrow1 hp1 hq1 hr1 hb1)
              exact ⟨FIN.out _ _ _ _ (by rw [if_pos (Or.inr E2.out), Nat.min_eq_left (by omega)]) BP1.out BQ1.out BR1.out OW.out BB1.out, by simp [intOf]; omega⟩
            · have XY2 : (Y : Int) < (X : Int) := by have := HNE.out; omega
              have XY3 : (Y : Int) ≤ (X : Int) := by omega
              have XY4 : ¬ (X : Int) ≤ (Y : Int) := by omega
              go_wp2_with (
                at_builtin
                refine wpList_append_own _ rfl _ _ 25 rfl (r + 1) 3 i0 _ 1 8 Try.underlying25 G0.out G1.out G2.out G3.out rfl (by decide) (.slice V k cap) k _ rfl (HO.out.alloc _) ⟨wr.heap.size, 0, none⟩ 1 1 [.int .i64 (Y : Int)] rfl rfl ?c1 ?c2 ?c3 ?c4 ?c5 ?_
                case c1 => exact cell_one_new _ _ _
                case c2 => simp [Value.oneCell']
                case c3 => simp only [maxLen]; omega
                case c4 => omega
                case c5 => simp; omega
                intro v1 u1 hown1 hgrow1 _
                obtain ⟨-, A1, cap1, ev, -, -, -⟩ := own_cells hown1
                subst ev
                have OW := Lib.hid hown1
                obtain ⟨hp1, hq1, hr1, hb1⟩ := KEEP.out _ _ hgrow1
                have v1 := hr1.frozen 0
                have v0 := hr1.cell 0
                have v2 := hr1.lt
                simp at v0
                have BP1 := Lib.hid hp1
                have BQ1 := Lib.hid hq1
                have BR1 := Lib.hid hr1
                have BB1 := Lib.hid hb1
                clear hown1 hgrow1 hp1 hq1 hr1 hb1)
              exact ⟨FIN.out _ _ _ _ (by rw [if_pos (Or.inr E2.out), Nat.min_eq_right (by omega)]) BP1.out BQ1.out BR1.out OW.out BB1.out, by simp [intOf]; omega⟩
          · have t2 : ((Z : Int) == (Y : Int)) = false := by simp; omega
            have E2 := Lib.hid e2
            clear e2
            go_wp2_with (
              at_builtin
              refine wpList_append_own _ rfl _ _ 25 rfl (r + 1) 3 i0 _ 1 8 Try.underlying25 G0.out G1.out G2.out G3.out rfl (by decide) (.slice V k cap) k _ rfl (HO.out.alloc _) ⟨wr.heap.size, 0, none⟩ 1 1 [.int .i64 (Z : Int)] rfl rfl ?c1 ?c2 ?c3 ?c4 ?c5 ?_
              case c1 => exact cell_one_new _ _ _
              case c2 => simp [Value.oneCell']
              case c3 => simp only [maxLen]; omega
              case c4 => omega
              case c5 => simp; omega
              intro v1 u1 hown1 hgrow1 _
              obtain ⟨-, A1, cap1, ev, -, -, -⟩ := own_cells hown1
              subst ev
              have OW := Lib.hid hown1
              obtain ⟨hp1, hq1, hr1, hb1⟩ := KEEP.out _ _ hgrow1
              have v1 := hr1.frozen 0
              have v0 := hr1.cell 0
              have v2 := hr1.lt
              simp at v0
              have BP1 := Lib.hid hp1
              have BQ1 := Lib.hid hq1
              have BR1 := Lib.hid hr1
              have BB1 := Lib.hid hb1
              clear hown1 hgrow1 hp1 hq1 hr1 hb1)
            exact ⟨FIN.out _ _ _ _ (by rw [if_neg (fun q => q.elim E1.out E2.out)]) BP1.out BQ1.out BR1.out OW.out BB1.out, by simp [intOf]; omega⟩
      · have kn := Lib.hid (show k = n by omega)
        go_wp2_with fail
        have E : (mergeL L X Y).take k = mergeL L X Y := by rw [kn.out, ← HN.out, ← merge_length L X Y, List.take_length]
        have HO2 := HO.out
        rw [E] at HO2
        have hf : (Value.slice V k cap).ownBlock ≠ some q := fun e => by have := ge q e; have := pr.out; omega
        obtain ⟨A', cap', ev, hpast⟩ := past_own (own_far (p := ⟨q, 0, none⟩) HO2 hf (.slice V k cap))
        cases ev
        refine bodyPost_ret (v := .tuple #[setV V k cap, .bool true]) ?_ rfl ?_
        · exact (results_row_tmp (p := 6) (u := 7) (ty := tS) rfl _ _ q tS #[.slice V k cap] (0, 0) _ (by rfl) (BQ.out.set_ 0 _) Try.underlying40 rfl size_sets).trans rfl
        · rw [EL1.out, EB1.out]
          refine ⟨V, cap, by rw [merge_length, HN.out, kn.out], Past.from (p := r + 1) hpast (by have := HL.out; have := pr.out; have := wp_.out; omega), HB.out.setCell (by show _ ≤ q; have := wp_.out; omega) _⟩
  · have EB1 := Lib.hid (show joinB L a b = false by rw [EB]; exact decide_eq_false cj)
    have EL1 := Lib.hid (show joinL L a b = L by rw [EL, EB1.out]; simp)
    clear EB EL
    go_enter Try.func19, Try.ntmps19
    go_upto_region 1 with fail
    rw [← HW.out, ← HQ.out, ← HP.out]
    go_upto_region 3 with (first
      | (go_at_call 24; (with_reducible refine (KA.out _ B1.out).mono ?_); rintro e w2 ⟨rfl, hb⟩; have B2 := Lib.hid (chain2 B1.out hb); have BP2 := Lib.hid (BP.out.below hb BP.out.lt); have BQ2 := Lib.hid (BQ.out.below hb BQ.out.lt); have y0 := BP2.out.cell 0; have y2 := BP2.out.lt; simp at y0; clear hb)
      | (go_at_call 24; (with_reducible refine (KB.out _ B2.out).mono ?_); rintro e w3 ⟨rfl, hb⟩; have B3 := Lib.hid (chain2 B2.out hb); have BP3 := Lib.hid (BP2.out.below hb BP2.out.lt); have BQ3 := Lib.hid (BQ2.out.below hb BQ2.out.lt); have z0 := BP3.out.cell 0; have z2 := BP3.out.lt; have z3 := BQ3.out.cell 0; have z4 := BQ3.out.frozen 0; have z5 := BQ3.out.lt; simp at z0 z3; clear hb))
    have fin : ∀ e, e = .returned (.tuple #[setV A n c, .bool false]) → TellsJoin lo (joinL L a b) (joinB L a b) w e (w3.setCell ⟨q, 0, none⟩ (.slice A n c)) := by
      rintro e rfl
      rw [EB1.out, EL1.out]
      have hB : Below w.heap.size w (w3.setCell ⟨q, 0, none⟩ (.slice A n c)) := B3.out.setCell (by show _ ≤ q; have := HQ.out; omega) _
      exact ⟨A, c, by rw [HN.out], HC.out.later hB, hB⟩
    have FIN := Lib.hid fin
    clear fin
    by_cases c1 : x < 0
    · go_wp2_with fail
      refine bodyPost_ret (v := .tuple #[setV A n c, .bool false]) ?_ rfl (FIN.out _ rfl)
      exact (results_row_tmp (p := 6) (u := 7) (ty := tS) rfl _ _ q tS #[.slice A n c] (0, 0) _ (by rfl) (BQ3.out.set_ 0 _) Try.underlying40 rfl size_sets).trans rfl
    · by_cases c2 : y < 0
      · go_wp2_with fail
        refine bodyPost_ret (v := .tuple #[setV A n c, .bool false]) ?_ rfl (FIN.out _ rfl)
        exact (results_row_tmp (p := 6) (u := 7) (ty := tS) rfl _ _ q tS #[.slice A n c] (0, 0) _ (by rfl) (BQ3.out.set_ 0 _) Try.underlying40 rfl size_sets).trans rfl
      · have c3 : (x == y) = true := by simp; omega
        have c4 : x = y := by omega
        go_wp2_with fail
        refine bodyPost_ret (v := .tuple #[setV A n c, .bool false]) ?_ rfl (FIN.out _ rfl)
        exact (results_row_tmp (p := 6) (u := 7) (ty := tS) rfl _ _ q tS #[.slice A n c] (0, 0) _ (by rfl) (BQ3.out.set_ 0 _) Try.underlying40 rfl size_sets).trans rfl
end Go.Proofs.Ytoccgpkpmhkeiaa.Uni
