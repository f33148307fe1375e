/- The document's answers for layer 6: From, To, Strong. -/
import Derived.Test.YtajckihgfelbaaaRchAa
namespace Go.Proofs.Ytajckihgfelbaaa.Rch
open Go.RowKit Go.Proofs.Ytajckihgfelbaaa.Inst Go.Proofs.Ytajckihgfelbaaa.Adj
set_option maxRecDepth 100000

theorem rfrom_any (A A2 ao : Option Addr) (c d cs n m k : Nat) (I : InstD) (sm : List Int) (w : World) (h : Here w A A2 n m I) (h1 : n ≤ 1000) (h2 : m ≤ 1000) (hs : ∀ x ∈ sm, I64 x) (hk : sm.length = k) (hsl : k ≤ 140737488355328) (hA : Cells w w.heap.size ao (numV sm)) :
    Calls Try.prog 44 #[.agg #[.slice A n c, .slice A2 m d], .slice ao k cs] w (TellsMarks (fromL I sm) w) := by
  obtain ⟨w0, hw0⟩ : ∃ w0, w0 = w.alloc (.cells #[.slice A n c, .slice A2 m d] 25) := ⟨_, rfl⟩
  have B0 := Lib.hid (show Below w.heap.size w w0 by rw [hw0]; exact (Below.refl _ _).alloc (Nat.le_refl _) _)
  have RE := Lib.hid (reach_any A A2 ao c d cs n m k I sm false w0 (h.later B0.out) h1 h2 hs hk hsl (hA.later (Nat.le_refl _) B0.out))
  rw [rel_to] at RE
  have HW := Lib.hid hw0
  clear h hA hw0 hs
  go_enter Try.func44, Try.ntmps44
  go_wp2_with fail
  rw [← HW.out]
  refine RE.out.mono ?_
  rintro e w5 ht
  obtain ⟨RA, cap, rfl, ho, hb⟩ := marks_base ht B0.out
  have HO := Lib.hid ho
  have HB := Lib.hid hb
  clear ho hb ht
  go_wp2_with fail
  go_ret
  exact ⟨RA, cap, rfl, HO.out, HB.out⟩
theorem rto_any (A A2 ao : Option Addr) (c d cs n m k : Nat) (I : InstD) (sm : List Int) (w : World) (h : Here w A A2 n m I) (h1 : n ≤ 1000) (h2 : m ≤ 1000) (hs : ∀ x ∈ sm, I64 x) (hk : sm.length = k) (hsl : k ≤ 140737488355328) (hA : Cells w w.heap.size ao (numV sm)) :
    Calls Try.prog 46 #[.agg #[.slice A n c, .slice A2 m d], .slice ao k cs] w (TellsMarks (toL I sm) w) := by
  obtain ⟨w0, hw0⟩ : ∃ w0, w0 = w.alloc (.cells #[.slice A n c, .slice A2 m d] 25) := ⟨_, rfl⟩
  have B0 := Lib.hid (show Below w.heap.size w w0 by rw [hw0]; exact (Below.refl _ _).alloc (Nat.le_refl _) _)
  have RE := Lib.hid (reach_any A A2 ao c d cs n m k I sm true w0 (h.later B0.out) h1 h2 hs hk hsl (hA.later (Nat.le_refl _) B0.out))
  rw [rel_fro] at RE
  have HW := Lib.hid hw0
  clear h hA hw0 hs
  go_enter Try.func46, Try.ntmps46
  go_wp2_with fail
  rw [← HW.out]
  refine RE.out.mono ?_
  rintro e w5 ht
  obtain ⟨RA, cap, rfl, ho, hb⟩ := marks_base ht B0.out
  have HO := Lib.hid ho
  have HB := Lib.hid hb
  clear ho hb ht
  go_wp2_with fail
  go_ret
  exact ⟨RA, cap, rfl, HO.out, HB.out⟩

/-- The least of the first j that come to one another with n, or n. -/
noncomputable def leastN (I : InstD) (n j : Nat) : Nat := ((List.range j).find? fun m => yes (Mut I m n)).getD n
theorem leastN_all (I : InstD) (n : Nat) : leastN I n n = strongN I n := rfl
theorem leastN_le (I : InstD) (n j : Nat) (h : j ≤ n) : leastN I n j ≤ n ∧ (leastN I n j < j ∨ leastN I n j = n) := by
  unfold leastN
  cases e : (List.range j).find? fun m => yes (Mut I m n) with
  | none => simp
  | some s =>
    have := List.mem_of_find?_eq_some e
    rw [List.mem_range] at this
    simp only [Option.getD_some]
    omega
theorem leastN_yes (I : InstD) (n j : Nat) (h : j < n) (hm : Mut I j n) : leastN I n (j + 1) = min (leastN I n j) j := by
  have hl := leastN_le I n j (by omega)
  unfold leastN at hl ⊢
  rw [List.range_succ, List.find?_append]
  cases e : (List.range j).find? fun m => yes (Mut I m n) with
  | none =>
    simp [List.find?_cons, yes_true hm]
    omega
  | some s =>
    have := List.mem_of_find?_eq_some e
    rw [List.mem_range] at this
    simp
    omega
theorem leastN_no (I : InstD) (n j : Nat) (hm : ¬ Mut I j n) : leastN I n (j + 1) = leastN I n j := by
  unfold leastN
  rw [List.range_succ, List.find?_append]
  cases e : (List.range j).find? fun m => yes (Mut I m n) with
  | none => simp [List.find?_cons, yes_false hm]
  | some s => simp
/-- At the heads of Strong's loops. -/
def StrRel (W2 : World) (I : InstD) (s3 s4 : Value) (u : World) : Prop :=
  ∃ k : Nat, k ≤ I.sup.length ∧ s4 = .int .i64 (k : Int) ∧ u.ownsRow W2.heap.size 3 1 s3 k (natV ((strongL I).take k)) ∧ Below W2.heap.size W2 u
def LeaRel (U : World) (I : InstD) (k : Nat) (s7 s8 : Value) (u : World) : Prop :=
  ∃ j : Nat, j ≤ k ∧ s8 = .int .i64 (j : Int) ∧ s7 = .int .i64 (leastN I k j : Int) ∧ u = U
theorem natV_snoc (l : List Nat) (x : Nat) : natV (l ++ [x]) = natV l ++ [.int .i64 (x : Int)] := by simp [natV, numV]
set_option maxHeartbeats 8000000 in
theorem rstrong_any (A A2 : Option Addr) (c d n m : Nat) (I : InstD) (w : World) (h : Here w A A2 n m I) (h1 : n ≤ 1000) (h2 : m ≤ 1000) :
    Calls Try.prog 47 #[.agg #[.slice A n c, .slice A2 m d]] w fun e w' => ∃ B cap, e = .returned (.slice B n cap) ∧ Cells w' w'.heap.size B (natV (strongL I)) ∧ Below w.heap.size w w' := by
  obtain ⟨p, hp⟩ : ∃ p, p = w.heap.size := ⟨_, rfl⟩
  obtain ⟨W2, hW2⟩ : ∃ W2, W2 = w.alloc (.cells #[.slice A n c, .slice A2 m d] 25) := ⟨_, rfl⟩
  have V2 := Lib.hid (show IVar W2 p A A2 c d n m I by rw [hW2]; exact IVar.new h hp)
  have B2 := Lib.hid (show Below w.heap.size w W2 by rw [hW2]; exact (Below.refl _ _).alloc (Nat.le_refl _) _)
  have VI := Lib.hid (fun u (hu : Below W2.heap.size W2 u) => V2.out.later hu)
  have HN := Lib.hid h.n
  have SL := Lib.hid (show (strongL I).length = n from (strongL_length I).trans h.n)
  have HP := Lib.hid hp
  have HW := Lib.hid hW2
  obtain ⟨i0, hi0, hz0, hz1, hz2⟩ := info_parts info_int
  have G0 := Lib.hid hi0
  have G1 := Lib.hid hz0
  have G2 := Lib.hid hz1
  have G3 := Lib.hid hz2
  clear hi0 hz0 hz1 hz2 h hp hW2
  go_enter Try.func47, Try.ntmps47
  go_wp2_with fail
  rw [← HW.out, ← HP.out]
  go_loopw [3, 4, 5, 6, 7, 8] (fun s3 s4 _ _ _ _ u => StrRel W2 I s3 s4 u) (fun _ s4 _ _ _ _ _ => n - (intOf s4).toNat)
  case atStart => exact ⟨0, Nat.zero_le _, rfl, ⟨rfl, .inl ⟨rfl, rfl⟩⟩, Below.refl _ _⟩
  case round =>
    obtain ⟨k, hk, rfl, ho, hb⟩ := hrel
    rw [HN.out] at hk
    have UO := Lib.hid ho
    have UB := Lib.hid hb
    obtain ⟨x0, x1, x2⟩ := (VI.out _ hb).cells
    clear ho hb
    by_cases hlt : k < n
    · have kl : (k : Int) < (n : Int) := by omega
      obtain ⟨v1, hv1⟩ : ∃ v1, v1 = wr.alloc (.cells #[.int .i64 (k : Int)] 3) := ⟨_, rfl⟩
      have BV := Lib.hid (show Below wr.heap.size wr v1 by rw [hv1]; exact (Below.refl _ _).alloc (Nat.le_refl _) _)
      have OC := one_cells wr k
      rw [← hv1] at OC
      have FO := Lib.hid (rfrom_any _ _ (Option.some ⟨wr.heap.size, 0, none⟩) c d 1 n m 1 I [(k : Int)] v1 (VI.out _ (chain2 UB.out BV.out)).is (by omega) (by omega) (by intro x hx; simp at hx; subst hx; unfold I64; omega) rfl (by omega) OC)
      have HV := Lib.hid hv1
      clear hv1 OC
      go_wp2_with fail
      rw [← HV.out]
      refine FO.out.mono ?_
      rintro e v2 hq
      have hfl : fromL I [(k : Int)] = metL n (ArcTo I) [(k : Int)] := by unfold fromL; rw [HN.out]
      rw [hfl] at hq
      obtain ⟨FA, fc, rfl, hcc, hb⟩ := marks_cells (metL_length _ _ _) hq
      have FC := Lib.hid hcc
      have BV2 := Lib.hid (chain2 BV.out hb)
      clear hq hfl hcc hb FO HV x0 x1 x2
      obtain ⟨x0, x1, x2⟩ := (VI.out _ (chain2 UB.out BV2.out)).cells
      obtain ⟨v3, hv3⟩ : ∃ v3, v3 = v2.alloc (.cells #[.int .i64 (k : Int)] 3) := ⟨_, rfl⟩
      have BV3 := Lib.hid (show Below v2.heap.size v2 v3 by rw [hv3]; exact (Below.refl _ _).alloc (Nat.le_refl _) _)
      have OC := one_cells v2 k
      rw [← hv3] at OC
      have TO := Lib.hid (rto_any _ _ (Option.some ⟨v2.heap.size, 0, none⟩) c d 1 n m 1 I [(k : Int)] v3 (VI.out _ (chain2 UB.out (chain2 BV2.out BV3.out))).is (by omega) (by omega) (by intro x hx; simp at hx; subst hx; unfold I64; omega) rfl (by omega) OC)
      have HV := Lib.hid hv3
      clear hv3 OC
      go_wp2_with fail
      rw [← HV.out]
      refine TO.out.mono ?_
      rintro e v4 hq
      have htl : toL I [(k : Int)] = metL n (Fro I) [(k : Int)] := by unfold toL; rw [HN.out]
      rw [htl] at hq
      obtain ⟨TA, tc, rfl, hcc, hb⟩ := marks_cells (metL_length _ _ _) hq
      have TC := Lib.hid hcc
      have FC4 := Lib.hid (FC.out.later (Nat.le_refl _) (chain2 BV3.out hb))
      have BV4 := Lib.hid (chain2 BV2.out (chain2 BV3.out hb))
      clear hq htl hcc hb TO HV x0 x1 x2
      go_wp2_with fail
      go_loopw [7, 8] (fun s7 s8 u => LeaRel v4 I k s7 s8 u) (fun _ s8 _ => k - (intOf s8).toNat)
      case atStart => exact ⟨0, Nat.zero_le _, rfl, rfl, rfl⟩
      case round =>
        obtain ⟨j, hj, rfl, rfl, rfl⟩ := hrel
        by_cases jl : j < k
        · have j0 : (0 : Int) ≤ (j : Int) := by omega
          have j1 : (j : Int) < (k : Int) := by omega
          have j2 : (j : Int) < (n : Int) := by omega
          obtain ⟨fb, fo, eb, lf, hcell⟩ := met_at FC4.out (by omega)
          obtain ⟨tb, tof, et, lt, tcell⟩ := met_at TC.out (by omega)
          subst eb et
          have c1 := hcell j (by omega)
          have c2 := tcell j (by omega)
          rw [yes_same (hit_one hlt)] at c1 c2
          rw [yes_same fro_way] at c2
          have LY := Lib.hid (leastN_yes I k j jl)
          have LX := Lib.hid (leastN_no I k j)
          have LE := leastN_le I k j (by omega)
          obtain ⟨x, hx⟩ : ∃ x, x = leastN I k j := ⟨_, rfl⟩
          rw [← hx] at LY LX LE ⊢
          clear hcell tcell hx
          by_cases q1 : Way (ArcTo I) k j
          · rw [yes_true q1] at c1
            by_cases q2 : Way (ArcTo I) j k
            · rw [yes_true q2] at c2
              have LS := Lib.hid (LY.out ⟨q2, q1⟩)
              clear q1 q2 LY LX
              by_cases c : x < j
              · have c3 : (x : Int) < (j : Int) := by omega
                have c4 : ¬ (j : Int) < (x : Int) := by omega
                have E := Lib.hid (show leastN I k (j + 1) = x by rw [LS.out]; omega)
                clear LS LE
                go_wp2_with fail
                exact ⟨⟨j + 1, by omega, by simp, by rw [E.out], rfl⟩, by simp [intOf]; omega⟩
              · have c3 : (j : Int) < (x : Int) := by omega
                have c4 : ¬ (x : Int) < (j : Int) := by omega
                have E := Lib.hid (show leastN I k (j + 1) = j by rw [LS.out]; omega)
                clear LS LE
                go_wp2_with fail
                exact ⟨⟨j + 1, by omega, by simp, by rw [E.out], rfl⟩, by simp [intOf]; omega⟩
            · rw [yes_false q2] at c2
              have LS := Lib.hid (LX.out fun q => q2 q.1)
              clear q1 q2 LY LX LE
              go_wp2_with fail
              exact ⟨⟨j + 1, by omega, by simp, by rw [LS.out], rfl⟩, by simp [intOf]; omega⟩
          · rw [yes_false q1] at c1
            have LS := Lib.hid (LX.out fun q => q1 q.2)
            clear q1 c2 LY LX LE
            go_wp2_with fail
            exact ⟨⟨j + 1, by omega, by simp, by rw [LS.out], rfl⟩, by simp [intOf]; omega⟩
        · obtain rfl : j = k := by omega
          have E := Lib.hid (leastN_all I j)
          obtain ⟨x, hx⟩ : ∃ x, x = leastN I j j := ⟨_, rfl⟩
          rw [← hx] at E ⊢
          have TK := Lib.hid (show (strongL I).take (j + 1) = (strongL I).take j ++ [x] by
            rw [E.out, List.take_succ_eq_append_getElem (by rw [SL.out]; exact hlt)]
            simp [strongL])
          have UO4 := Lib.hid (own_later UO.out BV4.out)
          have BW4 := Lib.hid (chain2 UB.out BV4.out)
          have bs := BW4.out.size
          clear hx UO FC4 TC
          go_wp2_with (
            at_builtin
            refine wpList_append_own _ rfl _ _ 32 rfl W2.heap.size 3 i0 _ 1 8 Try.underlying32 G0.out G1.out G2.out G3.out rfl (by decide) _ _ _ rfl (UO4.out.alloc _) ⟨wr.heap.size, 0, none⟩ 1 1 [.int .i64 (x : Int)] rfl rfl ?c1 ?c2 ?c3 ?c4 ?c5 ?_
            case c1 => first | exact cell_one_new _ _ _ | (intro j u hu; simp at hu ⊢; exact cell_one_new _ _ _ j u (by simpa using hu))
            case c2 => simp [Value.oneCell']
            case c3 => simp only [maxLen]; omega
            case c4 => omega
            case c5 => simp; omega
            intro v' u2 hown hgrow _
            have OW := Lib.hid hown
            have GR := Lib.hid hgrow
            clear hown hgrow)
          refine ⟨⟨j + 1, by rw [HN.out]; omega, by simp, by rw [TK.out, natV_snoc]; exact OW.out, (BW4.out.alloc bs _).grown GR.out (by simp; omega) (own_ge UO4.out)⟩, by simp [intOf]; omega⟩
    · obtain rfl : k = n := by omega
      have UO2 := UO.out
      rw [List.take_of_length_le (by rw [SL.out]; exact Nat.le_refl _)] at UO2
      obtain ⟨-, RA, rc, ev, -, -, hcs⟩ := own_cells UO2
      subst ev
      have RC := Lib.hid hcs
      clear UO2 hcs
      go_wp2_with fail
      go_ret
      exact ⟨RA, rc, rfl, RC.out, chain2 B2.out UB.out⟩
end Go.Proofs.Ytajckihgfelbaaa.Rch
