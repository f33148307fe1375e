/- The document's answers for layer 6: where some come to, round by round. -/
import Derived.Test.YtajckihgfelbaaaRchXH
namespace Go.Proofs.Ytajckihgfelbaaa.Rch
open Go.RowKit Go.Proofs.Ytajckihgfelbaaa.Inst Go.Proofs.Ytajckihgfelbaaa.Adj
set_option maxRecDepth 100000

/-- At the heads of Reach's loops. -/
def SeedRel (w1 : World) (N M : Nat) (some : List Int) (s8 : Value) (u : World) : Prop :=
  ∃ (k : Nat) (S : List Bool), k ≤ some.length ∧ s8 = .int .i64 (k : Int) ∧ S.length = N ∧ Blk u M 4 (boolV S).toArray ∧ (∀ n : Nat, onB S n = true ↔ (n : Int) ∈ some.take k ∧ n < N) ∧ Kp (fun k => k = M) w1 u
def RoundRel (w1 : World) (M : Nat) (I : InstD) (back : Bool) (some : List Int) (s9 : Value) (u : World) : Prop :=
  ∃ (r : Nat) (S : List Bool), r ≤ I.sup.length ∧ s9 = .int .i64 (r : Int) ∧ Blk u M 4 (boolV S).toArray ∧ RoundIs I back some S r ∧ Kp (fun k => k = M) w1 u
def MidRel (w1 : World) (M : Nat) (I : InstD) (back : Bool) (some : List Int) (S0 : List Bool) (s10 : Value) (u : World) : Prop :=
  ∃ (k : Nat) (S : List Bool), k ≤ I.arcs.length ∧ s10 = .int .i64 (k : Int) ∧ Blk u M 4 (boolV S).toArray ∧ MidIs I back some S0 S k ∧ Kp (fun k => k = M) w1 u
theorem round_new (I : InstD) (back : Bool) (some : List Int) (S : List Bool) (hl : S.length = I.sup.length) (h : ∀ n : Nat, onB S n = true ↔ (n : Int) ∈ some ∧ n < I.sup.length) : RoundIs I back some S 0 :=
  ⟨hl, fun n hn => ⟨n, ((h n).1 hn).1, ((h n).1 hn).2, .refl n⟩, fun a h1 h2 => (h a).2 ⟨h1, h2⟩, .inr (Nat.zero_le _)⟩
theorem blk_bit {w : World} {M : Nat} {S : List Bool} (h : Blk w M 4 (boolV S).toArray) (k : Nat) (hk : k < S.length) : w.cell? ⟨M, k, none⟩ = some (.bool (onB S k)) := by
  rw [h.cell k]
  simp [boolV, onB, hk]
set_option maxHeartbeats 8000000 in
theorem reach_any (A A2 ao : Option Addr) (c d cs n m k : Nat) (I : InstD) (sm : List Int) (back : Bool) (w : World) (h : Here w A A2 n m I) (h1 : n ≤ 1000) (h2 : m ≤ 1000) (hs : ∀ x ∈ sm, I64 x) (hk : sm.length = k) (hsl : k ≤ 140737488355328) (hA : Cells w w.heap.size ao (numV sm)) :
    Calls Try.prog 78 #[.agg #[.slice A n c, .slice A2 m d], .slice ao k cs, .bool back] w (TellsMarks (metL I.sup.length (Rel I back) sm) w) := by
  subst hk
  have MK := fun W => make_bools n h1 W
  obtain ⟨w0, hw0⟩ : ∃ w0, w0 = w.alloc (.cells #[.slice A n c, .slice A2 m d] 25) := ⟨_, rfl⟩
  obtain ⟨w1, hw1⟩ : ∃ w1, w1 = w0.alloc (.cells (boolV (List.replicate n false)).toArray 4) := ⟨_, rfl⟩
  have s0 : w0.heap.size = w.heap.size + 1 := by rw [hw0]; simp
  have K0 := Lib.hid (show Below w.heap.size w w0 by rw [hw0]; exact (Below.refl _ _).alloc (Nat.le_refl _) _)
  have K1 := Lib.hid (show Below w0.heap.size w0 w1 by rw [hw1]; exact (Below.refl _ _).alloc (Nat.le_refl _) _)
  have BX := Lib.hid (show Blk w1 w.heap.size 25 #[.slice A n c, .slice A2 m d] by rw [hw1, hw0]; exact (Blk.new _ _ _).alloc _)
  have B1 := Lib.hid (show Blk w1 (w.heap.size + 1) 4 (boolV (List.replicate n false)).toArray by rw [← s0, hw1]; exact Blk.new _ _ _)
  have K01 := Lib.hid (chain2 K0.out K1.out)
  have HH := Lib.hid (h.later K01.out)
  have A1 := Lib.hid hA
  have HN := Lib.hid h.n
  have HM := Lib.hid h.m
  have HS := Lib.hid hs
  have HW0 := Lib.hid hw0
  have HW := Lib.hid hw1
  obtain ⟨M, hM⟩ : ∃ M, M = w.heap.size + 1 := ⟨_, rfl⟩
  have EM := Lib.hid hM
  have z1 : w1.heap.size = w.heap.size + 1 + 1 := by rw [hw1]; simp [s0]
  -- the box and what it holds, at any later world
  have BOX := Lib.hid (fun u (hu : Kp (fun k => k = M) w1 u) => (show u.cell? ⟨w.heap.size, 0, none⟩ = some (.slice A n c) ∧ u.cell? ⟨w.heap.size, 1, none⟩ = some (.slice A2 m d) ∧ w.heap.size < u.heap.size from
    ⟨((hu.blk BX.out (by omega)).cell 0).trans rfl, ((hu.blk BX.out (by omega)).cell 1).trans rfl, (hu.blk BX.out (by omega)).lt⟩))
  have LAT := Lib.hid (fun u (hu : Kp (fun k => k = M) w1 u) => (K01.out.trans (hu.below (fun k hk => by omega) K01.out.size) : Below w.heap.size w u))
  have HR := Lib.hid (fun u (hu : Kp (fun k => k = M) w1 u) => h.later (LAT.out u hu))
  have x0 := (BX.out.cell 0).trans rfl
  have x1 := BX.out.lt
  simp at x0
  clear h hA hw0 hw1 hs s0 z1
  go_enter Try.func78, Try.ntmps78
  go_wp2_with fail
  rw [← HW0.out, ← HW.out]
  rw [← hM]
  rw [← hM] at B1
  clear hM HW0 HW MK x0 x1
  obtain ⟨p, hp⟩ : ∃ p, p = w.heap.size := ⟨_, rfl⟩
  have pM : ¬ p = M := by have := EM.out; omega
  rw [← hp]
  rw [← hp] at BX BOX
  have HP := Lib.hid hp
  clear hp
  go_loopw [8] (fun s8 u => SeedRel w1 n M sm s8 u) (fun s8 _ => sm.length - (intOf s8).toNat)
  case atStart => exact ⟨0, _, Nat.zero_le _, rfl, by simp, B1.out, fun k => by rw [onB_none]; simp, Kp.refl _ _⟩
  case round =>
    obtain ⟨k, S, hk, rfl, hl, hb, hm, hkp⟩ := hrel
    have UB := Lib.hid hb
    have UM := Lib.hid hm
    have UK := Lib.hid hkp
    have UL := Lib.hid hl
    clear hb hm hkp hl
    by_cases hlt : k < sm.length
    · obtain ⟨b, off, ea, hbl, hcell⟩ := nums_at A1.out (by omega)
      have c1 := ((LAT.out _ UK.out).cell (p := ⟨b, off + k, none⟩) hbl).trans (hcell k hlt)
      have c2 : b < wr.heap.size := Nat.lt_of_lt_of_le hbl (LAT.out _ UK.out).size
      obtain ⟨x, hx⟩ : ∃ x, x = sm[k] := ⟨_, rfl⟩
      have x6 : I64 x := by rw [hx]; exact HS.out _ (List.getElem_mem hlt)
      unfold I64 at x6
      rw [← hx] at c1
      have k0 : (0 : Int) ≤ (k : Int) := by omega
      have k1 : (k : Int) < (sm.length : Int) := by omega
      have tk := Lib.hid (show sm.take (k + 1) = sm.take k ++ [x] by rw [List.take_succ_eq_append_getElem hlt, hx])
      subst ea
      clear hcell hx hbl
      by_cases s0 : 0 ≤ x
      · by_cases s1 : x < (n : Int)
        · obtain ⟨a, rfl⟩ : ∃ a : Nat, x = (a : Int) := ⟨x.toNat, by omega⟩
          have al := UB.out.lt
          have fz := UB.out.frozen a
          have ce := blk_bit UB.out a (by rw [UL.out]; omega)
          go_wp2_with fail
          refine ⟨⟨k + 1, S.set a true, by omega, by simp, by rw [List.length_set]; exact UL.out, by rw [← boolV_set]; exact UB.out.set_ a _, fun j => ?_, UK.out.set M a _ (fun _ => rfl)⟩, by simp [intOf]; omega⟩
          rw [onB_set S a j (by rw [UL.out]; omega), UM.out j, tk.out, List.mem_append, List.mem_singleton]
          constructor
          · rintro (rfl | ⟨q1, q2⟩)
            · exact ⟨.inr rfl, by omega⟩
            · exact ⟨.inl q1, q2⟩
          · rintro ⟨q1 | q1, q2⟩
            · exact .inr ⟨q1, q2⟩
            · exact .inl (by omega)
        · go_wp2_with fail
          refine ⟨⟨k + 1, S, by omega, by simp, UL.out, UB.out, fun j => ?_, UK.out⟩, by simp [intOf]; omega⟩
          rw [UM.out j, tk.out, List.mem_append, List.mem_singleton]
          exact ⟨fun q => ⟨.inl q.1, q.2⟩, fun q => ⟨q.1.resolve_right (by omega), q.2⟩⟩
      · go_wp2_with fail
        refine ⟨⟨k + 1, S, by omega, by simp, UL.out, UB.out, fun j => ?_, UK.out⟩, by simp [intOf]; omega⟩
        rw [UM.out j, tk.out, List.mem_append, List.mem_singleton]
        exact ⟨fun q => ⟨.inl q.1, q.2⟩, fun q => ⟨q.1.resolve_right (by omega), q.2⟩⟩
    · obtain rfl : k = sm.length := by omega
      rw [List.take_length] at UM
      have R0 := Lib.hid (round_new I back sm S (by rw [HN.out]; exact UL.out) (fun j => by rw [HN.out]; exact UM.out j))
      clear UM UL hlt
      go_wp2_with fail
      go_loopw [9, 10, 11, 12] (fun s9 _ _ _ u => RoundRel w1 M I back sm s9 u) (fun s9 _ _ _ _ => n - (intOf s9).toNat)
      case atStart => exact ⟨0, S, Nat.zero_le _, rfl, UB.out, R0.out, UK.out⟩
      case round =>
        obtain ⟨r, S0, hr, rfl, hb, hri, hkp⟩ := hrel
        have VB := Lib.hid hb
        have VR := Lib.hid hri
        have VK := Lib.hid hkp
        rw [HN.out] at hr
        clear hb hri hkp
        by_cases hlt : r < n
        · have t1 : (r : Int) < (n : Int) := by omega
          go_wp2_with fail
          go_loopw [10, 11, 12] (fun s10 _ _ u => MidRel w1 M I back sm S0 s10 u) (fun s10 _ _ _ => m - (intOf s10).toNat)
          case atStart => exact ⟨0, S0, Nat.zero_le _, rfl, VB.out, VR.out.mid, VK.out⟩
          case round =>
            obtain ⟨k, S, hk, rfl, hb, hmi, hkp⟩ := hrel
            have XB := Lib.hid hb
            have XM := Lib.hid hmi
            have XK := Lib.hid hkp
            rw [HM.out] at hk
            obtain ⟨b0, b1, b2⟩ := BOX.out _ hkp
            clear hb hmi hkp
            by_cases hlt : k < m
            · have t2 : (k : Int) < (m : Int) := by omega
              have AR := Lib.hid (fun x f hx hf => rarc_any A A2 c d n m I (k : Int) x f hx hf wr (HR.out _ XK.out))
              cases hf : fitD I (k : Int) with
              | true =>
                obtain ⟨x1, y1, hx, hy, xn, yn, -, -⟩ := fit_nats hf
                have AC := Lib.hid (AR.out _ true rfl hf)
                have ex : arcD I (k : Int) = arcAt I.arcs k := by unfold arcD; rw [if_pos hf]; rfl
                rw [ex] at AC
                have EX := Lib.hid (And.intro hx hy)
                obtain ⟨y, hy'⟩ : ∃ y, y = arcAt I.arcs k := ⟨_, rfl⟩
                rw [← hy'] at AC hx hy
                obtain ⟨y0, z0, y2, y3, y4⟩ := y
                simp only at hx hy
                subst hx hy
                rw [HN.out] at xn yn
                have HF := Lib.hid hf
                clear hy' hf ex AR
                go_wp2_with fail
                refine AC.out.mono ?_
                rintro e u1 ⟨rfl, hb⟩
                obtain ⟨u2, hu2⟩ : ∃ u2, u2 = u1.alloc (.cells #[.int .i64 (x1 : Int), .int .i64 (y1 : Int), .int .i64 y2, .int .i64 y3, .int .i64 y4] 36) := ⟨_, rfl⟩
                have BU := Lib.hid (show Below wr.heap.size wr u2 by rw [hu2]; exact hb.alloc hb.size _)
                have AB : Blk u2 u1.heap.size 36 #[.int .i64 (x1 : Int), .int .i64 (y1 : Int), .int .i64 y2, .int .i64 y3, .int .i64 y4] := by rw [hu2]; exact Blk.new _ _ _
                have a0 := AB.cell 0
                have a1 := AB.cell 1
                have a2 := AB.lt
                simp at a0 a1
                have UB2 := Lib.hid (XB.out.below BU.out XB.out.lt)
                have e1 := UB2.out.lt
                have HU := Lib.hid hu2
                have p0 : (0 : Int) ≤ (x1 : Int) := by omega
                have p1 : (x1 : Int) < (n : Int) := by omega
                have q0 : (0 : Int) ≤ (y1 : Int) := by omega
                have q1 : (y1 : Int) < (n : Int) := by omega
                clear hu2 hb AB b0 b1 b2
                cases back with
                | false =>
                  go_upto_region 14 with fail
                  rw [← HU.out]
                  cases hv : onB S x1 with
                  | true =>
                    have g1 := blk_bit UB2.out x1 (by rw [XM.out.len, HN.out]; omega)
                    rw [hv] at g1
                    have HV := Lib.hid hv
                    have g2 := blk_bit UB2.out y1 (by rw [XM.out.len, HN.out]; omega)
                    have g3 := UB2.out.frozen y1
                    clear hv
                    go_wp2_with fail
                    refine ⟨⟨k + 1, S.set y1 true, by rw [HM.out]; omega, by simp, by rw [← boolV_set]; exact UB2.out.set_ y1 _, XM.out.mark HF.out EX.out.1 EX.out.2 (by rw [XM.out.len, HN.out]; omega) HV.out, (XK.out.trans (Kp.of BU.out (Nat.le_refl _))).set M y1 _ (fun _ => rfl)⟩, by simp [intOf]; omega⟩
                  | false =>
                    have g1 := blk_bit UB2.out x1 (by rw [XM.out.len, HN.out]; omega)
                    rw [hv] at g1
                    have HV := Lib.hid hv
                    clear hv
                    go_wp2_with fail
                    refine ⟨⟨k + 1, S, by rw [HM.out]; omega, by simp, UB2.out, XM.out.skip (fun a b _ e1 _ => ?_), XK.out.trans (Kp.of BU.out (Nat.le_refl _))⟩, by simp [intOf]; omega⟩
                    have e2 : ((x1 : Nat) : Int) = (a : Int) := EX.out.1.symm.trans e1
                    rw [← Int.ofNat_inj.1 e2]
                    exact HV.out
                | true =>
                  go_upto_region 14 with fail
                  rw [← HU.out]
                  cases hv : onB S y1 with
                  | true =>
                    have g1 := blk_bit UB2.out y1 (by rw [XM.out.len, HN.out]; omega)
                    rw [hv] at g1
                    have HV := Lib.hid hv
                    have g2 := blk_bit UB2.out x1 (by rw [XM.out.len, HN.out]; omega)
                    have g3 := UB2.out.frozen x1
                    clear hv
                    go_wp2_with fail
                    refine ⟨⟨k + 1, S.set x1 true, by rw [HM.out]; omega, by simp, by rw [← boolV_set]; exact UB2.out.set_ x1 _, XM.out.mark HF.out EX.out.2 EX.out.1 (by rw [XM.out.len, HN.out]; omega) HV.out, (XK.out.trans (Kp.of BU.out (Nat.le_refl _))).set M x1 _ (fun _ => rfl)⟩, by simp [intOf]; omega⟩
                  | false =>
                    have g1 := blk_bit UB2.out y1 (by rw [XM.out.len, HN.out]; omega)
                    rw [hv] at g1
                    have HV := Lib.hid hv
                    clear hv
                    go_wp2_with fail
                    refine ⟨⟨k + 1, S, by rw [HM.out]; omega, by simp, UB2.out, XM.out.skip (fun a b _ e1 _ => ?_), XK.out.trans (Kp.of BU.out (Nat.le_refl _))⟩, by simp [intOf]; omega⟩
                    have e2 : ((y1 : Nat) : Int) = (a : Int) := EX.out.2.symm.trans e1
                    rw [← Int.ofNat_inj.1 e2]
                    exact HV.out
              | false =>
                have AC := Lib.hid (AR.out _ false rfl hf)
                obtain ⟨y, hy⟩ : ∃ y, y = arcD I (k : Int) := ⟨_, rfl⟩
                rw [← hy] at AC
                obtain ⟨y0, z0, y2, y3, y4⟩ := y
                have HF := Lib.hid hf
                clear hy hf AR
                go_wp2_with fail
                refine AC.out.mono ?_
                rintro e u1 ⟨rfl, hb⟩
                obtain ⟨u2, hu2⟩ : ∃ u2, u2 = u1.alloc (.cells #[.int .i64 y0, .int .i64 z0, .int .i64 y2, .int .i64 y3, .int .i64 y4] 36) := ⟨_, rfl⟩
                have BU := Lib.hid (show Below wr.heap.size wr u2 by rw [hu2]; exact hb.alloc hb.size _)
                have UB2 := Lib.hid (XB.out.below BU.out XB.out.lt)
                have HU := Lib.hid hu2
                clear hu2 hb b0 b1 b2
                cases back with
                | false =>
                  go_upto_region 14 with fail
                  rw [← HU.out]
                  go_wp2_with fail
                  refine ⟨⟨k + 1, S, by rw [HM.out]; omega, by simp, UB2.out, XM.out.skip (fun a b q _ _ => by rw [HF.out] at q; cases q), XK.out.trans (Kp.of BU.out (Nat.le_refl _))⟩, by simp [intOf]; omega⟩
                | true =>
                  go_upto_region 14 with fail
                  rw [← HU.out]
                  go_wp2_with fail
                  refine ⟨⟨k + 1, S, by rw [HM.out]; omega, by simp, UB2.out, XM.out.skip (fun a b q _ _ => by rw [HF.out] at q; cases q), XK.out.trans (Kp.of BU.out (Nat.le_refl _))⟩, by simp [intOf]; omega⟩
            · obtain rfl : k = m := by omega
              have RN := Lib.hid (MidIs.next VR.out (by rw [HM.out]; exact XM.out))
              go_wp2_with fail
              exact ⟨⟨r + 1, S, by rw [HN.out]; omega, by simp, XB.out, RN.out, XK.out⟩, by simp [intOf]; omega⟩
        · obtain rfl : r = n := by omega
          have E := Lib.hid (VR.out.all (by rw [HN.out]; exact Nat.le_refl _))
          have LS := Lib.hid (show S0.length = r from VR.out.len.trans HN.out)
          go_wp2_with fail
          go_ret
          refine ⟨_, r, by rw [metL_length, HN.out]; rfl, ?_, LAT.out _ VK.out⟩
          rw [metL_length, HN.out, ← HN.out, ← E.out, HN.out]
          exact ⟨by rw [boolV_length, LS.out]; omega, .inr ⟨M, r, _, rfl, by have := EM.out; omega, VB.out, Nat.le_refl _, by simp only [maxLen]; omega, by simp [boolV_length, LS.out], by simp [List.take_of_length_le, boolV_length, LS.out]⟩⟩
end Go.Proofs.Ytajckihgfelbaaa.Rch
