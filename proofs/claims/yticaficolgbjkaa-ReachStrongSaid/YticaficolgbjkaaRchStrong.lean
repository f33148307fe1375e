/- The law ReachStrong: its walk. -/
import Derived.Test.YticaficolgbjkaaRchOn
import Derived.Deep.QuietTactic
import Derived.BigQuiet
namespace Go.Proofs.Yticaficolgbjkaa.Rch
open Go.RowKit Go.Proofs.Yticaficolgbjkaa.Inst Go.Proofs.Yticaficolgbjkaa.Adj
set_option maxRecDepth 100000

theorem strong_at {w : World} {A : Option Addr} {I : InstD} {n : Nat} (hn : I.sup.length = n) (h : Cells w w.heap.size A (natV (strongL I))) (h0 : 0 < n) :
    ∃ b off, A = some ⟨b, off, none⟩ ∧ b < w.heap.size ∧ ∀ k, k < n → w.cell? ⟨b, off + k, none⟩ = some (.int .i64 (strongN I k : Int)) := by
  obtain ⟨b, off, e, hb, hc⟩ := nats_at h (by rw [strongL_length, hn]; exact h0)
  refine ⟨b, off, e, hb, fun k hk => ?_⟩
  rw [hc k (by rw [strongL_length, hn]; exact hk)]
  simp [strongL]
theorem back_at {w : World} {A : Option Addr} {I : InstD} {m : Nat} (hm : I.arcs.length = m) (h : Cells w w.heap.size A (boolV (backL I))) (h0 : 0 < m) :
    ∃ b off, A = some ⟨b, off, none⟩ ∧ b < w.heap.size ∧ ∀ k, k < m → w.cell? ⟨b, off + k, none⟩ = some (.bool (yes (BackP I k))) := by
  obtain ⟨b, off, e, hb, hc⟩ := bools_at h (by rw [backL_length, hm]; exact h0)
  refine ⟨b, off, e, hb, fun k hk => ?_⟩
  rw [hc k (by rw [backL_length, hm]; exact hk)]
  simp [backL]
theorem strong_twice (I : InstD) (n : Nat) : strongN I (strongN I n) = strongN I n := strong_same.2 (strong_spec I n).1
theorem below_drew' {U u : World} (h : Below U.heap.size U u) (k : Nat) : Below U.heap.size U (u.drewN k) := below_drewN h k

set_option maxHeartbeats 8000000 in
theorem strong_walk {W : World} (s : Option Addr) (l c : Nat) (xs : List Nat) (hl : xs.length = l) (h9 : l ≤ 140737488355328) (hx : Octs xs) (hs : Cells W W.heap.size s (octV xs)) (s' : Option Addr) (l' c' : Nat) (ys : List Nat) (hl' : ys.length = l') (h9' : l' ≤ 140737488355328) (hy : Octs ys) (hs' : Cells W W.heap.size s' (octV ys)) :
    Calls Try.prog 5 #[.slice s l c, .slice s' l' c'] W fun e W' => e = .returned (.bool true) ∧ Below W.heap.size W W' := by
  obtain ⟨I, hI⟩ : ∃ I, I = instC xs ys := ⟨_, rfl⟩
  obtain ⟨n, hn⟩ : ∃ n, nodesC ys = n := ⟨_, rfl⟩
  obtain ⟨m, hm⟩ : ∃ m, I.arcs.length = m := ⟨_, rfl⟩
  have i0 : I.sup.length = n := by rw [hI, instC_sup, hn]
  have n7 : n ≤ 7 ∧ 1 ≤ n := by rw [← hn]; exact ⟨(nodesC_bd ys).2, (nodesC_bd ys).1⟩
  have m18 : m ≤ 18 := by rw [← hm, hI]; exact instC_arcs xs ys
  have IN := Lib.hid (inst_here s l c xs hl h9 hx s' l' c' ys hl' h9' hy hI hn hm W hs hs')
  have FI := Lib.hid (show ∀ a, a < m → fitD I (a : Int) = true from fun a ha => fit_in (by rw [hI]; exact instC_in xs ys) (by rw [hm]; exact ha))
  have HN := Lib.hid i0
  have HM := Lib.hid hm
  obtain ⟨n7, n1⟩ := n7
  clear hI hn hm i0 hs hs' hx hy
  go_enter Try.func5, Try.ntmps5
  go_wp2_with fail
  refine IN.out.mono ?_
  rintro e w1 ⟨sA, A, ca, rfl, -, hh, hb⟩
  obtain ⟨p, hp⟩ : ∃ p, p = w1.heap.size := ⟨_, rfl⟩
  obtain ⟨W2, hW2⟩ : ∃ W2, W2 = w1.alloc (.cells #[.slice (some ⟨sA, 0, none⟩) n n, .slice A m ca] 25) := ⟨_, rfl⟩
  have V2 := Lib.hid (show IVar W2 p _ _ n ca n m I by rw [hW2]; exact IVar.new hh hp)
  have B2 := Lib.hid (show Below W.heap.size W W2 by rw [hW2]; exact hb.alloc hb.size _)
  have VI := Lib.hid (fun u (hu : Below W2.heap.size W2 u) => V2.out.later hu)
  have ST := Lib.hid (Strong_any _ _ n ca n m I W2 V2.out.is (by omega) (by omega))
  have HW2 := Lib.hid hW2
  have HP := Lib.hid hp
  clear hW2 hh hb IN hp
  go_wp2_with fail
  rw [← HW2.out, ← HP.out]
  clear HP HW2
  refine ST.out.mono ?_
  rintro e w3 ⟨SA, sc, rfl, -, hc, hb, -⟩
  rw [strongL_length, HN.out]
  have B3 := Lib.hid hb
  have SC := Lib.hid hc
  obtain ⟨x0, x1, x2⟩ := (VI.out w3 hb).cells
  have BA := Lib.hid (Back_any _ _ n ca n m I w3 (VI.out w3 hb).is (by omega) (by omega))
  clear hb hc ST
  go_wp2_with fail
  refine BA.out.mono ?_
  rintro e w4 hq
  obtain ⟨KA, kc, rfl, hcc, hb⟩ := marks_cells (show (backL I).length = m by rw [backL_length]; exact HM.out) hq
  have B4 := Lib.hid (chain2 B3.out hb)
  have SC4 := Lib.hid (SC.out.later (Nat.le_refl _) hb)
  have KC4 := Lib.hid hcc
  obtain ⟨x0, x1, x2⟩ := (VI.out w4 B4.out).cells
  have t0 : ((n : Int) != (n : Int)) = false := by simp
  have t1 : ((m : Int) != (m : Int)) = false := by simp
  clear hb hq hcc BA SC B3
  go_wp2_with fail
  go_loopw [8, 9, 10, 11] (fun s8 s9 s10 s11 u => AtK w4 n s8 u) (fun s8 _ _ _ _ => n - (intOf s8).toNat)
  case atStart => exact ⟨0, Nat.zero_le _, rfl, Below.refl _ _⟩
  case round =>
    obtain ⟨j, hj, rfl, hb⟩ := hrel
    have HB := Lib.hid hb
    have B5 := Lib.hid (chain2 B4.out hb)
    obtain ⟨x0, x1, x2⟩ := (VI.out _ B5.out).cells
    clear hb
    by_cases hlt : j < n
    · have jl : (j : Int) < (n : Int) := by omega
      have j0 : (0 : Int) ≤ (j : Int) := by omega
      obtain ⟨v1, hv1⟩ : ∃ v1, v1 = wr.alloc (.cells #[.int .i64 (j : Int)] 3) := ⟨_, rfl⟩
      have BV := Lib.hid (show Below wr.heap.size wr v1 by rw [hv1]; exact (Below.refl _ _).alloc (Nat.le_refl _) _)
      have OC := one_cells wr j
      rw [← hv1] at OC
      have FO := Lib.hid (from_any _ _ (Option.some ⟨wr.heap.size, 0, none⟩) n ca 1 n _ 1 I [(j : Int)] v1 (VI.out _ (chain2 B5.out BV.out)).is (by omega) (by omega) (by intro x hx; simp at hx; subst hx; unfold I64; omega) rfl (by omega) OC)
      have HV := Lib.hid hv1
      clear hv1 OC
      go_wp2_with fail
      rw [← HV.out]
      refine FO.out.mono ?_
      rintro e v2 hq
      have hfl : fromL I [(j : Int)] = metL n (ArcTo I) [(j : Int)] := by unfold fromL; rw [HN.out]
      rw [hfl] at hq
      obtain ⟨TA, tc, rfl, hcc, hb⟩ := marks_cells (metL_length _ _ _) hq
      have TC := Lib.hid hcc
      have BV2 := Lib.hid (chain2 BV.out hb)
      obtain ⟨x0, x1, x2⟩ := (VI.out v2 (chain2 B5.out BV2.out)).cells
      clear hq hfl hcc hb FO HV BV
      obtain ⟨v3, hv3⟩ : ∃ v3, v3 = v2.alloc (.cells #[.int .i64 (j : Int)] 3) := ⟨_, rfl⟩
      have BV3 := Lib.hid (show Below v2.heap.size v2 v3 by rw [hv3]; exact (Below.refl _ _).alloc (Nat.le_refl _) _)
      have OC := one_cells v2 j
      rw [← hv3] at OC
      have TO := Lib.hid (to_any _ _ (Option.some ⟨v2.heap.size, 0, none⟩) n ca 1 n _ 1 I [(j : Int)] v3 (VI.out _ (chain2 (chain2 B5.out BV2.out) BV3.out)).is (by omega) (by omega) (by intro x hx; simp at hx; subst hx; unfold I64; omega) rfl (by omega) OC)
      have HV := Lib.hid hv3
      clear hv3 OC
      go_wp2_with fail
      rw [← HV.out]
      refine TO.out.mono ?_
      rintro e v4 hq
      have htl : toL I [(j : Int)] = metL n (Fro I) [(j : Int)] := by unfold toL; rw [HN.out]
      rw [htl] at hq
      obtain ⟨FA, fc, rfl, hcc, hb⟩ := marks_cells (metL_length _ _ _) hq
      have FC := Lib.hid hcc
      have TC4 := Lib.hid (TC.out.later (Nat.le_refl _) (chain2 BV3.out hb))
      have BV4 := Lib.hid (chain2 BV2.out (chain2 BV3.out hb))
      have SC5 := Lib.hid (SC4.out.later (Nat.le_refl _) (chain2 HB.out BV4.out))
      clear hq htl hcc hb TO HV TC BV3 x0 x1 x2
      go_wp2_with fail
      go_loopw [11] (fun s11 u => AtK v4 n s11 u) (fun s11 _ => n - (intOf s11).toNat)
      case atStart => exact ⟨0, Nat.zero_le _, rfl, Below.refl _ _⟩
      case round =>
        obtain ⟨k, hk, rfl, hb⟩ := hrel
        have HB2 := Lib.hid hb
        obtain ⟨sb, so, es, ls, hsc⟩ := strong_at HN.out (SC5.out.later (Nat.le_refl _) hb) (by omega)
        obtain ⟨tb, tof, et, lt, htc⟩ := met_at (TC4.out.later (Nat.le_refl _) hb) (by omega)
        obtain ⟨fb, fo, ef, lf, hfc⟩ := met_at (FC.out.later (Nat.le_refl _) hb) (by omega)
        have c0 := hsc j hlt
        have sj := (strong_spec I j).2.1
        have cs := hsc (strongN I j) (by omega)
        rw [strong_twice] at cs
        subst es et ef
        clear hb
        by_cases hlt2 : k < n
        · have kl : (k : Int) < (n : Int) := by omega
          have k0 : (0 : Int) ≤ (k : Int) := by omega
          have c1 := hsc k hlt2
          have c2 := htc k hlt2
          have c3 := hfc k hlt2
          have e2 : yes (Hit n (ArcTo I) [(j : Int)] k) = yes (Way (ArcTo I) j k) := yes_same (hit_one hlt)
          have e3 : yes (Hit n (Fro I) [(j : Int)] k) = yes (Way (ArcTo I) k j) := yes_same ((hit_one hlt).trans fro_way)
          rw [e2] at c2
          rw [e3] at c3
          have SS : strongN I j = strongN I k ↔ Mut I j k := strong_same
          obtain ⟨sn, hsn⟩ : ∃ sn, sn = strongN I j := ⟨_, rfl⟩
          obtain ⟨sk, hsk⟩ : ∃ sk, sk = strongN I k := ⟨_, rfl⟩
          rw [← hsn] at c0 SS
          rw [← hsk] at c1 SS
          clear hsc htc hfc cs sj e2 e3 hsn hsk
          by_cases g1 : Way (ArcTo I) j k
          · by_cases g2 : Way (ArcTo I) k j
            · have q := SS.2 ⟨g1, g2⟩
              subst q
              rw [yes_true g1] at c2
              rw [yes_true g2] at c3
              have t2 : ((sn : Int) == (sn : Int)) = true := by simp
              clear SS g1 g2
              go_wp2_with fail
              go_quiet (fail)
              go_wp2_with fail
              exact ⟨⟨k + 1, by omega, by simp, below_drew' HB2.out _⟩, by simp [intOf]; omega⟩
            · have q : sn ≠ sk := fun q => g2 (SS.1 q).2
              have t2 : ((sn : Int) == (sk : Int)) = false := by simp; omega
              rw [yes_true g1] at c2
              rw [yes_false g2] at c3
              clear SS g1 g2 q
              go_wp2_with fail
              go_quiet (fail)
              go_wp2_with fail
              exact ⟨⟨k + 1, by omega, by simp, below_drew' HB2.out _⟩, by simp [intOf]; omega⟩
          · have q : sn ≠ sk := fun q => g1 (SS.1 q).1
            have t2 : ((sn : Int) == (sk : Int)) = false := by simp; omega
            rw [yes_false g1] at c2
            clear SS g1 q
            go_wp2_with fail
            go_quiet (fail)
            go_wp2_with fail
            exact ⟨⟨k + 1, by omega, by simp, below_drew' HB2.out _⟩, by simp [intOf]; omega⟩
        · obtain rfl : k = n := by omega
          obtain ⟨sn, hsn⟩ : ∃ sn, sn = strongN I j := ⟨_, rfl⟩
          rw [← hsn] at c0 cs sj
          clear hsc htc hfc hsn
          have q0 : (0 : Int) ≤ (sn : Int) := by omega
          have q1 : (sn : Int) < (k : Int) := by omega
          have q2 : ¬ ((sn : Int) < 0) := by omega
          have q3 : ¬ ((j : Int) < (sn : Int)) := by omega
          have q4 : ((sn : Int) != (sn : Int)) = false := by simp
          go_wp2_with fail
          go_quiet (fail)
          go_wp2_with fail
          exact ⟨⟨j + 1, by omega, by simp, below_drew' (chain2 HB.out (chain2 BV4.out HB2.out)) _⟩, by simp [intOf]; omega⟩
    · obtain rfl : j = n := by omega
      have KN := Lib.hid (fun u => known_any u)
      obtain ⟨w5, hw5⟩ : ∃ w5, w5 = wr := ⟨_, rfl⟩
      subst hw5
      have SC5 := Lib.hid (SC4.out.later (Nat.le_refl _) HB.out)
      have KC5 := Lib.hid (KC4.out.later (Nat.le_refl _) HB.out)
      go_wp2_with fail
      go_loopw [12] (fun s12 u => AtK w5 m s12 u) (fun s12 _ => m - (intOf s12).toNat)
      case atStart => exact ⟨0, Nat.zero_le _, rfl, Below.refl _ _⟩
      case round =>
        obtain ⟨a, ha, rfl, hb⟩ := hrel
        have HB6 := Lib.hid hb
        have B6 := Lib.hid (chain2 B5.out hb)
        have V6 := VI.out _ B6.out
        obtain ⟨x0, x1, x2⟩ := V6.cells
        by_cases hlt2 : a < m
        · obtain ⟨sb, so, es, ls, hsc⟩ := strong_at HN.out (SC5.out.later (Nat.le_refl _) hb) (by omega)
          obtain ⟨kb, ko, ek, lk, hkc⟩ := back_at HM.out (KC5.out.later (Nat.le_refl _) hb) (by omega)
          obtain ⟨q, off, ea, lq, a0, a1, -, -, -⟩ := V6.is.arc a hlt2
          obtain ⟨y1, y2, hy1, hy2, ly1, ly2, -, ar⟩ := fit_nats (FI.out a hlt2)
          have BS := back_strong (FI.out a hlt2) hy1 hy2
          rw [hy1] at a0
          rw [hy2] at a1
          rw [HN.out] at ly1 ly2
          have c0 := hkc a hlt2
          have c1 := hsc y1 ly1
          have c2 := hsc y2 ly2
          obtain ⟨z1, hz1⟩ : ∃ z1, z1 = strongN I y1 := ⟨_, rfl⟩
          obtain ⟨z2, hz2⟩ : ∃ z2, z2 = strongN I y2 := ⟨_, rfl⟩
          rw [← hz1] at c1 BS
          rw [← hz2] at c2 BS
          subst ea es ek
          have k0 : (0 : Int) ≤ (a : Int) := by omega
          have k1 : (a : Int) < (m : Int) := by omega
          have p0 : (0 : Int) ≤ (y1 : Int) := by omega
          have p1 : (y1 : Int) < (j : Int) := by omega
          have q0 : (0 : Int) ≤ (y2 : Int) := by omega
          have q1 : (y2 : Int) < (j : Int) := by omega
          clear hb hsc hkc hy1 hy2 ar hz1 hz2 V6
          by_cases g : z1 = z2
          · have t2 : ((z1 : Int) == (z2 : Int)) = true := by simp [g]
            rw [yes_true (BS.2 g)] at c0
            clear g BS
            go_wp2_with fail
            go_quiet (fail)
            go_wp2_with fail
            exact ⟨⟨a + 1, by omega, by simp, below_drew' HB6.out _⟩, by simp [intOf]; omega⟩
          · have t2 : ((z1 : Int) == (z2 : Int)) = false := by simp; omega
            rw [yes_false (fun h => g (BS.1 h))] at c0
            clear g BS
            go_wp2_with fail
            go_quiet (fail)
            go_wp2_with fail
            exact ⟨⟨a + 1, by omega, by simp, below_drew' HB6.out _⟩, by simp [intOf]; omega⟩
        · obtain rfl : a = m := by omega
          have KK := Lib.hid (KN.out wr)
          have BW := Lib.hid (chain2 B2.out B6.out)
          clear hb V6
          go_wp2_with fail
          refine KK.out.mono ?_
          rintro e w9 ⟨rfl, hb⟩
          have B9 := Lib.hid (chain2 BW.out hb)
          clear hb
          go_wp2_with fail
          go_ret
          exact ⟨rfl, B9.out⟩
end Go.Proofs.Yticaficolgbjkaa.Rch
