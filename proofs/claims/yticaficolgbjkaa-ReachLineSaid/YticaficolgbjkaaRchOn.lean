/- The law ReachOn: its walk. -/
import Derived.Test.YticaficolgbjkaaRchXH
namespace Go.Proofs.Yticaficolgbjkaa.Rch
open Go.RowKit Go.Proofs.Yticaficolgbjkaa.Inst Go.Proofs.Yticaficolgbjkaa.Adj
set_option maxRecDepth 100000

/-- Between rounds: nothing that was there is another one; k is where it stands. -/
def AtK (W2 : World) (m : Nat) (s : Value) (u : World) : Prop := ∃ k : Nat, k ≤ m ∧ s = .int .i64 (k : Int) ∧ Below W2.heap.size W2 u
/-- .. nothing at all. -/
def StillK (U : World) (m : Nat) (s : Value) (u : World) : Prop := ∃ k : Nat, k ≤ m ∧ s = .int .i64 (k : Int) ∧ u = U
/-- .. and whether one of some was found. -/
def IsRel (U : World) (p : Nat → Prop) (t : Nat) (s13 s14 : Value) (u : World) : Prop := ∃ k : Nat, k ≤ t ∧ s14 = .int .i64 (k : Int) ∧ s13 = .bool (yes (∃ j, j < k ∧ p j)) ∧ u = U
theorem yes_or {p : Nat → Prop} (k : Nat) : yes (∃ j, j < k + 1 ∧ p j) = (yes (∃ j, j < k ∧ p j) || yes (p k)) := by
  by_cases h : ∃ j, j < k ∧ p j
  · obtain ⟨j, h1, h2⟩ := h
    rw [yes_true (p := ∃ j, j < k + 1 ∧ p j) ⟨j, by omega, h2⟩, yes_true (p := ∃ j, j < k ∧ p j) ⟨j, h1, h2⟩]
    rfl
  · rw [yes_false h, Bool.false_or]
    refine yes_same ⟨fun ⟨j, h1, h2⟩ => ?_, fun h2 => ⟨k, by omega, h2⟩⟩
    by_cases c : j = k
    · subst c; exact h2
    · exact absurd ⟨j, by omega, h2⟩ h
theorem hit_index {n : Nat} {R : Nat → Nat → Prop} {S : List Int} {j : Nat} : (∃ i, i < S.length ∧ ∃ a : Nat, S.getD i 0 = (a : Int) ∧ a < n ∧ Way (fun x y => R y x) j a) ↔ Hit n R S j := by
  constructor
  · rintro ⟨i, hi, a, h1, h2, h3⟩
    refine ⟨a, ?_, h2, way_back.1 h3⟩
    rw [← h1, List.getD_eq_getElem?_getD, List.getElem?_eq_getElem hi]
    exact List.getElem_mem hi
  · rintro ⟨a, h1, h2, h3⟩
    obtain ⟨i, hi, e⟩ := List.getElem_of_mem h1
    exact ⟨i, hi, a, by rw [List.getD_eq_getElem?_getD, List.getElem?_eq_getElem hi, e]; rfl, h2, way_back.2 h3⟩
set_option maxHeartbeats 8000000 in
theorem on_walk {W : World} (s : Option Addr) (l c : Nat) (xs : List Nat) (hl : xs.length = l) (h9 : l ≤ 140737488355328) (hx : Octs xs) (hs : Cells W W.heap.size s (octV xs)) (s' : Option Addr) (l' c' : Nat) (ys : List Nat) (hl' : ys.length = l') (h9' : l' ≤ 140737488355328) (hy : Octs ys) (hs' : Cells W W.heap.size s' (octV ys))
    (s'' : Option Addr) (l'' c'' : Nat) (zs : List Nat) (hl'' : zs.length = l'') (h9'' : l'' ≤ 140737488355328) (hz : Octs zs) (hs'' : Cells W W.heap.size s'' (octV zs)) :
    Calls Try.prog 4 #[.slice s l c, .slice s' l' c', .slice s'' l'' c''] W fun e W' => e = .returned (.bool true) ∧ Below W.heap.size W W' := by
  obtain ⟨I, hI⟩ : ∃ I, I = instC xs ys := ⟨_, rfl⟩
  obtain ⟨n, hn⟩ : ∃ n, nodesC ys = n := ⟨_, rfl⟩
  obtain ⟨m, hm⟩ : ∃ m, I.arcs.length = m := ⟨_, rfl⟩
  have i0 : I.sup.length = n := by rw [hI, instC_sup, hn]
  have n7 : n ≤ 7 ∧ 1 ≤ n := by rw [← hn]; exact ⟨(nodesC_bd ys).2, (nodesC_bd ys).1⟩
  have m18 : m ≤ 18 := by rw [← hm, hI]; exact instC_arcs xs ys
  have IN := Lib.hid (inst_here s l c xs hl h9 hx s' l' c' ys hl' h9' hy hI hn hm W hs hs')
  have FI := Lib.hid (show ∀ a, a < m → fitD I (a : Int) = true from fun a ha => fit_in (by rw [hI]; exact instC_in xs ys) (by rw [hm]; exact ha))
  have SO := Lib.hid (fun w (h : Below W.heap.size W w) => some_any s'' c'' zs l'' hl'' hz h9'' w (hs''.later (Nat.le_refl _) h))
  obtain ⟨S, hso⟩ : ∃ S, S = someC zs := ⟨_, rfl⟩
  have so6 : S.length ≤ 6 := by rw [hso]; exact someC_length zs
  have SI := Lib.hid (show ∀ x ∈ S, I64 x by rw [hso]; exact someC_small zs)
  obtain ⟨t, ht⟩ : ∃ t, S.length = t := ⟨_, rfl⟩
  rw [← hso, ht] at SO
  rw [ht] at so6
  have HN := Lib.hid i0
  have HM := Lib.hid hm
  have HT := Lib.hid ht
  obtain ⟨n7, n1⟩ := n7
  clear hI hn hm i0 hs hs' hx hy hs'' hz hso ht
  go_enter Try.func4, Try.ntmps4
  go_wp2_with fail
  refine IN.out.mono ?_
  rintro e w1 ⟨sA, A, ca, rfl, -, hh, hb⟩
  obtain ⟨p, hp⟩ : ∃ p, p = w1.heap.size := ⟨_, rfl⟩
  obtain ⟨W2, hW2⟩ : ∃ W2, W2 = w1.alloc (.cells #[.slice (some ⟨sA, 0, none⟩) n n, .slice A m ca] 25) := ⟨_, rfl⟩
  have V2 := Lib.hid (show IVar W2 p _ _ n ca n m I by rw [hW2]; exact IVar.new hh hp)
  have B2 := Lib.hid (show Below W.heap.size W W2 by rw [hW2]; exact hb.alloc hb.size _)
  have VI := Lib.hid (fun u (hu : Below W2.heap.size W2 u) => V2.out.later hu)
  have SO2 := Lib.hid (SO.out W2 B2.out)
  have HW2 := Lib.hid hW2
  have HP := Lib.hid hp
  clear hW2 hh hb IN SO hp
  go_wp2_with fail
  rw [← HW2.out, ← HP.out]
  clear HP HW2
  refine SO2.out.mono ?_
  rintro e w3 ⟨v, rfl, ho, hb⟩
  obtain ⟨-, SA, sc, rfl, -, -, hsc⟩ := own_cells ho
  have B3 := Lib.hid hb
  have SC := Lib.hid hsc
  have FR := Lib.hid (from_any _ _ SA n ca sc n m t I S w3 (VI.out w3 hb).is (by omega) (by omega) SI.out HT.out (by omega) hsc)
  obtain ⟨x0, x1, x2⟩ := (VI.out w3 hb).cells
  clear ho hb hsc SO2
  go_wp2_with fail
  refine FR.out.mono ?_
  rintro e w4 hq
  have hfl : fromL I S = metL n (ArcTo I) S := by unfold fromL; rw [HN.out]
  rw [hfl] at hq
  obtain ⟨FA, fc, rfl, hcc, hb⟩ := marks_cells (metL_length _ _ _) hq
  have B4 := Lib.hid (chain2 B3.out hb)
  have SC4 := Lib.hid (SC.out.later (Nat.le_refl _) hb)
  have FC := Lib.hid hcc
  have V4 := Lib.hid (VI.out w4 B4.out)
  obtain ⟨x0, x1, x2⟩ := V4.out.cells
  clear hq hfl hcc hb FR SC B3
  have t0 : ((n : Int) != (n : Int)) = false := by simp
  go_wp2_with fail
  go_loopw [10] (fun s10 u => StillK w4 m s10 u) (fun s10 _ => m - (intOf s10).toNat)
  case atStart => exact ⟨0, Nat.zero_le _, rfl, rfl⟩
  case round =>
    obtain ⟨k, hk, rfl, rfl⟩ := hrel
    by_cases hlt : k < m
    · obtain ⟨q, off, ea, lq, a0, a1, -, -, -⟩ := V4.out.is.arc k hlt
      obtain ⟨y1, y2, hy1, hy2, ly1, ly2, -, ar⟩ := fit_nats (FI.out k hlt)
      rw [hy1] at a0
      rw [hy2] at a1
      rw [HN.out] at ly1 ly2
      subst ea
      obtain ⟨fb, fo, eb, lf, hcell⟩ := met_at FC.out (by omega)
      subst eb
      have c1 := hcell y1 ly1
      have c2 := hcell y2 ly2
      have cl : Hit n (ArcTo I) S y1 → Hit n (ArcTo I) S y2 := fun ⟨z, z1, z2, z3⟩ => ⟨z, z1, z2, .step z3 ar⟩
      have k0 : (0 : Int) ≤ (k : Int) := by omega
      have k1 : (k : Int) < (m : Int) := by omega
      have p0 : (0 : Int) ≤ (y1 : Int) := by omega
      have p1 : (y1 : Int) < (n : Int) := by omega
      have q0 : (0 : Int) ≤ (y2 : Int) := by omega
      have q1 : (y2 : Int) < (n : Int) := by omega
      clear hcell hy1 hy2 ar
      by_cases h1 : Hit n (ArcTo I) S y1
      · rw [yes_true h1] at c1
        rw [yes_true (cl h1)] at c2
        clear h1 cl
        go_wp2_with fail
        exact ⟨⟨k + 1, by omega, by simp, rfl⟩, by simp [intOf]; omega⟩
      · rw [yes_false h1] at c1
        clear h1 cl c2
        go_wp2_with fail
        exact ⟨⟨k + 1, by omega, by simp, rfl⟩, by simp [intOf]; omega⟩
    · obtain rfl : k = m := by omega
      have KN := Lib.hid (fun u => known_any u)
      obtain ⟨w5, hw5⟩ : ∃ w5, w5 = wr := ⟨_, rfl⟩
      subst hw5
      go_wp2_with fail
      go_loopw [11, 12, 13, 14] (fun s11 s12 s13 s14 u => AtK w5 n s11 u) (fun s11 _ _ _ _ => n - (intOf s11).toNat)
      case atStart => exact ⟨0, Nat.zero_le _, rfl, Below.refl _ _⟩
      case round =>
        obtain ⟨j, hj, rfl, hb⟩ := hrel
        have HB := Lib.hid hb
        have B5 := Lib.hid (chain2 B4.out hb)
        obtain ⟨x0, x1, x2⟩ := (VI.out _ B5.out).cells
        have FC5 := Lib.hid (FC.out.later (Nat.le_refl _) hb)
        have SC5 := Lib.hid (SC4.out.later (Nat.le_refl _) hb)
        clear hb
        by_cases hlt : j < n
        · have jl : (j : Int) < (n : Int) := by omega
          have j0 : (0 : Int) ≤ (j : Int) := by omega
          obtain ⟨v1, hv1⟩ : ∃ v1, v1 = wr.alloc (.cells #[.int .i64 (j : Int)] 3) := ⟨_, rfl⟩
          have BV := Lib.hid (show Below wr.heap.size wr v1 by rw [hv1]; exact (Below.refl _ _).alloc (Nat.le_refl _) _)
          have OC := one_cells wr j
          rw [← hv1] at OC
          have TO := Lib.hid (to_any _ _ (Option.some ⟨wr.heap.size, 0, none⟩) n ca 1 n _ 1 I [(j : Int)] v1 (VI.out _ (chain2 B5.out BV.out)).is (by omega) (by omega) (by intro x hx; simp at hx; subst hx; unfold I64; omega) rfl (by omega) OC)
          have HV := Lib.hid hv1
          clear hv1 OC
          go_wp2_with fail
          rw [← HV.out]
          refine TO.out.mono ?_
          rintro e v2 hq
          have htl : toL I [(j : Int)] = metL n (Fro I) [(j : Int)] := by unfold toL; rw [HN.out]
          rw [htl] at hq
          obtain ⟨BA, bc, rfl, hcc, hb⟩ := marks_cells (metL_length _ _ _) hq
          have BC := Lib.hid hcc
          have BV2 := Lib.hid (chain2 BV.out hb)
          have FC6 := Lib.hid (FC5.out.later (Nat.le_refl _) BV2.out)
          have SC6 := Lib.hid (SC5.out.later (Nat.le_refl _) BV2.out)
          clear hq htl hcc hb TO HV x0 x1 x2
          go_wp2_with fail
          go_loopw [13, 14] (fun s13 s14 u => IsRel v2 (fun i => ∃ a : Nat, S.getD i 0 = (a : Int) ∧ a < n ∧ Way (Fro I) j a) t s13 s14 u) (fun _ s14 _ => t - (intOf s14).toNat)
          case atStart => exact ⟨0, Nat.zero_le _, rfl, by rw [yes_false]; rintro ⟨i, hi, _⟩; omega, rfl⟩
          case round =>
            obtain ⟨i, hi, rfl, rfl, rfl⟩ := hrel
            by_cases hlt2 : i < t
            · have i0 : (0 : Int) ≤ (i : Int) := by omega
              have i1 : (i : Int) < (t : Int) := by omega
              obtain ⟨sb, so, es, ls, hsc⟩ := nums_at SC6.out (by rw [HT.out]; omega)
              have c1 := hsc i (by rw [HT.out]; exact hlt2)
              obtain ⟨x, hx⟩ : ∃ x, x = S[i]'(by rw [HT.out]; exact hlt2) := ⟨_, rfl⟩
              rw [← hx] at c1
              have x6 : I64 x := by rw [hx]; exact SI.out _ (List.getElem_mem _)
              unfold I64 at x6
              have gx : S.getD i 0 = x := by rw [hx, List.getD_eq_getElem?_getD, List.getElem?_eq_getElem (by rw [HT.out]; exact hlt2)]; rfl
              have YO := yes_or (p := fun i => ∃ a : Nat, S.getD i 0 = (a : Int) ∧ a < n ∧ Way (Fro I) j a) i
              obtain ⟨b0, hb0⟩ : ∃ b0, b0 = yes (∃ k, k < i ∧ ∃ a : Nat, S.getD k 0 = (a : Int) ∧ a < n ∧ Way (Fro I) j a) := ⟨_, rfl⟩
              rw [← hb0] at YO ⊢
              obtain ⟨bb, bo, eb, lb, hbc⟩ := met_at BC.out (by omega)
              subst es eb
              clear hsc hx hb0
              cases b0 with
              | true =>
                have Y1 := Lib.hid YO
                clear YO gx hbc
                go_wp2_with fail
                exact ⟨⟨i + 1, by omega, by simp, by rw [Y1.out]; rfl, rfl⟩, by simp [intOf]; omega⟩
              | false =>
                rw [Bool.false_or, gx] at YO
                by_cases g0 : 0 ≤ x
                · by_cases g1 : x < (n : Int)
                  · obtain ⟨a, rfl⟩ : ∃ a : Nat, x = (a : Int) := ⟨x.toNat, by omega⟩
                    have c2 := hbc a (by omega)
                    have e2 : yes (Hit n (Fro I) [(j : Int)] a) = yes (∃ a' : Nat, (a : Int) = (a' : Int) ∧ a' < n ∧ Way (Fro I) j a') := by
                      refine yes_same ⟨fun h => ⟨a, rfl, by omega, (hit_one hlt).1 h⟩, fun ⟨a', h1, _, h3⟩ => (hit_one hlt).2 ?_⟩
                      rw [Int.ofNat_inj.1 h1]
                      exact h3
                    rw [e2, ← YO] at c2
                    obtain ⟨y, hy⟩ : ∃ y, y = yes (∃ k, k < i + 1 ∧ ∃ a : Nat, S.getD k 0 = (a : Int) ∧ a < n ∧ Way (Fro I) j a) := ⟨_, rfl⟩
                    rw [← hy] at c2
                    have Y1 := Lib.hid hy
                    clear YO gx hbc e2 hy
                    cases y with
                    | true =>
                      go_wp2_with fail
                      exact ⟨⟨i + 1, by omega, by simp, by rw [← Y1.out], rfl⟩, by simp [intOf]; omega⟩
                    | false =>
                      go_wp2_with fail
                      exact ⟨⟨i + 1, by omega, by simp, by rw [← Y1.out], rfl⟩, by simp [intOf]; omega⟩
                  · have Y1 := Lib.hid (YO.trans (yes_false (by rintro ⟨a, h1, h2, _⟩; omega)))
                    clear YO gx hbc
                    go_wp2_with fail
                    exact ⟨⟨i + 1, by omega, by simp, by rw [Y1.out], rfl⟩, by simp [intOf]; omega⟩
                · have Y1 := Lib.hid (YO.trans (yes_false (by rintro ⟨a, h1, h2, _⟩; omega)))
                  clear YO gx hbc
                  go_wp2_with fail
                  exact ⟨⟨i + 1, by omega, by simp, by rw [Y1.out], rfl⟩, by simp [intOf]; omega⟩
            · obtain rfl : i = t := by omega
              have HE : yes (∃ k, k < i ∧ ∃ a : Nat, S.getD k 0 = (a : Int) ∧ a < n ∧ Way (Fro I) j a) = yes (Hit n (ArcTo I) S j) := by
                rw [← HT.out]
                exact yes_same hit_index
              rw [HE]
              obtain ⟨fb, fo, ef, lf, hfc⟩ := met_at FC6.out (by omega)
              have c1 := hfc j hlt
              obtain ⟨y, hy⟩ : ∃ y, y = yes (Hit n (ArcTo I) S j) := ⟨_, rfl⟩
              rw [← hy] at c1 ⊢
              subst ef
              clear hfc hy HE
              cases y with
              | true =>
                go_wp2_with fail
                exact ⟨⟨j + 1, by omega, by simp, chain2 HB.out BV2.out⟩, by simp [intOf]; omega⟩
              | false =>
                go_wp2_with fail
                exact ⟨⟨j + 1, by omega, by simp, chain2 HB.out BV2.out⟩, by simp [intOf]; omega⟩
        · obtain rfl : j = n := by omega
          have KK := Lib.hid (KN.out wr)
          have BW := Lib.hid (chain2 B2.out B5.out)
          go_wp2_with fail
          refine KK.out.mono ?_
          rintro e w9 ⟨rfl, hb⟩
          have B9 := Lib.hid (chain2 BW.out hb)
          clear hb
          go_wp2_with fail
          go_ret
          exact ⟨rfl, B9.out⟩
end Go.Proofs.Yticaficolgbjkaa.Rch
