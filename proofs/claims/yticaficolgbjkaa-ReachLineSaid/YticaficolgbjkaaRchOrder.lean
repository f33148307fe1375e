/- The law ReachOrder: its walk. -/
import Derived.Test.YticaficolgbjkaaRchForth
import Derived.Test.YticaficolgbjkaaRchOn
import Derived.Deep.QuietTactic
import Derived.BigQuiet
namespace Go.Proofs.Yticaficolgbjkaa.Rch
open Go.RowKit Go.Proofs.Yticaficolgbjkaa.Inst Go.Proofs.Yticaficolgbjkaa.Adj
set_option maxRecDepth 100000

theorem place_idx : ∀ (l : List Nat) (x k : Nat), x ∈ l → placeF l (x : Int) k = ((k + l.idxOf x : Nat) : Int)
  | [], _, _, h => by cases h
  | y :: r, x, k, h => by
    by_cases e : y = x
    · subst e
      rw [placeF, if_pos rfl]
      simp
    · have h2 : x ∈ r := by
        rcases List.mem_cons.1 h with q | q
        · exact absurd q.symm e
        · exact q
      rw [placeF, if_neg (by omega), place_idx r x (k + 1) h2, List.idxOf_cons, show (y == x) = false by simp [e]]
      show _ = ((k + (r.idxOf x + 1) : Nat) : Int)
      congr 1
      omega
theorem place_D {l : List Nat} {x : Nat} (h : x ∈ l) : placeD l (x : Int) = (l.idxOf x : Int) := by
  unfold placeD
  rw [place_idx l x 0 h, Nat.zero_add]
/-- Whether some arc lies on a way back, among the first k. -/
def RoundRel (J : InstD) (U : World) (m : Nat) (s9 s10 : Value) (u : World) : Prop := ∃ k : Nat, k ≤ m ∧ s10 = .int .i64 (k : Int) ∧ s9 = .bool (yes (∃ j, j < k ∧ BackP J j)) ∧ u = U
theorem ok_round {J : InstD} {m : Nat} (hm : J.arcs.length = m) : okD J = !(yes (∃ j, j < m ∧ BackP J j)) := by
  by_cases h : ∃ j, j < m ∧ BackP J j
  · rw [yes_true h]
    obtain ⟨j, _, hj⟩ := h
    cases e : okD J with
    | false => rfl
    | true => exact absurd hj (ok_back.1 e j)
  · rw [yes_false h]
    refine ok_back.2 fun a ha => h ⟨a, ?_, ha⟩
    obtain ⟨_, _, _, _, _, _, hk, _⟩ := fit_nats ha.1
    omega
theorem told_yes {J : InstD} (h : okD J = true) : toldL J = orderL J ∧ (orderL J).length = J.sup.length := by
  have : (orderL J).length = J.sup.length := of_decide_eq_true h
  exact ⟨(ok_true this).2, this⟩
theorem told_no {J : InstD} (h : okD J = false) : toldL J = [] := by
  unfold toldL
  rw [if_neg (by rw [h]; simp)]
theorem bback_at {w : World} {A : Option Addr} {I : InstD} {m : Nat} (hm : I.arcs.length = m) (h : Cells w w.heap.size A (boolV (backL I))) (h0 : 0 < m) :
    ∃ b off, A = some ⟨b, off, none⟩ ∧ b < w.heap.size ∧ ∀ k, k < m → w.cell? ⟨b, off + k, none⟩ = some (.bool (yes (BackP I k))) := by
  obtain ⟨b, off, e, hb, hc⟩ := bools_at h (by rw [backL_length, hm]; exact h0)
  refine ⟨b, off, e, hb, fun k hk => ?_⟩
  rw [hc k (by rw [backL_length, hm]; exact hk)]
  simp [backL]

set_option maxHeartbeats 16000000 in
theorem order_walk {W : World} (s : Option Addr) (l c : Nat) (xs : List Nat) (hl : xs.length = l) (h9 : l ≤ 140737488355328) (hx : Octs xs) (hs : Cells W W.heap.size s (octV xs)) (s' : Option Addr) (l' c' : Nat) (ys : List Nat) (hl' : ys.length = l') (h9' : l' ≤ 140737488355328) (hy : Octs ys) (hs' : Cells W W.heap.size s' (octV ys)) :
    Calls Try.prog 6 #[.slice s l c, .slice s' l' c'] W fun e W' => e = .returned (.bool true) ∧ Below W.heap.size W W' := by
  have FO := Lib.hid (forth_any s l c xs hl h9 hx hs s' l' c' ys hl' h9' hy hs')
  have KN := Lib.hid (fun u => known_any u)
  clear hs hs' hx hy
  go_enter Try.func6, Try.ntmps6
  go_wp2_with fail
  refine FO.out.mono ?_
  rintro e w1 ⟨J, n, m, sA, A, ca, rfl, hh, hE, n1, n7, m18, hb⟩
  have HN := Lib.hid hh.n
  have HM := Lib.hid hh.m
  have FI := Lib.hid (show ∀ a, a < m → fitD J (a : Int) = true from fun a ha => Ends.fit (by rw [hh.n]; exact hE) (by rw [hh.m]; exact ha))
  obtain ⟨p, hp⟩ : ∃ p, p = w1.heap.size := ⟨_, rfl⟩
  obtain ⟨W2, hW2⟩ : ∃ W2, W2 = w1.alloc (.cells #[.slice (some ⟨sA, 0, none⟩) n n, .slice A m ca] 25) := ⟨_, rfl⟩
  have V2 := Lib.hid (show IVar W2 p _ _ n ca n m J by rw [hW2]; exact IVar.new hh hp)
  have B2 := Lib.hid (show Below W.heap.size W W2 by rw [hW2]; exact hb.alloc hb.size _)
  have VI := Lib.hid (fun u (hu : Below W2.heap.size W2 u) => V2.out.later hu)
  have OR := Lib.hid (Order_any _ _ n ca n m J W2 V2.out.is (by omega) (by omega))
  have HW2 := Lib.hid hW2
  have HP := Lib.hid hp
  clear hW2 hh hb hp FO hE
  go_wp2_with fail
  rw [← HW2.out, ← HP.out]
  clear HP HW2
  refine OR.out.mono ?_
  rintro e w3 ⟨TA, tc, rfl, -, hc, hb⟩
  obtain ⟨T, hT⟩ : ∃ T, toldL J = T := ⟨_, rfl⟩
  obtain ⟨r, hr⟩ : ∃ r, okD J = r := ⟨_, rfl⟩
  rw [hT, hr]
  rw [hT] at hc
  have T9 := Lib.hid (show T.length ≤ 1000 by
    rw [← hT]
    cases r with
    | true => obtain ⟨q1, q2⟩ := told_yes hr; rw [q1, q2, HN.out]; omega
    | false => rw [told_no hr]; simp)
  have B3 := Lib.hid hb
  have TC := Lib.hid hc
  have HR := Lib.hid hr
  have HT := Lib.hid hT
  have BA := Lib.hid (Back_any _ _ n ca n m J w3 (VI.out w3 hb).is (by omega) (by omega))
  obtain ⟨x0, x1, x2⟩ := (VI.out w3 hb).cells
  clear hb hc OR hr hT
  go_wp2_with fail
  refine BA.out.mono ?_
  rintro e w4 hq
  obtain ⟨KA, kc, rfl, hcc, hb⟩ := marks_cells (show (backL J).length = m from (backL_length J).trans HM.out) hq
  have B4 := Lib.hid (chain2 B3.out hb)
  have TC4 := Lib.hid (TC.out.later (Nat.le_refl _) hb)
  have KC4 := Lib.hid hcc
  clear hb hq hcc BA TC B3 x0 x1 x2
  obtain ⟨x0, x1, x2⟩ := (VI.out w4 B4.out).cells
  go_wp2_with fail
  go_loopw [9, 10] (fun s9 s10 u => RoundRel J w4 m s9 s10 u) (fun _ s10 _ => m - (intOf s10).toNat)
  case atStart => exact ⟨0, Nat.zero_le _, rfl, by rw [yes_false]; rintro ⟨j, hj, _⟩; omega, rfl⟩
  case round =>
    obtain ⟨k, hk, rfl, rfl, rfl⟩ := hrel
    by_cases hlt : k < m
    · obtain ⟨kb, ko, ek, lk, hkc⟩ := bback_at HM.out KC4.out (by omega)
      have c1 := hkc k hlt
      have YO := yes_or (p := BackP J) k
      obtain ⟨b0, hb0⟩ : ∃ b0, b0 = yes (∃ j, j < k ∧ BackP J j) := ⟨_, rfl⟩
      obtain ⟨b1, hb1⟩ : ∃ b1, b1 = yes (BackP J k) := ⟨_, rfl⟩
      rw [← hb0] at YO ⊢
      rw [← hb1] at YO c1
      subst ek
      have k0 : (0 : Int) ≤ (k : Int) := by omega
      have k1 : (k : Int) < (m : Int) := by omega
      have Y1 := Lib.hid YO
      clear hkc hb0 hb1 YO
      cases b0 with
      | true =>
        go_wp2_with fail
        exact ⟨⟨k + 1, by omega, by simp, by rw [Y1.out]; rfl, rfl⟩, by simp [intOf]; omega⟩
      | false =>
        cases b1 with
        | true =>
          go_wp2_with fail
          exact ⟨⟨k + 1, by omega, by simp, by rw [Y1.out]; rfl, rfl⟩, by simp [intOf]; omega⟩
        | false =>
          go_wp2_with fail
          exact ⟨⟨k + 1, by omega, by simp, by rw [Y1.out]; rfl, rfl⟩, by simp [intOf]; omega⟩
    · obtain rfl : m = k := by omega
      have t1 : ¬ ((m : Int) < (m : Int)) := by omega
      have OKR := ok_round HM.out
      rw [HR.out] at OKR
      obtain ⟨y, hy⟩ : ∃ y, y = yes (∃ j, j < m ∧ BackP J j) := ⟨_, rfl⟩
      rw [← hy] at OKR ⊢
      obtain ⟨w5, hw5⟩ : ∃ w5, w5 = wr := ⟨_, rfl⟩
      subst hw5
      clear hy
      cases y with
      | true =>
        simp at OKR
        subst OKR
        have T0 : T.length = 0 := by rw [← HT.out, told_no HR.out]; rfl
        have T1 : ((T.length : Int) == 0) = true := by rw [T0]; rfl
        have K := Lib.hid (KN.out w5)
        have BW := Lib.hid (chain2 B2.out B4.out)
        clear T0
        go_wp2_with fail
        refine K.out.mono ?_
        rintro e w6 ⟨rfl, hb⟩
        have B6 := Lib.hid (chain2 BW.out hb)
        clear hb K
        go_wp2_with fail
        go_ret
        exact ⟨rfl, B6.out⟩
      | false =>
        simp at OKR
        subst OKR
        obtain ⟨q1, q2⟩ := told_yes HR.out
        have TE := Lib.hid (show T = orderL J from HT.out.symm.trans q1)
        have TL := Lib.hid (show T.length = n by rw [TE.out, q2]; exact HN.out)
        have IX := Lib.hid (show ∀ x : Nat, x < n → placeD T (x : Int) = (T.idxOf x : Int) from fun x hx => place_D (by rw [TE.out]; exact ok_all HR.out x (by rw [HN.out]; exact hx)))
        have PL := Lib.hid (fun u (hu : Below w5.heap.size w5 u) (x : Int) => (show Calls Try.prog 21 #[.slice TA T.length tc, .int .i64 x] u fun e w' => e = .returned (.int .i64 (placeD T x)) ∧ w' = u from (place_any TA tc T T9.out x u (TC4.out.later (Nat.le_refl _) hu)).mono fun _ _ h => ⟨h.1, h.2.symm⟩))
        have GO := Lib.hid (show ∀ a b : Nat, ArcTo J a b → T.idxOf a < T.idxOf b from fun a b h => by rw [TE.out]; exact ok_goes HR.out h)
        clear q1 q2
        go_wp2_with fail
        go_loopw [11] (fun s11 u => AtK w5 m s11 u) (fun s11 _ => m - (intOf s11).toNat)
        case atStart => exact ⟨0, Nat.zero_le _, rfl, Below.refl _ _⟩
        case round =>
          obtain ⟨k, hk, rfl, hb⟩ := hrel
          have HB := Lib.hid hb
          have V6 := VI.out _ (chain2 B4.out hb)
          obtain ⟨x0, x1, x2⟩ := V6.cells
          by_cases hlt : k < m
          · obtain ⟨q, off, ea, lq, a0, a1, -, -, -⟩ := V6.is.arc k hlt
            obtain ⟨y1, y2, hy1, hy2, ly1, ly2, -, ar⟩ := fit_nats (FI.out k hlt)
            rw [hy1] at a0
            rw [hy2] at a1
            rw [HN.out] at ly1 ly2
            have z12 := GO.out _ _ ar
            obtain ⟨z1, hz1⟩ : ∃ z, z = T.idxOf y1 := ⟨_, rfl⟩
            obtain ⟨z2, hz2⟩ : ∃ z, z = T.idxOf y2 := ⟨_, rfl⟩
            rw [← hz1, ← hz2] at z12
            have P1 := Lib.hid (show ∀ N, Calls Try.prog 21 #[.slice TA T.length tc, .int .i64 (y1 : Int)] (wr.drewN N) fun e w' => e = .returned (.int .i64 (z1 : Int)) ∧ w' = wr.drewN N from fun N => by have q := PL.out (wr.drewN N) (below_drewN HB.out N) (y1 : Int); rw [IX.out y1 ly1, ← hz1] at q; exact q)
            have P2 := Lib.hid (show ∀ N, Calls Try.prog 21 #[.slice TA T.length tc, .int .i64 (y2 : Int)] (wr.drewN N) fun e w' => e = .returned (.int .i64 (z2 : Int)) ∧ w' = wr.drewN N from fun N => by have q := PL.out (wr.drewN N) (below_drewN HB.out N) (y2 : Int); rw [IX.out y2 ly2, ← hz2] at q; exact q)
            subst ea
            have k0 : (0 : Int) ≤ (k : Int) := by omega
            have k1 : (k : Int) < (m : Int) := by omega
            have t2 : ¬ ((z2 : Int) ≤ (z1 : Int)) := by omega
            clear hb V6 hy1 hy2 ar hz1 hz2 z12
            go_wp2_with fail
            go_quiet ((first | (go_at_call 21; (with_reducible exact Calls.quiet_of_same (P1.out _))) | (go_at_call 21; (with_reducible exact Calls.quiet_of_same (P2.out _)))))
            go_wp2_with fail
            exact ⟨⟨k + 1, by omega, by simp, below_drewN HB.out _⟩, by simp [intOf]; omega⟩
          · obtain rfl : m = k := by omega
            have t1 : ¬ ((m : Int) < (m : Int)) := by omega
            obtain ⟨w6, hw6⟩ : ∃ w6, w6 = wr := ⟨_, rfl⟩
            subst hw6
            clear hb V6
            go_wp2_with fail
            go_loopw [12] (fun s12 u => AtK w6 n s12 u) (fun s12 _ => n - (intOf s12).toNat)
            case atStart => exact ⟨0, Nat.zero_le _, rfl, Below.refl _ _⟩
            case round =>
              obtain ⟨j, hj, rfl, hb⟩ := hrel
              have HB2 := Lib.hid (chain2 HB.out hb)
              obtain ⟨x0, x1, x2⟩ := (VI.out _ (chain2 B4.out HB2.out)).cells
              have HB3 := Lib.hid hb
              clear hb
              by_cases hlt2 : j < n
              · obtain ⟨z1, hz1⟩ : ∃ z, z = T.idxOf j := ⟨_, rfl⟩
                have P1 := Lib.hid (show Calls Try.prog 21 #[.slice TA T.length tc, .int .i64 (j : Int)] wr fun e w' => e = .returned (.int .i64 (z1 : Int)) ∧ w' = wr from by have q := PL.out wr HB2.out (j : Int); rw [IX.out j hlt2, ← hz1] at q; exact q)
                have t2 : ¬ ((z1 : Int) < 0) := by omega
                have j1 : (j : Int) < (n : Int) := by omega
                clear hz1
                go_wp2_with fail
                refine P1.out.mono ?_
                rintro e v ⟨rfl, rfl⟩
                go_wp2_with fail
                exact ⟨⟨j + 1, by omega, by simp, HB3.out⟩, by simp [intOf]; omega⟩
              · obtain rfl : n = j := by omega
                have t2 : ¬ ((n : Int) < (n : Int)) := by omega
                have tq : ((T.length : Int) == (n : Int)) = true := by rw [TL.out]; simp
                have K := Lib.hid (KN.out wr)
                have BW := Lib.hid (chain2 B2.out (chain2 B4.out HB2.out))
                go_wp2_with fail
                refine K.out.mono ?_
                rintro e w7 ⟨rfl, hb⟩
                have B7 := Lib.hid (chain2 BW.out hb)
                obtain ⟨x0, x1, x2⟩ := (VI.out _ (chain2 B4.out (chain2 HB2.out hb))).cells
                clear hb K
                go_wp2_with fail
                go_ret
                exact ⟨rfl, B7.out⟩
end Go.Proofs.Yticaficolgbjkaa.Rch
