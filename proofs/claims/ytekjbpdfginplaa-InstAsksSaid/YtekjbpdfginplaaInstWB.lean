/- The law InstBent: its walk. -/
import Derived.Test.YtekjbpdfginplaaInstT
import Derived.Test.YtekjbpdfginplaaInstH
import Derived.Test.YtekjbpdfginplaaInstO
namespace Go.Proofs.Ytekjbpdfginplaa.Inst
open Go.RowKit

/-- An instance made so is one. -/
theorem Made.here {w u : World} {sB n m cap : Nat} {A : Option Addr} {I : InstD} (h : Made w u sB (.slice A m cap) I.sup I.arcs) (hn : I.sup.length = n) (hm : I.arcs.length = m) (h1 : n ≤ 17592186044416) (h2 : m ≤ 17592186044416) : Here u (some ⟨sB, 0, none⟩) A n m I := by
  subst hn hm
  exact ⟨⟨h1, h2, cells_blk h.sup, own_row h.arcs⟩, rfl, rfl⟩
theorem bentD_sup (I : InstD) (p f : Nat) (x : Int) : (bentD I p f x).sup.length = I.sup.length := by
  unfold bentD
  split
  · simp
  · rfl
theorem bentD_arcs (I : InstD) (p f : Nat) (x : Int) : (bentD I p f x).arcs.length = I.arcs.length := by
  unfold bentD
  split
  · rfl
  · simp
theorem instC_arcs (c d : List Nat) : (instC c d).arcs.length ≤ 18 := by
  show (arcsC _ _).length ≤ _
  rw [arcsC_length]
  omega

theorem arcW_bd (n : Int) (a : ArcD) : 0 ≤ arcW n a ∧ arcW n a ≤ 23 := by
  unfold arcW
  (repeat' split) <;> omega
theorem arcsW_bd (n : Int) : ∀ l, 0 ≤ arcsW n l ∧ arcsW n l ≤ 23
  | [] => by unfold arcsW; omega
  | a :: r => by
    unfold arcsW
    split
    · exact arcW_bd n a
    · exact arcsW_bd n r
theorem rightD_bd (I : InstD) : 0 ≤ rightD I ∧ rightD I ≤ 65535 := by
  have := arcsW_bd I.sup.length I.arcs
  unfold rightD
  (repeat' split) <;> omega
theorem wrap_id {r : Int} (h0 : 0 ≤ r) (h1 : r ≤ 65535) : IntKind.i64.wrap r = r := by
  simp only [IntKind.wrap_i64]
  omega
set_option maxRecDepth 100000 in
set_option maxHeartbeats 4000000 in
theorem bent_walk {W : World} (s : Option Addr) (l c : Nat) (xs : List Nat) (hl : xs.length = l) (h9 : l ≤ 140737488355328) (hx : Octs xs) (hs : Cells W W.heap.size s (octV xs)) (s' : Option Addr) (l' c' : Nat) (ys : List Nat) (hl' : ys.length = l') (h9' : l' ≤ 140737488355328) (hy : Octs ys) (hs' : Cells W W.heap.size s' (octV ys))
    (a2 : Int) (h2 : U8 a2) (a3 : Int) (h3 : U8 a3) (a4 : Int) (_h4 : I64 a4) (a5 : Int) (h5 : U8 a5) (a6 : Int) (h6 : U8 a6) (a7 : Int) (_h7 : I64 a7) :
    Calls Try.prog 4 #[.slice s l c, .slice s' l' c', .int .u8 a2, .int .u8 a3, .int .i64 a4, .int .u8 a5, .int .u8 a6, .int .i64 a7] W fun e W' => e = .returned (.bool true) ∧ Below W.heap.size W W' := by
  unfold U8 at h2 h3 h5 h6
  obtain ⟨p2, rfl⟩ : ∃ n : Nat, a2 = n := ⟨a2.toNat, by omega⟩
  obtain ⟨p3, rfl⟩ : ∃ n : Nat, a3 = n := ⟨a3.toNat, by omega⟩
  obtain ⟨p5, rfl⟩ : ∃ n : Nat, a5 = n := ⟨a5.toNat, by omega⟩
  obtain ⟨p6, rfl⟩ : ∃ n : Nat, a6 = n := ⟨a6.toNat, by omega⟩
  have IN := Lib.hid (inst_any s s' c c' xs ys hx hy (by omega) (by omega) W hs hs')
  rw [hl, hl'] at IN
  obtain ⟨I, hI⟩ : ∃ I, I = instC xs ys := ⟨_, rfl⟩
  have i0 := instC_sup xs ys
  have i1 := instC_arcs xs ys
  have i2 := nodesC_bd ys
  rw [← hI] at IN i0 i1
  obtain ⟨n, hn⟩ : ∃ n, n = nodesC ys := ⟨_, rfl⟩
  rw [← hn] at IN i0 i2
  obtain ⟨m, hm⟩ : ∃ m, m = I.arcs.length := ⟨_, rfl⟩
  rw [← hm] at i1
  have HN := Lib.hid i0
  have HM := Lib.hid hm.symm
  obtain ⟨J, hJ⟩ : ∃ J, J = bentD I p2 p3 a4 := ⟨_, rfl⟩
  obtain ⟨K, hK⟩ : ∃ K, K = bentD J p5 p6 a7 := ⟨_, rfl⟩
  have JN := Lib.hid (show J.sup.length = n by rw [hJ, bentD_sup]; exact i0)
  have JM := Lib.hid (show J.arcs.length = m by rw [hJ, bentD_arcs]; exact hm.symm)
  have KN := Lib.hid (show K.sup.length = n by rw [hK, bentD_sup]; exact JN.out)
  have KM := Lib.hid (show K.arcs.length = m by rw [hK, bentD_arcs]; exact JM.out)
  have B1 := Lib.hid (fun sB A cap w' (h : Made W w' sB (.slice A m cap) I.sup I.arcs) => bend_any W sB A cap I n m p2 p3 a4 i0 hm.symm (by omega) (by omega) (by omega) (by omega) (by omega) w' h)
  have B2 := Lib.hid (fun sB A cap w' (h : Made W w' sB (.slice A m cap) J.sup J.arcs) => bend_any W sB A cap J n m p5 p6 a7 JN.out JM.out (by omega) (by omega) (by omega) (by omega) (by omega) w' h)
  rw [← hJ] at B1
  rw [← hK] at B2
  have KW := Lib.hid (fun w => known_any w)
  have e : (rightD K == rightD K) = true := by simp
  have RB : 0 ≤ rightD K ∧ rightD K ≤ 65535 := rightD_bd K
  obtain ⟨r, hr⟩ : ∃ r, rightD K = r := ⟨_, rfl⟩
  rw [hr] at e RB
  have HR := Lib.hid hr
  obtain ⟨RB0, RB1⟩ := RB
  clear hI hn hJ hK hm i0 hr hs hs' hx hy
  go_enter Try.func4, Try.ntmps4
  go_upto_region 2 with (go_at_call 12; (with_reducible refine IN.out.mono ?_); rintro e w1 ⟨sB, aV, rfl, hM⟩; obtain ⟨-, A, cap, ea, -, -, -⟩ := own_cells hM.arcs; subst ea; rw [HM.out] at hM; rw [HM.out]; have M1 := Lib.hid hM; clear hM)
  have M2 := Lib.hid (M1.out.alloc (.cells #[.slice (some ⟨sB, 0, none⟩) n n, .slice A m cap] 25))
  obtain ⟨p, hp⟩ : ∃ p, p = w1.heap.size := ⟨_, rfl⟩
  have PB := Lib.hid (show p ≠ sB by rw [hp]; have := M1.out.sup.lt; omega)
  have PA := Lib.hid (show (Value.slice A m cap).ownBlock ≠ some p from fun e => by have := own_lt M1.out.arcs _ e; omega)
  have BX := Lib.hid (show Blk (w1.alloc (.cells #[.slice (some ⟨sB, 0, none⟩) n n, .slice A m cap] 25)) p 25 #[.slice (some ⟨sB, 0, none⟩) n n, .slice A m cap] from blk_at hp.symm _ _)
  rw [← hp]
  generalize w1.alloc _ = W2 at *
  have x0 := BX.out.cell 0
  have x1 := BX.out.cell 1
  have x2 := BX.out.lt
  simp at x0 x1
  clear hp
  go_upto_region 4 with (first
    | (go_at_call 19; (with_reducible refine (B1.out _ _ _ _ M2.out).mono ?_); rintro e w3 ⟨⟨v, rfl⟩, hM3, hR3⟩; have M3 := Lib.hid hM3; have BX3 := Lib.hid (BX.out.rest hR3 PB.out PA.out); have z0 := BX3.out.cell 0; have z1 := BX3.out.cell 1; have z2 := BX3.out.lt; simp at z0 z1; clear hM3 hR3)
    | (go_at_call 19; (with_reducible refine (B2.out _ _ _ _ M3.out).mono ?_); rintro e w4 ⟨⟨v, rfl⟩, hM4, hR4⟩; have M4 := Lib.hid hM4; have BX4 := Lib.hid (BX3.out.rest hR4 PB.out PA.out); have u0 := BX4.out.cell 0; have u1 := BX4.out.cell 1; have u2 := BX4.out.lt; simp at u0 u1; clear hM4 hR4))
  have HK := Lib.hid (M4.out.here (I := K) KN.out KM.out (by omega) (by omega))
  have RK := Lib.hid (fun w' (h : Below w4.heap.size w4 w') => (HK.out.later h).right n cap r HR.out)
  have RR := Lib.hid (fun w' (h : Below w4.heap.size w4 w') => (HK.out.later h).rright n cap r HR.out)
  have W4 := Lib.hid M4.out.below
  go_cut [16] (fun s16 wx => s16 = .bool true ∧ Below W.heap.size W wx)
  case first =>
    have HB := Lib.hid (Below.refl w4.heap.size w4)
    go_region_with (first
      | (go_at_call 11; (refine (KW.out _).mono ?_); rintro e wn ⟨rfl, hb⟩; have HB1 := Lib.hid (chain2 (w := w4) (by repeat (first | exact Below.refl _ _ | refine Below.drew ?_)) hb)
         have q0 := (BX4.out.below HB1.out BX4.out.lt).cell 0; have q1 := (BX4.out.below HB1.out BX4.out.lt).cell 1; simp at q0 q1; have q2 := (BX4.out.below HB1.out BX4.out.lt).lt; clear hb)
      | (go_at_call 20; (with_reducible refine (RK.out _ ?bb).mono ?_); (case bb => repeat (first | exact HB1.out | refine Below.drew ?_)); rintro e wr ⟨rfl, hb⟩; have HB2 := Lib.hid (chain2 (w := w4) (by repeat (first | exact HB1.out | refine Below.drew ?_)) hb)
         have v0 := (BX4.out.below HB2.out BX4.out.lt).cell 0; have v1 := (BX4.out.below HB2.out BX4.out.lt).cell 1; simp at v0 v1; have v2 := (BX4.out.below HB2.out BX4.out.lt).lt; clear hb)
      | (go_at_call 21; (with_reducible refine (RR.out _ ?bb).mono ?_); (case bb => repeat (first | exact HB2.out | refine Below.drew ?_)); rintro e ws ⟨rfl, hb⟩; have HB3 := Lib.hid (chain2 (w := w4) (by repeat (first | exact HB2.out | refine Below.drew ?_)) hb); clear hb))
    all_goals
      go_wp2_with fail
      go_meet
      case rel => exact ⟨by simp [wrap_id RB0 RB1], chain2 W4.out HB3.out⟩
  case rest =>
    obtain ⟨rfl, hb⟩ := hcut
    have HB := Lib.hid hb
    go_wp2_with fail
    go_ret
    exact ⟨rfl, HB.out⟩
end Go.Proofs.Ytekjbpdfginplaa.Inst
