/- The walk of does. -/
import Derived.Test.YtoccgpkpmhkeiaaUniK
namespace Go.Proofs.Ytoccgpkpmhkeiaa.Uni
open Go.RowKit Go.Proofs.Ytoccgpkpmhkeiaa.Inst

/-- At the head of the loop of does. -/
def DoesRel (Un : World → Nat → Nat → Nat → List Nat → Prop) (w : World) (N : Int) (G : List (List Int)) (b hi p n : Nat) (s7 : Value) (u : World) : Prop :=
  ∃ (k : Nat) (A : Option Addr) (c : Nat), s7 = .int .i64 (k : Int) ∧ k ≤ G.length ∧ Blk u p tS #[.slice A n c] ∧ Un u b w.heap.size hi (joinsZ N G k) ∧ Past u hi A (natV (joinsZ N G k)) ∧ Below w.heap.size w u

set_option maxRecDepth 100000 in
set_option maxHeartbeats 8000000 in
theorem does_any {Un : World → Nat → Nat → Nat → List Nat → Prop} (C : UniC Un) (N : Int) (hN : I64 N) (hN9 : N ≤ 1000) (v : Value) (G : List (List Int)) (hG : G.length ≤ 100000) (hG2 : ∀ i (h : i < G.length), G[i].length ≤ 100000) (hG3 : ∀ i (h : i < G.length), ∀ x ∈ G[i], I64 x) (w : World) (hl : ZGrid w w.heap.size v G) :
    Calls Try.prog 9 #[.int .i64 N, v] w fun e w' => e = .returned (.bool true) ∧ Below w.heap.size w w' := by
  have NW := Lib.hid (C.new N w hN hN9)
  have RN := Lib.hid (fun w' => rnew_any N hN hN9 w')
  have LA := Lib.hid (fun (w u : World) (b lo hi : Nat) (L : List Nat) (h : Un w b lo hi L) (hb : Below w.heap.size w u) => C.later h hb)
  have IS := Lib.hid (fun (w : World) (b lo hi : Nat) (L : List Nat) (h : Un w b lo hi L) => C.is h)
  have DE := Lib.hid (fun w0 b lo hi L A p n c => deeds C w0 b lo hi L A p n c)
  have RJ := Lib.hid (fun A c n lo L hn h9 a b w' => rjoin_any A c n lo L hn h9 a b w')
  have JO := Lib.hid (fun b lo hi L x y w' => C.join b lo hi L x y w')
  have OF := Lib.hid (fun (w u : World) (b lo hi x y : Nat) (L : List Nat) (h : Un w b lo hi L) (ho : Off x y w u) (hx : hi ≤ x ∨ y ≤ lo) => C.off h ho hx)
  obtain ⟨VA, vc, ev, -⟩ := hl.row
  have HZ := Lib.hid hl
  subst ev
  obtain ⟨m, hm⟩ : ∃ m, G.length = m := ⟨_, rfl⟩
  have HM := Lib.hid hm
  rw [hm] at HZ ⊢
  have m9 : m ≤ 100000 := by omega
  have H2 := Lib.hid hG2
  have H3 := Lib.hid hG3
  obtain ⟨n, hn⟩ : ∃ n, (startL N).length = n := ⟨_, rfl⟩
  have n9 : n ≤ 1000 := by rw [← hn]; unfold startL; rw [List.length_range]; omega
  have HN := Lib.hid hn
  clear hl hm hG hG2 hG3 hn C
  go_enter Try.func9, Try.ntmps9
  go_upto_region 6 with (first
    | (go_at_call 11; (with_reducible refine NW.out.mono ?_); rintro e w1 ⟨b, rfl, hu, hb⟩; have U1 := Lib.hid hu; have HB1 := Lib.hid hb; clear hu hb)
    | (go_at_call 18; (with_reducible refine (RN.out _).mono ?_); rintro e w2 ⟨A, c, rfl, hp, hb⟩; rw [HN.out]; have P2 := Lib.hid hp; have HB2 := Lib.hid hb; clear hp hb))
  obtain ⟨p, hp⟩ : ∃ p, p = w2.heap.size := ⟨_, rfl⟩
  obtain ⟨hi, hhi⟩ : ∃ hi, hi = w1.heap.size := ⟨_, rfl⟩
  have HP := Lib.hid hp
  have HI := Lib.hid hhi
  have BW := Lib.hid (show Below w.heap.size w (w2.alloc (.cells #[.slice A n c] tS)) from (chain2 HB1.out HB2.out).alloc (chain2 HB1.out HB2.out).size _)
  have U3 := Lib.hid (show Un (w2.alloc (.cells #[.slice A n c] tS)) b w.heap.size hi (startL N) by rw [hhi]; exact LA.out _ _ _ _ _ _ U1.out (HB2.out.alloc HB2.out.size _))
  have P3 := Lib.hid (show Past (w2.alloc (.cells #[.slice A n c] tS)) hi A (natV (startL N)) by rw [hhi]; exact P2.out.later ((Below.refl _ _).alloc (Nat.le_refl _) _))
  have BX3 := Lib.hid (show Blk (w2.alloc (.cells #[.slice A n c] tS)) p tS #[.slice A n c] from blk_at hp.symm _ _)
  have lop := Lib.hid (show w.heap.size ≤ hi ∧ hi ≤ p by have := HB1.out.size; have := HB2.out.size; omega)
  rw [← HP.out]
  clear hp hhi
  go_loopw [7, 8, 9, 10, 11] (fun s7 _ _ _ _ u => DoesRel Un w N G b hi p n s7 u) (fun s7 _ _ _ _ _ => m - (intOf s7).toNat)
  case atStart => exact ⟨0, A, c, rfl, by omega, BX3.out, U3.out, P3.out, BW.out⟩
  case round =>
    clear NW RN U1 HB1 P2 HB2 BW U3 P3 BX3
    obtain ⟨k, A, c, rfl, hk, hbp, hu, hpa, hB⟩ := hrel
    rw [HM.out] at hk
    have BP := Lib.hid hbp
    have U := Lib.hid hu
    have PA := Lib.hid hpa
    have HB := Lib.hid hB
    have x0 := hbp.cell 0
    have x1 := hbp.frozen 0
    have x2 := hbp.lt
    have bs := hB.size
    simp at x0
    clear hbp hu hpa hB
    by_cases hlt : k < m
    · have hk2 : k < G.length := by have := HM.out; omega
      obtain ⟨lb, lo, R, rc, ea, hlb, y0, hc⟩ := zgrid_at (HZ.out.below HB.out) k hk2
      have JS := Lib.hid (joinsZ_succ N G k hk2)
      have i3 := H3.out k hk2
      obtain ⟨row, hrw⟩ : ∃ row, row = G[k] := ⟨_, rfl⟩
      have r9 : row.length ≤ 100000 := by rw [hrw]; exact H2.out k hk2
      rw [← hrw] at JS hc y0 i3
      have y2 : lb < wr.heap.size := by omega
      have EA := Lib.hid ea
      subst ea
      clear hrw
      have i0 : (0 : Int) ≤ (k : Int) := by omega
      have i1 : (k : Int) < (m : Int) := by omega
      by_cases c1 : row.length < 2
      · have JS2 := Lib.hid (show joinsZ N G (k + 1) = joinsZ N G k by rw [JS.out]; unfold stepZ; rw [if_pos c1])
        have c2 : (row.length : Int) < 2 := by omega
        go_wp2_with fail
        exact ⟨⟨k + 1, A, c, by simp, by have := HM.out; omega, BP.out, by rw [JS2.out]; exact U.out, by rw [JS2.out]; exact PA.out, HB.out⟩, by simp [intOf]; omega⟩
      · obtain ⟨rb, ro, er, hrb, hcs⟩ := nums_at hc (by omega)
        have z0 := hcs 0 (by omega)
        have z1 := hcs 1 (by omega)
        have a3 := i3 _ (List.getElem_mem (show 0 < row.length by omega))
        have b3 := i3 _ (List.getElem_mem (show 1 < row.length by omega))
        have JS2 : joinsZ N G (k + 1) = joinL (joinsZ N G k) (row[0]'(by omega)) (row[1]'(by omega)) := by
          rw [JS.out]
          unfold stepZ
          rw [if_neg c1]
          simp [List.getD_eq_getElem?_getD, List.getElem?_eq_getElem (show 0 < row.length by omega), List.getElem?_eq_getElem (show 1 < row.length by omega)]
        obtain ⟨a0, ha0⟩ : ∃ a0, row[0]'(by omega) = a0 := ⟨_, rfl⟩
        obtain ⟨b0, hb0⟩ : ∃ b0, row[1]'(by omega) = b0 := ⟨_, rfl⟩
        rw [ha0] at z0 a3 JS2
        rw [hb0] at z1 b3 JS2
        rw [Nat.add_zero] at z0
        have A3 := Lib.hid a3
        have B3 := Lib.hid b3
        have JS3 := Lib.hid JS2
        have ER := Lib.hid er
        subst er
        have z2 : rb < wr.heap.size := by omega
        have cc2 : ¬ (row.length : Int) < 2 := by omega
        have j0 : (0 : Int) < (row.length : Int) := by omega
        have j1 : (1 : Int) < (row.length : Int) := by omega
        clear hcs i3 a3 b3 JS2 ha0 hb0 hc
        obtain ⟨L, hL⟩ : ∃ L, L = joinsZ N G k := ⟨_, rfl⟩
        have ln := Lib.hid (show L.length = n by rw [hL, joinsZ_length]; exact HN.out)
        rw [← hL] at U PA JS3
        clear hL JS
        have RJ1 := Lib.hid (RJ.out A c n hi L ln.out n9 a0 b0 wr (by have := (IS.out _ _ _ _ _ U.out).1; exact this) PA.out)
        obtain ⟨L2, hL2⟩ : ∃ L2, joinL L a0 b0 = L2 := ⟨_, rfl⟩
        obtain ⟨jb, hjb⟩ : ∃ jb, joinB L a0 b0 = jb := ⟨_, rfl⟩
        have JO1 := Lib.hid (fun w' h => JO.out b w.heap.size hi L a0 b0 w' h A3.out B3.out)
        have ln2 := Lib.hid (show L2.length = n by rw [← hL2, join_length]; exact ln.out)
        rw [hL2, hjb] at RJ1 JO1
        rw [hL2] at JS3
        have t0 : (jb != jb) = false := by simp
        clear hL2 hjb
        go_upto_region 11 with fail
        go_upto_region 14 with (first
          | (go_at_call 19; (with_reducible refine RJ1.out.mono ?_); rintro e w3 ⟨A2, c2, rfl, hp, hb⟩; rw [ln2.out]; have P2 := Lib.hid hp; have HB3 := Lib.hid hb; clear hp hb)
          | (go_at_call 12; (with_reducible refine (JO1.out _ ?hu).mono ?_); (case hu => exact LA.out _ _ _ _ _ _ U.out (HB3.out.alloc HB3.out.size _)); rintro e w5 ⟨rfl, hu, ho⟩; have U5 := Lib.hid hu; have O5 := Lib.hid ho; clear hu ho))
        obtain ⟨q, hq⟩ : ∃ q, q = w3.heap.size := ⟨_, rfl⟩
        have bw3 := HB3.out.size
        have lp := lop.out
        have BQ5 := Lib.hid (show Blk w5 q tS #[.slice A2 n c2] from O5.out.blk (blk_at hq.symm _ _) (.inr (by omega)))
        have BP5 := Lib.hid (show Blk w5 p tS #[.slice A n c] from O5.out.blk ((BP.out.below HB3.out BP.out.lt).alloc _) (.inr lp.2))
        have P5 := Lib.hid (show Past w5 hi A2 (natV L2) from (P2.out.later ((Below.refl _ _).alloc (Nat.le_refl _) _)).off O5.out (Nat.le_refl _))
        have HB5 := Lib.hid (show Below w.heap.size w w5 from below_off ((chain2 HB.out HB3.out).alloc (chain2 HB.out HB3.out).size (.cells #[.slice A2 n c2] tS)) O5.out (Nat.le_refl _) (by simp; omega))
        rw [← hq]
        clear hq x0 x1 x2 y0 y2 z0 z1 z2 RJ1 JO1 bw3
        have v0 := BQ5.out.cell 0
        have v2 := BQ5.out.lt
        have x0 := BP5.out.cell 0
        have x1 := BP5.out.frozen 0
        have x2 := BP5.out.lt
        simp at v0 x0
        go_upto_region 15 with fail
        obtain ⟨W6, hW6⟩ : ∃ W6, W6 = w5.setCell ⟨p, 0, none⟩ (.slice A2 n c2) := ⟨_, rfl⟩
        have BP6 := Lib.hid (show Blk W6 p tS #[.slice A2 n c2] by rw [hW6]; exact BP5.out.set_ 0 _)
        have U6 := Lib.hid (show Un W6 b w.heap.size hi L2 by rw [hW6]; exact OF.out _ _ _ _ _ _ _ _ U5.out (off_set _ _ _ _) (.inl lp.2))
        have P6 := Lib.hid (show Past W6 hi A2 (natV L2) by rw [hW6]; exact past_far P5.out BP5.out _)
        have HB6 := Lib.hid (show Below w.heap.size w W6 by rw [hW6]; exact HB5.out.setCell (by show _ ≤ p; omega) _)
        rw [← hW6]
        clear hW6 v0 v2 x0 x1 x2 lp
        obtain ⟨r, hr⟩ : ∃ r, sameB L2 a0 b0 = r := ⟨_, rfl⟩
        have x0 := BP6.out.cell 0
        have x2 := BP6.out.lt
        simp at x0
        have D := Lib.hid (DE.out W6 b w.heap.size hi L2 A2 p n c2 ln2.out n9 lop.out.2 x2)
        have S0 := Lib.hid (show SK Un W6 b w.heap.size hi L2 A2 p n c2 W6.drew from ⟨x0, LA.out _ _ _ _ _ _ U6.out (Below.refl _ _).drew, (Off.refl _ _ _).drew, P6.out.later (Below.refl _ _).drew⟩)
        have F1 := Lib.hid (fun w' h => D.out.alike a0 w' A3.out h)
        have F2 := Lib.hid (fun w' h => D.out.alike b0 w' B3.out h)
        have F3 := Lib.hid (fun w' h => D.out.same a0 b0 r w' hr A3.out B3.out h)
        have F4 := Lib.hid (fun w' h => D.out.rsame a0 b0 r w' hr h)
        have t1 : (r != r) = false := by simp
        clear hr D
        go_region_held3 (fun u => u.cell? ⟨p, 0, none⟩ = some (.slice A2 n c2) ∧ Good2 Un W6 b w.heap.size hi L2 A2 u)
          (first | assumption | exact S0.out)
          (first
            | (go_at_call 20; (with_reducible refine (F1.out _ S0.out).mono ?_); rintro e wa ⟨rfl, hs⟩)
            | (go_at_call 20; (with_reducible refine (F1.out _ (by assumption)).mono ?_); rintro e wa ⟨rfl, hs⟩)
            | (go_at_call 20; (with_reducible refine (F2.out _ (by assumption)).mono ?_); rintro e wa ⟨rfl, hs⟩)
            | (go_at_call 17; (with_reducible refine (F3.out _ (by assumption)).mono ?_); rintro e wb ⟨rfl, hs⟩)
            | (go_at_call 21; (with_reducible refine (F4.out _ (by assumption)).mono ?_); rintro e wc ⟨rfl, hs⟩))
        all_goals
          rename_i hs
          have H9 := Lib.hid (show SK Un W6 b w.heap.size hi L2 A2 p n c2 _ from hs)
          clear hs
          go_wp2_with fail
          exact ⟨⟨k + 1, A2, c2, by simp, by have := HM.out; omega, H9.out.2.2.1.blk BP6.out (.inr lop.out.2), by rw [JS3.out]; exact H9.out.2.1, by rw [JS3.out]; exact H9.out.2.2.2, below_off HB6.out H9.out.2.2.1 (Nat.le_refl _) HB6.out.size⟩, by simp [intOf]; omega⟩
    · have kn := Lib.hid (show k = m by omega)
      obtain ⟨L, hL⟩ : ∃ L, L = joinsZ N G k := ⟨_, rfl⟩
      have ln : L.length = n := by rw [hL, joinsZ_length]; exact HN.out
      rw [← hL] at U PA
      obtain ⟨r, hr⟩ : ∃ r, sameB L 0 1 = r := ⟨_, rfl⟩
      have S (n : Int) (h0 : -1000000 ≤ n) (h1 : n ≤ 1000000) : I64 n := by unfold I64; omega
      have D := Lib.hid (DE.out wr b w.heap.size hi L A p n c ln n9 lop.out.2 x2)
      have S0 := Lib.hid (show SK Un wr b w.heap.size hi L A p n c wr.drew from ⟨x0, LA.out _ _ _ _ _ _ U.out (Below.refl _ _).drew, (Off.refl _ _ _).drew, PA.out.later (Below.refl _ _).drew⟩)
      have F1 := Lib.hid (fun w' h => D.out.alike (-1) w' (S _ (by omega) (by omega)) h)
      have F2 := Lib.hid (fun w' h => D.out.same 0 1 r w' hr (S _ (by omega) (by omega)) (S _ (by omega) (by omega)) h)
      have F3 := Lib.hid (fun w' h => D.out.rsame 0 1 r w' hr h)
      have t0 : (r == r) = true := by simp
      clear hL hr S D RJ JO DE LA IS
      go_wp2_with fail
      go_region_held3 (fun u => u.cell? ⟨p, 0, none⟩ = some (.slice A n c) ∧ Good2 Un wr b w.heap.size hi L A u)
        (first | assumption | exact S0.out)
        (first
          | (go_at_call 20; (with_reducible refine (F1.out _ S0.out).mono ?_); rintro e wa ⟨rfl, hs⟩)
          | (go_at_call 20; (with_reducible refine (F1.out _ (by assumption)).mono ?_); rintro e wa ⟨rfl, hs⟩)
          | (go_at_call 17; (with_reducible refine (F2.out _ (by assumption)).mono ?_); rintro e wb ⟨rfl, hs⟩)
          | (go_at_call 21; (with_reducible refine (F3.out _ (by assumption)).mono ?_); rintro e wc ⟨rfl, hs⟩))
      all_goals
        rename_i hs
        have H9 := Lib.hid (show SK Un wr b w.heap.size hi L A p n c _ from hs)
        clear hs
        go_wp2_with fail
        go_ret
        exact ⟨rfl, below_off HB.out H9.out.2.2.1 (Nat.le_refl _) bs⟩
end Go.Proofs.Ytoccgpkpmhkeiaa.Uni
