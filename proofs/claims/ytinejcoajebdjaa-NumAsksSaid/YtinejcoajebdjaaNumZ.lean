/- The walk of NumAsks. -/
import Derived.Test.YtinejcoajebdjaaNumY
namespace Go.Proofs.Ytinejcoajebdjaa
open Go.RowKit

theorem text_S (a : Int) (S : ByteArray) (ha : IsW a) (hS : S = ⟨(text a).toArray⟩) (w : World) :
    Calls Try.prog 28 #[Wd a] w fun e w' => e = .returned (.string S) ∧ Below w.heap.size w w' := by
  subst hS; exact text_any a ha w
theorem rtext_S (a : Int) (S : ByteArray) (ha : IsW a) (hS : S = ⟨(text a).toArray⟩) (w : World) :
    Calls Try.prog 40 #[Wd a] w fun e w' => e = .returned (.string S) ∧ Below w.heap.size w w' := by
  subst hS; exact rtext_any a ha w
theorem deeds_later {w w' : World} {s : Option Addr} {l : Nat} (h : DeedsAt w w.heap.size s l) (hb : Below w.heap.size w w') : DeedsAt w' w'.heap.size s l := by
  intro h0
  obtain ⟨b, off, e, hlt, hc⟩ := h h0
  have := hb.size
  refine ⟨b, off, e, by omega, fun i hi => ?_⟩
  obtain ⟨K, A, C, q, c0, c1, c2⟩ := hc i hi
  exact ⟨K, A, C, q, (hb.cell (p := ⟨b, _, none⟩) hlt).trans c0, (hb.cell (p := ⟨b, _, none⟩) hlt).trans c1, (hb.cell (p := ⟨b, _, none⟩) hlt).trans c2⟩

theorem short_any (a b : Int) (ha : I64 a) (hb : I64 b) (w : World) :
    Calls Try.prog 13 #[.int .i64 a, .int .i64 b] w fun e w' => e = .returned (.bool true) ∧ Below w.heap.size w w' := by
  have HA := Lib.hid ha
  have HB := Lib.hid hb
  clear ha hb
  go_enter Try.func13, Try.ntmps13
  go_wp2_with fail
  refine (add_any a b HA.out HB.out _).mono ?_
  rintro e w1 ⟨rfl, h1⟩
  go_wp2_with fail
  refine (radd_any a b HA.out HB.out _).mono ?_
  rintro e w2 ⟨rfl, h2⟩
  go_wp2_with fail
  refine (sub_any a b HA.out HB.out _).mono ?_
  rintro e w3 ⟨rfl, h3⟩
  go_wp2_with fail
  refine (rsub_any a b HA.out HB.out _).mono ?_
  rintro e w4 ⟨rfl, h4⟩
  go_wp2_with fail
  refine (mul_any a b HA.out HB.out _).mono ?_
  rintro e w5 ⟨rfl, h5⟩
  go_wp2_with fail
  refine (rmul_any a b HA.out HB.out _).mono ?_
  rintro e w6 ⟨rfl, h6⟩
  go_wp2_with fail
  refine (neg_any a HA.out _).mono ?_
  rintro e w7 ⟨rfl, h7⟩
  go_wp2_with fail
  refine (rneg_any a HA.out _).mono ?_
  rintro e w8 ⟨rfl, h8⟩
  go_wp2_with fail
  go_ret
  exact ⟨by first | rfl | (simp; done), chain2 (chain2 (chain2 (chain2 (chain2 (chain2 (chain2 h1 h2) h3) h4) h5) h6) h7) h8⟩

set_option maxHeartbeats 4000000 in
theorem wides_any (a b : Int) (ha : IsW a) (hb : IsW b) (w : World) :
    Calls Try.prog 14 #[Wd a, Wd b] w fun e w' => e = .returned (.bool true) ∧ Below w.heap.size w w' := by
  have HA := Lib.hid ha
  have HB := Lib.hid hb
  clear ha hb
  obtain ⟨S, hS⟩ : ∃ S : ByteArray, S = ⟨(text a).toArray⟩ := ⟨_, rfl⟩
  have HS := Lib.hid hS
  clear hS
  go_enter Try.func14, Try.ntmps14
  go_wp2_with fail
  refine (back_any a _).mono ?_
  rintro e w1 ⟨rfl, h1⟩
  have hp0 : Past w (w.heap.size + 2) w1 := by
    have r := h1.size
    simp at r
    exact ⟨(own2 w _ _).1.trans (h1.mono (by simp; omega)), by omega⟩
  have c1 : w1.cell? ⟨w.heap.size, 0, none⟩ = some (.int .i64 (hi a)) := (h1.cell (p := ⟨w.heap.size, 0, none⟩) (by simp; omega)).trans (by simp [go_sem, World.cell?_alloc_past])
  have c2 : w1.cell? ⟨w.heap.size, 1, none⟩ = some (.int .u64 (lo a)) := (h1.cell (p := ⟨w.heap.size, 1, none⟩) (by simp; omega)).trans (by simp [go_sem, World.cell?_alloc_past])
  have c3 : w1.cell? ⟨w.heap.size + 1, 0, none⟩ = some (.int .i64 (hi b)) := (h1.cell (p := ⟨w.heap.size + 1, 0, none⟩) (by simp)).trans (by simp [go_sem])
  have c4 : w1.cell? ⟨w.heap.size + 1, 1, none⟩ = some (.int .u64 (lo b)) := (h1.cell (p := ⟨w.heap.size + 1, 1, none⟩) (by simp)).trans (by simp [go_sem])
  clear h1
  have HP0 := Lib.hid hp0
  have K0 := Lib.hid (And.intro c1 (And.intro c2 (And.intro c3 c4)))
  clear hp0
  go_wp2_with fail
  refine (rback_any a _).mono ?_
  rintro e w2 ⟨rfl, h2⟩
  clear c1 c2 c3 c4
  have K := keep2 (w := w) (B := w.heap.size + 2) (by omega) (by omega) ⟨K0.out.1, K0.out.2.1, K0.out.2.2.1, K0.out.2.2.2, HP0.out⟩ h2
  have c1 := K.1
  have c2 := K.2.1
  have c3 := K.2.2.1
  have c4 := K.2.2.2.1
  have HP := Lib.hid K.2.2.2.2
  clear K h2
  go_wp2_with fail
  go_region_held3 (fun w' => w'.cell? ⟨w.heap.size, 0, none⟩ = some (.int .i64 (hi a)) ∧ w'.cell? ⟨w.heap.size, 1, none⟩ = some (.int .u64 (lo a)) ∧ w'.cell? ⟨w.heap.size + 1, 0, none⟩ = some (.int .i64 (hi b)) ∧ w'.cell? ⟨w.heap.size + 1, 1, none⟩ = some (.int .u64 (lo b)) ∧ Past w (w.heap.size + 2) w')
    (first | exact ⟨c1, c2, c3, c4, HP.out.drew⟩ | exact keep2 (by omega) (by omega) ⟨c1, c2, c3, c4, HP.out.drew⟩ hb | (refine keep2 (by omega) (by omega) ?_ hb; assumption))
    (first
      | (go_at_call 23; (with_reducible refine (plus_any a b (wr (a + b)) HA.out HB.out rfl _).mono ?_); rintro e w' ⟨rfl, hb⟩)
      | (go_at_call 29; (with_reducible refine (rplus_any a b (wr (a + b)) HA.out HB.out rfl _).mono ?_); rintro e w' ⟨rfl, hb⟩)
      | (go_at_call 22; (with_reducible refine (minus_any a b (wr (a - b)) HA.out HB.out rfl _).mono ?_); rintro e w' ⟨rfl, hb⟩)
      | (go_at_call 30; (with_reducible refine (rminus_any a b (wr (a - b)) HA.out HB.out rfl _).mono ?_); rintro e w' ⟨rfl, hb⟩)
      | (go_at_call 24; (with_reducible refine (compare_any a b (cm a b) rfl _).mono ?_); rintro e w' ⟨rfl, hb⟩)
      | (go_at_call 39; (with_reducible refine (rcompare_any a b (cm a b) rfl _).mono ?_); rintro e w' ⟨rfl, hb⟩)
      | (go_at_call 28; (with_reducible refine (text_S a S HA.out HS.out _).mono ?_); rintro e w' ⟨rfl, hb⟩)
      | (go_at_call 40; (with_reducible refine (rtext_S a S HA.out HS.out _).mono ?_); rintro e w' ⟨rfl, hb⟩))
  all_goals
    rename_i hs
    have H9 := Lib.hid hs.2.2.2.2
    clear hs
    go_wp2_with fail
    go_ret
    exact ⟨by first | rfl | (simp; done), H9.out.1⟩

set_option maxHeartbeats 4000000 in
theorem asks_big (a b x y : Int) (s : Option Addr) (l c : Nat) (hl : 200 < l) (hm : l ≤ maxLen) (s5 : Option Addr) (l5 c5 : Nat) (s6 : Option Addr) (l6 c6 : Nat) (w : World) :
    Calls Try.prog 3 #[.int .i64 a, .int .i64 b, Wd x, Wd y, .slice s l c, .slice s5 l5 c5, .slice s6 l6 c6] w fun e w' => e = .returned (.bool true) ∧ Below w.heap.size w w' := by
  unfold maxLen at hm
  go_enter Try.func3, Try.ntmps3
  go_wp2_with fail
  refine (known_any _).mono ?_
  rintro e w1 ⟨rfl, h1⟩
  go_wp2_with fail
  go_ret
  exact ⟨rfl, (own2 w _ _).1.trans (h1.mono (by simp; omega))⟩

set_option maxRecDepth 100000 in
set_option maxHeartbeats 8000000 in
theorem asks_small (a b x y : Int) (ha : I64 a) (hb : I64 b) (hx : IsW x) (hy : IsW y) (s : Option Addr) (c : Nat) (xs : List Int) (hl : xs.length ≤ 200) (hI : AllI64 xs)
    (s5 : Option Addr) (l5 c5 : Nat) (m5 : l5 ≤ maxLen) (s6 : Option Addr) (l6 c6 : Nat) (m6 : l6 ≤ maxLen) (w : World) (hr : Ints w w.heap.size s xs) (d5 : DeedsAt w w.heap.size s5 l5) (d6 : DeedsAt w w.heap.size s6 l6) :
    Calls Try.prog 3 #[.int .i64 a, .int .i64 b, Wd x, Wd y, .slice s xs.length c, .slice s5 l5 c5, .slice s6 l6 c6] w fun e w' => e = .returned (.bool true) ∧ Below w.heap.size w w' := by
  have HA := Lib.hid ha
  have HB := Lib.hid hb
  have HX := Lib.hid hx
  have HY := Lib.hid hy
  have HI := Lib.hid hI
  have HR := Lib.hid hr
  have H5 := Lib.hid d5
  have H6 := Lib.hid d6
  have M5 := Lib.hid m5
  have M6 := Lib.hid m6
  clear ha hb hx hy hI hr d5 d6 m5 m6
  go_enter Try.func3, Try.ntmps3
  go_wp2_with fail
  refine (known_any _).mono ?_
  rintro e w1 ⟨rfl, h1⟩
  have hp0 : Past w (w.heap.size + 2) w1 := by
    have r := h1.size
    simp at r
    exact ⟨(own2 w _ _).1.trans (h1.mono (by simp; omega)), by omega⟩
  have b1 : WBlk w1 w.heap.size x := ((WBlk.new w x).alloc _).below h1 (by simp; omega)
  have b2 : WBlk w1 (w.heap.size + 1) y := by
    have q := WBlk.below (WBlk.new (w.alloc (.cells #[.int .i64 (hi x), .int .u64 (lo x)] 24)) y) h1 (by simp)
    simpa only [World.size_alloc] using q
  have P1 := Lib.hid hp0
  have X1 := Lib.hid b1
  have Y1 := Lib.hid b2
  clear h1 hp0 b1 b2
  go_wp2_with fail
  refine (wide_any s5 l5 c5 M5.out _ (deeds_later H5.out P1.out.1)).mono ?_
  rintro e w2 ⟨v, hv, rfl, h2⟩
  have IV := Lib.hid hv
  have P2 := Lib.hid (P1.out.step h2)
  have X2 := Lib.hid (X1.out.below h2 (Blk.lt X1.out))
  have Y2 := Lib.hid (Y1.out.below h2 (Blk.lt Y1.out))
  clear h2 hv P1 X1 Y1
  go_wp2_with fail
  have P3 := Lib.hid (show Past w (w.heap.size + 2) (w2.alloc (Obj.cells #[.int .i64 (hi v), .int .u64 (lo v)] 24)) from ⟨P2.out.1.alloc P2.out.1.size _, by have := P2.out.2; simp; omega⟩)
  have X3 := Lib.hid (X2.out.alloc (Obj.cells #[.int .i64 (hi v), .int .u64 (lo v)] 24))
  have Y3 := Lib.hid (Y2.out.alloc (Obj.cells #[.int .i64 (hi v), .int .u64 (lo v)] 24))
  have V3 := Lib.hid (WBlk.new w2 v)
  refine (wide_any s6 l6 c6 M6.out _ (deeds_later H6.out P3.out.1)).mono ?_
  rintro e w3 ⟨z, hz, rfl, h3⟩
  have IZ := Lib.hid hz
  have P4 := Lib.hid (P3.out.step h3)
  have X4 := Lib.hid (X3.out.below h3 (Blk.lt X3.out))
  have Y4 := Lib.hid (Y3.out.below h3 (Blk.lt Y3.out))
  have V4 := Lib.hid (V3.out.below h3 (Blk.lt V3.out))
  clear h3 hz P2 X2 Y2 P3 X3 Y3 V3
  go_wp2_with fail
  have P5 := Lib.hid (show Past w (w.heap.size + 2) (w3.alloc (Obj.cells #[.int .i64 (hi z), .int .u64 (lo z)] 24)) from ⟨P4.out.1.alloc P4.out.1.size _, by have := P4.out.2; simp; omega⟩)
  have X5 := Lib.hid (X4.out.alloc (Obj.cells #[.int .i64 (hi z), .int .u64 (lo z)] 24))
  have Y5 := Lib.hid (Y4.out.alloc (Obj.cells #[.int .i64 (hi z), .int .u64 (lo z)] 24))
  have V5 := Lib.hid (V4.out.alloc (Obj.cells #[.int .i64 (hi z), .int .u64 (lo z)] 24))
  have Z5 := Lib.hid (WBlk.new w3 z)
  refine (short_any a b HA.out HB.out _).mono ?_
  rintro e w4 ⟨rfl, h4⟩
  have P6 := Lib.hid (P5.out.step h4)
  have X6 := Lib.hid (X5.out.below h4 (Blk.lt X5.out))
  have Y6 := Lib.hid (Y5.out.below h4 (Blk.lt Y5.out))
  have V6 := Lib.hid (V5.out.below h4 (Blk.lt V5.out))
  have Z6 := Lib.hid (Z5.out.below h4 (Blk.lt Z5.out))
  clear h4 P4 X4 Y4 V4 P5 X5 Y5 V5 Z5
  have k1 := X6.out.c0
  have k2 := X6.out.c1
  have k3 := Y6.out.c0
  have k4 := Y6.out.c1
  go_wp2_with fail
  refine (wides_any x y HX.out HY.out _).mono ?_
  rintro e w5 ⟨rfl, h5⟩
  clear k1 k2 k3 k4
  have P7 := Lib.hid (P6.out.step h5)
  have X7 := Lib.hid (X6.out.below h5 (Blk.lt X6.out))
  have V7 := Lib.hid (V6.out.below h5 (Blk.lt V6.out))
  have Z7 := Lib.hid (Z6.out.below h5 (Blk.lt Z6.out))
  clear h5 P6 X6 Y6 V6 Z6
  have k1 := V7.out.c0
  have k2 := V7.out.c1
  have k3 := Z7.out.c0
  have k4 := Z7.out.c1
  go_wp2_with fail
  refine (wides_any v z IV.out IZ.out _).mono ?_
  rintro e w6 ⟨rfl, h6⟩
  clear k1 k2 k3 k4
  have P8 := Lib.hid (P7.out.step h6)
  have X8 := Lib.hid (X7.out.below h6 (Blk.lt X7.out))
  have V8 := Lib.hid (V7.out.below h6 (Blk.lt V7.out))
  clear h6 P7 X7 V7 Z7
  have k1 := X8.out.c0
  have k2 := X8.out.c1
  have k3 := V8.out.c0
  have k4 := V8.out.c1
  go_wp2_with fail
  refine (wides_any v x IV.out HX.out _).mono ?_
  rintro e w7 ⟨rfl, h7⟩
  clear k1 k2 k3 k4
  have P9 := Lib.hid (P8.out.step h7)
  clear h7 P8 X8 V8
  go_wp2_with fail
  refine (sum_any s c xs (wr (sumZ xs)) _ (by omega) HI.out (HR.out.later (Nat.le_refl _) P9.out.1) rfl).mono ?_
  rintro e w8 ⟨rfl, h8⟩
  have P10 := Lib.hid (P9.out.step h8)
  clear h8 P9
  go_wp2_with fail
  refine (rsum_any s c xs (wr (sumZ xs)) _ (by omega) HI.out (HR.out.later (Nat.le_refl _) P10.out.1) rfl).mono ?_
  rintro e w9 ⟨rfl, h9⟩
  have P11 := Lib.hid (P10.out.step h9)
  clear h9 P10
  go_wp2_with fail
  refine (of_any a HA.out _).mono ?_
  rintro e w10 ⟨rfl, h10⟩
  have P12 := Lib.hid (P11.out.step h10)
  clear h10 P11
  go_wp2_with fail
  refine (rof_any a HA.out _).mono ?_
  rintro e w11 ⟨rfl, h11⟩
  have P13 := Lib.hid (P12.out.step h11)
  clear h11 P12
  go_wp2_with fail
  refine (times_any a b (a * b) HA.out HB.out rfl _).mono ?_
  rintro e w12 ⟨rfl, h12⟩
  have P14 := Lib.hid (P13.out.step h12)
  clear h12 P13
  go_wp2_with fail
  refine (rtimes_any a b (a * b) HA.out HB.out rfl _).mono ?_
  rintro e w13 ⟨rfl, h13⟩
  have P15 := Lib.hid (P14.out.step h13)
  clear h13 P14
  go_wp2_with fail
  go_ret
  exact ⟨by first | rfl | (simp; done), P15.out.1⟩

theorem asks_walk (w : World) (a : Int) (ha : I64 a) (b : Int) (hb : I64 b) (x : Int) (hx : IsW x) (y : Int) (hy : IsW y) (s : Option Addr) (l c : Nat) (z : List Int) (hz : IsRow64 w s l c z)
    (s5 : Option Addr) (l5 c5 : Nat) (m5 : l5 ≤ maxLen) (d5 : DeedsAt w w.heap.size s5 l5) (s6 : Option Addr) (l6 c6 : Nat) (m6 : l6 ≤ maxLen) (d6 : DeedsAt w w.heap.size s6 l6) :
    Calls Try.prog 3 #[.int .i64 a, .int .i64 b, Wd x, Wd y, .slice s l c, .slice s5 l5 c5, .slice s6 l6 c6] w fun e w' => e = .returned (.bool true) ∧ Below w.heap.size w w' := by
  obtain ⟨hlen, hc, hm, hI, hr⟩ := ints_of_row hz
  by_cases hl : l ≤ 200
  · have q := asks_small a b x y ha hb hx hy s c (z.take l) (by omega) hI s5 l5 c5 m5 s6 l6 c6 m6 w hr d5 d6
    rw [hlen] at q
    exact q
  · exact asks_big a b x y s l c (by omega) (by omega) s5 l5 c5 s6 l6 c6 w
end Go.Proofs.Ytinejcoajebdjaa
