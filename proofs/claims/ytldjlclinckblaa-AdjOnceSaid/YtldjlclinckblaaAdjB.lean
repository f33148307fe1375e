/- Contracts of the document's answers for layer 4: which arcs touch a node. -/
import Derived.Test.YtldjlclinckblaaAdjA
namespace Go.Proofs.Ytldjlclinckblaa.Adj
open Go.RowKit Go.Proofs.Ytldjlclinckblaa.Inst

/-- At the head of the loop. -/
def SomeRel (w : World) (I : InstD) (n : Int) (o i : Bool) (s9 s10 : Value) (u : World) : Prop :=
  ∃ k : Nat, k ≤ I.arcs.length ∧ s10 = .int .i64 (k : Int) ∧ u.ownsRow w.heap.size 3 1 s9 (someN I n o i k).length (natV (someN I n o i k)) ∧ Below w.heap.size w u

set_option maxRecDepth 100000 in
set_option maxHeartbeats 8000000 in
theorem some_any (A A2 : Option Addr) (c d nn m : Nat) (I : InstD) (n : Int) (o i : Bool) (w : World) (h : Here w A A2 nn m I) (h9 : m ≤ 100000) :
    Calls Try.prog 38 #[.agg #[.slice A nn c, .slice A2 m d], .int .i64 n, .bool o, .bool i] w (TellsNats (someD I n o i) w) := by
  obtain ⟨i0, hi0, hz0, hz1, hz2⟩ := info_parts info_int
  have G0 := Lib.hid hi0
  have G1 := Lib.hid hz0
  have G2 := Lib.hid hz1
  have G3 := Lib.hid hz2
  have H := Lib.hid h
  have HM := Lib.hid h.m
  have FI := Lib.hid (fun (a : Int) w' (hw : Below w.heap.size w w') => fit_any A A2 c d nn m I a w' (h.later hw))
  clear hi0 hz0 hz1 hz2 h
  go_enter Try.func38, Try.ntmps38
  go_wp2_with fail
  obtain ⟨W1, hW1⟩ : ∃ W1, W1 = w.alloc (.cells #[.slice A nn c, .slice A2 m d] 25) := ⟨_, rfl⟩
  obtain ⟨p, hp⟩ : ∃ p, p = w.heap.size := ⟨_, rfl⟩
  have B1 := Lib.hid (show Below w.heap.size w W1 by rw [hW1]; exact (Below.refl _ _).alloc (Nat.le_refl _) _)
  have BX := Lib.hid (show Blk W1 p 25 #[.slice A nn c, .slice A2 m d] by rw [hW1]; exact blk_at hp.symm _ _)
  rw [← hW1, ← hp]
  clear hW1 hp
  go_loopw [9, 10] (fun v q u => SomeRel W1 I n o i v q u) (fun _ q _ => m - (intOf q).toNat)
  case atStart => exact ⟨0, by omega, rfl, ⟨rfl, .inl ⟨rfl, rfl⟩⟩, Below.refl _ _⟩
  case round =>
    obtain ⟨k, hk, rfl, hown, hB⟩ := hrel
    have HO := Lib.hid hown
    have HB := Lib.hid hB
    have bs := hB.size
    rw [HM.out] at hk
    have kl := someN_length I n o i k
    have bx := BX.out.below hB BX.out.lt
    have x0 := bx.cell 0
    have x1 := bx.cell 1
    have x2 := bx.lt
    simp at x0 x1
    clear hown hB bx
    by_cases hlt : k < m
    · obtain ⟨b, off, ea, lb, z0, z1, -, -, -⟩ := (H.out.later (chain2 B1.out HB.out)).arc k hlt
      have E := Lib.hid (someN_succ I n o i k)
      have FK := Lib.hid (FI.out (k : Int) wr (chain2 B1.out HB.out))
      obtain ⟨x, hx⟩ : ∃ x, x = arcAt I.arcs k := ⟨_, rfl⟩
      rw [← hx] at z0 z1 E
      obtain ⟨f, hf⟩ : ∃ f, f = fitD I (k : Int) := ⟨_, rfl⟩
      rw [← hf] at FK E
      have EA := Lib.hid ea
      rw [ea] at x1 FK
      have k0 : (0 : Int) ≤ (k : Int) := by omega
      have k1 : (k : Int) < (m : Int) := by omega
      obtain ⟨tf, htf⟩ : ∃ t, (x.frm == n) = t := ⟨_, rfl⟩
      obtain ⟨tt, htt⟩ : ∃ t, (x.to == n) = t := ⟨_, rfl⟩
      have TE := Lib.hid (show touch o i n x = ((o && tf) || (i && tt)) by
        unfold touch
        rw [← htf, ← htt, show (x.frm == n) = decide (x.frm = n) from rfl, show (x.to == n) = decide (x.to = n) from rfl])
      rw [TE.out] at E
      clear hx hf ea TE
      cases f with
      | false =>
        have E2 := Lib.hid (show someN I n o i (k + 1) = someN I n o i k by rw [E.out]; simp)
        go_wp2_with (go_at_call 39; (with_reducible refine FK.out.mono ?_); rintro e w2 ⟨rfl, hb⟩; obtain ⟨bc, bf⟩ := bcell hb; have HB2 := Lib.hid hb; have y0 := (bc p 0 x2).trans x0; have y1 := (bc p 1 x2).trans x1; have y2 := (bc b (off + k * 5) lb).trans z0; have y3 := (bc b (off + k * 5 + 1) lb).trans z1; have y4 := hb.size; clear hb bc bf)
        exact ⟨⟨k + 1, by rw [HM.out]; omega, by simp, by rw [E2.out]; exact own_later HO.out HB2.out, chain2 HB.out HB2.out⟩, by simp [intOf]; omega⟩
      | true =>
        cases o with
        | false =>
          cases i with
          | false =>
            have E2 := Lib.hid (show someN I n false false (k + 1) = someN I n false false k by rw [E.out]; simp)
            go_wp2_with (go_at_call 39; (with_reducible refine FK.out.mono ?_); rintro e w2 ⟨rfl, hb⟩; obtain ⟨bc, bf⟩ := bcell hb; have HB2 := Lib.hid hb; have y0 := (bc p 0 x2).trans x0; have y1 := (bc p 1 x2).trans x1; have y2 := (bc b (off + k * 5) lb).trans z0; have y3 := (bc b (off + k * 5 + 1) lb).trans z1; have y4 := hb.size; clear hb bc bf)
            exact ⟨⟨k + 1, by rw [HM.out]; omega, by simp, by rw [E2.out]; exact own_later HO.out HB2.out, chain2 HB.out HB2.out⟩, by simp [intOf]; omega⟩
          | true =>
            cases tt with
            | false =>
              have E2 := Lib.hid (show someN I n false true (k + 1) = someN I n false true k by rw [E.out]; simp)
              go_wp2_with (go_at_call 39; (with_reducible refine FK.out.mono ?_); rintro e w2 ⟨rfl, hb⟩; obtain ⟨bc, bf⟩ := bcell hb; have HB2 := Lib.hid hb; have y0 := (bc p 0 x2).trans x0; have y1 := (bc p 1 x2).trans x1; have y2 := (bc b (off + k * 5) lb).trans z0; have y3 := (bc b (off + k * 5 + 1) lb).trans z1; have y4 := hb.size; clear hb bc bf)
              exact ⟨⟨k + 1, by rw [HM.out]; omega, by simp, by rw [E2.out]; exact own_later HO.out HB2.out, chain2 HB.out HB2.out⟩, by simp [intOf]; omega⟩
            | true =>
              have E2 := Lib.hid (show someN I n false true (k + 1) = someN I n false true k ++ [k] by rw [E.out]; simp)
              go_wp2_with (first
                | (go_at_call 39; (with_reducible refine FK.out.mono ?_); rintro e w2 ⟨rfl, hb⟩; obtain ⟨bc, bf⟩ := bcell hb; have HB2 := Lib.hid hb; have y0 := (bc p 0 x2).trans x0; have y1 := (bc p 1 x2).trans x1; have y2 := (bc b (off + k * 5) lb).trans z0; have y3 := (bc b (off + k * 5 + 1) lb).trans z1; have y4 := hb.size; clear hb bc bf)
                | (at_builtin
                   refine wpList_append_own _ rfl _ _ 34 rfl W1.heap.size 3 i0 _ 1 8 Try.underlying34 G0.out G1.out G2.out G3.out rfl (by decide) _ _ _ rfl ((own_later HO.out HB2.out).alloc _) ⟨w2.heap.size, 0, none⟩ 1 1 [.int .i64 (k : Int)] rfl rfl ?c1 ?c2 ?c3 ?c4 ?c5 ?_
                   case c1 => exact cell_one_new _ _ _
                   case c2 => simp [Value.oneCell']
                   case c3 => simp only [maxLen]; omega
                   case c4 => omega
                   case c5 => simp; omega
                   intro v1 u1 hown1 hgrow1 _))
              exact ⟨⟨k + 1, by rw [HM.out]; omega, by simp, by rw [E2.out, List.length_append, natV_snoc]; exact hown1, ((chain2 HB.out HB2.out).alloc (by omega) _).grown hgrow1 (by simp; omega) (own_ge HO.out)⟩, by simp [intOf]; omega⟩
        | true =>
          cases tf with
          | false =>
            cases i with
            | false =>
              have E2 := Lib.hid (show someN I n true false (k + 1) = someN I n true false k by rw [E.out]; simp)
              go_wp2_with (go_at_call 39; (with_reducible refine FK.out.mono ?_); rintro e w2 ⟨rfl, hb⟩; obtain ⟨bc, bf⟩ := bcell hb; have HB2 := Lib.hid hb; have y0 := (bc p 0 x2).trans x0; have y1 := (bc p 1 x2).trans x1; have y2 := (bc b (off + k * 5) lb).trans z0; have y3 := (bc b (off + k * 5 + 1) lb).trans z1; have y4 := hb.size; clear hb bc bf)
              exact ⟨⟨k + 1, by rw [HM.out]; omega, by simp, by rw [E2.out]; exact own_later HO.out HB2.out, chain2 HB.out HB2.out⟩, by simp [intOf]; omega⟩
            | true =>
              cases tt with
              | false =>
                have E2 := Lib.hid (show someN I n true true (k + 1) = someN I n true true k by rw [E.out]; simp)
                go_wp2_with (go_at_call 39; (with_reducible refine FK.out.mono ?_); rintro e w2 ⟨rfl, hb⟩; obtain ⟨bc, bf⟩ := bcell hb; have HB2 := Lib.hid hb; have y0 := (bc p 0 x2).trans x0; have y1 := (bc p 1 x2).trans x1; have y2 := (bc b (off + k * 5) lb).trans z0; have y3 := (bc b (off + k * 5 + 1) lb).trans z1; have y4 := hb.size; clear hb bc bf)
                exact ⟨⟨k + 1, by rw [HM.out]; omega, by simp, by rw [E2.out]; exact own_later HO.out HB2.out, chain2 HB.out HB2.out⟩, by simp [intOf]; omega⟩
              | true =>
                have E2 := Lib.hid (show someN I n true true (k + 1) = someN I n true true k ++ [k] by rw [E.out]; simp)
                go_wp2_with (first
                  | (go_at_call 39; (with_reducible refine FK.out.mono ?_); rintro e w2 ⟨rfl, hb⟩; obtain ⟨bc, bf⟩ := bcell hb; have HB2 := Lib.hid hb; have y0 := (bc p 0 x2).trans x0; have y1 := (bc p 1 x2).trans x1; have y2 := (bc b (off + k * 5) lb).trans z0; have y3 := (bc b (off + k * 5 + 1) lb).trans z1; have y4 := hb.size; clear hb bc bf)
                  | (at_builtin
                     refine wpList_append_own _ rfl _ _ 34 rfl W1.heap.size 3 i0 _ 1 8 Try.underlying34 G0.out G1.out G2.out G3.out rfl (by decide) _ _ _ rfl ((own_later HO.out HB2.out).alloc _) ⟨w2.heap.size, 0, none⟩ 1 1 [.int .i64 (k : Int)] rfl rfl ?c1 ?c2 ?c3 ?c4 ?c5 ?_
                     case c1 => exact cell_one_new _ _ _
                     case c2 => simp [Value.oneCell']
                     case c3 => simp only [maxLen]; omega
                     case c4 => omega
                     case c5 => simp; omega
                     intro v1 u1 hown1 hgrow1 _))
                exact ⟨⟨k + 1, by rw [HM.out]; omega, by simp, by rw [E2.out, List.length_append, natV_snoc]; exact hown1, ((chain2 HB.out HB2.out).alloc (by omega) _).grown hgrow1 (by simp; omega) (own_ge HO.out)⟩, by simp [intOf]; omega⟩
          | true =>
            have E2 := Lib.hid (show someN I n true i (k + 1) = someN I n true i k ++ [k] by rw [E.out]; simp)
            go_wp2_with (first
              | (go_at_call 39; (with_reducible refine FK.out.mono ?_); rintro e w2 ⟨rfl, hb⟩; obtain ⟨bc, bf⟩ := bcell hb; have HB2 := Lib.hid hb; have y0 := (bc p 0 x2).trans x0; have y1 := (bc p 1 x2).trans x1; have y2 := (bc b (off + k * 5) lb).trans z0; have y3 := (bc b (off + k * 5 + 1) lb).trans z1; have y4 := hb.size; clear hb bc bf)
              | (at_builtin
                 refine wpList_append_own _ rfl _ _ 34 rfl W1.heap.size 3 i0 _ 1 8 Try.underlying34 G0.out G1.out G2.out G3.out rfl (by decide) _ _ _ rfl ((own_later HO.out HB2.out).alloc _) ⟨w2.heap.size, 0, none⟩ 1 1 [.int .i64 (k : Int)] rfl rfl ?c1 ?c2 ?c3 ?c4 ?c5 ?_
                 case c1 => exact cell_one_new _ _ _
                 case c2 => simp [Value.oneCell']
                 case c3 => simp only [maxLen]; omega
                 case c4 => omega
                 case c5 => simp; omega
                 intro v1 u1 hown1 hgrow1 _))
            exact ⟨⟨k + 1, by rw [HM.out]; omega, by simp, by rw [E2.out, List.length_append, natV_snoc]; exact hown1, ((chain2 HB.out HB2.out).alloc (by omega) _).grown hgrow1 (by simp; omega) (own_ge HO.out)⟩, by simp [intOf]; omega⟩
    · obtain rfl : k = m := by omega
      have fin : ∀ (e : Ending) (v : Value), e = .returned v → wr.ownsRow W1.heap.size 3 1 v (someN I n o i k).length (natV (someN I n o i k)) → TellsNats (someD I n o i) w e wr := by
        intro e v he ho
        obtain ⟨_, A', cap, rfl, h1, _, h3⟩ := own_cells ho
        have ed : someD I n o i = someN I n o i k := by unfold someD; rw [HM.out]
        rw [← ed] at ho h1 h3 he
        exact ⟨A', cap, he, h1, h3, chain2 B1.out HB.out, own_base ho B1.out.size⟩
      have FIN := Lib.hid fin
      clear fin
      go_wp2_with fail
      go_ret
      exact FIN.out _ _ rfl HO.out
end Go.Proofs.Ytldjlclinckblaa.Adj
