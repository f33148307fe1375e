/- Contracts of the document's answers for layer 5: groups, the walk. -/
import Derived.Test.YtoccgpkpmhkeiaaUniF
namespace Go.Proofs.Ytoccgpkpmhkeiaa.Uni
open Go.RowKit Go.Proofs.Ytoccgpkpmhkeiaa.Inst

/-- At the head of Groups' loops. -/
def GroupsRel (W1 : World) (L : List Nat) (s3 s4 : Value) (u : World) : Prop :=
  ∃ k : Nat, k ≤ L.length ∧ s4 = .int .i64 (k : Int) ∧ GridOwn u W1.heap.size s3 (groupsN L k) ∧ Below W1.heap.size W1 u
def GroupRel (W : World) (L : List Nat) (n : Nat) (s5 s6 : Value) (u : World) : Prop :=
  ∃ k : Nat, k ≤ L.length ∧ s6 = .int .i64 (k : Int) ∧ u.ownsRow W.heap.size 3 1 s5 (groupN L n k).length (natV (groupN L n k)) ∧ Below W.heap.size W u

set_option maxRecDepth 100000 in
set_option maxHeartbeats 8000000 in
theorem rgroups_any (A : Option Addr) (c n : Nat) (L : List Nat) (hn : L.length = n) (h9 : n ≤ 1000) (w : World) (h : Cells w w.heap.size A (natV L)) :
    Calls Try.prog 25 #[setV A n c] w fun e w' => ∃ v, e = .returned v ∧ Grid w' w.heap.size v (groupsL L) ∧ Below w.heap.size w w' := by
  obtain ⟨i0, hi0, hz0, hz1, hz2⟩ := info_parts info_int
  obtain ⟨j0, hj0, hy0, hy1, hy2⟩ := info_parts info_ints
  have G0 := Lib.hid hi0
  have G1 := Lib.hid hz0
  have G2 := Lib.hid hz1
  have G3 := Lib.hid hz2
  have J0 := Lib.hid hj0
  have J1 := Lib.hid hy0
  have J2 := Lib.hid hy1
  have J3 := Lib.hid hy2
  clear hi0 hz0 hz1 hz2 hj0 hy0 hy1 hy2
  obtain ⟨p, hp⟩ : ∃ p, p = w.heap.size := ⟨_, rfl⟩
  obtain ⟨W1, hW1⟩ : ∃ W1, W1 = w.alloc (.cells #[.slice A n c] tS) := ⟨_, rfl⟩
  have B1 := Lib.hid (show Below w.heap.size w W1 by rw [hW1]; exact (Below.refl _ _).alloc (Nat.le_refl _) _)
  have BP := Lib.hid (show Blk W1 p tS #[.slice A n c] by rw [hW1]; exact blk_at hp.symm _ _)
  have HC := Lib.hid (h.later (Nat.le_refl _) B1.out)
  have HW := Lib.hid hW1
  have HP := Lib.hid hp
  have HN := Lib.hid hn
  clear hW1 hp h hn
  go_enter Try.func25, Try.ntmps25
  go_upto_region 3 with fail
  rw [← HW.out, ← HP.out]
  go_loopw [3, 4, 5, 6] (fun s3 s4 _ _ u => GroupsRel W1 L s3 s4 u) (fun _ s4 _ _ _ => n - (intOf s4).toNat)
  case atStart => exact ⟨0, by omega, rfl, gridOwn_nil _ _, Below.refl _ _⟩
  case round =>
    obtain ⟨k, hk, rfl, hg, hB⟩ := hrel
    rw [HN.out] at hk
    have GO := Lib.hid hg
    have HB := Lib.hid hB
    have bp := BP.out.below hB BP.out.lt
    have BP2 := Lib.hid bp
    have x0 := bp.cell 0
    have x2 := bp.lt
    have bs := hB.size
    simp at x0
    clear hg hB bp
    by_cases hlt : k < n
    · have HC2 := HC.out.later (Nat.le_refl _) HB.out
      obtain ⟨bl, ol, ea, lb, hc⟩ := nats_at HC2 (by have := HN.out; omega)
      have c1 := hc k (by have := HN.out; omega)
      have e : L.getD k 0 = L[k]'(by have := HN.out; omega) := by rw [List.getD_eq_getElem?_getD, List.getElem?_eq_getElem (by have := HN.out; omega)]; rfl
      rw [← e] at c1
      have GS := Lib.hid (groupsN_succ L k)
      have HZ := Lib.hid (show ∃ Z, Z = L.getD k 0 from ⟨_, rfl⟩)
      obtain ⟨Z, hZ⟩ := HZ.out
      rw [← hZ] at c1 GS
      have EA := Lib.hid ea
      subst ea
      clear HC2 hc e hZ
      have i0' : (0 : Int) ≤ (k : Int) := by omega
      have i1' : (k : Int) < (n : Int) := by omega
      by_cases e1 : Z = k
      · have t1 : ((Z : Int) != (k : Int)) = false := by simp [e1]
        have ES := Lib.hid (show groupsN L (k + 1) = groupsN L k ++ [groupL L k] by rw [GS.out, if_pos e1])
        clear e1
        go_upto_region 8 with fail
        obtain ⟨Wk, rfl⟩ : ∃ Wk, Wk = wr := ⟨_, rfl⟩
        go_loopw [5, 6] (fun s5 s6 u => GroupRel Wk L k s5 s6 u) (fun _ s6 _ => n - (intOf s6).toNat)
        case atStart => exact ⟨0, by omega, rfl, ⟨rfl, .inl ⟨rfl, rfl⟩⟩, Below.refl _ _⟩
        case round =>
          obtain ⟨j, hj, rfl, ho, hB2⟩ := hrel
          rw [HN.out] at hj
          have HO := Lib.hid ho
          have HB2 := Lib.hid hB2
          have bp2 := BP2.out.below hB2 BP2.out.lt
          have BP3 := Lib.hid bp2
          have y0 := bp2.cell 0
          have y2 := bp2.lt
          have bs2 := hB2.size
          simp at y0
          have gl := groupN_length L k j
          clear ho hB2 bp2
          by_cases hlt2 : j < n
          · have HC3 := HC.out.later (Nat.le_refl _) (chain2 HB.out HB2.out)
            obtain ⟨bl2, ol2, ea, lb2, hc⟩ := nats_at HC3 (by have := HN.out; omega)
            cases ea
            have c2 := hc j (by have := HN.out; omega)
            have e : L.getD j 0 = L[j]'(by have := HN.out; omega) := by rw [List.getD_eq_getElem?_getD, List.getElem?_eq_getElem (by have := HN.out; omega)]; rfl
            rw [← e] at c2
            have GN := Lib.hid (groupN_succ L k j)
            obtain ⟨Y, hY⟩ : ∃ Y, Y = L.getD j 0 := ⟨_, rfl⟩
            rw [← hY] at c2 GN
            clear HC3 hc e hY
            have j0' : (0 : Int) ≤ (j : Int) := by omega
            have j1' : (j : Int) < (n : Int) := by omega
            by_cases e2 : Y = k
            · have t2 : ((Y : Int) == (k : Int)) = true := by simp [e2]
              have EN := Lib.hid (show groupN L k (j + 1) = groupN L k j ++ [j] by rw [GN.out, if_pos e2])
              clear e2
              go_wp2_with (
                at_builtin
                refine wpList_append_own _ rfl _ _ 25 rfl Wk.heap.size 3 i0 _ 1 8 Try.underlying25 G0.out G1.out G2.out G3.out rfl (by decide) _ _ _ rfl (HO.out.alloc _) ⟨World.heap _ |>.size, 0, none⟩ 1 1 [.int .i64 (j : Int)] rfl rfl ?c1 ?c2 ?c3 ?c4 ?c5 ?_
                case c1 => exact cell_one_new _ _ _
                case c2 => simp [Value.oneCell']
                case c3 => simp only [maxLen]; omega
                case c4 => omega
                case c5 => simp; omega
                intro v1 u1 hown1 hgrow1 _)
              exact ⟨⟨j + 1, by have := HN.out; omega, by simp, by rw [EN.out, List.length_append, natV_snoc]; exact hown1, (HB2.out.alloc bs2 _).grown hgrow1 (by simp; omega) (own_ge HO.out)⟩, by simp [intOf]; omega⟩
            · have t2 : ((Y : Int) == (k : Int)) = false := by simp; omega
              have EN := Lib.hid (show groupN L k (j + 1) = groupN L k j ++ [] by rw [GN.out, if_neg e2])
              clear e2
              go_wp2_with fail
              exact ⟨⟨j + 1, by have := HN.out; omega, by simp, by rw [EN.out, List.append_nil]; exact HO.out, HB2.out⟩, by simp [intOf]; omega⟩
          · have jn := Lib.hid (show j = L.length by have := HN.out; omega)
            have HO2 := HO.out
            rw [jn.out, groupN_all] at HO2
            have RO := Lib.hid (own_base HO2 (b' := W1.heap.size) HB.out.size)
            obtain ⟨-, RA, rc, ev, -, -, -⟩ := own_cells HO2
            obtain ⟨VA, vc, VS, ev2, vle, vown, vlen, vrows⟩ := gridOwn_parts (GO.out.later HB2.out)
            subst ev ev2
            have VO := Lib.hid vown
            have VL := Lib.hid vlen
            have VR := Lib.hid vrows
            have gl2 := groupsN_length L k
            clear HO2 vown vlen vrows
            go_wp2_with (
              at_builtin
              refine wpList_append_own _ rfl _ _ 22 rfl W1.heap.size 25 j0 _ 1 24 Try.underlying22 J0.out J1.out J2.out J3.out rfl (by decide) (.slice VA (groupsN L k).length vc) (groupsN L k).length _ rfl (VO.out.alloc _) ⟨World.heap _ |>.size, 0, none⟩ 1 1 [.slice RA (groupL L k).length rc] rfl rfl ?c1 ?c2 ?c3 ?c4 ?c5 ?_
              case c1 => exact cell_one_new _ _ _
              case c2 => simp [Value.oneCell']
              case c3 => simp only [maxLen]; omega
              case c4 => omega
              case c5 => simp; omega
              intro v1 u1 hown1 hgrow1 _)
            have AL := (Below.refl wr.heap.size wr).alloc (Nat.le_refl _) (.cells #[.slice RA (groupL L k).length rc] 25)
            refine ⟨⟨k + 1, by have := HN.out; omega, by simp, ?_, ?_⟩, by simp [intOf]; omega⟩
            · rw [ES.out]
              exact GridOwn.snoc VL.out (fun i h1 h2 => own_later (VR.out i h1 h2) AL) (own_later VO.out AL) (own_later RO.out AL) hown1 hgrow1
            · exact ((chain2 HB.out HB2.out).alloc (chain2 HB.out HB2.out).size _).grown hgrow1 (by simp; omega) (own_ge VO.out)
      · have t1 : ((Z : Int) != (k : Int)) = true := by simp; omega
        have ES := Lib.hid (show groupsN L (k + 1) = groupsN L k ++ [] by rw [GS.out, if_neg e1])
        clear e1
        go_wp2_with fail
        exact ⟨⟨k + 1, by have := HN.out; omega, by simp, by rw [ES.out, List.append_nil]; exact GO.out, HB.out⟩, by simp [intOf]; omega⟩
    · have kn := Lib.hid (show k = n by omega)
      have GF := Lib.hid (show Grid wr w.heap.size _ (groupsL L) from by have := GO.out.grid; rw [kn.out, ← HN.out, groupsN_all] at this; exact this.from B1.out.size)
      go_wp2_with fail
      go_ret
      exact ⟨_, rfl, GF.out, chain2 B1.out HB.out⟩
end Go.Proofs.Ytoccgpkpmhkeiaa.Uni
