/- The landed sets: groups: the walk. -/
import Derived.Test.YtoccgpkpmhkeiaaUniX5
namespace Go.Proofs.Ytoccgpkpmhkeiaa.Uni
open Go.RowKit Go.Proofs.Ytoccgpkpmhkeiaa.Inst Go.WideMaps Go.Maps
open Go.ChangeShapes (lits)
set_option linter.unusedVariables false

theorem groups0_any (w : World) : Calls Try.prog 14 #[.pointer none] w fun e w' => (∃ A cap, e = .returned (.slice A 0 cap)) ∧ Below w.heap.size w w' := by
  have K := Lib.hid (fun w => numbers0 w)
  have K2 := Lib.hid (fun w => leasts0 w)
  have hmm := @run_makeMap Try.prog
  go_enter Try.func14, Try.ntmps14
  go_wp2_with (go_at_call 22; (with_reducible refine (K.out _).mono ?_); rintro e wn ⟨rfl, rfl⟩)
  refine wp_loop_rounds 1 ?_
  rw [rounds_succ]
  go_wp2_with (go_at_call 23; (with_reducible refine (K2.out _).mono ?_); rintro e wn ⟨rfl, rfl⟩)
  refine wp_loop_rounds 1 ?_
  rw [rounds_succ]
  go_wp2
  go_ret
  exact ⟨⟨none, 0, rfl⟩, (Below.refl _ _).alloc (Nat.le_refl _) _⟩

/-- At the heads of the two loops. -/
def GatherRel (w : World) (b lo hi : Nat) (L : List Nat) (A : Option Addr) (n c m : Nat) (s12 : Value) (u : World) : Prop :=
  ∃ (k : Nat) (D : DataW Unit), s12 = .int .i64 (k : Int) ∧ k ≤ n ∧ MapIs D L k ∧ u.ownsGroups Try.prog 3 (m + 1) 3 .i64 m k D ∧ WU u b lo hi L A n c ∧ Off lo hi w u ∧ m + 1 ≤ u.heap.size

def TellRel (w : World) (b lo hi : Nat) (L : List Nat) (A : Option Addr) (n c m : Nat) (D : DataW Unit) (RA : Option Addr) (R rc : Nat) (s6 s30 : Value) (u : World) : Prop :=
  ∃ j : Nat, s30 = .int .i64 (j : Int) ∧ j ≤ R ∧ GridOwn u (m + 1) s6 (groupsP L j) ∧ u.ownsGroups Try.prog 3 (m + 1) 3 .i64 m n D ∧ u.ownsRow (m + 1) 3 1 (.slice RA R rc) R (natV (rootsL L)) ∧ WU u b lo hi L A n c ∧ Off lo hi w u ∧ m + 1 ≤ u.heap.size
theorem row_far {w u : World} {base base' n k : Nat} {x v : Value} {vs xs : List Value} (h : w.ownsRow base' 3 1 x n vs) (hv : w.ownsRow base 25 1 v k xs) (hg : w.grownBy u v.ownBlock) : u.ownsRow base' 3 1 x n vs := by
  rcases own_apart h hv (by decide) with q | q
  · obtain ⟨h1, h2⟩ := h
    rcases h2 with h2 | ⟨g', cap', cur, rfl, _⟩
    · exact ⟨h1, .inl h2⟩
    · simp [Value.ownBlock] at q
  · exact h.kept hg (Or.inr q)

set_option maxRecDepth 100000 in
set_option maxHeartbeats 8000000 in
theorem groups_any {b lo hi n c : Nat} {L : List Nat} {A : Option Addr} (w : World) (h : WU w b lo hi L A n c) :
    Calls Try.prog 14 #[obj b] w fun e w' => ∃ v, e = .returned v ∧ Grid w' w.heap.size v (groupsL L) ∧ WU w' b lo hi L A n c ∧ Off lo hi w w' := by
  have hmm := @run_makeMap Try.prog
  obtain ⟨i0, hi0, hz0, hz1, hz2⟩ := info_parts info_int
  obtain ⟨j0, hj0, hy0, hy1, hy2⟩ := info_parts info_ints
  have G0 := Lib.hid hi0
  have G1 := Lib.hid hz0
  have G2 := Lib.hid hz1
  have G3 := Lib.hid hz2
  have J0 := Lib.hid hj0
  have J1 := Lib.hid hy0
  have J2 := Lib.hid hy1
  have J3 := Lib.hid hy2
  clear hi0 hz0 hz1 hz2 hj0 hy0 hy1 hy2
  have hl : L.length = n := by obtain ⟨N, h⟩ := h; exact h.len
  have n9 : n ≤ 1000 := by obtain ⟨N, h⟩ := h; rw [← hl]; exact h.few
  have hh : hi ≤ w.heap.size := by obtain ⟨N, h⟩ := h; exact h.size
  have hcan : Canon L := by obtain ⟨N, h⟩ := h; exact h.canon
  obtain ⟨m, hm⟩ : ∃ m, m = w.heap.size := ⟨_, rfl⟩
  have HM := Lib.hid hm
  obtain ⟨W1, hW1⟩ : ∃ W1, W1 = w.alloc (.map #[] 0) := ⟨_, rfl⟩
  have B1 := Lib.hid (show Below w.heap.size w W1 by rw [hW1]; exact (Below.refl _ _).alloc (Nat.le_refl _) _)
  have G1' := Lib.hid (show W1.ownsGroups (H := Unit) Try.prog 3 (m + 1) 3 .i64 m 0 (.map []) by rw [hW1, hm]; exact World.ownsGroups_made _ _ _ _ _)
  have S1 := Lib.hid (show m + 1 ≤ W1.heap.size by rw [hW1, hm]; simp)
  have U1 := Lib.hid (h.later B1.out)
  have KN := Lib.hid (show Calls Try.prog 22 #[obj b] W1 fun e w' => e = .returned (.int .i64 (n : Int)) ∧ W1 = w' by obtain ⟨N, h⟩ := U1.out; exact numbers_any W1 h)
  have LE := Lib.hid (fun (k : Nat) (hk : k < n) (w' : World) (h' : WU w' b lo hi L A n c) => least_any (k : Int) ((L.getD k 0 : Nat) : Int) (by unfold I64; omega) (leastL_nat (by rw [hl]; exact hk)) w' h')
  have HW := Lib.hid hW1
  have HL := Lib.hid hl
  have CA := Lib.hid hcan
  have HH := Lib.hid hh
  clear hm hW1 h hl hh hcan
  go_enter Try.func14, Try.ntmps14
  go_upto_region 2 with fail
  rw [← HW.out, ← HM.out]
  go_wp2_with (go_at_call 22; (with_reducible refine KN.out.mono ?_); rintro e wn ⟨rfl, rfl⟩)
  go_loopw [12] (fun s12 u => GatherRel w b lo hi L A n c m s12 u) (fun s12 _ => n - (intOf s12).toNat)
  case atStart => exact ⟨0, .map [], rfl, by omega, mapIs_zero L, G1'.out, U1.out, Off.of B1.out, S1.out⟩
  case round =>
    obtain ⟨k, D, rfl, hk, hD, hg, hu, ho, hs⟩ := hrel
    have MD := Lib.hid hD
    have GG := Lib.hid hg
    have UU := Lib.hid hu
    have OO := Lib.hid ho
    have SS := Lib.hid hs
    clear hD hg hu ho hs
    by_cases hlt : k < n
    · obtain ⟨r, hr⟩ : ∃ r, L.getD k 0 = r := ⟨_, rfl⟩
      have LK := Lib.hid (LE.out k hlt wr UU.out)
      rw [hr] at LK
      have RK := Lib.hid hr
      have rk : r ≤ k := by rw [← hr]; exact CA.out.le k (by rw [HL.out]; exact hlt)
      clear hr
      go_upto_region 6 with (go_at_call 16; (with_reducible refine LK.out.mono ?_); rintro e w2 ⟨rfl, hu, ho⟩; have U2 := Lib.hid hu; have O2 := Lib.hid ho; clear hu ho)
      have G2' := Lib.hid (groups_off GG.out O2.out (by have := HH.out; have := HM.out; omega) (by have := HH.out; have := HM.out; omega))
      have S2 := Lib.hid (show m + 1 ≤ w2.heap.size by have := O2.out.size; have := SS.out; omega)
      have hown := G2'.out
      have hkey := kl_of r (by omega)
      have k9 : k < maxLen := by unfold maxLen; omega
      go_wp2_with (first
        | (at_lookup; refine wpList_lookup_groups _ rfl _ _ 47 rfl 3 25 3 .i64 law_int Try.underlying47 (zero_ints _) (m + 1) m k _ rfl hown k9 _ _ rfl hkey ?_; intro v zs hat hoi hzl hback)
        | (at_builtin; refine wpList_append_own_at _ rfl _ _ 25 rfl (m + 1) 3 i0 _ 1 8 Try.underlying25 G0.out G1.out G2.out G3.out rfl (by decide) _ _ _ rfl (hoi.1.alloc _) ⟨w2.heap.size, 0, none⟩ 1 1 [.int .i64 (k : Int)] rfl rfl (cell_one_new _ _ _) (by simp [Value.oneCell']) (by unfold maxLen; omega) (by omega) (by have := S2.out; simp; omega) ?_; intro v' w3 hown' hgrow hnil hloc)
        | (at_mapUpdate; refine wpList_mapUpdate_back _ rfl _ _ _ 47 rfl hback rfl rfl rfl ((World.grownBy_alloc _ _ _).trans hgrow) (hoi.appended hown' (WalkArith.wf_i64 (by omega))) (by simp; omega) (hloc.imp id (fun h => ⟨_, h, by simp⟩)) ?_; intro w4 hown2 hgrow2)
        | go_in)
      have hall := (World.grownBy_alloc w2 _ _).trans hgrow
      have ez := mapIs_at MD.out hat hoi
      have hg1 := own_ge hoi.1
      have e9 : zs ++ [(k : Int)] = castL (groupN L r (k + 1)) := by rw [ez, groupN_succ, if_pos RK.out]; simp [castL]
      have hin := hoi.appended hown' (WalkArith.wf_i64 (by omega))
      rw [e9] at hown2 hin
      have h2 := HH.out
      have h3 := HM.out
      refine ⟨⟨k + 1, _, by simp, by omega, mapIs_put MD.out RK.out hin, hown2, (U2.out.grown hall (fun g hg => by have := hg1 g hg; omega)).grown hgrow2 (fun g hg => by cases hg; omega), ((OO.out.trans O2.out).grown hall (fun g hg => by have := hg1 g hg; omega)).grown hgrow2 (fun g hg => by cases hg; omega), ?_⟩, by simp [intOf]; omega⟩
      have := hall.size
      have := hgrow2.size
      have := S2.out
      omega
    · have kn := Lib.hid (show k = L.length by have := HL.out; omega)
      have MD2 := Lib.hid (show MapIs D L L.length by have := MD.out; rw [kn.out] at this; exact this)
      obtain ⟨N, hN⟩ := UU.out
      have LT := Lib.hid (leasts_any wr hN)
      clear hN
      go_upto_region 9 with fail
      go_wp2_with (go_at_call 23; (with_reducible refine LT.out.mono ?_); rintro e w2 ⟨RA, rc, rfl, hor, hb⟩; have RO := Lib.hid hor; have B2 := Lib.hid hb; clear hor hb)
      obtain ⟨R, hR⟩ : ∃ R, (rootsL L).length = R := ⟨_, rfl⟩
      have HR := Lib.hid hR
      have R9 : R ≤ 1000 := by rw [← hR, ← rootsN_all]; exact Nat.le_trans (rootsN_length L L.length) (by have := HL.out; omega)
      rw [hR] at RO
      rw [hR]
      have k_n := Lib.hid (show k = n by omega)
      have GG2 := Lib.hid (show w2.ownsGroups Try.prog 3 (m + 1) 3 .i64 m n D by rw [← k_n.out]; exact groups_off GG.out (Off.of B2.out (lo := 0) (hi := 0)) (Nat.zero_le _) (Nat.zero_le _))
      have RO2 := Lib.hid (own_base RO.out SS.out)
      have S2 := Lib.hid (show m + 1 ≤ w2.heap.size by have := B2.out.size; have := SS.out; omega)
      have U2 := Lib.hid (UU.out.later B2.out)
      have O2 := Lib.hid (OO.out.then B2.out)
      clear hR GG RO
      go_loopw [6, 30] (fun s6 s30 u => TellRel w b lo hi L A n c m D RA R rc s6 s30 u) (fun _ s30 _ => R - (intOf s30).toNat)
      case atStart => exact ⟨0, rfl, by omega, gridOwn_nil _ _, GG2.out, RO2.out, U2.out, O2.out, S2.out⟩
      case round =>
        obtain ⟨j, rfl, hj, hgr, hgg, hro, hu, ho, hs⟩ := hrel
        have GR := Lib.hid hgr
        have GG3 := Lib.hid hgg
        have RO3 := Lib.hid hro
        have U3 := Lib.hid hu
        have O3 := Lib.hid ho
        have S3 := Lib.hid hs
        clear hgr hgg hro hu ho hs
        by_cases hlt : j < R
        · obtain ⟨g, ea, lg, hc, -⟩ := own_at RO3.out (by omega)
          have jl : j < (rootsL L).length := by rw [HR.out]; exact hlt
          have c1 := hc j (by rw [natV_length]; exact jl)
          obtain ⟨r, hr⟩ : ∃ r, (rootsL L)[j] = r := ⟨_, rfl⟩
          have er : (natV (rootsL L))[j]'(by rw [natV_length]; exact jl) = .int .i64 (r : Int) := by rw [← hr]; simp [natV, numV]
          rw [er] at c1
          have rm : r ∈ rootsL L := by rw [← hr]; exact List.getElem_mem jl
          have r9 : r < n := by have := (mem_roots.1 rm).1; rw [HL.out] at this; exact this
          have GS := Lib.hid (show groupsP L (j + 1) = groupsP L j ++ [groupL L r] by rw [groupsP_succ L j jl, hr])
          have GLn := Lib.hid (groupsP_length L j (by rw [HR.out]; exact hj))
          have EA := Lib.hid ea
          subst ea
          clear hc er hr rm
          have i0 : (0 : Int) ≤ (j : Int) := by omega
          have i1 : (j : Int) < (R : Int) := by omega
          obtain ⟨VA, vc, VS, ev2, vle, vown, vlen, vrows⟩ := gridOwn_parts GR.out
          rw [GLn.out] at ev2 vle vown vlen
          subst ev2
          have VO := Lib.hid vown
          have VL := Lib.hid vlen
          have VR := Lib.hid vrows
          have hown := GG3.out
          have hkey := kl_of r (by omega)
          have n8 : n < maxLen := by unfold maxLen; omega
          clear vown vlen vrows
          go_wp2_with (first
            | (at_lookup; refine wpList_lookup_groups _ rfl _ _ 47 rfl 3 25 3 .i64 law_int Try.underlying47 (zero_ints _) (m + 1) m n _ rfl hown n8 _ _ rfl hkey ?_; intro v zs hat hoi hzl hback; clear hback; obtain ⟨-, LA, lc, ev, -, -, -⟩ := own_cells hoi.1; subst ev; have HAT := Lib.hid hat; have HOI := Lib.hid hoi; clear hat hoi)
            | (at_builtin; refine wpList_append_own _ rfl _ _ 22 rfl (m + 1) 25 j0 _ 1 24 Try.underlying22 J0.out J1.out J2.out J3.out rfl (by decide) (.slice VA j vc) j _ rfl (VO.out.alloc _) ⟨wr.heap.size, 0, none⟩ 1 1 [.slice LA zs.length lc] rfl rfl ?c1 ?c2 ?c3 ?c4 ?c5 ?_
               case c1 => exact cell_one_new _ _ _
               case c2 => simp [Value.oneCell']
               case c3 => simp only [maxLen]; omega
               case c4 => omega
               case c5 => simp; have := S3.out; omega
               intro v1 u1 hown1 hgrow1 _)
            | go_in)
          have AL := (Below.refl wr.heap.size wr).alloc (Nat.le_refl _) (.cells #[.slice LA zs.length lc] 25)
          have ez := mapIs_at MD2.out HAT.out HOI.out
          rw [groupN_all] at ez
          subst ez
          have RW := ints_row HOI.out
          have VO4 := own_later VO.out AL
          have h2 := HH.out
          have h3 := HM.out
          have gv := own_ge VO.out
          have alo : Off 0 0 wr (wr.alloc (.cells #[.slice LA (castL (groupL L r)).length lc] 25)) := Off.of AL
          have lenc : (castL (groupL L r)).length = (groupL L r).length := List.length_map ..
          refine ⟨⟨j + 1, by simp, by omega, ?_, groups_far (g := 0) (groups_off GG3.out alo (Nat.zero_le _) (Nat.zero_le _)) VO4 hgrow1, row_far (own_later RO3.out AL) VO4 hgrow1, (U3.out.later AL).grown hgrow1 (fun g hg => by have := gv g hg; omega), (O3.out.then AL).grown hgrow1 (fun g hg => by have := gv g hg; omega), ?_⟩, by simp [intOf]; omega⟩
          · rw [GS.out]
            have q := GridOwn.snoc (G := groupsP L j) (l := groupL L r) (v1 := v1) (u := u1) (VS := VS) (lv := .slice LA (castL (groupL L r)).length lc) (v := .slice VA j vc) (by rw [VL.out, GLn.out]) (fun i h1 h2 => own_later (VR.out i h1 h2) AL) (by rw [GLn.out]; exact VO4) (own_later RW AL) (by rw [GLn.out]; exact hown1) hgrow1
            exact q
          · have := hgrow1.size
            have := AL.size
            have := S3.out
            omega
        · have jn := Lib.hid (show j = (rootsL L).length by have := HR.out; omega)
          have F := Lib.hid (show Grid wr w.heap.size _ (groupsL L) from by have := GR.out.grid; rw [jn.out, groupsP_all] at this; exact this.from (by have := HM.out; omega))
          go_wp2_with fail
          go_ret
          exact ⟨_, rfl, F.out, U3.out, O3.out⟩
end Go.Proofs.Ytoccgpkpmhkeiaa.Uni
