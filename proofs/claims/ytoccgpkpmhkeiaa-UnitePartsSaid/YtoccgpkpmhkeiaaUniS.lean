/- The walk of UniteStars. -/
import Derived.Test.YtoccgpkpmhkeiaaUniP
import Derived.IntWalk
namespace Go.Proofs.Ytoccgpkpmhkeiaa.Uni
open Go.RowKit Go.Proofs.Ytoccgpkpmhkeiaa.Inst
set_option linter.unusedVariables false

def evL (k : Nat) : List Nat := (List.range k).filter fun i => decide (i % 2 = 0)
def odL (k : Nat) : List Nat := (List.range k).filter fun i => decide (i % 2 = 1)
theorem evL_in (k : Nat) (h : k % 2 = 0) : evL (k + 1) = evL k ++ [k] := by unfold evL; rw [List.range_succ, List.filter_append, filter_one, if_pos (decide_eq_true h)]
theorem evL_out (k : Nat) (h : ¬ k % 2 = 0) : evL (k + 1) = evL k := by unfold evL; rw [List.range_succ, List.filter_append, filter_one, if_neg (by simpa using h), List.append_nil]
theorem odL_in (k : Nat) (h : k % 2 = 1) : odL (k + 1) = odL k ++ [k] := by unfold odL; rw [List.range_succ, List.filter_append, filter_one, if_pos (decide_eq_true h)]
theorem odL_out (k : Nat) (h : ¬ k % 2 = 1) : odL (k + 1) = odL k := by unfold odL; rw [List.range_succ, List.filter_append, filter_one, if_neg (by simpa using h), List.append_nil]
theorem evL_length (k : Nat) : (evL k).length ≤ k := Nat.le_trans (List.length_filter_le _ _) (by rw [List.length_range]; exact Nat.le_refl _)
theorem odL_length (k : Nat) : (odL k).length ≤ k := Nat.le_trans (List.length_filter_le _ _) (by rw [List.length_range]; exact Nat.le_refl _)
theorem many_one {m : Nat} (h : 0 < m) : ((groupsL (List.replicate m 0)).length : Int) = 1 := by rw [groups_length, one_root h]; rfl
theorem least_one {m : Nat} (h : 0 < m) : leastL (List.replicate m 0) ((m : Int) - 1) = 0 := by
  rw [show (m : Int) - 1 = ((m - 1 : Nat) : Int) by omega, least_at (by rw [List.length_replicate]; omega), List.getD_eq_getElem?_getD, List.getElem?_replicate, if_pos (by omega)]
  rfl

/-- Two rows of numbers, each of its own. -/
structure Rows2 (B0 : Nat) (u : World) (v1 v2 : Value) (l1 l2 : List Nat) : Prop where
  r1 : u.ownsRow B0 3 1 v1 l1.length (natV l1)
  r2 : u.ownsRow B0 3 1 v2 l2.length (natV l2)
  d12 : ∀ g, v1.ownBlock = some g → v2.ownBlock ≠ some g
theorem Rows2.flip {B0 : Nat} {u : World} {v1 v2 : Value} {l1 l2 : List Nat} (h : Rows2 B0 u v1 v2 l1 l2) : Rows2 B0 u v2 v1 l2 l1 := ⟨h.r2, h.r1, fun g h1 h2 => h.d12 g h2 h1⟩
theorem Rows2.off {B0 lo hi : Nat} {u v : World} {v1 v2 : Value} {l1 l2 : List Nat} (h : Rows2 B0 u v1 v2 l1 l2) (ho : Off lo hi u v) (hb : hi ≤ B0) : Rows2 B0 v v1 v2 l1 l2 :=
  ⟨own_off h.r1 ho (fun g hg => .inr (Nat.le_trans hb (own_ge h.r1 g hg))), own_off h.r2 ho (fun g hg => .inr (Nat.le_trans hb (own_ge h.r2 g hg))), h.d12⟩
theorem Rows2.later {B0 : Nat} {u v : World} {v1 v2 : Value} {l1 l2 : List Nat} (h : Rows2 B0 u v1 v2 l1 l2) (hb : Below u.heap.size u v) : Rows2 B0 v v1 v2 l1 l2 := h.off (lo := 0) (hi := 0) (Off.of hb) (Nat.zero_le _)
theorem rows2_app {B0 : Nat} {u w1 : World} {o : Obj} {v1 v1' v2 : Value} {l1 l2 : List Nat} {m : Nat} (h : Rows2 B0 u v1 v2 l1 l2) (hw : w1.ownsRow B0 3 1 v1' (l1.length + 1) (natV l1 ++ [.int .i64 (m : Int)])) (hg : (u.alloc o).grownBy w1 v1.ownBlock) (hat : v1'.ownBlock = v1.ownBlock ∨ v1'.ownBlock = some (u.alloc o).heap.size) : Rows2 B0 w1 v1' v2 (l1 ++ [m]) l2 := by
  have hb : Below u.heap.size u (u.alloc o) := (Below.refl _ _).alloc (Nat.le_refl _) _
  have h2 := own_later h.r2 hb
  refine ⟨by rw [List.length_append, natV_snoc]; exact hw, ?_, fun g h1 h3 => ?_⟩
  · cases hv : v2.ownBlock with
    | none => exact h2.kept hg (Or.inl hv)
    | some g =>
      refine h2.kept hg (Or.inr ?_)
      rw [hv]
      intro q
      exact h.d12 g q.symm hv
  · rcases hat with q | q
    · exact h.d12 g (by rw [← q]; exact h1) h3
    · have := own_lt h2 g h3
      rw [h1] at q
      cases q
      omega

theorem star_to (x k P : Nat) (hx : x < 256) (hP : P < 2) : wrap64 (wrap64 (wrap64 (((x : Int) % ((k : Int) + 1)).tdiv 2) * 2) + (P : Int)) = (((x % (k + 1)) / 2 * 2 + P : Nat) : Int) := by
  obtain ⟨y, hy⟩ : ∃ y, y = x % (k + 1) := ⟨_, rfl⟩
  have y9 : y ≤ x := by rw [hy]; exact Nat.mod_le _ _
  have e : ((x : Int) % ((k : Int) + 1)) = (y : Int) := by rw [hy]; push_cast; rfl
  have q1 : wrap64 ((y : Int) / 2) = (y : Int) / 2 := IntWalk.wrap64_in _ ⟨by omega, by omega⟩
  have q2 : wrap64 ((y : Int) / 2 * 2) = (y : Int) / 2 * 2 := IntWalk.wrap64_in _ ⟨by omega, by omega⟩
  have q3 : wrap64 ((y : Int) / 2 * 2 + (P : Int)) = (y : Int) / 2 * 2 + (P : Int) := IntWalk.wrap64_in _ ⟨by omega, by omega⟩
  rw [e, ← hy, Int.tdiv_eq_ediv_of_nonneg (by omega), q1, q2, q3]
  omega

/-- [][]int{a, b}, as it is made. -/
theorem lit_two {w : World} {B0 : Nat} {A1 A2 : Option Addr} {n1 n2 c1 c2 : Nat} {l1 l2 : List Nat} (h1 : w.ownsRow B0 3 1 (.slice A1 n1 c1) l1.length (natV l1)) (h2 : w.ownsRow B0 3 1 (.slice A2 n2 c2) l2.length (natV l2)) :
    Grid (w.alloc (.cells #[.slice A1 n1 c1, .slice A2 n2 c2] 25)) 0 (.slice (some ⟨w.heap.size, 0, none⟩) 2 2) [l1, l2] := by
  have hb : Below w.heap.size w (w.alloc (.cells #[.slice A1 n1 c1, .slice A2 n2 c2] 25)) := (Below.refl _ _).alloc (Nat.le_refl _) _
  obtain ⟨B1, d1, e1, p1⟩ := past_own (own_later h1 hb)
  obtain ⟨B2, d2, e2, p2⟩ := past_own (own_later h2 hb)
  refine ⟨some ⟨w.heap.size, 0, none⟩, 2, [.slice A1 n1 c1, .slice A2 n2 c2], rfl, rfl, past_blk (t := 25) (Blk.new w _ _) (Nat.zero_le _), fun i h1 h2 => ?_⟩
  rcases i with _ | _ | i
  · exact ⟨B1, d1, e1, p1.from (Nat.zero_le _)⟩
  · exact ⟨B2, d2, e2, p2.from (Nat.zero_le _)⟩
  · simp at h1; omega

def StarRel (Un : World → Nat → Nat → Nat → List Nat → Prop) (W : World) (b hi m : Nat) (s7 s8 s9 : Value) (u : World) : Prop :=
  ∃ k : Nat, s9 = .int .i64 (k : Int) ∧ k ≤ m ∧ Un u b W.heap.size hi (starL k m) ∧ Rows2 hi u s7 s8 (evL k) (odL k) ∧ Below W.heap.size W u

set_option maxRecDepth 100000 in
set_option maxHeartbeats 8000000 in
theorem stars_walk {Un : World → Nat → Nat → Nat → List Nat → Prop} (C : UniC Un) {W : World} (n : Int) (hn : U8 n)
    (s : Option Addr) (l cc : Nat) (c : List Nat) (hc : c.length = l) (h9 : l ≤ 140737488355328) (hx : Octs c) (hs : Cells W W.heap.size s (octV c)) :
    Calls Try.prog 7 #[.int .u8 n, .slice s l cc] W fun e W' => e = .returned (.bool true) ∧ Below W.heap.size W W' := by
  have hn2 := hn
  unfold U8 at hn2
  obtain ⟨m, hm⟩ : ∃ m : Nat, (m : Int) = 2 + n % 40 := ⟨(2 + n % 40).toNat, by omega⟩
  have m2 : 2 ≤ m := by omega
  have m9 : m ≤ 41 := by omega
  obtain ⟨i0, hi0, hz0, hz1, hz2⟩ := info_parts info_int
  have G0 := Lib.hid hi0
  have G1 := Lib.hid hz0
  have G2 := Lib.hid hz1
  have G3 := Lib.hid hz2
  clear hi0 hz0 hz1 hz2
  have KN := Lib.hid (fun w => known_any C w)
  have NW := Lib.hid (C.new (m : Int) W (by unfold I64; omega) (by omega))
  rw [show startL (m : Int) = starL 0 m by rw [star_zero]; unfold startL; rw [Int.toNat_natCast, Nat.min_eq_left (by omega)]] at NW
  have LA := Lib.hid (fun (w u : World) (b lo hi : Nat) (L : List Nat) (h : Un w b lo hi L) (hb : Below w.heap.size w u) => C.later h hb)
  have OF := Lib.hid (fun (w u : World) (b lo hi x y : Nat) (L : List Nat) (h : Un w b lo hi L) (ho : Off x y w u) (hx : hi ≤ x ∨ y ≤ lo) => C.off h ho hx)
  have IS := Lib.hid (fun (w : World) (b lo hi : Nat) (L : List Nat) (h : Un w b lo hi L) => C.is h)
  have JO := Lib.hid (fun b lo hi L x y w' => C.join b lo hi L x y w')
  have GR := Lib.hid (fun b lo hi L w' => C.groups b lo hi L w')
  have MA := Lib.hid (fun b lo hi L w' => C.many b lo hi L w')
  have LE := Lib.hid (fun b lo hi L x w' => C.least b lo hi L x w')
  have HX := Lib.hid hx
  have HS := Lib.hid hs
  have HC := Lib.hid hc
  have e1 : IntKind.i64.wrap (n % 40) = n % 40 := wrap_id (by omega) (by omega)
  have e2 : n % 40 = (m : Int) - 2 := by omega
  clear hx hs hc C hn hm
  go_enter Try.func7, Try.ntmps7
  go_upto_region 2 with fail
  rw [show (2 : Int) + ((m : Int) - 2) = (m : Int) by omega]
  clear e1 e2
  go_wp2_with (go_at_call 11; (with_reducible refine NW.out.mono ?_); rintro e w2 ⟨b, rfl, hu, hb⟩; have U2 := Lib.hid hu; have HB2 := Lib.hid hb; clear hu hb)
  obtain ⟨hi, hhi⟩ : ∃ hi, hi = w2.heap.size := ⟨_, rfl⟩
  have U3 := Lib.hid (show Un w2 b W.heap.size hi (starL 0 m) by rw [hhi]; exact U2.out)
  have WH := Lib.hid (show W.heap.size ≤ hi by rw [hhi]; exact HB2.out.size)
  clear hhi U2
  go_loopw [7, 8, 9] (fun s7 s8 s9 u => StarRel Un W b hi m s7 s8 s9 u) (fun _ _ s9 _ => m - (intOf s9).toNat)
  case atStart => exact ⟨0, rfl, by omega, U3.out, ⟨⟨rfl, .inl ⟨rfl, rfl⟩⟩, ⟨rfl, .inl ⟨rfl, rfl⟩⟩, fun g h => by simp [Value.ownBlock] at h⟩, HB2.out⟩
  case round =>
    obtain ⟨k, rfl, hk, hu, hr, hb⟩ := hrel
    have U := Lib.hid hu
    have RR := Lib.hid hr
    have HB := Lib.hid hb
    have bs := hb.size
    clear hu hr hb
    by_cases hlt : k < m
    · have hk2 : (k : Int) % 2 = ((k % 2 : Nat) : Int) := by omega
      obtain ⟨P, hP⟩ : ∃ P, k % 2 = P := ⟨_, rfl⟩
      rw [hP] at hk2
      have HP := Lib.hid hP
      have p2 : P < 2 := by omega
      clear hP
      have w1 : (k : Int) ≤ 41 := by omega
      have w0 : (0 : Int) ≤ (k : Int) := by omega
      go_upto_if 31 with (fail)
      go_cut [10] (fun s10 wx => ∃ T : Nat, s10 = .int .i64 (T : Int) ∧ T % 2 = P ∧ T ≤ 300 ∧ wx = wr)
      case first =>
        by_cases hl : k < l
        · obtain ⟨sb, so, ea, lb, hcs⟩ := octs_at (HS.out.later (Nat.le_refl _) HB.out) (by have := HC.out; omega)
          have c1 := hcs k (by have := HC.out; omega)
          obtain ⟨x, hx⟩ : ∃ x, x = at0 c k := ⟨_, rfl⟩
          have x9 : x < 256 := by rw [hx]; exact at0_lt HX.out k
          rw [← hx] at c1
          subst ea
          clear hcs hx
          have k1 : (k : Int) < (l : Int) := by omega
          go_upto_region 11 with fail
          go_upto_region 12 with fail
          go_meet
          case rel => exact ⟨_, by rw [star_to x k P x9 p2], by have := HP.out; omega, by have := Nat.mod_le x (k + 1); omega, rfl⟩
        · go_upto_region 12 with fail
          go_meet
          case rel => exact ⟨P, by first | rfl | rw [hk2], by have := HP.out; omega, by omega, rfl⟩
      case rest =>
        obtain ⟨T, rfl, tp, t9, rfl⟩ := hcut
        have TP := Lib.hid tp
        clear tp
        have K1 := Lib.hid (fun (w' : World) (h' : Un w' b W.heap.size hi (starL k m)) (h1 : T < k) => (JO.out b W.heap.size hi (starL k m) (k : Int) (T : Int) w' h' (by unfold I64; omega) (by unfold I64; omega)).mono (R' := fun e u => ∃ r, e = .returned (.bool r) ∧ Un u b W.heap.size hi (starL (k + 1) m) ∧ Off W.heap.size hi w' u) (by
          rintro e u ⟨he, hu, ho⟩
          rw [star_join hlt (by rw [TP.out, HP.out]) (.inl h1)] at hu
          exact ⟨_, he, hu, ho⟩))
        have K2 := Lib.hid (fun (w' : World) (h' : Un w' b W.heap.size hi (starL k m)) => (JO.out b W.heap.size hi (starL k m) (k : Int) (P : Int) w' h' (by unfold I64; omega) (by unfold I64; omega)).mono (R' := fun e u => ∃ r, e = .returned (.bool r) ∧ Un u b W.heap.size hi (starL (k + 1) m) ∧ Off W.heap.size hi w' u) (by
          rintro e u ⟨he, hu, ho⟩
          rw [star_join hlt (by have := HP.out; omega) (.inr HP.out.symm)] at hu
          exact ⟨_, he, hu, ho⟩))
        have le1 := evL_length k
        have le2 := odL_length k
        rcases Nat.lt_or_ge T k with tk | tk
        all_goals
          go_upto_region 16 with (first
            | (go_at_call 12; (with_reducible refine (K1.out _ U.out tk).mono ?_); rintro e w5 ⟨r5, rfl, hu, ho⟩; have U5 := Lib.hid hu; have O5 := Lib.hid ho; clear hu ho)
            | (go_at_call 12; (with_reducible refine (K2.out _ U.out).mono ?_); rintro e w5 ⟨r5, rfl, hu, ho⟩; have U5 := Lib.hid hu; have O5 := Lib.hid ho; clear hu ho))
          have R5 := Lib.hid (RR.out.off O5.out (Nat.le_refl _))
          have B5 := Lib.hid (below_off HB.out O5.out (Nat.le_refl _) bs)
          have H5 := Lib.hid (IS.out _ _ _ _ _ U5.out).1
          rcases (show P = 0 ∨ P = 1 by omega) with pe | pe
          · subst pe
            have E1 := Lib.hid (evL_in k HP.out)
            have E2 := Lib.hid (odL_out k (by have := HP.out; omega))
            go_wp2_with (
              at_builtin
              refine wpList_append_own_at _ rfl _ _ 25 rfl hi 3 i0 _ 1 8 Try.underlying25 G0.out G1.out G2.out G3.out rfl (by decide) _ _ _ rfl (R5.out.r1.alloc _) ⟨World.heap _ |>.size, 0, none⟩ 1 1 [.int .i64 (k : Int)] rfl rfl ?c1 ?c2 ?c3 ?c4 ?c5 ?_
              case c1 => exact cell_one_new _ _ _
              case c2 => simp [Value.oneCell']
              case c3 => simp only [maxLen]; omega
              case c4 => omega
              case c5 => simp; have := H5.out; omega
              intro v1 u1 hown1 hgrow1 _ hat
              have QA := Lib.hid hown1
              have QB := Lib.hid hgrow1
              have QC := Lib.hid hat
              clear hown1 hgrow1 hat)
            have hgr := (World.grownBy_alloc _ _ _).trans QB.out
            have hge := own_ge R5.out.r1
            have wh := WH.out
            exact ⟨⟨k + 1, by simp, by omega, OF.out _ _ _ _ _ _ _ _ U5.out (off_of_grown hgr hge) (.inl (Nat.le_refl _)), by rw [E1.out, E2.out]; exact rows2_app R5.out QA.out QB.out QC.out, B5.out.grown hgr B5.out.size (fun g hg => by have := hge g hg; omega)⟩, by simp [intOf]; omega⟩
          · subst pe
            have E1 := Lib.hid (evL_out k (by have := HP.out; omega))
            have E2 := Lib.hid (odL_in k HP.out)
            go_wp2_with (
              at_builtin
              refine wpList_append_own_at _ rfl _ _ 25 rfl hi 3 i0 _ 1 8 Try.underlying25 G0.out G1.out G2.out G3.out rfl (by decide) _ _ _ rfl (R5.out.r2.alloc _) ⟨World.heap _ |>.size, 0, none⟩ 1 1 [.int .i64 (k : Int)] rfl rfl ?c1 ?c2 ?c3 ?c4 ?c5 ?_
              case c1 => exact cell_one_new _ _ _
              case c2 => simp [Value.oneCell']
              case c3 => simp only [maxLen]; omega
              case c4 => omega
              case c5 => simp; have := H5.out; omega
              intro v1 u1 hown1 hgrow1 _ hat
              have QA := Lib.hid hown1
              have QB := Lib.hid hgrow1
              have QC := Lib.hid hat
              clear hown1 hgrow1 hat)
            have hgr := (World.grownBy_alloc _ _ _).trans QB.out
            have hge := own_ge R5.out.r2
            have wh := WH.out
            exact ⟨⟨k + 1, by simp, by omega, OF.out _ _ _ _ _ _ _ _ U5.out (off_of_grown hgr hge) (.inl (Nat.le_refl _)), by rw [E1.out, E2.out]; exact (rows2_app R5.out.flip QA.out QB.out QC.out).flip, B5.out.grown hgr B5.out.size (fun g hg => by have := hge g hg; omega)⟩, by simp [intOf]; omega⟩
    · have km := Lib.hid (show k = m by omega)
      have FU := Lib.hid (show Un wr b W.heap.size hi (starL m m) by have := U.out; rw [km.out] at this; exact this)
      have FR := Lib.hid (show Rows2 hi wr u7 u8 (evL m) (odL m) by have := RR.out; rw [km.out] at this; exact this)
      obtain ⟨-, A7, c7, e7, -, -, -⟩ := own_cells FR.out.r1
      obtain ⟨-, A8, c8, e8, -, -, -⟩ := own_cells FR.out.r2
      subst e7 e8
      obtain ⟨n7, h7⟩ : ∃ n7, (evL m).length = n7 := ⟨_, rfl⟩
      obtain ⟨n8, h8⟩ : ∃ n8, (odL m).length = n8 := ⟨_, rfl⟩
      rw [h7, h8] at FR ⊢
      have GR1 := Lib.hid (fun w' h => GR.out b W.heap.size hi (starL m m) w' h)
      rw [star_groups m2] at GR1
      have GR2 := Lib.hid (show ∀ w', Un w' b W.heap.size hi (starL m m) → Calls Try.prog 14 #[obj b] w' fun e u => ∃ v, e = .returned v ∧ Grid u w'.heap.size v [evL m, odL m] ∧ Un u b W.heap.size hi (starL m m) ∧ Off W.heap.size hi w' u from GR1.out)
      have LI := Lib.hid (fun a a' w ha hb => lists_any [evL m, odL m] a a' 0 0 (by simp) (fun i h => by
        have q1 := evL_length m
        have q2 := odL_length m
        rcases i with _ | _ | i
        · simp; omega
        · simp; omega
        · simp at h; omega) w ha hb)
      have SL := star_last m2
      have JO1 := Lib.hid (fun w' h => JO.out b W.heap.size hi (starL m m) 0 1 w' h (by unfold I64; omega) (by unfold I64; omega))
      rw [SL.1, SL.2] at JO1
      have MA1 := Lib.hid (fun w' h => MA.out b W.heap.size hi (List.replicate m 0) w' h)
      rw [many_one (by omega)] at MA1
      have LE1 := Lib.hid (fun w' h => LE.out b W.heap.size hi (List.replicate m 0) ((m : Int) - 1) w' h (by unfold I64; omega))
      rw [least_one (by omega)] at LE1
      clear GR1 SL RR U h7 h8
      go_wp2_with (first
        | (go_at_call 14; (with_reducible refine (GR2.out _ FU.out).mono ?_); rintro e wg ⟨v, rfl, hg, hu, ho⟩; have GG := Lib.hid (hg.from (Nat.zero_le _)); have F2 := Lib.hid hu; have R2 := Lib.hid (FR.out.off ho (Nat.le_refl _)); have HB5 := Lib.hid (below_off HB.out ho (Nat.le_refl _) bs); clear hg hu ho)
        | (go_at_call 13; (with_reducible refine (LI.out _ _ _ ?ga ?gb).mono ?_); (case ga => exact GG.out.alloc _); (case gb => exact lit_two R2.out.r1 R2.out.r2); rintro e wl ⟨rfl, hb⟩
           have AL := Lib.hid ((Below.refl wg.heap.size wg).alloc (Nat.le_refl _) (.cells #[.slice A7 n7 c7, .slice A8 n8 c8] 25))
           have F3 := Lib.hid (LA.out _ _ _ _ _ _ F2.out (chain2 AL.out hb)); have HB6 := Lib.hid (chain2 HB5.out (chain2 AL.out hb)); clear hb)
        | (go_at_call 12; (with_reducible refine (JO1.out _ F3.out).mono ?_); rintro e wj ⟨rfl, hu, ho⟩; have F4 := Lib.hid hu; have HB7 := Lib.hid (below_off HB6.out ho (Nat.le_refl _) HB6.out.size); clear hu ho)
        | (go_at_call 8; (with_reducible refine (KN.out _).mono ?_); rintro e wa ⟨rfl, hb⟩; have F5 := Lib.hid (LA.out _ _ _ _ _ _ F4.out hb); have HB8 := Lib.hid (chain2 HB7.out hb); clear hb)
        | (go_at_call 15; (with_reducible refine (MA1.out _ F5.out).mono ?_); rintro e wm ⟨rfl, hu, ho⟩; have F6 := Lib.hid hu; have HB9 := Lib.hid (below_off HB8.out ho (Nat.le_refl _) HB8.out.size); clear hu ho)
        | (go_at_call 16; (with_reducible refine (LE1.out _ F6.out).mono ?_); rintro e wz ⟨rfl, hu, ho⟩; have HB10 := Lib.hid (below_off HB9.out ho (Nat.le_refl _) HB9.out.size); clear hu ho))
      go_ret
      exact ⟨rfl, HB10.out⟩
end Go.Proofs.Ytoccgpkpmhkeiaa.Uni
