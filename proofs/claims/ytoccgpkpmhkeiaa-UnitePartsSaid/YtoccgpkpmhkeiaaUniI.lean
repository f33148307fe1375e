/- The chapter's example; all that is asked of sets. -/
import Derived.Test.YtoccgpkpmhkeiaaUniH
namespace Go.Proofs.Ytoccgpkpmhkeiaa.Uni
open Go.RowKit Go.Proofs.Ytoccgpkpmhkeiaa.Inst

theorem UniC.later {Un : World → Nat → Nat → Nat → List Nat → Prop} (C : UniC Un) {w u : World} {b lo hi : Nat} {L : List Nat} (h : Un w b lo hi L) (hb : Below w.heap.size w u) : Un u b lo hi L := C.off h (Off.of (lo := 0) (hi := 0) hb) (.inr (Nat.zero_le _))
theorem Grid.alloc {w : World} {p : Nat} {G : List (List Nat)} {v : Value} (h : Grid w p v G) (o : Obj) : Grid (w.alloc o) p v G := h.later ((Below.refl _ _).alloc (Nat.le_refl _) _)
theorem below_off {B lo hi : Nat} {w u v : World} (h : Below B w u) (g : Off lo hi u v) (h1 : B ≤ lo) (h2 : B ≤ u.heap.size) : Below B w v := h.trans (g.below h1 h2)
theorem kn_start : startL 3 = [0, 1, 2] := by decide +kernel
theorem kn_join : joinL [0, 1, 2] 0 2 = [0, 1, 0] := by decide +kernel
theorem kn_is : joinB [0, 1, 2] 0 2 = true := by decide +kernel
theorem kn_join2 : joinL [0, 1, 0] 2 0 = [0, 1, 0] := by decide +kernel
theorem kn_no : joinB [0, 1, 0] 2 0 = false := by decide +kernel
theorem kn_groups : groupsL [0, 1, 0] = [[0, 2], [1]] := by decide +kernel
theorem kn_two : leastL [0, 1, 0] 2 = 0 := by decide +kernel
theorem kn_three : leastL [0, 1, 0] 3 = -1 := by decide +kernel
theorem kn_many : ((groupsL [0, 1, 0]).length : Int) = 2 := by decide +kernel
/-- [][]int{{0, 2}, {1}}, as it is made. -/
theorem lit_grid (w : World) : Grid (((w.alloc (.cells #[.int .i64 0, .int .i64 2] 3)).alloc (.cells #[.int .i64 1] 3)).alloc (.cells #[.slice (some ⟨w.heap.size, 0, none⟩) 2 2, .slice (some ⟨w.heap.size + 1, 0, none⟩) 1 1] 25)) w.heap.size (.slice (some ⟨w.heap.size + 1 + 1, 0, none⟩) 2 2) [[0, 2], [1]] := by
  refine ⟨some ⟨w.heap.size + 1 + 1, 0, none⟩, 2, [.slice (some ⟨w.heap.size, 0, none⟩) 2 2, .slice (some ⟨w.heap.size + 1, 0, none⟩) 1 1], rfl, rfl, past_blk (t := 25) (blk_at (by simp) _ _) (by omega), fun i h1 h2 => ?_⟩
  rcases i with _ | _ | i
  · exact ⟨some ⟨w.heap.size, 0, none⟩, 2, rfl, past_blk (t := 3) (vs := natV [0, 2]) (((Blk.new w _ _).alloc _).alloc _) (by omega)⟩
  · exact ⟨some ⟨w.heap.size + 1, 0, none⟩, 1, rfl, past_blk (t := 3) (vs := natV [1]) ((blk_at (by simp) _ _).alloc _) (by omega)⟩
  · simp at h1; omega

set_option maxRecDepth 100000 in
set_option maxHeartbeats 4000000 in
theorem known_any {Un : World → Nat → Nat → Nat → List Nat → Prop} (C : UniC Un) (w : World) : Calls Try.prog 8 #[] w fun e w' => e = .returned (.bool true) ∧ Below w.heap.size w w' := by
  have S (n : Int) (h0 : -1000000 ≤ n) (h1 : n ≤ 1000000) : I64 n := by unfold I64; omega
  have NW := Lib.hid (C.new 3 w (S _ (by omega) (by omega)) (by omega))
  rw [kn_start] at NW
  have J1 := Lib.hid (fun b lo hi w' (h : Un w' b lo hi [0, 1, 2]) => C.join b lo hi _ 0 2 w' h (S _ (by omega) (by omega)) (S _ (by omega) (by omega)))
  have J2 := Lib.hid (fun b lo hi w' (h : Un w' b lo hi [0, 1, 0]) => C.join b lo hi _ 2 0 w' h (S _ (by omega) (by omega)) (S _ (by omega) (by omega)))
  rw [kn_join, kn_is] at J1
  rw [kn_join2, kn_no] at J2
  have GR := Lib.hid (fun b lo hi w' (h : Un w' b lo hi [0, 1, 0]) => C.groups b lo hi _ w' h)
  rw [kn_groups] at GR
  have MA := Lib.hid (fun b lo hi w' (h : Un w' b lo hi [0, 1, 0]) => C.many b lo hi _ w' h)
  rw [kn_many] at MA
  have L2 := Lib.hid (fun b lo hi w' (h : Un w' b lo hi [0, 1, 0]) => C.least b lo hi _ 2 w' h (S _ (by omega) (by omega)))
  rw [kn_two] at L2
  have L3 := Lib.hid (fun b lo hi w' (h : Un w' b lo hi [0, 1, 0]) => C.least b lo hi _ 3 w' h (S _ (by omega) (by omega)))
  rw [kn_three] at L3
  have LA := Lib.hid (fun (w u : World) (b lo hi : Nat) (L : List Nat) (h : Un w b lo hi L) (hb : Below w.heap.size w u) => C.later h hb)
  have LI := Lib.hid (fun a b w ha hb => lists_any [[0, 2], [1]] a b 0 0 (by decide) (fun i h => by rcases i with _ | _ | i <;> simp at h ⊢ <;> omega) w ha hb)
  clear S C
  go_enter Try.func8, Try.ntmps8
  go_wp2_with (first
    | (go_at_call 11; (with_reducible refine NW.out.mono ?_); rintro e w2 ⟨b, rfl, hu, hb⟩; have U := Lib.hid hu; have HB := Lib.hid hb; clear hu hb)
    | (go_at_call 12; (with_reducible refine (J1.out b _ _ _ U.out).mono ?_); rintro e wn ⟨rfl, hu, ho⟩; replace HB := Lib.hid (below_off HB.out ho (Nat.le_refl _) HB.out.size); replace U := Lib.hid hu; clear hu ho)
    | (go_at_call 12; (with_reducible refine (J2.out b _ _ _ U.out).mono ?_); rintro e wn ⟨rfl, hu, ho⟩; replace HB := Lib.hid (below_off HB.out ho (Nat.le_refl _) HB.out.size); replace U := Lib.hid hu; clear hu ho)
    | (go_at_call 14; (with_reducible refine (GR.out b _ _ _ U.out).mono ?_); rintro e wg ⟨v, rfl, hg, hu, ho⟩; have GG := Lib.hid (hg.from (Nat.zero_le _)); replace HB := Lib.hid (below_off HB.out ho (Nat.le_refl _) HB.out.size); replace U := Lib.hid hu; clear hu ho hg)
    | (go_at_call 13; (with_reducible refine (LI.out _ _ _ ?ga ?gb).mono ?_); (case ga => exact ((GG.out.alloc _).alloc _).alloc _); (case gb => exact (lit_grid _).from (Nat.zero_le _)); rintro e wl ⟨rfl, hb⟩
       have B3 := ((((Below.refl wg.heap.size wg).alloc (Nat.le_refl _) (.cells #[.int .i64 0, .int .i64 2] 3)).alloc (by simp) (.cells #[.int .i64 1] 3)).alloc (by simp; omega) (.cells #[.slice (some ⟨wg.heap.size, 0, none⟩) 2 2, .slice (some ⟨wg.heap.size + 1, 0, none⟩) 1 1] 25))
       replace HB := Lib.hid (chain2 (chain2 HB.out B3) hb); replace U := Lib.hid (LA.out _ _ _ _ _ _ U.out (chain2 B3 hb)); clear hb B3)
    | (go_at_call 15; (with_reducible refine (MA.out b _ _ _ U.out).mono ?_); rintro e wn ⟨rfl, hu, ho⟩; replace HB := Lib.hid (below_off HB.out ho (Nat.le_refl _) HB.out.size); replace U := Lib.hid hu; clear hu ho)
    | (go_at_call 16; (with_reducible refine (L2.out b _ _ _ U.out).mono ?_); rintro e wn ⟨rfl, hu, ho⟩; replace HB := Lib.hid (below_off HB.out ho (Nat.le_refl _) HB.out.size); replace U := Lib.hid hu; clear hu ho)
    | (go_at_call 16; (with_reducible refine (L3.out b _ _ _ U.out).mono ?_); rintro e wn ⟨rfl, hu, ho⟩; replace HB := Lib.hid (below_off HB.out ho (Nat.le_refl _) HB.out.size); replace U := Lib.hid hu; clear hu ho))
  go_ret
  exact ⟨rfl, HB.out⟩
end Go.Proofs.Ytoccgpkpmhkeiaa.Uni
