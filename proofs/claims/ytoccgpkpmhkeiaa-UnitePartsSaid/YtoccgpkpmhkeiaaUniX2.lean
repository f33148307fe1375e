/- The landed sets: the least numbers, how many groups, new sets. -/
import Derived.Test.YtoccgpkpmhkeiaaUniX1
import Derived.Test.YtoccgpkpmhkeiaaUniD
import Derived.Maps.AppendAt
namespace Go.Proofs.Ytoccgpkpmhkeiaa.Uni
open Go.RowKit Go.Proofs.Ytoccgpkpmhkeiaa.Inst
set_option linter.unusedVariables false

theorem rootsN_succ (L : List Nat) (k : Nat) : rootsN L (k + 1) = rootsN L k ++ (if L.getD k 0 = k then [k] else []) := by
  unfold rootsN
  rw [List.range_succ, List.filter_append, filter_one]
  congr 1
  by_cases c : L.getD k 0 = k
  · rw [if_pos c, if_pos (decide_eq_true c)]
  · rw [if_neg c, if_neg (by rw [decide_eq_false c]; exact Bool.false_ne_true)]
theorem rootsN_length (L : List Nat) (k : Nat) : (rootsN L k).length ≤ k := Nat.le_trans (List.length_filter_le _ _) (by rw [List.length_range]; exact Nat.le_refl _)
theorem rootsN_all (L : List Nat) : rootsN L L.length = rootsL L := rfl

theorem leasts0 (w : World) : Calls Try.prog 23 #[.pointer none] w fun e w' => e = .returned (.slice none 0 0) ∧ w = w' := by
  have K := Lib.hid (fun w => numbers0 w)
  go_enter Try.func23, Try.ntmps23
  go_wp2_with (go_at_call 22; (with_reducible refine (K.out _).mono ?_); rintro e wn ⟨rfl, rfl⟩)
  go_loopw [3, 7] (fun s3 s7 u => s3 = .slice none 0 0 ∧ s7 = .int .i64 0 ∧ u = w) (fun _ _ _ => 0)
  case atStart => exact ⟨rfl, rfl, rfl⟩
  case round =>
    obtain ⟨rfl, rfl, rfl⟩ := hrel
    go_wp2_with fail
    go_ret
    exact ⟨rfl, rfl⟩

/-- What leasts tells: a row of its own. -/
def TellsLeasts (L : List Nat) (w : World) (e : Ending) (w' : World) : Prop :=
  ∃ A cap, e = .returned (.slice A (rootsL L).length cap) ∧ w'.ownsRow w.heap.size 3 1 (.slice A (rootsL L).length cap) (rootsL L).length (natV (rootsL L)) ∧ Below w.heap.size w w'
/-- At the head of its loop. -/
def LeastsRel (w : World) (L : List Nat) (n : Nat) (s3 s7 : Value) (u : World) : Prop :=
  ∃ k : Nat, s7 = .int .i64 (k : Int) ∧ k ≤ n ∧ u.ownsRow w.heap.size 3 1 s3 (rootsN L k).length (natV (rootsN L k)) ∧ Below w.heap.size w u

set_option maxRecDepth 100000 in
set_option maxHeartbeats 4000000 in
theorem leasts_any {b lo hi n c : Nat} {N L : List Nat} {A : Option Addr} (w : World) (h : UnW w b lo hi N L A n c) : Calls Try.prog 23 #[obj b] w (TellsLeasts L w) := by
  obtain ⟨i0, hi0, hz0, hz1, hz2⟩ := info_parts info_int
  have G0 := Lib.hid hi0
  have G1 := Lib.hid hz0
  have G2 := Lib.hid hz1
  have G3 := Lib.hid hz2
  clear hi0 hz0 hz1 hz2
  have K := Lib.hid (numbers_any w h)
  have hn : n ≤ 1000 := by have := h.few; have := h.len; omega
  have HU := Lib.hid h
  clear h
  go_enter Try.func23, Try.ntmps23
  go_wp2_with (go_at_call 22; (with_reducible refine K.out.mono ?_); rintro e wn ⟨rfl, rfl⟩)
  go_loopw [3, 7] (fun s3 s7 u => LeastsRel w L n s3 s7 u) (fun _ s7 _ => n - (intOf s7).toNat)
  case atStart => exact ⟨0, rfl, by omega, ⟨rfl, .inl ⟨rfl, rfl⟩⟩, Below.refl _ _⟩
  case round =>
    obtain ⟨k, rfl, hk, ho, hB⟩ := hrel
    have HO := Lib.hid ho
    have HB := Lib.hid hB
    have bs := hB.size
    have rl := rootsN_length L k
    clear ho hB
    by_cases hlt : k < n
    · have U := Lib.hid (HU.out.later HB.out)
      have x0 := U.out.blk.cell 0
      have x2 := U.out.blk.lt
      simp at x0
      obtain ⟨g, ea, lg, hc, -⟩ := U.out.row_at (by omega)
      have c1 := hc k hlt
      have hif := U.out.ways.iff U.out.canon (i := k) (by rw [U.out.len]; exact hlt)
      obtain ⟨m, hm⟩ : ∃ m, N.getD k 0 = m := ⟨_, rfl⟩
      rw [hm] at c1 hif
      have RS := Lib.hid (rootsN_succ L k)
      subst ea
      clear hc hm
      have k0 : (0 : Int) ≤ (k : Int) := by omega
      have k1 : (k : Int) < (n : Int) := by omega
      by_cases e : m = k
      · have t1 : ((m : Int) == (k : Int)) = true := by simp [e]
        have RS2 := Lib.hid (show rootsN L (k + 1) = rootsN L k ++ [k] by rw [RS.out, if_pos (hif.1 e)])
        clear hif e
        go_wp2_with (
          at_builtin
          refine wpList_append_own _ rfl _ _ 25 rfl w.heap.size 3 i0 _ 1 8 Try.underlying25 G0.out G1.out G2.out G3.out rfl (by decide) _ _ _ rfl (HO.out.alloc _) ⟨World.heap _ |>.size, 0, none⟩ 1 1 [.int .i64 (k : Int)] rfl rfl ?c1 ?c2 ?c3 ?c4 ?c5 ?_
          case c1 => exact cell_one_new _ _ _
          case c2 => simp [Value.oneCell']
          case c3 => simp only [maxLen]; omega
          case c4 => omega
          case c5 => simp; omega
          intro v1 u1 hown1 hgrow1 _)
        exact ⟨⟨k + 1, by simp, by omega, by rw [RS2.out, List.length_append, natV_snoc]; exact hown1, (HB.out.alloc bs _).grown hgrow1 (by simp; omega) (own_ge HO.out)⟩, by simp [intOf]; omega⟩
      · have t1 : ((m : Int) == (k : Int)) = false := by simp; omega
        have RS2 := Lib.hid (show rootsN L (k + 1) = rootsN L k ++ [] by rw [RS.out, if_neg (fun q => e (hif.2 q))])
        clear hif e
        go_wp2_with fail
        exact ⟨⟨k + 1, by simp, by omega, by rw [RS2.out, List.append_nil]; exact HO.out, HB.out⟩, by simp [intOf]; omega⟩
    · have kn := Lib.hid (show k = L.length by have := HU.out.len; omega)
      have HO2 := HO.out
      rw [kn.out, rootsN_all] at HO2
      obtain ⟨-, RA, rc, ev, -, -, -⟩ := own_cells HO2
      subst ev
      have HO3 := Lib.hid HO2
      clear HO2
      go_wp2_with fail
      go_ret
      exact ⟨RA, rc, rfl, HO3.out, HB.out⟩

theorem many0_any (w : World) : Calls Try.prog 15 #[.pointer none] w fun e w' => e = .returned (.int .i64 0) ∧ Below w.heap.size w w' := by
  have K := Lib.hid (fun w => leasts0 w)
  go_enter Try.func15, Try.ntmps15
  go_wp2_with (go_at_call 23; (with_reducible refine (K.out _).mono ?_); rintro e wn ⟨rfl, rfl⟩)
  go_ret
  exact ⟨rfl, Below.refl _ _⟩
theorem many_any {b lo hi n c : Nat} {N L : List Nat} {A : Option Addr} (w : World) (h : UnW w b lo hi N L A n c) : Calls Try.prog 15 #[obj b] w fun e w' => e = .returned (.int .i64 ((groupsL L).length : Int)) ∧ Below w.heap.size w w' := by
  have K := Lib.hid (leasts_any w h)
  rw [groups_length]
  clear h
  go_enter Try.func15, Try.ntmps15
  go_wp2_with (go_at_call 23; (with_reducible refine K.out.mono ?_); rintro e wn ⟨RA, rc, rfl, ho, hb⟩; have HB := Lib.hid hb; clear ho hb)
  go_ret
  exact ⟨rfl, HB.out⟩
end Go.Proofs.Ytoccgpkpmhkeiaa.Uni
