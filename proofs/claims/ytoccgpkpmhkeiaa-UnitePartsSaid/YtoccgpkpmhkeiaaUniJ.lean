/- All that is asked of sets. -/
import Derived.Test.YtoccgpkpmhkeiaaUniI
namespace Go.Proofs.Ytoccgpkpmhkeiaa.Uni
open Go.RowKit Go.Proofs.Ytoccgpkpmhkeiaa.Inst

theorem group_le (L : List Nat) (n : Nat) : (groupL L n).length ≤ L.length := groupN_length L n L.length
theorem groups_le (L : List Nat) : (groupsL L).length ≤ L.length := groupsN_length L L.length
theorem groups_rows (L : List Nat) : ∀ i (h : i < (groupsL L).length), (groupsL L)[i].length ≤ L.length := by
  intro i h
  have hm : (groupsL L)[i] ∈ (rootsL L).map (groupL L) := List.getElem_mem h
  obtain ⟨n, _, e⟩ := List.mem_map.1 hm
  rw [← e]
  exact group_le _ _
theorem lists_same (L : List Nat) (h9 : L.length ≤ 1000) (a b : Value) (w : World) (ha : Grid w 0 a (groupsL L)) (hb : Grid w 0 b (groupsL L)) :
    Calls Try.prog 13 #[a, b] w fun e w' => e = .returned (.bool true) ∧ Below w.heap.size w w' :=
  lists_any _ a b 0 0 (Nat.le_trans (groups_le L) (by omega)) (fun i h => Nat.le_trans (groups_rows L i h) (by omega)) w ha hb

/-- What holds in alike's region. -/
def Good (Un : World → Nat → Nat → Nat → List Nat → Prop) (w0 : World) (b lo hi : Nat) (L : List Nat) (A : Option Addr) (g : Value) (u : World) : Prop := Un u b lo hi L ∧ Off lo hi w0 u ∧ Grid u hi g (groupsL L) ∧ Past u hi A (natV L)
abbrev SJ (Un : World → Nat → Nat → Nat → List Nat → Prop) (w0 : World) (b lo hi : Nat) (L : List Nat) (A : Option Addr) (g : Value) (p : Nat) (n c : Nat) (u : World) : Prop := u.cell? ⟨p, 0, none⟩ = some (.slice A n c) ∧ Good Un w0 b lo hi L A g u
theorem SJ.off {Un : World → Nat → Nat → Nat → List Nat → Prop} {w0 : World} {b lo hi : Nat} {L : List Nat} {A : Option Addr} {g : Value} {p n c : Nat} {u v : World} (h : SJ Un w0 b lo hi L A g p n c u) (hp : hi ≤ p) (hl : p < w0.heap.size) (ho : Off lo hi u v) (hu : Un v b lo hi L) : SJ Un w0 b lo hi L A g p n c v :=
  ⟨(ho.cell 0 (Nat.lt_of_lt_of_le hl h.2.2.1.size) (.inr hp)).trans h.1, hu, h.2.2.1.trans ho, h.2.2.2.1.off ho (Nat.le_refl _), h.2.2.2.2.off ho (Nat.le_refl _)⟩

set_option maxRecDepth 100000 in
set_option maxHeartbeats 8000000 in
theorem alike_any {Un : World → Nat → Nat → Nat → List Nat → Prop} (C : UniC Un) (A : Option Addr) (c n b lo hi : Nat) (L : List Nat) (hn : L.length = n) (a : Int) (ha : I64 a) (w : World) (hU : Un w b lo hi L) (hP : Past w hi A (natV L)) :
    Calls Try.prog 20 #[obj b, setV A n c, .int .i64 a] w fun e w' => e = .returned (.bool true) ∧ Un w' b lo hi L ∧ Off lo hi w w' := by
  obtain ⟨hh, hl, hc⟩ := C.is hU
  obtain ⟨p, hp⟩ : ∃ p, p = w.heap.size := ⟨_, rfl⟩
  obtain ⟨W1, hW1⟩ : ∃ W1, W1 = w.alloc (.cells #[.slice A n c] tS) := ⟨_, rfl⟩
  have B1 := Lib.hid (show Below w.heap.size w W1 by rw [hW1]; exact (Below.refl _ _).alloc (Nat.le_refl _) _)
  have BP := Lib.hid (show Blk W1 p tS #[.slice A n c] by rw [hW1]; exact blk_at hp.symm _ _)
  have U1 := Lib.hid (C.later hU B1.out)
  have P1 := Lib.hid (hP.later B1.out)
  have RG := Lib.hid (rgroups_any A c n L hn (by omega) W1 P1.out.cells)
  have LA := Lib.hid (fun (w u : World) (h : Un w b lo hi L) (hb : Below w.heap.size w u) => C.later h hb)
  have hip : hi ≤ p := by omega
  have HIP := Lib.hid hip
  have HL := Lib.hid hl
  have HN := Lib.hid hn
  have x0 := BP.out.cell 0
  have x2 := BP.out.lt
  simp at x0
  have K1 := Lib.hid (fun w0 g w' (h0 : p < w0.heap.size) (h : SJ Un w0 b lo hi L A g p n c w') => (C.groups b lo hi L w' h.2.1).mono (R' := fun e u => ∃ v, e = .returned v ∧ Grid u 0 v (groupsL L) ∧ SJ Un w0 b lo hi L A g p n c u) (by
    rintro e u ⟨v, he, hg, hu, ho⟩
    exact ⟨v, he, hg.from (Nat.zero_le _), h.off hip h0 ho hu⟩))
  have K2 := Lib.hid (fun w0 g w' (h0 : p < w0.heap.size) (h : SJ Un w0 b lo hi L A g p n c w') v (hv : Grid w' 0 v (groupsL L)) => (lists_same L hl v g w' hv (h.2.2.2.1.from (Nat.zero_le _))).mono (R' := fun e u => e = .returned (.bool true) ∧ SJ Un w0 b lo hi L A g p n c u) (by
    rintro e u ⟨he, hb⟩
    exact ⟨he, h.off hip h0 (Off.of hb) (C.later h.2.1 hb)⟩))
  have K3 := Lib.hid (fun w0 g w' (h0 : p < w0.heap.size) (h : SJ Un w0 b lo hi L A g p n c w') => (C.many b lo hi L w' h.2.1).mono (R' := fun e u => e = .returned (.int .i64 ((groupsL L).length : Int)) ∧ SJ Un w0 b lo hi L A g p n c u) (by
    rintro e u ⟨he, hu, ho⟩
    exact ⟨he, h.off hip h0 ho hu⟩))
  have K4 := Lib.hid (fun w0 g w' (h0 : p < w0.heap.size) (h : SJ Un w0 b lo hi L A g p n c w') => (C.least b lo hi L a w' h.2.1 ha).mono (R' := fun e u => e = .returned (.int .i64 (leastL L a)) ∧ SJ Un w0 b lo hi L A g p n c u) (by
    rintro e u ⟨he, hu, ho⟩
    exact ⟨he, h.off hip h0 ho hu⟩))
  have K5 := Lib.hid (fun w0 g w' (h0 : p < w0.heap.size) (h : SJ Un w0 b lo hi L A g p n c w') => (rleast_any A c n L hn a _ rfl w' h.2.2.2.2.cells (by omega)).mono (R' := fun e u => e = .returned (.int .i64 (leastL L a)) ∧ SJ Un w0 b lo hi L A g p n c u) (by
    rintro e u ⟨he, hb⟩
    exact ⟨he, h.off hip h0 (Off.of hb) (C.later h.2.1 hb)⟩))
  have HW := Lib.hid hW1
  have HP := Lib.hid hp
  obtain ⟨m, hm⟩ : ∃ m, m = leastL L a := ⟨_, rfl⟩
  rw [← hm] at K4 K5
  obtain ⟨gn, hgn⟩ : ∃ gn, gn = (groupsL L).length := ⟨_, rfl⟩
  rw [← hgn] at K3
  have HG := Lib.hid hgn
  have t1 : (m == m) = true := by simp
  have t2 : ((gn : Int) == (gn : Int)) = true := by simp
  clear hW1 hp hU hP hn hm hgn C hl hc hh hip
  go_enter Try.func20, Try.ntmps20
  go_upto_region 1 with fail
  rw [← HW.out, ← HP.out]
  go_upto_region 2 with (go_at_call 25; (with_reducible refine RG.out.mono ?_); rintro e w2 ⟨g, rfl, hg, hb⟩; have GG := Lib.hid hg; have HB := Lib.hid hb; clear hg hb)
  have B2 := Lib.hid (chain2 B1.out HB.out)
  have BP2 := Lib.hid (BP.out.below HB.out BP.out.lt)
  have S0 := Lib.hid (show SJ Un w2 b lo hi L A g p n c w2.drew from ⟨by have := BP2.out.cell 0; simpa using this, LA.out _ _ U1.out HB.out.drew, (Off.refl _ _ _).drew, (GG.out.from (by have := HIP.out; have := HP.out; omega)).later (Below.refl _ _).drew, (P1.out.later HB.out).later (Below.refl _ _).drew⟩)
  have q0 := BP2.out.cell 0
  have q2 := BP2.out.lt
  simp at q0
  clear x0 x2
  obtain ⟨A', c', ev, -⟩ := GG.out.row
  rw [← HG.out] at ev
  subst ev
  have ql := Lib.hid q2
  have F1 := Lib.hid (fun w' h => K1.out w2 (.slice A' gn c') w' ql.out h)
  have F2 := Lib.hid (fun w' h => K2.out w2 (.slice A' gn c') w' ql.out h)
  have F3 := Lib.hid (fun w' h => K3.out w2 (.slice A' gn c') w' ql.out h)
  have F4 := Lib.hid (fun w' h => K4.out w2 (.slice A' gn c') w' ql.out h)
  have F5 := Lib.hid (fun w' h => K5.out w2 (.slice A' gn c') w' ql.out h)
  clear K1 K2 K3 K4 K5
  go_region_held3 (fun u => u.cell? ⟨p, 0, none⟩ = some (.slice A n c) ∧ Good Un w2 b lo hi L A (.slice A' gn c') u)
    (first | assumption | exact S0.out)
    (first
      | (go_at_call 14; (with_reducible refine (F1.out _ S0.out).mono ?_); rintro e wa ⟨v, rfl, hv, hs⟩; have GV := Lib.hid hv; clear hv)
      | (go_at_call 13; (with_reducible refine (F2.out _ (by assumption) _ GV.out).mono ?_); rintro e wb ⟨rfl, hs⟩)
      | (go_at_call 15; (with_reducible refine (F3.out _ (by assumption)).mono ?_); rintro e wc ⟨rfl, hs⟩)
      | (go_at_call 16; (with_reducible refine (F4.out _ (by assumption)).mono ?_); rintro e wd ⟨rfl, hs⟩)
      | (go_at_call 24; (with_reducible refine (F5.out _ (by assumption)).mono ?_); rintro e we ⟨rfl, hs⟩))
  all_goals
    rename_i hs
    have H9 := Lib.hid (show SJ Un w2 b lo hi L A (.slice A' gn c') p n c _ from hs)
    clear hs
    go_wp2_with fail
    go_ret
    exact ⟨rfl, H9.out.2.1, (Off.of B2.out).trans H9.out.2.2.1⟩
end Go.Proofs.Ytoccgpkpmhkeiaa.Uni
