/- What the landed layer 6 does: nodes as arcs go: what is counted down, and what is free then. -/
import Derived.Test.YtajckihgfelbaaaRchXE
import Derived.Test.YtajckihgfelbaaaRchMathX
import Derived.Deep.RegionHeld3
import Derived.BigRegion
namespace Go.Proofs.Ytajckihgfelbaaa.Rch
open Go.RowKit Go.Proofs.Ytajckihgfelbaaa.Inst Go.Proofs.Ytajckihgfelbaaa.Adj
set_option maxRecDepth 100000

/-- At the head of freed's loop. -/
def FreedRel (w : World) (W L : List Nat) (M : Nat) (s5 s10 : Value) (u : World) : Prop :=
  ∃ k : Nat, k ≤ L.length ∧ s10 = .int .i64 (k : Int) ∧ u.ownsRow w.heap.size 3 1 s5 (freeL W L k).length (natV (freeL W L k)) ∧ Blk u M 3 (natV (decs W (L.take k))).toArray ∧ Kp (fun j => j = M) w u
/-- What freed tells, and what it leaves. -/
def TellsFreed (W L : List Nat) (M : Nat) (w : World) (e : Ending) (w' : World) : Prop :=
  ∃ A cap, e = .returned (.slice A (freeL W L L.length).length cap) ∧ w'.ownsRow w.heap.size 3 1 (.slice A (freeL W L L.length).length cap) (freeL W L L.length).length (natV (freeL W L L.length)) ∧ Blk w' M 3 (natV (decs W L)).toArray ∧ Kp (fun j => j = M) w w'
set_option maxHeartbeats 4000000 in
theorem freed_any (A : Option Addr) (c : Nat) (L W : List Nat) (M n t : Nat) (hW : W.length = n) (hL : L.length = t) (t9 : t ≤ 1000) (hlt : ∀ m ∈ L, m < n) (hc : ∀ m, L.count m ≤ W.getD m 0) (hW9 : ∀ m, W.getD m 0 ≤ 1000000) (w : World) (hA : Cells w w.heap.size A (natV L)) (hne : ∀ g, (Value.slice A t t).ownBlock = some g → g ≠ M) (hM : Blk w M 3 (natV W).toArray) :
    Calls Try.prog 74 #[.slice A t c, .slice (some ⟨M, 0, none⟩) n n] w (TellsFreed W L M w) := by
  obtain ⟨i0, hi0, hz0, hz1, hz2⟩ := info_parts info_int
  have G0 := Lib.hid hi0
  have G1 := Lib.hid hz0
  have G2 := Lib.hid hz1
  have G3 := Lib.hid hz2
  have HA := Lib.hid hA
  have HM := Lib.hid hM
  have HL := Lib.hid hL
  have HW := Lib.hid hW
  have H1 := Lib.hid hlt
  have H2 := Lib.hid hc
  have H3 := Lib.hid hW9
  have H4 := Lib.hid hne
  clear hi0 hz0 hz1 hz2 hA hM hL hW hlt hc hW9 hne
  go_enter Try.func74, Try.ntmps74
  go_wp2_with fail
  go_loopw [5, 7, 10] (fun s5 s7 s10 u => FreedRel w W L M s5 s10 u) (fun _ _ s10 _ => t - (intOf s10).toNat)
  case atStart => exact ⟨0, Nat.zero_le _, rfl, ⟨rfl, .inl ⟨rfl, rfl⟩⟩, by simpa [decs] using HM.out, Kp.refl _ _⟩
  case round =>
    obtain ⟨k, hk, rfl, ho, hb, hkp⟩ := hrel
    rw [HL.out] at hk
    have UO := Lib.hid ho
    have UB := Lib.hid hb
    have UK := Lib.hid hkp
    have fl := freeL_length W L k
    clear ho hkp
    by_cases hlt : k < t
    · have hkl : k < L.length := by rw [HL.out]; exact hlt
      obtain ⟨g, off, ea, hg, hcell⟩ := nats_at HA.out (by omega)
      have c1 := (World.cell?_of_block (w := w) (a := ⟨g, off + k, none⟩) (UK.out.block g hg (H4.out g (by rw [ea]; rfl)))).trans (hcell k hkl)
      have g1 : g < wr.heap.size := by have := UK.out.size; omega
      obtain ⟨m, hm⟩ : ∃ m, m = L[k] := ⟨_, rfl⟩
      rw [← hm] at c1
      have mn : m < n := H1.out m (by rw [hm]; exact List.getElem_mem hkl)
      have gm : L.getD k 0 = m := by rw [List.getD_eq_getElem?_getD, List.getElem?_eq_getElem hkl, hm]; rfl
      have tk : L.take (k + 1) = L.take k ++ [m] := by rw [List.take_succ_eq_append_getElem hkl, hm]
      have dl : (decs W (L.take k)).length = n := by rw [decs_length]; exact HW.out
      obtain ⟨x, hx⟩ : ∃ x, x = (decs W (L.take k)).getD m 0 := ⟨_, rfl⟩
      have y0 : wr.cell? ⟨M, m, none⟩ = some (.int .i64 (x : Int)) := by
        rw [hb.cell m]
        simp [natV, numV, dl, mn, hx]
      have y1 := hb.lt
      have y2 := hb.frozen m
      have xv : x = W.getD m 0 - (L.take k).count m := by rw [hx]; exact decs_get m _ _ (by rw [HW.out]; exact mn)
      have x1 : 1 ≤ x := by
        have a1 := H2.out m
        have a2 : (L.take (k + 1)).count m ≤ L.count m := List.Sublist.count_le m (List.take_sublist _ _)
        rw [tk, List.count_append] at a2
        simp at a2
        omega
      have x2 : x ≤ 1000000 := by have := H3.out m; omega
      have DS := Lib.hid (show decs W (L.take (k + 1)) = (decs W (L.take k)).set m (x - 1) by rw [tk, decs_snoc, ← hx])
      have FS : freeL W L (k + 1) = freeL W L k ++ if x - 1 = 0 then [m] else [] := by
        conv => lhs; unfold freeL
        rw [gm, DS.out]
        congr 2
        simp [dl, mn]
      have k0 : (0 : Int) ≤ (k : Int) := by omega
      have k1 : (k : Int) < (t : Int) := by omega
      have m0 : (0 : Int) ≤ (m : Int) := by omega
      have m1 : (m : Int) < (n : Int) := by omega
      have xm : ((x - 1 : Nat) : Int) = (x : Int) - 1 := by omega
      obtain ⟨u1, hu1⟩ : ∃ u1, u1 = wr.setCell ⟨M, m, none⟩ (.int .i64 ((x : Int) - 1)) := ⟨_, rfl⟩
      have MB := Lib.hid (show Blk u1 M 3 (natV (decs W (L.take (k + 1)))).toArray by rw [hu1, DS.out, ← natV_setA, xm]; exact hb.set_ m _)
      have UK1 := Lib.hid (show Kp (fun j => j = M) w u1 by rw [hu1]; exact UK.out.set M m _ (fun _ => rfl))
      have UO1 := Lib.hid (show u1.ownsRow w.heap.size 3 1 u5 (freeL W L k).length (natV (freeL W L k)) by
        rw [hu1]
        exact own_far UO.out (fun e => by have h2 : M < w.heap.size := HM.out.lt; have h3 : w.heap.size ≤ M := own_ge UO.out _ e; omega) _)
      have v0 : u1.cell? ⟨M, m, none⟩ = some (.int .i64 ((x : Int) - 1)) := by
        rw [MB.out.cell m, DS.out, ← xm]
        simp [natV, numV, dl, mn]
      have HU := Lib.hid hu1
      have v1 : M < u1.heap.size := by rw [hu1]; simpa using y1
      subst ea
      have NX : ∀ (v' : Value) (u2 : World), u2.ownsRow w.heap.size 3 1 v' (freeL W L (k + 1)).length (natV (freeL W L (k + 1))) → Blk u2 M 3 (natV (decs W (L.take (k + 1)))).toArray → Kp (fun j => j = M) w u2 → FreedRel w W L M v' (.int .i64 ((k : Int) + 1)) u2 := fun v' u2 h1 h2 h3 => ⟨k + 1, by omega, by simp, h1, h2, h3⟩
      have N1 := Lib.hid NX
      have MGE : M < w.heap.size := HM.out.lt
      have us : w.heap.size ≤ u1.heap.size := UK1.out.size
      clear hcell hm hu1 gm tk dl hx xv NX hb
      by_cases z : x = 1
      · subst z
        have FS2 := Lib.hid (show freeL W L (k + 1) = freeL W L k ++ [m] by rw [FS]; rfl)
        have e0 : ((1 : Nat) : Int) - 1 = 0 := by omega
        rw [e0] at v0 HU
        clear FS xm
        go_upto_region 6 with fail
        rw [← HU.out]
        go_wp2_with (
          at_builtin
          refine wpList_append_own _ rfl _ _ 32 rfl w.heap.size 3 i0 _ 1 8 Try.underlying32 G0.out G1.out G2.out G3.out rfl (by decide) _ _ _ rfl (UO1.out.alloc _) ⟨u1.heap.size, 0, none⟩ 1 1 [.int .i64 (m : Int)] rfl rfl ?c1 ?c2 ?c3 ?c4 ?c5 ?_
          case c1 => exact cell_one_new _ _ _
          case c2 => simp [Value.oneCell']
          case c3 => simp only [maxLen]; omega
          case c4 => omega
          case c5 => simp; omega
          intro v' u2 hown hgrow _
          have OW := Lib.hid hown
          have GR := Lib.hid hgrow
          clear hown hgrow)
        refine ⟨N1.out _ _ (by rw [FS2.out, List.length_append, natV_snoc]; exact OW.out) ?_ ((UK1.out.alloc _).grown GR.out (fun g hg h => by have := own_ge UO1.out g hg; omega)), by simp [intOf]; omega⟩
        exact (GR.out.block M (by simp; omega) (fun e => by have := own_ge UO1.out M e.symm; omega)).trans (MB.out.alloc _)
      · have FS2 := Lib.hid (show freeL W L (k + 1) = freeL W L k by rw [FS, if_neg (by omega), List.append_nil])
        have x3 : ¬ ((x : Int) - 1 = 0) := by omega
        have x4 : ((x : Int) - 1 == 0) = false := by simp; omega
        clear FS xm
        go_upto_region 6 with fail
        rw [← HU.out]
        go_wp2_with fail
        exact ⟨N1.out _ _ (by rw [FS2.out]; exact UO1.out) MB.out UK1.out, by simp [intOf]; omega⟩
    · obtain rfl : k = t := by omega
      clear hb
      have UO2 := UO.out
      rw [show freeL W L k = freeL W L L.length by rw [HL.out]] at UO2
      rw [← HL.out, List.take_length] at UB
      obtain ⟨-, A', cap, ev, hcap, -, hcs⟩ := own_cells UO2
      subst ev
      have OF := Lib.hid UO2
      clear UO2 hcs UO
      go_wp2_with fail
      go_ret
      exact ⟨A', cap, rfl, OF.out, UB.out, UK.out⟩
end Go.Proofs.Ytajckihgfelbaaa.Rch
/- What the landed layer 6 does: nodes as arcs go, one by one. -/
namespace Go.Proofs.Ytajckihgfelbaaa.Rch
open Go.RowKit Go.Proofs.Ytajckihgfelbaaa.Inst Go.Proofs.Ytajckihgfelbaaa.Adj
set_option maxRecDepth 100000

/-- Order's blocks: what waits to be told behind b, what is told behind c9, how many arcs each node waits for behind c6, a function behind c5; all of them new since w0 but c5. -/
structure OMem (w0 : World) (N M b c5 c6 c9 F : Nat) (lb : Array Value) (w : World) (vs vf : Value) (h : List Int) (W told : List Nat) : Prop where
  heap : LHeap w b vs h
  list : Held w 32 c9 vf (intsN told)
  wbox : Blk w c6 32 #[.slice (some ⟨M, 0, none⟩) N N]
  wrow : Blk w M 3 (natV W).toArray
  nbox : Blk w c5 100 #[.func (.func F) #[] lb]
  sf : ∀ g, vs.ownBlock = some g → vf.ownBlock ≠ some g
  sM : vs.ownBlock ≠ some M
  fM : vf.ownBlock ≠ some M
  cc : c9 ≠ c6
  kp : Below w0.heap.size w0 w
  nM : w0.heap.size ≤ M
  nb : w0.heap.size ≤ b
  n9 : w0.heap.size ≤ c9
  ns : ∀ g, vs.ownBlock = some g → w0.heap.size ≤ g
  nf : ∀ g, vf.ownBlock = some g → w0.heap.size ≤ g
section
variable {w0 w w' : World} {N M b c5 c6 c9 F : Nat} {lb : Array Value} {vs vf vs' vf' : Value} {h h' : List Int} {W W' told told' : List Nat}
theorem OMem.later (H : OMem w0 N M b c5 c6 c9 F lb w vs vf h W told) (hb : Below w.heap.size w w') : OMem w0 N M b c5 c6 c9 F lb w' vs vf h W told :=
  { H with heap := H.heap.later hb, list := H.list.later hb, wbox := H.wbox.below hb H.wbox.lt, wrow := H.wrow.below hb H.wrow.lt, nbox := H.nbox.below hb H.nbox.lt, kp := chain2 H.kp hb }
/-- What waits is another one. -/
theorem OMem.heaped (H : OMem w0 N M b c5 c6 c9 F lb w vs vf h W told) (hs : LHeap w' b vs' h') (hw : Wrote b vs vs' w w') : OMem w0 N M b c5 c6 c9 F lb w' vs' vf h' W told := by
  obtain ⟨hk, hg⟩ := hw
  have lo := own_lt H.list.own
  refine ⟨hs, H.list.kp hk (fun e => ?_) (fun g hg2 e => ?_), hk.blk H.wbox (fun e => ?_), hk.blk H.wrow (fun e => ?_), hk.blk H.nbox (fun e => ?_), fun g h1 h2 => ?_, fun h1 => ?_, H.fM, H.cc, H.kp.trans (hk.below (fun k e => ?_) H.kp.size), H.nM, H.nb, H.n9, fun g h1 => ?_, H.nf⟩
  · rcases e with e | e
    · exact blk_other H.list.blk H.heap.blk (by decide) e
    · exact blk_apart H.heap.own H.list.blk (by decide) e
  · rcases e with e | e
    · exact blk_apart H.list.own H.heap.blk (by decide) (by rw [hg2, e])
    · exact H.sf g e hg2
  · rcases e with e | e
    · exact blk_other H.wbox H.heap.blk (by decide) e
    · exact blk_apart H.heap.own H.wbox (by decide) e
  · rcases e with e | e
    · exact blk_other H.wrow H.heap.blk (by decide) e
    · exact H.sM e
  · rcases e with e | e
    · exact blk_other H.nbox H.heap.blk (by decide) e
    · exact blk_apart H.heap.own H.nbox (by decide) e
  · rcases hg g h1 with q | q
    · exact H.sf g q h2
    · have := lo g h2
      omega
  · rcases hg M h1 with q | q
    · exact H.sM q
    · have := H.wrow.lt
      omega
  · rcases e with e | e
    · have := H.nb; omega
    · exact H.ns k e
  · rcases hg g h1 with q | q
    · exact H.ns g q
    · have := H.kp.size; omega
/-- What is told is another one. -/
theorem OMem.listed (H : OMem w0 N M b c5 c6 c9 F lb w vs vf h W told) (hs : Held w' 32 c9 vf' (intsN told')) (hw : Wrote c9 vf vf' w w') : OMem w0 N M b c5 c6 c9 F lb w' vs vf' h W told' := by
  obtain ⟨hk, hg⟩ := hw
  have lo := own_lt H.heap.own
  refine ⟨H.heap.kp hk (fun e => ?_) (fun g hg2 e => ?_), hs, hk.blk H.wbox (fun e => ?_), hk.blk H.wrow (fun e => ?_), hk.blk H.nbox (fun e => ?_), fun g h1 h2 => ?_, H.sM, fun h1 => ?_, H.cc, H.kp.trans (hk.below (fun k e => ?_) H.kp.size), H.nM, H.nb, H.n9, H.ns, fun g h1 => ?_⟩
  · rcases e with e | e
    · exact blk_other H.heap.blk H.list.blk (by decide) e
    · exact blk_apart H.list.own H.heap.blk (by decide) e
  · rcases e with e | e
    · exact blk_apart H.heap.own H.list.blk (by decide) (by rw [hg2, e])
    · exact H.sf g hg2 e
  · rcases e with e | e
    · exact H.cc e.symm
    · exact blk_apart H.list.own H.wbox (by decide) e
  · rcases e with e | e
    · exact blk_other H.wrow H.list.blk (by decide) e
    · exact H.fM e
  · rcases e with e | e
    · exact blk_other H.nbox H.list.blk (by decide) e
    · exact blk_apart H.list.own H.nbox (by decide) e
  · rcases hg g h2 with q | q
    · exact H.sf g h1 q
    · have := lo g h1
      omega
  · rcases hg M h1 with q | q
    · exact H.fM q
    · have := H.wrow.lt
      omega
  · rcases e with e | e
    · have := H.n9; omega
    · exact H.nf k e
  · rcases hg g h1 with q | q
    · exact H.nf g q
    · have := H.kp.size; omega
/-- How many each waits for is another. -/
theorem OMem.waited (H : OMem w0 N M b c5 c6 c9 F lb w vs vf h W told) (hs : Blk w' M 3 (natV W').toArray) (hk : Kp (fun j => j = M) w w') : OMem w0 N M b c5 c6 c9 F lb w' vs vf h W' told :=
  ⟨H.heap.kp hk (blk_other H.heap.blk H.wrow (by decide)) (fun _ hg e => H.sM (by rw [hg, e])), H.list.kp hk (blk_other H.list.blk H.wrow (by decide)) (fun _ hg e => H.fM (by rw [hg, e])), hk.blk H.wbox (blk_other H.wbox H.wrow (by decide)), hs, hk.blk H.nbox (blk_other H.nbox H.wrow (by decide)), H.sf, H.sM, H.fM, H.cc,
    H.kp.trans (hk.below (fun k e => by have := H.nM; omega) H.kp.size), H.nM, H.nb, H.n9, H.ns, H.nf⟩
end
theorem freeL_small (W L : List Nat) : (freeL W L L.length).length ≤ L.length := freeL_length W L _

set_option maxHeartbeats 4000000 in
theorem order1_any {w0 w : World} {N M b c5 c6 c9 F : Nat} {lb : Array Value} {vs vf : Value} {h : List Int} {W told : List Nat} {f : Nat → List Nat} (n : Nat) (hn : n < N) (ht : told.length ≤ 1000) (hW : W.length = N) (hc : ∀ m, (f n).count m ≤ W.getD m 0) (hW9 : ∀ m, W.getD m 0 ≤ 1000000) (hX : NextIs noB N f F lb w0) (H : OMem w0 N M b c5 c6 c9 F lb w vs vf h W told) :
    Calls Try.prog 73 #[.int .i64 (n : Int), .pointer (some ⟨c9, 0, none⟩), .pointer (some ⟨c5, 0, none⟩), .pointer (some ⟨c6, 0, none⟩)] w fun e w' =>
      ∃ A c vf', e = .returned (.slice A (freeL W (f n) (f n).length).length c) ∧ Told w' b vs A (intsN (freeL W (f n) (f n).length)) ∧ OMem w0 N M b c5 c6 c9 F lb w' vs vf' h (decs W (f n)) (told ++ [n]) := by
  obtain ⟨i0, hi0, hz0, hz1, hz2⟩ := info_parts info_int
  have G0 := Lib.hid hi0
  have G1 := Lib.hid hz0
  have G2 := Lib.hid hz1
  have G3 := Lib.hid hz2
  have ef := hX.enter
  have u0 := H.list.blk.cell 0
  have u1 := H.list.blk.lt
  have u2 := H.list.blk.frozen 0
  simp at u0
  have lf : (intsN told).length = told.length := List.length_map _
  have LF := Lib.hid lf
  have H1 := Lib.hid H
  have HX := Lib.hid hX
  have FW := hX.few n
  have FS := freeL_small W (f n)
  have HCN := Lib.hid hc
  have HW9 := Lib.hid hW9
  have HWL := Lib.hid hW
  obtain ⟨L, hL⟩ : ∃ L, L = f n := ⟨_, rfl⟩
  have CN0 := Lib.hid (fun v hv => hX.tells v hv n hn)
  rw [← hL] at FW FS HCN CN0 ⊢
  have FW1 := FW.1
  have FW2 := Lib.hid FW.2
  have NE := Lib.hid (blk_apart H.list.own H.list.blk (by decide))
  clear hi0 hz0 hz1 hz2 H hX lf hc hW9 hW hL FW
  go_enter Try.func73, Try.ntmps73
  go_upto_region 1 with fail
  go_upto_region 2 with (
    at_builtin
    refine wpList_append_lies _ rfl _ _ 32 rfl 0 3 i0 _ 1 8 Try.underlying32 G0.out G1.out G2.out G3.out rfl (by decide) _ _ _ rfl (H1.out.list.own.alloc _) ⟨w.heap.size, 0, none⟩ 1 1 [.int .i64 (n : Int)] rfl rfl ?c1 ?c2 (by decide) ?c3 ?c4 (Nat.zero_le _) _ rfl ?_
    case c1 => exact cell_one_new _ _ _
    case c2 => simp [Value.oneCell']
    case c3 => rw [LF.out]; simp only [maxLen]; omega
    case c4 => rw [LF.out]; omega
    intro g cap w2 hown hgrow hat hlt
    have hb1 : Blk w2 c9 32 #[vf] := (hgrow.block c9 (by simp; omega) (fun e => NE.out e.symm)).trans (H1.out.list.blk.alloc _)
    have v0 := hb1.cell 0
    have v1 := hb1.lt
    have v2 := hb1.frozen 0
    simp at v0
    obtain ⟨q1, q2⟩ := held_append (m := (n : Int)) H1.out.list hown _ hgrow hat
    have LI := Lib.hid (H1.out.listed (told' := told ++ [n]) (by rw [show intsN (told ++ [n]) = intsN told ++ [(n : Int)] by simp [intsN]]; exact q1) q2)
    rw [LF.out] at LI
    clear hb1 hown hgrow hat q1 q2)
  obtain ⟨w3, hw3⟩ : ∃ w3, w3 = w2.setCell ⟨c9, 0, none⟩ (.slice (some ⟨g, 0, none⟩) (told.length + 1) cap) := ⟨_, rfl⟩
  rw [← hw3] at LI ⊢
  obtain ⟨vf', hvf⟩ : ∃ vf', vf' = Value.slice (some ⟨g, 0, none⟩) (told.length + 1) cap := ⟨_, rfl⟩
  rw [← hvf] at LI
  have L3 : OMem w0 N M b c5 c6 c9 F lb w3.drew vs vf' h W (told ++ [n]) := LI.out.later (Below.refl _ _).drew
  have LI2 := Lib.hid L3
  have d0 := L3.nbox.cell 0
  have d1 := L3.nbox.lt
  have d2 := L3.wbox.cell 0
  have d3 := L3.wbox.lt
  simp at d0 d2
  have CN := Lib.hid (fun u (hu : OMem w0 N M b c5 c6 c9 F lb u vs vf' h W (told ++ [n])) => show Calls Try.prog F (#[.int .i64 (n : Int)] ++ lb) u (fun e u' => ∃ A c, e = .returned (.slice A L.length c) ∧ Cells u' u'.heap.size A (natV L) ∧ (∀ g, (Value.slice A L.length L.length).ownBlock = some g → g ≠ M) ∧ OMem w0 N M b c5 c6 c9 F lb u' vs vf' h W (told ++ [n]) ∧ (u'.cell? ⟨c5, 0, none⟩ = some (.func (.func F) #[] lb) ∧ u'.cell? ⟨c6, 0, none⟩ = some (.slice (some ⟨M, 0, none⟩) N N))) from (CN0.out u (Kp.of hu.kp (Nat.le_refl _))).mono (by
    rintro e u' ⟨A, c, rfl, -, hc, hb, ho⟩
    have h2 := hu.later hb
    refine ⟨A, c, rfl, hc, fun g hg e => ?_, h2, (h2.nbox.cell 0).trans (by simp), (h2.wbox.cell 0).trans (by simp)⟩
    have q1 := own_ge ho g (by cases A <;> simp [Value.ownBlock] at hg ⊢; exact hg)
    have q2 := hu.wrow.lt
    omega))
  have CF := Lib.hid (fun u A c (hu : OMem w0 N M b c5 c6 c9 F lb u vs vf' h W (told ++ [n])) (hA : Cells u u.heap.size A (natV L)) (hg : ∀ g, (Value.slice A L.length L.length).ownBlock = some g → g ≠ M) => freed_any A c L W M N L.length HWL.out rfl FW1 FW2.out HCN.out HW9.out u hA hg hu.wrow)
  have FIN := Lib.hid (fun (u u' : World) (e : Ending) (hu : OMem w0 N M b c5 c6 c9 F lb u vs vf' h W (told ++ [n])) (ht : TellsFreed W L M u e u') => show ∃ A c vf', e = .returned (.slice A (freeL W L L.length).length c) ∧ Told u' b vs A (intsN (freeL W L L.length)) ∧ OMem w0 N M b c5 c6 c9 F lb u' vs vf' h (decs W L) (told ++ [n]) from by
    obtain ⟨A, cap, rfl, ho, hb, hk⟩ := ht
    obtain ⟨-, A', cap', q, -, -, hc⟩ := own_cells ho
    cases q
    refine ⟨A, cap, vf', rfl, ⟨hc, fun g hg => ⟨fun e => ?_, fun e => ?_⟩⟩, hu.waited hb hk⟩
    · have q1 := own_ge ho g (by cases A <;> simp [Value.ownBlock] at hg ⊢; exact hg)
      have q2 := own_lt hu.heap.own g e
      omega
    · have q1 := own_ge ho g (by cases A <;> simp [Value.ownBlock] at hg ⊢; exact hg)
      have q2 := hu.heap.blk.lt
      omega)
  clear L3 hw3 hvf CN0 HWL FW2 HCN HW9 FW1 FS LI v0 v1 v2 hlt u0 u1 u2 G0 G1 G2 G3 HX H1 NE LF
  go_region_with (first
    | ((with_reducible refine (CN.out _ LI2.out).mono ?_); rintro e u3 ⟨A, c, rfl, hc, hg, hu, e1, e2⟩; have HC := Lib.hid hc; have HG := Lib.hid hg; have HU := Lib.hid hu; have e3 := hu.wbox.lt; clear hc hg hu)
    | (go_at_call 74; (with_reducible refine (CF.out _ _ _ HU.out HC.out HG.out).mono ?_); intro e u4 ht; obtain ⟨A5, c5', rfl, h5⟩ := ht; have H5 := Lib.hid h5; clear h5))
  all_goals
    go_wp2_with fail
    go_ret
    exact FIN.out _ _ _ HU.out ⟨_, _, rfl, H5.out⟩
end Go.Proofs.Ytajckihgfelbaaa.Rch
