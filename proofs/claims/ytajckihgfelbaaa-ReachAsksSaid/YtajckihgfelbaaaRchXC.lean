/- What the landed layer 6 does: nodes as they end. -/
import Derived.Test.YtajckihgfelbaaaRchXB
import Derived.Test.YtajckihgfelbaaaRchMathX
import Derived.Laws.DeepNot64
import Derived.Laws.EntriesVeiled
namespace Go.Proofs.Ytajckihgfelbaaa.Rch
open Go.RowKit Go.Proofs.Ytajckihgfelbaaa.Inst Go.Proofs.Ytajckihgfelbaaa.Adj
set_option maxRecDepth 100000

theorem not_nt (a : Nat) (ha : a < 9223372036854775808) : bits .xor .i64 (-1) (nt a) = (a : Int) := by
  show IntKind.i64.wrap ((BitVec.ofInt 64 (-1) ^^^ BitVec.ofInt 64 (nt a)).toNat : Int) = _
  have h1 : BitVec.ofInt 64 (-1) = BitVec.allOnes 64 := by decide
  rw [h1, BitVec.allOnes_xor, BitVec.toNat_not, BitVec.toNat_ofInt]
  unfold nt
  simp [IntKind.wrap, IntKind.bits, IntKind.signed]
  omega
theorem not_nat (a : Nat) (ha : a < 9223372036854775808) : bits .xor .i64 (-1) (a : Int) = nt a := by
  rw [i64_not a ha]; unfold nt; omega

section
variable {w0 w : World} {N M b c4 c5 c7 F : Nat} {lb : Array Value} {vs vf : Value} {st : List Int} {met : List Bool} {fr : List Nat} {f : Nat → List Nat}
set_option maxHeartbeats 4000000 in
theorem ended_fin (u : Nat) (hu : u ≤ 1000) (hf : fr.length ≤ 1000) (h : Mem w0 N M b c4 c5 c7 F lb w vs vf st met fr) :
    Calls Try.prog 130 #[.int .i64 (nt u), .pointer (some ⟨c7, 0, none⟩), .pointer (some ⟨c5, 0, none⟩), .pointer (some ⟨c4, 0, none⟩)] w fun e w' => e = .returned (.slice none 0 0) ∧ ∃ vf', Mem w0 N M b c4 c5 c7 F lb w' vs vf' st met (fr ++ [u]) := by
  obtain ⟨i0, hi0, hz0, hz1, hz2⟩ := info_parts info_int
  have G0 := Lib.hid hi0
  have G1 := Lib.hid hz0
  have G2 := Lib.hid hz1
  have G3 := Lib.hid hz2
  have y0 := h.list.blk.cell 0
  have y1 := h.list.blk.lt
  have y2 := h.list.blk.frozen 0
  simp at y0
  have H := Lib.hid h
  have LF := Lib.hid (show (intsN fr).length = fr.length from List.length_map _)
  have NE := Lib.hid (blk_apart h.list.own h.list.blk (by decide))
  have nx := not_nt u (by omega)
  obtain ⟨x, hx⟩ : ∃ x, x = nt u := ⟨_, rfl⟩
  have x0 : x < 0 := by rw [hx]; unfold nt; omega
  have x1 : -2000 ≤ x := by rw [hx]; unfold nt; omega
  rw [← hx] at nx ⊢
  clear hi0 hz0 hz1 hz2 h hx
  go_enter Try.func130, Try.ntmps130
  go_wp2_with (
    at_builtin
    go_loud (
    refine wpList_append_lies _ rfl _ _ 32 rfl 0 3 i0 _ 1 8 Try.underlying32 G0.out G1.out G2.out G3.out rfl (by decide) _ _ _ rfl (H.out.list.own.alloc _) ⟨w.heap.size, 0, none⟩ 1 1 [.int .i64 (u : Int)] rfl rfl ?c1 ?c2 (by decide) ?c3 ?c4 (Nat.zero_le _) _ rfl ?_
    case c1 =>
      rw [show (if IntKind.i64.signed = true then (-1 : Int) else 9223372036854775807) = -1 from rfl, nx]
      exact cell_one_new _ _ _
    case c2 => simp [Value.oneCell']
    case c3 => rw [LF.out]; simp only [maxLen]; omega
    case c4 => rw [LF.out]; omega
    intro g cap w2 hown hgrow hat hlt
    have hb1 : Blk w2 c7 32 #[vf] := (hgrow.block c7 (by simp; omega) (fun e => NE.out e.symm)).trans (H.out.list.blk.alloc _)
    have v0 := hb1.cell 0
    have v1 := hb1.lt
    have v2 := hb1.frozen 0
    simp at v0
    obtain ⟨q1, q2⟩ := held_append (m := (u : Int)) H.out.list hown _ hgrow hat
    have LI := Lib.hid (H.out.listed (fr' := fr ++ [u]) (by rw [show intsN (fr ++ [u]) = intsN fr ++ [(u : Int)] by simp [intsN]]; exact q1) q2)
    rw [LF.out] at LI
    clear hb1 hown hgrow hat q1 q2))
  go_ret
  exact ⟨rfl, _, LI.out⟩
theorem ended_met (m : Nat) (hm : m < N) (hl : met.length = N) (hy : onB met m = true) (h : Mem w0 N M b c4 c5 c7 F lb w vs vf st met fr) :
    Calls Try.prog 130 #[.int .i64 (m : Int), .pointer (some ⟨c7, 0, none⟩), .pointer (some ⟨c5, 0, none⟩), .pointer (some ⟨c4, 0, none⟩)] w fun e w' => e = .returned (.slice none 0 0) ∧ w = w' := by
  have x0 := h.mbox.cell 0
  have x1 := h.mbox.lt
  have t0 := h.bit m (by omega)
  have t1 := h.mrow.lt
  simp at x0
  rw [hy] at t0
  have n0 : (0 : Int) ≤ (m : Int) := by omega
  have n2 : ¬ ((m : Int) < 0) := by omega
  have n1 : (m : Int) < (N : Int) := by omega
  clear h hy
  go_enter Try.func130, Try.ntmps130
  go_wp2_with fail
  go_ret
  exact ⟨rfl, rfl⟩
set_option maxHeartbeats 4000000 in
theorem ended_new (m : Nat) (hm : m < N) (hN : N ≤ 1000) (hl : met.length = N) (hy : onB met m = false) (hX : NextIs (fun k => k = M ∨ k = c7) N f F lb w0) (h : Mem w0 N M b c4 c5 c7 F lb w vs vf st met fr) :
    Calls Try.prog 130 #[.int .i64 (m : Int), .pointer (some ⟨c7, 0, none⟩), .pointer (some ⟨c5, 0, none⟩), .pointer (some ⟨c4, 0, none⟩)] w fun e w' =>
      ∃ A c, e = .returned (.slice A ((f m).length + 1) c) ∧ Told w' b vs A (nt m :: intsN (f m)) ∧ Mem w0 N M b c4 c5 c7 F lb w' vs vf st (met.set m true) fr := by
  obtain ⟨i0, hi0, hz0, hz1, hz2⟩ := info_parts info_int
  have G0 := Lib.hid hi0
  have G1 := Lib.hid hz0
  have G2 := Lib.hid hz1
  have G3 := Lib.hid hz2
  have ef := hX.enter
  have x0 := h.mbox.cell 0
  have x1 := h.mbox.lt
  have z1 := h.nbox.lt
  have t0 := h.bit m (by omega)
  have t1 := h.mrow.lt
  have t2 := h.mrow.frozen m
  simp at x0
  rw [hy] at t0
  have n0 : (0 : Int) ≤ (m : Int) := by omega
  have n2 : ¬ ((m : Int) < 0) := by omega
  have n1 : (m : Int) < (N : Int) := by omega
  have nx := not_nat m (by omega)
  obtain ⟨x, hx⟩ : ∃ x, x = nt m := ⟨_, rfl⟩
  rw [← hx] at nx
  obtain ⟨w1, hw1⟩ : ∃ w1, w1 = w.setCell ⟨M, m, none⟩ (.bool true) := ⟨_, rfl⟩
  have H1 := Lib.hid (show Mem w0 N M b c4 c5 c7 F lb w1 vs vf st (met.set m true) fr by rw [hw1]; exact h.marked m)
  obtain ⟨w2, hw2⟩ : ∃ w2, w2 = w1.alloc (.cells #[.int .i64 x] 3) := ⟨_, rfl⟩
  have B2 := Lib.hid (show Blk w2 w1.heap.size 3 #[.int .i64 x] by rw [hw2]; exact Blk.new _ _ _)
  have b2 : Below w1.heap.size w1 w2 := by rw [hw2]; exact (Below.refl _ _).alloc (Nat.le_refl _) _
  have H2 := Lib.hid (H1.out.later b2)
  have u0 := H1.out.nbox.cell 0
  have u1 := H1.out.nbox.lt
  simp at u0
  have CL := Lib.hid (hX.tells w2 H2.out.kp m hm)
  have FW := Lib.hid (hX.few m)
  have HX := Lib.hid hx
  have HW := Lib.hid hw1
  have HW2 := Lib.hid hw2
  have BB := Lib.hid b2
  have f9 := (hX.few m).1
  obtain ⟨L, hL⟩ : ∃ L, L = f m := ⟨_, rfl⟩
  rw [← hL] at CL f9 ⊢
  clear hi0 hz0 hz1 hz2 h hX hx hw1 hw2 b2 hL
  go_enter Try.func130, Try.ntmps130
  go_upto_region 7 with fail
  rw [← HW.out]
  go_wp2_with (fail)
  rw [← HW2.out]
  refine CL.out.mono ?_
  rintro e w3 ⟨A, c, rfl, hc2, hcs, hb, ho⟩
  have CS := Lib.hid hcs
  have BW := Lib.hid hb
  have OW := Lib.hid ho
  have O1 := Lib.hid (show w3.ownsRow w1.heap.size 3 1 (.slice (some ⟨w1.heap.size, 0, none⟩) 1 1) 1 [.int .i64 x] from ⟨rfl, .inr ⟨_, 1, #[.int .i64 x], rfl, Nat.le_refl _, B2.out.below hb B2.out.lt, Nat.le_refl 1, by decide, rfl, rfl⟩⟩)
  have z2 := BB.out.size
  have z3 := hb.size
  have H3 := Lib.hid (H2.out.later hb)
  clear hcs hb ho
  have fin : ∀ (v : Value) (u : World), u.ownsRow w1.heap.size 3 1 v (1 + L.length) ([.int .i64 x] ++ natV L) → w3.grownBy u (some w1.heap.size) → ∃ A c, Ending.returned v = .returned (.slice A (L.length + 1) c) ∧ Told u b vs A (nt m :: intsN L) ∧ Mem w0 N M b c4 c5 c7 F lb u vs vf st (met.set m true) fr := by
    intro v u hown hgrow
    obtain ⟨-, A', c', rfl, -, -, hcc⟩ := own_cells hown
    have ge := own_ge hown
    have K3 : Below w1.heap.size w1 u := ((BB.out.trans (BW.out.mono z2)).grown hgrow (by omega) (fun g hg => by cases hg; exact Nat.le_refl _))
    refine ⟨A', c', by rw [Nat.add_comm], ⟨by rw [← HX.out]; exact hcc, fun g hg => ⟨fun e => ?_, fun e => ?_⟩⟩, H1.out.later K3⟩
    · have q1 := ge g (by cases A' <;> simp [Value.ownBlock] at hg ⊢; exact hg)
      have q2 := own_lt H1.out.stack.own g e
      omega
    · have q1 := ge g (by cases A' <;> simp [Value.ownBlock] at hg ⊢; exact hg)
      have q2 := H1.out.stack.blk.lt
      omega
  have FN := Lib.hid fin
  clear fin
  by_cases l0 : L.length = 0
  · have ln : L = [] := List.length_eq_zero_iff.1 l0
    subst ln
    have none0 : A = none → c = 0 := by
      rintro rfl
      rcases OW.out.2 with ⟨q, _⟩ | ⟨g, cc, cur, q, _⟩
      · cases q; rfl
      · cases q
    have NN := Lib.hid none0
    clear none0
    go_wp2_with (
      at_builtin
      refine wpList_append_fits_any _ rfl _ _ 32 rfl w1.heap.size 3 i0 1 Try.underlying32 G0.out G2.out w1.heap.size 1 1 [.int .i64 x] rfl O1.out A 0 c [] rfl rfl ?c1 ?c2 ?c3 (by decide) ?_
      case c1 => exact fun e => ⟨rfl, NN.out e⟩
      case c2 => intro ad _ j u hu; simp at hu
      case c3 => intro u hu; simp at hu
      intro u hown hgrow
      have F1 := Lib.hid (FN.out _ _ hown hgrow)
      clear hown hgrow)
    go_ret
    exact F1.out
  · obtain ⟨g, ea, lg, hcell, -⟩ := own_at OW.out (by omega)
    subst ea
    have HC := Lib.hid hcell
    have LP : 0 < L.length := by omega
    clear hcell
    go_wp2_with (
      at_builtin
      refine wpList_append_own _ rfl _ _ 32 rfl w1.heap.size 3 i0 _ 1 8 Try.underlying32 G0.out G1.out G2.out G3.out rfl (by decide) _ _ _ rfl O1.out ⟨g, 0, none⟩ L.length c (natV L) rfl ?c0 ?c1 ?c2 ?c3 ?c4 ?c5 ?_
      case c0 => rw [natV_length, Nat.mul_one]
      case c1 =>
        intro j u hu
        obtain ⟨hj, e⟩ := List.getElem?_eq_some_iff.1 hu
        rw [addr_add, Nat.zero_add, HC.out j hj, e]
      case c2 =>
        intro u hu
        unfold natV numV at hu
        rw [List.map_map, List.mem_map] at hu
        obtain ⟨y, _, rfl⟩ := hu
        rfl
      case c3 => simp only [maxLen]; omega
      case c4 => omega
      case c5 => omega
      intro v u hown hgrow _
      have F1 := Lib.hid (FN.out _ _ hown hgrow)
      clear hown hgrow)
    go_ret
    exact F1.out
end
end Go.Proofs.Ytajckihgfelbaaa.Rch
/- What the landed layer 6 does: all nodes, as they end. -/
namespace Go.Proofs.Ytajckihgfelbaaa.Rch
open Go.RowKit Go.Proofs.Ytajckihgfelbaaa.Inst Go.Proofs.Ytajckihgfelbaaa.Adj
set_option maxRecDepth 100000

/-- What was met stays so; where the walk began is met, or still to do. -/
def Since (met0 : List Bool) (s : Nat) (st : List Int) (met : List Bool) : Prop := (∀ x, onB met0 x = true → onB met x = true) ∧ (onB met s = true ∨ (s : Int) ∈ st)
theorem Since.pop {met0 met : List Bool} {s : Nat} {st : List Int} {x : Int} (h : Since met0 s (st ++ [x]) met) (hx : (s : Int) = x → onB met s = true) : Since met0 s st met := by
  refine ⟨h.1, ?_⟩
  rcases h.2 with q | q
  · exact .inl q
  · rw [List.mem_append, List.mem_singleton] at q
    rcases q with q | q
    · exact .inr q
    · exact .inl (hx q)
theorem Since.meet {met0 met : List Bool} {s m : Nat} {st l : List Int} (h : Since met0 s (st ++ [(m : Int)]) met) (hm : m < met.length) : Since met0 s (st ++ l) (met.set m true) := by
  refine ⟨fun x hx => (onB_set met m x hm).2 (.inr (h.1 x hx)), ?_⟩
  rcases h.2 with q | q
  · exact .inl ((onB_set met m s hm).2 (.inr q))
  · rw [List.mem_append, List.mem_singleton] at q
    rcases q with q | q
    · exact .inr (by simp [q])
    · exact .inl ((onB_set met m s hm).2 (.inl (Int.ofNat_inj.1 q)))
section
variable (w0 : World) (M b c4 c5 c7 F : Nat) (lb : Array Value) (I : InstD) (met0 : List Bool) (s : Nat)
def EInv (k : Nat) (w : World) : Prop := ∃ vs vf st met fr, Mem w0 I.sup.length M b c4 c5 c7 F lb w vs vf st met fr ∧ EndIs I st met fr ∧ Since met0 s st met ∧ st.length + wt (outN I) met ≤ k ∧ k ≤ 2000000
def EMid (n : Int) (k : Nat) (w : World) : Prop := ∃ vs vf st met fr, Mem w0 I.sup.length M b c4 c5 c7 F lb w vs vf st met fr ∧ EndIs I (st ++ [n]) met fr ∧ Since met0 s (st ++ [n]) met ∧ st.length + wt (outN I) met ≤ k ∧ k ≤ 2000000
def EPuts (A : Option Addr) (l : List Int) (k i : Nat) (w : World) : Prop := ∃ vs vf st met fr, Mem w0 I.sup.length M b c4 c5 c7 F lb w vs vf (st ++ l.take i) met fr ∧ EndIs I (st ++ l) met fr ∧ Since met0 s (st ++ l) met ∧ (st ++ l).length + wt (outN I) met ≤ k ∧ k ≤ 2000000 ∧ Told w b vs A l
def EEnd (w : World) : Prop := ∃ vs vf met fr, Mem w0 I.sup.length M b c4 c5 c7 F lb w vs vf [] met fr ∧ EndIs I [] met fr ∧ Since met0 s [] met
variable {w0 M b c4 c5 c7 F lb I met0 s}
theorem etake (k : Nat) (w : World) (h : EInv w0 M b c4 c5 c7 F lb I met0 s k w) : Calls Try.prog 168 #[.pointer (some ⟨b, 0, none⟩)] w fun e w' => ∃ n t, e = .returned (.tuple #[.int .i64 n, .bool t]) ∧ After (EMid w0 M b c4 c5 c7 F lb I met0 s) (EEnd w0 M b c4 c5 c7 F lb I met0 s) k n t w' := by
  obtain ⟨vs, vf, st, met, fr, hm, hs, hz, hk, hk2⟩ := h
  rcases List.eq_nil_or_concat st with rfl | ⟨st', m, rfl⟩
  · refine (take_none b vs w hm.stack).mono ?_
    rintro e w' ⟨rfl, rfl⟩
    exact ⟨0, false, rfl, .inl ⟨rfl, vs, vf, met, fr, hm, hs, hz⟩⟩
  · rw [List.concat_eq_append] at hm hs hk hz
    simp at hk
    refine (take_newest b vs st' m w hm.stack (by omega)).mono ?_
    rintro e w' ⟨rfl, vs', h1, h2⟩
    exact ⟨m, true, rfl, .inr ⟨rfl, st'.length + wt (outN I) met, by omega, vs', vf, st', met, fr, hm.stacked h1 h2, hs, hz, Nat.le_refl _, by omega⟩⟩
theorem emeet (hN : I.sup.length ≤ 1000) (hX : NextIs (fun k => k = M ∨ k = c7) I.sup.length (outN I) F lb w0) (n : Int) (k : Nat) (w : World) (h : EMid w0 M b c4 c5 c7 F lb I met0 s n k w) :
    Calls Try.prog 130 (#[.int .i64 n] ++ #[.pointer (some ⟨c7, 0, none⟩), .pointer (some ⟨c5, 0, none⟩), .pointer (some ⟨c4, 0, none⟩)]) w fun e w' => ∃ A l c, e = .returned (.slice A l.length c) ∧ l.length ≤ 1000000 ∧ EPuts w0 M b c4 c5 c7 F lb I met0 s A l k 0 w' := by
  obtain ⟨vs, vf, st, met, fr, hm, hs, hz, hk, hk2⟩ := h
  have hl := hs.done_le
  obtain ⟨m, hmN, he⟩ := hs.ok n (by simp)
  rcases he with rfl | rfl
  · by_cases hy : onB met m = true
    · refine (ended_met m hmN hs.len hy hm).mono ?_
      rintro e w' ⟨rfl, rfl⟩
      refine ⟨none, [], 0, rfl, by simp, vs, vf, st, met, fr, ?_, ?_, ?_, by simpa using hk, hk2, fun h0 => absurd h0 (by simp [numV]), fun g e => by simp [Value.ownBlock] at e⟩
      · simpa using hm
      · simpa using hs.skip hy
      · simpa using hz.pop (fun e => by rw [Int.ofNat_inj.1 e]; exact hy)
    · have hy : onB met m = false := by simpa using hy
      have hw := wt_set (outN I) met m (by rw [hs.len]; exact hmN) hy
      have hfew := hX.few m
      refine (ended_new m hmN hN hs.len hy hX hm).mono ?_
      rintro e w' ⟨A, c, rfl, ht, h2⟩
      refine ⟨A, nt m :: intsN (outN I m), c, by simp, by simp; omega, vs, vf, st, met.set m true, fr, ?_, hs.meet hy, hz.meet (by rw [hs.len]; exact hmN), by simp; omega, hk2, ht⟩
      simpa using h2
  · refine (ended_fin m (by omega) (by omega) hm).mono ?_
    rintro e w' ⟨rfl, vf', h2⟩
    refine ⟨none, [], 0, rfl, by simp, vs, vf', st, met, fr ++ [m], ?_, ?_, ?_, by simpa using hk, hk2, fun h0 => absurd h0 (by simp [numV]), fun g e => by simp [Value.ownBlock] at e⟩
    · simpa using h2
    · simpa using hs.fin
    · simpa using hz.pop (fun e => absurd e.symm (nt_ne m s))
theorem eput (A : Option Addr) (l : List Int) (k i : Nat) (w : World) (hi : i < l.length) (h : EPuts w0 M b c4 c5 c7 F lb I met0 s A l k i w) :
    Calls Try.prog 167 #[.pointer (some ⟨b, 0, none⟩), .int .i64 l[i]] w fun e w' => (∃ r, e = .returned r) ∧ EPuts w0 M b c4 c5 c7 F lb I met0 s A l k (i + 1) w' := by
  obtain ⟨vs, vf, st, met, fr, hm, hs, hz, hk, hk2, ht⟩ := h
  refine (put_newest b vs _ _ w hm.stack (by simp at hk ⊢; omega)).mono ?_
  rintro e w' ⟨hr, vs', h1, h2⟩
  refine ⟨hr, vs', vf, st, met, fr, ?_, hs, hz, hk, hk2, ht.wrote (by omega) h2⟩
  refine hm.stacked ?_ h2
  rw [List.take_succ_eq_append_getElem hi, ← List.append_assoc]
  exact h1
theorem edone (A : Option Addr) (l : List Int) (k : Nat) (w : World) (h : EPuts w0 M b c4 c5 c7 F lb I met0 s A l k l.length w) : EInv w0 M b c4 c5 c7 F lb I met0 s k w := by
  obtain ⟨vs, vf, st, met, fr, hm, hs, hz, hk, hk2, ht⟩ := h
  rw [List.take_length] at hm
  exact ⟨vs, vf, st ++ l, met, fr, hm, hs, hz, hk, hk2⟩
end
theorem ewalk {w0 : World} {M b c4 c5 c7 F : Nat} {lb : Array Value} {I : InstD} {met0 : List Bool} {s : Nat} (hN : I.sup.length ≤ 1000) (hX : NextIs (fun k => k = M ∨ k = c7) I.sup.length (outN I) F lb w0) (k : Nat) (w : World) (h : EInv w0 M b c4 c5 c7 F lb I met0 s k w) :
    Calls Try.prog 72 #[.iface 158 (.pointer (some ⟨b, 0, none⟩)), .func (.func 130) #[] #[.pointer (some ⟨c7, 0, none⟩), .pointer (some ⟨c5, 0, none⟩), .pointer (some ⟨c4, 0, none⟩)]] w fun e w' => (∃ r, e = .returned r) ∧ EEnd w0 M b c4 c5 c7 F lb I met0 s w' :=
  walk_any 158 _ 168 167 130 _ (EInv w0 M b c4 c5 c7 F lb I met0 s) (EMid w0 M b c4 c5 c7 F lb I met0 s) (EPuts w0 M b c4 c5 c7 F lb I met0 s) (EEnd w0 M b c4 c5 c7 F lb I met0 s)
    (take_at _) (enters_of Try.func168 (by kernel_rfl) rfl) (put_at _) (enters_of Try.func167 (by kernel_rfl) rfl) (enters_of Try.func130 (by kernel_rfl) rfl)
    etake (emeet hN hX) (fun A l k i w h => by obtain ⟨vs, vf, st, met, fr, hm, hs, hz, hk, hk2, ht⟩ := h; exact ht.1) eput edone k w h

/-- Between two walks. -/
def EndRel (w0 : World) (M c4 c5 c7 F : Nat) (lb : Array Value) (I : InstD) (s18 : Value) (u : World) : Prop :=
  ∃ (k : Nat) (vf : Value) (met : List Bool) (fr : List Nat), k ≤ I.sup.length ∧ s18 = .int .i64 (k : Int) ∧ Rest w0 I.sup.length M c4 c5 c7 F lb u vf met fr ∧ EndIs I [] met fr ∧ ∀ x, x < k → onB met x = true
/-- What ended tells. -/
def TellsEnded (I : InstD) (w : World) (e : Ending) (w' : World) : Prop :=
  ∃ A cap done, e = .returned (.slice A done.length cap) ∧ w'.ownsRow w.heap.size 3 1 (.slice A done.length cap) done.length (natV done) ∧ Ended I done ∧ Below w.heap.size w w'
set_option maxHeartbeats 4000000 in
theorem ended_any (b : Nat) (I : InstD) (n : Nat) (hn : I.sup.length = n) (w : World) (h : GrX w b I) : Calls Try.prog 101 #[.pointer (some ⟨b, 0, none⟩)] w (TellsEnded I w) := by
  have n9 : n ≤ 1000 := by rw [← hn]; exact (grx_bd h).1
  have MK := fun W => make_bools n n9 W
  obtain ⟨W1, hW1⟩ : ∃ W1, W1 = w.alloc (.cells #[.slice none 0 0] 32) := ⟨_, rfl⟩
  have B1 := Lib.hid (show Below w.heap.size w W1 by rw [hW1]; exact (Below.refl _ _).alloc (Nat.le_refl _) _)
  have ND := Lib.hid (nodes_v _ I n hn W1 (grx_v (h.later B1.out)).half)
  have HW1 := Lib.hid hW1
  have HN := Lib.hid hn
  have G := Lib.hid h
  clear hW1 hn h
  go_enter Try.func101, Try.ntmps101
  go_wp2_with fail
  rw [← HW1.out]
  refine ND.out.mono ?_
  rintro e w2 ⟨rfl, hb⟩
  obtain ⟨W3, hW3⟩ : ∃ W3, W3 = (w2.alloc (.cells (boolV (List.replicate n false)).toArray 4)).alloc (.cells #[.slice (some ⟨w2.heap.size, 0, none⟩) n n] 68) := ⟨_, rfl⟩
  have B12 := Lib.hid hb
  have B3 := Lib.hid (show Below w2.heap.size w2 W3 by rw [hW3]; exact ((Below.refl _ _).alloc (Nat.le_refl _) _).alloc (by simp) _)
  have BW3 := Lib.hid (chain2 (chain2 B1.out hb) B3.out)
  have AL := Lib.hid (along_any b 69 W3)
  have X := Lib.hid (next_out I b w W3 G.out BW3.out)
  have L1 := Lib.hid (show Blk W3 w.heap.size 32 #[.slice none 0 0] by rw [hW3]; exact (((show Blk W1 w.heap.size 32 #[.slice none 0 0] by rw [HW1.out]; exact Blk.new _ _ _).below hb (by rw [HW1.out]; simp)).alloc _).alloc _)
  have M1 := Lib.hid (show Blk W3 w2.heap.size 4 (boolV (List.replicate n false)).toArray by rw [hW3]; exact (Blk.new _ _ _).alloc _)
  have C1 := Lib.hid (show Blk W3 (w2.heap.size + 1) 68 #[.slice (some ⟨w2.heap.size, 0, none⟩) n n] by rw [hW3]; exact blk_at (by simp) _ _)
  have HW3 := Lib.hid hW3
  clear hW3 hb
  go_wp2_with fail
  rw [← HW3.out]
  refine AL.out.mono ?_
  rintro e w4 ⟨rfl, hw4⟩
  have B4 := Lib.hid (show Below W3.heap.size W3 w4 by rw [hw4]; exact alongW_below _ _ _)
  rw [← hw4] at X
  obtain ⟨M, hM⟩ : ∃ M, M = w2.heap.size := ⟨_, rfl⟩
  have MG := Lib.hid (show w.heap.size ≤ M by rw [hM]; have q1 := B1.out.size; have q2 := B12.out.size; omega)
  rw [← hM] at M1 C1 ⊢
  obtain ⟨W5, hW5⟩ : ∃ W5, W5 = w4.alloc (.cells #[.func (.func 95) #[] (alongB W3)] 100) := ⟨_, rfl⟩
  have B5 := Lib.hid (show Below w4.heap.size w4 W5 by rw [hW5]; exact (Below.refl _ _).alloc (Nat.le_refl _) _)
  have B35 := Lib.hid (chain2 B4.out B5.out)
  have X5 := Lib.hid (X.out.later (q := fun k => k = M ∨ k = w.heap.size) (Kp.of B5.out (Nat.le_refl _)) (fun k hk e => by
    have q1 := B1.out.size
    have q2 := B12.out.size
    have q3 := M1.out.lt
    have q4 := L1.out.lt
    rcases e with e | e <;> subst e <;> exact ⟨by omega, by omega⟩))
  have R5 : Rest W5 I.sup.length M w4.heap.size (M + 1) w.heap.size 95 (alongB W3) W5 (.slice none 0 0) (List.replicate n false) [] := by
    refine ⟨⟨L1.out.below B35.out L1.out.lt, rfl, .inl ⟨rfl, rfl⟩⟩, ?_, M1.out.below B35.out M1.out.lt, by rw [hW5]; exact Blk.new _ _ _, Kp.refl _ _, fun g e => by simp [Value.ownBlock] at e⟩
    rw [HN.out]
    exact C1.out.below B35.out C1.out.lt
  have c0 := (C1.out.below B4.out C1.out.lt).cell 0
  have c1 := (C1.out.below B4.out C1.out.lt).lt
  simp at c0
  have R := Lib.hid R5
  have HW5 := Lib.hid hW5
  have BW5 := Lib.hid (chain2 BW3.out B35.out)
  clear hw4 hM hW5 R5
  go_wp2_with fail
  rw [← HW5.out]
  obtain ⟨lb, hlb⟩ : ∃ lb, lb = alongB W3 := ⟨_, rfl⟩
  rw [← hlb] at X5 R
  clear hlb HW5 X
  go_loopw [18] (fun s18 u => EndRel W5 M w4.heap.size (M + 1) w.heap.size 95 lb I s18 u) (fun s18 _ => n - (intOf s18).toNat)
  case atStart =>
    refine ⟨0, _, _, _, Nat.zero_le _, rfl, R.out, ?_, fun x hx => by omega⟩
    have := EndIs.new I
    rw [HN.out] at this
    exact this
  case round =>
    obtain ⟨k, vf, met, fr, hk, rfl, hr, he, hx⟩ := hrel
    have HR := Lib.hid hr
    have HE := Lib.hid he
    have HX := Lib.hid hx
    rw [HN.out] at hk
    clear hr he hx
    by_cases hlt : k < n
    · have k0 : (0 : Int) ≤ (k : Int) := by omega
      have k1 : (k : Int) < (n : Int) := by omega
      obtain ⟨v2, hv2⟩ : ∃ v2, v2 = (wr.alloc (.cells #[.int .i64 (k : Int)] 3)).alloc (.cells #[.slice (some ⟨wr.heap.size, 0, none⟩) 1 1] 159) := ⟨_, rfl⟩
      have SM := HR.out.stack (x := (k : Int)) (b' := wr.heap.size + 1) (g' := wr.heap.size) rfl rfl
      rw [← hv2] at SM
      have EW := Lib.hid (ewalk (met0 := met) (s := k) (by rw [HN.out]; exact n9) X5.out 2000000 v2 ⟨_, _, [(k : Int)], met, fr, SM, HE.out.begin k (by rw [HN.out]; exact hlt), ⟨fun x h => h, .inr (by simp)⟩, by
        have h1 := wt_le (outN I) met 1000 (fun n => (X5.out.few n).1)
        have h2 : met.length * (2 + 1000) ≤ 1000 * (2 + 1000) := Nat.mul_le_mul (by rw [HE.out.len, HN.out]; exact n9) (Nat.le_refl _)
        simp
        omega, Nat.le_refl _⟩)
      have HV := Lib.hid hv2
      clear hv2 SM
      go_wp2_with fail
      rw [← HV.out]
      refine EW.out.mono ?_
      rintro e v3 ⟨⟨r, rfl⟩, vs', vf', met', fr', hm', he', hs'⟩
      have HR' := Lib.hid hm'.rest
      have HE' := Lib.hid he'
      have HS' := Lib.hid hs'
      clear hm' he' hs'
      go_wp2_with fail
      refine ⟨⟨k + 1, vf', met', fr', by rw [HN.out]; omega, by simp, HR'.out, HE'.out, fun x hx => ?_⟩, by simp [intOf]; omega⟩
      by_cases c : x = k
      · subst c
        rcases HS'.out.2 with q | q
        · exact q
        · simp at q
      · exact HS'.out.1 x (HX.out x (by omega))
    · obtain rfl : k = n := by omega
      have ED := Lib.hid (HE.out.over (fun x hx => HX.out x (by rw [HN.out] at hx; exact hx)))
      have x0 := HR.out.list.blk.cell 0
      have x1 := HR.out.list.blk.lt
      simp at x0
      have ho := HR.out.list.own
      rw [numV_ints, intsN_length] at ho
      obtain ⟨-, A, cap, rfl, hc, hmx, hcs⟩ := own_cells ho
      have OF : wr.ownsRow w.heap.size 3 1 (.slice A fr.length cap) fr.length (natV fr) := by
        obtain ⟨q1, q2⟩ := ho
        refine ⟨q1, ?_⟩
        rcases q2 with q | ⟨g, c, cur, q3, _, q4⟩
        · exact .inl q
        · exact .inr ⟨g, c, cur, q3, by have := HR.out.nf g (by rw [q3]; rfl); have := BW5.out.size; omega, q4⟩
      have O2 := Lib.hid OF
      have KP := Lib.hid (BW5.out.trans (HR.out.kp.below (fun j hj => by
        have q1 := B1.out.size
        have q2 := B12.out.size
        rcases hj with e | e
        · subst e; exact MG.out
        · subst e; exact Nat.le_refl _) BW5.out.size))
      clear ho hcs OF
      go_wp2_with fail
      go_ret
      exact ⟨A, cap, fr, rfl, O2.out, ED.out, KP.out⟩
end Go.Proofs.Ytajckihgfelbaaa.Rch
