/- The law InstWithout: its walk. -/
import Derived.Test.YtekjbpdfginplaaInstMathC
import Derived.Test.YtekjbpdfginplaaInstWE
namespace Go.Proofs.Ytekjbpdfginplaa.Inst
open Go.RowKit

def fnd (L : List ArcD) (a : ArcD) (j : Nat) : Bool := (L.take j).any fun b => decide (b = a)
theorem fnd_succ (L : List ArcD) (a : ArcD) (j : Nat) (h : j < L.length) : fnd L a (j + 1) = (fnd L a j || decide (L[j] = a)) := by
  unfold fnd
  rw [List.take_succ_eq_append_getElem h, List.any_append]
  simp
theorem fnd_mem (L : List ArcD) (a : ArcD) (h : a ∈ L) : fnd L a L.length = true := by
  unfold fnd
  rw [List.take_length, List.any_eq_true]
  exact ⟨a, h, by simp⟩
/-- At the heads of the loops. -/
def WoRel (W7 : World) (m1 : Nat) (s : Value) (u : World) : Prop := ∃ k : Nat, k ≤ m1 ∧ s = .int .i64 (k : Int) ∧ Below W7.heap.size W7 u
def FndRel (w : World) (L : List ArcD) (a : ArcD) (s13 s14 : Value) (u : World) : Prop := ∃ j t : Nat, j ≤ L.length ∧ s14 = .int .i64 (j : Int) ∧ s13 = .bool (fnd L a j) ∧ u = w.drewN t

/-- What holds in the last region: two boxes, and that all else is as it was. -/
abbrev SS (W : World) (p q : Nat) (a b c d : Value) (u : World) : Prop := u.cell? ⟨p, 0, none⟩ = some a ∧ u.cell? ⟨p, 1, none⟩ = some b ∧ u.cell? ⟨q, 0, none⟩ = some c ∧ u.cell? ⟨q, 1, none⟩ = some d ∧ Below W.heap.size W u
theorem keep4 {W w w' : World} {p q : Nat} {a b c d : Value} (hp : p < W.heap.size) (hq : q < W.heap.size) (h : SS W p q a b c d w) (hb : Below w.heap.size w w') : SS W p q a b c d w' := by
  obtain ⟨h1, h2, h3, h4, h5⟩ := h
  have z := h5.size
  exact ⟨(hb.cell (p := ⟨p, 0, none⟩) (by show p < _; omega)).trans h1, (hb.cell (p := ⟨p, 1, none⟩) (by show p < _; omega)).trans h2, (hb.cell (p := ⟨q, 0, none⟩) (by show q < _; omega)).trans h3, (hb.cell (p := ⟨q, 1, none⟩) (by show q < _; omega)).trans h4, chain2 h5 hb⟩

set_option maxRecDepth 100000 in
set_option maxHeartbeats 8000000 in
theorem without_walk {W : World} (s : Option Addr) (l c : Nat) (xs : List Nat) (hl : xs.length = l) (h9 : l ≤ 140737488355328) (hx : Octs xs) (hs : Cells W W.heap.size s (octV xs)) (s' : Option Addr) (l' c' : Nat) (ys : List Nat) (hl' : ys.length = l') (h9' : l' ≤ 140737488355328) (hy : Octs ys) (hs' : Cells W W.heap.size s' (octV ys))
    (sE : Option Addr) (lE cE : Nat) (es : List Nat) (hlE : es.length = lE) (h9E : lE ≤ 140737488355328) (hE : Octs es) (hsE : Cells W W.heap.size sE (octV es)) :
    Calls Try.prog 5 #[.slice s l c, .slice s' l' c', .slice sE lE cE] W fun e W' => e = .returned (.bool true) ∧ Below W.heap.size W W' := by
  have IN := Lib.hid (inst_any s s' c c' xs ys hx hy (by omega) (by omega) W hs hs')
  rw [hl, hl'] at IN
  obtain ⟨I, hI⟩ : ∃ I, I = instC xs ys := ⟨_, rfl⟩
  have i0 := instC_sup xs ys
  have i1 := instC_arcs xs ys
  have i2 := nodesC_bd ys
  have i3 := instC_in xs ys
  rw [← hI] at IN i0 i1 i3
  obtain ⟨n, hn⟩ : ∃ n, n = nodesC ys := ⟨_, rfl⟩
  rw [← hn] at IN i0 i2
  obtain ⟨m, hm⟩ : ∃ m, m = I.arcs.length := ⟨_, rfl⟩
  rw [← hm] at i1
  have HN := Lib.hid i0
  have HM := Lib.hid hm.symm
  have HIN := Lib.hid i3
  have KW := Lib.hid (fun w => known_any w)
  obtain ⟨n1, n7⟩ := i2
  have MK := Lib.hid (fun w' (h : Below W.heap.size W w') => marks_any sE cE es hE (by omega) n (by omega) w' (hsE.later (Nat.le_refl _) h))
  rw [hlE] at MK
  have ml := marksN_length es (marksUpto es n)
  obtain ⟨ns, hns⟩ : ∃ ns, ns = marksN es (marksUpto es n) := ⟨_, rfl⟩
  rw [← hns] at MK ml
  rw [← ml] at MK
  clear hI hn hm i0 i3 hs hs' hx hy hns ml hE hsE
  go_enter Try.func5, Try.ntmps5
  go_upto_region 2 with (go_at_call 12; (with_reducible refine IN.out.mono ?_); rintro e w1 ⟨sB, aV, rfl, hM⟩; obtain ⟨-, A, cap, ea, -, -, -⟩ := own_cells hM.arcs; subst ea; rw [HM.out] at hM; rw [HM.out]; have M1 := Lib.hid hM; clear hM)
  obtain ⟨p, hp⟩ : ∃ p, p = w1.heap.size := ⟨_, rfl⟩
  obtain ⟨W2, hW2⟩ : ∃ W2, W2 = w1.alloc (.cells #[.slice (some ⟨sB, 0, none⟩) n n, .slice A m cap] 25) := ⟨_, rfl⟩
  have M2 := Lib.hid (show Made W W2 sB (.slice A m cap) I.sup I.arcs by rw [hW2]; exact M1.out.alloc _)
  have BX := Lib.hid (show Blk W2 p 25 #[.slice (some ⟨sB, 0, none⟩) n n, .slice A m cap] by rw [hW2]; exact blk_at hp.symm _ _)
  have HI := Lib.hid (M2.out.here (I := I) HN.out HM.out (by omega) (by omega))
  have BW := Lib.hid M2.out.below
  rw [← hW2, ← hp]
  have BC := Lib.hid (fun w' (h : Below W2.heap.size W2 w') => (show w'.cell? ⟨p, 0, none⟩ = some (.slice (some ⟨sB, 0, none⟩) n n) ∧ w'.cell? ⟨p, 1, none⟩ = some (.slice A m cap) ∧ p < w'.heap.size from ⟨(BX.out.below h BX.out.lt).cell 0, (BX.out.below h BX.out.lt).cell 1, (BX.out.below h BX.out.lt).lt⟩))
  obtain ⟨x0, x1, x2⟩ := BC.out _ (Below.refl _ _)
  clear hp hW2 M1 M2
  go_upto_region 3 with (go_at_call 14; (with_reducible refine (MK.out _ BW.out).mono ?_); rintro e w3 ⟨v3, rfl, o3, hb⟩; obtain ⟨-, BA, cm, ev, -, -, hc3⟩ := own_cells o3; subst ev; have B3 := Lib.hid hb; have CM := Lib.hid hc3; clear o3 hb hc3)
  obtain ⟨x0, x1, x2⟩ := BC.out _ B3.out
  obtain ⟨N, hN⟩ : ∃ N, N = keptD ns (n : Int) := ⟨_, rfl⟩
  have KP := Lib.hid (kept_any BA cm ns (n : Int) (by omega) w3 CM.out)
  rw [← hN] at KP
  have WF := Lib.hid (without_facts I ns N (by rw [hN, HN.out]) (by rw [HN.out]; omega) (by rw [HM.out]; omega))
  have HNK := Lib.hid hN
  clear hN
  go_upto_region 4 with (go_at_call 17; (with_reducible refine KP.out.mono ?_); rintro e w4 ⟨NA, ncap, rfl, nc1, nc2, nb, -⟩; have B4 := Lib.hid (chain2 B3.out nb); have CM4 := Lib.hid (CM.out.later (Nat.le_refl _) nb); have NC := Lib.hid nc2; clear nb nc2)
  obtain ⟨x0, x1, x2⟩ := BC.out _ B4.out
  obtain ⟨O, hO⟩ : ∃ O, withoutD I ns [] = O := ⟨_, rfl⟩
  have OW := Lib.hid ((HI.out.later B4.out).without n cap BA none ns.length 0 cm 0 ns [] O hO rfl rfl CM4.out (row_nil _ _))
  rw [hO] at WF
  have on : O.sup.length = N.length := by rw [WF.out.1, List.length_map]
  have om := WF.out.2.1
  rw [HM.out] at om
  have nn := WF.out.2.2.2.2.2
  rw [HN.out] at nn
  rw [on] at OW
  have ON := Lib.hid on
  obtain ⟨m1, hm1⟩ : ∃ k, k = O.arcs.length := ⟨_, rfl⟩
  rw [← hm1] at OW om
  have OM := Lib.hid hm1.symm
  clear hO on hm1
  go_upto_region 5 with (go_at_call 22; (with_reducible refine OW.out.mono ?_); rintro e w6 ⟨B, x, B2, y, rfl, hc⟩; have C6 := Lib.hid hc; clear hc)
  obtain ⟨q, hq⟩ : ∃ q, q = w6.heap.size := ⟨_, rfl⟩
  obtain ⟨W7, hW7⟩ : ∃ W7, W7 = w6.alloc (.cells #[.slice B N.length x, .slice B2 m1 y] 25) := ⟨_, rfl⟩
  have B67 : Below w6.heap.size w6 W7 := by rw [hW7]; exact (Below.refl _ _).alloc (Nat.le_refl _) _
  have B47 := chain2 C6.out.below B67
  have B27 := Lib.hid (chain2 B4.out B47)
  have BQ := Lib.hid (show Blk W7 q 25 #[.slice B N.length x, .slice B2 m1 y] by rw [hW7]; exact blk_at hq.symm _ _)
  have H7 := Lib.hid (HI.out.later B27.out)
  have HO := Lib.hid ((C6.out.here ON.out OM.out (by omega) (by omega)).later B67)
  have NC7 := Lib.hid (NC.out.later (Nat.le_refl _) B47)
  have BW7 := Lib.hid (chain2 BW.out B27.out)
  rw [← hW7, ← hq]
  have PC := Lib.hid (fun w' (h : Below W7.heap.size W7 w') => (show w'.cell? ⟨p, 0, none⟩ = some (.slice (some ⟨sB, 0, none⟩) n n) ∧ w'.cell? ⟨p, 1, none⟩ = some (.slice A m cap) ∧ p < w'.heap.size from BC.out _ (chain2 B27.out h)))
  have QC := Lib.hid (fun w' (h : Below W7.heap.size W7 w') => (show w'.cell? ⟨q, 0, none⟩ = some (.slice B N.length x) ∧ w'.cell? ⟨q, 1, none⟩ = some (.slice B2 m1 y) ∧ q < w'.heap.size from ⟨(BQ.out.below h BQ.out.lt).cell 0, (BQ.out.below h BQ.out.lt).cell 1, (BQ.out.below h BQ.out.lt).lt⟩))
  clear hW7 hq B67 B47 x0 x1 x2 CM CM4 NC C6 BX BQ BC HI
  obtain ⟨x0, x1, x2⟩ := PC.out _ (Below.refl _ _)
  obtain ⟨y0, y1, y2⟩ := QC.out _ (Below.refl _ _)
  have e1 : ((N.length : Int) != (N.length : Int)) = false := by simp
  have e2 : ¬ ((m : Int) < (m1 : Int)) := by omega
  go_wp2_with fail
  go_loopw [11] (fun s11 u => WoRel W7 m1 s11 u) (fun s11 _ => m1 - (intOf s11).toNat)
  case atStart => exact ⟨0, by omega, rfl, Below.refl _ _⟩
  case round =>
    clear x0 x1 x2 y0 y1 y2 e1 e2
    obtain ⟨k, hk, rfl, hb⟩ := hrel
    have HB := Lib.hid hb
    obtain ⟨y0, y1, y2⟩ := QC.out _ hb
    obtain ⟨x0, x1, x2⟩ := PC.out _ hb
    clear hb
    by_cases hlt : k < m1
    · have hlo : k < O.arcs.length := by rw [OM.out]; exact hlt
      obtain ⟨b, hbq⟩ : ∃ b, b = O.arcs[k] := ⟨_, rfl⟩
      obtain ⟨f, hf, t, ht, ef, et, hmem⟩ := WF.out.2.2.1 b (by rw [hbq]; exact List.getElem_mem hlo)
      obtain ⟨ab, ao, ea, _, ca⟩ := arcs_at (HO.out.later HB.out).is.arcs (by omega)
      obtain ⟨z0, z1, z2, z3, z4⟩ := ca k hlo
      rw [← hbq] at z0 z1 z2 z3 z4
      rw [ef] at z0
      rw [et] at z1
      obtain ⟨nb, no, en, _, cn⟩ := nats_at (NC7.out.later (Nat.le_refl _) HB.out) (by omega)
      have c0 := cn f hf
      have c1 := cn t ht
      obtain ⟨X, hX⟩ : ∃ X : Nat, X = N[f] := ⟨_, rfl⟩
      obtain ⟨Y, hY⟩ : ∃ Y : Nat, Y = N[t] := ⟨_, rfl⟩
      rw [← hX] at c0 hmem
      rw [← hY] at c1 hmem
      have MEM := Lib.hid hmem
      have EN := Lib.hid en
      have EA := Lib.hid ea
      rw [ea] at y1
      rw [EN.out]
      have k0 : (0 : Int) ≤ (k : Int) := by omega
      have k1 : (k : Int) < (m1 : Int) := by omega
      have f0 : (0 : Int) ≤ (f : Int) := by omega
      have f1 : (f : Int) < (N.length : Int) := by omega
      have t0 : (0 : Int) ≤ (t : Int) := by omega
      have t1 : (t : Int) < (N.length : Int) := by omega
      obtain ⟨lo, hlo2⟩ : ∃ v, v = b.low := ⟨_, rfl⟩
      obtain ⟨cp, hcp⟩ : ∃ v, v = b.cap := ⟨_, rfl⟩
      obtain ⟨co, hco⟩ : ∃ v, v = b.cost := ⟨_, rfl⟩
      rw [← hlo2] at z2 MEM
      rw [← hcp] at z3 MEM
      rw [← hco] at z4 MEM
      clear ca cn en ea hX hY hmem ef et hbq hlo2 hcp hco
      go_wp2_with fail
      obtain ⟨g, hg⟩ : ∃ g, g = wr.heap.size := ⟨_, rfl⟩
      obtain ⟨a, ha⟩ : ∃ a : ArcD, a = ⟨(X : Int), (Y : Int), lo, cp, co⟩ := ⟨_, rfl⟩
      rw [← ha] at MEM
      obtain ⟨Wa, hWa⟩ : ∃ Wa, Wa = wr.alloc (.cells #[.int .i64 (X : Int), .int .i64 (Y : Int), .int .i64 lo, .int .i64 cp, .int .i64 co] 45) := ⟨_, rfl⟩
      have BG : Blk Wa g 45 #[nv a.frm, nv a.to, nv a.low, nv a.cap, nv a.cost] := by rw [hWa, ha]; exact blk_at hg.symm _ _
      have HBa := Lib.hid (show Below W7.heap.size W7 Wa by rw [hWa]; exact HB.out.alloc HB.out.size _)
      rw [← hWa, ← hg]
      have a0 := BG.cell 0
      have a1 := BG.cell 1
      have a2 := BG.cell 2
      have a3 := BG.cell 3
      have a4 := BG.cell 4
      have a5 := BG.lt
      simp at a0 a1 a2 a3 a4
      clear hg ha hWa BG x0 x1 x2 y0 y1 y2 z0 z1 z2 z3 z4 c0 c1
      obtain ⟨x0, x1, x2⟩ := PC.out _ HBa.out
      go_loopw [13, 14] (fun s13 s14 u => FndRel Wa I.arcs a s13 s14 u) (fun _ s14 _ => m - (intOf s14).toNat)
      case atStart => exact ⟨0, 0, by omega, rfl, rfl, rfl⟩
      case round =>
        obtain ⟨j, d, hj, rfl, rfl, rfl⟩ := hrel
        rw [HM.out] at hj
        by_cases hjl : j < m
        · have hja : j < I.arcs.length := by rw [HM.out]; exact hjl
          obtain ⟨ib, io, ei, _, ci⟩ := arcs_at (H7.out.later HBa.out).is.arcs (by omega)
          obtain ⟨w0, w1, w2, w3, w4⟩ := ci j hja
          have FS := Lib.hid (fnd_succ I.arcs a j hja)
          obtain ⟨bb, hbb⟩ : ∃ b, b = I.arcs[j] := ⟨_, rfl⟩
          rw [← hbb] at w0 w1 w2 w3 w4 FS
          have EI := Lib.hid ei
          rw [ei] at x1
          have nq := fun w => eql_arc bb a w
          have j0 : (0 : Int) ≤ (j : Int) := by omega
          have j1 : (j : Int) < (m : Int) := by omega
          obtain ⟨fd, hfd⟩ : ∃ fd, fd = fnd I.arcs a j := ⟨_, rfl⟩
          rw [← hfd] at FS ⊢
          clear ci ei hbb hfd
          cases fd with
          | true =>
            have F2 := Lib.hid (show fnd I.arcs a (j + 1) = true by rw [FS.out]; rfl)
            go_wp2_with fail
            go_quiet (fail)
            go_wp2_with fail
            exact ⟨⟨j + 1, _, by rw [HM.out]; omega, by simp, by rw [F2.out], rfl⟩, by simp [intOf]; omega⟩
          | false =>
            obtain ⟨eq, heq⟩ : ∃ eq, decide (bb = a) = eq := ⟨_, rfl⟩
            rw [heq] at nq FS
            have F2 := Lib.hid (show fnd I.arcs a (j + 1) = eq by rw [FS.out]; rfl)
            clear heq
            go_wp2_with fail
            go_quiet (fail)
            go_wp2_with fail
            exact ⟨⟨j + 1, _, by rw [HM.out]; omega, by simp, by rw [F2.out], rfl⟩, by simp [intOf]; omega⟩
        · obtain rfl : j = m := by omega
          have F2 := fnd_mem I.arcs a MEM.out
          rw [HM.out] at F2
          rw [F2]
          clear F2
          go_wp2_with fail
          exact ⟨⟨k + 1, by omega, by simp, below_drewN HBa.out _⟩, by simp [intOf]; omega⟩
    · obtain rfl : k = m1 := by omega
      go_wp2_with fail
      go_loopw [15] (fun s15 u => WoRel W7 N.length s15 u) (fun s15 _ => N.length - (intOf s15).toNat)
      case atStart => exact ⟨0, by omega, rfl, HB.out⟩
      case round =>
        clear x0 x1 x2 y0 y1 y2 HB
        obtain ⟨t, ht, rfl, hb⟩ := hrel
        have HB := Lib.hid hb
        obtain ⟨y0, y1, y2⟩ := QC.out _ hb
        obtain ⟨x0, x1, x2⟩ := PC.out _ hb
        clear hb
        by_cases hlt : t < N.length
        · have hso : t < O.sup.length := by rw [ON.out]; exact hlt
          obtain ⟨ob, oo, eo, _, co⟩ := nums_at (HO.out.later HB.out).is.sup (by omega)
          have c0 := co t hso
          have ek : O.sup[t] = I.sup.getD N[t] 0 := by
            have e : O.sup[t]? = (N.map fun k => I.sup.getD k 0)[t]? := by rw [WF.out.1]
            rw [List.getElem?_eq_getElem hso, List.getElem?_map, List.getElem?_eq_getElem hlt] at e
            simpa using e
          have kn : N[t] < n := by
            have h := kept_lt ns n t (by rw [← HNK.out]; exact hlt)
            simpa [← HNK.out] using h
          obtain ⟨nb, no, en, _, cn⟩ := nats_at (NC7.out.later (Nat.le_refl _) HB.out) (by omega)
          have c1 := cn t hlt
          obtain ⟨ib, io, ei, _, ci⟩ := nums_at (H7.out.later HB.out).is.sup (by rw [HN.out]; omega)
          cases ei
          have c2 := ci N[t] (by rw [HN.out]; exact kn)
          have es : I.sup[N[t]]'(by rw [HN.out]; exact kn) = I.sup.getD N[t] 0 := by rw [List.getD_eq_getElem?_getD, List.getElem?_eq_getElem (by rw [HN.out]; exact kn)]; rfl
          rw [es, Nat.zero_add] at c2
          rw [ek] at c0
          generalize I.sup.getD N[t] 0 = v at c0 c2
          generalize N[t] = j at c1 c2 kn
          have EN := Lib.hid en
          have EO := Lib.hid eo
          rw [eo] at y0
          rw [EN.out]
          have t0 : (0 : Int) ≤ (t : Int) := by omega
          have t1 : (t : Int) < (N.length : Int) := by omega
          have j0 : (0 : Int) ≤ (j : Int) := by omega
          have j1 : (j : Int) < (n : Int) := by omega
          have vv : (v != v) = false := by simp
          clear co cn ci en eo
          go_wp2_with fail
          go_quiet (fail)
          go_wp2_with fail
          exact ⟨⟨t + 1, by omega, by simp, below_drewN HB.out _⟩, by simp [intOf]; omega⟩
        · obtain rfl : t = N.length := by omega
          have t1 : ¬ ((N.length : Int) < (N.length : Int)) := by omega
          have PC9 := Lib.hid (fun w' (h : Below wr.heap.size wr w') => PC.out _ (chain2 HB.out h))
          have QC9 := Lib.hid (fun w' (h : Below wr.heap.size wr w') => QC.out _ (chain2 HB.out h))
          have HI9 := Lib.hid (H7.out.later HB.out)
          have HO9 := Lib.hid (HO.out.later HB.out)
          have BW9 := Lib.hid (chain2 BW7.out HB.out)
          have in0 : withoutD I [] [] = I := without_none I HIN.out (by rw [HN.out]; omega) (by rw [HM.out]; omega)
          have WI := Lib.hid (fun w' (h : SS wr p q (.slice (some ⟨sB, 0, none⟩) n n) (.slice A m cap) (.slice B N.length x) (.slice B2 k y) w') => (HI9.out.later h.2.2.2.2).without n cap none none 0 0 0 0 [] [] I in0 rfl rfl (row_nil _ _) (row_nil _ _))
          have WO := Lib.hid (fun w' (h : SS wr p q (.slice (some ⟨sB, 0, none⟩) n n) (.slice A m cap) (.slice B N.length x) (.slice B2 k y) w') => (HO9.out.later h.2.2.2.2).without x y none none 0 0 0 0 [] [] O WF.out.2.2.2.1 rfl rfl (row_nil _ _) (row_nil _ _))
          rw [HN.out, HM.out] at WI
          rw [ON.out, OM.out] at WO
          have SI := Lib.hid (fun w' (h : SS wr p q (.slice (some ⟨sB, 0, none⟩) n n) (.slice A m cap) (.slice B N.length x) (.slice B2 k y) w') D D2 c1 c2 (g : Here w' D D2 n m I) => g.same (HI9.out.later h.2.2.2.2) c1 c2 n cap true (decide_eq_true rfl))
          have SO := Lib.hid (fun w' (h : SS wr p q (.slice (some ⟨sB, 0, none⟩) n n) (.slice A m cap) (.slice B N.length x) (.slice B2 k y) w') D D2 c1 c2 (g : Here w' D D2 N.length k O) => g.same (HO9.out.later h.2.2.2.2) c1 c2 x y true (decide_eq_true rfl))
          obtain ⟨a1, ha1⟩ : ∃ a, spanD O = a := ⟨_, rfl⟩
          obtain ⟨a2, ha2⟩ : ∃ a, spanD I = a := ⟨_, rfl⟩
          have PO := Lib.hid (fun w' (h : SS wr p q (.slice (some ⟨sB, 0, none⟩) n n) (.slice A m cap) (.slice B N.length x) (.slice B2 k y) w') => (HO9.out.later h.2.2.2.2).span x y a1 ha1)
          have PI := Lib.hid (fun w' (h : SS wr p q (.slice (some ⟨sB, 0, none⟩) n n) (.slice A m cap) (.slice B N.length x) (.slice B2 k y) w') => (HI9.out.later h.2.2.2.2).span n cap a2 ha2)
          have le : a1 ≤ a2 := by rw [← ha1, ← ha2]; exact WF.out.2.2.2.2.1
          have HH := Lib.hid (fun (w' u : World) D D2 c1 c2 (h : Copied w' u (.slice D n c1) (.slice D2 m c2) n m I) => h.here HN.out HM.out (by omega) (by omega))
          have HQ := Lib.hid (fun (w' u : World) D D2 c1 c2 (h : Copied w' u (.slice D N.length c1) (.slice D2 k c2) N.length k O) => h.here ON.out OM.out (by omega) (by omega))
          clear ha1 ha2 in0 WF H7 HO HI9 HO9 NC7
          go_upto_region 27 with fail
          clear x0 x1 x2 y0 y1 y2
          obtain ⟨x0, x1, x2⟩ := PC9.out _ (Below.refl _ _)
          obtain ⟨y0, y1, y2⟩ := QC9.out _ (Below.refl _ _)
          go_wp2_with fail
          go_region_held3 (fun u => u.cell? ⟨p, 0, none⟩ = some (.slice (some ⟨sB, 0, none⟩) n n) ∧ u.cell? ⟨p, 1, none⟩ = some (.slice A m cap) ∧ u.cell? ⟨q, 0, none⟩ = some (.slice B N.length x) ∧ u.cell? ⟨q, 1, none⟩ = some (.slice B2 k y) ∧ Below wr.heap.size wr u)
            (first | exact ⟨x0, x1, y0, y1, (Below.refl _ _).drew⟩ | exact keep4 x2 y2 ⟨x0, x1, y0, y1, (Below.refl _ _).drew⟩ hb | exact keep4 x2 y2 (by assumption) hb)
            (first
              | (go_at_call 11; (refine (KW.out _).mono ?_); rintro e wn ⟨rfl, hb⟩)
              | (go_at_call 22; (with_reducible refine (WI.out _ (by assumption)).mono ?_); rintro e wa ⟨D, c1, D2, c2, rfl, hc⟩; have hb := hc.below; have H2 := Lib.hid (HH.out _ _ _ _ _ _ hc); clear hc)
              | (go_at_call 22; (with_reducible refine (WO.out _ (by assumption)).mono ?_); rintro e wc ⟨D3, c3, D4, c4, rfl, hc⟩; have hb := hc.below; have H4 := Lib.hid (HQ.out _ _ _ _ _ _ hc); clear hc)
              | (go_at_call 23; (with_reducible refine (SI.out _ (by assumption) _ _ _ _ H2.out).mono ?_); rintro e wb ⟨rfl, hb⟩)
              | (go_at_call 23; (with_reducible refine (SO.out _ (by assumption) _ _ _ _ H4.out).mono ?_); rintro e wd ⟨rfl, hb⟩)
              | (go_at_call 24; (with_reducible refine (PO.out _ (by assumption)).mono ?_); rintro e we ⟨rfl, hb⟩)
              | (go_at_call 24; (with_reducible refine (PI.out _ (by assumption)).mono ?_); rintro e wf ⟨rfl, hb⟩))
          all_goals
            rename_i hs
            have H9 := Lib.hid (show Below wr.heap.size wr _ from hs.2.2.2.2)
            clear hs
            go_wp2_with fail
            go_ret
            exact ⟨rfl, chain2 BW9.out H9.out⟩
end Go.Proofs.Ytekjbpdfginplaa.Inst
