/- The laws' own helpers: an instance by choices. -/
import Derived.Test.YtajckihgfelbaaaInstP
import Derived.Test.YtajckihgfelbaaaInstG
import Derived.Deep.DeepCutAuto
import Derived.Laws.MakeOwn
namespace Go.Proofs.Ytajckihgfelbaaa.Inst
open Go.RowKit
set_option maxRecDepth 100000

/-- What an instance made so looks like: its own row of supplies, its own row of arcs. -/
structure Made (w u : World) (sB : Nat) (aV : Value) (sup : List Int) (arcs : List ArcD) : Prop where
  sup : Blk u sB 2 (numV sup).toArray
  arcs : u.ownsRow w.heap.size 36 5 aV arcs.length (arcV arcs)
  far : aV.ownBlock ≠ some sB
  new : w.heap.size ≤ sB
  below : Below w.heap.size w u

/-- What the region that makes the instance leaves. -/
structure Mid (w u : World) (n : Nat) (sup : List Int) (arcs : List ArcD) (sB g : Nat) (aV : Value) : Prop where
  made : Made w u sB aV sup arcs
  box : Blk u g 25 #[.slice (some ⟨sB, 0, none⟩) n n, aV]
  res : Blk u w.heap.size 25 #[.slice none 0 0, .slice none 0 0]
  g1 : w.heap.size < g
  s1 : w.heap.size < sB
  gs : g ≠ sB
  ag : aV.ownBlock ≠ some g
  ar : aV.ownBlock ≠ some w.heap.size


theorem info_i64 : (Try.prog.info? 2).map (fun i => (i.zero, i.size, i.bytes)) = some (some (.int .i64 0), 1, 8) := by kernel_rfl
theorem zeros_eq (n : Nat) : madeCells #[Value.int .i64 0] n = (numV (List.replicate n 0)).toArray := by
  apply Array.ext'
  rw [toList_madeCells_one]
  simp [numV]
theorem make_any (n : Nat) (hn : n ≤ 1000) (W : World) : (Instr.makeSlice 22 (.int .i64 (n : Int)) (.int .i64 (n : Int))).run Try.prog W = .ok (.slice (some ⟨W.heap.size, 0, none⟩) n n) (W.alloc (.cells (numV (List.replicate n 0)).toArray 2)) := by
  obtain ⟨i0, hi0, hz0, hz1, hz2⟩ := info_parts info_i64
  have h := run_make (P := Try.prog) W 22 2 i0 (.int .i64 0) Try.underlying22 hi0 hz0 .i64 .i64 (n : Int) (n : Int) (by omega) (by omega) (by rw [hz2]; omega) (by omega)
  rw [h, hz1, Int.toNat_natCast, Nat.mul_one]
  congr 3
  exact zeros_eq n

theorem after_call {w W1 w' : World} {v : Value} {m sz : Nat} {e t : TypeId} {vs : List Value} {R : Array Value} (h0 : Below w.heap.size w W1) (hr : Blk W1 w.heap.size t R) (hb : Below W1.heap.size W1 w') (ho : w'.ownsRow W1.heap.size e sz v m vs) :
    Below w.heap.size w w' ∧ Blk w' w.heap.size t R ∧ w'.ownsRow w.heap.size e sz v m vs ∧ ∀ k, v.ownBlock = some k → W1.heap.size ≤ k ∧ k < w'.heap.size :=
  ⟨chain2 h0 hb, hr.below hb hr.lt, own_base ho h0.size, fun k hk => ⟨own_ge ho k hk, own_lt ho k hk⟩⟩
theorem mid_mk {w u : World} {n m cap : Nat} {A : Option Addr} {sup : List Int} {arcs : List ArcD} {sB g : Nat} (hm : m = arcs.length) (hB : Below w.heap.size w u) (hr : Blk u w.heap.size 25 #[.slice none 0 0, .slice none 0 0]) (hx : Blk u g 25 #[.slice (some ⟨sB, 0, none⟩) n n, .slice A m cap])
    (hs : Blk u sB 2 (numV sup).toArray) (ho : u.ownsRow w.heap.size 36 5 (.slice A m cap) m (arcV arcs)) (g1 : w.heap.size < g) (s1 : w.heap.size < sB) (gs : g ≠ sB) (ha : ∀ k, (Value.slice A m cap).ownBlock = some k → k ≠ g ∧ k ≠ sB ∧ k ≠ w.heap.size) :
    ∃ g' sB' aV, Value.pointer (some ⟨g, 0, none⟩) = .pointer (some ⟨g', 0, none⟩) ∧ Mid w u n sup arcs sB' g' aV := by
  subst hm
  exact ⟨g, sB, _, rfl, ⟨⟨hs, ho, fun e => (ha _ e).2.1 rfl, by omega, hB⟩, hx, hr, g1, s1, gs, fun e => (ha _ e).1 rfl, fun e => (ha _ e).2.2 rfl⟩⟩

theorem Mid.alloc {w u : World} {n sB g : Nat} {sup : List Int} {L : List ArcD} {aV : Value} (h : Mid w u n sup L sB g aV) (o : Obj) : Mid w (u.alloc o) n sup L sB g aV :=
  ⟨⟨h.made.sup.alloc o, h.made.arcs.alloc o, h.made.far, h.made.new, h.made.below.alloc h.made.below.size o⟩, h.box.alloc o, h.res.alloc o, h.g1, h.s1, h.gs, h.ag, h.ar⟩
theorem Mid.drew {w u : World} {n sB g : Nat} {sup : List Int} {L : List ArcD} {aV : Value} (h : Mid w u n sup L sB g aV) : Mid w u.drew n sup L sB g aV :=
  ⟨⟨h.made.sup.drew, h.made.arcs.drew, h.made.far, h.made.new, h.made.below.drew⟩, h.box.drew, h.res.drew, h.g1, h.s1, h.gs, h.ag, h.ar⟩
theorem numV_bump (s : List Int) (i : Nat) (x : Int) : (numV s).toArray.setIfInBounds i (nv (s.getD i 0 + x)) = (numV (bump s i x)).toArray := by
  unfold numV bump
  rw [List.setIfInBounds_toArray, List.map_set]
theorem Mid.bump {w u : World} {n sB g : Nat} {sup : List Int} {L : List ArcD} {aV : Value} (h : Mid w u n sup L sB g aV) (i : Nat) (x y : Int) (hy : y = sup.getD i 0 + x) : Mid w (u.setCell ⟨sB, i, none⟩ (nv y)) n (Inst.bump sup i x) L sB g aV := by
  subst hy
  refine ⟨⟨?_, own_far h.made.arcs h.made.far _, h.made.far, h.made.new, h.made.below.setCell h.made.new _⟩, h.box.far h.gs _, h.res.far (by have := h.s1; show _ ≠ sB; omega) _, h.g1, h.s1, h.gs, h.ag, h.ar⟩
  rw [← numV_bump]
  exact h.made.sup.set_ i _
theorem bump_same (s : List Int) (i : Nat) (x : Int) (hi : i < s.length) : (Inst.bump s i x).getD i 0 = s.getD i 0 + x := by
  simp [Inst.bump, hi]
theorem bump_other (s : List Int) (i j : Nat) (x : Int) (e : i ≠ j) : (Inst.bump s i x).getD j 0 = s.getD j 0 := by
  simp [Inst.bump, e]
theorem sup_step {d : List Nat} {n : Nat} {L : List ArcD} {k f t : Nat} {al ac ak X : Int} (h : arcAt L k = ⟨f, t, al, ac, ak⟩) (hx : xC d k ⟨f, t, al, ac, ak⟩ = X) : supN d n L (k + 1) = Inst.bump (Inst.bump (supN d n L k) f X) t (-X) := by
  rw [supN, h, stepC, hx]
  rfl
theorem sup_cell {w u : World} {n sB g : Nat} {sup : List Int} {L : List ArcD} {aV : Value} (h : Mid w u n sup L sB g aV) (i : Nat) (hi : i < sup.length) : u.cell? ⟨sB, i, none⟩ = some (nv (sup.getD i 0)) := by
  rw [h.made.sup.cell i]
  simp [numV, hi]
theorem Mid.done {w u : World} {n sB g : Nat} {sup : List Int} {L : List ArcD} {aV : Value} (h : Mid w u n sup L sB g aV) (v0 v1 : Value) : Made w ((u.setCell ⟨w.heap.size, 0, none⟩ v0).setCell ⟨w.heap.size, 1, none⟩ v1) sB aV sup L :=
  ⟨(h.made.sup.far (by have := h.s1; show sB ≠ w.heap.size; omega) _).far (by have := h.s1; show sB ≠ w.heap.size; omega) _, own_far (own_far h.made.arcs h.ar _) h.ar _, h.made.far, h.made.new, (h.made.below.setCell (Nat.le_refl _) _).setCell (Nat.le_refl _) _⟩
theorem Mid.row {w u : World} {n sB g : Nat} {sup : List Int} {L : List ArcD} {aV : Value} (h : Mid w u n sup L sB g aV) (v0 v1 : Value) : ((u.setCell ⟨w.heap.size, 0, none⟩ v0).setCell ⟨w.heap.size, 1, none⟩ v1).heap[w.heap.size]? = some (.cells #[v0, v1] 25 (0, 0)) :=
  (h.res.set_ 0 v0).set_ 1 v1
theorem size_inst : (Try.prog.info? 25).map (·.size) = some 2 := by kernel_rfl
theorem inst_eq {c d : List Nat} {n : Nat} {L : List ArcD} (hn : n = nodesC d) (hL : L = arcsC n c) : (instC c d).sup = moreC d (supN d n L L.length) ∧ (instC c d).arcs = L := by
  subst hn
  subst hL
  exact ⟨rfl, rfl⟩
/-- At the head of the loop. -/
def InstRel (w : World) (n : Nat) (d : List Nat) (L : List ArcD) (sB g : Nat) (aV s7 : Value) (u : World) : Prop :=
  ∃ k : Nat, k ≤ L.length ∧ s7 = .int .i64 (k : Int) ∧ Mid w u n (supN d n L k) L sB g aV

theorem arcs_eq (a : Option Addr) (cc : Nat) (c : List Nat) (hc : Octs c) (hl : c.length ≤ 9223372036854775800) (m : Int) (many : Nat) (hm : m = many) (h1 : 1 ≤ many) (h7 : many ≤ 7) (w : World) (ha : Cells w w.heap.size a (octV c)) :
    Calls Try.prog 24 #[.slice a c.length cc, .int .i64 m] w fun e w' => ∃ v, e = .returned v ∧ w'.ownsRow w.heap.size 36 5 v (arcsC many c).length (arcV (arcsC many c)) ∧ Below w.heap.size w w' := by
  subst hm
  exact arcs_any a cc c hc hl many h1 h7 w ha

set_option maxRecDepth 100000 in
set_option maxHeartbeats 4000000 in
theorem inst_any (a b : Option Addr) (cc cd : Nat) (c d : List Nat) (hc : Octs c) (hd : Octs d) (hl : c.length ≤ 9223372036854775800) (hld : d.length ≤ 9223372036854775800) (w : World) (ha : Cells w w.heap.size a (octV c)) (hb : Cells w w.heap.size b (octV d)) :
    Calls Try.prog 10 #[.slice a c.length cc, .slice b d.length cd] w fun e w' => ∃ sB aV, e = .returned (.agg #[.slice (some ⟨sB, 0, none⟩) (nodesC d) (nodesC d), aV]) ∧ Made w w' sB aV (instC c d).sup (instC c d).arcs := by
  have HA := Lib.hid ha
  have HD := Lib.hid hb
  have HC := Lib.hid hc
  have OD := Lib.hid hd
  clear ha hb hc hd
  go_enter Try.func10, Try.ntmps10
  go_upto_if 13 with fail
  go_cut [5] (fun s5 wx => s5 = .int .i64 (nodesC d : Int) ∧ wx = w.alloc (.cells #[.slice none 0 0, .slice none 0 0] 25))
  case first =>
    by_cases h0 : 0 < d.length
    · obtain ⟨db, doff, eb, lb, cb⟩ := octs_at HD.out h0
      have g0 : w.cell? ⟨db, doff, none⟩ = _ := cb 0 h0
      have l0 := at0_lt OD.out 0
      have E := Lib.hid (show ((nodesC d : Nat) : Int) = 1 + (at0 d 0 : Int) % 7 by unfold nodesC; rw [if_pos h0]; omega)
      generalize at0 d 0 = x0 at g0 l0 E
      subst eb
      clear cb
      go_wp2_with fail
      go_meet
      case rel => exact ⟨by rw [E.out], rfl⟩
    · have E := Lib.hid (show ((nodesC d : Nat) : Int) = 1 by unfold nodesC; rw [if_neg h0]; rfl)
      have e0 : d.length = 0 := by omega
      go_wp2_with fail
      go_meet
      case rel => exact ⟨by rw [E.out], rfl⟩
  case rest =>
    obtain ⟨rfl, rfl⟩ := hcut
    have nb := nodesC_bd d
    obtain ⟨n, hn⟩ : ∃ n, n = nodesC d := ⟨_, rfl⟩
    have HN := Lib.hid hn
    rw [← hn] at nb ⊢
    clear hn
    go_upto_region 4 with fail
    have hmk := make_any n (by omega)
    obtain ⟨Z, hZ⟩ : ∃ Z, Z = (numV (List.replicate n 0)).toArray := ⟨_, rfl⟩
    rw [← hZ] at hmk
    have HZ := Lib.hid hZ
    clear hZ
    go_cut [6] (fun s6 wx => ∃ g sB aV, s6 = .pointer (some ⟨g, 0, none⟩) ∧ Mid w wx n (List.replicate n 0) (arcsC n c) sB g aV)
    case first =>
      go_region_with (go_at_call 24; (refine (arcs_any a cc c HC.out hl n nb.1 nb.2 _ (HA.out.later (Nat.le_refl _) ?bb)).mono ?_); (case bb => (repeat (first | exact Below.refl _ _ | refine Below.drew ?_ | refine Below.alloc ?_ (by simp <;> omega) _))); rintro e w' ⟨v, rfl, ho, hb⟩; obtain ⟨-, A, cap, rfl, -, -, -⟩ := own_cells ho; obtain ⟨bc, bf⟩ := bcell hb; have HO := Lib.hid (after_call (w := w) (t := 25) (R := #[.slice none 0 0, .slice none 0 0]) (by (repeat (first | exact Below.refl _ _ | refine Below.drew ?_ | refine Below.alloc ?_ (by simp <;> omega) _))) (by (repeat (first | exact Blk.new _ _ _ | refine Blk.drew ?_ | refine Blk.alloc ?_ _))) hb ho); have HB := Lib.hid hb; have hz := hb.size; (try simp at hz); (try have hz2 : w.heap.size + 1 < w'.heap.size := by omega); (try have hz3 : w.heap.size + 1 ≠ w'.heap.size := by omega); (try simp at bc); (try simp at bf); clear ho hb)
      · go_wp2_with fail
        go_meet
        case rel =>
          obtain ⟨b0, r0, o0, k0⟩ := HO.out
          refine mid_mk rfl (b0.alloc (by omega) _) (r0.alloc _) (Blk.new _ _ _) ?_ (o0.alloc _) (by omega) (by omega) (by omega) (fun k hk => by have := k0 k hk; simp at this; omega)
          rw [← HZ.out]
          exact ((blk_at (by simp) _ _).drew.below HB.out (by simp)).alloc _
      · go_wp2_with fail
        go_meet
        case rel =>
          obtain ⟨b0, r0, o0, k0⟩ := HO.out
          refine mid_mk rfl ((b0.setCell (by simp <;> omega) _).setCell (by simp <;> omega) _) (((r0).far (by simp <;> omega) _).far (by simp <;> omega) _) ((((blk_at (by simp) _ _).drew.below HB.out (by simp)).set_ 0 _).set_ 1 _) ?_ (own_far (own_far o0 (fun e => by have := k0 _ e; simp at this; omega) _) (fun e => by have := k0 _ e; simp at this; omega) _) (by omega) (by omega) (by omega) (fun k hk => by have := k0 k hk; simp at this; omega)
          rw [← HZ.out]
          exact ((((blk_at (by simp) _ _).alloc _).drew.below HB.out (by simp)).far (by simp <;> omega) _).far (by simp <;> omega) _
      · go_wp2_with fail
        go_meet
        case rel =>
          obtain ⟨b0, r0, o0, k0⟩ := HO.out
          refine mid_mk rfl ((b0.alloc (by omega) _).alloc (by simp <;> omega) _) ((r0.alloc _).alloc _) (blk_at (by simp) _ _) ?_ ((o0.alloc _).alloc _) (by omega) (by omega) (by omega) (fun k hk => by have := k0 k hk; simp at this; omega)
          rw [← HZ.out]
          exact (Blk.new _ _ _).alloc _
      · go_wp2_with fail
        go_meet
        case rel =>
          obtain ⟨b0, r0, o0, k0⟩ := HO.out
          refine mid_mk rfl ((b0.alloc (by omega) _).alloc (by simp <;> omega) _) ((r0.alloc _).alloc _) ((Blk.new _ _ _).alloc _) ?_ ((o0.alloc _).alloc _) (by omega) (by omega) (by omega) (fun k hk => by have := k0 k hk; simp at this; omega)
          rw [← HZ.out]
          exact blk_at (by simp) _ _
      · go_wp2_with fail
        go_meet
        case rel =>
          obtain ⟨b0, r0, o0, k0⟩ := HO.out
          refine mid_mk rfl ((b0.setCell (by simp <;> omega) _).setCell (by simp <;> omega) _) (((r0).far (by simp <;> omega) _).far (by simp <;> omega) _) (((((blk_at (by simp) _ _).alloc _).drew.below HB.out (by simp)).set_ 0 _).set_ 1 _) ?_ (own_far (own_far o0 (fun e => by have := k0 _ e; simp at this; omega) _) (fun e => by have := k0 _ e; simp at this; omega) _) (by omega) (by omega) (by omega) (fun k hk => by have := k0 k hk; simp at this; omega)
          rw [← HZ.out]
          exact (((blk_at (by simp) _ _).drew.below HB.out (by simp)).far (by simp <;> omega) _).far (by simp <;> omega) _
      · go_wp2_with fail
        go_meet
        case rel =>
          obtain ⟨b0, r0, o0, k0⟩ := HO.out
          refine mid_mk rfl (((b0.setCell (by simp <;> omega) _).setCell (by simp <;> omega) _).alloc (by simp <;> omega) _) ((((r0).far (by simp <;> omega) _).far (by simp <;> omega) _).alloc _) (((((blk_at (by simp) _ _).drew.below HB.out (by simp)).set_ 0 _).set_ 1 _).alloc _) ?_ ((own_far (own_far o0 (fun e => by have := k0 _ e; simp at this; omega) _) (fun e => by have := k0 _ e; simp at this; omega) _).alloc _) (by omega) (by omega) (by omega) (fun k hk => by have := k0 k hk; simp at this; omega)
          rw [← HZ.out]
          exact blk_at (by simp) _ _
    case rest =>
      obtain ⟨g, sB, aV, rfl, M⟩ := hcut
      obtain ⟨L, hL⟩ : ∃ L, L = arcsC n c := ⟨_, rfl⟩
      have ok := arcAt_ok n c (by omega)
      have LM : L.length ≤ 18 := by rw [hL, arcsC_length]; omega
      have SB := supN_bd d c n (by omega)
      rw [← hL] at M ok SB
      have OK := Lib.hid ok
      have SBD := Lib.hid SB
      have HL := Lib.hid hL
      obtain ⟨-, A, cap, rfl, hc1, hc2, -⟩ := own_cells M.made.arcs
      have HM := Lib.hid M
      have bx0 := M.box.cell 0
      have bx1 := M.box.cell 1
      clear M ok SB hL
      go_wp2_with fail
      go_loopw [7] (fun s7 u => InstRel w n d L sB g (.slice A L.length cap) s7 u) (fun s7 _ => L.length - (intOf s7).toNat)
      case atStart => exact ⟨0, by omega, rfl, HM.out⟩
      case round =>
        obtain ⟨k, hk, rfl, M⟩ := hrel
        have KM := Lib.hid M
        have bx0 := M.box.cell 0
        have bx1 := M.box.cell 1
        simp at bx0 bx1
        by_cases hlt : k < L.length
        · obtain ⟨-, A', cap', ea', -, -, hcells⟩ := own_cells M.made.arcs
          cases ea'
          obtain ⟨ab, off, ea, lb, ca⟩ := arcs_at hcells (by omega)
          have c0 := ca k hlt
          have ok := OK.out k hlt
          have ea2 : arcAt L k = L[k] := by unfold arcAt; rw [List.getD_eq_getElem?_getD, List.getElem?_eq_getElem hlt]; rfl
          rw [ea2] at ok
          obtain ⟨x, hx⟩ : ∃ x, x = L[k] := ⟨_, rfl⟩
          rw [← hx] at ok ea2 c0
          obtain ⟨af, ao, al, ac, ak⟩ := x
          obtain ⟨q0, q1, q2, q3, q4⟩ := c0
          obtain ⟨o0, o1, o2, o3, o4, o5, o6, o7, -, -⟩ := ok
          simp only at q0 q1 q2 q3 q4 o0 o1 o2 o3 o4 o5 o6 o7
          obtain ⟨f, rfl⟩ : ∃ f : Nat, af = f := ⟨af.toNat, by omega⟩
          obtain ⟨t, rfl⟩ : ∃ t : Nat, ao = t := ⟨ao.toNat, by omega⟩
          have f1 : f < n := by omega
          have t1 : t < n := by omega
          have z1 : (supN d n L k).length = n := supN_length _ _ _ _
          have y0 := sup_cell M f (by omega)
          have y1 := sup_cell M t (by omega)
          have y2 := M.made.sup.frozen f
          have y3 := M.made.sup.frozen t
          have b0 := (SBD.out k hk).get (by omega) f
          have b1 := (SBD.out k hk).get (by omega) t
          have lt0 := M.made.sup.lt
          have lt1 := M.box.lt
          have ne0 := M.gs
          have E2 := Lib.hid ea2
          have EA := Lib.hid ea
          rw [ea] at bx1
          obtain ⟨sf, hsf⟩ : ∃ x, x = (supN d n L k).getD f 0 := ⟨_, rfl⟩
          obtain ⟨st, hst⟩ : ∃ x, x = (supN d n L k).getD t 0 := ⟨_, rfl⟩
          rw [← hsf] at y0 b0
          rw [← hst] at y1 b1
          have HF := Lib.hid hsf
          have HT := Lib.hid hst
          have hfr : -180 ≤ sf ∧ sf ≤ 180 := by omega
          have htr : -180 ≤ st ∧ st ≤ 180 := by omega
          have KK : k ≤ 17 := by omega
          obtain ⟨x7, x8⟩ := hfr
          obtain ⟨x9, x10⟩ := htr
          clear hsf hst hx ca ea ea2 M hmk b0 b1 z1 hcells hc1 hc2
          by_cases hd : k + 1 < d.length
          · obtain ⟨db, doff, eb, lb2, cb⟩ := octs_at (HD.out.later (Nat.le_refl _) KM.out.made.below) (by omega)
            have g0 := cb (k + 1) hd
            have l0 := at0_lt OD.out (k + 1)
            obtain ⟨y, hy⟩ : ∃ y, y = at0 d (k + 1) := ⟨_, rfl⟩
            rw [← hy] at g0 l0
            have HY := Lib.hid hy
            have EB := Lib.hid eb
            rw [EB.out]
            clear eb hy cb
            have hd1 : ((k : Int) + 1 < (d.length : Int)) := by omega
            have XE := Lib.hid (show xC d k ⟨f, t, al, ac, ak⟩ = min (al + (y : Int) % 4) ac by unfold xC; rw [if_pos hd, HY.out]; simp)
            by_cases e : f = t
            · subst e
              go_wp2_with fail
              go_region
              go_wp2_with fail
              exact ⟨⟨k + 1, by omega, by simp, by rw [sup_step E2.out XE.out]; exact (((KM.out.bump f _ _ (by have := HF.out; split <;> omega)).bump f _ _ (by rw [bump_same _ _ _ (by rw [supN_length]; omega)]; have := HF.out; omega)).alloc _).drew⟩, by simp [intOf]; omega⟩
            · have e' : t ≠ f := fun q => e q.symm
              go_wp2_with fail
              go_region
              go_wp2_with fail
              exact ⟨⟨k + 1, by omega, by simp, by rw [sup_step E2.out XE.out]; exact (((KM.out.bump f _ _ (by have := HF.out; split <;> omega)).bump t _ _ (by rw [bump_other _ _ _ _ e]; have := HT.out; split <;> omega)).alloc _).drew⟩, by simp [intOf]; omega⟩
          · have hd1 : ¬ ((k : Int) + 1 < (d.length : Int)) := by omega
            have XE := Lib.hid (show xC d k ⟨f, t, al, ac, ak⟩ = al by unfold xC; rw [if_neg hd])
            by_cases e : f = t
            · subst e
              go_wp2_with fail
              exact ⟨⟨k + 1, by omega, by simp, by rw [sup_step E2.out XE.out]; exact (((KM.out.bump f _ _ (by have := HF.out; omega)).bump f _ _ (by rw [bump_same _ _ _ (by rw [supN_length]; omega)]; have := HF.out; omega)).alloc _)⟩, by simp [intOf]; omega⟩
            · have e' : t ≠ f := fun q => e q.symm
              go_wp2_with fail
              exact ⟨⟨k + 1, by omega, by simp, by rw [sup_step E2.out XE.out]; exact (((KM.out.bump f _ _ (by have := HF.out; omega)).bump t _ _ (by rw [bump_other _ _ _ _ e]; have := HT.out; omega)).alloc _)⟩, by simp [intOf]; omega⟩
        · obtain rfl : k = L.length := by omega
          have IE := Lib.hid (inst_eq HN.out HL.out)
          have fin : ∀ (e : Ending) (u : World) (S : List Int) (v0 v1 : Value), Mid w u n S L sB g (.slice A L.length cap) → moreC d (supN d n L L.length) = S → e = .returned (.agg #[.slice (some ⟨sB, 0, none⟩) n n, .slice A L.length cap]) →
              ∃ sB aV, e = .returned (.agg #[.slice (some ⟨sB, 0, none⟩) (nodesC d) (nodesC d), aV]) ∧ Made w ((u.setCell ⟨w.heap.size, 0, none⟩ v0).setCell ⟨w.heap.size, 1, none⟩ v1) sB aV (instC c d).sup (instC c d).arcs := by
            intro e u S v0 v1 m hs he
            refine ⟨sB, .slice A L.length cap, ?_, ?_⟩
            · rw [he, ← HN.out]
            · rw [IE.out.1, IE.out.2, hs]; exact m.done _ _
          have FIN := Lib.hid fin
          have rz0 := M.res.cell 0
          have rz1 := M.res.cell 1
          have rf0 := M.res.frozen 0
          have rf1 := M.res.frozen 1
          simp at rz0 rz1
          have lt0 := M.made.sup.lt
          have lt1 := M.box.lt
          have lt2 := M.res.lt
          have ne0 := M.gs
          have ne1 : sB ≠ w.heap.size := by have := M.s1; omega
          have ne2 : g ≠ w.heap.size := by have := M.g1; omega
          clear hmk fin M
          by_cases m1 : 1 < d.length
          · obtain ⟨db, doff, eb, lb2, cb⟩ := octs_at (HD.out.later (Nat.le_refl _) KM.out.made.below) (by omega)
            have g0 := cb (d.length - 1) (by omega)
            have g1 := cb 1 m1
            have l0 := at0_lt OD.out (d.length - 1)
            have l1 := at0_lt OD.out 1
            have q1 : ((d.length : Int) - 1) = ((d.length - 1 : Nat) : Int) := by omega
            have MC := Lib.hid (show moreC d (supN d n L L.length) = if at0 d (d.length - 1) % 5 = 0 then bump (bump (supN d n L L.length) 0 (at0 d 1 % 3 : Nat)) ((supN d n L L.length).length - 1) (-((at0 d 1 % 3 : Nat) : Int)) else supN d n L L.length by unfold moreC; simp [m1])
            rw [supN_length] at MC
            obtain ⟨l, hl2⟩ : ∃ l, l = d.length - 1 := ⟨_, rfl⟩
            have l9 : l < d.length := by omega
            rw [← hl2] at g0 l0 q1 MC
            generalize at0 d l = y0 at g0 l0 MC
            generalize at0 d 1 = y1 at g1 l1 MC
            have EB := Lib.hid eb
            rw [EB.out]
            clear eb cb hl2
            have m3 : (1 : Int) < (d.length : Int) := by omega
            by_cases m2 : y0 % 5 = 0
            · have t0 : ((y0 : Int) % 5 == 0) = true := by rw [beq_iff_eq]; omega
              rw [if_pos m2] at MC
              have M2 := Lib.hid m2
              clear m2
              obtain ⟨p, hp⟩ : ∃ p, p = n - 1 := ⟨_, rfl⟩
              have p1 : p < n := by omega
              have p2 : (n : Int) - 1 = (p : Int) := by omega
              have HP := Lib.hid hp
              rw [← hp] at MC
              clear hp
              have z1 : (supN d n L L.length).length = n := supN_length _ _ _ _
              have y0s := sup_cell KM.out 0 (by omega)
              have y1s := sup_cell KM.out p (by omega)
              have y2s := KM.out.made.sup.frozen 0
              have y3s := KM.out.made.sup.frozen p
              have b0 := (SBD.out L.length hk).get (by omega) 0
              have b1 := (SBD.out L.length hk).get (by omega) p
              obtain ⟨sf, hsf⟩ : ∃ x, x = (supN d n L L.length).getD 0 0 := ⟨_, rfl⟩
              obtain ⟨st, hst⟩ : ∃ x, x = (supN d n L L.length).getD p 0 := ⟨_, rfl⟩
              rw [← hsf] at y0s b0
              rw [← hst] at y1s b1
              have HF := Lib.hid hsf
              have HT := Lib.hid hst
              have hfr : -180 ≤ sf ∧ sf ≤ 180 := by omega
              have htr : -180 ≤ st ∧ st ≤ 180 := by omega
              obtain ⟨x7, x8⟩ := hfr
              obtain ⟨x9, x10⟩ := htr
              clear hsf hst b0 b1 z1
              by_cases e : p = 0
              · subst e
                go_wp2_with fail
                have MM := ((KM.out.bump 0 ((y1 % 3 : Nat) : Int) (sf + (y1 : Int) % 3) (by have := HF.out; omega)).bump 0 (-((y1 % 3 : Nat) : Int)) sf (by rw [bump_same _ _ _ (by rw [supN_length]; omega)]; have := HF.out; omega))
                refine bodyPost_ret (v := .agg #[.slice (some ⟨sB, 0, none⟩) n n, .slice A L.length cap]) ?_ rfl (FIN.out _ _ _ _ _ MM MC.out rfl)
                exact results_cell_row rfl _ _ _ _ _ _ _ rfl (MM.row _ _) Try.underlying25 rfl size_inst
              · have e' : (0 : Nat) ≠ p := fun q => e q.symm
                go_wp2_with fail
                have MM := ((KM.out.bump 0 ((y1 % 3 : Nat) : Int) (sf + (y1 : Int) % 3) (by have := HF.out; omega)).bump p (-((y1 % 3 : Nat) : Int)) (st - (y1 : Int) % 3) (by rw [bump_other _ _ _ _ e']; have := HT.out; omega))
                refine bodyPost_ret (v := .agg #[.slice (some ⟨sB, 0, none⟩) n n, .slice A L.length cap]) ?_ rfl (FIN.out _ _ _ _ _ MM MC.out rfl)
                exact results_cell_row rfl _ _ _ _ _ _ _ rfl (MM.row _ _) Try.underlying25 rfl size_inst
            · have t0 : ((y0 : Int) % 5 == 0) = false := by rw [beq_eq_false_iff_ne]; omega
              rw [if_neg m2] at MC
              have M2 := Lib.hid m2
              clear m2
              go_wp2_with fail
              have MM := KM.out
              refine bodyPost_ret (v := .agg #[.slice (some ⟨sB, 0, none⟩) n n, .slice A L.length cap]) ?_ rfl (FIN.out _ _ _ _ _ MM MC.out rfl)
              exact results_cell_row rfl _ _ _ _ _ _ _ rfl (MM.row _ _) Try.underlying25 rfl size_inst
          · have m3 : ¬ ((1 : Int) < (d.length : Int)) := by omega
            have MC := Lib.hid (show moreC d (supN d n L L.length) = supN d n L L.length by unfold moreC; simp [m1])
            go_wp2_with fail
            have MM := KM.out
            refine bodyPost_ret (v := .agg #[.slice (some ⟨sB, 0, none⟩) n n, .slice A L.length cap]) ?_ rfl (FIN.out _ _ _ _ _ MM MC.out rfl)
            exact results_cell_row rfl _ _ _ _ _ _ _ rfl (MM.row _ _) Try.underlying25 rfl size_inst
end Go.Proofs.Ytajckihgfelbaaa.Inst
