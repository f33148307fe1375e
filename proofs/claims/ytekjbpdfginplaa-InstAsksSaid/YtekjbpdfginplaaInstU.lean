/- Contract of the document's answers for layer 3: Without. -/
import Derived.Test.YtekjbpdfginplaaInstG
import Derived.Test.YtekjbpdfginplaaInstP
import Derived.Deep.AppendLies
import Derived.Deep.RegionLaw
import Derived.Deep.DeepCutAuto
namespace Go.Proofs.Ytekjbpdfginplaa.Inst
open Go.RowKit

/-- Nothing of w1 has changed but block ob. -/
structure But (w1 u : World) (ob : Nat) : Prop where
  size : w1.heap.size ≤ u.heap.size
  block : ∀ i, i < w1.heap.size → i ≠ ob → u.heap[i]? = w1.heap[i]?
theorem But.refl (w : World) (ob : Nat) : But w w ob := ⟨Nat.le_refl _, fun _ _ _ => rfl⟩
theorem But.alloc {w1 u : World} {ob : Nat} (h : But w1 u ob) (o : Obj) : But w1 (u.alloc o) ob :=
  ⟨by have := h.size; simp; omega, fun i hi hn => (Below.heap_alloc u o i (by have := h.size; omega)).trans (h.block i hi hn)⟩
theorem But.drew {w1 u : World} {ob : Nat} (h : But w1 u ob) : But w1 u.drew ob := ⟨h.size, h.block⟩
theorem But.set_ {w1 u : World} {ob : Nat} (h : But w1 u ob) (o : Nat) (v : Value) : But w1 (u.setCell ⟨ob, o, none⟩ v) ob :=
  ⟨by have := h.size; simp; omega, fun i hi hn => (Below.heap_setCell u ⟨ob, o, none⟩ v i hn).trans (h.block i hi hn)⟩
theorem But.grown {w1 u x : World} {ob : Nat} {row : Option Nat} (h : But w1 u ob) (hg : u.grownBy x row) (hr : ∀ g, row = some g → w1.heap.size ≤ g) : But w1 x ob :=
  ⟨Nat.le_trans h.size hg.size, fun i hi hn => (hg.block i (by have := h.size; omega) (fun e => by have := hr i e.symm; omega)).trans (h.block i hi hn)⟩
theorem But.step {w1 u x : World} {ob : Nat} (h : But w1 u ob) (hb : Below u.heap.size u x) : But w1 x ob :=
  ⟨Nat.le_trans h.size hb.size, fun i hi hn => (hb.block i (by have := h.size; omega)).trans (h.block i hi hn)⟩
theorem Blk.but {w1 u : World} {ob g : Nat} {t : TypeId} {cs : Array Value} (h : Blk w1 g t cs) (hb : But w1 u ob) (hn : g ≠ ob) : Blk u g t cs := (hb.block g h.lt hn).trans h
theorem own_but {w1 u : World} {ob base n sz : Nat} {e : TypeId} {v : Value} {xs : List Value} (h : w1.ownsRow base e sz v n xs) (hb : But w1 u ob) (hn : v.ownBlock ≠ some ob) : u.ownsRow base e sz v n xs := by
  obtain ⟨hl, hr⟩ := h
  refine ⟨hl, ?_⟩
  rcases hr with h1 | ⟨g', cap', cur, h1, h2, h3, h4⟩
  · exact .inl h1
  · refine .inr ⟨g', cap', cur, h1, h2, Blk.but (t := e) h3 hb (fun q => hn ?_), h4⟩
    rw [h1, q]
    rfl

theorem info_i64' : (Try.prog.info? 2).map (fun i => (i.zero, i.size, i.bytes)) = some (some (.int .i64 0), 1, 8) := by kernel_rfl

theorem natV_get (l : List Nat) (k : Nat) (hk : k < l.length) (h : k < (natV l).length) : (natV l)[k] = .int .i64 ((l[k] : Nat) : Int) := by simp [natV, numV]
theorem numV_take (S : List Int) (k : Nat) (hk : k < S.length) : numV (S.take (k + 1)) = numV (S.take k) ++ [nv S[k]] := by
  rw [List.take_succ_eq_append_getElem hk]
  unfold numV
  rw [List.map_append]
  rfl
/-- At the head of the first loop. -/
def WRel1 (w w1 : World) (S : List Int) (s9 : Value) (u : World) : Prop :=
  ∃ (k : Nat) (v : Value), k ≤ S.length ∧ s9 = .int .i64 (k : Int) ∧ u.ownsRow w1.heap.size 2 1 v k (numV (S.take k)) ∧ Blk u (w.heap.size + 1 + 1) 25 #[v, .slice none 0 0] ∧ But w1 u (w.heap.size + 1 + 1) ∧ Below w.heap.size w u

theorem cell_five_d {w : World} {n : Nat} (h : w.heap.size = n) (v0 v1 v2 v3 v4 : Value) (t : TypeId) : ∀ j u, [v0, v1, v2, v3, v4][j]? = some u → (w.alloc (.cells #[v0, v1, v2, v3, v4] t)).drew.cell? ((⟨n, 0, none⟩ : Addr).add j) = some u := by
  subst h
  exact cell_five_new w v0 v1 v2 v3 v4 t
theorem own_snoc {u : World} {base : Nat} {v : Value} {N : List Nat} {arcs : List ArcD} {l : List Nat} {q : Nat} {X Y al ac ak : Int} (h : u.ownsRow base 45 5 v ((leftA N arcs l).length + 1) (arcV (leftA N arcs l) ++ [nv X, nv Y, nv al, nv ac, nv ak])) (e : leftA N arcs (l ++ [q]) = leftA N arcs l ++ [⟨X, Y, al, ac, ak⟩]) : u.ownsRow base 45 5 v (leftA N arcs (l ++ [q])).length (arcV (leftA N arcs (l ++ [q]))) := by
  rw [e, List.length_append, arcV_snoc]
  exact h
theorem own_row {w : World} {base n sz cap : Nat} {e : TypeId} {A : Option Addr} {vs : List Value} (h : w.ownsRow base e sz (.slice A n cap) n vs) : Cells w w.heap.size A vs := by
  obtain ⟨-, A', cap', e', -, -, h⟩ := own_cells h
  cases e'
  exact h
theorem size_inst' : (Try.prog.info? 25).map (·.size) = some 2 := by kernel_rfl
/-- At the head of the second loop. -/
def WRel2 (w w2 : World) (N : List Nat) (arcs : List ArcD) (M : List Nat) (v : Value) (s11 : Value) (u : World) : Prop :=
  ∃ (k : Nat) (v2 : Value), k ≤ M.length ∧ s11 = .int .i64 (k : Int) ∧ u.ownsRow w2.heap.size 45 5 v2 (leftA N arcs (M.take k)).length (arcV (leftA N arcs (M.take k))) ∧ Blk u (w.heap.size + 1 + 1) 25 #[v, v2] ∧ But w2 u (w.heap.size + 1 + 1) ∧ Below w.heap.size w u
theorem leftA_length (N : List Nat) (arcs : List ArcD) (l : List Nat) : (leftA N arcs l).length ≤ l.length := by
  unfold leftA
  rw [List.length_map]
  have := List.length_filter_le (staysB N) (l.map (arcAt arcs))
  rw [List.length_map] at this
  exact this
theorem leftA_yes (N : List Nat) (arcs : List ArcD) (l : List Nat) (k : Nat) (x y al ac ak X Y : Int) (h : arcAt arcs k = ⟨x, y, al, ac, ak⟩) (hX : placeD N x = X) (hY : placeD N y = Y) (h0 : 0 ≤ X) (h1 : 0 ≤ Y) : leftA N arcs (l ++ [k]) = leftA N arcs l ++ [⟨X, Y, al, ac, ak⟩] := by
  rw [leftA_snoc, h]
  subst hX
  subst hY
  simp [staysB, movedD, h0, h1]
theorem leftA_no (N : List Nat) (arcs : List ArcD) (l : List Nat) (k : Nat) (x y al ac ak X Y : Int) (h : arcAt arcs k = ⟨x, y, al, ac, ak⟩) (hX : placeD N x = X) (hY : placeD N y = Y) (h0 : ¬ (0 ≤ X ∧ 0 ≤ Y)) : leftA N arcs (l ++ [k]) = leftA N arcs l := by
  rw [leftA_snoc, h]
  subst hX
  subst hY
  have e : staysB N ⟨x, y, al, ac, ak⟩ = false := by
    unfold staysB
    rw [Bool.eq_false_iff]
    intro q
    simp at q
    exact h0 q
  rw [e]
  simp

set_option maxRecDepth 100000 in
set_option maxHeartbeats 4000000 in
theorem rwithout_any (A A2 : Option Addr) (c d : Nat) (I : InstD) (a b : Option Addr) (ca cb : Nat) (ns zs : List Bool) (w : World) (hI : InstIs w A A2 I) (ha : Cells w w.heap.size a (boolV ns)) (hb : Cells w w.heap.size b (boolV zs)) :
    Calls Try.prog 29 #[instV A c A2 d I, .slice a ns.length ca, .slice b zs.length cb] w fun e w' => ∃ A' c' A2' d', e = .returned (instV A' c' A2' d' (withoutD I ns zs)) ∧ InstIs w' A' A2' (withoutD I ns zs) ∧ Below w.heap.size w w' := by
  have hn := hI.n
  have hm := hI.m
  have HI := Lib.hid hI
  have HA := Lib.hid ha
  have HB := Lib.hid hb
  clear hI ha hb
  obtain ⟨i0, hi0, hz0, hz1, hz2⟩ := info_parts info_i64'
  have G0 := Lib.hid hi0
  have G1 := Lib.hid hz0
  have G2 := Lib.hid hz1
  have G3 := Lib.hid hz2
  clear hi0 hz0 hz1 hz2
  go_enter Try.func29, Try.ntmps29
  go_wp2_with (go_at_call 18; refine (rkept_any a ca ns (I.sup.length : Int) (by omega) _ (HA.out.later (Nat.le_refl _) (by repeat (first | exact Below.refl _ _ | refine Below.alloc ?_ (by simp <;> omega) _)))).mono ?_; rintro e w1 ⟨NA, ncap, rfl, nc1, nc2, nb, no⟩; have NB := Lib.hid nb; have NO := Lib.hid no; have NC := Lib.hid nc2; clear nb no nc2)
  obtain ⟨N, hN⟩ : ∃ N, N = keptD ns (I.sup.length : Int) := ⟨_, rfl⟩
  have nlt : ∀ (k : Nat) (hk : k < N.length), N[k] < I.sup.length := by
    intro k hk
    have h1 := keptN_lt ns (upto (I.sup.length : Int)) N[k] (by subst hN; exact List.getElem_mem hk)
    unfold upto at h1
    omega
  have n1000 : N.length ≤ 1000 := by
    rw [hN]
    have := keptN_length ns (upto (I.sup.length : Int))
    unfold keptD
    unfold upto at this ⊢
    omega
  have HN := Lib.hid hN
  have NLT := Lib.hid nlt
  rw [← hN] at NO NC nc1 ⊢
  clear hN nlt
  have w3 : w.heap.size + 3 ≤ w1.heap.size := by have := NB.out.size; simp at this; omega
  have BX : Blk w1 w.heap.size 25 #[.slice A I.sup.length c, .slice A2 I.arcs.length d] := (((Blk.new _ _ _).alloc _).alloc _).below NB.out (by simp <;> omega)
  have RS : Blk w1 (w.heap.size + 1) 25 #[.slice none 0 0, .slice none 0 0] := ((blk_at (by simp) _ _).alloc _).below NB.out (by simp <;> omega)
  have OT : Blk w1 (w.heap.size + 1 + 1) 25 #[.slice none 0 0, .slice none 0 0] := (blk_at (by simp) _ _).below NB.out (by simp <;> omega)
  have WB : Below w.heap.size w w1 := chain2 (by repeat (first | exact Below.refl _ _ | refine Below.alloc ?_ (by simp <;> omega) _)) NB.out
  have HBX := Lib.hid BX
  have HRS := Lib.hid RS
  have HOT := Lib.hid OT
  have HWB := Lib.hid WB
  have far : ∀ k, (Value.slice NA N.length ncap).ownBlock = some k → w.heap.size + 3 ≤ k ∧ k < w1.heap.size := fun k hk => ⟨by have := own_ge NO.out k hk; simp at this; omega, own_lt NO.out k hk⟩
  have FAR := Lib.hid far
  clear BX RS OT WB far
  obtain ⟨S, hS⟩ : ∃ S, S = N.map fun k => I.sup.getD k 0 := ⟨_, rfl⟩
  have sl : N.length = S.length := by rw [hS, List.length_map]
  have HS := Lib.hid hS
  have SL := Lib.hid sl
  clear hS sl
  go_loopw [9] (fun s9 u => WRel1 w w1 S s9 u) (fun s9 _ => N.length - (intOf s9).toNat)
  case atStart => exact ⟨0, .slice none 0 0, by omega, rfl, ⟨rfl, .inl ⟨rfl, rfl⟩⟩, HOT.out, But.refl _ _, HWB.out⟩
  case round =>
    obtain ⟨k, v, hk, rfl, hown, hout, hbut, hbel⟩ := hrel
    rw [← SL.out] at hk
    have KO := Lib.hid hown
    have KT := Lib.hid hout
    have KB := Lib.hid hbut
    have KW := Lib.hid hbel
    have us := hbut.size
    have bx := HBX.out.but hbut (by omega)
    have bx0 := bx.cell 0
    have bx1 := bx.cell 1
    have ot0 : wr.cell? ⟨w.heap.size + 1 + 1, 0, none⟩ = some v := hout.cell 0
    have ot1 : wr.cell? ⟨w.heap.size + 1 + 1, 1, none⟩ = some (.slice none 0 0) := hout.cell 1
    have of0 := hout.frozen 0
    have lt9 : w.heap.size + 1 + 1 < wr.heap.size := by omega
    have lt8 : w.heap.size < wr.heap.size := by omega
    simp at bx0 bx1
    by_cases hlt : k < N.length
    · obtain ⟨nb, en, nl, cn, -⟩ := own_at (own_but NO.out hbut (fun e => by have := FAR.out _ e; omega)) (by omega)
      have c0 := cn k (by rw [natV_length]; exact hlt)
      rw [natV_get N k hlt] at c0
      have ql := NLT.out k hlt
      obtain ⟨sb, soff, es, lb, cs⟩ := nums_at (HI.out.later KW.out).sup (by omega)
      have c1 := cs N[k] ql
      have TK := Lib.hid (numV_take S k (by rw [← SL.out]; exact hlt))
      have SK := Lib.hid (show I.sup[N[k]] = S[k]'(by rw [← SL.out]; exact hlt) by
        have e : S[k]'(by rw [← SL.out]; exact hlt) = I.sup.getD N[k] 0 := by simp [HS.out]
        rw [e, List.getD_eq_getElem?_getD, List.getElem?_eq_getElem ql]
        rfl)
      generalize I.sup[N[k]] = x at c1 SK
      generalize N[k] = q at c0 ql c1
      clear cn cs hown hout hbut hbel bx
      have EN := Lib.hid en
      have ES := Lib.hid es
      rw [es] at bx0
      rw [EN.out]
      clear en es
      go_wp2_with fail
      go_region_law (refine step_append_lies _ (by rfl) _ _ _ (by rfl) w1.heap.size 2 i0 _ 1 8 Try.underlying22 G0.out G1.out G2.out G3.out rfl (by omega) v k _ (by rfl) ((KO.out.alloc _).drew) ⟨wr.heap.size, 0, none⟩ 1 1 [nv x] (by rfl) (by rfl) (cell_one_new _ _ _) (by simp [Value.oneCell', nv]) (by omega) (by simp only [maxLen]; omega) (by omega) (by simp; omega) (wr.heap.size + 1) (by simp) ?_; intro gg cap x1 hown1 hgrow hat hgl; have OX : Blk x1 (w.heap.size + 1 + 1) 25 #[v, .slice none 0 0] := (hgrow.block _ (by simp; omega) (fun e => by have := own_ge KO.out _ e.symm; omega)).trans ((KT.out.alloc _).drew); have ox0 : x1.cell? ⟨w.heap.size + 1 + 1, 0, none⟩ = some v := OX.cell 0; have oxf := OX.frozen 0; have HOX := Lib.hid OX; have HO1 := Lib.hid hown1; have HG1 := Lib.hid hgrow; clear OX hown1 hgrow hat)
      all_goals
        go_wp2_with fail
        exact ⟨⟨k + 1, _, by rw [← SL.out]; omega, by simp, by rw [TK.out, ← SK.out]; exact own_far HO1.out (fun e => by have h : w1.heap.size ≤ w.heap.size + 1 + 1 := own_ge HO1.out _ e; omega) _, HOX.out.set_ 0 _, (((KB.out.alloc _).drew).grown HG1.out (own_ge KO.out)).set_ 0 _, ((((KW.out.alloc (by omega) _).drew).grown HG1.out (by simp; omega) (fun g h => by have := own_ge KO.out g h; omega)).setCell (by simp <;> omega) _)⟩, by simp [intOf]; omega⟩
    · obtain rfl : k = N.length := by omega
      have OV := own_but NO.out KB.out (fun e => by have := FAR.out _ e; omega)
      have HOV := Lib.hid OV
      have NCW : Cells wr wr.heap.size NA (natV N) := by
        obtain ⟨-, A', cap', e', -, -, h⟩ := own_cells OV
        cases e'
        exact h
      have BX := HBX.out.but KB.out (by omega)
      have RS := HRS.out.but KB.out (by omega)
      have hbx := Lib.hid BX
      have hrs := Lib.hid RS
      have HNC := Lib.hid NCW
      obtain ⟨j0, hj0, hy0, hy1, hy2⟩ := info_parts info_arc
      have J0 := Lib.hid hj0
      have J1 := Lib.hid hy0
      have J2 := Lib.hid hy1
      have J3 := Lib.hid hy2
      clear OV NCW BX RS hown hout hbut hbel hj0 hy0 hy1 hy2
      go_wp2_with (go_at_call 18; refine (rkept_any b cb zs (I.arcs.length : Int) (by omega) _ (HB.out.later (Nat.le_refl _) KW.out)).mono ?_; rintro e w2 ⟨MA, mcap, rfl, mc1, mc2, mb, mo⟩; have MB := Lib.hid mb; have MO := Lib.hid mo; have MC := Lib.hid mc2; clear mb mo mc2)
      obtain ⟨M, hM⟩ : ∃ M, M = keptD zs (I.arcs.length : Int) := ⟨_, rfl⟩
      have mlt : ∀ (k : Nat) (hk : k < M.length), M[k] < I.arcs.length := by
        intro k hk
        have h1 := keptN_lt zs (upto (I.arcs.length : Int)) M[k] (by subst hM; exact List.getElem_mem hk)
        unfold upto at h1
        omega
      have m1000 : M.length ≤ 1000 := by
        rw [hM]
        have := keptN_length zs (upto (I.arcs.length : Int))
        unfold keptD
        unfold upto at this ⊢
        omega
      have HM := Lib.hid hM
      have MLT := Lib.hid mlt
      rw [← hM] at MO MC mc1 ⊢
      clear hM mlt
      have w4 := MB.out.size
      have XB := Lib.hid (hbx.out.below MB.out hbx.out.lt)
      have XR := Lib.hid (hrs.out.below MB.out hrs.out.lt)
      have XT := Lib.hid (KT.out.below MB.out KT.out.lt)
      have XV := Lib.hid (own_later HOV.out MB.out)
      have XO := Lib.hid (own_later KO.out MB.out)
      have XW := Lib.hid (chain2 KW.out MB.out)
      have farm : ∀ k, (Value.slice MA M.length mcap).ownBlock = some k → w.heap.size + 3 ≤ k ∧ k < w2.heap.size := fun k hk => ⟨by have := own_ge MO.out k hk; omega, own_lt MO.out k hk⟩
      have FARM := Lib.hid farm
      clear farm
      go_loopw [11] (fun s11 u => WRel2 w w2 N I.arcs M v s11 u) (fun s11 _ => M.length - (intOf s11).toNat)
      case atStart => exact ⟨0, .slice none 0 0, by omega, rfl, ⟨rfl, .inl ⟨rfl, rfl⟩⟩, XT.out, But.refl _ _, XW.out⟩
      case round =>
        obtain ⟨k, v2, hk, rfl, hown, hout, hbut, hbel⟩ := hrel
        have LO := Lib.hid hown
        have LT := Lib.hid hout
        have LB := Lib.hid hbut
        have LW := Lib.hid hbel
        have vs := hbut.size
        have bx := XB.out.but hbut (by omega)
        have bx0 := bx.cell 0
        have bx1 := bx.cell 1
        have ot0 : wr.cell? ⟨w.heap.size + 1 + 1, 0, none⟩ = some v := hout.cell 0
        have ot1 : wr.cell? ⟨w.heap.size + 1 + 1, 1, none⟩ = some v2 := hout.cell 1
        have of0 := hout.frozen 0
        have of1 := hout.frozen 1
        have lt9 : w.heap.size + 1 + 1 < wr.heap.size := by omega
        have lt8 : w.heap.size < wr.heap.size := by omega
        simp at bx0 bx1
        by_cases hlt : k < M.length
        · obtain ⟨mb, em, ml, cm, -⟩ := own_at (own_but MO.out hbut (fun e => by have := FARM.out _ e; omega)) (by omega)
          have c0 := cm k (by rw [natV_length]; exact hlt)
          rw [natV_get M k hlt] at c0
          have ql := MLT.out k hlt
          obtain ⟨ab, aoff, ea, lb, ca⟩ := arcs_at (HI.out.later LW.out).arcs (by omega)
          obtain ⟨q0, q1, q2, q3, q4⟩ := ca M[k] ql
          have TK := Lib.hid (List.take_succ_eq_append_getElem hlt)
          have ax : arcAt I.arcs M[k] = I.arcs[M[k]] := by unfold arcAt; rw [List.getD_eq_getElem?_getD, List.getElem?_eq_getElem ql]; rfl
          have NCU : Cells wr wr.heap.size NA (natV N) := by
            obtain ⟨-, A', cap', e', -, -, h⟩ := own_cells (own_but XV.out hbut (fun e => by have := FAR.out _ e; omega))
            cases e'
            exact h
          have UN := Lib.hid NCU
          have pl : ∀ (x r : Int), placeD N x = r → ∀ W, Below wr.heap.size wr W → Calls Try.prog 47 #[.slice NA N.length ncap, .int .i64 x] W fun e w' => e = .returned (.int .i64 r) ∧ W = w' := by
            intro x r h W hb
            subst h
            exact place_any NA ncap N n1000 x W (UN.out.later (Nat.le_refl _) hb)
          have PL := Lib.hid pl
          clear pl
          have LL := leftA_length N I.arcs (M.take k)
          rw [List.length_take] at LL
          generalize I.arcs[M[k]] = x at q0 q1 q2 q3 q4 ax
          obtain ⟨af, ao, al, ac, ak⟩ := x
          simp only at q0 q1 q2 q3 q4
          generalize M[k] = q at c0 ql q0 q1 q2 q3 q4 ax TK
          obtain ⟨X, hX⟩ : ∃ X, X = placeD N af := ⟨_, rfl⟩
          obtain ⟨Y, hY⟩ : ∃ Y, Y = placeD N ao := ⟨_, rfl⟩
          have PX := Lib.hid hX
          have PY := Lib.hid hY
          have AX := Lib.hid ax
          have EM := Lib.hid em
          have EA := Lib.hid ea
          rw [ea] at bx1
          rw [EM.out]
          clear em ea ax hX hY cm ca NCU hown hout hbut hbel bx
          go_wp2_with fail
          go_region
          by_cases st : 0 ≤ X ∧ 0 ≤ Y
          · obtain ⟨s0, s1⟩ := st
            go_wp2_with (first | (go_at_call 47; (with_reducible refine (PL.out af X PX.out.symm _ ?bb).mono ?_); (case bb => repeat (first | exact Below.refl _ _ | refine Below.drew ?_ | refine Below.alloc ?_ (by simp <;> omega) _)); rintro e w' ⟨rfl, rfl⟩) | (go_at_call 47; (with_reducible refine (PL.out ao Y PY.out.symm _ ?bb).mono ?_); (case bb => repeat (first | exact Below.refl _ _ | refine Below.drew ?_ | refine Below.alloc ?_ (by simp <;> omega) _)); rintro e w' ⟨rfl, rfl⟩) | (at_builtin; (refine wpList_append_lies _ rfl _ _ 23 rfl w2.heap.size 45 j0 _ 5 40 Try.underlying23 J0.out J1.out J2.out J3.out rfl (by decide) v2 _ _ rfl (((LO.out.alloc _).alloc _).drew) ⟨wr.heap.size + 1, 0, none⟩ 1 1 [nv X, nv Y, nv al, nv ac, nv ak] rfl rfl (cell_five_d (by simp) _ _ _ _ _ _) (by simp [Value.oneCell', nv]) (by omega) (by simp only [maxLen]; omega) (by omega) (by simp; omega) (wr.heap.size + 1 + 1) (by simp) ?_); intro gg cap x1 hown1 hgrow hat hgl; have OX : Blk x1 (w.heap.size + 1 + 1) 25 #[v, v2] := (hgrow.block _ (by simp; omega) (fun e => by have := own_ge LO.out _ e.symm; omega)).trans (((LT.out.alloc _).alloc _).drew); have ox0 : x1.cell? ⟨w.heap.size + 1 + 1, 0, none⟩ = some v := OX.cell 0; have ox1 : x1.cell? ⟨w.heap.size + 1 + 1, 1, none⟩ = some v2 := OX.cell 1; have oxf := OX.frozen 1; have HOX := Lib.hid OX; have HO1 := Lib.hid hown1; have HG1 := Lib.hid hgrow; clear OX hown1 hgrow hat))
            exact ⟨⟨k + 1, _, by omega, by simp, by rw [TK.out]; exact own_snoc (own_far HO1.out (fun e => by have h : w2.heap.size ≤ w.heap.size + 1 + 1 := own_ge HO1.out _ e; omega) _) (leftA_yes _ _ _ _ _ _ _ _ _ _ _ AX.out PX.out.symm PY.out.symm s0 s1), HOX.out.set_ 1 _, ((((LB.out.alloc _).alloc _).drew).grown HG1.out (own_ge LO.out)).set_ 1 _, (((((LW.out.alloc (by omega) _).alloc (by simp; omega) _).drew).grown HG1.out (by simp; omega) (fun g h => by have := own_ge LO.out g h; omega)).setCell (by simp <;> omega) _)⟩, by simp [intOf]; omega⟩
          · have ST := Lib.hid st
            by_cases s0 : 0 ≤ X
            · have s1 : ¬ (0 ≤ Y) := fun h => st ⟨s0, h⟩
              clear st
              go_wp2_with (first | (go_at_call 47; (with_reducible refine (PL.out af X PX.out.symm _ ?bb).mono ?_); (case bb => repeat (first | exact Below.refl _ _ | refine Below.drew ?_ | refine Below.alloc ?_ (by simp <;> omega) _)); rintro e w' ⟨rfl, rfl⟩) | (go_at_call 47; (with_reducible refine (PL.out ao Y PY.out.symm _ ?bb).mono ?_); (case bb => repeat (first | exact Below.refl _ _ | refine Below.drew ?_ | refine Below.alloc ?_ (by simp <;> omega) _)); rintro e w' ⟨rfl, rfl⟩))
              exact ⟨⟨k + 1, v2, by omega, by simp, by rw [TK.out, leftA_no _ _ _ _ _ _ _ _ _ _ _ AX.out PX.out.symm PY.out.symm ST.out]; exact (LO.out.alloc _).drew, (LT.out.alloc _).drew, (LB.out.alloc _).drew, (LW.out.alloc (by omega) _).drew⟩, by simp [intOf]; omega⟩
            · clear st
              go_wp2_with (first | (go_at_call 47; (with_reducible refine (PL.out af X PX.out.symm _ ?bb).mono ?_); (case bb => repeat (first | exact Below.refl _ _ | refine Below.drew ?_ | refine Below.alloc ?_ (by simp <;> omega) _)); rintro e w' ⟨rfl, rfl⟩) | (go_at_call 47; (with_reducible refine (PL.out ao Y PY.out.symm _ ?bb).mono ?_); (case bb => repeat (first | exact Below.refl _ _ | refine Below.drew ?_ | refine Below.alloc ?_ (by simp <;> omega) _)); rintro e w' ⟨rfl, rfl⟩))
              exact ⟨⟨k + 1, v2, by omega, by simp, by rw [TK.out, leftA_no _ _ _ _ _ _ _ _ _ _ _ AX.out PX.out.symm PY.out.symm ST.out]; exact (LO.out.alloc _).drew, (LT.out.alloc _).drew, (LB.out.alloc _).drew, (LW.out.alloc (by omega) _).drew⟩, by simp [intOf]; omega⟩
        · obtain rfl : k = M.length := by omega
          have rs := XR.out.but hbut (by omega)
          have rz0 : wr.cell? ⟨w.heap.size + 1, 0, none⟩ = some (.slice none 0 0) := rs.cell 0
          have rz1 : wr.cell? ⟨w.heap.size + 1, 1, none⟩ = some (.slice none 0 0) := rs.cell 1
          have rf0 := rs.frozen 0
          have rf1 := rs.frozen 1
          have OV2 := own_but XO.out hbut (fun e => by have := own_ge XO.out _ e; omega)
          obtain ⟨-, A', cap', rfl, -, -, -⟩ := own_cells OV2
          obtain ⟨-, A2', cap2', rfl, -, -, -⟩ := own_cells hown
          have HR := Lib.hid rs
          have HV2 := Lib.hid OV2
          have LL := leftA_length N I.arcs M
          rw [List.take_length] at LO
          have TS : S.take N.length = S := by rw [SL.out, List.take_length]
          rw [TS] at HV2
          clear rs OV2 hown hout hbut hbel bx TS
          have r1 := HR.out.set_ 0 (.slice A' N.length cap')
          have HR2 := Lib.hid (r1.set_ 1 (.slice A2' (leftA N I.arcs M).length cap2'))
          clear r1
          go_wp2_with fail
          have W : withoutD I ns zs = ⟨S, leftA N I.arcs M⟩ := by unfold withoutD; rw [← HN.out, ← HM.out, ← HS.out]
          have f1 : ∀ {x : Option Addr} {n cap : Nat}, (∀ g, (Value.slice x n cap).ownBlock = some g → w1.heap.size ≤ g) → ∀ o, (Value.slice x n cap).ownBlock ≠ some (⟨w.heap.size + 1, o, none⟩ : Addr).block := fun h o e => by have h : w1.heap.size ≤ w.heap.size + 1 := h _ e; omega
          refine bodyPost_ret (v := .agg #[.slice A' N.length cap', .slice A2' (leftA N I.arcs M).length cap2']) ?_ rfl ⟨A', cap', A2', cap2', ?_, ?_, ?_⟩
          · exact results_cell_row rfl _ _ _ _ _ _ _ rfl HR2.out Try.underlying25 rfl size_inst'
          · rw [W]
            show _ = Ending.returned (.agg #[.slice A' S.length cap', .slice A2' (leftA N I.arcs M).length cap2'])
            rw [SL.out]
          · rw [W]
            exact ⟨by show S.length ≤ _; rw [← SL.out]; omega, by show (leftA N I.arcs M).length ≤ _; omega, own_row (own_far (own_far HV2.out (f1 (own_ge HV2.out) _) _) (f1 (own_ge HV2.out) _) _), own_row (own_far (own_far LO.out (f1 (fun g h => by have := own_ge LO.out g h; omega) _) _) (f1 (fun g h => by have := own_ge LO.out g h; omega) _) _)⟩
          · exact (LW.out.setCell (by simp <;> omega) _).setCell (by simp <;> omega) _
end Go.Proofs.Ytekjbpdfginplaa.Inst
