/- What the landed layer 4 does: each node's piece of one list is laid out. -/
import Derived.Test.YtajckihgfelbaaaAdjMathL
import Derived.Test.YtajckihgfelbaaaAdjL5
import Derived.Sort.CutIn
namespace Go.Proofs.Ytajckihgfelbaaa.Adj
open Go.RowKit Go.Shelf Go.Proofs.Ytajckihgfelbaaa.Inst
set_option maxRecDepth 100000

theorem izeros_eq (n : Nat) : madeCells #[Value.int .i64 0] n = (natV (List.replicate n 0)).toArray := by
  apply Array.ext'
  rw [toList_madeCells_one]
  simp [natV, numV]
theorem makei_any (n : Nat) (hn : n ≤ 100000) (W : World) : (Instr.makeSlice 32 (.int .i64 (n : Int)) (.int .i64 (n : Int))).run Try.prog W = .ok (.slice (some ⟨W.heap.size, 0, none⟩) n n) (W.alloc (.cells (natV (List.replicate n 0)).toArray 3)) := by
  obtain ⟨i0, hi0, hz0, hz1, hz2⟩ := info_parts info_int
  have h := run_make (P := Try.prog) W 32 3 i0 (.int .i64 0) Try.underlying32 hi0 hz0 .i64 .i64 (n : Int) (n : Int) (by omega) (by omega) (by rw [hz2]; omega) (by omega)
  rw [h, hz1, Int.toNat_natCast, Nat.mul_one]
  congr 3
  exact izeros_eq n

/-- Between two rounds of the first loop's range. -/
def LayAt (w : World) (I : InstD) (n j : Nat) (pre : List Nat) (A : World) : Prop :=
  (∃ R, Rooms I n j pre R ∧ Blk A w.heap.size 3 (natV R).toArray ∧ Blk A (w.heap.size + 1 + 1) 3 #[.int .i64 (R.sum : Int)]) ∧ Blk A (w.heap.size + 1) 32 #[.slice (some ⟨w.heap.size, 0, none⟩) n n] ∧ w.heap.size + 3 ≤ A.heap.size ∧ Below w.heap.size w A
theorem LayAt.later {w : World} {I : InstD} {n j : Nat} {pre : List Nat} {A A' : World} (h : LayAt w I n j pre A) (hb : Below A.heap.size A A') : LayAt w I n j pre A' := by
  obtain ⟨⟨R, h1, h2, h3⟩, h4, h5, h6⟩ := h
  exact ⟨⟨R, h1, h2.below hb h2.lt, h3.below hb h3.lt⟩, h4.below hb h4.lt, Nat.le_trans h5 hb.size, chain2 h6 hb⟩
theorem LayAt.put {w : World} {I : InstD} {n j : Nat} {pre : List Nat} {A : World} {k : Nat} {o : Obj} (o' : Obj) (h : LayAt w I n j pre A) (hk : A.heap[k]? = some o) (ho : o.isCells = false) (hB : w.heap.size ≤ k) : LayAt w I n j pre (A.putObj k o') := by
  obtain ⟨⟨R, h1, h2, h3⟩, h4, h5, h6⟩ := h
  exact ⟨⟨R, h1, Blk.putObj h2 o' hk ho, Blk.putObj h3 o' hk ho⟩, Blk.putObj h4 o' hk ho, by simp [World.putObj]; omega, below_put h6 o' hB⟩
theorem Marks.others {B : Nat} {ds : List Deferred} {W W' : World} (h : Marks B ds W) (hk : KeepsOthers W W') : Marks B ds W' := h.keep fun k _ h1 _ => hk.same k _ h1 rfl
theorem I64_nat (k : Nat) (h : k ≤ 1000000) : I64 (k : Int) := by unfold I64; omega
/-- All below but one block is as it was. -/
def Save (P : Nat) (w W : World) : Prop := Below 0 w W ∧ ∀ k, k < w.heap.size → k ≠ P → W.heap[k]? = w.heap[k]?

theorem Save.refl (P : Nat) (w : World) : Save P w w := ⟨Below.refl _ _, fun _ _ _ => rfl⟩
theorem Save.set {P : Nat} {w W : World} (h : Save P w W) (o : Nat) (v : Value) : Save P w (W.setCell ⟨P, o, none⟩ v) := ⟨h.1.setCell (Nat.zero_le _) _, fun k h1 h2 => (Below.heap_setCell W ⟨P, o, none⟩ v k h2).trans (h.2 k h1 h2)⟩
theorem Save.drew {P : Nat} {w W : World} (h : Save P w W) : Save P w W.drew := ⟨h.1.drew, h.2⟩
theorem Save.blk {P : Nat} {w W : World} (h : Save P w W) {g : Nat} {t : TypeId} {cs : Array Value} (hb : Blk w g t cs) (hp : g ≠ P) : Blk W g t cs := (h.2 g hb.lt hp).trans hb
/-- At the head of the second loop. -/
def PieceRel (P L n : Nat) (R : List Nat) (W2 : World) (s41 s7 : Value) (u : World) : Prop :=
  ∃ k : Nat, k ≤ n ∧ s41 = .int .i64 (k : Int) ∧ s7 = .int .i64 ((R.take k).sum : Int) ∧ Blk u P 32 (pcs L R k).toArray ∧ Save P W2 u

set_option maxRecDepth 100000 in
set_option maxHeartbeats 8000000 in
theorem lay_in (b : Nat) (I : InstD) (n m : Nat) (A : Option Addr) (cA P lo : Nat) (hn : I.sup.length = n) (hm : I.arcs.length = m) (n9 : n ≤ 1000) (m9 : m ≤ 1000) (w : World) (hb : Blk w b 88 #[.slice A m cA, .slice (some ⟨P, 0, none⟩) n n])
    (hA : w.ownsRow lo 36 5 (.slice A m cA) m (arcV I.arcs)) (hP : Blk w P 32 (List.replicate n (.slice none 0 0)).toArray) (ne1 : b ≠ P) (ne2 : (Value.slice A m cA).ownBlock ≠ some P) :
    CallsIn Fence.wide 6 Try.prog 60 #[.pointer (some ⟨b, 0, none⟩)] w fun e w' => (∃ v, e = .returned v) ∧ ∃ L R, Rooms I n m [] R ∧ Save P w w' ∧ Blk w' P 32 (pcs L R n).toArray ∧ Blk w' L 3 (natV (List.replicate R.sum 0)).toArray ∧ w.heap.size ≤ L := by
  have hmk := makei_any n (by omega)
  have x0 := hb.cell 0
  have x1 := hb.cell 1
  have x2 := hb.lt
  simp at x0 x1
  have EA := Lib.hid (fun a u => ends_any (some ⟨b, 0, none⟩) a u)
  refine callsIn_of_wp_marks Try.func60 rfl trivial ?_ rfl
  simp only [Try.ntmps60, List.size_toArray, List.length_cons, List.length_nil, Nat.reduceAdd, Nat.reduceSub, Array.replicate_succ, Array.replicate_zero, List.push_toArray, List.append_toArray, List.nil_append, List.cons_append]
  gi_upto_region 2 with fail
  obtain ⟨W0, hW0⟩ : ∃ W0, W0 = ((w.alloc (.cells (natV (List.replicate n 0)).toArray 3)).alloc (.cells #[.slice (some ⟨w.heap.size, 0, none⟩) n n] 32)).alloc (.cells #[.int .i64 0] 3) := ⟨_, rfl⟩
  rw [← hW0]
  have hsz : W0.heap.size = w.heap.size + 3 := by rw [hW0]; simp
  have hB0 : Below w.heap.size w W0 := by rw [hW0]; exact (((Below.refl _ w).alloc (Nat.le_refl _) _).alloc (by simp) _).alloc (by simp; omega) _
  have c0 : Blk W0 w.heap.size 3 (natV (List.replicate n 0)).toArray := by rw [hW0]; exact ((Blk.new w _ _).alloc _).alloc _
  have c1 : Blk W0 (w.heap.size + 1) 32 #[.slice (some ⟨w.heap.size, 0, none⟩) n n] := by rw [hW0]; exact (blk_at (by simp) _ _).alloc _
  have c2 : Blk W0 (w.heap.size + 1 + 1) 3 #[.int .i64 0] := by rw [hW0]; exact blk_at (by simp) _ _
  have L0 := Lib.hid (show LayAt w I n 0 [] W0 from ⟨⟨_, rooms_start I n, c0, by rw [show (List.replicate n 0).sum = 0 by simp]; exact c2⟩, c1, by omega, hB0⟩)
  have y0 := (hB0.cell (p := ⟨b, 0, none⟩) x2).trans x0
  have y2 : b < W0.heap.size := by omega
  clear hW0 hmk c0 c1 c2
  gi_wp2
  have HE := Lib.hid (show HalfV w (some ⟨b, 0, none⟩) I from .inr ⟨b, rfl, n, m, A, cA, P, hn, hm, n9, m9, hb, own_row hA⟩)
  refine wpIn_loop (fun a W => ∃ (j : Nat) (ds : List Deferred) (u4 u22 u23 u24 u25 u26 u36 : Value), j ≤ m ∧ LayAt w I n j [] W ∧ Marks w.heap.size ds W ∧ a = { tmps := #[.pointer (some ⟨b, 0, none⟩), undef, .pointer (some ⟨w.heap.size + 1, 0, none⟩), .pointer (some ⟨w.heap.size + 1 + 1, 0, none⟩), u4, undef, undef, undef, undef, undef, .pointer (some ⟨b, 0, none⟩), .pointer (some ⟨b, 0, none⟩), .pointer (some ⟨b, 1, none⟩), .slice (some ⟨P, 0, none⟩) n n, .int .i64 (n : Int), .slice (some ⟨w.heap.size, 0, none⟩) n n, .pointer (some ⟨b, 0, none⟩), .pointer (some ⟨b, 0, none⟩), .pointer (some ⟨b, 0, none⟩), .slice A m cA, .int .i64 (m : Int), .int .i64 (j : Int), u22, u23, u24, u25, u26, undef, undef, undef, undef, undef, undef, undef, undef, undef, u36, undef, undef, undef, undef, undef, undef, undef, undef, undef, undef, undef, undef, undef, undef, undef, undef, undef, undef, undef, undef, undef, undef, undef, undef, undef, undef], defers := ds }) (fun a _ => m - (intOf (a.tmps.getD 21 undef)).toNat) ?start ?round
  case start => exact ⟨0, [], undef, undef, undef, undef, undef, undef, undef, by omega, L0.out, .nil, rfl⟩
  case round =>
    rintro a W ⟨j, ds, u4, u22, u23, u24, u25, u26, u36, hj, hL, hM, rfl⟩
    clear L0 y0 y2 hB0 hsz
    dsimp only
    by_cases hlt : j < m
    · have j0 : (j : Int) < (m : Int) := by omega
      gi_wp2_with (refine ⟨trivial, ?_⟩; refine (callsIn_wide.2 (EA.out _ _)).mono ?_; rintro e w' ⟨rfl, rfl⟩)
      obtain ⟨W1, hW1⟩ : ∃ W1, W1 = (W.alloc (.cells #[.pointer (some ⟨b, 0, none⟩)] 52)).alloc (.cells #[.int .i64 (j : Int)] 3) := ⟨_, rfl⟩
      have hz1 : W1.heap.size = W.heap.size + 2 := by rw [hW1]; simp
      have hB1 : Below W.heap.size W W1 := by rw [hW1]; exact ((Below.refl _ W).alloc (Nat.le_refl _) _).alloc (by simp) _
      have d1 : Blk W1 W.heap.size 52 #[.pointer (some ⟨b, 0, none⟩)] := by rw [hW1]; exact (Blk.new W _ _).alloc _
      have d2 : Blk W1 (W.heap.size + 1) 3 #[.int .i64 (j : Int)] := by rw [hW1]; exact blk_at (by simp) _ _
      rw [← hW1]
      clear hW1
      have FR : ∀ D, { target := .collected D, args := #[] } ∈ ds → D < W1.heap.size := fun D hD => by have := hM.fresh D hD; omega
      have hM1 : Marks w.heap.size ds W1 := hM.keep fun k _ hk _ => (hB1.block k (Array.getElem?_eq_some_iff.1 hk).1).trans hk
      have ND := ends_nodup I j
      have hs1 : w.heap.size + 3 ≤ W1.heap.size := by have := hL.2.2.1; omega
      refine range_rounds (n := 6) (by omega) (gf := 87) (lb := #[.pointer (some ⟨W.heap.size, 0, none⟩), .pointer (some ⟨W.heap.size + 1, 0, none⟩)]) rfl (enters_of Try.func87 (by kernel_rfl) rfl) encN (fun _ => rfl) (endsD I (j : Int)) (fun k => W1.heap.size ≤ k) (fun pre B => LayAt w I n j pre B ∧ Marks w.heap.size ds B)
        (fun pre B B' h hb => ⟨h.1.later hb, h.2.keep fun k _ hk _ => (hb.block k (Array.getElem?_eq_some_iff.1 hk).1).trans hk⟩)
        (fun pre B k o o' hB hk ho h => ⟨h.1.put o' hk ho (by omega), h.2.keep fun D _ hD hm => (World.putObj_heap_other (by have := FR D hm; omega)).trans hD⟩) ⟨hL.later hB1, hM1⟩ ?iter
        (fun x a1 B => a1 = { tmps := #[.pointer (some ⟨b, 0, none⟩), undef, .pointer (some ⟨w.heap.size + 1, 0, none⟩), .pointer (some ⟨w.heap.size + 1 + 1, 0, none⟩), .int .i64 (j : Int), .int .i64 (x : Int), undef, undef, undef, undef, .pointer (some ⟨b, 0, none⟩), .pointer (some ⟨b, 0, none⟩), .pointer (some ⟨b, 1, none⟩), .slice (some ⟨P, 0, none⟩) n n, .int .i64 (n : Int), .slice (some ⟨w.heap.size, 0, none⟩) n n, .pointer (some ⟨b, 0, none⟩), .pointer (some ⟨b, 0, none⟩), .pointer (some ⟨b, 0, none⟩), .slice A m cA, .int .i64 (m : Int), .int .i64 (j : Int), .bool true, .int .i64 (j : Int), .pointer (some ⟨b, 0, none⟩), .int .i64 (j : Int), .func (.func 87) #[] #[.pointer (some ⟨W.heap.size, 0, none⟩), .pointer (some ⟨W.heap.size + 1, 0, none⟩)], .int .i64 (x : Int), undef, undef, undef, undef, undef, undef, undef, undef, u36, undef, undef, undef, undef, undef, undef, undef, undef, undef, undef, undef, undef, undef, undef, undef, undef, undef, undef, undef, undef, undef, undef, undef, undef, undef, undef], defers := [] }) (fun x a1 B k o o' _ _ _ h => h) ?assign ?body ?done
      case iter =>
        intro l J V hbW hJ hY hj
        exact ends_seq _ l _ _ _ _ (some ⟨b, 0, none⟩) I j (I64_nat j (by omega)) (fun k => W1.heap.size ≤ k) J V hJ (fun k hk => by have := hbW.size; show W1.heap.size ≤ k; omega) hY hj (HE.out.later (chain2 (chain2 hL.2.2.2 hB1) hbW)) (d1.below hbW d1.lt) (d2.below hbW d2.lt)
      case assign =>
        intro l pre x V K _ _ hK
        gi_wp2_with (rw [Oper.semAt_eq _ _ _ (fun c h => by cases h)]; go_simp; try go_bits)
        exact hK _ _ rfl (Below.refl _ _)
      case body =>
        rintro l pre x a1 V ⟨⟨⟨R, hR, hb1, hb3⟩, hb2, hs, hB⟩, hMV⟩ rfl hpre hsz2
        dsimp only
        have xn : x < n := by have := ends_lt (mem_prefix hpre); omega
        have xp := not_mem_prefix hpre ND
        have rl : R.length = n := hR.1
        obtain ⟨y, hy⟩ : ∃ y, R.getD x 0 = y := ⟨_, rfl⟩
        obtain ⟨S, hS⟩ : ∃ S, R.sum = S := ⟨_, rfl⟩
        have y9 : y ≤ 1001 := by rw [← hy, hR.2.1 x xn]; have := lst_bd I x j pre; omega
        have s9 : S ≤ 2002 := by have h1 := hR.2.2; have h2 := hpre.length_le; have h3 := ends_length I j; rw [List.length_append, List.length_singleton] at h2; omega
        have e0 := natV_at R x (by omega)
        rw [hy] at e0
        rw [hS] at hb3
        have z1 := hb1.cell x
        have z2 := hb2.cell 0
        have z3 := hb3.cell 0
        have z4 := hb1.lt
        have z5 := hb2.lt
        have z6 := hb3.lt
        have z7 := hb1.frozen x
        have z8 := hb3.frozen 0
        rw [List.getElem?_toArray, e0] at z1
        simp at z2 z3
        have xx0 : (0 : Int) ≤ (x : Int) := by omega
        have xx1 : (x : Int) < (n : Int) := by omega
        have HB1 := Lib.hid hb1
        have HB2 := Lib.hid hb2
        have HB3 := Lib.hid hb3
        have HR := Lib.hid hR
        have HBB := Lib.hid hB
        have HMV := Lib.hid hMV
        have HY := Lib.hid hy
        have HS := Lib.hid hS
        have RL := Lib.hid rl
        clear hb1 hb2 hb3 hR hB hMV hy hS hpre ND e0 rl hL hM hM1 d1 d2
        gi_wp2_with (rw [Oper.semAt_eq _ _ _ (fun c h => by cases h)]; go_simp; try go_bits)
        have ey : (Value.int .i64 ((y : Int) + 1)) = .int .i64 ((y + 1 : Nat) : Int) := by simp
        have es : (Value.int .i64 ((S : Int) + 1)) = .int .i64 ((S + 1 : Nat) : Int) := by simp
        rw [ey, es]
        have hR2 := rooms_step HR.out xp xn
        rw [HY.out] at hR2
        have hS2 := sum_set R x (by rw [RL.out]; exact xn)
        rw [HY.out, HS.out] at hS2
        refine ⟨((KeepsOthers.setCell _ _ _).trans (KeepsOthers.setCell _ _ _)).from _, (Stay.set _ _ _ (by show ¬ W1.heap.size ≤ w.heap.size; omega)).trans (Stay.set _ _ _ (by show ¬ W1.heap.size ≤ w.heap.size + 1 + 1; omega)), ⟨⟨_, hR2, ?_, ?_⟩, ?_, ?_, ?_⟩, ?_⟩
        · have q := (HB1.out.set_ x (.int .i64 ((y + 1 : Nat) : Int))).far (p := ⟨w.heap.size + 1 + 1, 0, none⟩) (by show w.heap.size ≠ w.heap.size + 1 + 1; omega) (.int .i64 ((S + 1 : Nat) : Int))
          rw [List.setIfInBounds_toArray, natV_set] at q
          exact q
        · rw [hS2]
          exact (HB3.out.far (p := ⟨w.heap.size, x, none⟩) (by show w.heap.size + 1 + 1 ≠ w.heap.size; omega) _).set_ 0 _
        · exact (HB2.out.far (p := ⟨w.heap.size, x, none⟩) (by show w.heap.size + 1 ≠ w.heap.size; omega) _).far (p := ⟨w.heap.size + 1 + 1, 0, none⟩) (by show w.heap.size + 1 ≠ w.heap.size + 1 + 1; omega) _
        · simp; omega
        · exact (HBB.out.setCell (p := ⟨w.heap.size, x, none⟩) (Nat.le_refl _) _).setCell (p := ⟨w.heap.size + 1 + 1, 0, none⟩) (by show w.heap.size ≤ w.heap.size + 1 + 1; omega) _
        · exact HMV.out.others ((KeepsOthers.setCell _ _ _).trans (KeepsOthers.setCell _ _ _))
      case done =>
        rintro D V hD ⟨hl, hm2⟩ hd
        gi_wp2
        obtain ⟨⟨R, hR, hb1, hb3⟩, hb2, hs, hB⟩ := hl
        exact ⟨⟨j + 1, { target := .collected D, args := #[] } :: ds, _, _, _, _, _, _, _, by omega, ⟨⟨R, rooms_next hR, hb1, hb3⟩, hb2, hs, hB⟩, .cons (by omega) hd (fun D' hD' e => by have := FR D' hD'; omega) hm2, rfl⟩, by simp [intOf]; omega⟩
    · obtain rfl : j = m := by omega
      obtain ⟨⟨R, hR, hb1, hb3⟩, hb2, hs, hB⟩ := hL
      obtain ⟨S, hS⟩ : ∃ S, R.sum = S := ⟨_, rfl⟩
      have s9 : S ≤ 2000 := by have h1 := hR.2.2; simp at h1; omega
      rw [hS] at hb3
      have hmk2 := makei_any S (by omega)
      have z3 := hb3.cell 0
      have z6 := hb3.lt
      simp at z3
      have ta : ¬ ((j : Int) < (j : Int)) := by omega
      gi_upto_region 11 with fail
      obtain ⟨W2, hW2⟩ : ∃ W2, W2 = W.alloc (.cells (natV (List.replicate S 0)).toArray 3) := ⟨_, rfl⟩
      obtain ⟨L, hL⟩ : ∃ L, L = W.heap.size := ⟨_, rfl⟩
      have BW := Lib.hid (show Below W.heap.size W W2 by rw [hW2]; exact (Below.refl _ _).alloc (Nat.le_refl _) _)
      have BL := Lib.hid (show Blk W2 L 3 (natV (List.replicate S 0)).toArray by rw [hW2]; exact blk_at hL.symm _ _)
      rw [← hW2, ← hL]
      have LG := Lib.hid (show w.heap.size + 3 ≤ L by omega)
      clear hmk2 z3 z6 ta
      have HR := Lib.hid hR
      have HS := Lib.hid hS
      have H1 := Lib.hid (hb1.below BW.out hb1.lt)
      have H2 := Lib.hid (hb2.below BW.out hb2.lt)
      have HB := Lib.hid (chain2 hB BW.out)
      have HM := Lib.hid (show Marks w.heap.size ds W2 from hM.keep fun k _ hk _ => (BW.out.block k (Array.getElem?_eq_some_iff.1 hk).1).trans hk)
      have HP := Lib.hid (show Blk W2 P 32 (pcs L R 0).toArray by rw [pcs_start, hR.1]; exact hP.below HB.out hP.lt)
      have BB := Lib.hid (hb.below HB.out hb.lt)
      have PL := Lib.hid hP.lt
      clear hW2 hL hb1 hb2 hb3 hR hS hB hs hM hP hb hA BW
      have z2 := H2.out.cell 0
      have z5 := H2.out.lt
      simp at z2
      gi_wp2
      gi_loopw [41, 7] (fun s41 s7 u => PieceRel P L n R W2 s41 s7 u) (fun s41 _ _ => n - (intOf s41).toNat)
      case atStart => exact ⟨0, by omega, rfl, by simp, HP.out, Save.refl _ _⟩
      case round =>
        obtain ⟨k, hk, rfl, rfl, hp, hs⟩ := hrel
        obtain ⟨T, hT⟩ : ∃ T, (R.take k).sum = T := ⟨_, rfl⟩
        have nP : w.heap.size ≠ P ∧ L ≠ P := by have := PL.out; have := LG.out; omega
        have h1 := hs.blk H1.out nP.1
        have hb := hs.blk BB.out ne1
        have rl := HR.out.1
        have T9 : T ≤ S := by rw [← hT, ← HS.out]; exact take_sum_le _ _
        rw [hT]
        have HPP := Lib.hid hp
        have HSS := Lib.hid hs
        have HT := Lib.hid hT
        by_cases hlt : k < n
        · obtain ⟨y, hy⟩ : ∃ y, R.getD k 0 = y := ⟨_, rfl⟩
          have e0 := natV_at R k (by omega)
          rw [hy] at e0
          have z1 := h1.cell k
          rw [List.getElem?_toArray, e0] at z1
          have z4 := h1.lt
          have x0 := hb.cell 1
          have x2 := hb.lt
          simp at x0
          have y0 := hp.cell k
          have y2 := hp.lt
          have y3 := hp.frozen k
          rw [List.getElem?_toArray, pcs_get, if_pos (by omega), if_neg (by omega)] at y0
          have Ty : T + y ≤ S := by rw [← hT, ← hy, ← take_sum_succ R k (by omega), ← HS.out]; exact take_sum_le _ _
          have NT := Lib.hid (show (R.take (k + 1)).sum = T + y by rw [take_sum_succ R k (by omega), hT, hy])
          have PS := Lib.hid (pcs_step L R k (by omega))
          have OF : offR R k = if y = 0 then 0 else T := by unfold offR; rw [hT, hy]
          rw [hy, OF] at PS
          have HO := Lib.hid OF
          clear OF
          have k0 : (0 : Int) ≤ (k : Int) := by omega
          have k1 : (k : Int) < (n : Int) := by omega
          obtain ⟨U, hU⟩ : ∃ U, T + y = U := ⟨_, rfl⟩
          have u0 : (T : Int) + (y : Int) = (U : Int) := by omega
          have t0 : (0 : Int) ≤ (T : Int) := by omega
          have t1 : (T : Int) ≤ (U : Int) := by omega
          have t2 : (U : Int) ≤ (S : Int) := by omega
          have t3 : T ≤ U := by omega
          have t4 : U ≤ S := by omega
          have t5 : U - T = y := by omega
          rw [hU] at NT
          clear hU Ty
          clear h1 hb hp hs hT hy e0
          gi_wp2
          refine wpIn_mono (Q := NoPanic _) ?_ NoPanic.imp
          gi_region
          refine NoPanic.normal ?_
          gi_wp2
          have ea : (if U = T then some (⟨L, 0, none⟩ : Addr) else some ⟨L, T, none⟩) = some ⟨L, if y = 0 then 0 else T, none⟩ := by
            by_cases q : U = T
            · rw [if_pos q, if_pos (by omega)]
            · rw [if_neg q, if_neg (by omega)]
          rw [ea]
          refine ⟨⟨k + 1, by omega, by simp, by rw [NT.out], ?_, (HSS.out.set k _).drew⟩, by simp [intOf]; omega⟩
          have q := (HPP.out.set_ k (.slice (some ⟨L, if y = 0 then 0 else T, none⟩) 0 y)).drew
          rw [List.setIfInBounds_toArray, PS.out] at q
          exact q
        · obtain rfl : k = n := by omega
          clear h1 hb hp hs hT
          gi_wp2
          refine leaves_marks ds _ (HM.out.keep fun i hi hd _ => (HSS.out.2 i (Array.getElem?_eq_some_iff.1 hd).1 (by have := PL.out; omega)).trans hd) ?_
          intro W' hlow hst
          refine ⟨_, results_none rfl _ _ _, ⟨_, rfl⟩, L, R, HR.out, ?_, hst.blk trivial HPP.out, ?_, by have := LG.out; omega⟩
          · refine ⟨((HB.out.mono (Nat.zero_le _)).trans HSS.out.1).trans (hlow.mono (Nat.zero_le _)), fun i hi hne => ?_⟩
            have z := HB.out.size
            exact (hlow.block i hi).trans ((HSS.out.2 i (by omega) hne).trans (HB.out.block i hi))
          · rw [HS.out]
            exact hst.blk trivial (HSS.out.blk BL.out nP.2)
end Go.Proofs.Ytajckihgfelbaaa.Adj
