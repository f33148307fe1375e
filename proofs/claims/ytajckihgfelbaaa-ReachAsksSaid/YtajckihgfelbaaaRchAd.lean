/- The document's answers for layer 6: free, Order. -/
import Derived.Test.YtajckihgfelbaaaRchAb
namespace Go.Proofs.Ytajckihgfelbaaa.Rch
open Go.RowKit Go.Proofs.Ytajckihgfelbaaa.Inst Go.Proofs.Ytajckihgfelbaaa.Adj
set_option maxRecDepth 100000

/-- By marks: each arc into it is out of one that was told. -/
def FreeB (I : InstD) (T : List Bool) (x : Nat) : Prop := ∀ m, ArcTo I m x → onB T m = true
theorem free_marks {I : InstD} {T : List Bool} {L : List Nat} (h : ∀ x, onB T x = true ↔ x ∈ L) (x : Nat) : FreeB I T x ↔ Free I L x := ⟨fun q m r => (h m).1 (q m r), fun q m r => (h m).2 (q m r)⟩
def FreeRel (W2 : World) (I : InstD) (T : List Bool) (x : Nat) (s7 : Value) (u : World) : Prop :=
  ∃ k : Nat, k ≤ I.arcs.length ∧ s7 = .int .i64 (k : Int) ∧ (∀ j : Nat, j < k → fitD I (j : Int) = true → (arcAt I.arcs j).to = (x : Int) → onB T (arcAt I.arcs j).frm.toNat = true) ∧ Below W2.heap.size W2 u
set_option maxHeartbeats 8000000 in
theorem rfree_any (A A2 ao : Option Addr) (c d ct n m : Nat) (I : InstD) (T : List Bool) (x : Nat) (w : World) (h : Here w A A2 n m I) (h1 : n ≤ 1000) (h2 : m ≤ 1000) (hT : T.length = n) (hx : x < n) (hA : Cells w w.heap.size ao (boolV T)) :
    Calls Try.prog 76 #[.agg #[.slice A n c, .slice A2 m d], .slice ao n ct, .int .i64 (x : Int)] w fun e w' => e = .returned (.bool (yes (FreeB I T x))) ∧ Below w.heap.size w w' := by
  obtain ⟨p, hp⟩ : ∃ p, p = w.heap.size := ⟨_, rfl⟩
  obtain ⟨W2, hW2⟩ : ∃ W2, W2 = w.alloc (.cells #[.slice A n c, .slice A2 m d] 25) := ⟨_, rfl⟩
  have V2 := Lib.hid (show IVar W2 p A A2 c d n m I by rw [hW2]; exact IVar.new h hp)
  have B2 := Lib.hid (show Below w.heap.size w W2 by rw [hW2]; exact (Below.refl _ _).alloc (Nat.le_refl _) _)
  have VI := Lib.hid (fun u (hu : Below W2.heap.size W2 u) => V2.out.later hu)
  obtain ⟨b, off, ea, hbl, hcell⟩ := bools_at hA (by omega)
  have TC := Lib.hid (fun u (hu : Below W2.heap.size W2 u) (k : Nat) (hk : k < n) => (show u.cell? ⟨b, off + k, none⟩ = some (.bool (onB T k)) from by
    rw [onB_at (by omega)]
    exact ((chain2 B2.out hu).cell (p := ⟨b, off + k, none⟩) hbl).trans (hcell k (by omega))))
  have TL := Lib.hid (fun u (hu : Below W2.heap.size W2 u) => (show b < u.heap.size from Nat.lt_of_lt_of_le hbl (chain2 B2.out hu).size))
  subst ea
  have HN := Lib.hid h.n
  have HM := Lib.hid h.m
  have HP := Lib.hid hp
  have HW := Lib.hid hW2
  clear h hp hW2 hA hcell hbl
  go_enter Try.func76, Try.ntmps76
  go_wp2_with fail
  rw [← HW.out, ← HP.out]
  go_loopw [7, 8, 9] (fun s7 _ _ u => FreeRel W2 I T x s7 u) (fun s7 _ _ _ => m - (intOf s7).toNat)
  case atStart => exact ⟨0, Nat.zero_le _, rfl, fun j hj => absurd hj (Nat.not_lt_zero _), Below.refl _ _⟩
  case round =>
    obtain ⟨k, hk, rfl, hd, hb⟩ := hrel
    rw [HM.out] at hk
    have UD := Lib.hid hd
    have UB := Lib.hid hb
    obtain ⟨x0, x1, x2⟩ := (VI.out _ hb).cells
    clear hd hb
    by_cases hlt : k < m
    · have kl : (k : Int) < (m : Int) := by omega
      have AR := Lib.hid (fun y f hx hf => rarc_any A A2 c d n m I (k : Int) y f hx hf wr (VI.out _ UB.out).is)
      cases hf : fitD I (k : Int) with
      | true =>
        obtain ⟨xa, ya, hxa, hya, xn, yn, -, ar⟩ := fit_nats hf
        have AC := Lib.hid (AR.out _ true rfl hf)
        have ex : arcD I (k : Int) = arcAt I.arcs k := by unfold arcD; rw [if_pos hf]; rfl
        rw [ex] at AC
        have EX := Lib.hid (And.intro hxa hya)
        obtain ⟨y, hy'⟩ : ∃ y, y = arcAt I.arcs k := ⟨_, rfl⟩
        rw [← hy'] at AC hxa hya
        obtain ⟨y0, z0, y2, y3, y4⟩ := y
        simp only at hxa hya
        subst hxa hya
        rw [HN.out] at xn yn
        have HF := Lib.hid (And.intro hf ar)
        clear hy' hf ex AR ar
        go_wp2_with fail
        refine AC.out.mono ?_
        rintro e u1 ⟨rfl, hb⟩
        obtain ⟨u2, hu2⟩ : ∃ u2, u2 = u1.alloc (.cells #[.int .i64 (xa : Int), .int .i64 (ya : Int), .int .i64 y2, .int .i64 y3, .int .i64 y4] 36) := ⟨_, rfl⟩
        have BU := Lib.hid (chain2 UB.out (show Below wr.heap.size wr u2 by rw [hu2]; exact hb.alloc hb.size _))
        have AB : Blk u2 u1.heap.size 36 #[.int .i64 (xa : Int), .int .i64 (ya : Int), .int .i64 y2, .int .i64 y3, .int .i64 y4] := by rw [hu2]; exact Blk.new _ _ _
        have a0 := AB.cell 0
        have a1 := AB.cell 1
        have a2 := AB.lt
        simp at a0 a1
        have HU := Lib.hid hu2
        have c1 := TC.out u2 BU.out xa xn
        have c2 := TL.out u2 BU.out
        have p0 : (0 : Int) ≤ (xa : Int) := by omega
        have p1 : (xa : Int) < (n : Int) := by omega
        clear hu2 hb AB x0 x1 x2
        go_upto_region 5 with fail
        rw [← HU.out]
        by_cases e1 : ya = x
        · subst e1
          have t1 : ((ya : Int) == (ya : Int)) = true := by simp
          cases hv : onB T xa with
          | true =>
            rw [hv] at c1
            have HV := Lib.hid hv
            clear hv
            go_wp2_with fail
            refine ⟨⟨k + 1, by rw [HM.out]; omega, by simp, fun j hj q1 q2 => ?_, BU.out⟩, by simp [intOf]; omega⟩
            by_cases c : j = k
            · subst c
              rw [EX.out.1, Int.toNat_natCast]
              exact HV.out
            · exact UD.out j (by omega) q1 q2
          | false =>
            rw [hv] at c1
            have HV := Lib.hid hv
            clear hv
            go_wp2_with fail
            go_ret
            refine ⟨?_, chain2 B2.out BU.out⟩
            rw [yes_false (fun q => by have := q xa HF.out.2; rw [HV.out] at this; cases this)]
            rfl
        · have t1 : ((ya : Int) == (x : Int)) = false := by simp; omega
          have E1 := Lib.hid e1
          clear e1
          go_wp2_with fail
          refine ⟨⟨k + 1, by rw [HM.out]; omega, by simp, fun j hj q1 q2 => ?_, BU.out⟩, by simp [intOf]; omega⟩
          by_cases c : j = k
          · subst c
            exfalso
            rw [EX.out.2] at q2
            exact E1.out (Int.ofNat_inj.1 q2)
          · exact UD.out j (by omega) q1 q2
      | false =>
        have AC := Lib.hid (AR.out _ false rfl hf)
        have HF := Lib.hid hf
        obtain ⟨y, hy⟩ : ∃ y, y = arcD I (k : Int) := ⟨_, rfl⟩
        rw [← hy] at AC
        obtain ⟨y0, z0, y2, y3, y4⟩ := y
        clear hy hf AR
        go_wp2_with fail
        refine AC.out.mono ?_
        rintro e u1 ⟨rfl, hb⟩
        obtain ⟨u2, hu2⟩ : ∃ u2, u2 = u1.alloc (.cells #[.int .i64 y0, .int .i64 z0, .int .i64 y2, .int .i64 y3, .int .i64 y4] 36) := ⟨_, rfl⟩
        have BU := Lib.hid (chain2 UB.out (show Below wr.heap.size wr u2 by rw [hu2]; exact hb.alloc hb.size _))
        have HU := Lib.hid hu2
        clear hu2 hb x0 x1 x2
        go_upto_region 5 with fail
        rw [← HU.out]
        go_wp2_with fail
        refine ⟨⟨k + 1, by rw [HM.out]; omega, by simp, fun j hj q1 q2 => ?_, BU.out⟩, by simp [intOf]; omega⟩
        by_cases c : j = k
        · subst c
          rw [HF.out] at q1
          cases q1
        · exact UD.out j (by omega) q1 q2
    · obtain rfl : k = m := by omega
      go_wp2_with fail
      go_ret
      refine ⟨?_, chain2 B2.out UB.out⟩
      rw [yes_true (show FreeB I T x from fun a ha => by
        obtain ⟨j, q1, q2, q3⟩ := ha
        have := UD.out j (by have := fit_parts q1; rw [HM.out] at this; omega) q1 q3
        rw [q2, Int.toNat_natCast] at this
        exact this)]
      rfl

def lenV : Value → Nat
  | .slice _ n _ => n
  | _ => 0
/-- At the heads of Order's loops. -/
def OrdR (w1 : World) (M : Nat) (I : InstD) (s5 : Value) (u : World) : Prop :=
  ∃ (L : List Nat) (T : List Bool) (A : Option Addr) (cap : Nat), s5 = .slice A L.length cap ∧ u.ownsRow w1.heap.size 3 1 (.slice A L.length cap) L.length (natV L) ∧ Blk u M 4 (boolV T).toArray ∧ T.length = I.sup.length ∧ (∀ x, onB T x = true ↔ x ∈ L) ∧ L = orderN I L.length ∧ L.length ≤ I.sup.length ∧ Kp (fun k => k = M) w1 u
noncomputable def nextP (I : InstD) (L : List Nat) (x : Nat) : Bool := yes (x ∉ L ∧ Free I L x)
noncomputable def nextFrom (I : InstD) (L : List Nat) (j : Nat) : Int := match ((List.range I.sup.length).drop j).find? (nextP I L) with
  | none => -1
  | some x => (x : Int)
theorem nextFrom_end (I : InstD) (L : List Nat) : nextFrom I L I.sup.length = -1 := by
  unfold nextFrom
  rw [List.drop_of_length_le (by rw [List.length_range]; exact Nat.le_refl _)]
  rfl
theorem nextFrom_step (I : InstD) (L : List Nat) (j : Nat) (h : j < I.sup.length) : nextFrom I L j = if nextP I L j = true then (j : Int) else nextFrom I L (j + 1) := by
  unfold nextFrom
  rw [List.drop_eq_getElem_cons (by rw [List.length_range]; exact h), List.getElem_range, List.find?_cons]
  cases nextP I L j <;> rfl
theorem nextFrom_zero (I : InstD) (L : List Nat) : nextFrom I L 0 = match nextD I L with
  | none => -1
  | some x => (x : Int) := rfl
def NextRel (U : World) (I : InstD) (L : List Nat) (s6 s7 : Value) (u : World) : Prop :=
  ∃ j : Nat, j ≤ I.sup.length ∧ s7 = .int .i64 ((j : Int) - 1) ∧ s6 = .int .i64 (nextFrom I L j) ∧ Below U.heap.size U u
set_option maxHeartbeats 8000000 in
theorem rorder_any (A A2 : Option Addr) (c d n m : Nat) (I : InstD) (w : World) (h : Here w A A2 n m I) (h1 : n ≤ 1000) (h2 : m ≤ 1000) :
    Calls Try.prog 42 #[.agg #[.slice A n c, .slice A2 m d]] w (TellsOrder I w) := by
  have MK := fun W => make_bools n h1 W
  obtain ⟨p, hp⟩ : ∃ p, p = w.heap.size := ⟨_, rfl⟩
  obtain ⟨W2, hW2⟩ : ∃ W2, W2 = w.alloc (.cells #[.slice A n c, .slice A2 m d] 25) := ⟨_, rfl⟩
  obtain ⟨M, hM⟩ : ∃ M, M = w.heap.size + 1 := ⟨_, rfl⟩
  have s2 : W2.heap.size = M := by rw [hW2, hM]; simp
  obtain ⟨w1, hw1⟩ : ∃ w1, w1 = W2.alloc (.cells (boolV (List.replicate n false)).toArray 4) := ⟨_, rfl⟩
  have V2 : IVar W2 p A A2 c d n m I := by rw [hW2]; exact IVar.new h hp
  have B2 := Lib.hid (show Below w.heap.size w W2 by rw [hW2]; exact (Below.refl _ _).alloc (Nat.le_refl _) _)
  have B1 := Lib.hid (show Below W2.heap.size W2 w1 by rw [hw1]; exact (Below.refl _ _).alloc (Nat.le_refl _) _)
  have BM := Lib.hid (show Blk w1 M 4 (boolV (List.replicate n false)).toArray by rw [← s2, hw1]; exact Blk.new _ _ _)
  have VI := Lib.hid (fun u (hu : Kp (fun k => k = M) w1 u) => V2.later (B1.out.trans (hu.below (fun k hk => by omega) (by have := B1.out.size; omega))))
  have BK := Lib.hid (fun u (hu : Kp (fun k => k = M) w1 u) => (show Below w.heap.size w u from chain2 B2.out (B1.out.trans (hu.below (fun k hk => by omega) (by have := B1.out.size; omega)))))
  have M1 := Lib.hid (show M < w1.heap.size from BM.out.lt)
  have HN := Lib.hid h.n
  have HP := Lib.hid hp
  have HM := Lib.hid hM
  have HW2 := Lib.hid hW2
  have HW1 := Lib.hid hw1
  obtain ⟨i0, hi0, hz0, hz1, hz2⟩ := info_parts info_int
  have G0 := Lib.hid hi0
  have G1 := Lib.hid hz0
  have G2 := Lib.hid hz1
  have G3 := Lib.hid hz2
  obtain ⟨x0, x1, x2⟩ := V2.cells
  clear hi0 hz0 hz1 hz2 h hp hW2 hw1 V2 s2 hM
  go_enter Try.func42, Try.ntmps42
  go_wp2_with fail
  rw [← HW2.out, ← HP.out, ← HW1.out, HP.out, ← HM.out, ← HP.out]
  clear MK x0 x1 x2
  go_loopw [5, 6, 7] (fun s5 _ _ u => OrdR w1 M I s5 u) (fun s5 _ _ _ => n - lenV s5)
  case atStart => exact ⟨[], List.replicate n false, none, 0, rfl, ⟨rfl, .inl ⟨rfl, rfl⟩⟩, BM.out, by rw [HN.out]; simp, fun x => by rw [onB_none]; simp, rfl, Nat.zero_le _, Kp.refl _ _⟩
  case round =>
    obtain ⟨L, T, B, cap, rfl, ho, hb, hl, ht, he, hle, hk⟩ := hrel
    have UO := Lib.hid ho
    have UB := Lib.hid hb
    have UT := Lib.hid ht
    have UE := Lib.hid he
    have UK := Lib.hid hk
    have UL := Lib.hid hl
    rw [HN.out] at hle hl
    obtain ⟨x0, x1, x2⟩ := (VI.out _ hk).cells
    obtain ⟨t, hte⟩ : ∃ t, t = L.length := ⟨_, rfl⟩
    rw [← hte] at hle UO UE ⊢
    have HT := Lib.hid hte
    clear ho hb ht he hk hte
    by_cases hlt : t < n
    · have tl : (t : Int) < (n : Int) := by omega
      have n0 : (n : Int) - 1 < 9223372036854775808 := by omega
      go_wp2_with fail
      go_loopw [6, 7] (fun s6 s7 u => NextRel wr I L s6 s7 u) (fun _ s7 _ => (intOf s7 + 1).toNat)
      case atStart => exact ⟨n, by rw [HN.out]; exact Nat.le_refl _, rfl, by rw [← HN.out, nextFrom_end], Below.refl _ _⟩
      case round =>
        obtain ⟨j, hj, rfl, rfl, hb⟩ := hrel
        rw [HN.out] at hj
        have NB := Lib.hid hb
        have KU := Lib.hid (UK.out.trans (Kp.of hb (Nat.le_refl _)))
        have UB2 := Lib.hid (UB.out.below hb UB.out.lt)
        clear hb x0 x1 x2
        obtain ⟨x0, x1, x2⟩ := (VI.out _ KU.out).cells
        by_cases j0 : j = 0
        · subst j0
          have t1 : ¬ (0 : Int) ≤ ((0 : Nat) : Int) - 1 := by omega
          have ZZ := Lib.hid (nextFrom_zero I L)
          cases hnx : nextD I L with
          | none =>
            have Z := Lib.hid (show nextFrom I L 0 = -1 by rw [ZZ.out, hnx])
            have E := Lib.hid (order_end (by rw [← HT.out]; exact UE.out) hnx)
            have F := Lib.hid (ok_false (I := I) (by rw [← E.out, ← HT.out, HN.out]; omega))
            rw [Z.out]
            clear hnx ZZ
            go_wp2_with fail
            go_ret2
            refine ⟨none, 0, ?_, by rw [F.out.2]; exact Nat.le_refl _, ?_, BK.out _ KU.out⟩
            · rw [F.out.1, F.out.2]
              rfl
            · rw [F.out.2]
              exact fun h0 => absurd h0 (by simp [natV, numV])
          | some x =>
            have Z := Lib.hid (show nextFrom I L 0 = (x : Int) by rw [ZZ.out, hnx])
            obtain ⟨xs, xf, -⟩ := next_some.1 hnx
            rw [HN.out] at xs
            have E := Lib.hid (orderN_some (k := t) (by rw [← UE.out]; exact hnx))
            rw [Z.out]
            have y0 : ¬ (x : Int) < 0 := by omega
            have y1 : (0 : Int) ≤ (x : Int) := by omega
            have y2 : (x : Int) < (n : Int) := by omega
            have y3 := UB2.out.lt
            have y4 := UB2.out.frozen x
            have y5 := blk_bit UB2.out x (by rw [UL.out, HN.out]; omega)
            have UO2 := Lib.hid (own_later UO.out NB.out)
            obtain ⟨w9, hw9⟩ : ∃ w9, w9 = wr.setCell ⟨M, x, none⟩ (.bool true) := ⟨_, rfl⟩
            have K9 := Lib.hid (show Kp (fun k => k = M) w1 w9 by rw [hw9]; exact KU.out.set M x _ (fun _ => rfl))
            have O9 := Lib.hid (show w9.ownsRow w1.heap.size 3 1 (.slice B t cap) t (natV L) by rw [hw9]; exact own_far UO2.out (fun e => by have h : w1.heap.size ≤ M := own_ge UO2.out _ e; have := M1.out; omega) _)
            have B9 := Lib.hid (show Blk w9 M 4 (boolV (T.set x true)).toArray by rw [hw9, ← boolV_set]; exact UB2.out.set_ x _)
            have H9 := Lib.hid hw9
            have s9 := K9.out.size
            clear hnx ZZ hw9
            go_upto_region 13 with fail
            rw [← H9.out]
            go_wp2_with (
              at_builtin
              refine wpList_append_own _ rfl _ _ 32 rfl w1.heap.size 3 i0 _ 1 8 Try.underlying32 G0.out G1.out G2.out G3.out rfl (by decide) _ _ _ rfl (O9.out.alloc _) ⟨w9.heap.size, 0, none⟩ 1 1 [.int .i64 (x : Int)] rfl rfl ?c1 ?c2 ?c3 ?c4 ?c5 ?_
              case c1 => first | exact cell_one_new _ _ _ | (intro j u hu; simp at hu ⊢; exact cell_one_new _ _ _ j u (by simpa using hu))
              case c2 => simp [Value.oneCell']
              case c3 => simp only [maxLen]; omega
              case c4 => omega
              case c5 => simp; omega
              intro v' u2 hown hgrow _
              have OW := Lib.hid hown
              have GR := Lib.hid hgrow
              clear hown hgrow)
            obtain ⟨-, A9, c9, rfl, hc9, -, -⟩ := own_cells OW.out
            refine ⟨⟨L ++ [x], T.set x true, A9, c9, by rw [List.length_append, ← HT.out]; rfl, ?_, ?_, by rw [List.length_set]; exact UL.out, fun j => ?_, ?_, by rw [List.length_append, ← HT.out, HN.out]; show t + 1 ≤ n; omega, ?_⟩, by simp [lenV]; omega⟩
            · rw [List.length_append, ← HT.out, natV_snoc]
              exact OW.out
            · exact (GR.out.block M (by have := B9.out.lt; simp; omega) (fun e => by have h : w1.heap.size ≤ M := own_ge O9.out _ e.symm; have := M1.out; omega)).trans (B9.out.alloc _)
            · rw [onB_set T x j (by rw [UL.out, HN.out]; omega), UT.out j, List.mem_append, List.mem_singleton]
              exact or_comm
            · rw [List.length_append, ← HT.out, UE.out]
              show _ = orderN I (t + 1)
              exact E.out.symm
            · exact ((K9.out.alloc _).grown GR.out (fun g h1 h2 => by have := own_ge O9.out g h1; omega))
        · obtain ⟨i, rfl⟩ : ∃ i, j = i + 1 := ⟨j - 1, by omega⟩
          have e1 : ((i + 1 : Nat) : Int) - 1 = (i : Int) := by omega
          rw [e1]
          have ii0 : (0 : Int) ≤ (i : Int) := by omega
          have ii1 : (i : Int) < (n : Int) := by omega
          have ST := Lib.hid (nextFrom_step I L i (by rw [HN.out]; omega))
          have c1 := blk_bit UB2.out i (by rw [UL.out, HN.out]; omega)
          have c2 := UB2.out.lt
          have FR := Lib.hid (rfree_any A A2 (some ⟨M, 0, none⟩) c d n n m I T i wr (VI.out _ KU.out).is h1 h2 (by rw [UL.out, HN.out]) (by omega) (cells_blk UB2.out))
          rw [yes_same (free_marks UT.out i)] at FR
          cases hv : onB T i with
          | true =>
            rw [hv] at c1
            have P := Lib.hid (show nextP I L i = false from yes_false (fun q => q.1 ((UT.out i).1 hv)))
            clear hv FR
            go_wp2_with fail
            refine ⟨⟨i, by rw [HN.out]; omega, by simp, by rw [ST.out, P.out]; rfl, NB.out⟩, by simp [intOf]⟩
          | false =>
            rw [hv] at c1
            have HV := Lib.hid (show i ∉ L from fun q => by rw [(UT.out i).2 q] at hv; cases hv)
            clear hv
            by_cases fr : Free I L i
            · rw [yes_true fr] at FR
              have P := Lib.hid (show nextP I L i = true from yes_true ⟨HV.out, fr⟩)
              clear fr
              go_wp2_with fail
              refine FR.out.mono ?_
              rintro e u2 ⟨rfl, hb⟩
              have B2 := Lib.hid (chain2 NB.out hb)
              clear hb
              go_wp2_with fail
              refine ⟨⟨i, by rw [HN.out]; omega, by simp, by rw [ST.out, P.out]; rfl, B2.out⟩, by simp [intOf]⟩
            · rw [yes_false fr] at FR
              have P := Lib.hid (show nextP I L i = false from yes_false (fun q => fr q.2))
              clear fr
              go_wp2_with fail
              refine FR.out.mono ?_
              rintro e u2 ⟨rfl, hb⟩
              have B2 := Lib.hid (chain2 NB.out hb)
              clear hb
              go_wp2_with fail
              refine ⟨⟨i, by rw [HN.out]; omega, by simp, by rw [ST.out, P.out]; rfl, B2.out⟩, by simp [intOf]⟩
    · obtain rfl : t = n := by omega
      have E := Lib.hid (order_full (by rw [← HT.out]; exact UE.out) (by rw [← HT.out, HN.out]))
      have F := Lib.hid (ok_true (I := I) (by rw [← E.out, ← HT.out, HN.out]))
      obtain ⟨-, RA, rc, ev, hc, -, hcs⟩ := own_cells UO.out
      cases ev
      have RC := Lib.hid hcs
      have t1 : ¬ (t : Int) < (t : Int) := by omega
      have BW := Lib.hid (BK.out _ UK.out)
      clear hcs
      go_wp2_with fail
      go_ret2
      refine ⟨B, cap, ?_, by rw [F.out.2, ← E.out, ← HT.out]; exact hc, ?_, BW.out⟩
      · rw [F.out.1, F.out.2, ← E.out, ← HT.out]
        rfl
      · rw [F.out.2, ← E.out]
        exact RC.out
end Go.Proofs.Ytajckihgfelbaaa.Rch
