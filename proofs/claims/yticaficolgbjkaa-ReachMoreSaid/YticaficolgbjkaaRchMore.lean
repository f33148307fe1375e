/- The law ReachMore: its walk. -/
import Derived.Test.YticaficolgbjkaaRchTurned
import Derived.Laws.AppendOwnNone
namespace Go.Proofs.Yticaficolgbjkaa.Rch
open Go.RowKit Go.Proofs.Yticaficolgbjkaa.Inst Go.Proofs.Yticaficolgbjkaa.Adj
set_option maxRecDepth 100000

def zeroA (x : ArcD) : ArcD := ⟨x.frm, x.to, x.low, 0, 1⟩
def zeroN (L : List ArcD) (k : Nat) : List ArcD := (L.take k).map zeroA ++ L.drop k
def zeroD (I : InstD) : InstD := ⟨I.sup, I.arcs.map zeroA⟩
theorem zeroN_zero (L : List ArcD) : zeroN L 0 = L := by simp [zeroN]
theorem zeroN_all (L : List ArcD) : zeroN L L.length = L.map zeroA := by simp [zeroN]
theorem zeroN_length (L : List ArcD) (k : Nat) : (zeroN L k).length = L.length := by simp [zeroN]; omega
theorem zeroN_mid (L : List ArcD) (k : Nat) (h : k < L.length) : zeroN L k = (L.take k).map zeroA ++ arcAt L k :: L.drop (k + 1) := by
  unfold zeroN
  rw [List.drop_eq_getElem_cons h, arcAt_get L k h]
theorem zeroN_succ (L : List ArcD) (k : Nat) (h : k < L.length) : zeroN L (k + 1) = (L.take k).map zeroA ++ zeroA (arcAt L k) :: L.drop (k + 1) := by
  unfold zeroN
  rw [List.take_succ_eq_append_getElem h, List.map_append, arcAt_get L k h]
  simp
theorem zeroN_step (L : List ArcD) (k : Nat) (h : k < L.length) :
    ((zeroN L k).set k (setF (arcAt (zeroN L k) k) 3 0)).set k (setF (arcAt ((zeroN L k).set k (setF (arcAt (zeroN L k) k) 3 0)) k) 4 1) = zeroN L (k + 1) := by
  have hp : ((L.take k).map zeroA).length = k := by simp; omega
  rw [zeroN_succ L k h, zeroN_mid L k h, at_mid _ _ _ _ hp, set_mid _ _ _ _ _ hp, at_mid _ _ _ _ hp, set_mid _ _ _ _ _ hp]
  rfl
theorem arcAt_zero (L : List ArcD) (k : Nat) (h : k < L.length) : arcAt (L.map zeroA) k = zeroA (arcAt L k) := by
  rw [arcAt_get _ _ (by simpa using h), arcAt_get _ _ h]
  simp
theorem fit_zero (I : InstD) (a : Int) : fitD (zeroD I) a = fitD I a := by
  unfold fitD zeroD
  rw [decide_eq_decide]
  simp only [List.length_map]
  constructor
  all_goals
    rintro ⟨h0, h1, h⟩
    have q : a.toNat < I.arcs.length := by omega
    rw [arcAt_zero _ _ q] at *
    exact ⟨h0, h1, h⟩
theorem zero_arc (I : InstD) : ArcTo (zeroD I) = ArcTo I := by
  funext a b
  apply propext
  constructor
  · rintro ⟨k, hf, h1, h2⟩
    rw [fit_zero] at hf
    obtain ⟨_, _, _, _, _, _, hk, _⟩ := fit_nats hf
    change (arcAt (I.arcs.map zeroA) k).frm = _ at h1
    change (arcAt (I.arcs.map zeroA) k).to = _ at h2
    rw [arcAt_zero _ _ hk] at h1 h2
    exact ⟨k, hf, h1, h2⟩
  · rintro ⟨k, hf, h1, h2⟩
    obtain ⟨_, _, _, _, _, _, hk, _⟩ := fit_nats hf
    refine ⟨k, by rw [fit_zero]; exact hf, ?_, ?_⟩
    · show (arcAt (I.arcs.map zeroA) k).frm = _
      rw [arcAt_zero _ _ hk]
      exact h1
    · show (arcAt (I.arcs.map zeroA) k).to = _
      rw [arcAt_zero _ _ hk]
      exact h2
theorem zero_from (I : InstD) (S : List Int) : fromL (zeroD I) S = fromL I S := by
  unfold fromL
  rw [zero_arc]
  rfl

def agN (L : List Bool) (k : Nat) : List Int := ((List.range k).filter fun n => onB L n).map fun (n : Nat) => (n : Int)
theorem agN_yes {L : List Bool} {k : Nat} (h : onB L k = true) : agN L (k + 1) = agN L k ++ [(k : Int)] := by
  unfold agN
  rw [List.range_succ, List.filter_append, List.map_append]
  simp [h]
theorem agN_no {L : List Bool} {k : Nat} (h : onB L k = false) : agN L (k + 1) = agN L k := by
  unfold agN
  rw [List.range_succ, List.filter_append, List.map_append]
  simp [h]
theorem agN_len (L : List Bool) (k : Nat) : (agN L k).length ≤ k := by
  unfold agN
  rw [List.length_map]
  exact Nat.le_trans (List.length_filter_le _ _) (by simp)
theorem mem_ag {L : List Bool} {k a : Nat} : (a : Int) ∈ agN L k ↔ a < k ∧ onB L a = true := by
  unfold agN
  simp only [List.mem_map, List.mem_filter, List.mem_range]
  constructor
  · rintro ⟨x, hx, e⟩
    have := Int.ofNat_inj.1 e
    subst this
    exact hx
  · exact fun h => ⟨a, h, rfl⟩
theorem ag_small (L : List Bool) (k : Nat) (hk : k ≤ 1000) : ∀ x ∈ agN L k, I64 x := by
  intro x hx
  unfold agN at hx
  simp only [List.mem_map, List.mem_filter, List.mem_range] at hx
  obtain ⟨y, ⟨hy, _⟩, rfl⟩ := hx
  unfold I64
  omega
theorem on_from {I : InstD} {S : List Int} {a : Nat} (h : a < I.sup.length) : onB (fromL I S) a = true ↔ Hit I.sup.length (ArcTo I) S a := by
  have hl : a < (fromL I S).length := by rw [fromL_len]; exact h
  rw [onB_at hl]
  unfold fromL at hl ⊢
  rw [metL_at]
  exact yes_iff
theorem ag_from (I : InstD) (S : List Int) : fromL I (agN (fromL I S) I.sup.length) = fromL I S := by
  show metL _ _ _ = metL _ _ _
  unfold metL
  apply List.map_congr_left
  intro k hk
  rw [List.mem_range] at hk
  apply yes_same
  constructor
  · rintro ⟨a, h1, h2, h3⟩
    obtain ⟨b, g1, g2, g3⟩ := (on_from h2).1 (mem_ag.1 h1).2
    exact ⟨b, g1, g2, g3.trans h3⟩
  · intro h
    exact ⟨k, mem_ag.2 ⟨hk, (on_from hk).2 h⟩, hk, .refl k⟩
theorem from_more {I : InstD} {S T : List Int} {a : Nat} (h : a < I.sup.length) (g : onB (fromL I S) a = true) : onB (fromL I (S ++ T)) a = true := by
  obtain ⟨b, g1, g2, g3⟩ := (on_from h).1 g
  exact (on_from h).2 ⟨b, List.mem_append_left _ g1, g2, g3⟩
theorem onb_at {w : World} {A : Option Addr} {l : List Bool} {n : Nat} (h : Cells w w.heap.size A (boolV l)) (hn : l.length = n) (h0 : 0 < n) :
    ∃ b off, A = some ⟨b, off, none⟩ ∧ b < w.heap.size ∧ ∀ k, k < n → w.cell? ⟨b, off + k, none⟩ = some (.bool (onB l k)) := by
  obtain ⟨b, off, e, hb, hc⟩ := bools_at h (by omega)
  refine ⟨b, off, e, hb, fun k hk => ?_⟩
  rw [hc k (by omega), onB_at (by omega)]
def AgRel (U : World) (L : List Bool) (n : Nat) (s14 s15 : Value) (u : World) : Prop :=
  ∃ k : Nat, k ≤ n ∧ s15 = .int .i64 (k : Int) ∧ u.ownsRow U.heap.size 3 1 s14 (agN L k).length (numV (agN L k)) ∧ Below U.heap.size U u
def ZeroRel (W3 : World) (q sB : Nat) (B : Option Addr) (n m cap : Nat) (I : InstD) (s : Value) (u : World) : Prop :=
  ∃ k : Nat, k ≤ m ∧ s = .int .i64 (k : Int) ∧ Made W3 u sB (.slice B m cap) I.sup (zeroN I.arcs k) ∧ Blk u q 25 #[.slice (some ⟨sB, 0, none⟩) n n, .slice B m cap]
theorem num_one (X : List Int) : ∀ u ∈ numV X, u.oneCell' = true := by
  intro u hu
  unfold numV at hu
  rw [List.mem_map] at hu
  obtain ⟨y, _, rfl⟩ := hu
  rfl

set_option maxHeartbeats 16000000 in
theorem more_walk {W : World} (s : Option Addr) (l c : Nat) (xs : List Nat) (hl : xs.length = l) (h9 : l ≤ 140737488355328) (hx : Octs xs) (hs : Cells W W.heap.size s (octV xs)) (s' : Option Addr) (l' c' : Nat) (ys : List Nat) (hl' : ys.length = l') (h9' : l' ≤ 140737488355328) (hy : Octs ys) (hs' : Cells W W.heap.size s' (octV ys))
    (s'' : Option Addr) (l'' c'' : Nat) (zs : List Nat) (hl'' : zs.length = l'') (h9'' : l'' ≤ 140737488355328) (hz : Octs zs) (hs'' : Cells W W.heap.size s'' (octV zs))
    (s3 : Option Addr) (l3 c3 : Nat) (vs : List Nat) (hl3 : vs.length = l3) (h93 : l3 ≤ 140737488355328) (hv : Octs vs) (hs3 : Cells W W.heap.size s3 (octV vs)) :
    Calls Try.prog 7 #[.slice s l c, .slice s' l' c', .slice s'' l'' c'', .slice s3 l3 c3] W fun e W' => e = .returned (.bool true) ∧ Below W.heap.size W W' := by
  obtain ⟨i0, hi0, hz0, hz1, hz2⟩ := info_parts info_int
  have G0 := Lib.hid hi0
  have G1 := Lib.hid hz0
  have G2 := Lib.hid hz1
  have G3 := Lib.hid hz2
  obtain ⟨I, hI⟩ : ∃ I, I = instC xs ys := ⟨_, rfl⟩
  obtain ⟨n, hn⟩ : ∃ n, nodesC ys = n := ⟨_, rfl⟩
  obtain ⟨m, hm⟩ : ∃ m, I.arcs.length = m := ⟨_, rfl⟩
  have j0 : I.sup.length = n := by rw [hI, instC_sup, hn]
  have n7 : n ≤ 7 ∧ 1 ≤ n := by rw [← hn]; exact ⟨(nodesC_bd ys).2, (nodesC_bd ys).1⟩
  have m18 : m ≤ 18 := by rw [← hm, hI]; exact instC_arcs xs ys
  have IN := Lib.hid (fun w (h : Below W.heap.size W w) => inst_here s l c xs hl h9 hx s' l' c' ys hl' h9' hy hI hn hm w (hs.later (Nat.le_refl _) h) (hs'.later (Nat.le_refl _) h))
  have SO := Lib.hid (fun w (h : Below W.heap.size W w) => some_any s'' c'' zs l'' hl'' hz h9'' w (hs''.later (Nat.le_refl _) h))
  have SP := Lib.hid (fun w (h : Below W.heap.size W w) => some_any s3 c3 vs l3 hl3 hv h93 w (hs3.later (Nat.le_refl _) h))
  obtain ⟨S, hso⟩ : ∃ S, S = someC zs := ⟨_, rfl⟩
  have so6 : S.length ≤ 6 := by rw [hso]; exact someC_length zs
  have SI := Lib.hid (show ∀ x ∈ S, I64 x by rw [hso]; exact someC_small zs)
  obtain ⟨t, ht⟩ : ∃ t, S.length = t := ⟨_, rfl⟩
  rw [← hso, ht] at SO
  rw [ht] at so6
  obtain ⟨T, hto⟩ : ∃ T, T = someC vs := ⟨_, rfl⟩
  have to6 : T.length ≤ 6 := by rw [hto]; exact someC_length vs
  have TI := Lib.hid (show ∀ x ∈ T, I64 x by rw [hto]; exact someC_small vs)
  obtain ⟨t2, ht2⟩ : ∃ t, T.length = t := ⟨_, rfl⟩
  rw [← hto, ht2] at SP
  rw [ht2] at to6
  obtain ⟨X, hX⟩ : ∃ X, X = S ++ T := ⟨_, rfl⟩
  have XI := Lib.hid (show ∀ x ∈ X, I64 x by
    rw [hX]
    intro x hx
    rcases List.mem_append.1 hx with h | h
    · exact SI.out x h
    · exact TI.out x h)
  have HX := Lib.hid hX
  have HN := Lib.hid j0
  have HM := Lib.hid hm
  have HT := Lib.hid ht
  have HT2 := Lib.hid ht2
  obtain ⟨n7, n1⟩ := n7
  have KN := Lib.hid (fun u => known_any u)
  clear hI hn hm j0 hs hs' hx hy hs'' hz hso ht hs3 hv hto ht2 hX hi0 hz0 hz1 hz2
  go_enter Try.func7, Try.ntmps7
  go_wp2_with fail
  refine (IN.out _ (Below.refl _ _)).mono ?_
  rintro e w1 ⟨sA, A, ca, rfl, -, hh, hb⟩
  obtain ⟨p, hp⟩ : ∃ p, p = w1.heap.size := ⟨_, rfl⟩
  obtain ⟨W2, hW2⟩ : ∃ W2, W2 = w1.alloc (.cells #[.slice (some ⟨sA, 0, none⟩) n n, .slice A m ca] 25) := ⟨_, rfl⟩
  have V2 := Lib.hid (show IVar W2 p _ _ n ca n m I by rw [hW2]; exact IVar.new hh hp)
  have B2 := Lib.hid (show Below W.heap.size W W2 by rw [hW2]; exact hb.alloc hb.size _)
  have VI := Lib.hid (fun u (hu : Below W2.heap.size W2 u) => V2.out.later hu)
  have SO2 := Lib.hid (SO.out W2 B2.out)
  have HW2 := Lib.hid hW2
  have HP := Lib.hid hp
  clear hW2 hh hb hp
  go_wp2_with fail
  rw [← HW2.out, ← HP.out]
  clear HP HW2
  refine SO2.out.mono ?_
  rintro e u1 ⟨v, rfl, ho, hb⟩
  obtain ⟨-, SA, sc, rfl, -, -, hsc⟩ := own_cells ho
  have B21 := Lib.hid hb
  have SC := Lib.hid (fun u (hu : Below u1.heap.size u1 u) => hsc.later (Nat.le_refl _) hu)
  have SO3 := Lib.hid (SO.out u1 (chain2 B2.out hb))
  clear ho hb hsc SO2 SO
  go_wp2_with fail
  refine SO3.out.mono ?_
  rintro e u2 ⟨v, rfl, ho, hb⟩
  obtain ⟨-, AA, ac, rfl, -, -, hsc⟩ := own_cells ho
  have B12 := Lib.hid hb
  have O2 := Lib.hid ho
  have SO4 := Lib.hid (SP.out u2 (chain2 B2.out (chain2 B21.out hb)))
  clear ho hb hsc SO3 SP
  go_wp2_with fail
  refine SO4.out.mono ?_
  rintro e u3 ⟨v, rfl, ho, hb⟩
  obtain ⟨-, TA, tc, rfl, -, -, hsc⟩ := own_cells ho
  have O3 := Lib.hid (own_later O2.out hb)
  have B13 := Lib.hid (chain2 B12.out hb)
  have OT := Lib.hid ho
  have HB3 := Lib.hid hb.size
  clear ho hb hsc SO4 O2 B12
  rcases hTA : TA with _ | ad
  · have z : t2 = 0 ∧ tc = 0 := by
      rcases OT.out.2 with ⟨q, q2⟩ | ⟨g, cc, cur, q, _⟩
      · rw [hTA] at q; cases q; exact ⟨rfl, rfl⟩
      · rw [hTA] at q; cases q
    obtain ⟨z1, z2⟩ := z
    subst hTA z1 z2
    have XE : X = S := by rw [HX.out, List.length_eq_zero_iff.1 HT2.out, List.append_nil]
    have XL := Lib.hid (show X.length = t by rw [XE]; exact HT.out)
    have XC := Lib.hid (show Cells u3 u3.heap.size AA (numV X) by rw [XE]; exact own_row O3.out)
    have B14 := Lib.hid B13.out
    have B4 := Lib.hid (chain2 B21.out B14.out)
    have k9 : t ≤ 1000 := by omega
    obtain ⟨x0, x1, x2⟩ := (VI.out _ B4.out).cells
    clear XE
    go_wp2_with (
      at_builtin
      refine wpList_append_own_none rfl _ _ 26 rfl u1.heap.size 3 i0 1 Try.underlying26 G0.out (.slice AA t ac) t (numV S) rfl O3.out rfl ?_)
    obtain ⟨L, hL⟩ : ∃ L, fromL I X = L := ⟨_, rfl⟩
    obtain ⟨K, hKL⟩ : ∃ K, fromL I S = K := ⟨_, rfl⟩
    have LL := Lib.hid (show L.length = n by rw [← hL]; exact (fromL_len I X).trans HN.out)
    have KL := Lib.hid (show K.length = n by rw [← hKL]; exact (fromL_len I S).trans HN.out)
    have LK := Lib.hid (show ∀ a, a < n → onB K a = true → onB L a = true from fun a ha h => by
      rw [← hL, HX.out]
      rw [← hKL] at h
      exact from_more (by rw [HN.out]; exact ha) h)
    have LG := Lib.hid (show fromL I (agN L n) = L by rw [← hL, ← HN.out]; exact ag_from I X)
    have LZ := Lib.hid (show fromL (zeroD I) X = L by rw [zero_from]; exact hL)
    have HLX := Lib.hid hL
    have FR := from_any _ _ SA n ca sc n m t I S _ (VI.out _ B4.out).is (by omega) (by omega) SI.out HT.out (by omega) (SC.out _ B14.out)
    rw [hKL] at FR
    refine FR.mono ?_
    clear FR hL hKL x0 x1 x2
    rintro e u5 hq
    obtain ⟨PA, pc, rfl, hcc, hb⟩ := marks_cells KL.out hq
    have P5 := Lib.hid hcc
    have B5 := Lib.hid (chain2 B4.out hb)
    have XC5 := Lib.hid (XC.out.later (Nat.le_refl _) hb)
    have FR2 := Lib.hid (fun cs => (from_any _ _ _ n ca cs n m _ I X _ (VI.out _ B5.out).is (by omega) (by omega) XI.out XL.out (by omega) XC5.out).mono fun e w' h => marks_cells LL.out (show TellsMarks L _ e w' from by rw [HLX.out] at h; exact h))
    obtain ⟨x0, x1, x2⟩ := (VI.out _ B5.out).cells
    clear hq hcc hb
    go_wp2_with fail
    refine (FR2.out _).mono ?_
    rintro e u6 hq
    obtain ⟨QA, qc, rfl, hcc, hb⟩ := hq
    have P6 := Lib.hid (P5.out.later (Nat.le_refl _) hb)
    have B6 := Lib.hid (chain2 B5.out hb)
    have XC6 := Lib.hid (XC5.out.later (Nat.le_refl _) hb)
    have Q6 := Lib.hid hcc
    obtain ⟨qb, qo, eQ, -, -⟩ := onb_at hcc LL.out (by omega)
    obtain ⟨pb, po, eP, -, -⟩ := onb_at P6.out KL.out (by omega)
    subst eQ eP
    have QC := Lib.hid (fun u (hu : Below u6.heap.size u6 u) k (hk : k < n) => (show u.cell? ⟨qb, qo + k, none⟩ = some (.bool (onB L k)) ∧ qb < u.heap.size from by
      obtain ⟨b, off, e, lb, hc⟩ := onb_at (Q6.out.later (Nat.le_refl _) hu) LL.out (by omega)
      cases e
      exact ⟨hc k hk, lb⟩))
    have PC := Lib.hid (fun u (hu : Below u6.heap.size u6 u) k (hk : k < n) => (show u.cell? ⟨pb, po + k, none⟩ = some (.bool (onB K k)) ∧ pb < u.heap.size from by
      obtain ⟨b, off, e, lb, hc⟩ := onb_at (P6.out.later (Nat.le_refl _) hu) KL.out (by omega)
      cases e
      exact ⟨hc k hk, lb⟩))
    clear hcc hb FR2 x0 x1 x2 P5 XC5
    go_wp2_with fail
    go_loopw [14, 15] (fun s14 s15 u => AgRel u6 L n s14 s15 u) (fun _ s15 _ => n - (intOf s15).toNat)
    case atStart => exact ⟨0, Nat.zero_le _, rfl, ⟨rfl, .inl ⟨rfl, rfl⟩⟩, Below.refl _ _⟩
    case round =>
      obtain ⟨k, hk, rfl, ho, hb⟩ := hrel
      have UO := Lib.hid ho
      have UB := Lib.hid hb
      have bs := hb.size
      clear ho hb
      by_cases hlt : k < n
      · have t1 : (k : Int) < (n : Int) := by omega
        have k0 : (0 : Int) ≤ (k : Int) := by omega
        have AG := agN_len L k
        obtain ⟨c1, l1⟩ := QC.out _ UB.out k hlt
        obtain ⟨b2, hb2⟩ : ∃ b, onB K k = b := ⟨_, rfl⟩
        have PK := Lib.hid (fun u (hu : Below u6.heap.size u6 u) => (show u.cell? ⟨pb, po + k, none⟩ = some (.bool b2) ∧ pb < u.heap.size from by rw [← hb2]; exact PC.out u hu k hlt))
        cases hL1 : onB L k with
        | true =>
          rw [hL1] at c1
          have AY := Lib.hid (agN_yes hL1)
          have QK := Lib.hid (fun u (hu : Below u6.heap.size u6 u) => (show u.cell? ⟨qb, qo + k, none⟩ = some (.bool true) ∧ qb < u.heap.size from by rw [← hL1]; exact QC.out u hu k hlt))
          clear hL1 hb2
          cases b2
          all_goals
            go_wp2_with (
              at_builtin
              refine wpList_append_own _ rfl _ _ 26 rfl u6.heap.size 3 i0 _ 1 8 Try.underlying26 G0.out G1.out G2.out G3.out rfl (by decide) _ _ _ rfl (UO.out.alloc _) ⟨wr.heap.size, 0, none⟩ 1 1 [.int .i64 (k : Int)] rfl rfl ?c1 ?c2 ?c3 ?c4 ?c5 ?_
              case c1 => first | exact cell_one_new _ _ _ | (intro j u hu; simp at hu ⊢; exact cell_one_new _ _ _ j u (by simpa using hu))
              case c2 => simp [Value.oneCell']
              case c3 => simp only [maxLen]; omega
              case c4 => omega
              case c5 => simp; omega
              intro v' u2 hown hgrow _
              have OW := Lib.hid hown
              have UB2 := Lib.hid ((UB.out.alloc bs _).grown hgrow (by simp; omega) (own_ge UO.out))
              obtain ⟨d1, d2⟩ := QK.out _ UB2.out
              obtain ⟨d3, d4⟩ := PK.out _ UB2.out
              clear hown hgrow c1 l1)
            exact ⟨⟨k + 1, by omega, by simp, by rw [AY.out, numV_snoc, List.length_append]; exact OW.out, UB2.out⟩, by simp [intOf]; omega⟩
        | false =>
          rw [hL1] at c1
          have AY := Lib.hid (agN_no hL1)
          have f2 : b2 = false := by
            cases b2 with
            | false => rfl
            | true =>
              have q := LK.out k hlt hb2
              rw [hL1] at q
              cases q
          subst f2
          obtain ⟨c2, l2⟩ := PK.out _ UB.out
          clear hL1 hb2
          go_wp2_with fail
          exact ⟨⟨k + 1, by omega, by simp, by rw [AY.out]; exact UO.out, UB.out⟩, by simp [intOf]; omega⟩
      · obtain rfl : n = k := by omega
        have t1 : ¬ ((n : Int) < (n : Int)) := by omega
        obtain ⟨-, GA, gc, eg, -, -, hgc⟩ := own_cells UO.out
        subst eg
        have GC := Lib.hid hgc
        obtain ⟨r, hr⟩ : ∃ r, (agN L n).length = r := ⟨_, rfl⟩
        have r9 : r ≤ 7 := by have := agN_len L n; omega
        have HR := Lib.hid hr
        have AS := Lib.hid (ag_small L n (by omega))
        rw [hr]
        have BW := Lib.hid (chain2 B2.out (chain2 B6.out UB.out))
        have IN2 := Lib.hid (IN.out wr BW.out)
        obtain ⟨w0, hw0⟩ : ∃ w0, w0 = wr := ⟨_, rfl⟩
        subst hw0
        clear hgc hr IN
        go_wp2_with fail
        refine IN2.out.mono ?_
        rintro e w7 ⟨sB, B, cb, rfl, hM, -, -⟩
        have M7 := Lib.hid hM
        obtain ⟨q, hq⟩ : ∃ q, q = w7.heap.size := ⟨_, rfl⟩
        obtain ⟨W8, hW8⟩ : ∃ W8, W8 = w7.alloc (.cells #[.slice (some ⟨sB, 0, none⟩) n n, .slice B m cb] 25) := ⟨_, rfl⟩
        have M8 := Lib.hid (show Made w0 W8 sB (.slice B m cb) I.sup I.arcs by rw [hW8]; exact M7.out.alloc _)
        have BQ := Lib.hid (show Blk W8 q 25 #[.slice (some ⟨sB, 0, none⟩) n n, .slice B m cb] by rw [hW8]; exact blk_at hq.symm _ _)
        have QN := Lib.hid (show w0.heap.size ≤ q ∧ ∀ g, (Value.slice B m cb).ownBlock = some g → g < q from ⟨by rw [hq]; exact M7.out.below.size, fun g hg => by rw [hq]; exact own_lt M7.out.arcs g hg⟩)
        have HW8 := Lib.hid hW8
        have HQ := Lib.hid hq
        clear hM hq hW8 M7 IN2
        go_wp2_with fail
        rw [← HW8.out, ← HQ.out]
        clear HW8 HQ
        go_loopw [17] (fun s u => ZeroRel w0 q sB B n m cb I s u) (fun s _ => m - (intOf s).toNat)
        case atStart => exact ⟨0, by omega, rfl, (by rw [zeroN_zero]; exact M8.out), BQ.out⟩
        case round =>
          obtain ⟨k, hk, rfl, hM, hQ⟩ := hrel
          have MJ := Lib.hid hM
          have BQ2 := Lib.hid hQ
          have y0 := BQ2.out.cell 0
          have y1 := BQ2.out.cell 1
          have y2 := BQ2.out.lt
          simp at y0 y1
          clear hM hQ
          have oJ : wr.ownsRow w0.heap.size 37 5 (.slice B m cb) m (arcV (zeroN I.arcs k)) := by have q := MJ.out.arcs; rw [zeroN_length, HM.out] at q; exact q
          by_cases hlt : k < m
          · have tl : (zeroN I.arcs k).length = m := by rw [zeroN_length]; exact HM.out
            obtain ⟨gJ, eJ, lJ, ⟨-, -, -, b3, b4⟩, fJ⟩ := arc_cells oJ tl k hlt
            subst eJ
            have f3 := fJ (k * 5 + 3)
            obtain ⟨xJ, hxJ⟩ : ∃ x, x = arcAt (zeroN I.arcs k) k := ⟨_, rfl⟩
            rw [← hxJ] at b3 b4
            have TL := Lib.hid tl
            have k0 : (0 : Int) ≤ (k : Int) := by omega
            have k1 : (k : Int) < (m : Int) := by omega
            clear oJ tl fJ hxJ
            go_upto_region 20 with fail
            obtain ⟨u7, hu7⟩ : ∃ u7, u7 = wr.setCell ⟨gJ, k * 5 + 3, none⟩ (.int .i64 0) := ⟨_, rfl⟩
            rw [← hu7]
            have MJ1 := Lib.hid (show Made w0 u7 sB (.slice (some ⟨gJ, 0, none⟩) m cb) I.sup ((zeroN I.arcs k).set k (setF (arcAt (zeroN I.arcs k) k) 3 0)) by rw [hu7]; exact made_set MJ.out TL.out k 3 0 (by omega) hlt)
            have BQ1 := Lib.hid (show Blk u7 q 25 #[.slice (some ⟨sB, 0, none⟩) n n, .slice (some ⟨gJ, 0, none⟩) m cb] by rw [hu7]; exact BQ2.out.far (by have := QN.out.2 gJ rfl; show q ≠ gJ; omega) _)
            have TL1 := Lib.hid (show ((zeroN I.arcs k).set k (setF (arcAt (zeroN I.arcs k) k) 3 0)).length = m by rw [List.length_set]; exact TL.out)
            have oJ : u7.ownsRow w0.heap.size 37 5 (.slice (some ⟨gJ, 0, none⟩) m cb) m (arcV ((zeroN I.arcs k).set k (setF (arcAt (zeroN I.arcs k) k) 3 0))) := by have q := MJ1.out.arcs; rw [TL1.out] at q; exact q
            obtain ⟨g2, e2, lJ1, ⟨-, -, -, d3, d4⟩, fJ1⟩ := arc_cells oJ TL1.out k hlt
            cases e2
            have f4 := fJ1 (k * 5 + 4)
            obtain ⟨yJ, hyJ⟩ : ∃ y, y = arcAt ((zeroN I.arcs k).set k (setF (arcAt (zeroN I.arcs k) k) 3 0)) k := ⟨_, rfl⟩
            rw [← hyJ] at d3 d4
            clear hu7 oJ fJ1 hyJ f3 b3 b4 y0 y1 y2 lJ
            have y0 := BQ1.out.cell 0
            have y1 := BQ1.out.cell 1
            have y2 := BQ1.out.lt
            simp at y0 y1
            go_wp2_with fail
            refine ⟨⟨k + 1, by omega, by simp, ?_, ?_⟩, by simp [intOf]; omega⟩
            · have q := made_set MJ1.out TL1.out k 4 1 (by omega) hlt
              rw [zeroN_step I.arcs k (by rw [HM.out]; exact hlt)] at q
              exact q
            · exact BQ1.out.far (by have := QN.out.2 gJ rfl; show q ≠ gJ; omega) _
          · obtain rfl : m = k := by omega
            have HJ := (show Here wr (some ⟨sB, 0, none⟩) B n m (zeroD I) from Made.here (I := zeroD I) (by have q := MJ.out; rw [← HM.out] at q ⊢; rw [zeroN_all] at q; exact q) HN.out (by show (I.arcs.map zeroA).length = _; rw [List.length_map]; exact HM.out) (by omega) (by omega))
            have VJ0 : IVar wr q (some ⟨sB, 0, none⟩) B n cb n m (zeroD I) := ⟨BQ2.out, HJ⟩
            have VJ := Lib.hid (fun u (hu : Below wr.heap.size wr u) => VJ0.later hu)
            have B9 := Lib.hid MJ.out.below
            have tq : ((n : Int) == (n : Int)) = true := by simp
            have K := Lib.hid (KN.out wr)
            obtain ⟨w9, hw9⟩ : ∃ w9, w9 = wr := ⟨_, rfl⟩
            subst hw9
            clear HJ VJ0 oJ MJ BQ2 BQ QN M8 KN
            go_wp2_with fail
            refine K.out.mono ?_
            rintro e v1 ⟨rfl, hb⟩
            have D1 := Lib.hid hb
            have C1 := Lib.hid (chain2 UB.out (chain2 B9.out hb))
            obtain ⟨x0, x1, x2⟩ := (VI.out _ (chain2 B6.out C1.out)).cells
            have FA := Lib.hid ((from_any _ _ GA n ca gc n m r I (agN L n) v1 (VI.out _ (chain2 B6.out C1.out)).is (by omega) (by omega) AS.out HR.out (by omega) (GC.out.later (Nat.le_refl _) (chain2 B9.out hb))).mono fun e w' h => marks_cells LL.out (show TellsMarks L _ e w' from by rw [LG.out] at h; exact h))
            clear hb K y0 y1 y2
            go_wp2_with fail
            refine FA.out.mono ?_
            rintro e v2 ⟨RA, rc, rfl, hcc, hb⟩
            have D2 := Lib.hid (chain2 D1.out hb)
            have C2 := Lib.hid (chain2 C1.out hb)
            have BS := Lib.hid (bools_same RA (some ⟨qb, qo, none⟩) L n rc qc LL.out (by omega) v2 hcc (Q6.out.later (Nat.le_refl _) C2.out))
            clear hcc hb FA x0 x1 x2
            go_wp2_with fail
            refine BS.out.mono ?_
            rintro e v3 ⟨rfl, hb⟩
            have D3 := Lib.hid (chain2 D2.out hb)
            have C3 := Lib.hid (chain2 C2.out hb)
            have FB := Lib.hid (fun cs => (from_any _ _ _ n cb cs n m _ (zeroD I) X v3 (VJ.out _ D3.out).is (by omega) (by omega) XI.out XL.out (by omega) (XC6.out.later (Nat.le_refl _) C3.out)).mono fun e w' h => marks_cells LL.out (show TellsMarks L _ e w' from by rw [LZ.out] at h; exact h))
            obtain ⟨y0, y1, y2⟩ := (VJ.out _ D3.out).cells
            clear hb BS
            go_wp2_with fail
            refine (FB.out _).mono ?_
            rintro e v4 ⟨RB, rd, rfl, hcc, hb⟩
            have D4 := Lib.hid (chain2 D3.out hb)
            have C4 := Lib.hid (chain2 C3.out hb)
            have BS := Lib.hid (bools_same RB (some ⟨qb, qo, none⟩) L n rd qc LL.out (by omega) v4 hcc (Q6.out.later (Nat.le_refl _) C4.out))
            clear hcc hb FB y0 y1 y2
            go_wp2_with fail
            refine BS.out.mono ?_
            rintro e v5 ⟨rfl, hb⟩
            have D5 := Lib.hid (chain2 D4.out hb)
            clear hb BS
            go_wp2_with fail
            go_ret
            exact ⟨rfl, chain2 BW.out (chain2 B9.out D5.out)⟩
  · have hc : ∃ g, ad = ⟨g, 0, none⟩ ∧ ∀ j (h : j < (numV T).length), u3.cell? ⟨g, j, none⟩ = some (numV T)[j] := by
      rcases OT.out.2 with ⟨q, q2⟩ | ⟨g, cc, cur, q, _⟩
      · rw [hTA] at q; cases q
      · rw [hTA] at q
        cases q
        refine ⟨g, rfl, fun j h => ?_⟩
        have h2 : j < t2 := by rw [numV_length, HT2.out] at h; exact h
        have o := OT.out
        rw [hTA] at o
        obtain ⟨g', e', -, hcell, -⟩ := own_at o (by omega)
        cases e'
        exact hcell j h
    obtain ⟨g, rfl, hcell⟩ := hc
    subst hTA
    have HC := Lib.hid hcell
    clear hcell
    go_wp2_with (
      at_builtin
      refine wpList_append_own _ rfl _ _ 26 rfl u1.heap.size 3 i0 _ 1 8 Try.underlying26 G0.out G1.out G2.out G3.out rfl (by decide) (.slice AA t ac) _ _ rfl O3.out ⟨g, 0, none⟩ t2 tc (numV T) rfl ?c0 ?c1 ?c2 ?c3 ?c4 ?c5 ?_
      case c0 => rw [numV_length, HT2.out, Nat.mul_one]
      case c1 =>
        intro j u hu
        obtain ⟨hj, e⟩ := List.getElem?_eq_some_iff.1 hu
        rw [addr_add, Nat.zero_add, HC.out j hj, e]
      case c2 => exact num_one T
      case c3 => simp only [maxLen]; omega
      case c4 => omega
      case c5 => exact B13.out.size
      intro v' u4 hown hgrow _
      obtain ⟨-, AL, lc, rfl, -, -, hsc⟩ := own_cells hown
      have XL := Lib.hid (show X.length = t + t2 by rw [HX.out, List.length_append, HT.out, HT2.out])
      have XC := Lib.hid (show Cells u4 u4.heap.size AL (numV X) by rw [HX.out]; unfold numV at hsc ⊢; rw [List.map_append]; exact hsc)
      have B14 := Lib.hid (B13.out.grown hgrow B13.out.size (own_ge O3.out))
      have B4 := Lib.hid (chain2 B21.out B14.out)
      have k9 : t + t2 ≤ 1000 := by omega
      obtain ⟨x0, x1, x2⟩ := (VI.out _ B4.out).cells
      clear hown hgrow hsc)
    obtain ⟨L, hL⟩ : ∃ L, fromL I X = L := ⟨_, rfl⟩
    obtain ⟨K, hKL⟩ : ∃ K, fromL I S = K := ⟨_, rfl⟩
    have LL := Lib.hid (show L.length = n by rw [← hL]; exact (fromL_len I X).trans HN.out)
    have KL := Lib.hid (show K.length = n by rw [← hKL]; exact (fromL_len I S).trans HN.out)
    have LK := Lib.hid (show ∀ a, a < n → onB K a = true → onB L a = true from fun a ha h => by
      rw [← hL, HX.out]
      rw [← hKL] at h
      exact from_more (by rw [HN.out]; exact ha) h)
    have LG := Lib.hid (show fromL I (agN L n) = L by rw [← hL, ← HN.out]; exact ag_from I X)
    have LZ := Lib.hid (show fromL (zeroD I) X = L by rw [zero_from]; exact hL)
    have HLX := Lib.hid hL
    have FR := from_any _ _ SA n ca sc n m t I S _ (VI.out _ B4.out).is (by omega) (by omega) SI.out HT.out (by omega) (SC.out _ B14.out)
    rw [hKL] at FR
    refine FR.mono ?_
    clear FR hL hKL x0 x1 x2
    rintro e u5 hq
    obtain ⟨PA, pc, rfl, hcc, hb⟩ := marks_cells KL.out hq
    have P5 := Lib.hid hcc
    have B5 := Lib.hid (chain2 B4.out hb)
    have XC5 := Lib.hid (XC.out.later (Nat.le_refl _) hb)
    have FR2 := Lib.hid (fun cs => (from_any _ _ _ n ca cs n m _ I X _ (VI.out _ B5.out).is (by omega) (by omega) XI.out XL.out (by omega) XC5.out).mono fun e w' h => marks_cells LL.out (show TellsMarks L _ e w' from by rw [HLX.out] at h; exact h))
    obtain ⟨x0, x1, x2⟩ := (VI.out _ B5.out).cells
    clear hq hcc hb
    go_wp2_with fail
    refine (FR2.out _).mono ?_
    rintro e u6 hq
    obtain ⟨QA, qc, rfl, hcc, hb⟩ := hq
    have P6 := Lib.hid (P5.out.later (Nat.le_refl _) hb)
    have B6 := Lib.hid (chain2 B5.out hb)
    have XC6 := Lib.hid (XC5.out.later (Nat.le_refl _) hb)
    have Q6 := Lib.hid hcc
    obtain ⟨qb, qo, eQ, -, -⟩ := onb_at hcc LL.out (by omega)
    obtain ⟨pb, po, eP, -, -⟩ := onb_at P6.out KL.out (by omega)
    subst eQ eP
    have QC := Lib.hid (fun u (hu : Below u6.heap.size u6 u) k (hk : k < n) => (show u.cell? ⟨qb, qo + k, none⟩ = some (.bool (onB L k)) ∧ qb < u.heap.size from by
      obtain ⟨b, off, e, lb, hc⟩ := onb_at (Q6.out.later (Nat.le_refl _) hu) LL.out (by omega)
      cases e
      exact ⟨hc k hk, lb⟩))
    have PC := Lib.hid (fun u (hu : Below u6.heap.size u6 u) k (hk : k < n) => (show u.cell? ⟨pb, po + k, none⟩ = some (.bool (onB K k)) ∧ pb < u.heap.size from by
      obtain ⟨b, off, e, lb, hc⟩ := onb_at (P6.out.later (Nat.le_refl _) hu) KL.out (by omega)
      cases e
      exact ⟨hc k hk, lb⟩))
    clear hcc hb FR2 x0 x1 x2 P5 XC5
    go_wp2_with fail
    go_loopw [14, 15] (fun s14 s15 u => AgRel u6 L n s14 s15 u) (fun _ s15 _ => n - (intOf s15).toNat)
    case atStart => exact ⟨0, Nat.zero_le _, rfl, ⟨rfl, .inl ⟨rfl, rfl⟩⟩, Below.refl _ _⟩
    case round =>
      obtain ⟨k, hk, rfl, ho, hb⟩ := hrel
      have UO := Lib.hid ho
      have UB := Lib.hid hb
      have bs := hb.size
      clear ho hb
      by_cases hlt : k < n
      · have t1 : (k : Int) < (n : Int) := by omega
        have k0 : (0 : Int) ≤ (k : Int) := by omega
        have AG := agN_len L k
        obtain ⟨c1, l1⟩ := QC.out _ UB.out k hlt
        obtain ⟨b2, hb2⟩ : ∃ b, onB K k = b := ⟨_, rfl⟩
        have PK := Lib.hid (fun u (hu : Below u6.heap.size u6 u) => (show u.cell? ⟨pb, po + k, none⟩ = some (.bool b2) ∧ pb < u.heap.size from by rw [← hb2]; exact PC.out u hu k hlt))
        cases hL1 : onB L k with
        | true =>
          rw [hL1] at c1
          have AY := Lib.hid (agN_yes hL1)
          have QK := Lib.hid (fun u (hu : Below u6.heap.size u6 u) => (show u.cell? ⟨qb, qo + k, none⟩ = some (.bool true) ∧ qb < u.heap.size from by rw [← hL1]; exact QC.out u hu k hlt))
          clear hL1 hb2
          cases b2
          all_goals
            go_wp2_with (
              at_builtin
              refine wpList_append_own _ rfl _ _ 26 rfl u6.heap.size 3 i0 _ 1 8 Try.underlying26 G0.out G1.out G2.out G3.out rfl (by decide) _ _ _ rfl (UO.out.alloc _) ⟨wr.heap.size, 0, none⟩ 1 1 [.int .i64 (k : Int)] rfl rfl ?c1 ?c2 ?c3 ?c4 ?c5 ?_
              case c1 => first | exact cell_one_new _ _ _ | (intro j u hu; simp at hu ⊢; exact cell_one_new _ _ _ j u (by simpa using hu))
              case c2 => simp [Value.oneCell']
              case c3 => simp only [maxLen]; omega
              case c4 => omega
              case c5 => simp; omega
              intro v' u2 hown hgrow _
              have OW := Lib.hid hown
              have UB2 := Lib.hid ((UB.out.alloc bs _).grown hgrow (by simp; omega) (own_ge UO.out))
              obtain ⟨d1, d2⟩ := QK.out _ UB2.out
              obtain ⟨d3, d4⟩ := PK.out _ UB2.out
              clear hown hgrow c1 l1)
            exact ⟨⟨k + 1, by omega, by simp, by rw [AY.out, numV_snoc, List.length_append]; exact OW.out, UB2.out⟩, by simp [intOf]; omega⟩
        | false =>
          rw [hL1] at c1
          have AY := Lib.hid (agN_no hL1)
          have f2 : b2 = false := by
            cases b2 with
            | false => rfl
            | true =>
              have q := LK.out k hlt hb2
              rw [hL1] at q
              cases q
          subst f2
          obtain ⟨c2, l2⟩ := PK.out _ UB.out
          clear hL1 hb2
          go_wp2_with fail
          exact ⟨⟨k + 1, by omega, by simp, by rw [AY.out]; exact UO.out, UB.out⟩, by simp [intOf]; omega⟩
      · obtain rfl : n = k := by omega
        have t1 : ¬ ((n : Int) < (n : Int)) := by omega
        obtain ⟨-, GA, gc, eg, -, -, hgc⟩ := own_cells UO.out
        subst eg
        have GC := Lib.hid hgc
        obtain ⟨r, hr⟩ : ∃ r, (agN L n).length = r := ⟨_, rfl⟩
        have r9 : r ≤ 7 := by have := agN_len L n; omega
        have HR := Lib.hid hr
        have AS := Lib.hid (ag_small L n (by omega))
        rw [hr]
        have BW := Lib.hid (chain2 B2.out (chain2 B6.out UB.out))
        have IN2 := Lib.hid (IN.out wr BW.out)
        obtain ⟨w0, hw0⟩ : ∃ w0, w0 = wr := ⟨_, rfl⟩
        subst hw0
        clear hgc hr IN
        go_wp2_with fail
        refine IN2.out.mono ?_
        rintro e w7 ⟨sB, B, cb, rfl, hM, -, -⟩
        have M7 := Lib.hid hM
        obtain ⟨q, hq⟩ : ∃ q, q = w7.heap.size := ⟨_, rfl⟩
        obtain ⟨W8, hW8⟩ : ∃ W8, W8 = w7.alloc (.cells #[.slice (some ⟨sB, 0, none⟩) n n, .slice B m cb] 25) := ⟨_, rfl⟩
        have M8 := Lib.hid (show Made w0 W8 sB (.slice B m cb) I.sup I.arcs by rw [hW8]; exact M7.out.alloc _)
        have BQ := Lib.hid (show Blk W8 q 25 #[.slice (some ⟨sB, 0, none⟩) n n, .slice B m cb] by rw [hW8]; exact blk_at hq.symm _ _)
        have QN := Lib.hid (show w0.heap.size ≤ q ∧ ∀ g, (Value.slice B m cb).ownBlock = some g → g < q from ⟨by rw [hq]; exact M7.out.below.size, fun g hg => by rw [hq]; exact own_lt M7.out.arcs g hg⟩)
        have HW8 := Lib.hid hW8
        have HQ := Lib.hid hq
        clear hM hq hW8 M7 IN2
        go_wp2_with fail
        rw [← HW8.out, ← HQ.out]
        clear HW8 HQ
        go_loopw [17] (fun s u => ZeroRel w0 q sB B n m cb I s u) (fun s _ => m - (intOf s).toNat)
        case atStart => exact ⟨0, by omega, rfl, (by rw [zeroN_zero]; exact M8.out), BQ.out⟩
        case round =>
          obtain ⟨k, hk, rfl, hM, hQ⟩ := hrel
          have MJ := Lib.hid hM
          have BQ2 := Lib.hid hQ
          have y0 := BQ2.out.cell 0
          have y1 := BQ2.out.cell 1
          have y2 := BQ2.out.lt
          simp at y0 y1
          clear hM hQ
          have oJ : wr.ownsRow w0.heap.size 37 5 (.slice B m cb) m (arcV (zeroN I.arcs k)) := by have q := MJ.out.arcs; rw [zeroN_length, HM.out] at q; exact q
          by_cases hlt : k < m
          · have tl : (zeroN I.arcs k).length = m := by rw [zeroN_length]; exact HM.out
            obtain ⟨gJ, eJ, lJ, ⟨-, -, -, b3, b4⟩, fJ⟩ := arc_cells oJ tl k hlt
            subst eJ
            have f3 := fJ (k * 5 + 3)
            obtain ⟨xJ, hxJ⟩ : ∃ x, x = arcAt (zeroN I.arcs k) k := ⟨_, rfl⟩
            rw [← hxJ] at b3 b4
            have TL := Lib.hid tl
            have k0 : (0 : Int) ≤ (k : Int) := by omega
            have k1 : (k : Int) < (m : Int) := by omega
            clear oJ tl fJ hxJ
            go_upto_region 20 with fail
            obtain ⟨u7, hu7⟩ : ∃ u7, u7 = wr.setCell ⟨gJ, k * 5 + 3, none⟩ (.int .i64 0) := ⟨_, rfl⟩
            rw [← hu7]
            have MJ1 := Lib.hid (show Made w0 u7 sB (.slice (some ⟨gJ, 0, none⟩) m cb) I.sup ((zeroN I.arcs k).set k (setF (arcAt (zeroN I.arcs k) k) 3 0)) by rw [hu7]; exact made_set MJ.out TL.out k 3 0 (by omega) hlt)
            have BQ1 := Lib.hid (show Blk u7 q 25 #[.slice (some ⟨sB, 0, none⟩) n n, .slice (some ⟨gJ, 0, none⟩) m cb] by rw [hu7]; exact BQ2.out.far (by have := QN.out.2 gJ rfl; show q ≠ gJ; omega) _)
            have TL1 := Lib.hid (show ((zeroN I.arcs k).set k (setF (arcAt (zeroN I.arcs k) k) 3 0)).length = m by rw [List.length_set]; exact TL.out)
            have oJ : u7.ownsRow w0.heap.size 37 5 (.slice (some ⟨gJ, 0, none⟩) m cb) m (arcV ((zeroN I.arcs k).set k (setF (arcAt (zeroN I.arcs k) k) 3 0))) := by have q := MJ1.out.arcs; rw [TL1.out] at q; exact q
            obtain ⟨g2, e2, lJ1, ⟨-, -, -, d3, d4⟩, fJ1⟩ := arc_cells oJ TL1.out k hlt
            cases e2
            have f4 := fJ1 (k * 5 + 4)
            obtain ⟨yJ, hyJ⟩ : ∃ y, y = arcAt ((zeroN I.arcs k).set k (setF (arcAt (zeroN I.arcs k) k) 3 0)) k := ⟨_, rfl⟩
            rw [← hyJ] at d3 d4
            clear hu7 oJ fJ1 hyJ f3 b3 b4 y0 y1 y2 lJ
            have y0 := BQ1.out.cell 0
            have y1 := BQ1.out.cell 1
            have y2 := BQ1.out.lt
            simp at y0 y1
            go_wp2_with fail
            refine ⟨⟨k + 1, by omega, by simp, ?_, ?_⟩, by simp [intOf]; omega⟩
            · have q := made_set MJ1.out TL1.out k 4 1 (by omega) hlt
              rw [zeroN_step I.arcs k (by rw [HM.out]; exact hlt)] at q
              exact q
            · exact BQ1.out.far (by have := QN.out.2 gJ rfl; show q ≠ gJ; omega) _
          · obtain rfl : m = k := by omega
            have HJ := (show Here wr (some ⟨sB, 0, none⟩) B n m (zeroD I) from Made.here (I := zeroD I) (by have q := MJ.out; rw [← HM.out] at q ⊢; rw [zeroN_all] at q; exact q) HN.out (by show (I.arcs.map zeroA).length = _; rw [List.length_map]; exact HM.out) (by omega) (by omega))
            have VJ0 : IVar wr q (some ⟨sB, 0, none⟩) B n cb n m (zeroD I) := ⟨BQ2.out, HJ⟩
            have VJ := Lib.hid (fun u (hu : Below wr.heap.size wr u) => VJ0.later hu)
            have B9 := Lib.hid MJ.out.below
            have tq : ((n : Int) == (n : Int)) = true := by simp
            have K := Lib.hid (KN.out wr)
            obtain ⟨w9, hw9⟩ : ∃ w9, w9 = wr := ⟨_, rfl⟩
            subst hw9
            clear HJ VJ0 oJ MJ BQ2 BQ QN M8 KN
            go_wp2_with fail
            refine K.out.mono ?_
            rintro e v1 ⟨rfl, hb⟩
            have D1 := Lib.hid hb
            have C1 := Lib.hid (chain2 UB.out (chain2 B9.out hb))
            obtain ⟨x0, x1, x2⟩ := (VI.out _ (chain2 B6.out C1.out)).cells
            have FA := Lib.hid ((from_any _ _ GA n ca gc n m r I (agN L n) v1 (VI.out _ (chain2 B6.out C1.out)).is (by omega) (by omega) AS.out HR.out (by omega) (GC.out.later (Nat.le_refl _) (chain2 B9.out hb))).mono fun e w' h => marks_cells LL.out (show TellsMarks L _ e w' from by rw [LG.out] at h; exact h))
            clear hb K y0 y1 y2
            go_wp2_with fail
            refine FA.out.mono ?_
            rintro e v2 ⟨RA, rc, rfl, hcc, hb⟩
            have D2 := Lib.hid (chain2 D1.out hb)
            have C2 := Lib.hid (chain2 C1.out hb)
            have BS := Lib.hid (bools_same RA (some ⟨qb, qo, none⟩) L n rc qc LL.out (by omega) v2 hcc (Q6.out.later (Nat.le_refl _) C2.out))
            clear hcc hb FA x0 x1 x2
            go_wp2_with fail
            refine BS.out.mono ?_
            rintro e v3 ⟨rfl, hb⟩
            have D3 := Lib.hid (chain2 D2.out hb)
            have C3 := Lib.hid (chain2 C2.out hb)
            have FB := Lib.hid (fun cs => (from_any _ _ _ n cb cs n m _ (zeroD I) X v3 (VJ.out _ D3.out).is (by omega) (by omega) XI.out XL.out (by omega) (XC6.out.later (Nat.le_refl _) C3.out)).mono fun e w' h => marks_cells LL.out (show TellsMarks L _ e w' from by rw [LZ.out] at h; exact h))
            obtain ⟨y0, y1, y2⟩ := (VJ.out _ D3.out).cells
            clear hb BS
            go_wp2_with fail
            refine (FB.out _).mono ?_
            rintro e v4 ⟨RB, rd, rfl, hcc, hb⟩
            have D4 := Lib.hid (chain2 D3.out hb)
            have C4 := Lib.hid (chain2 C3.out hb)
            have BS := Lib.hid (bools_same RB (some ⟨qb, qo, none⟩) L n rd qc LL.out (by omega) v4 hcc (Q6.out.later (Nat.le_refl _) C4.out))
            clear hcc hb FB y0 y1 y2
            go_wp2_with fail
            refine BS.out.mono ?_
            rintro e v5 ⟨rfl, hb⟩
            have D5 := Lib.hid (chain2 D4.out hb)
            clear hb BS
            go_wp2_with fail
            go_ret
            exact ⟨rfl, chain2 BW.out (chain2 B9.out D5.out)⟩
end Go.Proofs.Yticaficolgbjkaa.Rch
