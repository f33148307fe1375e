/- The law AdjNone: its walk. -/
import Derived.Test.YtldjlclinckblaaAdjE
namespace Go.Proofs.Ytldjlclinckblaa.Adj
open Go.RowKit Go.Proofs.Ytldjlclinckblaa.Inst

theorem instC_arcs (c d : List Nat) : (instC c d).arcs.length ≤ 18 := by
  show (arcsC _ _).length ≤ _
  rw [arcsC_length]
  omega
theorem fit_in {I : InstD} {a : Int} (h : fitD I a = true) : 0 ≤ (arcAt I.arcs a.toNat).frm ∧ (arcAt I.arcs a.toNat).frm < I.sup.length ∧ 0 ≤ (arcAt I.arcs a.toNat).to ∧ (arcAt I.arcs a.toNat).to < I.sup.length := by
  unfold fitD at h
  have := of_decide_eq_true h
  exact this.2.2
theorem out_some (I : InstD) (n : Int) (o i : Bool) (h : n < 0 ∨ (I.sup.length : Int) ≤ n) : someD I n o i = [] := by
  unfold someD someN
  rw [List.filter_eq_nil_iff]
  intro a _ hc
  rw [Bool.and_eq_true] at hc
  obtain ⟨h1, h2⟩ := hc
  obtain ⟨f0, f1, t0, t1⟩ := fit_in h1
  rw [Int.toNat_natCast] at f0 f1 t0 t1
  unfold touch at h2
  rw [Bool.or_eq_true, Bool.and_eq_true, Bool.and_eq_true] at h2
  rcases h2 with ⟨_, h2⟩ | ⟨_, h2⟩ <;> have := of_decide_eq_true h2 <;> omega
theorem out_loops (I : InstD) (n : Int) (h : n < 0 ∨ (I.sup.length : Int) ≤ n) : loopsD I n = 0 := by
  unfold loopsD loopsN
  rw [List.countP_eq_zero]
  intro a _ hc
  rw [Bool.and_eq_true, Bool.and_eq_true] at hc
  obtain ⟨h1, h2, _⟩ := hc
  obtain ⟨f0, f1, -, -⟩ := fit_in h1
  rw [Int.toNat_natCast] at f0 f1
  have := of_decide_eq_true h2
  omega
theorem out_other (I : InstD) (a n : Int) (h : n < 0 ∨ (I.sup.length : Int) ≤ n) : otherD I a n = -1 := by
  unfold otherD
  cases hf : fitD I a with
  | false => rfl
  | true =>
    obtain ⟨f0, f1, t0, t1⟩ := fit_in hf
    rw [if_neg (by simp), if_neg (by omega), if_neg (by omega)]
/-- Nothing is told. -/
def TellsNone (w : World) (e : Ending) (w' : World) : Prop := ∃ NA cap, e = .returned (.slice NA 0 cap) ∧ Below w.heap.size w w'
theorem tells_none {w w' : World} {e : Ending} (h : TellsNats [] w e w') : TellsNone w e w' := by
  obtain ⟨NA, cap, he, _, _, hb, _⟩ := h
  exact ⟨NA, cap, he, hb⟩
theorem tells_nil {l : List Nat} {w w' : World} {e : Ending} (hl : l = []) (h : TellsNats l w e w') : TellsNone w e w' := by
  subst hl
  exact tells_none h

set_option maxRecDepth 100000 in
set_option maxHeartbeats 8000000 in
theorem none_walk {Gr : World → Nat → InstD → Prop} (C : AdjC Gr) {W : World} (a : Int) (ha : I64 a) (nn : Int) (hn9 : I64 nn) (s : Option Addr) (l c : Nat) (xs : List Nat) (hl : xs.length = l) (h9 : l ≤ 140737488355328) (hx : Octs xs) (hs : Cells W W.heap.size s (octV xs)) (s' : Option Addr) (l' c' : Nat) (ys : List Nat) (hl' : ys.length = l') (h9' : l' ≤ 140737488355328) (hy : Octs ys) (hs' : Cells W W.heap.size s' (octV ys)) :
    Calls Try.prog 6 #[.int .i64 a, .int .i64 nn, .slice s l c, .slice s' l' c'] W fun e W' => e = .returned (.bool true) ∧ Below W.heap.size W W' := by
  have A0 := Lib.hid (fun w => C.arc0 a w ha)
  have IN := Lib.hid (fun w' (h : Below W.heap.size W w') => inst_any s s' c c' xs ys hx hy (by omega) (by omega) w' (hs.later (Nat.le_refl _) h) (hs'.later (Nat.le_refl _) h))
  rw [hl, hl'] at IN
  obtain ⟨I, hI⟩ : ∃ I, I = instC xs ys := ⟨_, rfl⟩
  have i0 := instC_sup xs ys
  have i1 := instC_arcs xs ys
  have i2 := nodesC_bd ys
  rw [← hI] at IN i0 i1
  obtain ⟨n, hn⟩ : ∃ n, n = nodesC ys := ⟨_, rfl⟩
  rw [← hn] at IN i0 i2
  obtain ⟨m, hm⟩ : ∃ m, m = I.arcs.length := ⟨_, rfl⟩
  rw [← hm] at i1
  have HN := Lib.hid i0
  have HM := Lib.hid hm.symm
  obtain ⟨n1, n7⟩ := i2
  have KN := Lib.hid (fun w => known_any C w)
  have N0 := Lib.hid (fun w => C.nodes0 w)
  have O0 := Lib.hid (fun w => (C.out0 nn w hn9).mono fun e u q => tells_none q)
  have I0 := Lib.hid (fun w => (C.in0 nn w hn9).mono fun e u q => tells_none q)
  have T0 := Lib.hid (fun w => (C.at0 nn w hn9).mono fun e u q => tells_none q)
  have L0 := Lib.hid (fun w => C.loops0 nn w hn9)
  have R0 := Lib.hid (fun w => C.other0 a nn w ha hn9)
  have NW := Lib.hid (fun w (A : Option Addr) (B : Option Addr) (cc dd : Nat) (h : Here w A B n m I) => C.new A B cc dd n m I w h (by omega) (by omega))
  have OX := Lib.hid (fun w b (h : Gr w b I) (ho : nn < 0 ∨ (n : Int) ≤ nn) => (C.out b I nn w h hn9).mono fun e u q => tells_nil (out_some I nn true false (by rw [HN.out]; exact ho)) q)
  have IX := Lib.hid (fun w b (h : Gr w b I) (ho : nn < 0 ∨ (n : Int) ≤ nn) => (C.in_ b I nn w h hn9).mono fun e u q => tells_nil (out_some I nn false true (by rw [HN.out]; exact ho)) q)
  have TX := Lib.hid (fun w b (h : Gr w b I) (ho : nn < 0 ∨ (n : Int) ≤ nn) => (C.at_ b I nn w h hn9).mono fun e u q => tells_nil (out_some I nn true true (by rw [HN.out]; exact ho)) q)
  have LX := Lib.hid (fun w b (h : Gr w b I) (ho : nn < 0 ∨ (n : Int) ≤ nn) => (show Calls Try.prog 19 #[.pointer (some ⟨b, 0, none⟩), .int .i64 nn] w (fun e w' => e = .returned (.int .i64 0) ∧ Below w.heap.size w w') from (by have q := C.loops b I nn w h hn9; rw [out_loops I nn (by rw [HN.out]; exact ho)] at q; exact q)))
  have RX := Lib.hid (fun w b (h : Gr w b I) (ho : nn < 0 ∨ (n : Int) ≤ nn) => (show Calls Try.prog 16 #[.pointer (some ⟨b, 0, none⟩), .int .i64 a, .int .i64 nn] w (fun e w' => e = .returned (.int .i64 (-1)) ∧ Below w.heap.size w w') from (by have q := C.other b I a nn w h ha hn9; rw [out_other I a nn (by rw [HN.out]; exact ho)] at q; exact q)))
  have LA := Lib.hid (fun (w u : World) (b : Nat) (h : Gr w b I) (hb : Below w.heap.size w u) => C.later h hb)
  clear hI hn hm i0 hs hs' hx hy C
  go_enter Try.func6, Try.ntmps6
  go_upto_region 3 with (go_at_call 20; (with_reducible refine (A0.out _).mono ?_); rintro e w0 ⟨rfl, hb⟩; have B0 := Lib.hid (hb.alloc hb.size (.cells (arcCs ⟨0, 0, 0, 0, 0⟩) 41)); clear hb)
  go_upto_region 4 with (go_at_call 11; (with_reducible refine (IN.out _ B0.out).mono ?_); rintro e w1 ⟨sB, aV, rfl, hM⟩; obtain ⟨-, A, cap, ea, -, -, -⟩ := own_cells hM.arcs; subst ea; rw [HM.out] at hM; rw [HM.out]; have M1 := Lib.hid hM; clear hM)
  obtain ⟨p, hp⟩ : ∃ p, p = w1.heap.size := ⟨_, rfl⟩
  obtain ⟨W2, hW2⟩ : ∃ W2, W2 = w1.alloc (.cells #[.slice (some ⟨sB, 0, none⟩) n n, .slice A m cap] 25) := ⟨_, rfl⟩
  have B2 := Lib.hid (show Below W.heap.size W W2 by rw [hW2]; exact (chain2 B0.out M1.out.below).alloc (chain2 B0.out M1.out.below).size _)
  have HI := Lib.hid (show Here W2 (some ⟨sB, 0, none⟩) A n m I by rw [hW2]; exact (Made.here M1.out (I := I) HN.out HM.out (by omega) (by omega)).later ((Below.refl _ _).alloc (Nat.le_refl _) _))
  have BX := Lib.hid (show Blk W2 p 25 #[.slice (some ⟨sB, 0, none⟩) n n, .slice A m cap] by rw [hW2]; exact blk_at hp.symm _ _)
  rw [← hW2, ← hp]
  clear hp hW2 M1
  have x0 := BX.out.cell 0
  have x1 := BX.out.cell 1
  have x2 := BX.out.lt
  simp at x0 x1
  go_upto_region 5 with (go_at_call 13; (with_reducible refine (NW.out _ _ _ _ _ HI.out).mono ?_); rintro e w2 ⟨b, rfl, hg, hb⟩; have G := Lib.hid hg; have HB := Lib.hid (chain2 B2.out hb); have BX2 := Lib.hid (BX.out.below hb BX.out.lt); clear hg hb)
  clear x0 x1 x2
  have x0 := BX2.out.cell 0
  have x1 := BX2.out.cell 1
  have x2 := BX2.out.lt
  simp at x0 x1
  by_cases ho : nn < 0 ∨ (n : Int) ≤ nn
  · have HO := Lib.hid ho
    rcases ho with h0 | h0
    all_goals
      by_cases h1 : nn < 0
      all_goals try omega
      go_wp2_with (first
        | (go_at_call 10; (refine (KN.out _).mono ?_); rintro e wn ⟨rfl, hb⟩; replace G := Lib.hid (LA.out _ _ _ G.out hb); replace HB := Lib.hid (chain2 HB.out hb); clear hb)
        | (go_at_call 14; (with_reducible refine (N0.out _).mono ?_); rintro e wn ⟨rfl, hb⟩; replace G := Lib.hid (LA.out _ _ _ G.out hb); replace HB := Lib.hid (chain2 HB.out hb); clear hb)
        | (go_at_call 15; (with_reducible refine (O0.out _).mono ?_); rintro e wn ⟨NA, cp, rfl, hb⟩; replace G := Lib.hid (LA.out _ _ _ G.out hb); replace HB := Lib.hid (chain2 HB.out hb); clear hb)
        | (go_at_call 17; (with_reducible refine (I0.out _).mono ?_); rintro e wn ⟨NA, cp, rfl, hb⟩; replace G := Lib.hid (LA.out _ _ _ G.out hb); replace HB := Lib.hid (chain2 HB.out hb); clear hb)
        | (go_at_call 18; (with_reducible refine (T0.out _).mono ?_); rintro e wn ⟨NA, cp, rfl, hb⟩; replace G := Lib.hid (LA.out _ _ _ G.out hb); replace HB := Lib.hid (chain2 HB.out hb); clear hb)
        | (go_at_call 19; (with_reducible refine (L0.out _).mono ?_); rintro e wn ⟨rfl, hb⟩; replace G := Lib.hid (LA.out _ _ _ G.out hb); replace HB := Lib.hid (chain2 HB.out hb); clear hb)
        | (go_at_call 16; (with_reducible refine (R0.out _).mono ?_); rintro e wn ⟨rfl, hb⟩; replace G := Lib.hid (LA.out _ _ _ G.out hb); replace HB := Lib.hid (chain2 HB.out hb); clear hb)
        | (go_at_call 15; (with_reducible refine (OX.out _ b G.out HO.out).mono ?_); rintro e wn ⟨NA, cp, rfl, hb⟩; replace G := Lib.hid (LA.out _ _ _ G.out hb); replace HB := Lib.hid (chain2 HB.out hb); clear hb)
        | (go_at_call 17; (with_reducible refine (IX.out _ b G.out HO.out).mono ?_); rintro e wn ⟨NA, cp, rfl, hb⟩; replace G := Lib.hid (LA.out _ _ _ G.out hb); replace HB := Lib.hid (chain2 HB.out hb); clear hb)
        | (go_at_call 18; (with_reducible refine (TX.out _ b G.out HO.out).mono ?_); rintro e wn ⟨NA, cp, rfl, hb⟩; replace G := Lib.hid (LA.out _ _ _ G.out hb); replace HB := Lib.hid (chain2 HB.out hb); clear hb)
        | (go_at_call 19; (with_reducible refine (LX.out _ b G.out HO.out).mono ?_); rintro e wn ⟨rfl, hb⟩; replace G := Lib.hid (LA.out _ _ _ G.out hb); replace HB := Lib.hid (chain2 HB.out hb); clear hb)
        | (go_at_call 16; (with_reducible refine (RX.out _ b G.out HO.out).mono ?_); rintro e wn ⟨rfl, hb⟩; replace G := Lib.hid (LA.out _ _ _ G.out hb); replace HB := Lib.hid (chain2 HB.out hb); clear hb))
      go_ret
      exact ⟨rfl, HB.out⟩
  · have h1 : ¬ nn < 0 := by omega
    have h2 : ¬ (n : Int) ≤ nn := by omega
    have h3 : nn < (n : Int) := by omega
    have h4 : 0 ≤ nn := by omega
    clear ho
    go_wp2_with (first
        | (go_at_call 10; (refine (KN.out _).mono ?_); rintro e wn ⟨rfl, hb⟩; replace HB := Lib.hid (chain2 HB.out hb); clear hb)
        | (go_at_call 14; (with_reducible refine (N0.out _).mono ?_); rintro e wn ⟨rfl, hb⟩; replace HB := Lib.hid (chain2 HB.out hb); clear hb)
        | (go_at_call 15; (with_reducible refine (O0.out _).mono ?_); rintro e wn ⟨NA, cp, rfl, hb⟩; replace HB := Lib.hid (chain2 HB.out hb); clear hb)
        | (go_at_call 17; (with_reducible refine (I0.out _).mono ?_); rintro e wn ⟨NA, cp, rfl, hb⟩; replace HB := Lib.hid (chain2 HB.out hb); clear hb)
        | (go_at_call 18; (with_reducible refine (T0.out _).mono ?_); rintro e wn ⟨NA, cp, rfl, hb⟩; replace HB := Lib.hid (chain2 HB.out hb); clear hb)
        | (go_at_call 19; (with_reducible refine (L0.out _).mono ?_); rintro e wn ⟨rfl, hb⟩; replace HB := Lib.hid (chain2 HB.out hb); clear hb)
        | (go_at_call 16; (with_reducible refine (R0.out _).mono ?_); rintro e wn ⟨rfl, hb⟩; replace HB := Lib.hid (chain2 HB.out hb); clear hb))
    all_goals first | (go_ret; exact ⟨rfl, HB.out⟩) | (exfalso; simp_all [undef]; done) | skip
end Go.Proofs.Ytldjlclinckblaa.Adj
