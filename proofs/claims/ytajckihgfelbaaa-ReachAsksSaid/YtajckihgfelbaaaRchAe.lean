/- ReachAsks' own part: all calls over one instance. -/
import Derived.Test.YtajckihgfelbaaaRchAc
import Derived.Test.YtajckihgfelbaaaRchAd
import Derived.Test.YtajckihgfelbaaaRchTurned
namespace Go.Proofs.Ytajckihgfelbaaa.Rch
open Go.RowKit Go.Proofs.Ytajckihgfelbaaa.Inst Go.Proofs.Ytajckihgfelbaaa.Adj
set_option maxRecDepth 100000

/-- What the last region reads. -/
abbrev SA (u0 : World) (p : Nat) (a b : Value) (u : World) : Prop := u.cell? ⟨p, 0, none⟩ = some a ∧ u.cell? ⟨p, 1, none⟩ = some b ∧ Below u0.heap.size u0 u
theorem keepA {u0 : World} {p : Nat} {a b : Value} (hp : p < u0.heap.size) {u v : World} (h : SA u0 p a b u) (hb : Below u.heap.size u v) : SA u0 p a b v := by
  obtain ⟨h1, h2, h5⟩ := h
  have hz := h5.size
  exact ⟨(hb.cell (p := ⟨p, 0, none⟩) (by show p < _; omega)).trans h1, (hb.cell (p := ⟨p, 1, none⟩) (by show p < _; omega)).trans h2, chain2 h5 hb⟩
set_option maxHeartbeats 8000000 in
theorem asks_any (A A2 ao : Option Addr) (c d cs n m k : Nat) (I : InstD) (sm : List Int) (w : World) (h : Here w A A2 n m I) (h1 : n ≤ 1000) (h2 : m ≤ 1000) (hs : ∀ x ∈ sm, I64 x) (hk : sm.length = k) (hsl : k ≤ 100000) (hA : Cells w w.heap.size ao (numV sm)) :
    Calls Try.prog 21 #[.agg #[.slice A n c, .slice A2 m d], .slice ao k cs] w fun e w' => e = .returned (.bool true) ∧ Below w.heap.size w w' := by
  obtain ⟨p, hp⟩ : ∃ p, p = w.heap.size := ⟨_, rfl⟩
  obtain ⟨W2, hW2⟩ : ∃ W2, W2 = w.alloc (.cells #[.slice A n c, .slice A2 m d] 25) := ⟨_, rfl⟩
  have V2 := Lib.hid (show IVar W2 p A A2 c d n m I by rw [hW2]; exact IVar.new h hp)
  have B2 := Lib.hid (show Below w.heap.size w W2 by rw [hW2]; exact (Below.refl _ _).alloc (Nat.le_refl _) _)
  have VI := Lib.hid (fun u (hu : Below W2.heap.size W2 u) => V2.out.later hu)
  have SC := Lib.hid (fun u (hu : Below W2.heap.size W2 u) => hA.later (Nat.le_refl _) (chain2 B2.out hu))
  have HS := Lib.hid hs
  have HK := Lib.hid hk
  have HN := Lib.hid h.n
  have HM := Lib.hid h.m
  have ln := Lib.hid (show (fromL I sm).length = n from (fromL_len I sm).trans h.n)
  have lt := Lib.hid (show (toL I sm).length = n from (toL_len I sm).trans h.n)
  have ls := Lib.hid (show (strongL I).length = n from (strongL_length I).trans h.n)
  have lb := Lib.hid (show (backL I).length = m from (backL_length I).trans h.m)
  have ol := Lib.hid (show (toldL I).length ≤ 1000 from by
    unfold toldL
    split
    · have := order_le I I.sup.length
      rw [h.n] at this
      unfold orderL
      rw [h.n]
      omega
    · simp)
  obtain ⟨t, ht⟩ : ∃ t, t = (toldL I).length := ⟨_, rfl⟩
  obtain ⟨ok, hok⟩ : ∃ ok, ok = okD I := ⟨_, rfl⟩
  have OR := Lib.hid (Order_any A A2 c d n m I W2 (V2.out.is) h1 h2)
  have RO := Lib.hid (fun u (hu : Below W2.heap.size W2 u) => rorder_any A A2 c d n m I u (VI.out u hu).is h1 h2)
  unfold TellsOrder at OR RO
  rw [← ht, ← hok] at OR RO
  have t9 : t ≤ 1000 := by rw [ht]; exact ol.out
  have HT := Lib.hid ht
  have HP := Lib.hid hp
  have HW := Lib.hid hW2
  obtain ⟨x0, x1, x2⟩ := V2.out.cells
  clear h hp hW2 hA hs hk ht hok
  go_enter Try.func21, Try.ntmps21
  go_wp2_with fail
  rw [← HW.out, ← HP.out]
  refine OR.out.mono ?_
  rintro e u1 ⟨OA, oc, rfl, -, hoc, hb⟩
  have B3 := Lib.hid hb
  have OC := Lib.hid hoc
  have R1 := Lib.hid (RO.out u1 hb)
  clear hoc hb OR RO x0 x1 x2
  obtain ⟨x0, x1, x2⟩ := (VI.out _ B3.out).cells
  go_wp2_with fail
  refine R1.out.mono ?_
  rintro e u0 ⟨RA, rc, rfl, -, hrc, hb⟩
  have B4 := Lib.hid (chain2 B3.out hb)
  have OC4 := Lib.hid (OC.out.later (Nat.le_refl _) hb)
  have RC4 := Lib.hid hrc
  clear hrc hb R1 x0 x1 x2
  obtain ⟨x0, x1, x2⟩ := (VI.out _ B4.out).cells
  have VV := Lib.hid (fun u (h : SA u0 p (.slice A n c) (.slice A2 m d) u) => (VI.out u (chain2 B4.out h.2.2)).is)
  have SS2 := Lib.hid (fun u (h : SA u0 p (.slice A n c) (.slice A2 m d) u) => SC.out u (chain2 B4.out h.2.2))
  have FI := Lib.hid (fun u (h : SA u0 p (.slice A n c) (.slice A2 m d) u) => (from_any A A2 ao c d cs n m k I sm u (VV.out u h) h1 h2 HS.out HK.out (by omega) (SS2.out u h)).mono fun e w' g => marks_cells ln.out g)
  have FR := Lib.hid (fun u (h : SA u0 p (.slice A n c) (.slice A2 m d) u) => (rfrom_any A A2 ao c d cs n m k I sm u (VV.out u h) h1 h2 HS.out HK.out (by omega) (SS2.out u h)).mono fun e w' g => marks_cells ln.out g)
  have TI := Lib.hid (fun u (h : SA u0 p (.slice A n c) (.slice A2 m d) u) => (to_any A A2 ao c d cs n m k I sm u (VV.out u h) h1 h2 HS.out HK.out (by omega) (SS2.out u h)).mono fun e w' g => marks_cells lt.out g)
  have TR := Lib.hid (fun u (h : SA u0 p (.slice A n c) (.slice A2 m d) u) => (rto_any A A2 ao c d cs n m k I sm u (VV.out u h) h1 h2 HS.out HK.out (by omega) (SS2.out u h)).mono fun e w' g => marks_cells lt.out g)
  have GI := Lib.hid (fun u (h : SA u0 p (.slice A n c) (.slice A2 m d) u) => (Strong_any A A2 c d n m I u (VV.out u h) h1 h2).mono fun e w' g => strong_cells ls.out g)
  have GR := Lib.hid (fun u (h : SA u0 p (.slice A n c) (.slice A2 m d) u) => rstrong_any A A2 c d n m I u (VV.out u h) h1 h2)
  have KI := Lib.hid (fun u (h : SA u0 p (.slice A n c) (.slice A2 m d) u) => (Back_any A A2 c d n m I u (VV.out u h) h1 h2).mono fun e w' g => marks_cells lb.out g)
  have KR := Lib.hid (fun u (h : SA u0 p (.slice A n c) (.slice A2 m d) u) => rback_any A A2 c d n m I u (VV.out u h) h1 h2)
  have BO := Lib.hid (fun u (h : SA u0 p (.slice A n c) (.slice A2 m d) u) => ints_same OA RA (toldL I) t oc rc HT.out.symm (by omega) u (OC4.out.later (Nat.le_refl _) h.2.2) (RC4.out.later (Nat.le_refl _) h.2.2))
  have BN := Lib.hid (fun u A B c d ha hb => bools_same A B (fromL I sm) n c d ln.out (by omega) u ha hb)
  have BT := Lib.hid (fun u A B c d ha hb => bools_same A B (toL I sm) n c d lt.out (by omega) u ha hb)
  have BS := Lib.hid (fun u A B c d ha hb => ints_same A B (strongL I) n c d ls.out (by omega) u ha hb)
  have BB := Lib.hid (fun u A B c d ha hb => bools_same A B (backL I) m c d lb.out (by omega) u ha hb)
  have bb : (ok == ok) = true := by simp
  have BW := Lib.hid (chain2 B2.out B4.out)
  clear VI SC HS HK HN HM OC HT HW HP
  go_wp2_with fail
  go_region_held3 (fun u => u.cell? ⟨p, 0, none⟩ = some (.slice A n c) ∧ u.cell? ⟨p, 1, none⟩ = some (.slice A2 m d) ∧ Below u0.heap.size u0 u)
    (first | exact ⟨x0, x1, (Below.refl _ _).drew⟩ | exact keepA x2 ⟨x0, x1, (Below.refl _ _).drew⟩ hb | exact keepA x2 (by assumption) hb)
    (first
      | (go_at_call 43; (with_reducible refine (FI.out _ (by assumption)).mono ?_); rintro e wa1 ⟨FA1, fa1, rfl, hcc, hb⟩; have A1 := Lib.hid hcc; clear hcc)
      | (go_at_call 44; (with_reducible refine (FR.out _ (by assumption)).mono ?_); rintro e wb1 ⟨FB1, fb1, rfl, hcc, hb⟩; have B1 := Lib.hid hcc; have C1 := Lib.hid (A1.out.later (Nat.le_refl _) hb); clear hcc)
      | (go_at_call 40; (with_reducible refine (BN.out _ _ _ _ _ C1.out B1.out).mono ?_); rintro e wc1 ⟨rfl, hb⟩)
      | (go_at_call 45; (with_reducible refine (TI.out _ (by assumption)).mono ?_); rintro e wa2 ⟨FA2, fa2, rfl, hcc, hb⟩; have A2 := Lib.hid hcc; clear hcc)
      | (go_at_call 46; (with_reducible refine (TR.out _ (by assumption)).mono ?_); rintro e wb2 ⟨FB2, fb2, rfl, hcc, hb⟩; have B2 := Lib.hid hcc; have C2 := Lib.hid (A2.out.later (Nat.le_refl _) hb); clear hcc)
      | (go_at_call 40; (with_reducible refine (BT.out _ _ _ _ _ C2.out B2.out).mono ?_); rintro e wc2 ⟨rfl, hb⟩)
      | (go_at_call 39; (with_reducible refine (GI.out _ (by assumption)).mono ?_); rintro e wa3 ⟨FA3, fa3, rfl, hcc, hb⟩; have A3 := Lib.hid hcc; clear hcc)
      | (go_at_call 47; (with_reducible refine (GR.out _ (by assumption)).mono ?_); rintro e wb3 ⟨FB3, fb3, rfl, hcc, hb⟩; have B3 := Lib.hid hcc; have C3 := Lib.hid (A3.out.later (Nat.le_refl _) hb); clear hcc)
      | (go_at_call 16; (with_reducible refine (BS.out _ _ _ _ _ C3.out B3.out).mono ?_); rintro e wc3 ⟨rfl, hb⟩)
      | (go_at_call 41; (with_reducible refine (KI.out _ (by assumption)).mono ?_); rintro e wa4 ⟨FA4, fa4, rfl, hcc, hb⟩; have A4 := Lib.hid hcc; clear hcc)
      | (go_at_call 48; (with_reducible refine (KR.out _ (by assumption)).mono ?_); rintro e wb4 ⟨FB4, fb4, rfl, hcc, hb⟩; have B4 := Lib.hid hcc; have C4 := Lib.hid (A4.out.later (Nat.le_refl _) hb); clear hcc)
      | (go_at_call 40; (with_reducible refine (BB.out _ _ _ _ _ C4.out B4.out).mono ?_); rintro e wc4 ⟨rfl, hb⟩)
      | (go_at_call 16; (with_reducible refine (BO.out _ (by assumption)).mono ?_); rintro e wc5 ⟨rfl, hb⟩))
  all_goals
    rename_i hs
    have H9 := Lib.hid (show Below u0.heap.size u0 _ from hs.2.2)
    clear hs
    go_wp2_with fail
    go_ret
    exact ⟨rfl, chain2 BW.out H9.out⟩
end Go.Proofs.Ytajckihgfelbaaa.Rch
