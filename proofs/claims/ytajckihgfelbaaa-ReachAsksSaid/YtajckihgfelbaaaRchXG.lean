/- What the landed layer 6 does: nodes as arcs go, all of them. -/
import Derived.Test.YtajckihgfelbaaaRchXF
import Derived.Deep.DeepCutAuto
namespace Go.Proofs.Ytajckihgfelbaaa.Rch
open Go.RowKit Go.Proofs.Ytajckihgfelbaaa.Inst Go.Proofs.Ytajckihgfelbaaa.Adj
set_option maxRecDepth 100000

theorem ints_of {l : List Int} {h : List Nat} (p : l.Perm (intsN h)) : ∃ h', l = intsN h' ∧ h'.Perm h := by
  refine ⟨l.map Int.toNat, ?_, ?_⟩
  · unfold intsN
    rw [List.map_map]
    conv => lhs; rw [← List.map_id l]
    apply List.map_congr_left
    intro x hx
    have := p.subset hx
    rw [List.mem_map] at this
    obtain ⟨y, _, rfl⟩ := this
    simp
  · have := p.map Int.toNat
    unfold intsN at this
    rw [List.map_map] at this
    have e : h.map (Int.toNat ∘ fun (x : Nat) => (x : Int)) = h := by
      conv => rhs; rw [← List.map_id h]
      apply List.map_congr_left
      intro x _
      simp
    rwa [e] at this
theorem KahnIs.few {I : InstD} {h W told : List Nat} (H : KahnIs I h W told) : h.length + told.length ≤ I.sup.length := by
  have h1 : (h ++ told).Nodup := List.nodup_append.2 ⟨H.nodup, H.ord.nodup, fun a ha b hb e => ((H.is a).1 ha).2.1 (e ▸ hb)⟩
  have h2 := List.Nodup.length_le_of_subset h1 (fun n hn => List.mem_range.2 (show n < I.sup.length by
    rw [List.mem_append] at hn
    rcases hn with q | q
    · exact ((H.is n).1 q).1
    · exact H.ord.lt n q))
  rw [List.length_range, List.length_append] at h2
  exact h2
theorem KahnIs.small {I : InstD} {h W told : List Nat} (H : KahnIs I h W told) (hm : I.arcs.length ≤ 1000) : ∀ m, W.getD m 0 ≤ 1000000 := by
  intro m
  by_cases c : m < I.sup.length
  · rw [H.wait m c]
    have : wC I told m ≤ I.arcs.length := by
      have := List.countP_le_length (p := fun (k : Nat) => fitD I (k : Int) && decide ((arcAt I.arcs k).to = (m : Int)) && !(told.contains (arcAt I.arcs k).frm.toNat)) (l := List.range I.arcs.length)
      rw [List.length_range] at this
      exact this
    omega
  · rw [List.getD_eq_getElem?_getD, List.getElem?_eq_none (by rw [H.len]; omega)]
    simp

section
variable (w0 : World) (M b c5 c6 c9 F : Nat) (lb : Array Value) (I : InstD)
def OInv (k : Nat) (w : World) : Prop := ∃ vs vf h W told, OMem w0 I.sup.length M b c5 c6 c9 F lb w vs vf (intsN h) W told ∧ Heap (intsN h) (intsN h).length ∧ KahnIs I h W told ∧ I.sup.length - told.length ≤ k
def OMid (n : Int) (k : Nat) (w : World) : Prop := ∃ (m : Nat) (vs vf : Value) (h W told : List Nat), n = (m : Int) ∧ OMem w0 I.sup.length M b c5 c6 c9 F lb w vs vf (intsN h) W told ∧ Heap (intsN h) (intsN h).length ∧ KahnIs I (m :: h) W told ∧ (∀ x ∈ h, m ≤ x) ∧ I.sup.length - (told.length + 1) ≤ k
def OPuts (A : Option Addr) (l : List Int) (k i : Nat) (w : World) : Prop := ∃ (L : List Nat) (vs vf : Value) (h W told : List Nat), l = intsN L ∧ OMem w0 I.sup.length M b c5 c6 c9 F lb w vs vf (intsN h) W told ∧ Heap (intsN h) (intsN h).length ∧ KahnIs I (h ++ L.drop i) W told ∧ I.sup.length - told.length ≤ k ∧ Told w b vs A l
def OEnd (w : World) : Prop := ∃ vs vf W, OMem w0 I.sup.length M b c5 c6 c9 F lb w vs vf [] W (orderL I)
variable {w0 M b c5 c6 c9 F lb I}
theorem otake (hN : I.sup.length ≤ 1000) (k : Nat) (w : World) (h : OInv w0 M b c5 c6 c9 F lb I k w) : Calls Try.prog 164 #[.pointer (some ⟨b, 0, none⟩)] w fun e w' => ∃ n t, e = .returned (.tuple #[.int .i64 n, .bool t]) ∧ After (OMid w0 M b c5 c6 c9 F lb I) (OEnd w0 M b c5 c6 c9 F lb I) k n t w' := by
  obtain ⟨vs, vf, h, W, told, hm, hh, hk, hz⟩ := h
  have few := hk.few
  cases h with
  | nil =>
    refine (ltake_none b vs w hm.heap).mono ?_
    rintro e w' ⟨rfl, rfl⟩
    have e := hk.over
    subst e
    exact ⟨0, false, rfl, .inl ⟨rfl, vs, vf, W, hm⟩⟩
  | cons x h =>
    simp at few
    refine (ltake_any b vs (intsN (x :: h)) h.length (by simp) w hm.heap (by omega) hh).mono ?_
    rintro e w' ⟨rfl, vs', l', h1, hp, h2, h3, hw⟩
    obtain ⟨hh', e1, p1⟩ := ints_of hp
    cases hh' with
    | nil => simp at e1
    | cons m h' =>
      rw [show intsN (m :: h') = (m : Int) :: intsN h' from rfl] at e1
      injection e1 with e2 e3
      subst e3
      rw [e2] at h3 ⊢
      refine ⟨m, true, rfl, .inr ⟨rfl, I.sup.length - (told.length + 1), by omega, m, vs', vf, h', W, told, rfl, hm.heaped h1 hw, h2, hk.perm p1.symm, fun y hy => ?_, Nat.le_refl _⟩⟩
      have := h3 (y : Int) (mem_ints.2 hy)
      omega
theorem omeet (hN : I.sup.length ≤ 1000) (hA : I.arcs.length ≤ 1000) (hX : NextIs noB I.sup.length (outN I) F lb w0) (n : Int) (k : Nat) (w : World) (h : OMid w0 M b c5 c6 c9 F lb I n k w) :
    Calls Try.prog 73 (#[.int .i64 n] ++ #[.pointer (some ⟨c9, 0, none⟩), .pointer (some ⟨c5, 0, none⟩), .pointer (some ⟨c6, 0, none⟩)]) w fun e w' => ∃ A l c, e = .returned (.slice A l.length c) ∧ l.length ≤ 1000000 ∧ OPuts w0 M b c5 c6 c9 F lb I A l k 0 w' := by
  obtain ⟨m, vs, vf, h, W, told, rfl, hm, hh, hk, hle, hz⟩ := h
  have few := hk.few
  have lt := ((hk.is m).1 (by simp)).1
  have fl := freeL_small W (outN I m)
  have ol := outN_length I m
  refine (order1_any m lt (by simp at few; omega) hk.len hk.count (hk.small hA) hX hm).mono ?_
  rintro e w' ⟨A, c, vf', rfl, ht, hm'⟩
  refine ⟨A, intsN (freeL W (outN I m) (outN I m).length), c, by rw [intsN_length], by rw [intsN_length]; omega, _, vs, vf', h, _, told ++ [m], rfl, hm', hh, ?_, by simpa using hz, ht⟩
  simpa using hk.step hle
theorem oput (hN : I.sup.length ≤ 1000) (A : Option Addr) (l : List Int) (k i : Nat) (w : World) (hi : i < l.length) (h : OPuts w0 M b c5 c6 c9 F lb I A l k i w) :
    Calls Try.prog 71 #[.pointer (some ⟨b, 0, none⟩), .int .i64 l[i]] w fun e w' => (∃ r, e = .returned r) ∧ OPuts w0 M b c5 c6 c9 F lb I A l k (i + 1) w' := by
  obtain ⟨L, vs, vf, h, W, told, rfl, hm, hh, hk, hz, ht⟩ := h
  have hi' : i < L.length := by simpa using hi
  have few := hk.few
  rw [List.length_append] at few
  have e : (intsN L)[i] = (L[i] : Int) := by simp
  rw [e]
  refine (lput_any b vs (intsN h) (L[i] : Int) w hm.heap (by rw [intsN_length]; omega) hh).mono ?_
  rintro e w' ⟨hr, vs', l', h1, hp, h2, hw⟩
  rw [← intsN_snoc] at hp
  obtain ⟨h', rfl, p1⟩ := ints_of hp
  refine ⟨hr, L, vs', vf, h', W, told, rfl, hm.heaped h1 hw, h2, hk.perm ?_, hz, ht.wrote (by rw [intsN_length]; omega) hw⟩
  rw [List.drop_eq_getElem_cons hi']
  have : (h ++ L[i] :: L.drop (i + 1)) = (h ++ [L[i]]) ++ L.drop (i + 1) := by simp
  rw [this]
  exact (p1.append_right _).symm
theorem odone (A : Option Addr) (l : List Int) (k : Nat) (w : World) (h : OPuts w0 M b c5 c6 c9 F lb I A l k l.length w) : OInv w0 M b c5 c6 c9 F lb I k w := by
  obtain ⟨L, vs, vf, h, W, told, rfl, hm, hh, hk, hz, ht⟩ := h
  rw [intsN_length, List.drop_length, List.append_nil] at hk
  exact ⟨vs, vf, h, W, told, hm, hh, hk, hz⟩
end
theorem owalk {w0 : World} {M b c5 c6 c9 F : Nat} {lb : Array Value} {I : InstD} (hN : I.sup.length ≤ 1000) (hA : I.arcs.length ≤ 1000) (hX : NextIs noB I.sup.length (outN I) F lb w0) (k : Nat) (w : World) (h : OInv w0 M b c5 c6 c9 F lb I k w) :
    Calls Try.prog 72 #[.iface 102 (.pointer (some ⟨b, 0, none⟩)), .func (.func 73) #[] #[.pointer (some ⟨c9, 0, none⟩), .pointer (some ⟨c5, 0, none⟩), .pointer (some ⟨c6, 0, none⟩)]] w fun e w' => (∃ r, e = .returned r) ∧ OEnd w0 M b c5 c6 c9 F lb I w' :=
  walk_any 102 _ 164 71 73 _ (OInv w0 M b c5 c6 c9 F lb I) (OMid w0 M b c5 c6 c9 F lb I) (OPuts w0 M b c5 c6 c9 F lb I) (OEnd w0 M b c5 c6 c9 F lb I)
    (ltake_at _) (enters_of Try.func164 (by kernel_rfl) rfl) (lput_at _) (enters_of Try.func71 (by kernel_rfl) rfl) (enters_of Try.func73 (by kernel_rfl) rfl)
    (otake hN) (omeet hN hA hX) (fun A l k i w h => by obtain ⟨L, vs, vf, h, W, told, rfl, hm, hh, hk, hz, ht⟩ := h; exact ht.1) (oput hN) odone k w h

/-- Order's blocks ahead of its walk. -/
structure OPre (w0 : World) (N M b c5 c6 F : Nat) (lb : Array Value) (w : World) (vs : Value) (h : List Int) (W : List Nat) : Prop where
  heap : LHeap w b vs h
  wbox : Blk w c6 32 #[.slice (some ⟨M, 0, none⟩) N N]
  wrow : Blk w M 3 (natV W).toArray
  nbox : Blk w c5 100 #[.func (.func F) #[] lb]
  sM : vs.ownBlock ≠ some M
  kp : Below w0.heap.size w0 w
  nM : w0.heap.size ≤ M
  nb : w0.heap.size ≤ b
  ns : ∀ g, vs.ownBlock = some g → w0.heap.size ≤ g
section
variable {w0 w w' : World} {N M b c5 c6 c9 F : Nat} {lb : Array Value} {vs vs' : Value} {h h' : List Int} {W W' : List Nat}
theorem OPre.later (H : OPre w0 N M b c5 c6 F lb w vs h W) (hb : Below w.heap.size w w') : OPre w0 N M b c5 c6 F lb w' vs h W :=
  { H with heap := H.heap.later hb, wbox := H.wbox.below hb H.wbox.lt, wrow := H.wrow.below hb H.wrow.lt, nbox := H.nbox.below hb H.nbox.lt, kp := chain2 H.kp hb }
theorem OPre.heaped (H : OPre w0 N M b c5 c6 F lb w vs h W) (hs : LHeap w' b vs' h') (hw : Wrote b vs vs' w w') : OPre w0 N M b c5 c6 F lb w' vs' h' W := by
  obtain ⟨hk, hg⟩ := hw
  refine ⟨hs, hk.blk H.wbox (fun e => ?_), hk.blk H.wrow (fun e => ?_), hk.blk H.nbox (fun e => ?_), fun h1 => ?_, H.kp.trans (hk.below (fun k e => ?_) H.kp.size), H.nM, H.nb, fun g h1 => ?_⟩
  · rcases e with e | e
    · exact blk_other H.wbox H.heap.blk (by decide) e
    · exact blk_apart H.heap.own H.wbox (by decide) e
  · rcases e with e | e
    · exact blk_other H.wrow H.heap.blk (by decide) e
    · exact H.sM e
  · rcases e with e | e
    · exact blk_other H.nbox H.heap.blk (by decide) e
    · exact blk_apart H.heap.own H.nbox (by decide) e
  · rcases hg M h1 with q | q
    · exact H.sM q
    · have := H.wrow.lt
      omega
  · rcases e with e | e
    · have := H.nb; omega
    · exact H.ns k e
  · rcases hg g h1 with q | q
    · exact H.ns g q
    · have := H.kp.size; omega
theorem OPre.waited (H : OPre w0 N M b c5 c6 F lb w vs h W) (hs : Blk w' M 3 (natV W').toArray) (hk : Kp (fun j => j = M) w w') : OPre w0 N M b c5 c6 F lb w' vs h W' :=
  ⟨H.heap.kp hk (blk_other H.heap.blk H.wrow (by decide)) (fun _ hg e => H.sM (by rw [hg, e])), hk.blk H.wbox (blk_other H.wbox H.wrow (by decide)), hs, hk.blk H.nbox (blk_other H.nbox H.wrow (by decide)), H.sM,
    H.kp.trans (hk.below (fun k e => by have := H.nM; omega) H.kp.size), H.nM, H.nb, H.ns⟩
/-- With a list that holds nothing yet. -/
theorem OPre.mem (H : OPre w0 N M b c5 c6 F lb w vs h W) (hw : w' = w.alloc (.cells #[.slice none 0 0] 32)) : OMem w0 N M b c5 c6 w.heap.size F lb w' vs (.slice none 0 0) h W [] := by
  have H2 := H.later (show Below w.heap.size w w' by rw [hw]; exact (Below.refl _ _).alloc (Nat.le_refl _) _)
  have := H.kp.size
  have := H.wbox.lt
  exact ⟨H2.heap, ⟨by rw [hw]; exact Blk.new _ _ _, rfl, .inl ⟨rfl, rfl⟩⟩, H2.wbox, H2.wrow, H2.nbox, fun _ _ e => by simp [Value.ownBlock] at e, H2.sM, fun e => by simp [Value.ownBlock] at e, by omega, H2.kp, H2.nM, H2.nb, by omega, H2.ns, fun _ e => by simp [Value.ownBlock] at e⟩
end
/-- As many as are counted. -/
def waitN (I : InstD) (k : Nat) : List Nat := (List.range k).map (wC I []) ++ List.replicate (I.sup.length - k) 0
def freeN (I : InstD) (k : Nat) : List Nat := (List.range k).filter fun n => decide (wC I [] n = 0)
theorem waitN_length (I : InstD) (k : Nat) (h : k ≤ I.sup.length) : (waitN I k).length = I.sup.length := by simp [waitN]; omega
theorem waitN_set (I : InstD) (k : Nat) (h : k < I.sup.length) : (waitN I k).set k (wC I [] k) = waitN I (k + 1) := by
  unfold waitN
  have e : I.sup.length - k = I.sup.length - (k + 1) + 1 := by omega
  rw [e, List.replicate_succ, List.set_append_right _ _ (by simp), List.range_succ, List.map_append]
  simp
theorem waitN_get (I : InstD) (k n : Nat) (h : n < k) : (waitN I k).getD n 0 = wC I [] n := by
  unfold waitN
  rw [List.getD_eq_getElem?_getD, List.getElem?_append_left (by simpa using h)]
  simp [h]
theorem freeN_succ (I : InstD) (k : Nat) : freeN I (k + 1) = freeN I k ++ if wC I [] k = 0 then [k] else [] := by
  unfold freeN
  rw [List.range_succ, List.filter_append]
  congr 1
  by_cases c : wC I [] k = 0
  · simp [c]
  · simp [c]
theorem freeN_length (I : InstD) (k : Nat) : (freeN I k).length ≤ k := Nat.le_trans (List.length_filter_le _ _) (by rw [List.length_range]; exact Nat.le_refl _)
theorem kahn_new (I : InstD) : KahnIs I (freeN I I.sup.length) (waitN I I.sup.length) [] := by
  refine ⟨rfl, waitN_length I _ (Nat.le_refl _), fun n hn => waitN_get I _ n hn, List.Pairwise.filter _ List.nodup_range, fun n => ?_⟩
  unfold freeN
  rw [List.mem_filter, List.mem_range]
  simp
theorem wC_le (I : InstD) (told : List Nat) (n : Nat) : wC I told n ≤ I.arcs.length := by
  have := List.countP_le_length (p := fun (k : Nat) => fitD I (k : Int) && decide ((arcAt I.arcs k).to = (n : Int)) && !(told.contains (arcAt I.arcs k).frm.toNat)) (l := List.range I.arcs.length)
  rw [List.length_range] at this
  exact this
end Go.Proofs.Ytajckihgfelbaaa.Rch
/- What the landed layer 6 does: Order. -/
namespace Go.Proofs.Ytajckihgfelbaaa.Rch
open Go.RowKit Go.Proofs.Ytajckihgfelbaaa.Inst Go.Proofs.Ytajckihgfelbaaa.Adj
set_option maxRecDepth 100000

/-- At the head of Order's own loop. -/
def OrdRel (w0 : World) (M b c5 c6 F : Nat) (lb : Array Value) (I : InstD) (s23 : Value) (u : World) : Prop :=
  ∃ (k : Nat) (vs : Value) (h : List Nat), k ≤ I.sup.length ∧ s23 = .int .i64 (k : Int) ∧ OPre w0 I.sup.length M b c5 c6 F lb u vs (intsN h) (waitN I k) ∧ Heap (intsN h) (intsN h).length ∧ h.Perm (freeN I k)
/-- What a round reads. -/
abbrev SO (M n : Nat) (u : World) : Prop := u.cell? ⟨M + 1, 0, none⟩ = some (.slice (some ⟨M, 0, none⟩) n n) ∧ M + 1 < u.heap.size
/-- What Order tells. -/
def TellsOrder (I : InstD) (w : World) (e : Ending) (w' : World) : Prop :=
  ∃ A cap, e = .returned (.tuple #[.slice A (toldL I).length cap, .bool (okD I)]) ∧ (toldL I).length ≤ cap ∧ Cells w' w'.heap.size A (natV (toldL I)) ∧ Below w.heap.size w w'
set_option maxHeartbeats 8000000 in
theorem Order_any (A A2 : Option Addr) (c d n m : Nat) (I : InstD) (w : World) (h : Here w A A2 n m I) (h1 : n ≤ 1000) (h2 : m ≤ 1000) :
    Calls Try.prog 38 #[.agg #[.slice A n c, .slice A2 m d]] w (TellsOrder I w) := by
  obtain ⟨wa, hwa⟩ : ∃ wa, wa = w.alloc (.cells #[.slice A n c, .slice A2 m d] 25) := ⟨_, rfl⟩
  have B0 := Lib.hid (show Below w.heap.size w wa by rw [hwa]; exact (Below.refl _ _).alloc (Nat.le_refl _) _)
  have NW := Lib.hid (new_any A A2 c d n m I wa (h.later B0.out) h1 h2)
  have MZ := fun W => make_zeros n h1 W
  have HN := Lib.hid h.n
  have HM := Lib.hid h.m
  have HW := Lib.hid hwa
  clear h hwa
  go_enter Try.func38, Try.ntmps38
  go_wp2_with fail
  rw [← HW.out]
  refine NW.out.mono ?_
  rintro e w2 ⟨b0, rfl, hg, hb⟩
  have G := Lib.hid hg
  have B2 := Lib.hid (chain2 B0.out hb)
  have AL := Lib.hid (along_any b0 69 w2)
  have X := Lib.hid (next_out I b0 w2 w2 hg (Below.refl _ _))
  clear hg hb
  go_wp2_with fail
  refine AL.out.mono ?_
  rintro e w3 ⟨rfl, hw3⟩
  have B3 := Lib.hid (show Below w2.heap.size w2 w3 by rw [hw3]; exact alongW_below _ _ _)
  rw [← hw3] at X
  obtain ⟨w0, hw0⟩ : ∃ w0, w0 = w3.alloc (.cells #[.func (.func 95) #[] (alongB w2)] 100) := ⟨_, rfl⟩
  have B4 := Lib.hid (show Below w3.heap.size w3 w0 by rw [hw0]; exact (Below.refl _ _).alloc (Nat.le_refl _) _)
  have N0 := Lib.hid (show Blk w0 w3.heap.size 100 #[.func (.func 95) #[] (alongB w2)] by rw [hw0]; exact Blk.new _ _ _)
  have X0 := Lib.hid (X.out.later (q := noB) (Kp.of B4.out (Nat.le_refl _)) (fun _ _ e => e.elim))
  have B20 := Lib.hid (chain2 B3.out B4.out)
  have G0 := Lib.hid (G.out.later B20.out)
  have ND := Lib.hid (nodes_v _ I n HN.out w0 (grx_v G0.out).half)
  have HW0 := Lib.hid hw0
  clear hw3 hw0
  go_wp2_with fail
  rw [← HW0.out]
  refine ND.out.mono ?_
  rintro e w4 ⟨rfl, hb⟩
  obtain ⟨lb, hlb⟩ : ∃ lb, lb = alongB w2 := ⟨_, rfl⟩
  obtain ⟨c5, hc5⟩ : ∃ c5, c5 = w3.heap.size := ⟨_, rfl⟩
  rw [← hlb] at X0 N0 ⊢
  rw [← hc5] at N0 ⊢
  obtain ⟨M, hM⟩ : ∃ M, M = w4.heap.size := ⟨_, rfl⟩
  obtain ⟨w5, hw5⟩ : ∃ w5, w5 = ((w4.alloc (.cells (natV (List.replicate n 0)).toArray 3)).alloc (.cells #[.slice (some ⟨w4.heap.size, 0, none⟩) n n] 32)).alloc (.cells #[.slice none 0 0] 105) := ⟨_, rfl⟩
  have B45 := Lib.hid (show Below w4.heap.size w4 w5 by rw [hw5]; exact (((Below.refl _ _).alloc (Nat.le_refl _) _).alloc (by simp) _).alloc (by simp; omega) _)
  have PRE : OPre w0 I.sup.length M (M + 1 + 1) c5 (M + 1) 95 lb w5 (.slice none 0 0) (intsN []) (waitN I 0) := by
    have hz := hb.size
    have k5 := chain2 hb B45.out
    refine ⟨⟨by rw [hw5, hM]; exact blk_at (by simp) _ _, rfl, .inl ⟨rfl, rfl⟩⟩, ?_, ?_, N0.out.below k5 N0.out.lt, fun e => by simp [Value.ownBlock] at e, k5, by omega, by omega, fun g e => by simp [Value.ownBlock] at e⟩
    · rw [HN.out, hw5, hM]
      exact (blk_at (by simp) _ _).alloc _
    · rw [show waitN I 0 = List.replicate n 0 by simp [waitN, HN.out], hw5, hM]
      exact ((Blk.new _ _ _).alloc _).alloc _
  have PR := Lib.hid PRE
  have HW5 := Lib.hid hw5
  have d0 := PRE.wbox.cell 0
  have d1 := PRE.wbox.lt
  simp at d0
  clear hlb hc5 hw5 PRE hb
  go_wp2_with fail
  rw [← HW5.out, ← hM]
  clear HW5 MZ d0 d1 hM
  have BW0 := Lib.hid (chain2 B2.out B20.out)
  go_loopw [8, 23] (fun s8 s23 u => OrdRel w0 M (M + 1 + 1) c5 (M + 1) 95 lb I s23 u) (fun _ s23 _ => n - (intOf s23).toNat)
  case atStart => exact ⟨0, _, [], Nat.zero_le _, rfl, PR.out, fun k _ hk => by simp at hk, by simp [freeN]⟩
  case round =>
    obtain ⟨k, vs, hl, hk, rfl, hp, hh, hf⟩ := hrel
    rw [HN.out] at hk
    have PH := Lib.hid hp
    have HH := Lib.hid hh
    have HF := Lib.hid hf
    have e0 := hp.wbox.cell 0
    have e1 := hp.wbox.lt
    simp at e0
    clear hp hh hf
    by_cases hlt : k < n
    · have hlt2 : k < I.sup.length := by rw [HN.out]; exact hlt
      obtain ⟨x, hx⟩ : ∃ x, x = wC I [] k := ⟨_, rfl⟩
      have x9 : x ≤ 1000 := by rw [hx]; have := wC_le I [] k; rw [HM.out] at this; omega
      have XL := Lib.hid (show (inD I (k : Int)).length = x by rw [hx, wC_new])
      have GU := Lib.hid (fun u (hu : OPre w0 I.sup.length M (M + 1 + 1) c5 (M + 1) 95 lb u vs (intsN hl) (waitN I k)) => G0.out.later hu.kp)
      have IN := Lib.hid (fun u (hu : OPre w0 I.sup.length M (M + 1 + 1) c5 (M + 1) 95 lb u vs (intsN hl) (waitN I k)) =>
        show Calls Try.prog 70 #[.pointer (some ⟨b0, 0, none⟩), .int .i64 (k : Int)] u (fun e u' => ∃ A c, e = .returned (.slice A x c) ∧ OPre w0 I.sup.length M (M + 1 + 1) c5 (M + 1) 95 lb u' vs (intsN hl) (waitN I k) ∧ SO M n u' ∧ (∃ z, u'.cell? ⟨M, k, none⟩ = some (.int .i64 z)) ∧ M < u'.heap.size ∧ u'.frozen? ⟨M, k, none⟩ = false) from
        (in_v _ I (k : Int) (by unfold I64; omega) u (grx_v (GU.out u hu))).mono (by
          rintro e u' ⟨A, c, rfl, -, -, hb, -⟩
          have h2 := hu.later hb
          refine ⟨A, c, by rw [XL.out], h2, ⟨?_, h2.wbox.lt⟩, ?_, h2.wrow.lt, h2.wrow.frozen k⟩
          · rw [← HN.out]
            exact (h2.wbox.cell 0).trans (by simp)
          · rw [h2.wrow.cell k]
            have : k < (waitN I k).length := by rw [waitN_length I k (by omega)]; exact hlt2
            simp [natV, numV, this]))
      have PD := Lib.hid (PH.out.later (Below.refl _ _).drew)
      have k0 : (0 : Int) ≤ (k : Int) := by omega
      have k1 : (k : Int) < (n : Int) := by omega
      -- behind the store
      have NX := Lib.hid (fun u (hu : OPre w0 I.sup.length M (M + 1 + 1) c5 (M + 1) 95 lb u vs (intsN hl) (waitN I k)) =>
        show OPre w0 I.sup.length M (M + 1 + 1) c5 (M + 1) 95 lb (u.setCell ⟨M, k, none⟩ (.int .i64 (x : Int))) vs (intsN hl) (waitN I (k + 1)) from
        hu.waited (by rw [← waitN_set I k hlt2, ← natV_setA, ← hx]; exact hu.wrow.set_ k _) ((Kp.refl _ _).set M k _ (fun _ => rfl)))
      have hl9 : hl.length ≤ 1000 := by rw [HF.out.length_eq]; have := freeN_length I k; omega
      have LP := Lib.hid (fun u (hu : OPre w0 I.sup.length M (M + 1 + 1) c5 (M + 1) 95 lb u vs (intsN hl) (waitN I (k + 1))) => lput_any (M + 1 + 1) vs (intsN hl) (k : Int) u hu.heap (by rw [intsN_length]; omega) HH.out)
      have FS := Lib.hid (freeN_succ I k)
      rw [← hx] at FS
      have e2 : wr.cell? ⟨M + 1, 0, none⟩ = some (.slice (some ⟨M, 0, none⟩) n n) := by rw [← HN.out]; exact e0
      clear e0
      go_upto_region 8 with fail
      clear PR NW ND AL X HW HW0 hlt2
      have HX := Lib.hid hx
      clear hx
      go_region_with (go_at_call 70; (with_reducible refine (IN.out _ PD.out).mono ?_); rintro e u2 ⟨RA, rc, rfl, hu, ⟨f0, f1⟩, ⟨zz, f2⟩, f3, f4⟩; have HU := Lib.hid hu; clear hu)
      all_goals
        obtain ⟨u3, hu3⟩ : ∃ u3, u3 = u2.setCell ⟨M, k, none⟩ (.int .i64 (x : Int)) := ⟨_, rfl⟩
        have N3 := Lib.hid (NX.out u2 HU.out)
        rw [← hu3] at N3
        have g0 := N3.out.wbox.cell 0
        have g1 := N3.out.wbox.lt
        simp at g0
        rw [HN.out] at g0
        have g2 : u3.cell? ⟨M, k, none⟩ = some (.int .i64 (x : Int)) := by
          rw [N3.out.wrow.cell k]
          have e1 : k < (waitN I (k + 1)).length := by rw [waitN_length I (k + 1) (by rw [HN.out]; omega), HN.out]; exact hlt
          have e2 := waitN_get I (k + 1) k (by omega)
          rw [List.getD_eq_getElem?_getD, List.getElem?_eq_getElem e1, ← HX.out] at e2
          simp only [Option.getD_some] at e2
          simp [natV, numV, e1, e2]
        have g3 := N3.out.wrow.lt
        have HU3 := Lib.hid hu3
        clear hu3 f0 f1 f2 f3 f4 HU
        by_cases z : x = 0
        · subst z
          have LC := Lib.hid (LP.out u3 N3.out)
          have z1 : (((0 : Nat) : Int) == 0) = true := by decide
          go_upto_region 9 with fail
          rw [← HU3.out]
          go_wp2_with fail
          refine LC.out.mono ?_
          rintro e u4 ⟨⟨r, rfl⟩, v', l', q1, q2, q3, q4⟩
          rw [← intsN_snoc] at q2
          obtain ⟨h', rfl, p1⟩ := ints_of q2
          have P4 := Lib.hid (N3.out.heaped q1 q4)
          have Q3 := Lib.hid q3
          have P1 := Lib.hid p1
          clear q1 q2 q3 q4 p1
          go_wp2_with fail
          refine ⟨⟨k + 1, v', h', by rw [HN.out]; omega, by simp, P4.out, Q3.out, ?_⟩, by simp [intOf]; omega⟩
          rw [FS.out, if_pos trivial]
          exact P1.out.trans (HF.out.append_right _)
        · have z1 : ¬ ((x : Int) = 0) := by omega
          go_upto_region 9 with fail
          rw [← HU3.out]
          go_wp2_with fail
          refine ⟨⟨k + 1, vs, hl, by rw [HN.out]; omega, by simp, N3.out, HH.out, ?_⟩, by simp [intOf]; omega⟩
          rw [FS.out, if_neg z, List.append_nil]
          exact HF.out
    · obtain rfl : k = n := by omega
      obtain ⟨w9, hw9⟩ : ∃ w9, w9 = wr.alloc (.cells #[.slice none 0 0] 32) := ⟨_, rfl⟩
      have OM := Lib.hid (PH.out.mem hw9)
      have KN : KahnIs I hl (waitN I I.sup.length) [] := (kahn_new I).perm (by rw [HN.out]; exact HF.out.symm)
      have OW := Lib.hid (owalk (by rw [HN.out]; exact h1) (by rw [HM.out]; exact h2) X0.out 2000 w9 ⟨vs, _, hl, waitN I I.sup.length, [], by rw [show waitN I I.sup.length = waitN I k by rw [HN.out]]; exact OM.out, HH.out, KN, by rw [HN.out]; omega⟩)
      have HW9 := Lib.hid hw9
      clear hw9 e0 KN OM
      go_wp2_with fail
      rw [← HW9.out]
      refine OW.out.mono ?_
      rintro e u1 ⟨⟨r, rfl⟩, vs1, vf1, W1, hm⟩
      have M1 := Lib.hid hm
      have ND1 := Lib.hid (fun v (hv : Below u1.heap.size u1 v) => nodes_v _ I k HN.out v (grx_v (G0.out.later (chain2 hm.kp hv))).half)
      have ho := hm.list.own
      rw [numV_ints, intsN_length] at ho
      obtain ⟨-, TA, tc, ev, htc, -, hcs⟩ := own_cells ho
      subst ev
      have x0 := hm.list.blk.cell 0
      have x1 := hm.list.blk.lt
      simp at x0
      have TC := Lib.hid hcs
      have ol := order_le I I.sup.length
      rw [HN.out] at ol
      obtain ⟨t, ht⟩ : ∃ t, t = (orderL I).length := ⟨_, rfl⟩
      rw [← ht] at x0 htc
      have t9 : t ≤ k := by rw [ht]; unfold orderL; rw [HN.out]; exact ol
      have HT := Lib.hid ht
      have BW1 := Lib.hid (chain2 BW0.out hm.kp)
      clear hm ho hcs ht ol
      go_upto_region 14 with fail
      by_cases full : t = k
      · subst full
        have OK := Lib.hid (ok_true (I := I) (by rw [← HT.out, HN.out]))
        have nlt : ¬ ((t : Int) < (t : Int)) := by omega
        go_region_with (go_at_call 34; (with_reducible refine (ND1.out _ (Below.refl _ _).drew).mono ?_); rintro e ux ⟨rfl, hb⟩; have HBX := Lib.hid hb; have f0 := (hb.cell (p := ⟨wr.heap.size, 0, none⟩) x1).trans x0; have f1 : wr.heap.size < ux.heap.size := Nat.lt_of_lt_of_le x1 hb.size; clear hb)
        all_goals
          go_wp2_with fail
          go_ret2
          refine ⟨TA, tc, ?_, by rw [OK.out.2, ← HT.out]; exact htc, ?_, BW1.out.trans (((Below.refl _ _).drew.trans (HBX.out.mono (Nat.le_refl _))).mono BW1.out.size)⟩
          · rw [OK.out.1, OK.out.2, ← HT.out]
            rfl
          · rw [OK.out.2]
            exact TC.out.later (Nat.le_refl _) ((Below.refl _ _).drew.trans (HBX.out.mono (Nat.le_refl _)))
      · have OK := Lib.hid (ok_false (I := I) (by rw [← HT.out, HN.out]; exact full))
        have nlt : (t : Int) < (k : Int) := by omega
        go_region_with (go_at_call 34; (with_reducible refine (ND1.out _ (Below.refl _ _).drew).mono ?_); rintro e ux ⟨rfl, hb⟩; have HBX := Lib.hid hb; have f0 := (hb.cell (p := ⟨wr.heap.size, 0, none⟩) x1).trans x0; have f1 : wr.heap.size < ux.heap.size := Nat.lt_of_lt_of_le x1 hb.size; clear hb)
        all_goals
          go_wp2_with fail
          go_ret2
          refine ⟨none, 0, ?_, by rw [OK.out.2]; exact Nat.le_refl _, ?_, BW1.out.trans (((Below.refl _ _).drew.trans (HBX.out.mono (Nat.le_refl _))).mono BW1.out.size)⟩
          · rw [OK.out.1, OK.out.2]
            rfl
          · rw [OK.out.2]
            exact fun h0 => absurd h0 (by simp [natV, numV])
end Go.Proofs.Ytajckihgfelbaaa.Rch
