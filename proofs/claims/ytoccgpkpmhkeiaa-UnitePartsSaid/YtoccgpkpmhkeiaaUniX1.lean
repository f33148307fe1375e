/- The landed sets: what they are in memory; how many numbers; the least one. -/
import Derived.Test.YtoccgpkpmhkeiaaUniMathL
import Derived.Test.YtoccgpkpmhkeiaaUniF
import Derived.Deep.LoopGhost
import Derived.WalkMore
namespace Go.Proofs.Ytoccgpkpmhkeiaa.Uni
open Go.RowKit Go.Proofs.Ytoccgpkpmhkeiaa.Inst
set_option linter.unusedVariables false

theorem Off.wide {lo hi lo' hi' : Nat} {w u : World} (h : Off lo hi w u) (h1 : lo' ≤ lo) (h2 : hi ≤ hi') : Off lo' hi' w u := ⟨h.os, h.tape, h.output, h.size, fun k hk hf => h.block k hk (by omega)⟩
/-- The struct's type. -/
abbrev tU : TypeId := 46
/-- Block b is the sets: its list, of the ways N, lies in its own blocks. -/
structure UnW (w : World) (b lo hi : Nat) (N L : List Nat) (A : Option Addr) (n c : Nat) : Prop where
  blk : Blk w b tU #[.slice A n c]
  row : w.ownsRow lo 3 1 (.slice A n c) n (natV N)
  ways : Ways N L
  canon : Canon L
  few : L.length ≤ 1000
  len : L.length = n
  ge : lo ≤ b
  lt : b < hi
  far : ∀ g, (Value.slice A n c).ownBlock = some g → g < hi
  size : hi ≤ w.heap.size
def UnX (w : World) (b lo hi : Nat) (L : List Nat) : Prop := ∃ N A n c, UnW w b lo hi N L A n c
theorem UnW.off {w u : World} {b lo hi x y n c : Nat} {N L : List Nat} {A : Option Addr} (h : UnW w b lo hi N L A n c) (ho : Off x y w u) (hf : hi ≤ x ∨ y ≤ lo) : UnW u b lo hi N L A n c := by
  have := h.ge
  have := h.lt
  have := ho.size
  have hs := h.size
  refine ⟨ho.blk h.blk (by omega), own_off h.row ho (fun g hg => ?_), h.ways, h.canon, h.few, h.len, h.ge, h.lt, h.far, by omega⟩
  have := h.far g hg
  have := own_ge h.row g hg
  omega
theorem UnW.later {w u : World} {b lo hi n c : Nat} {N L : List Nat} {A : Option Addr} (h : UnW w b lo hi N L A n c) (hb : Below w.heap.size w u) : UnW u b lo hi N L A n c := h.off (Off.of (lo := 0) (hi := 0) hb) (.inr (Nat.zero_le _))
/-- One way is another one. -/
theorem UnW.put {w : World} {b lo hi n c g : Nat} {N L M K : List Nat} (h : UnW w b lo hi N L (some ⟨g, 0, none⟩) n c) (i x : Nat) (hM : M = N.set i x) (hw : Ways M K) (hk : Canon K) (hl : K.length = n) :
    UnW (w.setCell ⟨g, i, none⟩ (.int .i64 (x : Int))) b lo hi M K (some ⟨g, 0, none⟩) n c ∧ Off lo hi w (w.setCell ⟨g, i, none⟩ (.int .i64 (x : Int))) := by
  have g1 := own_ge h.row g (by simp [Value.ownBlock])
  have g2 := h.far g (by simp [Value.ownBlock])
  have hne : b ≠ g := by
    rintro rfl
    rcases h.row.2 with ⟨q, _⟩ | ⟨g', cap', cur, q, _, h4, _⟩
    · cases q
    · cases q
      have := h.blk
      unfold Blk at this
      rw [this] at h4
      cases h4
  refine ⟨⟨h.blk.far hne _, ?_, hw, hk, by rw [hl, ← h.len]; exact h.few, hl, h.ge, h.lt, h.far, by have := h.size; simpa [World.setCell] using this⟩, off_put w i _ g1 g2⟩
  rw [hM, natV_set]
  exact own_set h.row i _
theorem UnW.row_at {w : World} {b lo hi n c : Nat} {N L : List Nat} {A : Option Addr} (h : UnW w b lo hi N L A n c) (h0 : 0 < n) : ∃ g, A = some ⟨g, 0, none⟩ ∧ g < w.heap.size ∧ (∀ i, i < n → w.cell? ⟨g, i, none⟩ = some (.int .i64 ((N.getD i 0 : Nat) : Int))) ∧ ∀ i, w.frozen? ⟨g, i, none⟩ = false := by
  obtain ⟨g, e, h1, h2, h3⟩ := own_at h.row h0
  refine ⟨g, e, h1, fun i hi => ?_, h3⟩
  have hl : i < N.length := by rw [h.ways.len, h.len]; exact hi
  rw [h2 i (by rw [natV_length]; exact hl)]
  simp [natV, numV, List.getD_eq_getElem?_getD, hl]

theorem numbers0 (w : World) : Calls Try.prog 22 #[.pointer none] w fun e w' => e = .returned (.int .i64 0) ∧ w = w' := by
  go_enter Try.func22, Try.ntmps22
  go_wp2_with fail
  go_ret
  exact ⟨rfl, rfl⟩
theorem numbers_any {b lo hi n c : Nat} {N L : List Nat} {A : Option Addr} (w : World) (h : UnW w b lo hi N L A n c) : Calls Try.prog 22 #[.pointer (some ⟨b, 0, none⟩)] w fun e w' => e = .returned (.int .i64 (n : Int)) ∧ w = w' := by
  have x0 := h.blk.cell 0
  have x2 := h.blk.lt
  simp at x0
  clear h
  go_enter Try.func22, Try.ntmps22
  go_wp2_with fail
  go_ret
  exact ⟨rfl, rfl⟩

set_option maxHeartbeats 1000000 in
theorem least0_any (a : Int) (ha : I64 a) (w : World) : Calls Try.prog 16 #[.pointer none, .int .i64 a] w fun e w' => e = .returned (.int .i64 (-1)) ∧ w = w' := by
  have K := Lib.hid (fun w => numbers0 w)
  unfold I64 at ha
  by_cases c : a < 0
  · go_enter Try.func16, Try.ntmps16
    go_wp2
    go_step3
    go_wp2_with (go_at_call 22; (with_reducible refine (K.out _).mono ?_); rintro e wn ⟨rfl, rfl⟩)
    try rw [Exit.noGoto_ret]
    go_ret
    exact ⟨rfl, rfl⟩
  · go_enter Try.func16, Try.ntmps16
    go_wp2
    go_step3
    go_wp2_with (go_at_call 22; (with_reducible refine (K.out _).mono ?_); rintro e wn ⟨rfl, rfl⟩)
    try rw [Exit.noGoto_ret]
    go_ret
    exact ⟨rfl, rfl⟩
set_option maxHeartbeats 1000000 in
theorem least_off {b lo hi n c : Nat} {N L : List Nat} {A : Option Addr} (a : Int) (ha : I64 a) (w : World) (h : UnW w b lo hi N L A n c) (hc : ¬ (0 ≤ a ∧ a < (n : Int))) :
    Calls Try.prog 16 #[.pointer (some ⟨b, 0, none⟩), .int .i64 a] w fun e w' => e = .returned (.int .i64 (-1)) ∧ w = w' := by
  have K := Lib.hid (numbers_any w h)
  have hn : n ≤ 1000 := by have := h.few; have := h.len; omega
  unfold I64 at ha
  clear h
  by_cases c : a < 0
  · go_enter Try.func16, Try.ntmps16
    go_wp2
    go_step3
    go_wp2_with (go_at_call 22; (with_reducible refine K.out.mono ?_); rintro e wn ⟨rfl, rfl⟩)
    try rw [Exit.noGoto_ret]
    go_ret
    exact ⟨rfl, rfl⟩
  · have c2 : (n : Int) ≤ a := by omega
    go_enter Try.func16, Try.ntmps16
    go_wp2
    go_step3
    go_wp2_with (go_at_call 22; (with_reducible refine K.out.mono ?_); rintro e wn ⟨rfl, rfl⟩)
    try rw [Exit.noGoto_ret]
    go_ret
    exact ⟨rfl, rfl⟩

/-- At the head of the way. -/
def WayRel (w : World) (b lo hi : Nat) (L : List Nat) (A : Option Addr) (n c r : Nat) (s1 : Value) (u : World) : Prop :=
  ∃ (k : Nat) (N : List Nat), s1 = .int .i64 (k : Int) ∧ k < n ∧ L.getD k 0 = r ∧ UnW u b lo hi N L A n c ∧ Off lo hi w u

set_option maxRecDepth 100000 in
set_option maxHeartbeats 4000000 in
theorem least_in_any {b lo hi n c : Nat} {N L : List Nat} {A : Option Addr} (a r : Nat) (ha : a < n) (hr : L.getD a 0 = r) (w : World) (h : UnW w b lo hi N L A n c) :
    Calls Try.prog 16 #[.pointer (some ⟨b, 0, none⟩), .int .i64 (a : Int)] w fun e w' => e = .returned (.int .i64 (r : Int)) ∧ (∃ N, UnW w' b lo hi N L A n c) ∧ Off lo hi w w' := by
  have K := Lib.hid (numbers_any w h)
  have hn : n ≤ 1000 := by have := h.few; have := h.len; omega
  have HU := Lib.hid h
  have HR := Lib.hid hr
  have d1 : decide (n ≤ a) = false := decide_eq_false (by omega)
  have d2 : decide ((a : Int) < 0) = false := decide_eq_false (by omega)
  clear h hr
  go_enter Try.func16, Try.ntmps16
  go_wp2
  go_step3
  go_wp2_with (go_at_call 22; (with_reducible refine K.out.mono ?_); rintro e wn ⟨rfl, rfl⟩)
  go_step3
  go_wp2
  go_loopw [1] (fun s1 u => WayRel w b lo hi L A n c r s1 u) (fun s1 _ => (intOf s1).toNat)
  case atStart => exact ⟨a, N, rfl, ha, HR.out, HU.out, Off.refl _ _ _⟩
  case round =>
    obtain ⟨k, M, rfl, hk, hr, hu, ho⟩ := hrel
    have hcl : L.length = n := hu.len
    have hmk := hu.ways.le k (by omega)
    have hms := hu.ways.same k (by omega)
    have hmr := hu.ways.iff hu.canon (i := k) (by omega)
    have x0 := hu.blk.cell 0
    have x2 := hu.blk.lt
    simp at x0
    obtain ⟨g, ea, lg, hc, hf⟩ := hu.row_at (by omega)
    have c1 := hc k hk
    have U := Lib.hid hu
    have O := Lib.hid ho
    have HL := Lib.hid hcl
    obtain ⟨m, hm⟩ : ∃ m, M.getD k 0 = m := ⟨_, rfl⟩
    rw [hm] at c1 hmk hms hmr
    have HM := Lib.hid hm
    have k0 : (0 : Int) ≤ (k : Int) := by omega
    have k1 : (k : Int) < (n : Int) := by omega
    by_cases e : m = k
    · subst e
      have t1 : ((m : Int) == (m : Int)) = true := by simp
      have E := Lib.hid (show m = r by rw [← hr]; exact (hmr.1 rfl).symm)
      subst ea
      clear hu ho hc hf hm hms hmr hr hcl
      go_wp2_with fail
      try rw [Exit.noGoto_ret]
      go_ret
      exact ⟨by show Ending.returned (.int .i64 (m : Int)) = _; rw [E.out], ⟨M, U.out⟩, O.out⟩
    · have hml : m < n := by omega
      have c2 := hc m hml
      obtain ⟨q, hq⟩ : ∃ q, M.getD m 0 = q := ⟨_, rfl⟩
      have hqm := hu.ways.le m (by omega)
      have hqs := hu.ways.same m (by omega)
      have hv := hu.ways.halve (a := k) (by omega) (by rw [hm]; exact e)
      rw [hm, hq] at hv
      rw [hq] at c2 hqm hqs
      have t1 : ((m : Int) == (k : Int)) = false := by simp; omega
      have m0 : (0 : Int) ≤ (m : Int) := by omega
      have m1 : (m : Int) < (n : Int) := by omega
      have E := Lib.hid (show L.getD q 0 = r by rw [hqs, hms]; exact hr)
      subst ea
      have PUT := Lib.hid (fun (w' : World) (h : UnW w' b lo hi M L (some ⟨g, 0, none⟩) n c) => h.put k q rfl hv h.canon h.len)
      have f1 := hf k
      clear hu ho hc hf hm hms hmr hr hcl hq hqs hv
      have kq := Lib.hid (show q < k by omega)
      have kn := Lib.hid (show q < n by omega)
      clear e
      go_upto_region 5 with fail
      go_still_tail 13, (by kernel_rfl)
      go_upto_region 6 with fail
      obtain ⟨W5, hW5⟩ : ∃ W5, W5 = (wr.setCell ⟨g, k, none⟩ (.int .i64 (q : Int))).drew := ⟨_, rfl⟩
      rw [← hW5]
      obtain ⟨hu, ho⟩ := PUT.out wr U.out
      have U5 := Lib.hid (show UnW W5 b lo hi (M.set k q) L (some ⟨g, 0, none⟩) n c by rw [hW5]; exact hu.off (Off.refl 0 0 _).drew (.inr (Nat.zero_le _)))
      have O5 := Lib.hid (show Off lo hi w W5 by rw [hW5]; exact O.out.trans ho.drew)
      clear hu ho hW5 x0 x2 c1 c2 f1 PUT
      have x0 := U5.out.blk.cell 0
      have x2 := U5.out.blk.lt
      simp at x0
      obtain ⟨g', ea, lg', hc, -⟩ := U5.out.row_at (by omega)
      cases ea
      have c1 := hc k (by omega)
      rw [set_get _ _ _ _ (by rw [U.out.ways.len, HL.out]; exact hk), if_pos rfl] at c1
      clear hc
      go_wp2_with fail
      exact ⟨⟨q, _, rfl, kn.out, E.out, U5.out, O5.out⟩, by have := kq.out; simp [intOf]; omega⟩
end Go.Proofs.Ytoccgpkpmhkeiaa.Uni
