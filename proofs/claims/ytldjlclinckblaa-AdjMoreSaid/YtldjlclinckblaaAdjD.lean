/- What the laws ask of a graph, as premises; the chapter's example. -/
import Derived.Test.YtldjlclinckblaaAdjC
import Derived.RegionTactic
import Derived.BigRegion
import Derived.Deep.DeepCutAuto
import Derived.Deep.RegionHeld3
namespace Go.Proofs.Ytldjlclinckblaa.Adj
open Go.RowKit Go.Proofs.Ytldjlclinckblaa.Inst

/-- What graphs do, as long as 'Gr w b I' says that block b is the graph of the instance I: to be proved of what has landed. -/
structure AdjC (Gr : World → Nat → InstD → Prop) : Prop where
  later : ∀ {w u : World} {b : Nat} {I : InstD}, Gr w b I → Below w.heap.size w u → Gr u b I
  new : ∀ (A A2 : Option Addr) (c d n m : Nat) (I : InstD) (w : World), Here w A A2 n m I → n ≤ 1000 → m ≤ 1000 →
    Calls Try.prog 13 #[.agg #[.slice A n c, .slice A2 m d]] w fun e w' => ∃ b, e = .returned (.pointer (some ⟨b, 0, none⟩)) ∧ Gr w' b I ∧ Below w.heap.size w w'
  nodes : ∀ (b : Nat) (I : InstD) (w : World), Gr w b I → Calls Try.prog 14 #[.pointer (some ⟨b, 0, none⟩)] w fun e w' => e = .returned (.int .i64 (I.sup.length : Int)) ∧ Below w.heap.size w w'
  arc : ∀ (b : Nat) (I : InstD) (a : Int) (w : World), Gr w b I → I64 a → Calls Try.prog 20 #[.pointer (some ⟨b, 0, none⟩), .int .i64 a] w (TellsArc (arcD I a) (fitD I a) w)
  out : ∀ (b : Nat) (I : InstD) (n : Int) (w : World), Gr w b I → I64 n → Calls Try.prog 15 #[.pointer (some ⟨b, 0, none⟩), .int .i64 n] w (TellsNats (outD I n) w)
  in_ : ∀ (b : Nat) (I : InstD) (n : Int) (w : World), Gr w b I → I64 n → Calls Try.prog 17 #[.pointer (some ⟨b, 0, none⟩), .int .i64 n] w (TellsNats (inD I n) w)
  at_ : ∀ (b : Nat) (I : InstD) (n : Int) (w : World), Gr w b I → I64 n → Calls Try.prog 18 #[.pointer (some ⟨b, 0, none⟩), .int .i64 n] w (TellsNats (atD I n) w)
  loops : ∀ (b : Nat) (I : InstD) (n : Int) (w : World), Gr w b I → I64 n → Calls Try.prog 19 #[.pointer (some ⟨b, 0, none⟩), .int .i64 n] w fun e w' => e = .returned (.int .i64 (loopsD I n : Int)) ∧ Below w.heap.size w w'
  other : ∀ (b : Nat) (I : InstD) (a n : Int) (w : World), Gr w b I → I64 a → I64 n → Calls Try.prog 16 #[.pointer (some ⟨b, 0, none⟩), .int .i64 a, .int .i64 n] w fun e w' => e = .returned (.int .i64 (otherD I a n)) ∧ Below w.heap.size w w'
  nodes0 : ∀ (w : World), Calls Try.prog 14 #[.pointer none] w fun e w' => e = .returned (.int .i64 0) ∧ Below w.heap.size w w'
  arc0 : ∀ (a : Int) (w : World), I64 a → Calls Try.prog 20 #[.pointer none, .int .i64 a] w (TellsArc ⟨0, 0, 0, 0, 0⟩ false w)
  out0 : ∀ (n : Int) (w : World), I64 n → Calls Try.prog 15 #[.pointer none, .int .i64 n] w (TellsNats [] w)
  in0 : ∀ (n : Int) (w : World), I64 n → Calls Try.prog 17 #[.pointer none, .int .i64 n] w (TellsNats [] w)
  at0 : ∀ (n : Int) (w : World), I64 n → Calls Try.prog 18 #[.pointer none, .int .i64 n] w (TellsNats [] w)
  loops0 : ∀ (n : Int) (w : World), I64 n → Calls Try.prog 19 #[.pointer none, .int .i64 n] w fun e w' => e = .returned (.int .i64 0) ∧ Below w.heap.size w w'
  other0 : ∀ (a n : Int) (w : World), I64 a → I64 n → Calls Try.prog 16 #[.pointer none, .int .i64 a, .int .i64 n] w fun e w' => e = .returned (.int .i64 (-1)) ∧ Below w.heap.size w w'

theorem I64_small {n : Int} (h0 : -1000000 ≤ n) (h1 : n ≤ 1000000) : I64 n := by unfold I64; omega
theorem ints_same (a b : Option Addr) (N : List Nat) (k c d : Nat) (hk : N.length = k) (hN : k ≤ 100000) (w : World) (ha : Cells w w.heap.size a (natV N)) (hb : Cells w w.heap.size b (natV N)) :
    Calls Try.prog 21 #[.slice a k c, .slice b k d] w fun e w' => e = .returned (.bool true) ∧ Below w.heap.size w w' := by
  subst hk
  have h := rints_any a b (N.map fun (x : Nat) => (x : Int)) (N.map fun (x : Nat) => (x : Int)) N.length N.length c d (by simp) (by simp) (by rw [List.length_map]; unfold maxLen; omega) w ha hb
  rw [decide_eq_true rfl] at h
  exact h
theorem some_1000 (I : InstD) (n : Int) (o i : Bool) (h : I.arcs.length ≤ 1000) : (someD I n o i).length ≤ 1000 := Nat.le_trans (someN_length I n o i _) h

def exG : InstD := ⟨[0, 0], [⟨0, 1, 0, 0, 0⟩]⟩
theorem exG_out : outD exG 0 = [0] := by decide +kernel
theorem exG_in : inD exG 1 = [0] := by decide +kernel
theorem exG_at : atD exG 1 = [0] := by decide +kernel
theorem exG_other : otherD exG 0 1 = 0 := by decide +kernel
theorem exG_none : otherD exG 0 5 = -1 := by decide +kernel
/-- One number is told. -/
def TellsOne (x : Nat) (w : World) (e : Ending) (w' : World) : Prop := ∃ NA cap, e = .returned (.slice NA 1 cap) ∧ Cells w' w'.heap.size NA (natV [x]) ∧ Below w.heap.size w w'
theorem tells_one {x : Nat} {w w' : World} {e : Ending} (h : TellsNats [x] w e w') : TellsOne x w e w' := by
  obtain ⟨NA, cap, he, _, hc, hb, _⟩ := h
  exact ⟨NA, cap, he, hc, hb⟩
theorem lit_one (w : World) (x : Nat) (t : TypeId) : Cells (w.alloc (.cells #[.int .i64 (x : Int)] t)) (w.alloc (.cells #[.int .i64 (x : Int)] t)).heap.size (some ⟨w.heap.size, 0, none⟩) (natV [x]) := cells_blk (t := t) (Blk.new _ _ _)

set_option maxRecDepth 100000 in
set_option maxHeartbeats 4000000 in
theorem known_any {Gr : World → Nat → InstD → Prop} (C : AdjC Gr) (w : World) : Calls Try.prog 10 #[] w fun e w' => e = .returned (.bool true) ∧ Below w.heap.size w w' := by
  obtain ⟨W1, hW1⟩ : ∃ W1, W1 = (w.alloc (.cells #[.int .i64 0, .int .i64 0] 2)).alloc (.cells #[.int .i64 0, .int .i64 1, .int .i64 0, .int .i64 0, .int .i64 0] 41) := ⟨_, rfl⟩
  have B1 := Lib.hid (show Below w.heap.size w W1 by rw [hW1]; exact ((Below.refl _ _).alloc (Nat.le_refl _) _).alloc (by simp) _)
  have HX : Here W1 (some ⟨w.heap.size, 0, none⟩) (some ⟨w.heap.size + 1, 0, none⟩) 2 1 exG := by
    rw [hW1]
    refine ⟨⟨by decide, by decide, cells_blk (t := 2) ?_, cells_blk (t := 41) ?_⟩, rfl, rfl⟩
    · show Blk _ _ 2 #[.int .i64 0, .int .i64 0]
      exact (Blk.new _ _ _).alloc _
    · show Blk _ _ 41 #[.int .i64 0, .int .i64 1, .int .i64 0, .int .i64 0, .int .i64 0]
      exact blk_at (by simp) _ _
  have NW := Lib.hid (C.new _ _ 2 1 2 1 exG W1 HX (by omega) (by omega))
  have NO := Lib.hid (fun b w' (h : Gr w' b exG) => C.nodes b exG w' h)
  have OU := Lib.hid (fun b w' (h : Gr w' b exG) => (C.out b exG 0 w' h (I64_small (by omega) (by omega))))
  have IN := Lib.hid (fun b w' (h : Gr w' b exG) => (C.in_ b exG 1 w' h (I64_small (by omega) (by omega))))
  have AT := Lib.hid (fun b w' (h : Gr w' b exG) => (C.at_ b exG 1 w' h (I64_small (by omega) (by omega))))
  have O1 := Lib.hid (fun b w' (h : Gr w' b exG) => C.other b exG 0 1 w' h (I64_small (by omega) (by omega)) (I64_small (by omega) (by omega)))
  have O2 := Lib.hid (fun b w' (h : Gr w' b exG) => C.other b exG 0 5 w' h (I64_small (by omega) (by omega)) (I64_small (by omega) (by omega)))
  rw [exG_out] at OU
  rw [exG_in] at IN
  rw [exG_at] at AT
  rw [exG_other] at O1
  rw [exG_none] at O2
  have OU := Lib.hid (fun b w' h => (OU.out b w' h).mono fun e u q => tells_one q)
  have IN := Lib.hid (fun b w' h => (IN.out b w' h).mono fun e u q => tells_one q)
  have AT := Lib.hid (fun b w' h => (AT.out b w' h).mono fun e u q => tells_one q)
  have NO := Lib.hid (show ∀ b w', Gr w' b exG → Calls Try.prog 14 #[.pointer (some ⟨b, 0, none⟩)] w' fun e u => e = .returned (.int .i64 2) ∧ Below w'.heap.size w' u from NO.out)
  have LA := Lib.hid (fun (w u : World) (b : Nat) (h : Gr w b exG) (hb : Below w.heap.size w u) => C.later h hb)
  have IS := Lib.hid (fun a b c d w ha hb => ints_same a b [0] 1 c d rfl (by omega) w ha hb)
  have HW := Lib.hid hW1
  clear hW1 HX C
  go_enter Try.func10, Try.ntmps10
  go_wp2_with fail
  rw [← HW.out]
  refine NW.out.mono ?_
  rintro e w2 ⟨b, rfl, hg, hb⟩
  have G := Lib.hid hg
  have HB := Lib.hid (chain2 B1.out hb)
  clear hg hb
  go_wp2_with (first
    | (go_at_call 14; (with_reducible refine (NO.out b _ G.out).mono ?_); rintro e wn ⟨rfl, hb⟩; replace G := Lib.hid (LA.out _ _ _ G.out hb); replace HB := Lib.hid (chain2 HB.out hb); clear hb)
    | (go_at_call 15; (with_reducible refine (OU.out b _ G.out).mono ?_); rintro e wn ⟨NA, cap, rfl, hc, hb⟩; have CC := Lib.hid hc; replace G := Lib.hid (LA.out _ _ _ G.out (hb.alloc hb.size (.cells #[.int .i64 0] 3))); replace HB := Lib.hid ((chain2 HB.out hb).alloc (chain2 HB.out hb).size (.cells #[.int .i64 0] 3)); clear hb hc)
    | (go_at_call 17; (with_reducible refine (IN.out b _ G.out).mono ?_); rintro e wn ⟨NA, cap, rfl, hc, hb⟩; have CC := Lib.hid hc; replace G := Lib.hid (LA.out _ _ _ G.out (hb.alloc hb.size (.cells #[.int .i64 0] 3))); replace HB := Lib.hid ((chain2 HB.out hb).alloc (chain2 HB.out hb).size (.cells #[.int .i64 0] 3)); clear hb hc)
    | (go_at_call 18; (with_reducible refine (AT.out b _ G.out).mono ?_); rintro e wn ⟨NA, cap, rfl, hc, hb⟩; have CC := Lib.hid hc; replace G := Lib.hid (LA.out _ _ _ G.out (hb.alloc hb.size (.cells #[.int .i64 0] 3))); replace HB := Lib.hid ((chain2 HB.out hb).alloc (chain2 HB.out hb).size (.cells #[.int .i64 0] 3)); clear hb hc)
    | (go_at_call 21; (with_reducible refine (IS.out _ _ _ _ _ ?c1 ?c2).mono ?_); (case c1 => exact CC.out.later (Nat.le_refl _) ((Below.refl _ _).alloc (Nat.le_refl _) _)); (case c2 => exact lit_one _ 0 _); rintro e wn ⟨rfl, hb⟩; replace G := Lib.hid (LA.out _ _ _ G.out hb); replace HB := Lib.hid (chain2 HB.out hb); clear hb)
    | (go_at_call 16; (with_reducible refine (O1.out b _ G.out).mono ?_); rintro e wn ⟨rfl, hb⟩; replace G := Lib.hid (LA.out _ _ _ G.out hb); replace HB := Lib.hid (chain2 HB.out hb); clear hb)
    | (go_at_call 16; (with_reducible refine (O2.out b _ G.out).mono ?_); rintro e wn ⟨rfl, hb⟩; replace G := Lib.hid (LA.out _ _ _ G.out hb); replace HB := Lib.hid (chain2 HB.out hb); clear hb))
  go_ret
  exact ⟨rfl, HB.out⟩
end Go.Proofs.Ytldjlclinckblaa.Adj
