/- The laws' own helpers: bend. -/
import Derived.Test.YtekjbpdfginplaaInstS
namespace Go.Proofs.Ytekjbpdfginplaa.Inst
open Go.RowKit

theorem bent_sup {I : InstD} {p f : Nat} {x : Int} (h : I.arcs.length = 0 ∨ f % 7 = 6) : (bentD I p f x).sup = I.sup.set (p % I.sup.length) x ∧ (bentD I p f x).arcs = I.arcs := by
  unfold bentD
  rw [if_pos h]
  exact ⟨rfl, rfl⟩
theorem bent_arcs {I : InstD} {p f : Nat} {x : Int} (h : ¬ (I.arcs.length = 0 ∨ f % 7 = 6)) : (bentD I p f x).sup = I.sup ∧ (bentD I p f x).arcs = I.arcs.set (p % I.arcs.length) (setF (arcAt I.arcs (p % I.arcs.length)) (f % 7) x) := by
  unfold bentD
  rw [if_neg h]
  exact ⟨rfl, rfl⟩
theorem setF_five (a : ArcD) (x : Int) : setF a 5 x = a := rfl
theorem set_arcAt (l : List ArcD) (k : Nat) (hk : k < l.length) : l.set k (arcAt l k) = l := by
  unfold arcAt
  rw [List.getD_eq_getElem?_getD, List.getElem?_eq_getElem hk]
  simp

/-- All else is as it was. -/
structure Rest (w u : World) (sB : Nat) (aV : Value) : Prop where
  size : w.heap.size ≤ u.heap.size
  block : ∀ i, i < w.heap.size → i ≠ sB → aV.ownBlock ≠ some i → u.heap[i]? = w.heap[i]?
section
variable {w u : World} {sB : Nat} {aV : Value}
theorem Rest.refl : Rest w w sB aV := ⟨Nat.le_refl _, fun _ _ _ _ => rfl⟩
theorem Rest.alloc (h : Rest w u sB aV) (o : Obj) : Rest w (u.alloc o) sB aV := ⟨by have := h.size; simp; omega, fun i hi h1 h2 => (Below.heap_alloc u o i (by have := h.size; omega)).trans (h.block i hi h1 h2)⟩
theorem Rest.drew (h : Rest w u sB aV) : Rest w u.drew sB aV := ⟨h.size, h.block⟩
theorem Rest.sup (h : Rest w u sB aV) (o : Nat) (v : Value) : Rest w (u.setCell ⟨sB, o, none⟩ v) sB aV := ⟨by have := h.size; simp; omega, fun i hi h1 h2 => (Below.heap_setCell u ⟨sB, o, none⟩ v i h1).trans (h.block i hi h1 h2)⟩
theorem Rest.arc {g n c : Nat} (h : Rest w u sB (.slice (some ⟨g, 0, none⟩) n c)) (o : Nat) (v : Value) : Rest w (u.setCell ⟨g, o, none⟩ v) sB (.slice (some ⟨g, 0, none⟩) n c) := ⟨by have := h.size; simp; omega, fun i hi h1 h2 => (Below.heap_setCell u ⟨g, o, none⟩ v i (fun e => h2 (by rw [show i = g from e]; rfl))).trans (h.block i hi h1 h2)⟩
theorem Blk.rest {g : Nat} {t : TypeId} {cs : Array Value} (h : Blk w g t cs) (hr : Rest w u sB aV) (h1 : g ≠ sB) (h2 : aV.ownBlock ≠ some g) : Blk u g t cs := (hr.block g h.lt h1 h2).trans h
end
/-- What bend does: the rows' places stay. -/
def BentTo (w0 w : World) (sB : Nat) (aV : Value) (J : InstD) (e : Ending) (w' : World) : Prop := (∃ v, e = .returned v) ∧ Made w0 w' sB aV J.sup J.arcs ∧ Rest w w' sB aV

set_option maxHeartbeats 4000000 in
theorem bend_any (w0 : World) (sB : Nat) (A : Option Addr) (cap : Nat) (I : InstD) (n m p f : Nat) (x : Int) (hn : I.sup.length = n) (hm : I.arcs.length = m) (n0 : 0 < n) (n7 : n ≤ 1000) (m18 : m ≤ 1000) (hp : p < 256) (hf : f < 256) (w : World)
    (hM : Made w0 w sB (.slice A m cap) I.sup I.arcs) :
    Calls Try.prog 19 #[.agg #[.slice (some ⟨sB, 0, none⟩) n n, .slice A m cap], .int .u8 (p : Int), .int .u8 (f : Int), .int .i64 x] w (BentTo w0 w sB (.slice A m cap) (bentD I p f x)) := by
  have HM := Lib.hid hM
  have lt0 := hM.sup.lt
  clear hM
  by_cases c : I.arcs.length = 0 ∨ f % 7 = 6
  · have E := Lib.hid (bent_sup (p := p) (x := x) c)
    rw [hn] at E
    obtain ⟨k, hk⟩ : ∃ k, k = p % n := ⟨_, rfl⟩
    have k1 : k < n := by rw [hk]; exact Nat.mod_lt _ n0
    have q1 : (p : Int) % (n : Int) = (k : Int) := by omega
    rw [← hk] at E
    have y0 : w.cell? ⟨sB, k, none⟩ = some (nv (I.sup.getD k 0)) := by
      rw [HM.out.sup.cell k]
      have : k < I.sup.length := by omega
      simp [numV, this]
    have y1 := HM.out.sup.frozen k
    generalize I.sup.getD k 0 = s at y0
    have fin : ∀ (o : Obj) (e : Ending) (v : Value), e = .returned v → BentTo w0 w sB (.slice A m cap) (bentD I p f x) e (((w.setCell ⟨sB, k, none⟩ (nv x)).alloc o).drew) := fun o e v he => ⟨⟨v, he⟩, by rw [E.out.1, E.out.2]; exact ⟨((HM.out.sup_set k x).alloc o).drew, ((Rest.refl.sup k _).alloc o).drew⟩⟩
    have FIN := Lib.hid fin
    have C := Lib.hid c
    have HN := Lib.hid hn
    have HM2 := Lib.hid hm
    have HK := Lib.hid hk
    clear fin hn hm hk c
    by_cases z : m = 0
    · have t0 : ((m : Int) == 0) = true := by rw [beq_iff_eq]; omega
      have Z := Lib.hid z
      clear z
      go_enter Try.func19, Try.ntmps19
      go_wp2_with fail
      go_region
      go_wp2_with fail
      refine bodyPost_ret (v := .tuple #[]) ?_ rfl (FIN.out _ _ _ rfl)
      exact results_none rfl _ _ _
    · have t0 : ((m : Int) == 0) = false := by rw [beq_eq_false_iff_ne]; omega
      have f6 : f % 7 = 6 := by rcases C.out with h | h; (have := HM2.out; omega); exact h
      have t1 : ((f : Int) % 7 == 6) = true := by rw [beq_iff_eq]; omega
      have Z := Lib.hid z
      have F6 := Lib.hid f6
      clear z f6
      go_enter Try.func19, Try.ntmps19
      go_wp2_with fail
      go_region
      go_wp2_with fail
      refine bodyPost_ret (v := .tuple #[]) ?_ rfl (FIN.out _ _ _ rfl)
      exact results_none rfl _ _ _
  · have E := Lib.hid (bent_arcs (p := p) (x := x) c)
    have m0 : 0 < m := by omega
    have f6 : f % 7 ≠ 6 := fun h => c (.inr h)
    rw [hm] at E
    obtain ⟨k, hk⟩ : ∃ k, k = p % m := ⟨_, rfl⟩
    have k1 : k < m := by rw [hk]; exact Nat.mod_lt _ m0
    have q1 : (p : Int) % (m : Int) = (k : Int) := by omega
    rw [← hk] at E
    subst hm
    obtain ⟨g, rfl, hg, cg, fg⟩ := own_at HM.out.arcs m0
    have cell : ∀ j (hj : j < 5), ∃ v, w.cell? ⟨g, k * 5 + j, none⟩ = some v := fun j hj => ⟨_, cg (k * 5 + j) (by rw [arcV_length]; omega)⟩
    obtain ⟨v0, y0⟩ := cell 0 (by omega)
    obtain ⟨v1, y1⟩ := cell 1 (by omega)
    obtain ⟨v2, y2⟩ := cell 2 (by omega)
    obtain ⟨v3, y3⟩ := cell 3 (by omega)
    obtain ⟨v4, y4⟩ := cell 4 (by omega)
    rw [Nat.add_zero] at y0
    have fin : ∀ (j : Nat) (o : Obj) (e : Ending) (v : Value), j < 5 → f % 7 = j → e = .returned v → BentTo w0 w sB (.slice (some ⟨g, 0, none⟩) I.arcs.length cap) (bentD I p f x) e ((w.setCell ⟨g, k * 5 + j, none⟩ (nv x)).alloc o) := fun j o e v hj hf he => ⟨⟨v, he⟩, by rw [E.out.1, E.out.2, hf]; exact ⟨(HM.out.arc_set k j x hj k1).alloc o, (Rest.refl.arc _ _).alloc o⟩⟩
    have fin5 : ∀ (o : Obj) (e : Ending) (v : Value), f % 7 = 5 → e = .returned v → BentTo w0 w sB (.slice (some ⟨g, 0, none⟩) I.arcs.length cap) (bentD I p f x) e (w.alloc o) := fun o e v hf he => ⟨⟨v, he⟩, by rw [E.out.1, E.out.2, hf, setF_five, set_arcAt _ _ k1]; exact ⟨HM.out.alloc o, Rest.refl.alloc o⟩⟩
    have FIN := Lib.hid fin
    have FIN5 := Lib.hid fin5
    have CG := Lib.hid cg
    have HN := Lib.hid hn
    have HK := Lib.hid hk
    have u0 := fg (k * 5)
    have u1 := fg (k * 5 + 1)
    have u2 := fg (k * 5 + 2)
    have u3 := fg (k * 5 + 3)
    have u4 := fg (k * 5 + 4)
    have t0 : ((I.arcs.length : Int) == 0) = false := by rw [beq_eq_false_iff_ne]; omega
    have t6 : ((f : Int) % 7 == 6) = false := by rw [beq_eq_false_iff_ne]; omega
    have C := Lib.hid c
    clear fin fin5 cg fg hn hk c cell
    generalize I.arcs.length = m at *
    rcases (show f % 7 = 0 ∨ f % 7 = 1 ∨ f % 7 = 2 ∨ f % 7 = 3 ∨ f % 7 = 4 ∨ f % 7 = 5 by omega) with r | r | r | r | r | r
    · have s0 : ((f : Int) % 7 == 0) = true := by rw [beq_iff_eq]; omega
      have R := Lib.hid r
      clear r f6
      go_enter Try.func19, Try.ntmps19
      go_wp2_with fail
      refine bodyPost_ret (v := .tuple #[]) ?_ rfl (FIN.out 0 _ _ _ (by omega) R.out rfl)
      exact results_none rfl _ _ _
    · have s0 : ((f : Int) % 7 == 0) = false := by rw [beq_eq_false_iff_ne]; omega
      have s1 : ((f : Int) % 7 == 1) = true := by rw [beq_iff_eq]; omega
      have R := Lib.hid r
      clear r f6
      go_enter Try.func19, Try.ntmps19
      go_wp2_with fail
      refine bodyPost_ret (v := .tuple #[]) ?_ rfl (FIN.out 1 _ _ _ (by omega) R.out rfl)
      exact results_none rfl _ _ _
    · have s0 : ((f : Int) % 7 == 0) = false := by rw [beq_eq_false_iff_ne]; omega
      have s1 : ((f : Int) % 7 == 1) = false := by rw [beq_eq_false_iff_ne]; omega
      have s2 : ((f : Int) % 7 == 2) = true := by rw [beq_iff_eq]; omega
      have R := Lib.hid r
      clear r f6
      go_enter Try.func19, Try.ntmps19
      go_wp2_with fail
      refine bodyPost_ret (v := .tuple #[]) ?_ rfl (FIN.out 2 _ _ _ (by omega) R.out rfl)
      exact results_none rfl _ _ _
    · have s0 : ((f : Int) % 7 == 0) = false := by rw [beq_eq_false_iff_ne]; omega
      have s1 : ((f : Int) % 7 == 1) = false := by rw [beq_eq_false_iff_ne]; omega
      have s2 : ((f : Int) % 7 == 2) = false := by rw [beq_eq_false_iff_ne]; omega
      have s3 : ((f : Int) % 7 == 3) = true := by rw [beq_iff_eq]; omega
      have R := Lib.hid r
      clear r f6
      go_enter Try.func19, Try.ntmps19
      go_wp2_with fail
      refine bodyPost_ret (v := .tuple #[]) ?_ rfl (FIN.out 3 _ _ _ (by omega) R.out rfl)
      exact results_none rfl _ _ _
    · have s0 : ((f : Int) % 7 == 0) = false := by rw [beq_eq_false_iff_ne]; omega
      have s1 : ((f : Int) % 7 == 1) = false := by rw [beq_eq_false_iff_ne]; omega
      have s2 : ((f : Int) % 7 == 2) = false := by rw [beq_eq_false_iff_ne]; omega
      have s3 : ((f : Int) % 7 == 3) = false := by rw [beq_eq_false_iff_ne]; omega
      have s4 : ((f : Int) % 7 == 4) = true := by rw [beq_iff_eq]; omega
      have R := Lib.hid r
      clear r f6
      go_enter Try.func19, Try.ntmps19
      go_wp2_with fail
      refine bodyPost_ret (v := .tuple #[]) ?_ rfl (FIN.out 4 _ _ _ (by omega) R.out rfl)
      exact results_none rfl _ _ _
    · have s0 : ((f : Int) % 7 == 0) = false := by rw [beq_eq_false_iff_ne]; omega
      have s1 : ((f : Int) % 7 == 1) = false := by rw [beq_eq_false_iff_ne]; omega
      have s2 : ((f : Int) % 7 == 2) = false := by rw [beq_eq_false_iff_ne]; omega
      have s3 : ((f : Int) % 7 == 3) = false := by rw [beq_eq_false_iff_ne]; omega
      have s4 : ((f : Int) % 7 == 4) = false := by rw [beq_eq_false_iff_ne]; omega
      have R := Lib.hid r
      clear r f6
      go_enter Try.func19, Try.ntmps19
      go_wp2_with fail
      refine bodyPost_ret (v := .tuple #[]) ?_ rfl (FIN5.out _ _ _ R.out rfl)
      exact results_none rfl _ _ _
end Go.Proofs.Ytekjbpdfginplaa.Inst
