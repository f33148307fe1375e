/- Contracts of the document's answers for layer 2: the same, joined, a number's word. -/
import Derived.Test.YtnlhipbdnihapaaDoorWordB
import Derived.Deep.QuietTactic
import Derived.WalkSmall
namespace Go.Proofs.YtnlhipbdnihapaaDoor.Word
open Go.RowKit

theorem same_step (xs ys : List Bytes) (k : Nat) (h : k < xs.length) (h2 : k < ys.length) (e : xs.take k = ys.take k) (q : xs[k] = ys[k]) : xs.take (k + 1) = ys.take (k + 1) := by
  rw [List.take_succ_eq_append_getElem h, List.take_succ_eq_append_getElem h2, e, q]

/-- What holds at the head of Same's loop. -/
def SameRel (w : World) (xs ys : List Bytes) (s : Value) (u : World) : Prop :=
  ∃ k m : Nat, k ≤ xs.length ∧ s = .int .i64 (k : Int) ∧ xs.take k = ys.take k ∧ u = w.drewN m

theorem same_len (a b : Option Addr) (n m c d : Nat) (h : n ≠ m) (w : World) :
    Calls Tryd.prog 18 #[.slice a n c, .slice b m d] w fun e w' => e = .returned (.bool false) ∧ Below w.heap.size w w' := by
  have h1 : ((n : Int) != (m : Int)) = true := by simp; omega
  go_enter Tryd.func18, Tryd.ntmps18
  go_wp2_with fail
  go_ret
  exact ⟨rfl, Below.refl _ _⟩

set_option maxHeartbeats 1000000 in
theorem same_eqlen (a b : Option Addr) (xs ys : List Bytes) (c d : Nat) (hn : xs.length ≤ maxLen) (h : xs.length = ys.length) (w : World) (ha : Strs w w.heap.size a xs) (hb : Strs w w.heap.size b ys) :
    Calls Tryd.prog 18 #[.slice a xs.length c, .slice b xs.length d] w fun e w' => e = .returned (.bool (decide (xs = ys))) ∧ Below w.heap.size w w' := by
  unfold maxLen at hn
  have HA := Lib.hid ha
  have HB := Lib.hid hb
  have HL := Lib.hid h
  have h1 : ((xs.length : Int) != (xs.length : Int)) = false := by simp
  clear ha hb h
  go_enter Tryd.func18, Tryd.ntmps18
  go_wp2_with fail
  go_loopw [5] (fun q u => SameRel w xs ys q u) (fun q _ => xs.length - (intOf q).toNat)
  case atStart => exact ⟨0, 0, by omega, rfl, by simp, rfl⟩
  case round =>
    obtain ⟨k, m, hk, rfl, ht, rfl⟩ := hrel
    have HT := Lib.hid ht
    clear ht
    by_cases hlt : k < xs.length
    · have hlt2 : k < ys.length := by have := HL.out; omega
      obtain ⟨ba, oa, ea, _, ca⟩ := HA.out (by omega)
      obtain ⟨bb, ob, eb, _, cb⟩ := HB.out (by omega)
      have c1 := ca k hlt
      have c2 := cb k hlt2
      have EA := Lib.hid ea
      have EB := Lib.hid eb
      rw [EA.out, EB.out]
      have i0 : (0 : Int) ≤ (k : Int) := by omega
      have i1 : (k : Int) < (xs.length : Int) := by omega
      obtain ⟨x, hx⟩ : ∃ x, x = xs[k] := ⟨_, rfl⟩
      obtain ⟨y, hy⟩ : ∃ y, y = ys[k] := ⟨_, rfl⟩
      rw [← hx] at c1
      rw [← hy] at c2
      have HX := Lib.hid hx
      have HY := Lib.hid hy
      clear ca cb ea eb hx hy
      by_cases e : x = y
      · have t : (x == y) = true := by simp [e]
        have HE := Lib.hid e
        clear e
        go_wp2_with fail
        go_quiet (fail)
        go_wp2_with fail
        have E := same_step xs ys k hlt hlt2 HT.out (HX.out.symm.trans (HE.out.trans HY.out))
        exact ⟨⟨k + 1, _, by omega, by simp, E, rfl⟩, by simp [intOf]; omega⟩
      · have t : (x == y) = false := by simp [e]
        have D := Lib.hid (show decide (xs = ys) = false by
          apply decide_eq_false
          intro hq
          apply e
          rw [HX.out, HY.out]
          simp [hq])
        clear e
        go_wp2_with fail
        go_quiet (fail)
        go_wp2_with fail
        go_ret
        exact ⟨by rw [D.out]; rfl, below_drewN (below_drewN (Below.refl _ _) _) _⟩
    · obtain rfl : k = xs.length := by omega
      have D := Lib.hid (show decide (xs = ys) = true by
        apply decide_eq_true
        have q := HT.out
        rw [List.take_length, HL.out, List.take_length] at q
        exact q)
      go_wp2_with fail
      go_ret
      exact ⟨by rw [D.out]; rfl, below_drewN (Below.refl _ _) _⟩

/-- Same. -/
theorem same_any (a b : Option Addr) (xs ys : List Bytes) (n m c d : Nat) (hn : xs.length = n) (hm : ys.length = m) (hx : xs.length ≤ maxLen) (w : World) (ha : Strs w w.heap.size a xs) (hb : Strs w w.heap.size b ys) :
    Calls Tryd.prog 18 #[.slice a n c, .slice b m d] w fun e w' => e = .returned (.bool (decide (xs = ys))) ∧ Below w.heap.size w w' := by
  subst hn hm
  by_cases h : xs.length = ys.length
  · have q := same_eqlen a b xs ys c d hx h w ha hb
    rw [← h]
    exact q
  · rw [show decide (xs = ys) = false from decide_eq_false (fun e => h (by rw [e]))]
    exact same_len a b _ _ c d h w

theorem joinB_take (b : Bytes) (xs : List Bytes) (k : Nat) (h : k < xs.length) : joinB b (xs.take (k + 1)) = if k = 0 then xs[k] else joinB b (xs.take k) ++ b ++ xs[k] := by
  rw [List.take_succ_eq_append_getElem h]
  split
  · rename_i e
    subst e
    simp [joinB]
  · rename_i e
    apply joinB_snoc
    intro q
    have q2 : (xs.take k).length = 0 := by rw [q]; rfl
    rw [List.length_take] at q2
    omega

theorem cat_cat (a b : Bytes) : ((⟨a.toArray⟩ : ByteArray) ++ ⟨b.toArray⟩) = ⟨(a ++ b).toArray⟩ := by
  apply ByteArray.ext
  simp
theorem str_cat (a b : Bytes) : Value.string ((⟨a.toArray⟩ : ByteArray) ++ ⟨b.toArray⟩) = str (a ++ b) := by rw [cat_cat]

/-- What holds at the head of Join's loop. -/
def JoinRel (xs : List Bytes) (b : Bytes) (s t : Value) : Prop :=
  ∃ k : Nat, k ≤ xs.length ∧ s = .int .i64 (k : Int) ∧ t = str (joinB b (xs.take k))

set_option maxHeartbeats 1000000 in
/-- Join, where the joined text is not too long. -/
theorem join_any (a : Option Addr) (xs : List Bytes) (n c : Nat) (b : Bytes) (hn : xs.length = n) (hb : ∀ k, k ≤ xs.length → (joinB b (xs.take k)).length + b.length ≤ 1073741824) (hx : xs.length ≤ maxLen) (w : World) (ha : Strs w w.heap.size a xs) :
    Calls Tryd.prog 16 #[.slice a n c, str b] w fun e w' => e = .returned (str (joinB b xs)) ∧ w = w' := by
  subst hn
  unfold maxLen at hx
  have HA := Lib.hid ha
  have HB := Lib.hid hb
  clear ha hb
  go_enter Tryd.func16, Tryd.ntmps16
  go_wp2_with fail
  go_loop [6, 5] (fun q t => JoinRel xs b q t) (fun q _ => xs.length - (intOf q).toNat)
  case atStart => exact ⟨0, by omega, rfl, by simp [joinB]⟩
  case round =>
    obtain ⟨k, hk, rfl, rfl⟩ := hrel
    by_cases hlt : k < xs.length
    · obtain ⟨ba, oa, ea, _, ca⟩ := HA.out (by omega)
      have c1 := ca k hlt
      have EA := Lib.hid ea
      have J := joinB_take b xs k hlt
      have L1 := HB.out k (by omega)
      have L2 := HB.out (k + 1) (by omega)
      rw [EA.out]
      obtain ⟨x, hx⟩ : ∃ x, x = xs[k] := ⟨_, rfl⟩
      rw [← hx] at c1 J
      have HX := Lib.hid hx
      clear ca ea hx
      by_cases e : k = 0
      · rw [if_pos e] at J
        rw [J] at L2
        have HJ := Lib.hid J
        have HE := Lib.hid e
        have e2 : ¬ (0 : Int) < (k : Int) := by omega
        clear J e
        go_wp2_with fail
        exact ⟨⟨k + 1, by omega, by simp, by rw [HJ.out, HE.out, str_cat]; rfl⟩, by simp [intOf]; omega⟩
      · rw [if_neg e] at J
        rw [J] at L2
        simp only [List.length_append] at L2
        have HJ := Lib.hid J
        have e2 : (0 : Int) < (k : Int) := by omega
        clear J e
        go_wp2_with fail
        exact ⟨⟨k + 1, by omega, by simp, by rw [HJ.out, cat_cat (joinB b (xs.take k)) b, str_cat]⟩, by simp [intOf]; omega⟩
    · obtain rfl : k = xs.length := by omega
      go_wp2_with fail
      go_ret
      exact ⟨by first | rfl | (rw [List.take_length]; rfl), rfl⟩
end Go.Proofs.YtnlhipbdnihapaaDoor.Word
