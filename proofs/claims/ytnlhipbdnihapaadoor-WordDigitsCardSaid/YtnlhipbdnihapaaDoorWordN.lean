/- WordLines: the walk. -/
import Derived.Test.YtnlhipbdnihapaaDoorWordM
namespace Go.Proofs.YtnlhipbdnihapaaDoor.Word
open Go.RowKit

/-- Each with its end behind it. -/
def catL (xs : List Bytes) : Bytes := (xs.map fun x => x ++ [10]).flatten
theorem catL_snoc (xs : List Bytes) (x : Bytes) : catL (xs ++ [x]) = catL xs ++ x ++ [10] := by simp [catL]
theorem catL_parts : ∀ l : Bytes, catL (parts 10 l) ++ rest 10 l = l
  | [] => rfl
  | x :: r => by
    have ih := catL_parts r
    by_cases hx : x = 10
    · subst hx
      simp [parts, rest, catL] at ih ⊢
      exact ih
    · cases hp : parts 10 r with
      | nil =>
        rw [hp] at ih
        simp [parts, rest, catL, hp, hx] at ih ⊢
        exact ih
      | cons p ps =>
        rw [hp] at ih
        simp [parts, rest, catL, hp, hx] at ih ⊢
        exact ih
theorem rest_no (c : UInt8) : ∀ l : Bytes, c ∉ rest c l
  | [] => by simp [rest]
  | x :: r => by
    have ih := rest_no c r
    unfold rest
    split
    · rename_i h
      simp only [List.mem_cons, not_or]
      exact ⟨fun q => h.2 q.symm, ih⟩
    · exact ih
theorem parts_no (c : UInt8) : ∀ l : Bytes, ∀ x ∈ parts c l, c ∉ x
  | [] => by simp [parts]
  | x :: r => by
    have ih := parts_no c r
    unfold parts
    split
    · intro y hy
      rcases List.mem_cons.1 hy with rfl | hy
      · simp
      · exact ih y hy
    · rename_i hx
      cases hp : parts c r with
      | nil => simp
      | cons p ps =>
        rw [hp] at ih
        intro y hy
        rcases List.mem_cons.1 hy with rfl | hy
        · simp only [List.mem_cons, not_or]
          exact ⟨fun q => hx q.symm, ih p (by simp)⟩
        · exact ih y (by simp [hy])
theorem lines_no (l : Bytes) : ∀ x ∈ linesB l, (10 : UInt8) ∉ x := by
  intro x hx
  unfold linesB at hx
  split at hx
  · exact parts_no 10 l x hx
  · unfold cutB at hx
    rcases List.mem_append.1 hx with h | h
    · exact parts_no 10 l x h
    · rw [List.mem_singleton.1 h]
      exact rest_no 10 l
theorem catL_end (l : Bytes) : catL (linesB l) = l ∨ (catL (linesB l) = l ++ [10] ∧ ∃ h : 0 < l.length, l[l.length - 1] ≠ 10) := by
  have e := catL_parts l
  unfold linesB
  split
  · rename_i h
    rw [h, List.append_nil] at e
    exact Or.inl e
  · rename_i h
    right
    refine ⟨by unfold cutB; rw [catL_snoc, e], ?_⟩
    have hl : 0 < (rest 10 l).length := List.length_pos_iff.2 h
    have hlen : l.length = (catL (parts 10 l)).length + (rest 10 l).length := by rw [← List.length_append, e]
    refine ⟨by omega, fun q => rest_no 10 l ?_⟩
    have e2 : l[l.length - 1]'(by omega) = (rest 10 l)[(rest 10 l).length - 1]'(by omega) := by
      have : ∀ (m : Bytes) (hm : m = l) (h0 : l.length - 1 < m.length), l[l.length - 1]'(by omega) = m[l.length - 1] := by
        intro m hm h0
        subst hm
        rfl
      rw [this _ e (by rw [List.length_append]; omega), List.getElem_append_right (by omega)]
      congr 1
      omega
    rw [e2] at q
    have mm := List.getElem_mem (l := rest 10 l) (n := (rest 10 l).length - 1) (by omega)
    rw [q] at mm
    exact mm
theorem catL_take (xs : List Bytes) (k : Nat) (h : k < xs.length) : catL (xs.take (k + 1)) = catL (xs.take k) ++ xs[k] ++ [10] := by
  rw [List.take_succ_eq_append_getElem h, catL_snoc]
theorem catL_len (xs : List Bytes) : (catL xs).length = total xs := by
  unfold catL total
  rw [List.length_flatten, List.map_map]
  congr 1
  apply List.map_congr_left
  intro x _
  simp
theorem linesB_total (l : Bytes) : total (linesB l) ≤ l.length + 1 := by
  rw [← catL_len]
  rcases catL_end l with h | ⟨h, _⟩
  · rw [h]; omega
  · rw [h]; simp

/-- What holds at the head of the outer loop. -/
def LinesRel (xs : List Bytes) (s4 s5 : Value) : Prop := ∃ (k : Nat) (t : Bytes), k ≤ xs.length ∧ t = catL (xs.take k) ∧ s4 = str t ∧ s5 = .int .i64 (k : Int)
/-- .. of the inner one. -/
def LineRel (x : Bytes) (s6 : Value) : Prop := ∃ j : Nat, j ≤ x.length ∧ s6 = .int .i64 (j : Int)

set_option maxHeartbeats 2000000 in
theorem wordlines_walk (W : World) (hL : Lw W) (l : Bytes) (hl : l.length ≤ maxLen) :
    Calls Tryd.prog 5 #[str l] W fun e w' => e = .returned (.bool true) ∧ Below W.heap.size W w' := by
  have HB := Lib.hid (Below.refl W.heap.size W)
  have HL := Lib.hid (fun w' (h : Below W.heap.size W w') => hL.later h)
  clear hL
  have hl2 : l.length ≤ 9223372036854775807 := by unfold maxLen at hl; omega
  clear hl
  by_cases c1 : l.length ≤ 200
  · have LA := Lib.hid (fun w h => llines_any l (by omega) w h)
    have NO := Lib.hid (lines_no l)
    have EN := Lib.hid (catL_end l)
    have TT := linesB_total l
    have LL := linesB_len l
    obtain ⟨xs, hxs⟩ : ∃ xs, xs = linesB l := ⟨_, rfl⟩
    rw [← hxs] at LA NO EN TT LL
    have TK := Lib.hid (total_take_le xs)
    clear hxs
    go_enter Tryd.func5, Tryd.ntmps5
    go_wp2_with (first
      | (go_at_call 20; refine (LA.out _ (HL.out _ HB.out)).mono ?_; rintro e w1 ⟨A, cap, rfl, _, _, s1, hb1⟩; replace HB := Lib.hid (chain2 HB.out hb1)))
    have HS := Lib.hid s1
    clear s1
    go_loop [4, 5] (fun s t => LinesRel xs s t) (fun _ t => xs.length - (intOf t).toNat)
    case atStart => exact ⟨0, [], by omega, by simp [catL], rfl, rfl⟩
    case round =>
      obtain ⟨k, t, hk, ht, rfl, rfl⟩ := hrel
      have HT := Lib.hid ht
      clear ht
      by_cases hlt : k < xs.length
      · obtain ⟨b, off, ea, _, ca⟩ := HS.out (by omega)
        have c2 := ca k hlt
        have EA := Lib.hid ea
        rw [EA.out]
        have CT := Lib.hid (catL_take xs k hlt)
        have nx := NO.out xs[k] (List.getElem_mem _)
        have tl : t.length + (xs[k].length + 1) ≤ 201 := by
          have h1 := TK.out (k + 1)
          rw [total_take xs k hlt] at h1
          rw [HT.out, catL_len]
          omega
        obtain ⟨x, hx⟩ : ∃ x, x = xs[k] := ⟨_, rfl⟩
        rw [← hx] at c2 CT nx tl
        have NX := Lib.hid nx
        clear ca ea hx nx
        go_wp2_with fail
        go_loop [6] (fun q => LineRel x q) (fun q => x.length - (intOf q).toNat)
        case atStart => exact ⟨0, by omega, rfl⟩
        case round =>
          obtain ⟨j, hj, rfl⟩ := hrel
          by_cases hjt : j < x.length
          · have t1 : (((⟨x.toArray⟩ : ByteArray)[j].toNat : Int) == 10) = false := by
              rw [byte_get x j hjt, beq_eq_false_iff_ne]
              intro q
              apply NX.out
              have e : x[j] = 10 := UInt8.toNat_inj.1 (by have : (10 : UInt8).toNat = 10 := rfl
                                                          omega)
              rw [← e]
              exact List.getElem_mem _
            go_wp2_with fail
            exact ⟨⟨j + 1, by omega, by simp⟩, by simp [intOf]; omega⟩
          · obtain rfl : j = x.length := by omega
            go_wp2_with fail
            exact ⟨⟨k + 1, t ++ x ++ [10], by omega, by rw [CT.out, HT.out], by rw [cat_cat t x, str_cat], by simp⟩, by simp [intOf]; omega⟩
      · obtain rfl : k = xs.length := by omega
        have E : t = catL xs := by have := HT.out; rw [List.take_length] at this; exact this
        rcases EN.out with e | ⟨e, h0, h1⟩
        · have t1 : (t == l) = true := by rw [E, e]; simp
          clear E
          go_wp2_with (first
            | (go_at_call 10; refine (known_any _ (HL.out _ HB.out)).mono ?_; rintro e w2 ⟨rfl, hb2⟩))
          go_ret
          exact ⟨rfl, chain2 hb1 hb2⟩
        · have t1 : (t == l) = false := by
            rw [E, e, beq_eq_false_iff_ne]
            intro q
            have := congrArg List.length q
            simp at this
          have t5 : (t == ((⟨l.toArray⟩ : ByteArray) ++ ⟨#[10]⟩).toList) = true := by rw [ByteArray.toList_eq, E, e]; simp
          have t3 : l.isEmpty = false := by cases l with
            | nil => simp at h0
            | cons x r => rfl
          have t4 : ((((⟨l.toArray⟩ : ByteArray)[l.length - 1]'(by show l.length - 1 < l.toArray.size; rw [List.size_toArray]; omega)).toNat : Int) != 10) = true := by
            rw [byte_get l (l.length - 1) (by omega), bne_iff_ne]
            intro q
            apply h1
            exact UInt8.toNat_inj.1 (by have : (10 : UInt8).toNat = 10 := rfl
                                        omega)
          clear E h1
          go_wp2_with (first
            | (go_at_call 10; refine (known_any _ (HL.out _ HB.out)).mono ?_; rintro e w2 ⟨rfl, hb2⟩))
          go_ret
          exact ⟨rfl, chain2 hb1 hb2⟩
  · go_enter Tryd.func5, Tryd.ntmps5
    go_wp2_with (first
      | (go_at_call 10; refine (known_any _ (HL.out _ HB.out)).mono ?_; rintro e w1 ⟨rfl, hb1⟩))
    go_ret
    exact ⟨rfl, hb1⟩
end Go.Proofs.YtnlhipbdnihapaaDoor.Word
