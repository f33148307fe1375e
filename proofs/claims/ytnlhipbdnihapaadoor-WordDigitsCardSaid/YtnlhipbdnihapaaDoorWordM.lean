/- WordParts: the walk. -/
import Derived.Test.YtnlhipbdnihapaaDoorWordK
namespace Go.Proofs.YtnlhipbdnihapaaDoor.Word
open Go.RowKit

theorem joinB_cons (b : Bytes) (p : Bytes) (ps : List Bytes) (h : ps ≠ []) : joinB b (p :: ps) = p ++ b ++ joinB b ps := by
  match ps, h with
  | q :: qs, _ => rfl
theorem joinB_head (b : Bytes) (x : UInt8) (p : Bytes) (ps : List Bytes) : joinB b ((x :: p) :: ps) = x :: joinB b (p :: ps) := by
  match ps with
  | [] => rfl
  | q :: qs => rfl
/-- Parted, joined again. -/
theorem joinB_cut (c : UInt8) : ∀ l : Bytes, joinB [c] (cutB c l) = l
  | [] => by simp [cutB, parts, rest, joinB]
  | x :: r => by
    have ih := joinB_cut c r
    by_cases hx : x = c
    · subst hx
      rw [cutB_yes, joinB_cons _ _ _ (cutB_ne _ _), ih]
      rfl
    · obtain ⟨p, ps, h1, h2⟩ := cutB_no c x hx r
      rw [h2, joinB_head, ← h1, ih]
/-- One more than there are signs. -/
theorem cutB_count (c : UInt8) : ∀ l : Bytes, (cutB c l).length = l.count c + 1
  | [] => by simp [cutB, parts, rest]
  | x :: r => by
    have ih := cutB_count c r
    by_cases hx : x = c
    · subst hx
      rw [cutB_yes, List.length_cons, ih, List.count_cons_self]
    · obtain ⟨p, ps, h1, h2⟩ := cutB_no c x hx r
      rw [h1] at ih
      rw [h2, List.count_cons_of_ne hx]
      simpa using ih
theorem cutB_total (c : UInt8) : ∀ l : Bytes, total (cutB c l) = l.length + 1
  | [] => by simp [cutB, parts, rest, total]
  | x :: r => by
    have ih := cutB_total c r
    by_cases hx : x = c
    · subst hx
      rw [cutB_yes]
      simp only [total, List.map_cons, List.sum_cons, List.length_nil, List.length_cons] at ih ⊢
      omega
    · obtain ⟨p, ps, h1, h2⟩ := cutB_no c x hx r
      rw [h1] at ih
      rw [h2]
      simp only [total, List.map_cons, List.sum_cons, List.length_cons] at ih ⊢
      omega
theorem count_take (c : UInt8) (l : Bytes) (k : Nat) (h : k < l.length) : (l.take (k + 1)).count c = (l.take k).count c + if l[k] = c then 1 else 0 := by
  rw [List.take_succ_eq_append_getElem h, List.count_append]
  by_cases e : l[k] = c
  · rw [if_pos e, e]; simp
  · rw [if_neg e, show List.count c [l[k]] = 0 from List.count_eq_zero.2 (by simp only [List.mem_singleton]; exact fun q => e q.symm)]
theorem joinB_small2 (b : Bytes) (xs : List Bytes) (hb : b.length ≤ 300) (ht : total xs ≤ 1000) : ∀ k, k ≤ xs.length → (joinB b (xs.take k)).length + b.length ≤ 1073741824 := by
  intro k _
  have h1 := joinB_len b (xs.take k)
  have h2 := total_take_le xs k
  have h3 := total_length (xs.take k)
  have h4 : b.length * (xs.take k).length ≤ 300 * 1000 := Nat.mul_le_mul hb (by omega)
  omega

/-- What holds at the head of the loop. -/
def PartsRel (l : Bytes) (s3 s4 : Value) : Prop := ∃ k n : Nat, k ≤ l.length ∧ n ≤ k ∧ n = (l.take k).count 32 ∧ s3 = .int .i64 ((n : Int) + 1) ∧ s4 = .int .i64 (k : Int)

set_option maxHeartbeats 2000000 in
theorem wordparts_walk (W : World) (hL : Lw W) (l : Bytes) (hl : l.length ≤ maxLen) :
    Calls Tryd.prog 7 #[str l] W fun e w' => e = .returned (.bool true) ∧ Below W.heap.size W w' := by
  have HB := Lib.hid (Below.refl W.heap.size W)
  have HL := Lib.hid (fun w' (h : Below W.heap.size W w') => hL.later h)
  clear hL
  have hl2 : l.length ≤ 9223372036854775807 := by unfold maxLen at hl; omega
  clear hl
  by_cases c1 : l.length ≤ 200
  · have WA := Lib.hid (fun w h => lwords_any l (by omega) w h)
    have JA := Lib.hid (fun A c w (hc : (wordsB l).length ≤ c) h => ljoin_any A (wordsB l) (wordsB l).length c [32] rfl hc (joinB_small2 [32] (wordsB l) (by decide) (by unfold wordsB; rw [cutB_total]; omega)) (by have := wordsB_len l; omega) w h)
    have CB := Lib.hid (show (wordsB l).length = l.count 32 + 1 from cutB_count 32 l)
    have JB := Lib.hid (show joinB [32] (wordsB l) = l from joinB_cut 32 l)
    go_enter Tryd.func7, Tryd.ntmps7
    go_wp2_with fail
    go_loop [3, 4] (fun s t => PartsRel l s t) (fun _ t => l.length - (intOf t).toNat)
    case atStart => exact ⟨0, 0, by omega, by omega, by simp, rfl, rfl⟩
    case round =>
      obtain ⟨k, n, hk, hnk, hn, rfl, rfl⟩ := hrel
      have HN := Lib.hid hn
      clear hn
      by_cases hlt : k < l.length
      · have E := Lib.hid (count_take 32 l k hlt)
        by_cases hx : l[k] = 32
        · have t : (((⟨l.toArray⟩ : ByteArray)[k].toNat : Int) == 32) = true := by
            rw [byte_get l k hlt, hx]; rfl
          have HX := Lib.hid hx
          clear hx
          go_wp2_with fail
          exact ⟨⟨k + 1, n + 1, by omega, by omega, by rw [E.out, if_pos HX.out, HN.out], by simp, by simp⟩, by simp [intOf]; omega⟩
        · have t : (((⟨l.toArray⟩ : ByteArray)[k].toNat : Int) == 32) = false := by
            rw [byte_get l k hlt, beq_eq_false_iff_ne]
            intro q
            apply hx
            exact UInt8.toNat_inj.1 (by have : (32 : UInt8).toNat = 32 := rfl
                                        omega)
          have HX := Lib.hid hx
          clear hx
          go_wp2_with fail
          exact ⟨⟨k + 1, n, by omega, by omega, by rw [E.out, if_neg HX.out, HN.out]; rfl, by simp, by simp⟩, by simp [intOf]; omega⟩
      · obtain rfl : k = l.length := by omega
        have q : (wordsB l).length = n + 1 := by rw [CB.out, HN.out, List.take_length]
        obtain ⟨ws, hws⟩ : ∃ ws, ws = wordsB l := ⟨_, rfl⟩
        rw [← hws] at WA JA JB q
        have t : ((ws.length : Int) == (n : Int) + 1) = true := by rw [beq_iff_eq, q]; omega
        clear hws q CB
        go_wp2_with (first
          | (go_at_call 19; refine (WA.out _ (HL.out _ HB.out)).mono ?_; rintro e w1 ⟨A, cap, rfl, hcap, _, s1, hb1⟩; replace HB := Lib.hid (chain2 HB.out hb1))
          | (go_at_call 10; refine (known_any _ (HL.out _ HB.out)).mono ?_; rintro e w2 ⟨rfl, hb2⟩; replace HB := Lib.hid (chain2 HB.out hb2); (have s2 := s1.later (Nat.le_refl _) hb2))
          | (go_at_call 15; refine (JA.out _ _ _ hcap s2).mono ?_; rintro e w3 ⟨rfl, hb3⟩; replace HB := Lib.hid (chain2 HB.out hb3); rw [JB.out]))
        go_ret
        exact ⟨rfl, HB.out⟩
  · go_enter Tryd.func7, Tryd.ntmps7
    go_wp2_with (first
      | (go_at_call 10; refine (known_any _ (HL.out _ HB.out)).mono ?_; rintro e w1 ⟨rfl, hb1⟩))
    go_ret
    exact ⟨rfl, hb1⟩
end Go.Proofs.YtnlhipbdnihapaaDoor.Word
