/- WordBack: the walk. -/
import Derived.Test.YtnlhipbdnihapaaDoorWordP
namespace Go.Proofs.YtnlhipbdnihapaaDoor.Word
open Go.RowKit

def clean1 (x : Bytes) : Bool := x.all fun y => decide (y ≠ 32)
def clean (xs : List Bytes) : Bool := xs.all clean1
theorem clean1_no {x : Bytes} (h : clean1 x = true) : (32 : UInt8) ∉ x := by
  unfold clean1 at h
  rw [List.all_eq_true] at h
  intro q
  have := of_decide_eq_true (h 32 q)
  exact this rfl
theorem cutB_one (c : UInt8) : ∀ x : Bytes, c ∉ x → cutB c x = [x]
  | [], _ => by simp [cutB, parts, rest]
  | y :: r, h => by
    rw [List.mem_cons, not_or] at h
    obtain ⟨p, ps, h1, h2⟩ := cutB_no c y (fun q => h.1 q.symm) r
    rw [cutB_one c r h.2] at h1
    cases h1
    exact h2
theorem cutB_more (c : UInt8) (r : Bytes) : ∀ x : Bytes, c ∉ x → cutB c (x ++ [c] ++ r) = x :: cutB c r
  | [], _ => by simpa using cutB_yes c r
  | y :: x, h => by
    rw [List.mem_cons, not_or] at h
    obtain ⟨p, ps, h1, h2⟩ := cutB_no c y (fun q => h.1 q.symm) (x ++ [c] ++ r)
    rw [cutB_more c r x h.2] at h1
    cases h1
    exact h2
/-- Joined, parted again. -/
theorem cut_join (c : UInt8) : ∀ xs : List Bytes, xs ≠ [] → (∀ x ∈ xs, c ∉ x) → cutB c (joinB [c] xs) = xs
  | [], h, _ => absurd rfl h
  | [x], _, h => cutB_one c x (h x (by simp))
  | x :: y :: r, _, h => by
    show cutB c (x ++ [c] ++ joinB [c] (y :: r)) = _
    rw [cutB_more c _ x (h x (by simp)), cut_join c (y :: r) (by simp) (fun z hz => h z (by simp [hz]))]
theorem clean_take (xs : List Bytes) (k : Nat) (h : k < xs.length) : clean (xs.take (k + 1)) = (clean (xs.take k) && clean1 xs[k]) := by
  rw [List.take_succ_eq_append_getElem h]
  unfold clean
  rw [List.all_append]
  simp only [List.all_cons, List.all_nil, Bool.and_true]
theorem clean1_take (x : Bytes) (j : Nat) (h : j < x.length) : clean1 (x.take (j + 1)) = (clean1 (x.take j) && decide (x[j] ≠ 32)) := by
  rw [List.take_succ_eq_append_getElem h]
  unfold clean1
  rw [List.all_append]
  simp only [List.all_cons, List.all_nil, Bool.and_true]

/-- What holds at the head of the outer loop. -/
def BackRel (xs : List Bytes) (s11 s12 : Value) : Prop := ∃ (k : Nat) (c : Bool), k ≤ xs.length ∧ c = (decide (0 < xs.length) && clean (xs.take k)) ∧ s11 = .bool c ∧ s12 = .int .i64 (k : Int)
/-- .. of the inner one. -/
def BackRel1 (x : Bytes) (c : Bool) (s11 s13 : Value) : Prop := ∃ (j : Nat) (d : Bool), j ≤ x.length ∧ d = (c && clean1 (x.take j)) ∧ s11 = .bool d ∧ s13 = .int .i64 (j : Int)

set_option maxHeartbeats 2000000 in
theorem wordback_walk (W : World) (hL : Lw W) (n : Int) (hn : I64 n) (s : Bytes) (hs : s.length ≤ 1048576) (a : Option Addr) (m c : Nat) (xs : List Bytes) (hm : xs.length = m) (hmc : m ≤ c) (ht : total xs ≤ 1048576) (ha : Strs W W.heap.size a xs) :
    Calls Tryd.prog 4 #[.int .i64 n, str s, .slice a m c] W fun e w' => e = .returned (.bool true) ∧ Below W.heap.size W w' := by
  subst hm
  have SL := Lib.hid (fun w' (h : Below W.heap.size W w') => ha.later (Nat.le_refl _) h)
  have MA := Lib.hid (fun w h => many_any a xs xs.length c rfl ht w h)
  have TL := Lib.hid (total_take_le xs)
  unfold I64 at hn
  obtain ⟨n0, n1⟩ := hn
  have T1 := Lib.hid (fun w h => ltext_any n n0 n1 w h)
  have tx := (textB_length n).1
  have N1 := Lib.hid (fun w h => lnum_any (textB n) (by omega) w h)
  rw [numB_textB n n0 n1] at N1
  have N2 := Lib.hid (fun w h => lnum_any s hs w h)
  have be := numB_err s
  have bk := numB_bd s
  have BT := Lib.hid (textB_numB s)
  obtain ⟨q, ee, hq⟩ : ∃ q ee, numB s = (q, ee) := ⟨_, _, rfl⟩
  rw [hq] at N2 be bk BT
  obtain ⟨e0, e1⟩ := be
  obtain ⟨q0, q1⟩ := bk
  simp only at e0 e1 q0 q1
  have T2 := Lib.hid (fun w h => ltext_any q q0 q1 w h)
  clear hq
  have xl : xs.length ≤ 1048576 := by have := total_length xs; omega
  have HT := Lib.hid ht
  have HB := Lib.hid (Below.refl W.heap.size W)
  have HL := Lib.hid (fun w' (h : Below W.heap.size W w') => hL.later h)
  clear hL
  clear ha ht
  by_cases c2 : total xs ≤ 200
  · have M2 := Lib.hid (show decide (200 < total xs) = false from decide_eq_false (by omega))
    by_cases c3 : s.length ≤ 60
    · go_enter Tryd.func4, Tryd.ntmps4
      go_wp2_with (first
        | (go_at_call 13; (with_reducible refine (T1.out _ (HL.out _ HB.out)).mono ?_); rintro e w1 ⟨rfl, hb1⟩; replace HB := Lib.hid (chain2 HB.out hb1))
        | (go_at_call 17; (with_reducible refine (N1.out _ (HL.out _ HB.out)).mono ?_); rintro e w1 ⟨rfl, hb1⟩; replace HB := Lib.hid (chain2 HB.out hb1))
        | (go_at_call 17; (with_reducible refine (N2.out _ (HL.out _ HB.out)).mono ?_); rintro e w1 ⟨rfl, hb1⟩; replace HB := Lib.hid (chain2 HB.out hb1))
        | (go_at_call 9; refine (MA.out _ (SL.out _ HB.out)).mono ?_; rintro e w1 ⟨rfl, rfl⟩; rw [M2.out]))
      have HS := Lib.hid (SL.out w1 HB.out)
      clear hb1
      go_loop [11, 12] (fun s t => BackRel xs s t) (fun _ t => xs.length - (intOf t).toNat)
      case atStart => exact ⟨0, decide (0 < xs.length), by omega, by simp [clean], rfl, rfl⟩
      case round =>
        obtain ⟨k, cc, hk, hc, rfl, rfl⟩ := hrel
        have HC := Lib.hid hc
        clear hc
        by_cases hlt : k < xs.length
        · obtain ⟨b, off, ea, _, ca⟩ := HS.out (by omega)
          have c4 := ca k hlt
          have EA := Lib.hid ea
          rw [EA.out]
          have CT := Lib.hid (clean_take xs k hlt)
          have zl : xs[k].length ≤ 1048576 := by
            have h1 := TL.out (k + 1)
            rw [total_take xs k hlt] at h1
            have := HT.out
            omega
          obtain ⟨x, hx⟩ : ∃ x, x = xs[k] := ⟨_, rfl⟩
          rw [← hx] at c4 CT zl
          clear ca ea hx
          go_wp2_with fail
          go_loop [11, 13] (fun s t => BackRel1 x cc s t) (fun _ t => x.length - (intOf t).toNat)
          case atStart => exact ⟨0, cc, by omega, by simp [clean1], rfl, rfl⟩
          case round =>
            obtain ⟨j, d, hj, hd, rfl, rfl⟩ := hrel
            have HD := Lib.hid hd
            clear hd
            by_cases hjt : j < x.length
            · have C1 := Lib.hid (clean1_take x j hjt)
              cases d with
              | false =>
                go_wp2_with fail
                exact ⟨⟨j + 1, false, by omega, by rw [C1.out, ← Bool.and_assoc, ← HD.out]; rfl, rfl, by simp⟩, by simp [intOf]; omega⟩
              | true =>
                by_cases hz : x[j] = 32
                · have t1 : (((⟨x.toArray⟩ : ByteArray)[j].toNat : Int) != 32) = false := by
                    rw [byte_get x j hjt, hz]; rfl
                  have D1 := Lib.hid (show decide (x[j] ≠ 32) = false from decide_eq_false (fun z => z hz))
                  clear hz
                  go_wp2_with fail
                  exact ⟨⟨j + 1, false, by omega, by rw [C1.out, D1.out, Bool.and_false, Bool.and_false], rfl, by simp⟩, by simp [intOf]; omega⟩
                · have t1 : (((⟨x.toArray⟩ : ByteArray)[j].toNat : Int) != 32) = true := by
                    rw [byte_get x j hjt, bne_iff_ne]
                    intro z
                    apply hz
                    exact UInt8.toNat_inj.1 (by have : (32 : UInt8).toNat = 32 := rfl
                                                omega)
                  have D1 := Lib.hid (show decide (x[j] ≠ 32) = true from decide_eq_true hz)
                  clear hz
                  go_wp2_with fail
                  exact ⟨⟨j + 1, true, by omega, by rw [C1.out, D1.out, Bool.and_true, ← HD.out], rfl, by simp⟩, by simp [intOf]; omega⟩
            · obtain rfl : j = x.length := by omega
              have E := HD.out
              rw [List.take_length] at E
              go_wp2_with fail
              exact ⟨⟨k + 1, d, by omega, by rw [CT.out, ← Bool.and_assoc, ← HC.out, E], rfl, by simp⟩, by simp [intOf]; omega⟩
        · obtain rfl : k = xs.length := by omega
          have E := HC.out
          rw [List.take_length] at E
          have WK : Hid (cc = true → ∀ w, Lw w → Calls Tryd.prog 19 #[str (joinB [32] xs)] w (TellsStrs xs w)) := Lib.hid (by
            intro hc w hLw
            rw [hc] at E
            have E2 := E.symm
            rw [Bool.and_eq_true, decide_eq_true_iff] at E2
            have h := lwords_any (joinB [32] xs) (by
              have h1 := joinB_len [32] xs
              have h2 := total_length xs
              have h3 : [(32 : UInt8)].length * xs.length ≤ 1 * 200 := Nat.mul_le_mul (by decide) (by omega)
              omega) w hLw
            have e : wordsB (joinB [32] xs) = xs := cut_join 32 xs (List.length_pos_iff.1 E2.1) (fun x hx => clean1_no ((List.all_eq_true.1 E2.2) x hx))
            rw [e] at h
            exact h)
          have JA := Lib.hid (fun w h => ljoin_any a xs xs.length c [32] rfl hmc (joinB_small2 [32] xs (by decide) (by omega)) (by omega) w h)
          have XM := Lib.hid (show xs.length ≤ maxLen by unfold maxLen; omega)
          clear E HC
          cases cc with
          | false =>
            by_cases c5 : ee = 0
            · subst c5
              have B2 := BT.out q rfl
              rw [B2] at T2
              go_wp2_with (first
                | (go_at_call 10; refine (known_any _ (HL.out _ HB.out)).mono ?_; rintro e w2 ⟨rfl, hb2⟩; replace HB := Lib.hid (chain2 HB.out hb2))
                | (go_at_call 13; (with_reducible refine (T2.out _ (HL.out _ HB.out)).mono ?_); rintro e w3 ⟨rfl, hb3⟩; replace HB := Lib.hid (chain2 HB.out hb3)))
              go_ret
              exact ⟨rfl, HB.out⟩
            · have t1 : (ee != 0) = true := by simp [c5]
              go_wp2_with (first
                | (go_at_call 10; refine (known_any _ (HL.out _ HB.out)).mono ?_; rintro e w2 ⟨rfl, hb2⟩; replace HB := Lib.hid (chain2 HB.out hb2)))
              go_ret
              exact ⟨rfl, HB.out⟩
          | true =>
            have W2 := Lib.hid (WK.out rfl)
            by_cases c5 : ee = 0
            · subst c5
              have B2 := BT.out q rfl
              rw [B2] at T2
              go_wp2_with (first
                | (go_at_call 10; refine (known_any _ (HL.out _ HB.out)).mono ?_; rintro e w2 ⟨rfl, hb2⟩; replace HB := Lib.hid (chain2 HB.out hb2))
                | (go_at_call 13; (with_reducible refine (T2.out _ (HL.out _ HB.out)).mono ?_); rintro e w3 ⟨rfl, hb3⟩; replace HB := Lib.hid (chain2 HB.out hb3))
                | (go_at_call 15; refine (JA.out _ (SL.out _ HB.out)).mono ?_; rintro e w4 ⟨rfl, hb4⟩; replace HB := Lib.hid (chain2 HB.out hb4))
                | (go_at_call 19; refine (W2.out _ (HL.out _ HB.out)).mono ?_; rintro e w5 ⟨A5, c6, rfl, _, _, s5, hb5⟩; replace HB := Lib.hid (chain2 HB.out hb5))
                | (go_at_call 18; refine (same_self _ _ _ _ _ XM.out _ s5 (SL.out _ HB.out)).mono ?_; rintro e w7 ⟨rfl, hb7⟩; replace HB := Lib.hid (chain2 HB.out hb7)))
              go_ret
              exact ⟨rfl, HB.out⟩
            · have t1 : (ee != 0) = true := by simp [c5]
              go_wp2_with (first
                | (go_at_call 10; refine (known_any _ (HL.out _ HB.out)).mono ?_; rintro e w2 ⟨rfl, hb2⟩; replace HB := Lib.hid (chain2 HB.out hb2))
                | (go_at_call 15; refine (JA.out _ (SL.out _ HB.out)).mono ?_; rintro e w4 ⟨rfl, hb4⟩; replace HB := Lib.hid (chain2 HB.out hb4))
                | (go_at_call 19; refine (W2.out _ (HL.out _ HB.out)).mono ?_; rintro e w5 ⟨A5, c6, rfl, _, _, s5, hb5⟩; replace HB := Lib.hid (chain2 HB.out hb5))
                | (go_at_call 18; refine (same_self _ _ _ _ _ XM.out _ s5 (SL.out _ HB.out)).mono ?_; rintro e w7 ⟨rfl, hb7⟩; replace HB := Lib.hid (chain2 HB.out hb7)))
              go_ret
              exact ⟨rfl, HB.out⟩
    · go_enter Tryd.func4, Tryd.ntmps4
      go_wp2_with (first
        | (go_at_call 13; (with_reducible refine (T1.out _ (HL.out _ HB.out)).mono ?_); rintro e w1 ⟨rfl, hb1⟩; replace HB := Lib.hid (chain2 HB.out hb1))
        | (go_at_call 17; (with_reducible refine (N1.out _ (HL.out _ HB.out)).mono ?_); rintro e w1 ⟨rfl, hb1⟩; replace HB := Lib.hid (chain2 HB.out hb1))
        | (go_at_call 10; refine (known_any _ (HL.out _ HB.out)).mono ?_; rintro e w1 ⟨rfl, hb1⟩; replace HB := Lib.hid (chain2 HB.out hb1))
        | (go_at_call 9; refine (MA.out _ (SL.out _ HB.out)).mono ?_; rintro e w1 ⟨rfl, rfl⟩; rw [M2.out]))
      go_ret
      exact ⟨rfl, HB.out⟩
  · have M2 := Lib.hid (show decide (200 < total xs) = true from decide_eq_true (by omega))
    go_enter Tryd.func4, Tryd.ntmps4
    go_wp2_with (first
      | (go_at_call 13; (with_reducible refine (T1.out _ (HL.out _ HB.out)).mono ?_); rintro e w1 ⟨rfl, hb1⟩; replace HB := Lib.hid (chain2 HB.out hb1))
      | (go_at_call 17; (with_reducible refine (N1.out _ (HL.out _ HB.out)).mono ?_); rintro e w1 ⟨rfl, hb1⟩; replace HB := Lib.hid (chain2 HB.out hb1))
      | (go_at_call 10; refine (known_any _ (HL.out _ HB.out)).mono ?_; rintro e w1 ⟨rfl, hb1⟩; replace HB := Lib.hid (chain2 HB.out hb1))
      | (go_at_call 9; refine (MA.out _ (SL.out _ HB.out)).mono ?_; rintro e w1 ⟨rfl, rfl⟩; rw [M2.out]))
    go_ret
    exact ⟨rfl, HB.out⟩
end Go.Proofs.YtnlhipbdnihapaaDoor.Word
