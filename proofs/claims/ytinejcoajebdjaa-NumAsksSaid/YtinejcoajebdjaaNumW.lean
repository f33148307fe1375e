/- The document's text. -/
import Derived.Test.YtinejcoajebdjaaNumV
import Derived.Test.YtinejcoajebdjaaNumN
namespace Go.Proofs.Ytinejcoajebdjaa
open Go.RowKit

/-- The last j digits of a number, the greatest place first. -/
def digs (N : Int) (j : Nat) : List UInt8 := (List.range j).map fun i => UInt8.ofNat (48 + dg N (j - 1 - i)).toNat
theorem digs_length (N : Int) (j : Nat) : (digs N j).length = j := by simp [digs]
theorem digs_dec (N : Int) : digs N (top N 39 + 1) = dec N := rfl
theorem digs_succ (N : Int) (j : Nat) : digs N (j + 1) = UInt8.ofNat (48 + dg N j).toNat :: digs N j := by
  apply List.ext_getElem
  · simp [digs]
  · intro i h1 h2
    rcases i with _ | i
    · simp [digs]
    · simp only [digs, List.getElem_map, List.getElem_range, List.getElem_cons_succ]
      have e : j + 1 - 1 - (i + 1) = j - 1 - i := by omega
      rw [e]
theorem div_mono0 (N : Int) (i j : Nat) (h : i ≤ j) (hz : N / 10 ^ i = 0) : N / 10 ^ j = 0 := by
  obtain ⟨d, rfl⟩ : ∃ d, j = i + d := ⟨j - i, by omega⟩
  rw [Int.pow_add, ← Int.ediv_ediv_of_nonneg (Int.le_of_lt (pow10_pos i)), hz]
  simp
theorem end_top (N : Int) (h0 : 0 ≤ N) (j : Nat) (hj : 1 ≤ j) (hle : j ≤ top N 39 + 1) (hz : N / 10 ^ j = 0) : j = top N 39 + 1 := by
  rcases Nat.lt_or_ge j (top N 39 + 1) with h | h
  · have _ := h0
    rcases top_dg N 39 with e | e
    · omega
    · exfalso
      apply e
      unfold dg
      rw [div_mono0 N j (top N 39) (by omega) hz]
      rfl
  · omega
theorem more_top (N : Int) (h0 : 0 ≤ N) (h1 : N < 340282366920938463463374607431768211456) (j : Nat) (hz : N / 10 ^ j ≠ 0) : j ≤ top N 39 := by
  rcases Nat.lt_or_ge j (top N 39 + 1) with h | h
  · omega
  · exact absurd (div_mono0 N _ j h (div39 N h0 h1)) hz

/-- The digits, as the text has them in a constant. -/
theorem digit_cut : ∀ d : Nat, d < 10 → (⟨#[48, 49, 50, 51, 52, 53, 54, 55, 56, 57]⟩ : ByteArray).extract d (d + 1) = ⟨#[UInt8.ofNat (48 + d)]⟩ := by decide +kernel
theorem cat_digs (N : Int) (j d : Nat) (hd : dg N j = (d : Int)) (h : d < 10) : (⟨#[48, 49, 50, 51, 52, 53, 54, 55, 56, 57]⟩ : ByteArray).extract d (d + 1) ++ ⟨(digs N j).toArray⟩ = ⟨(digs N (j + 1)).toArray⟩ := by
  rw [digit_cut d h, digs_succ, hd]
  have e : ((48 : Int) + (d : Int)).toNat = 48 + d := by omega
  rw [e]
  apply ByteArray.ext
  simp

theorem ret_nil (l : List UInt8) : Ending.returned (.string ((⟨#[]⟩ : ByteArray) ++ ⟨l.toArray⟩)) = .returned (.string ⟨l.toArray⟩) := by
  congr 2

theorem rtenth_c (N : Int) (c : Int) (h0 : 0 ≤ N) (h1 : N < 340282366920938463463374607431768211456) (hc : N % 10 = c) (w : World) :
    Calls Try.prog 49 #[.int .u64 (hi N), .int .u64 (lo N)] w fun e w' => e = .returned (.tuple #[.int .u64 (hi (N / 10)), .int .u64 (lo (N / 10)), .int .i64 c]) ∧ w = w' := by
  subst hc; exact rtenth_any N h0 h1 w

/-- How much room is left, of 64. -/
def strLeft : Value → Nat
  | .string b => 64 - b.size
  | _ => 0
theorem strLeft_digs (N : Int) (j : Nat) : strLeft (.string ⟨(digs N j).toArray⟩) = 64 - j := by
  show 64 - ((digs N j).toArray).size = _
  rw [List.size_toArray, digs_length]

/-- What holds at the head of the loop. -/
def RTextRel (M : Int) (s4 s5 s6 : Value) : Prop :=
  ∃ j : Nat, j ≤ top M 39 + 1 ∧ s4 = .int .u64 (hi (M / 10 ^ j)) ∧ s5 = .int .u64 (lo (M / 10 ^ j)) ∧ s6 = .string ⟨(digs M j).toArray⟩

set_option maxRecDepth 100000 in
set_option maxHeartbeats 4000000 in
theorem rtext_pos (a : Int) (ha : IsW a) (h : 0 ≤ a) (w : World) :
    Calls Try.prog 40 #[Wd a] w fun e w' => e = .returned (.string ⟨(text a).toArray⟩) ∧ Below w.heap.size w w' := by
  rw [text_pos h]
  have h1 : 0 ≤ hi a := by unfold hi; omega
  have e1 : IntKind.u64.wrap (hi a) = hi a := by obtain ⟨_, y⟩ := ha; rw [u64w]; unfold hi; omega
  have HA := Lib.hid (show 0 ≤ a ∧ a < 340282366920938463463374607431768211456 by obtain ⟨_, y⟩ := ha; omega)
  clear ha h
  go_enter Try.func40, Try.ntmps40
  go_wp2_with fail
  go_loop [4, 5, 6] (fun s4 s5 s6 => RTextRel a s4 s5 s6) (fun _ _ s => strLeft s)
  case atStart => exact ⟨0, by omega, by simp, by simp, by simp [digs]⟩
  case round =>
    obtain ⟨j, hj, rfl, rfl, rfl⟩ := hrel
    have B := Lib.hid (show 0 ≤ a / 10 ^ j ∧ a / 10 ^ j < 340282366920938463463374607431768211456 from pow_div_bd _ j HA.out.1 HA.out.2)
    have dl := digs_length a j
    have tj := top_39 a
    have ql : (digs a j).length ≤ 39 := by omega
    have j40 : j < 40 := by omega
    obtain ⟨d, hd⟩ : ∃ d : Nat, dg a j = (d : Int) := ⟨(dg a j).toNat, by have := dg_bd a j; omega⟩
    have d9 : d < 10 := by have := dg_bd a j; omega
    have HD := Lib.hid (show a / 10 ^ j % 10 = (d : Int) from hd)
    have CD := Lib.hid (cat_digs a j d hd d9)
    have HJ := Lib.hid hj
    have DL := Lib.hid dl
    have b1 : 0 ≤ hi (a / 10 ^ j) := by have := B.out; unfold hi; omega
    have b2 := (lo_U64 (a / 10 ^ j)).1
    clear hd hj dl tj
    by_cases k1 : 0 < hi (a / 10 ^ j)
    · have JT := Lib.hid (more_top a HA.out.1 HA.out.2 j (by intro e; rw [e] at k1; exact absurd k1 (by decide)))
      go_wp2_with fail
      refine (rtenth_c (a / 10 ^ j) (d : Int) B.out.1 B.out.2 HD.out _).mono ?_
      rintro e w' ⟨rfl, rfl⟩
      rw [pow_div_succ]
      go_wp2_with fail
      rw [CD.out]
      exact ⟨⟨j + 1, by have := JT.out; omega, rfl, rfl, rfl⟩, by rw [strLeft_digs, strLeft_digs]; omega⟩
    by_cases k2 : 0 < lo (a / 10 ^ j)
    · have JT := Lib.hid (more_top a HA.out.1 HA.out.2 j (by intro e; rw [e] at k2; exact absurd k2 (by decide)))
      have k1' : hi (a / 10 ^ j) ≤ 0 := by omega
      go_wp2_with fail
      refine (rtenth_c (a / 10 ^ j) (d : Int) B.out.1 B.out.2 HD.out _).mono ?_
      rintro e w' ⟨rfl, rfl⟩
      rw [pow_div_succ]
      go_wp2_with fail
      rw [CD.out]
      exact ⟨⟨j + 1, by have := JT.out; omega, rfl, rfl, rfl⟩, by rw [strLeft_digs, strLeft_digs]; omega⟩
    have z : a / 10 ^ j = 0 := by have := hl (a / 10 ^ j); omega
    by_cases k3 : j = 0
    · have JT := Lib.hid (show j ≤ top a 39 by omega)
      have k1' : hi (a / 10 ^ j) ≤ 0 := by omega
      have k2' : lo (a / 10 ^ j) ≤ 0 := by omega
      have k4 : (digs a j).isEmpty = true := by rw [k3]; rfl
      clear z k3
      go_wp2_with fail
      refine (rtenth_c (a / 10 ^ j) (d : Int) B.out.1 B.out.2 HD.out _).mono ?_
      rintro e w' ⟨rfl, rfl⟩
      rw [pow_div_succ]
      go_wp2_with fail
      rw [CD.out]
      exact ⟨⟨j + 1, by have := JT.out; omega, rfl, rfl, rfl⟩, by rw [strLeft_digs, strLeft_digs]; omega⟩
    · have E := Lib.hid (end_top a HA.out.1 j (by omega) HJ.out z)
      have k1' : hi (a / 10 ^ j) ≤ 0 := by omega
      have k2' : lo (a / 10 ^ j) ≤ 0 := by omega
      have k4 : (digs a j).isEmpty = false := by
        have := DL.out
        cases hq : digs a j with
        | nil => rw [hq] at this; simp at this; omega
        | cons x r => rfl
      clear z k3
      go_wp2_with fail
      go_ret
      exact ⟨by rw [E.out, digs_dec]; exact ret_nil _, (Below.refl _ _).alloc (Nat.le_refl _) _⟩

set_option maxRecDepth 100000 in
set_option maxHeartbeats 4000000 in
theorem rtext_neg (a : Int) (ha : IsW a) (h : a < 0) (w : World) :
    Calls Try.prog 40 #[Wd a] w fun e w' => e = .returned (.string ⟨(text a).toArray⟩) ∧ Below w.heap.size w w' := by
  rw [text_neg h]
  have h1 : hi a < 0 := by unfold hi; omega
  have e1 : IntKind.u64.wrap (hi (wr (-a))) = hi (-a) := by obtain ⟨x, y⟩ := ha; rw [u64w]; unfold hi wr; omega
  have e2 : lo (wr (-a)) = lo (-a) := by obtain ⟨x, y⟩ := ha; unfold lo wr; omega
  have HA := Lib.hid (show 0 ≤ -a ∧ -a < 340282366920938463463374607431768211456 by obtain ⟨_, y⟩ := ha; omega)
  have HW := Lib.hid ha
  clear ha h
  go_enter Try.func40, Try.ntmps40
  go_wp2_with fail
  refine (rless_any a (wr (-a)) HW.out rfl _).mono ?_
  rintro e w1 ⟨rfl, hb⟩
  have B0 := Lib.hid ((WBlk.new w a).below hb (by simp))
  have BB := Lib.hid ((own1 w _).step hb).1
  have c0 := B0.out.c0
  have c1 := B0.out.c1
  have z0 := B0.out.z0
  have z1 := B0.out.z1
  clear hb
  go_wp2_with fail
  have BW := Lib.hid (below_set2 BB.out (Nat.le_refl _) (wr (-a)))
  have q := B0.out.set2 (wr (-a))
  have q0 := q.c0
  have q1 := q.c1
  rw [e2] at q1
  rw [e2] at q0 BW
  clear c0 c1 z0 z1 q
  go_loop [4, 5, 6] (fun s4 s5 s6 => RTextRel (-a) s4 s5 s6) (fun _ _ s => strLeft s)
  case atStart => exact ⟨0, by omega, by simp, by simp, by simp [digs]⟩
  case round =>
    obtain ⟨j, hj, rfl, rfl, rfl⟩ := hrel
    have B := Lib.hid (show 0 ≤ (-a) / 10 ^ j ∧ (-a) / 10 ^ j < 340282366920938463463374607431768211456 from pow_div_bd _ j HA.out.1 HA.out.2)
    have dl := digs_length (-a) j
    have tj := top_39 (-a)
    have ql : (digs (-a) j).length ≤ 39 := by omega
    have j40 : j < 40 := by omega
    obtain ⟨d, hd⟩ : ∃ d : Nat, dg (-a) j = (d : Int) := ⟨(dg (-a) j).toNat, by have := dg_bd (-a) j; omega⟩
    have d9 : d < 10 := by have := dg_bd (-a) j; omega
    have HD := Lib.hid (show (-a) / 10 ^ j % 10 = (d : Int) from hd)
    have CD := Lib.hid (cat_digs (-a) j d hd d9)
    have HJ := Lib.hid hj
    have DL := Lib.hid dl
    have b1 : 0 ≤ hi ((-a) / 10 ^ j) := by have := B.out; unfold hi; omega
    have b2 := (lo_U64 ((-a) / 10 ^ j)).1
    clear hd hj dl tj
    by_cases k1 : 0 < hi ((-a) / 10 ^ j)
    · have JT := Lib.hid (more_top (-a) HA.out.1 HA.out.2 j (by intro e; rw [e] at k1; exact absurd k1 (by decide)))
      go_wp2_with fail
      refine (rtenth_c ((-a) / 10 ^ j) (d : Int) B.out.1 B.out.2 HD.out _).mono ?_
      rintro e w' ⟨rfl, rfl⟩
      rw [pow_div_succ]
      go_wp2_with fail
      rw [CD.out]
      exact ⟨⟨j + 1, by have := JT.out; omega, rfl, rfl, rfl⟩, by rw [strLeft_digs, strLeft_digs]; omega⟩
    by_cases k2 : 0 < lo ((-a) / 10 ^ j)
    · have JT := Lib.hid (more_top (-a) HA.out.1 HA.out.2 j (by intro e; rw [e] at k2; exact absurd k2 (by decide)))
      have k1' : hi ((-a) / 10 ^ j) ≤ 0 := by omega
      go_wp2_with fail
      refine (rtenth_c ((-a) / 10 ^ j) (d : Int) B.out.1 B.out.2 HD.out _).mono ?_
      rintro e w' ⟨rfl, rfl⟩
      rw [pow_div_succ]
      go_wp2_with fail
      rw [CD.out]
      exact ⟨⟨j + 1, by have := JT.out; omega, rfl, rfl, rfl⟩, by rw [strLeft_digs, strLeft_digs]; omega⟩
    have z : (-a) / 10 ^ j = 0 := by have := hl ((-a) / 10 ^ j); omega
    by_cases k3 : j = 0
    · have JT := Lib.hid (show j ≤ top (-a) 39 by omega)
      have k1' : hi ((-a) / 10 ^ j) ≤ 0 := by omega
      have k2' : lo ((-a) / 10 ^ j) ≤ 0 := by omega
      have k4 : (digs (-a) j).isEmpty = true := by rw [k3]; rfl
      clear z k3
      go_wp2_with fail
      refine (rtenth_c ((-a) / 10 ^ j) (d : Int) B.out.1 B.out.2 HD.out _).mono ?_
      rintro e w' ⟨rfl, rfl⟩
      rw [pow_div_succ]
      go_wp2_with fail
      rw [CD.out]
      exact ⟨⟨j + 1, by have := JT.out; omega, rfl, rfl, rfl⟩, by rw [strLeft_digs, strLeft_digs]; omega⟩
    · have E := Lib.hid (end_top (-a) HA.out.1 j (by omega) HJ.out z)
      have k1' : hi ((-a) / 10 ^ j) ≤ 0 := by omega
      have k2' : lo ((-a) / 10 ^ j) ≤ 0 := by omega
      have k4 : (digs (-a) j).isEmpty = false := by
        have := DL.out
        cases hq : digs (-a) j with
        | nil => rw [hq] at this; simp at this; omega
        | cons x r => rfl
      clear z k3
      go_wp2_with fail
      go_ret
      exact ⟨by rw [E.out, digs_dec]; exact ret_cat _, BW.out⟩

/-- Text. -/
theorem rtext_any (a : Int) (ha : IsW a) (w : World) :
    Calls Try.prog 40 #[Wd a] w fun e w' => e = .returned (.string ⟨(text a).toArray⟩) ∧ Below w.heap.size w w' := by
  by_cases h : 0 ≤ a
  · exact rtext_pos a ha h w
  · exact rtext_neg a ha (by omega) w
end Go.Proofs.Ytinejcoajebdjaa
