/- Contracts of the document's answers for layer 2: is it a number's word; the number of it. -/
import Derived.Test.YtnlhipbdnihapaaDoorWordD
namespace Go.Proofs.YtnlhipbdnihapaaDoor.Word
open Go.RowKit

def isDig (x : UInt8) : Bool := decide (48 ≤ x.toNat) && decide (x.toNat ≤ 57)
/-- What is behind the sign, if there is one. -/
def formD (d : Bytes) : Bool := d.all isDig && decide (d ≠ []) && decide (d.head? ≠ some 48)
def formB (l : Bytes) : Bool := decide (l = [48]) || (if l.head? = some 45 then formD (l.drop 1) else formD l)

theorem all_take (l : Bytes) (k : Nat) (h : k < l.length) (p : UInt8 → Bool) (ha : (l.take k).all p = true) (hk : p l[k] = true) : (l.take (k + 1)).all p = true := by
  rw [List.take_succ_eq_append_getElem h, List.all_append, ha]
  simp [hk]
theorem all_no (l : Bytes) (k : Nat) (h : k < l.length) (p : UInt8 → Bool) (hk : p l[k] = false) : l.all p = false := by
  rw [Bool.eq_false_iff]
  intro q
  rw [List.all_eq_true] at q
  have := q l[k] (List.getElem_mem h)
  rw [hk] at this
  cases this

theorem formD_end (l : Bytes) (hn : 0 < l.length) (ha : l.all isDig = true) : formD l = (((⟨l.toArray⟩ : ByteArray)[0].toNat : Int) != 48) := by
  rw [byte_get l 0 hn]
  match l, hn, ha with
  | x :: r, _, ha =>
    unfold formD
    rw [ha, show decide (x :: r ≠ []) = true by simp]
    by_cases h : x = 48
    · subst h; rfl
    · rw [show decide ((x :: r).head? ≠ some 48) = true from decide_eq_true (by simpa using h)]
      symm
      show (((x.toNat : Int) != 48) = true)
      rw [bne_iff_ne]
      intro q
      apply h
      exact UInt8.toNat_inj.1 (by have : (48 : UInt8).toNat = 48 := rfl
                                  omega)

/-- What holds at the head of form's loop. -/
def FormRel (l : Bytes) (s : Value) : Prop := ∃ k : Nat, k ≤ l.length ∧ s = .int .i64 (k : Int) ∧ (l.take k).all isDig = true

set_option maxHeartbeats 1000000 in
theorem form_pos (l : Bytes) (hl : l.length ≤ 1048576) (hn : 0 < l.length) (h0 : l ≠ [48]) (h1 : l[0] ≠ 45) (w : World) :
    Calls Tryd.prog 34 #[str l] w fun e w' => e = .returned (.bool (formD l)) ∧ w = w' := by
  have f1 : (l == [48]) = false := by simp [h0]
  have f2 : l.isEmpty = false := by cases l with
    | nil => simp at hn
    | cons x r => rfl
  have f3 : (((⟨l.toArray⟩ : ByteArray)[0].toNat : Int) == 45) = false := by
    rw [byte_get l 0 hn, beq_eq_false_iff_ne]
    intro q
    apply h1
    exact UInt8.toNat_inj.1 (by have : (45 : UInt8).toNat = 45 := rfl
                                omega)
  clear h0 h1
  go_enter Tryd.func34, Tryd.ntmps34
  go_wp2_with fail
  have HD := Lib.hid (show formD l = (l.all isDig && true && decide (l.head? ≠ some 48)) by unfold formD; rw [show decide (l ≠ []) = true by cases l with
    | nil => simp at hn
    | cons x r => simp])
  go_loop [3] (fun q => FormRel l q) (fun q => l.length - (intOf q).toNat)
  case atStart => exact ⟨0, by omega, rfl, by simp⟩
  case round =>
    obtain ⟨k, hk, rfl, ht⟩ := hrel
    have HT := Lib.hid ht
    clear ht
    by_cases hlt : k < l.length
    · have bg := byte_get l k hlt
      by_cases c1 : l[k].toNat < 48
      · have t1 : (((⟨l.toArray⟩ : ByteArray)[k].toNat : Int) < 48) := by rw [bg]; omega
        have D := Lib.hid (all_no l k hlt isDig (by unfold isDig; rw [show decide (48 ≤ l[k].toNat) = false from decide_eq_false (by omega)]; rfl))
        clear bg c1
        go_wp2_with fail
        go_ret
        exact ⟨by rw [HD.out, D.out]; rfl, rfl⟩
      · have t1 : ¬ (((⟨l.toArray⟩ : ByteArray)[k].toNat : Int) < 48) := by rw [bg]; omega
        by_cases c2 : 57 < l[k].toNat
        · have t2 : ((57 : Int) < ((⟨l.toArray⟩ : ByteArray)[k].toNat : Int)) := by rw [bg]; omega
          have D := Lib.hid (all_no l k hlt isDig (by unfold isDig; rw [show decide (l[k].toNat ≤ 57) = false from decide_eq_false (by omega), Bool.and_false]))
          clear bg c1 c2
          go_wp2_with fail
          go_ret
          exact ⟨by rw [HD.out, D.out]; rfl, rfl⟩
        · have t2 : ¬ ((57 : Int) < ((⟨l.toArray⟩ : ByteArray)[k].toNat : Int)) := by rw [bg]; omega
          have D := Lib.hid (all_take l k hlt isDig HT.out (by unfold isDig; rw [decide_eq_true (by omega), decide_eq_true (by omega)]; rfl))
          clear bg c1 c2
          go_wp2_with fail
          exact ⟨⟨k + 1, by omega, by simp, D.out⟩, by simp [intOf]; omega⟩
    · obtain rfl : k = l.length := by omega
      have D := Lib.hid (show l.all isDig = true by have q := HT.out; rw [List.take_length] at q; exact q)
      go_wp2_with fail
      go_ret
      exact ⟨congrArg (fun b => Ending.returned (.bool b)) (formD_end l hn D.out).symm, rfl⟩

set_option maxHeartbeats 1000000 in
theorem form_neg (l r : Bytes) (hl : l.length ≤ 1048576) (e : l = 45 :: r) (w : World) :
    Calls Tryd.prog 34 #[str l] w fun e w' => e = .returned (.bool (formD r)) ∧ w = w' := by
  have hn : 0 < l.length := by rw [e]; simp
  have f1 : (l == [48]) = false := by rw [e]; simp
  have f2 : l.isEmpty = false := by rw [e]; rfl
  have f3 : (((⟨l.toArray⟩ : ByteArray)[0].toNat : Int) == 45) = true := by
    rw [byte_get l 0 hn, beq_iff_eq]
    simp only [e]
    rfl
  have f4 : (⟨l.toArray⟩ : ByteArray).extract 1 l.length = ⟨r.toArray⟩ := by rw [extract_eq, e]; simp
  have hr : r.length ≤ 1048576 := by rw [e] at hl; simp at hl; omega
  clear e
  go_enter Tryd.func34, Tryd.ntmps34
  go_wp2_with fail
  go_loop [3] (fun q => FormRel r q) (fun q => r.length - (intOf q).toNat)
  case atStart => exact ⟨0, by omega, rfl, by simp⟩
  case round =>
    obtain ⟨k, hk, rfl, ht⟩ := hrel
    have HT := Lib.hid ht
    clear ht f1 f2 f3 f4
    by_cases hlt : k < r.length
    · have bg := byte_get r k hlt
      by_cases c1 : r[k].toNat < 48
      · have t1 : (((⟨r.toArray⟩ : ByteArray)[k].toNat : Int) < 48) := by rw [bg]; omega
        have D := Lib.hid (all_no r k hlt isDig (by unfold isDig; rw [show decide (48 ≤ r[k].toNat) = false from decide_eq_false (by omega)]; rfl))
        clear bg c1
        go_wp2_with fail
        go_ret
        exact ⟨by rw [formD, D.out]; rfl, rfl⟩
      · have t1 : ¬ (((⟨r.toArray⟩ : ByteArray)[k].toNat : Int) < 48) := by rw [bg]; omega
        by_cases c2 : 57 < r[k].toNat
        · have t2 : ((57 : Int) < ((⟨r.toArray⟩ : ByteArray)[k].toNat : Int)) := by rw [bg]; omega
          have D := Lib.hid (all_no r k hlt isDig (by unfold isDig; rw [show decide (r[k].toNat ≤ 57) = false from decide_eq_false (by omega), Bool.and_false]))
          clear bg c1 c2
          go_wp2_with fail
          go_ret
          exact ⟨by rw [formD, D.out]; rfl, rfl⟩
        · have t2 : ¬ ((57 : Int) < ((⟨r.toArray⟩ : ByteArray)[k].toNat : Int)) := by rw [bg]; omega
          have D := Lib.hid (all_take r k hlt isDig HT.out (by unfold isDig; rw [decide_eq_true (by omega), decide_eq_true (by omega)]; rfl))
          clear bg c1 c2
          go_wp2_with fail
          exact ⟨⟨k + 1, by omega, by simp, D.out⟩, by simp [intOf]; omega⟩
    · obtain rfl : k = r.length := by omega
      have D := Lib.hid (show r.all isDig = true by have q := HT.out; rw [List.take_length] at q; exact q)
      by_cases hz : r.length = 0
      · have z : r.isEmpty = true := by cases r with
          | nil => rfl
          | cons x r => simp at hz
        have Z := Lib.hid (show r = [] by cases r with
          | nil => rfl
          | cons x r => simp at hz)
        go_wp2_with fail
        go_ret
        exact ⟨by rw [Z.out]; rfl, rfl⟩
      · have z : r.isEmpty = false := by cases r with
          | nil => simp at hz
          | cons x r => rfl
        have hn2 : 0 < r.length := by omega
        go_wp2_with fail
        go_ret
        exact ⟨congrArg (fun b => Ending.returned (.bool b)) (formD_end r hn2 D.out).symm, rfl⟩

theorem form_zero (w : World) : Calls Tryd.prog 34 #[str [48]] w fun e w' => e = .returned (.bool true) ∧ w = w' := by
  go_enter Tryd.func34, Tryd.ntmps34
  go_wp2_with fail
  go_ret
  exact ⟨rfl, rfl⟩
theorem form_none (w : World) : Calls Tryd.prog 34 #[str []] w fun e w' => e = .returned (.bool false) ∧ w = w' := by
  go_enter Tryd.func34, Tryd.ntmps34
  go_wp2_with fail
  go_loop [3] (fun q => q = .int .i64 0) (fun q => 0)
  case atStart => rfl
  case round =>
    subst hrel
    go_wp2_with fail
    go_ret
    exact ⟨rfl, rfl⟩
/-- form. -/
theorem form_any (l : Bytes) (hl : l.length ≤ 1048576) (w : World) : Calls Tryd.prog 34 #[str l] w fun e w' => e = .returned (.bool (formB l)) ∧ w = w' := by
  by_cases h0 : l = [48]
  · subst h0; exact form_zero w
  · unfold formB
    rw [decide_eq_false h0, Bool.false_or]
    match l, hl, h0 with
    | [], _, _ => exact form_none w
    | x :: r, hl, h0 =>
      by_cases hx : x = 45
      · subst hx
        exact form_neg _ r hl rfl w
      · rw [if_neg (by simp [hx])]
        exact form_pos (x :: r) hl (by simp) h0 hx w
end Go.Proofs.YtnlhipbdnihapaaDoor.Word
