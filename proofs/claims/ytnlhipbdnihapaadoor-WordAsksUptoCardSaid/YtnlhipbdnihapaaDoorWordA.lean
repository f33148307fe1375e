/- Contracts of the document's answers for layer 2: parts of a text. -/
import Derived.Test.YtnlhipbdnihapaaDoorRows
import Derived.Test.YtnlhipbdnihapaaDoorWordMath
import Derived.WalkKit
import Derived.WalkSpells
import Derived.WalkLawsBesides
import Derived.StillTactics
import Derived.Laws.Pointers
import Derived.Deep.RegionHeld3
import Derived.Deep.AppendLies
import Derived.Deep.DeepCutAuto
import Derived.OwnWalk
import Derived.BigQuiet
import Derived.Lib.Hide
import Derived.RowKit3
import Derived.Outline
namespace Go.Proofs.YtnlhipbdnihapaaDoor.Word
open Go.RowKit

theorem info_str : (Tryd.prog.info? 9).map (fun i => (i.zero, i.size, i.bytes)) = some (some (.string ByteArray.empty), 1, 16) := by kernel_rfl

theorem own_ge {w : World} {base n : Nat} {e : TypeId} {v : Value} {xs : List Value} (h : w.ownsRow base e 1 v n xs) : ∀ g, v.ownBlock = some g → base ≤ g := by
  intro g hg
  rcases h.2 with ⟨rfl, _⟩ | ⟨g', cap, cur, rfl, hge, _⟩
  · simp [Value.ownBlock] at hg
  · simp [Value.ownBlock] at hg
    omega
theorem byte_get (l : Bytes) (k : Nat) (h : k < l.length) : (⟨l.toArray⟩ : ByteArray)[k]'(by simpa [ByteArray.size] using h) = l[k] := rfl
theorem extract_eq (l : Bytes) (f k : Nat) : (⟨l.toArray⟩ : ByteArray).extract f k = ⟨((l.take k).drop f).toArray⟩ := by
  apply ByteArray.ext
  simp [List.drop_take]
theorem parts_len (c : UInt8) : ∀ l : Bytes, (parts c l).length ≤ l.length
  | [] => by simp [parts]
  | x :: r => by
    have h := parts_len c r
    unfold parts
    split
    · simpa using h
    · split
      · simp
      · rename_i p ps hp
        rw [hp] at h
        simp at h ⊢
        omega
theorem take_snoc (l : Bytes) (k : Nat) (h : k < l.length) : l.take (k + 1) = l.take k ++ [l[k]] := by rw [List.take_succ_eq_append_getElem h]
theorem cut_yes (c : UInt8) (l : Bytes) (k f : Nat) (h : k < l.length) (hx : l[k] = c) (hr : rest c (l.take k) = (l.take k).drop f) :
    Value.string ((⟨l.toArray⟩ : ByteArray).extract f k) = str (rest c (l.take k)) ∧ rest c (l.take (k + 1)) = (l.take (k + 1)).drop (k + 1) ∧ (parts c (l.take (k + 1))).length = (parts c (l.take k)).length + 1 ∧ (parts c (l.take (k + 1))).map str = (parts c (l.take k)).map str ++ [str (rest c (l.take k))] := by
  have e := parts_snoc_yes c (l.take k)
  rw [take_snoc l k h, hx, e.1, e.2]
  refine ⟨by rw [extract_eq, hr], ?_, by simp, by simp⟩
  rw [List.drop_eq_nil_of_le (by simp; omega)]
theorem cut_no (c : UInt8) (l : Bytes) (k f : Nat) (h : k < l.length) (hx : l[k] ≠ c) (hr : rest c (l.take k) = (l.take k).drop f) (hf : f ≤ k) :
    parts c (l.take (k + 1)) = parts c (l.take k) ∧ rest c (l.take (k + 1)) = (l.take (k + 1)).drop f := by
  have e := parts_snoc_no c l[k] hx (l.take k)
  rw [take_snoc l k h, e.1, e.2, hr]
  refine ⟨rfl, ?_⟩
  rw [List.drop_append_of_le_length (by rw [List.length_take]; omega)]
theorem cut_end (c : UInt8) (l : Bytes) (f : Nat) (hr : rest c (l.take l.length) = (l.take l.length).drop f) :
    Value.string ((⟨l.toArray⟩ : ByteArray).extract f l.length) = str (rest c (l.take l.length)) ∧ (cutB c l).length = (parts c (l.take l.length)).length + 1 ∧ (cutB c l).map str = (parts c (l.take l.length)).map str ++ [str (rest c (l.take l.length))] := by
  refine ⟨by rw [extract_eq, hr], ?_, ?_⟩
  · rw [List.take_length]; simp [cutB]
  · rw [List.take_length]; simp [cutB]

/-- What holds at the head of the loop. -/
def CutRel (w : World) (c : UInt8) (l : Bytes) (v s7 s6 : Value) (u : World) : Prop :=
  ∃ k f : Nat, k ≤ l.length ∧ s7 = .int .i64 (k : Int) ∧ s6 = .int .i64 (f : Int) ∧ f ≤ k ∧ rest c (l.take k) = (l.take k).drop f ∧
    u.ownsRow w.heap.size 9 1 v (parts c (l.take k)).length ((parts c (l.take k)).map str) ∧ Below w.heap.size w u

set_option maxRecDepth 100000 in
set_option maxHeartbeats 4000000 in
theorem cut_any (c : UInt8) (l : Bytes) (hl : l.length ≤ 1048576) (w : World) :
    Calls Tryd.prog 35 #[str l, .int .u8 (c.toNat : Int)] w fun e w' => ∃ v, e = .returned v ∧ w'.ownsRow w.heap.size 9 1 v (cutB c l).length ((cutB c l).map str) ∧ Below w.heap.size w w' := by
  obtain ⟨i0, hi0, hz0, hz1, hz2⟩ := info_parts info_str
  have G0 := Lib.hid hi0
  have G1 := Lib.hid hz0
  have G2 := Lib.hid hz1
  have G3 := Lib.hid hz2
  clear hi0 hz0 hz1 hz2
  go_enter Tryd.func35, Tryd.ntmps35
  go_wp2_with fail
  go_loopw [5, 7, 6] (fun v q f u => CutRel w c l v q f u) (fun _ q _ _ => l.length - (intOf q).toNat)
  case atStart => exact ⟨0, 0, by omega, rfl, rfl, by omega, by simp [rest], ⟨rfl, .inl ⟨rfl, rfl⟩⟩, Below.refl _ _⟩
  case round =>
    obtain ⟨k, f, hk, rfl, rfl, hf, hr, hown, hB⟩ := hrel
    have HR := Lib.hid hr
    have HO := Lib.hid hown
    have HB := Lib.hid hB
    clear hr hown hB
    by_cases hlt : k < l.length
    · have pl := parts_len c (l.take k)
      have tk : (l.take k).length ≤ k := List.length_take_le _ _
      have bs := HB.out.size
      by_cases hx : l[k] = c
      · have t : (((⟨l.toArray⟩ : ByteArray)[k].toNat : Int) == (c.toNat : Int)) = true := by
          rw [byte_get l k hlt, hx]; simp
        have HX := Lib.hid hx
        clear hx
        go_wp2_with (
          at_builtin
          refine wpList_append_own _ rfl _ _ 22 rfl w.heap.size 9 i0 _ 1 16 Tryd.underlying22 G0.out G1.out G2.out G3.out rfl (by decide) _ _ _ rfl (HO.out.alloc _) ⟨World.heap _ |>.size, 0, none⟩ 1 1 [.string ((⟨l.toArray⟩ : ByteArray).extract f k)] rfl rfl ?c1 ?c2 ?c3 ?c4 ?c5 ?_
          case c1 => exact cell_one_new _ _ _
          case c2 => simp [Value.oneCell']
          case c3 => simp only [maxLen]; omega
          case c4 => omega
          case c5 => simp; omega
          intro v1 u1 hown1 hgrow1 _)
        have E := cut_yes c l k f hlt HX.out HR.out
        rw [E.1] at hown1
        exact ⟨⟨k + 1, k + 1, by omega, by simp, by simp, by omega, E.2.1, by rw [E.2.2.1, E.2.2.2]; exact hown1, (HB.out.alloc bs _).grown hgrow1 (by simp; omega) (own_ge HO.out)⟩, by simp [intOf]; omega⟩
      · have t : (((⟨l.toArray⟩ : ByteArray)[k].toNat : Int) == (c.toNat : Int)) = false := by
          rw [byte_get l k hlt]; simp; intro h; apply hx; exact UInt8.toNat_inj.1 (by omega)
        have HX := Lib.hid hx
        clear hx
        go_wp2_with fail
        have E := cut_no c l k f hlt HX.out HR.out hf
        exact ⟨⟨k + 1, f, by omega, by simp, rfl, by omega, E.2, by rw [E.1]; exact HO.out, HB.out⟩, by simp [intOf]; omega⟩
    · obtain rfl : k = l.length := by omega
      have pl := parts_len c (l.take l.length)
      have tk : (l.take l.length).length ≤ l.length := List.length_take_le _ _
      have bs := HB.out.size
      go_wp2_with (
        at_builtin
        refine wpList_append_own _ rfl _ _ 22 rfl w.heap.size 9 i0 _ 1 16 Tryd.underlying22 G0.out G1.out G2.out G3.out rfl (by decide) _ _ _ rfl (HO.out.alloc _) ⟨World.heap _ |>.size, 0, none⟩ 1 1 [.string ((⟨l.toArray⟩ : ByteArray).extract f l.length)] rfl rfl ?c1 ?c2 ?c3 ?c4 ?c5 ?_
        case c1 => exact cell_one_new _ _ _
        case c2 => simp [Value.oneCell']
        case c3 => simp only [maxLen]; omega
        case c4 => omega
        case c5 => simp; omega
        intro v1 u1 hown1 hgrow1 _)
      go_ret
      have E := cut_end c l f HR.out
      rw [E.1] at hown1
      refine ⟨v1, rfl, ?_, (HB.out.alloc bs _).grown hgrow1 (by simp; omega) (own_ge HO.out)⟩
      rw [E.2.1, E.2.2]
      exact hown1
end Go.Proofs.YtnlhipbdnihapaaDoor.Word
