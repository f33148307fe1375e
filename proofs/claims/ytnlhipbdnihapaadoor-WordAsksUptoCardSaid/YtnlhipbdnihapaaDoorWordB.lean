/- Contracts of the document's answers for layer 2: words, lines, the same, joined. -/
import Derived.Test.YtnlhipbdnihapaaDoorWordA
import Derived.BigQuiet
namespace Go.Proofs.YtnlhipbdnihapaaDoor.Word
open Go.RowKit

theorem bcell {W w1 : World} (hb : Below W.heap.size W w1) : (∀ b o, b < W.heap.size → w1.cell? ⟨b, o, none⟩ = W.cell? ⟨b, o, none⟩) ∧ (∀ b o, b < W.heap.size → w1.frozen? ⟨b, o, none⟩ = W.frozen? ⟨b, o, none⟩) :=
  ⟨fun b o h => hb.cell (p := ⟨b, o, none⟩) h, fun b o h => hb.frozen (p := ⟨b, o, none⟩) h⟩
theorem chain2 {w w1 w2 : World} (h1 : Below w.heap.size w w1) (h2 : Below w1.heap.size w1 w2) : Below w.heap.size w w2 := h1.trans (h2.mono h1.size)

/-- A []string below block B that reads as xs: nil, or a row. -/
def Strs (w : World) (B : Nat) (a : Option Addr) (xs : List Bytes) : Prop :=
  0 < xs.length → ∃ b off, a = some ⟨b, off, none⟩ ∧ b < B ∧ ∀ i (h : i < xs.length), w.cell? ⟨b, off + i, none⟩ = some (str xs[i])
theorem Strs.later {w w' : World} {B : Nat} {a : Option Addr} {xs : List Bytes} (h : Strs w B a xs) (hB : B ≤ w.heap.size) (hb : Below w.heap.size w w') : Strs w' w'.heap.size a xs := by
  intro hn
  obtain ⟨b, off, e, hlt, hc⟩ := h hn
  have := hb.size
  exact ⟨b, off, e, by omega, fun i hi => (hb.cell (p := ⟨b, off + i, none⟩) (by show b < _; omega)).trans (hc i hi)⟩
theorem Strs.init {w : World} {B : Nat} {a : Option Addr} {xs : List Bytes} {x : Bytes} (h : Strs w B a (xs ++ [x])) : Strs w B a xs := by
  intro hn
  obtain ⟨b, off, e, hb, hc⟩ := h (by simp)
  refine ⟨b, off, e, hb, fun i hi => ?_⟩
  have q := hc i (by simp; omega)
  rw [List.getElem_append_left hi] at q
  exact q
theorem own_strs {w : World} {base n : Nat} {v : Value} {xs : List Bytes} (h : w.ownsRow base 9 1 v n (xs.map str)) : xs.length = n ∧ ∃ A cap, v = .slice A n cap ∧ n ≤ cap ∧ cap ≤ maxLen ∧ Strs w w.heap.size A xs := by
  obtain ⟨hl, hr⟩ := h
  have hn : xs.length = n := by simpa using hl
  refine ⟨hn, ?_⟩
  rcases hr with ⟨rfl, rfl⟩ | ⟨g, cap, cur, rfl, _, hg, hc, hm, hs, ht⟩
  · exact ⟨none, 0, rfl, Nat.le_refl _, by simp, fun h => absurd h (by omega)⟩
  · refine ⟨some ⟨g, 0, none⟩, cap, rfl, hc, hm, fun h => ⟨g, 0, rfl, ?_, fun i hi => ?_⟩⟩
    · rcases Nat.lt_or_ge g w.heap.size with hlt | hge
      · exact hlt
      · rw [Array.getElem?_eq_none hge] at hg; cases hg
    · rw [Nat.zero_add, cell_of_row w g i cur _ (0, 0) hg]
      have e : (cur.toList.take (n * 1))[i]? = (xs.map str)[i]? := by rw [ht]
      rw [List.getElem?_take_of_lt (by omega)] at e
      simp at e
      rw [e]
      simp [List.getElem?_eq_getElem hi]

/-- What a call that tells a []string does. -/
def TellsStrs (xs : List Bytes) (w : World) (e : Ending) (w' : World) : Prop :=
  ∃ A cap, e = .returned (.slice A xs.length cap) ∧ xs.length ≤ cap ∧ cap ≤ maxLen ∧ Strs w' w'.heap.size A xs ∧ Below w.heap.size w w'

theorem words_any (l : Bytes) (hl : l.length ≤ 1048576) (w : World) :
    Calls Tryd.prog 25 #[str l] w (TellsStrs (wordsB l) w) := by
  go_enter Tryd.func25, Tryd.ntmps25
  go_wp2_with fail
  refine (cut_any 32 l hl _).mono ?_
  rintro e w' ⟨v, rfl, ho, hb⟩
  obtain ⟨_, A, cap, rfl, h1, h2, h3⟩ := own_strs ho
  go_wp2_with fail
  go_ret
  exact ⟨A, cap, rfl, h1, h2, h3, hb⟩

theorem sl_all (A : Option Addr) (n cap : Nat) (hn : n + 1 ≤ cap) (w : World) :
    (Instr.slice 22 (.slice A (n + 1) cap) none (some (.int .i64 (n : Int))) none).run Tryd.prog w = .ok (.slice A n cap) w := by
  have hs : (sizeOf (Tryd.prog.elem 22)).run Tryd.prog w = .ok 1 w := by kernel_rfl
  have hu : Tryd.prog.underlying 22 = some (.slice (Tryd.prog.elem 22)) := by kernel_rfl
  rw [run_slice_h w _ A (n + 1) cap hu .i64 (n : Int) (by omega) (by omega), hs]
  have e : (A.map (·.add 0)) = A := by cases A <;> simp [Addr.add]
  simp only [Result.andThen, sliced, Nat.zero_mul, Int.toNat_natCast, Nat.sub_zero, e]
  simp

theorem lines_any (l : Bytes) (hl : l.length ≤ 1048576) (w : World) :
    Calls Tryd.prog 24 #[str l] w (TellsStrs (linesB l) w) := by
  have HL := Lib.hid (show linesB l = if rest 10 l = [] then parts 10 l else cutB 10 l from rfl)
  go_enter Tryd.func24, Tryd.ntmps24
  go_wp2_with fail
  refine (cut_any 10 l hl _).mono ?_
  rintro e w' ⟨v, rfl, ho, hb⟩
  have hlen : (cutB 10 l).length = (parts 10 l).length + 1 := by simp [cutB]
  obtain ⟨_, A, cap, rfl, h1, h2, h3⟩ := own_strs ho
  obtain ⟨b, off, hA, hblt, hc⟩ := h3 (by omega)
  have hlast := hc (parts 10 l).length (by omega)
  rw [show (cutB 10 l)[(parts 10 l).length]'(by omega) = rest 10 l by simp [cutB]] at hlast
  rw [hlen] at h1 ⊢
  have S := Lib.hid h3
  have HB := Lib.hid hb
  have HA := Lib.hid hA
  have HM := Lib.hid h2
  clear hc ho hb hA h3 h2 hlen
  have sl := sl_all A (parts 10 l).length cap h1 w'
  rw [HA.out] at sl ⊢
  have pl := parts_len 10 l
  by_cases hr : rest 10 l = []
  · rw [hr] at hlast
    go_wp2_with fail
    go_ret
    refine ⟨A, cap, ?_, ?_, HM.out, ?_, HB.out⟩
    · rw [HL.out, if_pos hr, HA.out]; rfl
    · rw [HL.out, if_pos hr]; omega
    · rw [HL.out, if_pos hr]; exact Strs.init S.out
  · have hne : (rest 10 l).isEmpty = false := by cases h : rest 10 l with
      | nil => exact absurd h hr
      | cons x r => rfl
    go_wp2_with fail
    go_ret
    refine ⟨A, cap, ?_, ?_, HM.out, ?_, HB.out⟩
    · rw [HL.out, if_neg hr, HA.out, show (cutB 10 l).length = (parts 10 l).length + 1 by simp [cutB]]; rfl
    · rw [HL.out, if_neg hr]; simp [cutB]; omega
    · rw [HL.out, if_neg hr]; exact S.out
end Go.Proofs.YtnlhipbdnihapaaDoor.Word
