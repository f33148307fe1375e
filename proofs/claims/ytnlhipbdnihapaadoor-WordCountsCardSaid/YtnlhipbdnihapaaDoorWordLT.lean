/- What the landed layer 2 does, as contracts: what the library's variables hold; texts, words, joins. -/
import Derived.Test.YtnlhipbdnihapaaDoorShelf
import Derived.Test.YtnlhipbdnihapaaDoorWordLC
import Derived.Lib.SmallJoins
import Derived.Lib.AppendIntMem
namespace Go.Proofs.YtnlhipbdnihapaaDoor.Word
open Go.RowKit

/-- What the library's own variables hold: the powers of ten, an error, some number. -/
def Lw (w : World) : Prop :=
  Lib.TabIs Tryd.prog w "internal/strconv.uint64pow10" .u64 Lib.pow10Tab ∧ (∃ tp p, w.var? Tryd.prog "strconv.ErrRange" = some #[.iface tp p]) ∧ ∃ m, w.cell? ⟨3, 0, none⟩ = some (.int .i64 m)
theorem gTab : Tryd.prog.globalNamed "internal/strconv.uint64pow10" = some 0 := by kernel_rfl
theorem gErr : Tryd.prog.globalNamed "strconv.ErrRange" = some 2 := by kernel_rfl
theorem Lw.later {w w' : World} (h : Lw w) (hb : Below w.heap.size w w') : Lw w' := by
  obtain ⟨h1, ⟨tp, p, h2⟩, m, h3⟩ := h
  refine ⟨Go.Joins.tab_stays gTab h1 hb (Nat.le_refl _), ⟨tp, p, Go.Joins.var_stays gErr h2 hb (Nat.le_refl _)⟩, m, ?_⟩
  exact (hb.cell (p := ⟨3, 0, none⟩) (World.block_lt_of_cell? w _ h3)).trans h3

theorem ltext_any (n : Int) (h0 : -9223372036854775808 ≤ n) (h1 : n ≤ 9223372036854775807) (w : World) (hL : Lw w) : Calls Tryd.prog 13 #[.int .i64 n] w fun e w' => e = .returned (str (textB n)) ∧ Below w.heap.size w w' := by
  have C := Lib.hid (Tryd.strconv_FormatInt_10 n h0 h1 w hL.1)
  rw [itoa_eq n h0 h1] at C
  go_enter Tryd.func13, Tryd.ntmps13
  go_wp2_with (go_at_call 26; refine C.out.mono ?_; rintro e w' ⟨rfl, k, os, rfl⟩)
  go_ret
  exact ⟨rfl, Lib.below_grow _ _ (Nat.le_refl _) _ _⟩

theorem strs_row (w : World) (t : TypeId) (xs : List Bytes) : Strs (w.alloc (.cells (xs.map str).toArray t)) (w.alloc (.cells (xs.map str).toArray t)).heap.size (some ⟨w.heap.size, 0, none⟩) xs := by
  intro h
  refine ⟨w.heap.size, 0, rfl, by simp, fun i hi => ?_⟩
  rw [Nat.zero_add, cell_of_row (w.alloc (.cells (xs.map str).toArray t)) w.heap.size i (xs.map str).toArray t (0, 0) (by show (w.heap.push _)[w.heap.size]? = _; simp)]
  simp [hi]

theorem split_any (c : UInt8) (l : Bytes) (hl : l.length ≤ 1048576) (w : World) (hL : Lw w) : Calls Tryd.prog 31 #[str l, .string ⟨#[c]⟩] w (TellsStrs (cutB c l) w) := by
  obtain ⟨_, _, m, hm⟩ := hL
  refine (Tryd.strings_Split ⟨l.toArray⟩ ⟨#[c]⟩ m w (by simp [ByteArray.size]; omega) hm (Nat.le_refl 1)).mono ?_
  rintro e w' ⟨rfl, rfl⟩
  rw [splitB_cut, countB_cut]
  have hc : (cutB c l).length ≤ l.length + 1 := by
    have := parts_len c l
    unfold cutB
    simp; omega
  exact ⟨_, _, rfl, Nat.le_refl _, by unfold maxLen; omega, strs_row w _ (cutB c l), (Below.refl _ _).alloc (Nat.le_refl _) _⟩

theorem lwords_any (l : Bytes) (hl : l.length ≤ 1048576) (w : World) (hL : Lw w) : Calls Tryd.prog 19 #[str l] w (TellsStrs (wordsB l) w) := by
  have C := Lib.hid (split_any 32 l hl w hL)
  go_enter Tryd.func19, Tryd.ntmps19
  go_wp2_with (go_at_call 31; refine C.out.mono ?_; rintro e w' ⟨A, cap, rfl, h1, h2, h3, h4⟩)
  go_ret
  exact ⟨A, cap, rfl, h1, h2, h3, h4⟩

theorem join_lib (a : Option Addr) (xs : List Bytes) (n c : Nat) (b : Bytes) (hn : xs.length = n) (hcap : n ≤ c) (hb : (joinB b xs).length ≤ 1073741824) (hx : xs.length ≤ 140737488355328) (w : World) (ha : Strs w w.heap.size a xs) :
    Calls Tryd.prog 27 #[.slice a n c, str b] w fun e w' => e = .returned (str (joinB b xs)) ∧ Below w.heap.size w w' := by
  subst hn
  by_cases h0 : 0 < xs.length
  · obtain ⟨bk, off, rfl, hlt, hc⟩ := ha h0
    have e : (xs.map fun x => (⟨x.toArray⟩ : ByteArray)).map (·.data.toList) = xs := by
      rw [List.map_map]
      exact List.map_id' _
    have h := Tryd.strings_Join bk off c (xs.map fun x => (⟨x.toArray⟩ : ByteArray)) ⟨b.toArray⟩ w (by
      intro j x hj
      obtain ⟨hj1, hj2⟩ := List.getElem?_eq_some_iff.1 hj
      rw [List.getElem_map] at hj2
      rw [← hj2]
      exact hc j (by simpa using hj1)) hlt (by simpa using hx) (by simpa using hcap) (by
      rw [e]
      show (Lib.join xs b).length ≤ _
      rw [join_eq]
      omega)
    rw [e, List.length_map] at h
    refine h.mono ?_
    rintro e w' ⟨rfl, hbl⟩
    refine ⟨?_, hbl⟩
    show Ending.returned (.string ⟨(Lib.join xs b).toArray⟩) = _
    rw [join_eq]
  · have : xs = [] := List.length_eq_zero_iff.1 (by omega)
    subst this
    refine (Tryd.strings_Join_none a c ⟨b.toArray⟩ w).mono ?_
    rintro e w' ⟨rfl, rfl⟩
    exact ⟨rfl, Below.refl _ _⟩

theorem ljoin_any (a : Option Addr) (xs : List Bytes) (n c : Nat) (b : Bytes) (hn : xs.length = n) (hcap : n ≤ c) (hb : ∀ k, k ≤ xs.length → (joinB b (xs.take k)).length + b.length ≤ 1073741824) (hx : xs.length ≤ 140737488355328) (w : World) (ha : Strs w w.heap.size a xs) :
    Calls Tryd.prog 15 #[.slice a n c, str b] w fun e w' => e = .returned (str (joinB b xs)) ∧ Below w.heap.size w w' := by
  have hj := hb xs.length (Nat.le_refl _)
  rw [List.take_length] at hj
  have C := Lib.hid (join_lib a xs n c b hn hcap (by omega) hx w ha)
  clear hn hb hj ha
  go_enter Tryd.func15, Tryd.ntmps15
  go_wp2_with (go_at_call 27; refine C.out.mono ?_; rintro e w' ⟨rfl, h1⟩)
  go_ret
  exact ⟨rfl, h1⟩
end Go.Proofs.YtnlhipbdnihapaaDoor.Word
