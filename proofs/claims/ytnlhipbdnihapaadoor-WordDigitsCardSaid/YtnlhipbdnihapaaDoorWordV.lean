/- What the rows' list gives the walks, and a world that meets it. -/
import Derived.Test.YtnlhipbdnihapaaDoorWordLT
import Derived.Deep.DeepHandedRow
import Derived.Deep.DeepWitnessRowRef
import Derived.Lib.LaidTab
import Derived.Stop.LaidErr
import Derived.LaidMore
import Derived.Lay
import Derived.Shelf.Vars
import Derived.MakeChecks
namespace Go.Proofs.YtnlhipbdnihapaaDoor.Word
open Go.ChangeShapes Go.WideShapes Go.ChangeAt Go.RowKit

/-- The list that each row of this folder bears. -/
abbrev listed : List (String × DataW Unit) := Rows.wordAsksRow.laid
theorem star : "*" ++ "errors.errorString" = "*errors.errorString" := by decide
theorem row_err (u : TypeId) (h : Tryd.prog.typeName? 3 u = some "*errors.errorString") : u = 104 :=
  typeName_ptr_named (nm := "errors.errorString") (by rw [star]; kernel_rfl) (by kernel_rfl) (by decide) u (by rw [star]; exact h)
theorem typ_tab : (Tryd.prog.globals[0]?).map (·.type) = some 88 := by kernel_rfl
theorem typ_err : (Tryd.prog.globals[2]?).map (·.type) = some 48 := by kernel_rfl
theorem cells_u64 : Tryd.prog.cellsOf 68 = 1 := by kernel_rfl
theorem cells_tab : Tryd.prog.cellsOf 88 = 20 := by kernel_rfl
theorem cells_es : Tryd.prog.cellsOf 106 = 1 := by kernel_rfl
theorem cells_s : Tryd.prog.cellsOf 9 = 1 := by kernel_rfl
theorem tab_lib : (Rows.laid_internal_strconv_uint64pow10 : DataW Unit) = Lib.tabData .u64 Lib.pow10Tab := by kernel_rfl

theorem lw_of {W : World} (h : laidMetH Tryd.prog listed W) (hsh : W.ShapedOpen Tryd.prog) : Lw W := by
  rw [MakeChecks.laidMetH_plain _ _ _ (by kernel_rfl)] at h
  have h2 : laidMet Tryd.prog (("internal/strconv.uint64pow10", Lib.tabData .u64 Lib.pow10Tab) :: [("unicode/utf8.acceptRanges", Rows.laid_unicode_utf8_acceptRanges), ("strconv.ErrRange", Rows.laid_strconv_ErrRange), ("strconv.ErrSyntax", Rows.laid_strconv_ErrSyntax), ("unicode/utf8.first", Rows.laid_unicode_utf8_first)]) W := by
    rw [← tab_lib]
    exact h.tail.tail
  refine ⟨Lib.tabIs_of_head gTab typ_tab Tryd.underlying88 Tryd.underlying68 cells_u64 cells_tab h2, ?_, ?_⟩
  · obtain ⟨a, s, hv, _⟩ := laid_sentinel h2.tail.tail gErr typ_err Tryd.underlying48 row_err Tryd.underlying104 Tryd.underlying106 rfl rfl Tryd.underlying9 cells_es cells_s
    exact ⟨_, _, hv⟩
  · exact cell_of_shapedOpen_int (g := 3) (t := 3) (zero := #[.int .i64 0]) hsh (of_decide_eq_true (by kernel_rfl)) (by kernel_rfl) rfl (by kernel_rfl) (by kernel_rfl) Tryd.underlying3

/-- A world that meets the list. -/
noncomputable abbrev startW (os : Os) : World := World.laidAll Tryd.prog os listed
theorem start_met (os : Os) (args : Array Value) : laidMet Tryd.prog listed ((startW os).forCall (fun _ _ => 0) ⟨#[], args, []⟩).memory :=
  laidMet_laidAll args (by kernel_rfl) (by kernel_rfl)
theorem start_metH (os : Os) (args : Array Value) : laidMetH Tryd.prog listed ((startW os).forCall (fun _ _ => 0) ⟨#[], args, []⟩).memory := by
  rw [MakeChecks.laidMetH_plain _ _ _ (by kernel_rfl)]
  exact start_met os args
theorem start_vars (os : Os) (args : Array Value) : ((startW os).forCall (fun _ _ => 0) ⟨#[], args, []⟩).variablesRefB Tryd.prog = true := by kernel_rfl
theorem start_heap (os : Os) (args : Array Value) : (((startW os).forCall (fun _ _ => 0) ⟨#[], args, []⟩).heap.toList.drop Tryd.prog.globals.size).take ((begin Tryd.prog (fun _ _ => 0) default).world.heap.size - Tryd.prog.globals.size) =
      (begin Tryd.prog (fun _ _ => 0) default).world.heap.toList.drop Tryd.prog.globals.size := by kernel_rfl
end Go.Proofs.YtnlhipbdnihapaaDoor.Word
