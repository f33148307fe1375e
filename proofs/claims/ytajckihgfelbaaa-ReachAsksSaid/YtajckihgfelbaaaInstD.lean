/- Contracts of the document's answers for layer 3: the same instances. -/
import Derived.Test.YtajckihgfelbaaaInstC
namespace Go.Proofs.Ytajckihgfelbaaa.Inst
open Go.RowKit

theorem neq_arc (x y : ArcD) (w : World) : (binOp .neq 36 (aggV x) (aggV y)).run Try.prog w = .ok (.bool (!decide (x = y))) w := by
  have hf : Try.prog.underlying 36 = some (.struct (Try.prog.fieldsOf 36)) := by kernel_rfl
  have u3 := Try.underlying3
  have u2 := Try.underlying2
  rw [run_neq_struct, run_equalIn_agg w 9999 _ _ _ hf (by kernel_rfl)]
  simp [Program.fieldsOf, Try.underlying36, Op.eqFields, go_sem]
  cases x; cases y
  simp only [ArcD.mk.injEq]
  (repeat' split) <;> simp_all
theorem eql_arc (x y : ArcD) (w : World) : (binOp .eql 36 (aggV x) (aggV y)).run Try.prog w = .ok (.bool (decide (x = y))) w := by
  have hf : Try.prog.underlying 36 = some (.struct (Try.prog.fieldsOf 36)) := by kernel_rfl
  have u3 := Try.underlying3
  have u2 := Try.underlying2
  rw [run_eql_struct, run_equalIn_agg w 9999 _ _ _ hf (by kernel_rfl)]
  simp [Program.fieldsOf, Try.underlying36, Op.eqFields, go_sem]
  cases x; cases y
  simp only [ArcD.mk.injEq]
  (repeat' split) <;> simp_all

end Go.Proofs.Ytajckihgfelbaaa.Inst
