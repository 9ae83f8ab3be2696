/- A whole operation loaded, by its row. -/
import Derived.Test.YtdjajpookmmafaaXOps
import Derived.Deep.MidRow
namespace Go.Proofs.Ytdjajpookmmafaa
open Go.RowKit

theorem op_range {w : World} {g : Nat} {x0 x1 x2 x3 r4 r5 r6 r7 r8 r9 r10 r11 r12 r13 r14 r15 r16 r17 r18 r19 r20 : Value} {t : TypeId} (h : w.heap[g]? = some (.cells #[x0, x1, x2, x3, r4, r5, r6, r7, r8, r9, r10, r11, r12, r13, r14, r15, r16, r17, r18, r19, r20] t (0, 0))) : w.rangeAt g 0 [x0, x1, x2, x3, r4, r5, r6, r7, r8, r9, r10, r11, r12, r13, r14, r15, r16, r17, r18, r19, r20] := fun j v hv => by
  rw [Nat.zero_add, cell_of_row _ _ j _ t (0, 0) h]
  simpa using hv
set_option maxRecDepth 4000 in
theorem op_row : ∃ d, Try.prog.underlying 35 = some d ∧ d.isRow = true ∧ (Try.prog.info? 35).map (·.size) = some 21 := ⟨.struct (Try.prog.fieldsOf 35), by kernel_rfl, rfl, by kernel_rfl⟩
set_option maxRecDepth 4000 in
theorem wpList_load_op {ops : Array Oper} {rest : List Oper} {op : Oper} {a : Act} {w : World} {Q : Exit → Act → World → Prop} {g : Nat} {x0 x1 x2 x3 r4 r5 r6 r7 r8 r9 r10 r11 r12 r13 r14 r15 r16 r17 r18 r19 r20 : Value} {t : TypeId} (h : w.heap[g]? = some (.cells #[x0, x1, x2, x3, r4, r5, r6, r7, r8, r9, r10, r11, r12, r13, r14, r15, r16, r17, r18, r19, r20] t (0, 0)))
    (x : Operand) (ho : op.op = .load 35 x) (hgd : op.guard = none) (hx : a.eval x = .pointer (some ⟨g, 0, none⟩)) (hk : wpList Try.prog ops Q rest (a.put op.dst (.agg #[x0, x1, x2, x3, r4, r5, r6, r7, r8, r9, r10, r11, r12, r13, r14, r15, r16, r17, r18, r19, r20])) w) : wpList Try.prog ops Q (op :: rest) a w := by
  obtain ⟨d, h1, h2, h3⟩ := op_row
  exact wpList_load_mid hgd 35 x ho g 0 hx [x0, x1, x2, x3, r4, r5, r6, r7, r8, r9, r10, r11, r12, r13, r14, r15, r16, r17, r18, r19, r20] d (op_range h) h1 h2 h3 hk

end Go.Proofs.Ytdjajpookmmafaa
