/- A whole operation stored into its new variable. -/
import Derived.Test.YtdjajpookmmafaaXLoad
import Derived.Laws.Tables
namespace Go.Proofs.Ytdjajpookmmafaa
open Go.RowKit

theorem setRow_new (W : World) (old cells : Array Value) (t : TypeId) : (W.alloc (.cells old t)).setRow W.heap.size cells = W.alloc (.cells cells t) := by
  have hh : ((W.alloc (.cells old t)).setRow W.heap.size cells).heap = (W.alloc (.cells cells t)).heap := by
    apply Array.ext_getElem?
    intro i
    by_cases e : i = W.heap.size
    · subst e
      rw [setRow_heap _ _ old cells t (0, 0) (heap_alloc_new _ _)]
      exact (heap_alloc_new _ _).symm
    · rw [setRow_other _ _ _ _ e]
      show (W.heap.push _)[i]? = (W.heap.push _)[i]?
      rw [Array.getElem?_push, Array.getElem?_push, if_neg e, if_neg e]
  have h2 : (W.alloc (.cells old t)).setRow W.heap.size cells = { W.alloc (.cells cells t) with heap := ((W.alloc (.cells old t)).setRow W.heap.size cells).heap } := rfl
  rw [h2, hh]
set_option maxRecDepth 4000 in
theorem wpList_store_op {ops : Array Oper} {rest : List Oper} {op : Oper} {a : Act} {W : World} {Q : Exit → Act → World → Prop} {g : Nat} {old : Array Value} {t : TypeId} {x0 x1 x2 x3 x4 x5 x6 x7 x8 x9 x10 x11 x12 x13 x14 x15 x16 x17 x18 x19 x20 : Value} (x y : Operand) (ho : op.op = .store 35 x y) (hgd : op.guard = none) (hd : op.dst = none) (hx : a.eval x = .pointer (some ⟨g, 0, none⟩)) (hy : a.eval y = .agg #[x0, x1, x2, x3, x4, x5, x6, x7, x8, x9, x10, x11, x12, x13, x14, x15, x16, x17, x18, x19, x20]) (hg : W.heap.size = g) (hold : old.size = 21) (h1 : #[x0, x1, x2, x3, x4, x5, x6, x7, x8, x9, x10, x11, x12, x13, x14, x15, x16, x17, x18, x19, x20].all (·.oneCell') = true)
    (hk : wpList Try.prog ops Q rest a (W.alloc (.cells #[x0, x1, x2, x3, x4, x5, x6, x7, x8, x9, x10, x11, x12, x13, x14, x15, x16, x17, x18, x19, x20] t))) : wpList Try.prog ops Q (op :: rest) a (W.alloc (.cells old t)) := by
  subst hg
  obtain ⟨d, h3, h4, h5⟩ := op_row
  refine wpList_store_row hgd 35 x y ho W.heap.size _ hx hy t old (heap_alloc_new _ _) h5 hold h1 ?_
  rw [setRow_new, hd]
  exact hk

end Go.Proofs.Ytdjajpookmmafaa
