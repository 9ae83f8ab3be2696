/- Fields stored into a variable of an operation. -/
import Derived.Test.YtdjajpookmmafaaBCalls
namespace Go.Proofs.Ytdjajpookmmafaa
open Go.RowKit

def putAll (cs : Array Value) : Nat → List Value → Array Value
  | _, [] => cs
  | j, v :: r => putAll (cs.setIfInBounds j v) (j + 1) r
set_option maxRecDepth 4000 in
theorem setCells_row (g : Nat) (t : TypeId) : ∀ (vs : List Value) (j : Nat) (w : World) (cs : Array Value), w.heap[g]? = some (.cells cs t (0, 0)) → (w.setCells g j vs).heap[g]? = some (.cells (putAll cs j vs) t (0, 0)) ∧ Off g w (w.setCells g j vs)
  | [], j, w, cs, h => ⟨h, Off.refl g w⟩
  | v :: r, j, w, cs, h => by
    obtain ⟨h1, h2⟩ := setCells_row g t r (j + 1) _ _ (set_blk w g t cs j v h)
    have h3 : Off g w (w.setCell ⟨g, j, none⟩ v) := ⟨rfl, rfl, rfl, by show _ ≤ (w.heap.modify g _).size; simp, fun k _ hne => Below.heap_setCell w ⟨g, j, none⟩ v k (by simpa using hne)⟩
    exact ⟨h1, h3.trans h2⟩
set_option maxRecDepth 4000 in
theorem VarO.off {w w' : World} {g g' : Nat} {c : OC} (h : VarO w g c) (ho : Off g' w w') (hne : g ≠ g') : VarO w' g c := (ho.block g h.lt hne).trans h
set_option maxRecDepth 4000 in
theorem wpList_store_fld {ty : TypeId} {n : Nat} (hsz : (Try.prog.info? ty).map (·.size) = some n) {ops : Array Oper} {rest : List Oper} {op : Oper} {a : Act} {W : World} {Q : Exit → Act → World → Prop} {g : Nat} {c : OC} (h : VarO W g c) (x y : Operand) (ho : op.op = .store ty x y) (hgd : op.guard = none) (hd : op.dst = none)
    (j : Nat) (v : Value) (vs : List Value) (c' : OC) (hx : a.eval x = .pointer (some ⟨g, j, none⟩)) (hy : a.eval y = v) (hv : v.cells = vs.toArray) (hn : vs.length = n) (h1 : ∀ u ∈ vs, u.oneCell' = true) (hj : j + vs.length ≤ 21) (hc : putAll c.row j vs = c'.row)
    (hk : ∀ W', VarO W' g c' → Off g W W' → wpList Try.prog ops Q rest a W') : wpList Try.prog ops Q (op :: rest) a W := by
  have hcell : ∀ i, i < vs.length → (W.cell? ⟨g, j + i, none⟩).isSome = true ∧ W.frozen? ⟨g, j + i, none⟩ = false := fun i hi => by
    refine ⟨?_, h.thaw _⟩
    have hs : j + i < c.row.size := by rw [OC.size]; omega
    rw [h.cell (j + i) _ (Array.getElem?_eq_getElem hs)]
    rfl
  have hrun := run_storeCells_cells (P := Try.prog) g j vs 0 W (fun i hi => by simpa using (hcell i hi).1) (fun i hi => by simpa using (hcell i hi).2) h1
  have hst : (storeVar ty ⟨g, j, none⟩ v).run Try.prog W = .ok () (W.setCells g j vs) := by
    cases hq : Try.prog.info? ty with
    | none => simp [hq] at hsz
    | some i =>
      have hs : i.size = vs.length := by simp [hq] at hsz; omega
      simp only [Nat.add_zero] at hrun
      simp [storeVar, sizeOf, typeInfo, hq, hv, hs, hrun]
  refine wpList_plain hgd fun K hK => ?_
  unfold Oper.wp execOp
  simp only [ho, hx, hy, Instr.storeAt, Instr.sureAddr, Sem.run_bind, Sem.run_pure, Result.andThen_ok, hst]
  obtain ⟨r1, r2⟩ := setCells_row g _ vs j W _ h
  rw [hc] at r1
  exact hK _ _ (by rw [hd]; exact hk _ r1 r2)
set_option maxRecDepth 4000 in
/-- At a store, or a load, of a type: else it fails at once. -/
theorem gd_store {P : Program} {ops : Array Oper} {Q : Exit → Act → World → Prop} {dst : Option Nat} {ty : TypeId} {x y : Operand} {t : TypeId} {pos : String} {af : Array Edge} {rest : List Oper} {a : Act} {w : World} (h : wpList P ops Q ({ dst := dst, op := .store ty x y, type := t, pos := pos, after := af, guard := none } :: rest) a w) : wpList P ops Q ({ dst := dst, op := .store ty x y, type := t, pos := pos, after := af, guard := none } :: rest) a w := h
set_option maxRecDepth 4000 in
theorem gd_load {P : Program} {ops : Array Oper} {Q : Exit → Act → World → Prop} {dst : Option Nat} {ty : TypeId} {x : Operand} {t : TypeId} {pos : String} {af : Array Edge} {rest : List Oper} {a : Act} {w : World} (h : wpList P ops Q ({ dst := dst, op := .load ty x, type := t, pos := pos, after := af, guard := none } :: rest) a w) : wpList P ops Q ({ dst := dst, op := .load ty x, type := t, pos := pos, after := af, guard := none } :: rest) a w := h
set_option maxRecDepth 4000 in
theorem gd_loadg {P : Program} {ops : Array Oper} {Q : Exit → Act → World → Prop} {dst : Option Nat} {ty : TypeId} {x : Operand} {t : TypeId} {pos : String} {af : Array Edge} {gq : Nat × Bool} {rest : List Oper} {a : Act} {w : World} (h : wpList P ops Q ({ dst := dst, op := .load ty x, type := t, pos := pos, after := af, guard := some gq } :: rest) a w) : wpList P ops Q ({ dst := dst, op := .load ty x, type := t, pos := pos, after := af, guard := some gq } :: rest) a w := h
set_option maxRecDepth 4000 in
/-- A guarded load, its guard met. -/
theorem wpList_load_ocg {ops : Array Oper} {rest : List Oper} {op : Oper} {a : Act} {w : World} {Q : Exit → Act → World → Prop} {g : Nat} {c : OC} (h : VarO w g c)
    (x : Operand) (ho : op.op = .load 35 x) (hw : Region.wanted op (yielded ops a.tmps) = true) (hx : a.eval x = .pointer (some ⟨g, 0, none⟩)) (hk : wpList Try.prog ops Q rest (a.put op.dst (.agg c.row)) w) : wpList Try.prog ops Q (op :: rest) a w := by
  obtain ⟨d, h1, h2, h3⟩ := op_row
  refine wpList_step fun K hK => ?_
  rw [if_pos hw]
  exact wp_load_mid 35 x ho g 0 hx c.row.toList d h.range h1 h2 h3 (hK _ _ hk)
set_option maxRecDepth 4000 in
theorem run_load_f {ty : TypeId} {d : TypeDesc} (hu : Try.prog.underlying ty = some d) (hd : d.isRow = false) {w : World} {a : Addr} {v : Value} (hc : w.cell? a = some v) : (loadVar ty a).run Try.prog w = .ok v w := by
  have hagg : (isAgg ty).run Try.prog w = .ok false w := by
    unfold isAgg
    rw [Sem.run_bind, run_underlying hu w]
    cases d <;> simp_all
  simp [loadVar, Sem.run_bind, hagg, hc]
set_option maxRecDepth 4000 in
/-- Fields loaded out of a variable. -/
theorem wpList_load_f1 {ty : TypeId} {ops : Array Oper} {rest : List Oper} {op : Oper} {a : Act} {w : World} {Q : Exit → Act → World → Prop} {g : Nat} {c : OC} (h : VarO w g c) {j : Nat} {v : Value}
    (x : Operand) (ho : op.op = .load ty x) (hgd : op.guard = none) (hx : a.eval x = .pointer (some ⟨g, j, none⟩)) (hv : c.row[j]? = some v) {d : TypeDesc} (hu : Try.prog.underlying ty = some d) (hd : d.isRow = false) (hk : wpList Try.prog ops Q rest (a.put op.dst v) w) : wpList Try.prog ops Q (op :: rest) a w := by
  have hc := h.cell j v hv
  have hl := run_load_f hu hd hc
  refine wpList_plain hgd fun K hK => ?_
  unfold Oper.wp execOp
  simp only [ho, hx, Instr.loadAt, Instr.sureAddr, Sem.run_bind, Sem.run_pure, Result.andThen_ok, hl]
  exact hK _ _ hk
set_option maxRecDepth 4000 in
theorem wpList_load_fn {ty : TypeId} {ops : Array Oper} {rest : List Oper} {op : Oper} {a : Act} {w : World} {Q : Exit → Act → World → Prop} {g : Nat} {c : OC} (h : VarO w g c) {j : Nat} {vs : List Value}
    (hrow : ∃ d, Try.prog.underlying ty = some d ∧ d.isRow = true ∧ (Try.prog.info? ty).map (·.size) = some vs.length) (x : Operand) (ho : op.op = .load ty x) (hgd : op.guard = none) (hx : a.eval x = .pointer (some ⟨g, j, none⟩)) (hv : (c.row.extract j (j + vs.length)).toList = vs) (hk : wpList Try.prog ops Q rest (a.put op.dst (.agg vs.toArray)) w) : wpList Try.prog ops Q (op :: rest) a w := by
  obtain ⟨d, h1, h2, h3⟩ := hrow
  refine wpList_load_mid hgd ty x ho g j hx vs d (fun i v hi => ?_) h1 h2 h3 hk
  refine h.cell (j + i) v ?_
  rw [← hv] at hi
  simp only [Array.toList_extract, List.extract_eq_take_drop, List.getElem?_take, List.getElem?_drop] at hi
  split at hi
  · simpa using hi
  · cases hi
set_option maxRecDepth 4000 in
theorem row_node : ∃ d, Try.prog.underlying 27 = some d ∧ d.isRow = true ∧ (Try.prog.info? 27).map (·.size) = some 4 := ⟨.struct (Try.prog.fieldsOf 27), by kernel_rfl, rfl, by kernel_rfl⟩
set_option maxRecDepth 4000 in
theorem row_sel : ∃ d, Try.prog.underlying 33 = some d ∧ d.isRow = true ∧ (Try.prog.info? 33).map (·.size) = some 5 := ⟨.struct (Try.prog.fieldsOf 33), by kernel_rfl, rfl, by kernel_rfl⟩
set_option maxRecDepth 4000 in
theorem sz_int : (Try.prog.info? 3).map (·.size) = some 1 := by kernel_rfl
set_option maxRecDepth 4000 in
theorem sz_path : (Try.prog.info? 22).map (·.size) = some 1 := by kernel_rfl
set_option maxRecDepth 4000 in
theorem sz_props : (Try.prog.info? 23).map (·.size) = some 1 := by kernel_rfl
set_option maxRecDepth 4000 in
theorem sz_text : (Try.prog.info? 24).map (·.size) = some 1 := by kernel_rfl
set_option maxRecDepth 4000 in
theorem sz_node : (Try.prog.info? 27).map (·.size) = some 4 := by kernel_rfl
set_option maxRecDepth 4000 in
theorem sz_sel : (Try.prog.info? 33).map (·.size) = some 5 := by kernel_rfl
set_option maxRecDepth 4000 in
theorem oneC1 {v : Value} (h : v.oneCell' = true) : ∀ u ∈ [v], u.oneCell' = true := by simpa using h
set_option maxRecDepth 4000 in
/-- Two variables: the operation that came in, and the one that is told. -/
theorem two_vars (w : World) (c : OC) : ∃ W0, (w.alloc (.cells c.row 35)).alloc (.cells #[.int .i64 0, .slice none 0 0, .slice none 0 0, .int .i64 0, .bool false, .slice none 0 0, .slice none 0 0, .slice none 0 0, .slice none 0 0, .slice none 0 0, .slice none 0 0, .bool false, .slice none 0 0, .int .i64 0, .slice none 0 0, .int .i64 0, .bool false, .slice none 0 0, .int .i64 0, .slice none 0 0, .int .i64 0] 35) = W0 ∧ Below w.heap.size w W0 ∧ W0.heap.size = w.heap.size + 1 + 1 ∧ VarO W0 w.heap.size c ∧ VarO W0 (w.heap.size + 1) OC.zero := by
  have h := pt_new w (.cells c.row 35) (.cells OC.zero.row 35)
  exact ⟨_, rfl, below_mono2 (Below.refl _ _) (Nat.le_refl _), by simp, h.1, h.2⟩
set_option maxRecDepth 4000 in
/-- A store into one of two variables. -/
theorem off_below {w W W' : World} {g : Nat} (hb : Below w.heap.size w W) (ho : Off g W W') (hg : w.heap.size ≤ g) : Below w.heap.size w W' := hb.trans (ho.below hg hb.size)

end Go.Proofs.Ytdjajpookmmafaa
