/- Arguments that are points or selections, opened: what their cells hold. -/
import Derived.Test.YtdjajpookmmafaaOOpens
import Derived.Test.YtdjajpookmmafaaKBase
namespace Go.Proofs.Ytdjajpookmmafaa
open Go.ChangeShapes Go.WideShapes Go.RowKit Go.Deep

theorem fields_pt : Try.prog.underlying 29 = some (.struct (Try.prog.fieldsOf 29)) := by kernel_rfl
set_option maxRecDepth 4000 in
theorem pt_0 : ((Try.prog.fieldsOf 29)[0]?).map (fun f => (f.type, f.offset)) = some (22, 0) := by kernel_rfl
set_option maxRecDepth 4000 in
theorem pt_1 : ((Try.prog.fieldsOf 29)[1]?).map (fun f => (f.type, f.offset)) = some (3, 1) := by kernel_rfl
set_option maxRecDepth 4000 in
theorem size_pt : (Try.prog.fieldsOf 29).size = 2 := by kernel_rfl
set_option maxRecDepth 4000 in
theorem cells_pt : Try.prog.cellsOf 29 = 2 := by kernel_rfl
set_option maxRecDepth 4000 in
theorem cells_path : Try.prog.cellsOf 22 = 1 := by kernel_rfl
set_option maxRecDepth 4000 in
theorem fields_range : Try.prog.underlying 31 = some (.struct (Try.prog.fieldsOf 31)) := by kernel_rfl
set_option maxRecDepth 4000 in
theorem range_0 : ((Try.prog.fieldsOf 31)[0]?).map (fun f => (f.type, f.offset)) = some (29, 0) := by kernel_rfl
set_option maxRecDepth 4000 in
theorem range_1 : ((Try.prog.fieldsOf 31)[1]?).map (fun f => (f.type, f.offset)) = some (29, 2) := by kernel_rfl
set_option maxRecDepth 4000 in
theorem size_range : (Try.prog.fieldsOf 31).size = 2 := by kernel_rfl
set_option maxRecDepth 4000 in
theorem cells_range : Try.prog.cellsOf 31 = 4 := by kernel_rfl
set_option maxRecDepth 4000 in
theorem fields_sel : Try.prog.underlying 33 = some (.struct (Try.prog.fieldsOf 33)) := by kernel_rfl
set_option maxRecDepth 4000 in
theorem sel_0 : ((Try.prog.fieldsOf 33)[0]?).map (fun f => (f.type, f.offset)) = some (4, 0) := by kernel_rfl
set_option maxRecDepth 4000 in
theorem sel_1 : ((Try.prog.fieldsOf 33)[1]?).map (fun f => (f.type, f.offset)) = some (31, 1) := by kernel_rfl
set_option maxRecDepth 4000 in
theorem size_sel : (Try.prog.fieldsOf 33).size = 2 := by kernel_rfl
set_option maxRecDepth 4000 in
theorem cells_sel : Try.prog.cellsOf 33 = 5 := by kernel_rfl

section
variable {H : Type} {enc : TypeId × Value → H} {W : World} {base : Nat} {held : Bool}
set_option maxRecDepth 4000 in
theorem path_cells {fuel : Nat} {cs : List Value} {x : DataW H × List MemPlace} (h : DataW.trod enc Try.prog W base (fun _ => true) held fuel 22 cs = some x) :
    ∃ (A : Option Addr) (l : List Int) (c : Nat), cs = [.slice A l.length c] ∧ l.length ≤ 9223372036854775807 ∧ l.length ≤ c ∧ IL W W.heap.size A l := by
  rcases open_ints Try.underlying22 Try.underlying3 cells_int h with ⟨hcs, _⟩ | ⟨a, len, cap, zs, hcs, _, hl, hm, hz, _, hc, hw⟩
  · exact ⟨none, [], 0, hcs, by decide, Nat.le_refl _, IL.nil _ _ _⟩
  · simp only [if_true] at hz
    have hlen : (zs.take len).length = len := by simp; omega
    refine ⟨some a, zs.take len, cap, by rw [hlen]; exact hcs, by rw [hlen]; unfold maxLen at hm; omega, by rw [hlen]; exact hl, fun hn => ?_⟩
    have h0 : 0 < len := by
      rcases Nat.eq_zero_or_pos len with h | h
      · subst h; simp at hn
      · exact h
    have hs := cell_lt (hc 0 (by omega))
    simp only [Addr.add, if_true] at hs
    obtain ⟨b, o, s⟩ := a
    obtain rfl : s = none := hs.2
    refine ⟨b, o, rfl, hs.1, fun k hk => ?_⟩
    rw [hlen] at hk
    have h1 := hc k (by omega)
    rw [add_plain] at h1
    rw [h1, iAt_eq _ k (by omega)]
    simp [List.getD, show k < zs.length by omega]
/-- The two cells of a point. -/
def PtCells (W : World) (c0 c1 : Value) (p : List Int × Int) : Prop := ∃ A c, c0 = .slice A p.1.length c ∧ c1 = .int .i64 p.2 ∧ p.1.length ≤ 9223372036854775807 ∧ p.1.length ≤ c ∧ IL W W.heap.size A p.1
set_option maxRecDepth 4000 in
theorem pt_cells {fuel : Nat} {cs : List Value} {x : DataW H × List MemPlace} (h : DataW.trod enc Try.prog W base (fun _ => true) held fuel 29 cs = some x) : ∃ c0 c1 p, cs = [c0, c1] ∧ PtCells W c0 c1 p := by
  obtain ⟨xs, f1, rfl, rfl, hcl, hxl, hf⟩ := DataW.trod_struct fields_pt h
  rw [cells_pt] at hcl
  rw [size_pt] at hxl
  obtain ⟨t0, e0, g0⟩ := Option.map_eq_some_iff.1 pt_0
  obtain ⟨t1, e1, g1⟩ := Option.map_eq_some_iff.1 pt_1
  simp only [Prod.mk.injEq] at g0 g1
  have r0 := hf 0 t0 e0
  have r1 := hf 1 t1 e1
  rw [g0.1, g0.2, cells_path] at r0
  rw [g1.1, g1.2, cells_int] at r1
  match cs, hcl, xs, hxl with
  | [c0, c1], _, [x0, x1], _ =>
    simp only [List.drop_zero, List.take_succ_cons, List.take_zero, List.drop_succ_cons, List.getElem?_cons_zero, List.getElem?_cons_succ] at r0 r1
    obtain ⟨A, l, c, k0, h1, h2, h3⟩ := path_cells r0
    obtain ⟨n, k1, _, _⟩ := DataW.trod_int Try.underlying3 r1
    simp only [List.cons.injEq, and_true] at k0 k1
    exact ⟨c0, c1, (l, n), rfl, A, c, k0, k1, h1, h2, h3⟩
set_option maxRecDepth 4000 in
/-- A point that came in. -/
theorem open_pt {r : Reach} {b0 : Nat} {v : Value} {d : DataW H} {p : List MemPlace} (hv : Value.okWide Try.prog W r b0 29 v) (h : DataW.Trod enc Try.prog W base (fun _ => true) held 29 v d p) :
    ∃ (A : Option Addr) (c : Nat) (q : List Int × Int), v = .agg #[.slice A q.1.length c, .int .i64 q.2] ∧ q.1.length ≤ 9223372036854775807 ∧ q.1.length ≤ c ∧ IL W W.heap.size A q.1 := by
  obtain ⟨fuel, hf⟩ := h
  obtain ⟨c0, c1, q, hcs, A, c, rfl, rfl, h1, h2, h3⟩ := pt_cells hf
  obtain ⟨cs, rfl, hcz⟩ := okWide_struct fields_pt hv
  have e : cs = #[.slice A q.1.length c, .int .i64 q.2] := by
    apply Array.toList_inj.1
    simpa [Value.cells] using hcs
  subst e
  exact ⟨A, c, q, rfl, h1, h2, h3⟩
end

section
variable {H : Type} {enc : TypeId × Value → H} {W : World} {base : Nat} {held : Bool}
set_option maxRecDepth 4000 in
theorem range_cells {fuel : Nat} {cs : List Value} {x : DataW H × List MemPlace} (h : DataW.trod enc Try.prog W base (fun _ => true) held fuel 31 cs = some x) : ∃ c0 c1 c2 c3 p q, cs = [c0, c1, c2, c3] ∧ PtCells W c0 c1 p ∧ PtCells W c2 c3 q := by
  obtain ⟨xs, f1, rfl, rfl, hcl, hxl, hf⟩ := DataW.trod_struct fields_range h
  rw [cells_range] at hcl
  rw [size_range] at hxl
  obtain ⟨t0, e0, g0⟩ := Option.map_eq_some_iff.1 range_0
  obtain ⟨t1, e1, g1⟩ := Option.map_eq_some_iff.1 range_1
  simp only [Prod.mk.injEq] at g0 g1
  have r0 := hf 0 t0 e0
  have r1 := hf 1 t1 e1
  rw [g0.1, g0.2, cells_pt] at r0
  rw [g1.1, g1.2, cells_pt] at r1
  match cs, hcl, xs, hxl with
  | [c0, c1, c2, c3], _, [x0, x1], _ =>
    simp only [List.drop_zero, List.take_succ_cons, List.take_zero, List.drop_succ_cons, List.getElem?_cons_zero, List.getElem?_cons_succ] at r0 r1
    obtain ⟨a0, a1, p, k0, h0⟩ := pt_cells r0
    obtain ⟨a2, a3, q, k1, h1⟩ := pt_cells r1
    simp only [List.cons.injEq, and_true] at k0 k1
    obtain ⟨rfl, rfl⟩ := k0
    obtain ⟨rfl, rfl⟩ := k1
    exact ⟨_, _, _, _, p, q, rfl, h0, h1⟩
set_option maxRecDepth 4000 in
theorem sel_cells {fuel : Nat} {cs : List Value} {x : DataW H × List MemPlace} (h : DataW.trod enc Try.prog W base (fun _ => true) held fuel 33 cs = some x) : ∃ is c0 c1 c2 c3 p q, cs = [.bool is, c0, c1, c2, c3] ∧ PtCells W c0 c1 p ∧ PtCells W c2 c3 q := by
  obtain ⟨xs, f1, rfl, rfl, hcl, hxl, hf⟩ := DataW.trod_struct fields_sel h
  rw [cells_sel] at hcl
  rw [size_sel] at hxl
  obtain ⟨t0, e0, g0⟩ := Option.map_eq_some_iff.1 sel_0
  obtain ⟨t1, e1, g1⟩ := Option.map_eq_some_iff.1 sel_1
  simp only [Prod.mk.injEq] at g0 g1
  have r0 := hf 0 t0 e0
  have r1 := hf 1 t1 e1
  rw [g0.1, g0.2, cells_bool] at r0
  rw [g1.1, g1.2, cells_range] at r1
  match cs, hcl, xs, hxl with
  | [c0, c1, c2, c3, c4], _, [x0, x1], _ =>
    simp only [List.drop_zero, List.take_succ_cons, List.take_zero, List.drop_succ_cons, List.getElem?_cons_zero, List.getElem?_cons_succ] at r0 r1
    obtain ⟨is, k0, _⟩ := DataW.trod_bool Try.underlying4 r0
    obtain ⟨a0, a1, a2, a3, p, q, k1, h0, h1⟩ := range_cells r1
    simp only [List.cons.injEq, and_true] at k0 k1
    obtain rfl := k0
    obtain ⟨rfl, rfl, rfl, rfl⟩ := k1
    exact ⟨is, _, _, _, _, p, q, rfl, h0, h1⟩
set_option maxRecDepth 4000 in
/-- A selection that came in. -/
theorem open_sel {r : Reach} {b0 : Nat} {v : Value} {d : DataW H} {p : List MemPlace} (hv : Value.okWide Try.prog W r b0 33 v) (h : DataW.Trod enc Try.prog W base (fun _ => true) held 33 v d p) :
    ∃ (is : Bool) (A : Option Addr) (c : Nat) (B : Option Addr) (e : Nat) (q s : List Int × Int), v = .agg #[.bool is, .slice A q.1.length c, .int .i64 q.2, .slice B s.1.length e, .int .i64 s.2] ∧ q.1.length ≤ 9223372036854775807 ∧ q.1.length ≤ c ∧ IL W W.heap.size A q.1 ∧ s.1.length ≤ 9223372036854775807 ∧ s.1.length ≤ e ∧ IL W W.heap.size B s.1 := by
  obtain ⟨fuel, hf⟩ := h
  obtain ⟨is, c0, c1, c2, c3, q, s, hcs, ⟨A, c, rfl, rfl, h1, h2, h3⟩, ⟨B, e, rfl, rfl, g1, g2, g3⟩⟩ := sel_cells hf
  obtain ⟨cs, rfl, hcz⟩ := okWide_struct fields_sel hv
  have e : cs = #[.bool is, .slice A q.1.length c, .int .i64 q.2, .slice B s.1.length e, .int .i64 s.2] := by
    apply Array.toList_inj.1
    simpa [Value.cells] using hcs
  subst e
  exact ⟨is, A, c, B, _, q, s, rfl, h1, h2, h3, g1, g2, g3⟩
end

end Go.Proofs.Ytdjajpookmmafaa
