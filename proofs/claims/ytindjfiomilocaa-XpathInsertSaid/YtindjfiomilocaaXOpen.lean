/- Arguments that are paths, numbers or operations, opened: what their cells hold. -/
import Derived.Test.YtindjfiomilocaaIInts
import Derived.Test.YtindjfiomilocaaRows
import Derived.ProofKit
import Derived.Deep.Slices
import Derived.Deep.Fields
import Derived.SizedLaws
import Derived.OpenShut
namespace Go.Proofs.Ytindjfiomilocaa
open Go.ChangeShapes Go.WideShapes Go.RowKit Go.Deep

theorem own : ownKnob Try.prog.godebug = none := by kernel_rfl
set_option maxRecDepth 4000 in
theorem laidOut : laidOutB Try.prog = true := by kernel_rfl
set_option maxRecDepth 4000 in
theorem cells_int : Try.prog.cellsOf 3 = 1 := by kernel_rfl
set_option maxRecDepth 4000 in
theorem cells_path : Try.prog.cellsOf 22 = 1 := by kernel_rfl
set_option maxRecDepth 4000 in
theorem cell_lt {w : World} {a : Addr} {v : Value} (h : w.cell? a = some v) : a.block < w.heap.size ∧ a.spot = none := by
  unfold World.cell? at h
  cases hb : w.heap[a.block]? with
  | none => rw [hb] at h; cases h
  | some o =>
    rw [hb] at h
    refine ⟨(Array.getElem?_eq_some_iff.1 hb).1, ?_⟩
    cases o <;> simp at h
    exact h.1

section
variable {H : Type} {enc : TypeId × Value → H} {W : World} {base : Nat} {held : Bool}
set_option maxRecDepth 4000 in
theorem path_cells {fuel : Nat} {cs : List Value} {x : DataW H × List MemPlace} (h : DataW.trod enc Try.prog W base (fun _ => true) held fuel 22 cs = some x) :
    ∃ (A : Option Addr) (l : List Int) (c : Nat), cs = [.slice A l.length c] ∧ l.length ≤ 9223372036854775807 ∧ l.length ≤ c ∧ IL W W.heap.size A l := by
  rcases open_ints Try.underlying22 Try.underlying3 cells_int h with ⟨hcs, _⟩ | ⟨a, len, cap, zs, hcs, _, hl, hm, hz, _, hc, hw⟩
  · exact ⟨none, [], 0, hcs, by decide, Nat.le_refl _, IL.nil _ _ _⟩
  · simp only [if_true] at hz
    have hlen : (zs.take len).length = len := by simp; omega
    refine ⟨some a, zs.take len, cap, by rw [hlen]; exact hcs, by rw [hlen]; unfold maxLen at hm; omega, by rw [hlen]; exact hl, fun hn => ?_⟩
    have h0 : 0 < len := by
      rcases Nat.eq_zero_or_pos len with h | h
      · subst h; simp at hn
      · exact h
    have hs := cell_lt (hc 0 (by omega))
    simp only [Addr.add, if_true] at hs
    obtain ⟨b, o, s⟩ := a
    obtain rfl : s = none := hs.2
    refine ⟨b, o, rfl, hs.1, fun k hk => ?_⟩
    rw [hlen] at hk
    have h1 := hc k (by omega)
    rw [add_plain] at h1
    rw [h1, iAt_eq _ k (by omega)]
    simp [List.getD, show k < zs.length by omega]
set_option maxRecDepth 4000 in
/-- A path that came in. -/
theorem open_xpath {r : Reach} {b0 : Nat} {v : Value} {d : DataW H} {p : List MemPlace} (hv : Value.okWide Try.prog W r b0 22 v) (h : DataW.Trod enc Try.prog W base (fun _ => true) held 22 v d p) :
    ∃ (A : Option Addr) (l : List Int) (c : Nat), v = .slice A l.length c ∧ l.length ≤ 9223372036854775807 ∧ l.length ≤ c ∧ IL W W.heap.size A l := by
  obtain ⟨a0, len0, cap0, rfl⟩ := okWide_slice Try.underlying22 hv
  obtain ⟨fuel, hf⟩ := h
  obtain ⟨A, l, c, hcs, h1, h2, h3⟩ := path_cells hf
  simp [Value.cells] at hcs
  obtain ⟨rfl, rfl, rfl⟩ := hcs
  exact ⟨_, l, _, rfl, h1, h2, h3⟩
set_option maxRecDepth 4000 in
theorem fields_op : Try.prog.underlying 35 = some (.struct (Try.prog.fieldsOf 35)) := by kernel_rfl
set_option maxRecDepth 4000 in
theorem opf_0 : ((Try.prog.fieldsOf 35)[0]?).map (fun f => (f.type, f.offset)) = some (3, 0) := by kernel_rfl
set_option maxRecDepth 4000 in
theorem opf_1 : ((Try.prog.fieldsOf 35)[1]?).map (fun f => (f.type, f.offset)) = some (22, 1) := by kernel_rfl
set_option maxRecDepth 4000 in
theorem opf_2 : ((Try.prog.fieldsOf 35)[2]?).map (fun f => (f.type, f.offset)) = some (22, 2) := by kernel_rfl
set_option maxRecDepth 4000 in
theorem opf_3 : ((Try.prog.fieldsOf 35)[3]?).map (fun f => (f.type, f.offset)) = some (3, 3) := by kernel_rfl
set_option maxRecDepth 4000 in
theorem size_op : (Try.prog.fieldsOf 35).size = 10 := by kernel_rfl
set_option maxRecDepth 4000 in
theorem cells_op : Try.prog.cellsOf 35 = 21 := by kernel_rfl
set_option maxRecDepth 4000 in
/-- An operation that came in. -/
theorem open_op {r : Reach} {b0 : Nat} {v : Value} {d : DataW H} {p : List MemPlace} (hv : Value.okWide Try.prog W r b0 35 v) (h : DataW.Trod enc Try.prog W base (fun _ => true) held 35 v d p) :
    ∃ (Q T : Option Addr) (q t : List Int) (cq ct : Nat) (K pos : Int) (r4 r5 r6 r7 r8 r9 r10 r11 r12 r13 r14 r15 r16 r17 r18 r19 r20 : Value), v = .agg #[.int .i64 K, .slice Q q.length cq, .slice T t.length ct, .int .i64 pos, r4, r5, r6, r7, r8, r9, r10, r11, r12, r13, r14, r15, r16, r17, r18, r19, r20] ∧ q.length ≤ 9223372036854775807 ∧ q.length ≤ cq ∧ IL W W.heap.size Q q ∧ t.length ≤ 9223372036854775807 ∧ t.length ≤ ct ∧ IL W W.heap.size T t := by
  obtain ⟨fuel, hf0⟩ := h
  obtain ⟨ys, rfl, hcz⟩ := okWide_struct fields_op hv
  obtain ⟨xs, f1, rfl, -, hcl, hxl, hf⟩ := DataW.trod_struct fields_op hf0
  rw [cells_op] at hcl
  rw [size_op] at hxl
  obtain ⟨t0, e0, g0⟩ := Option.map_eq_some_iff.1 opf_0
  obtain ⟨t1, e1, g1⟩ := Option.map_eq_some_iff.1 opf_1
  obtain ⟨t2, e2, g2⟩ := Option.map_eq_some_iff.1 opf_2
  obtain ⟨t3, e3, g3⟩ := Option.map_eq_some_iff.1 opf_3
  simp only [Prod.mk.injEq] at g0 g1 g2 g3
  have r0 := hf 0 t0 e0
  have r1 := hf 1 t1 e1
  have r2 := hf 2 t2 e2
  have r3 := hf 3 t3 e3
  rw [g0.1, g0.2, cells_int] at r0
  rw [g1.1, g1.2, cells_path] at r1
  rw [g2.1, g2.2, cells_path] at r2
  rw [g3.1, g3.2, cells_int] at r3
  clear hf hf0 hv e0 e1 e2 e3 g0 g1 g2 g3
  obtain ⟨ys⟩ := ys
  simp only [Value.cells] at hcl r0 r1 r2 r3
  match ys, hcl, xs, hxl with
  | [c0, c1, c2, c3, c4, c5, c6, c7, c8, c9, c10, c11, c12, c13, c14, c15, c16, c17, c18, c19, c20], _, [x0, x1, x2, x3, x4, x5, x6, x7, x8, x9], _ =>
    simp only [List.drop_zero, List.take_succ_cons, List.take_zero, List.drop_succ_cons, List.getElem?_cons_zero, List.getElem?_cons_succ] at r0 r1 r2 r3
    obtain ⟨n0, k0, _, _⟩ := DataW.trod_int Try.underlying3 r0
    obtain ⟨A, l, c, k1, a1, a2, a3⟩ := path_cells r1
    obtain ⟨B, m, d, k2, b1, b2, b3⟩ := path_cells r2
    obtain ⟨n3, k3, _, _⟩ := DataW.trod_int Try.underlying3 r3
    simp only [List.cons.injEq, and_true] at k0 k1 k2 k3
    subst k0 k1 k2 k3
    exact ⟨A, B, l, m, c, d, n0, n3, c4, c5, c6, c7, c8, c9, c10, c11, c12, c13, c14, c15, c16, c17, c18, c19, c20, rfl, a1, a2, a3, b1, b2, b3⟩
end

end Go.Proofs.Ytindjfiomilocaa
