/- Arguments that are operations, or lists of them, opened: what their cells hold. -/
import Derived.Test.YtdjajpookmmafaaBAt
import Derived.Test.YtdjajpookmmafaaKOpen
import Derived.Carry
namespace Go.Proofs.Ytdjajpookmmafaa
open Go.ChangeShapes Go.WideShapes Go.RowKit Go.Deep

theorem fields_op : Try.prog.underlying 35 = some (.struct (Try.prog.fieldsOf 35)) := by kernel_rfl
set_option maxRecDepth 4000 in
theorem opf_0 : ((Try.prog.fieldsOf 35)[0]?).map (fun f => (f.type, f.offset)) = some (3, 0) := by kernel_rfl
set_option maxRecDepth 4000 in
theorem opf_1 : ((Try.prog.fieldsOf 35)[1]?).map (fun f => (f.type, f.offset)) = some (22, 1) := by kernel_rfl
set_option maxRecDepth 4000 in
theorem opf_2 : ((Try.prog.fieldsOf 35)[2]?).map (fun f => (f.type, f.offset)) = some (22, 2) := by kernel_rfl
set_option maxRecDepth 4000 in
theorem opf_3 : ((Try.prog.fieldsOf 35)[3]?).map (fun f => (f.type, f.offset)) = some (3, 3) := by kernel_rfl
set_option maxRecDepth 4000 in
theorem opf_4 : ((Try.prog.fieldsOf 35)[4]?).map (fun f => (f.type, f.offset)) = some (27, 4) := by kernel_rfl
set_option maxRecDepth 4000 in
theorem opf_5 : ((Try.prog.fieldsOf 35)[5]?).map (fun f => (f.type, f.offset)) = some (23, 8) := by kernel_rfl
set_option maxRecDepth 4000 in
theorem opf_6 : ((Try.prog.fieldsOf 35)[6]?).map (fun f => (f.type, f.offset)) = some (23, 9) := by kernel_rfl
set_option maxRecDepth 4000 in
theorem opf_7 : ((Try.prog.fieldsOf 35)[7]?).map (fun f => (f.type, f.offset)) = some (24, 10) := by kernel_rfl
set_option maxRecDepth 4000 in
theorem opf_8 : ((Try.prog.fieldsOf 35)[8]?).map (fun f => (f.type, f.offset)) = some (33, 11) := by kernel_rfl
set_option maxRecDepth 4000 in
theorem opf_9 : ((Try.prog.fieldsOf 35)[9]?).map (fun f => (f.type, f.offset)) = some (33, 16) := by kernel_rfl
set_option maxRecDepth 4000 in
theorem size_op : (Try.prog.fieldsOf 35).size = 10 := by kernel_rfl
set_option maxRecDepth 4000 in
theorem cells_op : Try.prog.cellsOf 35 = 21 := by kernel_rfl
set_option maxRecDepth 4000 in
theorem op_types : (Try.prog.fieldsOf 35).toList.map (·.type) = [3, 22, 22, 3, 27, 23, 23, 24, 33, 33] := by kernel_rfl
section
variable {H : Type} {enc : TypeId × Value → H} {W : World} {base : Nat} {held : Bool}
set_option maxRecDepth 4000 in
theorem open_proplist {r : Reach} {b0 : Nat} {v : Value} {d : DataW H} {p : List MemPlace} (hv : Value.okWide Try.prog W r b0 23 v) (h : DataW.Trod enc Try.prog W base (fun _ => true) held 23 v d p) (hw : ∀ n ∈ d.weights Try.prog 23, n ≤ reachBytes) :
    ∃ (A : Option Addr) (l : List Pr) (c : Nat), v = .slice A l.length c ∧ Wide l ∧ l.length ≤ 4398046511104 ∧ l.length ≤ c ∧ PL W W.heap.size A l := by
  obtain ⟨a0, len0, cap0, rfl⟩ := okWide_slice Try.underlying23 hv
  obtain ⟨fuel, hf⟩ := h
  obtain ⟨A, l, c, hcs, h1, h2, h3, h4⟩ := open_props hf hw
  simp [Value.cells] at hcs
  obtain ⟨rfl, rfl, rfl⟩ := hcs
  exact ⟨_, l, _, rfl, h1, h2, h3, h4⟩
set_option maxRecDepth 4000 in
theorem open_runelist {r : Reach} {b0 : Nat} {v : Value} {d : DataW H} {p : List MemPlace} (hv : Value.okWide Try.prog W r b0 24 v) (h : DataW.Trod enc Try.prog W base (fun _ => true) held 24 v d p) (hw : ∀ n ∈ d.weights Try.prog 24, n ≤ reachBytes) :
    ∃ (A : Option Addr) (l : List Int) (c : Nat), v = .slice A l.length c ∧ l.length ≤ 35184372088832 ∧ l.length ≤ c ∧ VL W W.heap.size A (rv l) := by
  obtain ⟨a0, len0, cap0, rfl⟩ := okWide_slice Try.underlying24 hv
  obtain ⟨fuel, hf⟩ := h
  obtain ⟨A, l, c, hcs, h1, h2, h3, _⟩ := open_runes hf hw
  simp [Value.cells] at hcs
  obtain ⟨rfl, rfl, rfl⟩ := hcs
  exact ⟨_, l, _, rfl, h1, h2, h3⟩
set_option maxRecDepth 4000 in
/-- Five parameters. -/
theorem trodAll_five {P : Program} {w : World} {base : Nat} {spare : Nat → Bool} {t0 t1 t2 t3 t4 : TypeId} {args : Array Value} {ds : List (DataW H)} {ps : List MemPlace} (h : DataW.TrodAll enc P w base spare held [t0, t1, t2, t3, t4] args.toList ds ps) :
    ∃ v0 v1 v2 v3 v4 d0 d1 d2 d3 d4 p0 p1 p2 p3 p4, args = #[v0, v1, v2, v3, v4] ∧ ds = [d0, d1, d2, d3, d4] ∧ ps = p0 ++ p1 ++ p2 ++ p3 ++ p4 ∧ DataW.Trod enc P w base spare held t0 v0 d0 p0 ∧ DataW.Trod enc P w base spare held t1 v1 d1 p1 ∧ DataW.Trod enc P w base spare held t2 v2 d2 p2 ∧ DataW.Trod enc P w base spare held t3 v3 d3 p3 ∧ DataW.Trod enc P w base spare held t4 v4 d4 p4 := by
  obtain ⟨v0, vs0, d0, ds0, p0, q0, hargs, rfl, rfl, h0, r0⟩ := trodAll_cons h
  obtain ⟨v1, vs1, d1, ds1, p1, q1, rfl, rfl, rfl, h1, r1⟩ := trodAll_cons r0
  obtain ⟨v2, vs2, d2, ds2, p2, q2, rfl, rfl, rfl, h2, r2⟩ := trodAll_cons r1
  obtain ⟨v3, vs3, d3, ds3, p3, q3, rfl, rfl, rfl, h3, r3⟩ := trodAll_cons r2
  obtain ⟨v4, vs4, d4, ds4, p4, q4, rfl, rfl, rfl, h4, r4⟩ := trodAll_cons r3
  obtain ⟨rfl, rfl, rfl⟩ := trodAll_nil r4
  exact ⟨v0, v1, v2, v3, v4, d0, d1, d2, d3, d4, p0, p1, p2, p3, p4, by cases args; simp_all, rfl, by simp, h0, h1, h2, h3, h4⟩
set_option maxRecDepth 4000 in
theorem trodAll_mk5 {P : Program} {w : World} {base : Nat} {spare : Nat → Bool} {t0 t1 t2 t3 t4 : TypeId} {v0 v1 v2 v3 v4 : Value} {d0 d1 d2 d3 d4 : DataW H} {p0 p1 p2 p3 p4 : List MemPlace} (h0 : DataW.Trod enc P w base spare held t0 v0 d0 p0) (h1 : DataW.Trod enc P w base spare held t1 v1 d1 p1) (h2 : DataW.Trod enc P w base spare held t2 v2 d2 p2) (h3 : DataW.Trod enc P w base spare held t3 v3 d3 p3) (h4 : DataW.Trod enc P w base spare held t4 v4 d4 p4) :
    DataW.TrodAll enc P w base spare held [t0, t1, t2, t3, t4] [v0, v1, v2, v3, v4] [d0, d1, d2, d3, d4] (p0 ++ (p1 ++ (p2 ++ (p3 ++ p4)))) := ⟨p0, p1 ++ (p2 ++ (p3 ++ p4)), h0, RowKit.trodAll_mk4 h1 h2 h3 h4, rfl⟩
set_option maxRecDepth 4000 in
theorem path_full {fuel : Nat} {cs : List Value} {x : DataW H × List MemPlace} (h : DataW.trod enc Try.prog W base (fun _ => true) held fuel 22 cs = some x) :
    ∃ (A : Option Addr) (l : List Int) (c : Nat), cs = [.slice A l.length c] ∧ l.length ≤ 9223372036854775807 ∧ l.length ≤ c ∧ InI l ∧ IL W W.heap.size A l := by
  rcases open_ints Try.underlying22 Try.underlying3 cells_int h with ⟨hcs, _⟩ | ⟨a, len, cap, zs, hcs, _, hl, hm, hz, _, hc, hw⟩
  · exact ⟨none, [], 0, hcs, by decide, Nat.le_refl _, InI.nil, IL.nil _ _ _⟩
  · simp only [if_true] at hz
    have hlen : (zs.take len).length = len := by simp; omega
    refine ⟨some a, zs.take len, cap, by rw [hlen]; exact hcs, by rw [hlen]; unfold maxLen at hm; omega, by rw [hlen]; exact hl, fun k hk => (wf_ints (fun n hn => hw n (List.mem_of_mem_take hn)) k hk).symm, fun hn => ?_⟩
    have h0 : 0 < len := by
      rcases Nat.eq_zero_or_pos len with h | h
      · subst h; simp at hn
      · exact h
    have hs := cell_lt (hc 0 (by omega))
    simp only [Addr.add, if_true] at hs
    obtain ⟨b, o, s⟩ := a
    obtain rfl : s = none := hs.2
    refine ⟨b, o, rfl, hs.1, fun k hk => ?_⟩
    rw [hlen] at hk
    have h1 := hc k (by omega)
    rw [add_plain] at h1
    rw [h1, iAt_eq _ k (by omega)]
    simp [List.getD, show k < zs.length by omega]
set_option maxRecDepth 4000 in
theorem wf_in {k : Int} (h : (Lit.int .i64 k).wf = true) : In64 k := by
  have e1 : IntKind.i64.min = -9223372036854775808 := by decide
  have e2 : IntKind.i64.max = 9223372036854775807 := by decide
  simp [Lit.wf, e1, e2] at h
  exact h
set_option maxRecDepth 4000 in
/-- The cells of an operation. -/
theorem op_full {fuel : Nat} {cs : List Value} {x : DataW H × List MemPlace} (h : DataW.trod enc Try.prog W base (fun _ => true) held fuel 35 cs = some x) (hw : ∀ n ∈ x.1.weights Try.prog 35, n ≤ reachBytes) :
    ∃ c a, cs = c.row.toList ∧ OkA W c a := by
  obtain ⟨xs, f1, rfl, rfl, hcl, hxl, hf⟩ := DataW.trod_struct fields_op h
  rw [cells_op] at hcl
  rw [size_op] at hxl
  obtain ⟨t0, e0, g0⟩ := Option.map_eq_some_iff.1 opf_0
  obtain ⟨t1, e1, g1⟩ := Option.map_eq_some_iff.1 opf_1
  obtain ⟨t2, e2, g2⟩ := Option.map_eq_some_iff.1 opf_2
  obtain ⟨t3, e3, g3⟩ := Option.map_eq_some_iff.1 opf_3
  obtain ⟨t4, e4, g4⟩ := Option.map_eq_some_iff.1 opf_4
  obtain ⟨t5, e5, g5⟩ := Option.map_eq_some_iff.1 opf_5
  obtain ⟨t6, e6, g6⟩ := Option.map_eq_some_iff.1 opf_6
  obtain ⟨t7, e7, g7⟩ := Option.map_eq_some_iff.1 opf_7
  obtain ⟨t8, e8, g8⟩ := Option.map_eq_some_iff.1 opf_8
  obtain ⟨t9, e9, g9⟩ := Option.map_eq_some_iff.1 opf_9
  simp only [Prod.mk.injEq] at g0 g1 g2 g3 g4 g5 g6 g7 g8 g9
  have r0 := hf 0 t0 e0
  have r1 := hf 1 t1 e1
  have r2 := hf 2 t2 e2
  have r3 := hf 3 t3 e3
  have r4 := hf 4 t4 e4
  have r5 := hf 5 t5 e5
  have r6 := hf 6 t6 e6
  have r7 := hf 7 t7 e7
  have r8 := hf 8 t8 e8
  have r9 := hf 9 t9 e9
  rw [g0.1, g0.2, cells_int] at r0
  rw [g1.1, g1.2, cells_path] at r1
  rw [g2.1, g2.2, cells_path] at r2
  rw [g3.1, g3.2, cells_int] at r3
  rw [g4.1, g4.2, cells_node] at r4
  rw [g5.1, g5.2, cells_props] at r5
  rw [g6.1, g6.2, cells_props] at r6
  rw [g7.1, g7.2, cells_runes] at r7
  rw [g8.1, g8.2, cells_sel] at r8
  rw [g9.1, g9.2, cells_sel] at r9
  clear hf h e0 e1 e2 e3 e4 e5 e6 e7 e8 e9 g0 g1 g2 g3 g4 g5 g6 g7 g8 g9
  match cs, hcl, xs, hxl with
  | [c0, c1, c2, c3, c4, c5, c6, c7, c8, c9, c10, c11, c12, c13, c14, c15, c16, c17, c18, c19, c20], _, [x0, x1, x2, x3, x4, x5, x6, x7, x8, x9], _ =>
    simp only [List.drop_zero, List.take_succ_cons, List.take_zero, List.drop_succ_cons, List.getElem?_cons_zero, List.getElem?_cons_succ] at r0 r1 r2 r3 r4 r5 r6 r7 r8 r9
    have hwp : ∀ n ∈ DataW.weightsEach Try.prog [3, 22, 22, 3, 27, 23, 23, 24, 33, 33] [x0.1, x1.1, x2.1, x3.1, x4.1, x5.1, x6.1, x7.1, x8.1, x9.1], n ≤ reachBytes := fun n hn => hw n (by
      simp only [DataW.weights, fields_op, op_types, List.map_cons, List.map_nil]; exact hn)
    obtain ⟨n0, k0, _, wf0⟩ := DataW.trod_int Try.underlying3 r0
    obtain ⟨A, q, cq, k1, a1, a2, a3, a4⟩ := path_full r1
    obtain ⟨B, t, ct, k2, b1, b2, b3, b4⟩ := path_full r2
    obtain ⟨n3, k3, _, _⟩ := DataW.trod_int Try.underlying3 r3
    obtain ⟨d0, d1, d2, d3, n, k4, hn, _, _⟩ := open_node _ _ _ r4 (fun n hn => hwp n (DataW.weights_mem_each (j := 4) rfl rfl n hn))
    obtain ⟨PO, o, po, k5, o1, o2, o3, o4⟩ := open_props r5 (fun n hn => hwp n (DataW.weights_mem_each (j := 5) rfl rfl n hn))
    obtain ⟨PW, w, pw, k6, w1, w2, w3, w4⟩ := open_props r6 (fun n hn => hwp n (DataW.weights_mem_each (j := 6) rfl rfl n hn))
    obtain ⟨TX, tx, tc, k7, x1', x2', x3', _⟩ := open_runes r7 (fun n hn => hwp n (DataW.weights_mem_each (j := 7) rfl rfl n hn))
    obtain ⟨fi, f0, f1', f2, f3, fp, fq, k8, ⟨FA, fc, rfl, rfl, fa1, fa2, fa3⟩, ⟨FB, fd, rfl, rfl, fb1, fb2, fb3⟩⟩ := sel_cells r8
    obtain ⟨gi, h0, h1, h2, h3, gp, gq, k9, ⟨GA, gc, rfl, rfl, ga1, ga2, ga3⟩, ⟨GB, gd, rfl, rfl, gb1, gb2, gb3⟩⟩ := sel_cells r9
    obtain ⟨lf, P, np, pc, X, nt, tc', K, nk, kc, hv⟩ := hn.val
    simp only [Value.agg.injEq, Array.mk.injEq, List.cons.injEq, and_true] at hv
    obtain ⟨rfl, rfl, rfl, rfl⟩ := hv
    simp only [List.cons.injEq, and_true] at k0 k1 k2 k3 k4 k5 k6 k7 k8 k9
    obtain ⟨rfl, rfl, rfl, rfl⟩ := k4
    obtain ⟨rfl, rfl, rfl, rfl, rfl⟩ := k8
    obtain ⟨rfl, rfl, rfl, rfl, rfl⟩ := k9
    subst k0 k1 k2 k3 k5 k6 k7
    refine ⟨OC.mk n0 A q.length cq B t.length ct n3 lf P np pc X nt tc' K nk kc PO o.length po PW w.length pw TX tx.length tc fi FA fp.1.length fc fp.2 FB fq.1.length fd fq.2 gi GA gp.1.length gc gp.2 GB gq.1.length gd gq.2,
      ⟨n0, q, t, n3, n, o, w, tx, ⟨fi, fp, fq⟩, ⟨gi, gp, gq⟩⟩, rfl, ?_⟩
    exact OkA.mk rfl (wf_in wf0) rfl rfl a2 a1 a4 a3 rfl b2 b1 b4 b3 ⟨_, hn⟩ rfl o3 o2 o1 o4 rfl w3 w2 w1 w4 rfl x2' x1' x3' ⟨rfl, rfl, rfl, rfl, rfl, fa2, fb2, fa1, fb1, fa3, fb3⟩ ⟨rfl, rfl, rfl, rfl, rfl, ga2, gb2, ga1, gb1, ga3, gb3⟩
set_option maxRecDepth 4000 in
/-- An operation that came in. -/
theorem open_fullop {r : Reach} {b0 : Nat} {v : Value} {d : DataW H} {p : List MemPlace} (hv : Value.okWide Try.prog W r b0 35 v) (h : DataW.Trod enc Try.prog W base (fun _ => true) held 35 v d p) (hw : ∀ n ∈ d.weights Try.prog 35, n ≤ reachBytes) :
    ∃ c a, v = .agg (OC.row c) ∧ OkA W c a := by
  obtain ⟨fuel, hf⟩ := h
  obtain ⟨c, a, hcs, hok⟩ := op_full hf hw
  obtain ⟨cs, rfl, hcz⟩ := okWide_struct fields_op hv
  have e : cs = c.row := by
    apply Array.toList_inj.1
    simpa [Value.cells] using hcs
  subst e
  exact ⟨c, a, rfl, hok⟩
end

end Go.Proofs.Ytdjajpookmmafaa
