/- Arguments that are refs, or lists of them, opened: what their cells hold. Ranges, refs, and lists of refs compared: the document's answers. A region that draws its order: whatever order is picked, a fact S stands behind each operation but those that are named; what yields the same in each such world may be taken first. Lists of refs: the document's Few and Same. A ref by its number, and the others: the document's Get and Free. -/
import Derived.Test.YtmglnjmnabjjgaaJKCmp
import Derived.Test.YtmglnjmnabjjgaaJXMove5
import Derived.Carry
import Derived.Test.YtmglnjmnabjjgaaJXCalls
import Derived.Test.YtmglnjmnabjjgaaJGText
import Derived.OrdersHeld
import Derived.Laws.ResultCell
namespace Go.Proofs.Ytmglnjmnabjjgaa
open Go.ChangeShapes Go.WideShapes Go.RowKit Go.Deep

theorem lfields_rng : Try.prog.underlying 32 = some (.struct (Try.prog.fieldsOf 32)) := by kernel_rfl
set_option maxRecDepth 4000 in
theorem lrng_0 : ((Try.prog.fieldsOf 32)[0]?).map (fun f => (f.type, f.offset)) = some (30, 0) := by kernel_rfl
set_option maxRecDepth 4000 in
theorem lrng_1 : ((Try.prog.fieldsOf 32)[1]?).map (fun f => (f.type, f.offset)) = some (30, 2) := by kernel_rfl
set_option maxRecDepth 4000 in
theorem lsize_rng : (Try.prog.fieldsOf 32).size = 2 := by kernel_rfl
set_option maxRecDepth 4000 in
theorem lcells_rng : Try.prog.cellsOf 32 = 4 := by kernel_rfl
set_option maxRecDepth 4000 in
theorem lcells_bool : Try.prog.cellsOf 4 = 1 := by kernel_rfl
set_option maxRecDepth 4000 in
theorem fields_ref : Try.prog.underlying 34 = some (.struct (Try.prog.fieldsOf 34)) := by kernel_rfl
set_option maxRecDepth 4000 in
theorem rff_0 : ((Try.prog.fieldsOf 34)[0]?).map (fun f => (f.type, f.offset)) = some (3, 0) := by kernel_rfl
set_option maxRecDepth 4000 in
theorem rff_1 : ((Try.prog.fieldsOf 34)[1]?).map (fun f => (f.type, f.offset)) = some (3, 1) := by kernel_rfl
set_option maxRecDepth 4000 in
theorem rff_2 : ((Try.prog.fieldsOf 34)[2]?).map (fun f => (f.type, f.offset)) = some (3, 2) := by kernel_rfl
set_option maxRecDepth 4000 in
theorem rff_3 : ((Try.prog.fieldsOf 34)[3]?).map (fun f => (f.type, f.offset)) = some (4, 3) := by kernel_rfl
set_option maxRecDepth 4000 in
theorem rff_4 : ((Try.prog.fieldsOf 34)[4]?).map (fun f => (f.type, f.offset)) = some (28, 4) := by kernel_rfl
set_option maxRecDepth 4000 in
theorem rff_5 : ((Try.prog.fieldsOf 34)[5]?).map (fun f => (f.type, f.offset)) = some (30, 5) := by kernel_rfl
set_option maxRecDepth 4000 in
theorem rff_6 : ((Try.prog.fieldsOf 34)[6]?).map (fun f => (f.type, f.offset)) = some (32, 7) := by kernel_rfl
set_option maxRecDepth 4000 in
theorem size_ref : (Try.prog.fieldsOf 34).size = 7 := by kernel_rfl
set_option maxRecDepth 4000 in
theorem cells_ref : Try.prog.cellsOf 34 = 11 := by kernel_rfl
section
variable {H : Type} {enc : TypeId × Value → H} {W : World} {base : Nat} {held : Bool}
set_option maxRecDepth 4000 in
theorem lrng_cells {fuel : Nat} {cs : List Value} {x : DataW H × List MemPlace} (h : DataW.trod enc Try.prog W base (fun _ => true) held fuel 32 cs = some x) : ∃ c0 c1 c2 c3 p q, cs = [c0, c1, c2, c3] ∧ PtCells W c0 c1 p ∧ PtCells W c2 c3 q := by
  obtain ⟨xs, f1, rfl, rfl, hcl, hxl, hf⟩ := DataW.trod_struct lfields_rng h
  rw [lcells_rng] at hcl
  rw [lsize_rng] at hxl
  obtain ⟨t0, e0, g0⟩ := Option.map_eq_some_iff.1 lrng_0
  obtain ⟨t1, e1, g1⟩ := Option.map_eq_some_iff.1 lrng_1
  simp only [Prod.mk.injEq] at g0 g1
  have r0 := hf 0 t0 e0
  have r1 := hf 1 t1 e1
  rw [g0.1, g0.2, cells_pt] at r0
  rw [g1.1, g1.2, cells_pt] at r1
  match cs, hcl, xs, hxl with
  | [c0, c1, c2, c3], _, [x0, x1], _ =>
    simp only [List.drop_zero, List.take_succ_cons, List.take_zero, List.drop_succ_cons, List.getElem?_cons_zero, List.getElem?_cons_succ] at r0 r1
    obtain ⟨a0, a1, p, k0, h0⟩ := pt_cells r0
    obtain ⟨a2, a3, q, k1, h1⟩ := pt_cells r1
    simp only [List.cons.injEq, and_true] at k0 k1
    obtain ⟨rfl, rfl⟩ := k0
    obtain ⟨rfl, rfl⟩ := k1
    exact ⟨_, _, _, _, p, q, rfl, h0, h1⟩
set_option maxRecDepth 4000 in
/-- The cells of a ref. -/
theorem ref_full {fuel : Nat} {cs : List Value} {x : DataW H × List MemPlace} (h : DataW.trod enc Try.prog W base (fun _ => true) held fuel 34 cs = some x) : ∃ c a, cs = c.row.toList ∧ RkA W c a := by
  obtain ⟨xs, f1, rfl, rfl, hcl, hxl, hf⟩ := DataW.trod_struct fields_ref h
  rw [cells_ref] at hcl
  rw [size_ref] at hxl
  obtain ⟨t0, e0, g0⟩ := Option.map_eq_some_iff.1 rff_0
  obtain ⟨t1, e1, g1⟩ := Option.map_eq_some_iff.1 rff_1
  obtain ⟨t2, e2, g2⟩ := Option.map_eq_some_iff.1 rff_2
  obtain ⟨t3, e3, g3⟩ := Option.map_eq_some_iff.1 rff_3
  obtain ⟨t4, e4, g4⟩ := Option.map_eq_some_iff.1 rff_4
  obtain ⟨t5, e5, g5⟩ := Option.map_eq_some_iff.1 rff_5
  obtain ⟨t6, e6, g6⟩ := Option.map_eq_some_iff.1 rff_6
  simp only [Prod.mk.injEq] at g0 g1 g2 g3 g4 g5 g6
  have r0 := hf 0 t0 e0
  have r1 := hf 1 t1 e1
  have r2 := hf 2 t2 e2
  have r3 := hf 3 t3 e3
  have r4 := hf 4 t4 e4
  have r5 := hf 5 t5 e5
  have r6 := hf 6 t6 e6
  rw [g0.1, g0.2, cells_int] at r0
  rw [g1.1, g1.2, cells_int] at r1
  rw [g2.1, g2.2, cells_int] at r2
  rw [g3.1, g3.2, lcells_bool] at r3
  rw [g4.1, g4.2, cells_path] at r4
  rw [g5.1, g5.2, cells_pt] at r5
  rw [g6.1, g6.2, lcells_rng] at r6
  clear hf h e0 e1 e2 e3 e4 e5 e6 g0 g1 g2 g3 g4 g5 g6
  match cs, hcl, xs, hxl with
  | [c0, c1, c2, c3, c4, c5, c6, c7, c8, c9, c10], _, [x0, x1, x2, x3, x4, x5, x6], _ =>
    simp only [List.drop_zero, List.take_succ_cons, List.take_zero, List.drop_succ_cons, List.getElem?_cons_zero, List.getElem?_cons_succ] at r0 r1 r2 r3 r4 r5 r6
    obtain ⟨n0, k0, _, _⟩ := DataW.trod_int Try.underlying3 r0
    obtain ⟨n1, k1, _, w1⟩ := DataW.trod_int Try.underlying3 r1
    obtain ⟨n2, k2, _, _⟩ := DataW.trod_int Try.underlying3 r2
    obtain ⟨b3, k3, _⟩ := DataW.trod_bool Try.underlying4 r3
    obtain ⟨A4, l4, d4, k4, h4, i4, j4⟩ := path_cells r4
    obtain ⟨a5, a6, p5, k5, ⟨A5, d5, rfl, rfl, h5, i5, j5⟩⟩ := pt_cells r5
    obtain ⟨a7, a8, a9, a10, p7, p9, k7, ⟨A7, d7, rfl, rfl, h7, i7, j7⟩, ⟨A9, d9, rfl, rfl, h9, i9, j9⟩⟩ := lrng_cells r6
    simp only [List.cons.injEq, and_true] at k0 k1 k2 k3 k4 k5 k7
    obtain rfl := k0
    obtain rfl := k1
    obtain rfl := k2
    obtain rfl := k3
    obtain rfl := k4
    obtain ⟨rfl, rfl⟩ := k5
    obtain ⟨rfl, rfl, rfl, rfl⟩ := k7
    exact ⟨⟨n0, n1, n2, b3, A4, l4.length, d4, A5, p5.1.length, d5, p5.2, A7, p7.1.length, d7, p7.2, A9, p9.1.length, d9, p9.2⟩, ⟨n0, n1, n2, b3, l4, p5, p7, p9⟩, rfl, ⟨rfl, rfl, rfl, rfl, ⟨rfl, i4, h4, j4⟩, ⟨rfl, i5, h5, j5⟩, rfl, ⟨rfl, i7, h7, j7⟩, rfl, ⟨rfl, i9, h9, j9⟩, rfl, w1⟩⟩
set_option maxRecDepth 4000 in
theorem refs_full {fuel : Nat} {cs : List Value} {x : DataW H × List MemPlace} (h : DataW.trod enc Try.prog W base (fun _ => true) held fuel 27 cs = some x) :
    ∃ (A : Option Addr) (l : List RefP) (c : Nat), cs = [.slice A l.length c] ∧ l.length ≤ c ∧ l.length ≤ 9223372036854775807 ∧ ∃ ds, LR W A ds l := by
  rcases DataW.trod_slice Try.underlying27 h with ⟨hcs, _⟩ | ⟨a, len, cap, elems, rest, f2, hfu, hcs, hxe, _, hl, hm, hlen, hel, _, _⟩
  · exact ⟨none, [], 0, hcs, Nat.le_refl _, by decide, [], LR.nil _ _⟩
  · have key : ∀ i, i < len → ∃ p : RC × RefP, RkA W p.1 p.2 ∧ ∀ j v, p.1.row.toList[j]? = some v → W.cell? (a.add (i * 11 + j)) = some v := by
      intro i him
      have h1 := hel i him
      have him' : i < elems.length := by omega
      rw [cells_ref, List.getElem?_eq_getElem him'] at h1
      obtain ⟨cs', hc, ht⟩ := Option.bind_eq_some_iff.1 h1
      obtain ⟨c, o, rfl, hok⟩ := ref_full ht
      obtain ⟨_, _, hat⟩ := World.cells?_some hc
      refine ⟨(c, o), hok, fun j v hv => ?_⟩
      have hj := (List.getElem?_eq_some_iff.1 hv).1
      have a0 := hat (i := j) (by simpa [RC.row] using hj)
      rw [add_add] at a0
      rw [a0]
      exact hv
    haveI : Inhabited (RC × RefP) := ⟨(RC.zero, zeroR)⟩
    obtain ⟨q, hq⟩ := choose_lt key
    have hlen2 : ((List.range len).map fun i => (q i).2).length = len := by simp
    have hlen3 : ((List.range len).map fun i => (q i).1).length = len := by simp
    have hget1 : ∀ (k : Nat) (c : RC), ((List.range len).map fun i => (q i).1)[k]? = some c → k < len ∧ c = (q k).1 := fun k c hk => by
      have hkl : k < len := by have := (List.getElem?_eq_some_iff.1 hk).1; rwa [hlen3] at this
      rw [List.getElem?_map, List.getElem?_range hkl] at hk
      simp only [Option.map_some, Option.some.injEq] at hk
      exact ⟨hkl, hk.symm⟩
    have hget2 : ∀ (k : Nat) (o : RefP), ((List.range len).map fun i => (q i).2)[k]? = some o → o = (q k).2 := fun k o hk => by
      have hkl : k < len := by have := (List.getElem?_eq_some_iff.1 hk).1; rwa [hlen2] at this
      rw [List.getElem?_map, List.getElem?_range hkl] at hk
      simp only [Option.map_some, Option.some.injEq] at hk
      exact hk.symm
    refine ⟨some a, (List.range len).map fun i => (q i).2, cap, by rw [hlen2]; exact hcs, by rw [hlen2]; exact hl, by rw [hlen2]; unfold maxLen at hm; omega, (List.range len).map fun i => (q i).1, ⟨fun hn => ?_, by rw [hlen2, hlen3], fun k c o h1 h2 => ?_⟩⟩
    · have h0 : 0 < len := by
        rcases Nat.eq_zero_or_pos len with h | h
        · subst h; exact absurd rfl hn
        · exact h
      have hs := cell_spot ((hq 0 h0).2 0 _ rfl)
      simp only [Nat.zero_mul, Nat.add_zero, Addr.add, if_true] at hs
      obtain ⟨b, o, s⟩ := a
      obtain rfl : s = none := hs.2
      refine ⟨b, o, rfl, hs.1, fun k u hk => ?_⟩
      have hkl := (List.getElem?_eq_some_iff.1 hk).1
      rw [cellsR_len, hlen3] at hkl
      have hd : k / 11 < len := by omega
      have e1 : ((List.range len).map fun i => (q i).1)[k / 11]? = some (q (k / 11)).1 := by rw [List.getElem?_map, List.getElem?_range hd]; rfl
      have hj : k % 11 < (q (k / 11)).1.row.toList.length := by show _ < 11; omega
      have e2 := cellsR_at e1 (k % 11) _ (List.getElem?_eq_getElem hj)
      rw [show k / 11 * 11 + k % 11 = k by omega, hk] at e2
      have h3 := (hq (k / 11) hd).2 (k % 11) _ (List.getElem?_eq_getElem hj)
      rw [show k / 11 * 11 + k % 11 = k by omega, add_plain] at h3
      rw [h3, e2]
    · obtain ⟨hkl, rfl⟩ := hget1 k c h1
      obtain rfl := hget2 k o h2
      exact (hq k hkl).1
set_option maxRecDepth 4000 in
theorem open_refs {r : Reach} {b0 : Nat} {v : Value} {d : DataW H} {p : List MemPlace} (hv : Value.okWide Try.prog W r b0 27 v) (h : DataW.Trod enc Try.prog W base (fun _ => true) held 27 v d p) :
    ∃ (A : Option Addr) (n c : Nat) (ds : List RC) (l : List RefP), v = .slice A n c ∧ LR W A ds l ∧ l.length = n ∧ n ≤ c ∧ n ≤ 9223372036854775807 := by
  obtain ⟨a0, len0, cap0, rfl⟩ := okWide_slice Try.underlying27 hv
  obtain ⟨fuel, hf⟩ := h
  obtain ⟨A, l, c, hcs, h1, h2, ds, h3⟩ := refs_full hf
  simp [Value.cells] at hcs
  obtain ⟨rfl, rfl, rfl⟩ := hcs
  exact ⟨_, _, _, ds, l, rfl, h3, rfl, h1, h2⟩
end

end Go.Proofs.Ytmglnjmnabjjgaa

namespace Go.Proofs.Ytmglnjmnabjjgaa
open Go.RowKit

/-- A range's row. -/
structure GC where
  A : Option Addr
  na : Nat
  ca : Nat
  ao : Int
  F : Option Addr
  nf : Nat
  cf : Nat
  fo : Int
def GC.row (c : GC) : Array Value := #[.slice c.A c.na c.ca, .int .i64 c.ao, .slice c.F c.nf c.cf, .int .i64 c.fo]
structure GkA (w : World) (c : GC) (a f : List Int × Int) : Prop where
  haa : PathC w c.A c.na c.ca a.1
  hao : a.2 = c.ao
  hf : PathC w c.F c.nf c.cf f.1
  hfo : f.2 = c.fo
  hn : c.na ≤ 50
  hm : c.nf ≤ 50
set_option maxRecDepth 4000 in
theorem GkA.later {w w' : World} {c : GC} {a f : List Int × Int} (h : GkA w c a f) (hb : Below w.heap.size w w') : GkA w' c a f := { h with haa := h.haa.later hb, hf := h.hf.later hb }
set_option maxRecDepth 4000 in
theorem GkA.pa {w : World} {c : GC} {a f : List Int × Int} (h : GkA w c a f) : PtAt w (.agg #[.slice c.A c.na c.ca, .int .i64 c.ao]) a := h.haa.pt h.hao (by have := h.hn; omega)
set_option maxRecDepth 4000 in
theorem GkA.pf {w : World} {c : GC} {a f : List Int × Int} (h : GkA w c a f) : PtAt w (.agg #[.slice c.F c.nf c.cf, .int .i64 c.fo]) f := h.hf.pt h.hfo (by have := h.hm; omega)
def RC.rng (c : RC) : GC := ⟨c.A, c.na, c.ca, c.ao, c.F, c.nf, c.cf, c.fo⟩
set_option maxRecDepth 4000 in
theorem RkA.rng {w : World} {c : RC} {r : RefP} (h : RkA w c r) (hf : fewR r = true) : GkA w c.rng r.a r.f := by
  obtain ⟨_, _, h3, h4⟩ := fewR_len hf
  exact ⟨h.haa, h.hao, h.hf, h.hfo, by have := h.haa.len; show c.na ≤ 50; omega, by have := h.hf.len; show c.nf ≤ 50; omega⟩
set_option maxRecDepth 4000 in
theorem RkA.pt {w : World} {c : RC} {r : RefP} (h : RkA w c r) (hf : fewR r = true) : PtAt w (.agg #[.slice c.Q c.nq c.cq, .int .i64 c.qo]) r.q := by
  obtain ⟨_, h2, _, _⟩ := fewR_len hf
  exact h.hq.pt h.hqo (by have := h.hq.len; omega)
set_option maxRecDepth 4000 in
theorem RkA.path {w : World} {c : RC} {r : RefP} (h : RkA w c r) (hf : fewR r = true) : XA w (.slice c.P c.np c.cp) r.p := by
  obtain ⟨h1, _, _, _⟩ := fewR_len hf
  exact ⟨c.P, c.np, c.cp, rfl, h.hp.len, by have := h.hp.len; omega, h.hp.cap, h.hp.il⟩
set_option maxRecDepth 4000 in
theorem rpt_same {w : World} {u v : Value} {p q : List Int × Int} {E : Bool} (hp : PtAt w u p) (hq : PtAt w v q) (hE : samP p q = E) : Calls Try.prog 26 #[u, v] w (Still (.bool E) w) := hE ▸ rsame_at (Below.refl _ _) hp hq
set_option maxRecDepth 4000 in
theorem lrows2 (w : World) (t : TypeId) (r s : Array Value) : ∃ W0, (w.alloc (.cells r t)).alloc (.cells s t) = W0 ∧ Below w.heap.size w W0 ∧ VarR t W0 w.heap.size r ∧ VarR t W0 (w.heap.size + 1) s := by
  have h1 := (VarR.new w t r).alloc (.cells s t)
  have h2 := VarR.new (w.alloc (.cells r t)) t s
  have e1 : (w.alloc (.cells r t)).heap.size = w.heap.size + 1 := by simp
  rw [e1] at h2
  exact ⟨_, rfl, ((Below.refl _ _).alloc (Nat.le_refl _) _).alloc (by rw [e1]; omega) _, h1, h2⟩
set_option maxRecDepth 4000 in
theorem VarR.four {t : TypeId} {W : World} {g : Nat} {a b c d : Value} (h : VarR t W g #[a, b, c, d]) : W.cell? ⟨g, 0, none⟩ = some a ∧ W.cell? ⟨g, 1, none⟩ = some b ∧ W.cell? ⟨g, 2, none⟩ = some c ∧ W.cell? ⟨g, 3, none⟩ = some d := ⟨h.cell 0 _ rfl, h.cell 1 _ rfl, h.cell 2 _ rfl, h.cell 3 _ rfl⟩

set_option maxRecDepth 100000 in
set_option maxHeartbeats 4000000 in
theorem rrange_at {w : World} {c d : GC} {a f b g : List Int × Int} {E : Bool} (h1 : GkA w c a f) (h2 : GkA w d b g) (hE : (samP a b && samP f g) = E) : Calls Try.prog 27 #[.agg c.row, .agg d.row] w (Still (.bool E) w) := by
  subst hE
  obtain ⟨W0, hW, hb0, v1, v2⟩ := lrows2 w 32 c.row d.row
  have HK1 := hd (fun W (h : Below W0.heap.size W0 W) => (v1.keep h).four)
  have HK2 := hd (fun W (h : Below W0.heap.size W0 W) => (v2.keep h).four)
  have HA := hd (fun W (h : Below W0.heap.size W0 W) => (h1.later hb0).later h)
  have HB := hd (fun W (h : Below W0.heap.size W0 W) => (h2.later hb0).later h)
  have HW := hd hW
  have HB0 := hd hb0
  have HBc := hd (Below.refl W0.heap.size W0)
  clear hW hb0 v1 v2 h1 h2
  obtain ⟨E1, hE1⟩ : ∃ E1, samP a b = E1 := ⟨_, rfl⟩
  obtain ⟨E2, hE2⟩ : ∃ E2, samP f g = E2 := ⟨_, rfl⟩
  rw [hE1, hE2]
  have H1 := hd hE1
  have H2 := hd hE2
  clear hE1 hE2
  obtain ⟨u0, u1, u2, u3⟩ := HK1.out _ HBc.out
  obtain ⟨v0, v1, v2, v3⟩ := HK2.out _ HBc.out
  go_enter Try.func27, Try.ntmps27
  go_upto_region 1 with fail
  rw [HW.out]
  go_wp2_with (first
    | (go_at_call 26; have _g := H1; refine Calls.mono (rpt_same (HA.out _ HBc.out).pa (HB.out _ HBc.out).pa H1.out) ?_; clear H1; rintro e w9 ⟨rfl, b9⟩; have HBc := hd (step_b HBc.out b9); clear b9 u0 u1 u2 u3 v0 v1 v2 v3; obtain ⟨u0, u1, u2, u3⟩ := HK1.out _ HBc.out; obtain ⟨v0, v1, v2, v3⟩ := HK2.out _ HBc.out)
    | (go_at_call 26; have _g := H2; refine Calls.mono (rpt_same (HA.out _ HBc.out).pf (HB.out _ HBc.out).pf H2.out) ?_; clear H2; rintro e w9 ⟨rfl, b9⟩; have HBc := hd (step_b HBc.out b9); clear b9 u0 u1 u2 u3 v0 v1 v2 v3))
  all_goals (go_ret; exact ⟨ret_bool (by simp [*]), HB0.out.trans (HBc.out.mono HB0.out.size)⟩)

set_option maxRecDepth 4000 in
theorem VarR.eleven {t : TypeId} {W : World} {g : Nat} {c : RC} (h : VarR t W g c.row) : (W.cell? ⟨g, 0, none⟩ = some (.int .i64 c.id) ∧ W.cell? ⟨g, 1, none⟩ = some (.int .i64 c.kind) ∧ W.cell? ⟨g, 2, none⟩ = some (.int .i64 c.aff) ∧ W.cell? ⟨g, 3, none⟩ = some (.bool c.live)) ∧ W.cell? ⟨g, 4, none⟩ = some (.slice c.P c.np c.cp) ∧
    (W.cell? ⟨g, 5, none⟩ = some (.slice c.Q c.nq c.cq) ∧ W.cell? ⟨g, 6, none⟩ = some (.int .i64 c.qo)) ∧ W.cell? ⟨g, 7, none⟩ = some (.slice c.A c.na c.ca) ∧ W.cell? ⟨g, 8, none⟩ = some (.int .i64 c.ao) ∧ W.cell? ⟨g, 9, none⟩ = some (.slice c.F c.nf c.cf) ∧ W.cell? ⟨g, 10, none⟩ = some (.int .i64 c.fo) :=
  ⟨⟨h.cell 0 _ rfl, h.cell 1 _ rfl, h.cell 2 _ rfl, h.cell 3 _ rfl⟩, h.cell 4 _ rfl, ⟨h.cell 5 _ rfl, h.cell 6 _ rfl⟩, h.cell 7 _ rfl, h.cell 8 _ rfl, h.cell 9 _ rfl, h.cell 10 _ rfl⟩
set_option maxRecDepth 100000 in
set_option maxHeartbeats 8000000 in
theorem rsameref_0 {w : World} {c d : RC} (e0 : (c.id == d.id) = false) : Calls Try.prog 18 #[.agg c.row, .agg d.row] w (Still (.bool false) w) := by
  obtain ⟨W0, hW, hb0, v1, v2⟩ := lrows2 w 34 c.row d.row
  have HK1 := hd (fun W (h : Below W0.heap.size W0 W) => (v1.keep h).eleven)
  have HK2 := hd (fun W (h : Below W0.heap.size W0 W) => (v2.keep h).eleven)
  have HW := hd hW
  have HB0 := hd hb0
  have HBc := hd (Below.refl W0.heap.size W0)
  clear hW hb0 v1 v2
  obtain ⟨⟨u0, u1, u2, u3⟩, u4, _⟩ := HK1.out _ HBc.out
  obtain ⟨⟨v0, v1, v2, v3⟩, v4, _⟩ := HK2.out _ HBc.out
  go_enter Try.func18, Try.ntmps18
  go_upto_region 1 with fail
  rw [HW.out]
  go_wp2_with fail
  go_ret
  exact ⟨rfl, HB0.out.trans (HBc.out.mono HB0.out.size)⟩
set_option maxRecDepth 100000 in
set_option maxHeartbeats 8000000 in
theorem rsameref_1 {w : World} {c d : RC} (e0 : (c.id == d.id) = true) (e1 : (c.kind == d.kind) = false) : Calls Try.prog 18 #[.agg c.row, .agg d.row] w (Still (.bool false) w) := by
  obtain ⟨W0, hW, hb0, v1, v2⟩ := lrows2 w 34 c.row d.row
  have HK1 := hd (fun W (h : Below W0.heap.size W0 W) => (v1.keep h).eleven)
  have HK2 := hd (fun W (h : Below W0.heap.size W0 W) => (v2.keep h).eleven)
  have HW := hd hW
  have HB0 := hd hb0
  have HBc := hd (Below.refl W0.heap.size W0)
  clear hW hb0 v1 v2
  obtain ⟨⟨u0, u1, u2, u3⟩, u4, _⟩ := HK1.out _ HBc.out
  obtain ⟨⟨v0, v1, v2, v3⟩, v4, _⟩ := HK2.out _ HBc.out
  go_enter Try.func18, Try.ntmps18
  go_upto_region 1 with fail
  rw [HW.out]
  go_wp2_with fail
  go_ret
  exact ⟨rfl, HB0.out.trans (HBc.out.mono HB0.out.size)⟩
set_option maxRecDepth 100000 in
set_option maxHeartbeats 8000000 in
theorem rsameref_2 {w : World} {c d : RC} (e0 : (c.id == d.id) = true) (e1 : (c.kind == d.kind) = true) (e2 : (c.aff == d.aff) = false) : Calls Try.prog 18 #[.agg c.row, .agg d.row] w (Still (.bool false) w) := by
  obtain ⟨W0, hW, hb0, v1, v2⟩ := lrows2 w 34 c.row d.row
  have HK1 := hd (fun W (h : Below W0.heap.size W0 W) => (v1.keep h).eleven)
  have HK2 := hd (fun W (h : Below W0.heap.size W0 W) => (v2.keep h).eleven)
  have HW := hd hW
  have HB0 := hd hb0
  have HBc := hd (Below.refl W0.heap.size W0)
  clear hW hb0 v1 v2
  obtain ⟨⟨u0, u1, u2, u3⟩, u4, _⟩ := HK1.out _ HBc.out
  obtain ⟨⟨v0, v1, v2, v3⟩, v4, _⟩ := HK2.out _ HBc.out
  go_enter Try.func18, Try.ntmps18
  go_upto_region 1 with fail
  rw [HW.out]
  go_wp2_with fail
  go_ret
  exact ⟨rfl, HB0.out.trans (HBc.out.mono HB0.out.size)⟩
set_option maxRecDepth 100000 in
set_option maxHeartbeats 8000000 in
theorem rsameref_3 {w : World} {c d : RC} (e0 : (c.id == d.id) = true) (e1 : (c.kind == d.kind) = true) (e2 : (c.aff == d.aff) = true) (e3 : (c.live == d.live) = false) : Calls Try.prog 18 #[.agg c.row, .agg d.row] w (Still (.bool false) w) := by
  obtain ⟨W0, hW, hb0, v1, v2⟩ := lrows2 w 34 c.row d.row
  have HK1 := hd (fun W (h : Below W0.heap.size W0 W) => (v1.keep h).eleven)
  have HK2 := hd (fun W (h : Below W0.heap.size W0 W) => (v2.keep h).eleven)
  have HW := hd hW
  have HB0 := hd hb0
  have HBc := hd (Below.refl W0.heap.size W0)
  clear hW hb0 v1 v2
  obtain ⟨⟨u0, u1, u2, u3⟩, u4, _⟩ := HK1.out _ HBc.out
  obtain ⟨⟨v0, v1, v2, v3⟩, v4, _⟩ := HK2.out _ HBc.out
  go_enter Try.func18, Try.ntmps18
  go_upto_region 1 with fail
  rw [HW.out]
  go_wp2_with fail
  go_ret
  exact ⟨rfl, HB0.out.trans (HBc.out.mono HB0.out.size)⟩
set_option maxRecDepth 100000 in
set_option maxHeartbeats 8000000 in
theorem rsameref_4 {w : World} {c d : RC} {r s : RefP} (h1 : RkA w c r) (h2 : RkA w d s) (f1 : fewR r = true) (f2 : fewR s = true) (e0 : (c.id == d.id) = true) (e1 : (c.kind == d.kind) = true) (e2 : (c.aff == d.aff) = true) (e3 : (c.live == d.live) = true) : Calls Try.prog 18 #[.agg c.row, .agg d.row] w (Still (.bool (decide (r.p = s.p) && (samP r.q s.q && (samP r.a s.a && samP r.f s.f)))) w) := by
  obtain ⟨W0, hW, hb0, v1, v2⟩ := lrows2 w 34 c.row d.row
  have HK1 := hd (fun W (h : Below W0.heap.size W0 W) => (v1.keep h).eleven)
  have HK2 := hd (fun W (h : Below W0.heap.size W0 W) => (v2.keep h).eleven)
  have HW := hd hW
  have HB0 := hd hb0
  have HBc := hd (Below.refl W0.heap.size W0)
  have HA := hd (fun W (h : Below W0.heap.size W0 W) => (h1.later hb0).later h)
  have HB := hd (fun W (h : Below W0.heap.size W0 W) => (h2.later hb0).later h)
  have HF1 := hd f1
  have HF2 := hd f2
  obtain ⟨E1, hE1⟩ : ∃ E1, decide (r.p = s.p) = E1 := ⟨_, rfl⟩
  obtain ⟨E2, hE2⟩ : ∃ E2, samP r.q s.q = E2 := ⟨_, rfl⟩
  obtain ⟨E3, hE3⟩ : ∃ E3, (samP r.a s.a && samP r.f s.f) = E3 := ⟨_, rfl⟩
  rw [hE1, hE2, hE3]
  have H1 := hd (show samI r.p s.p = E1 from hE1)
  have H2 := hd hE2
  have H3 := hd hE3
  clear hE1 hE2 hE3
  clear hW hb0 v1 v2 h1 h2 f1 f2
  obtain ⟨⟨u0, u1, u2, u3⟩, u4, _⟩ := HK1.out _ HBc.out
  obtain ⟨⟨v0, v1, v2, v3⟩, v4, _⟩ := HK2.out _ HBc.out
  go_enter Try.func18, Try.ntmps18
  go_upto_region 1 with fail
  rw [HW.out]
  go_wp2_with (first
    | (go_at_call 31; have _g := H1; refine Calls.mono (xrsame_at ((HA.out _ HBc.out).path HF1.out) ((HB.out _ HBc.out).path HF2.out) H1.out) ?_; clear H1; rintro e w9 ⟨rfl, b9⟩; have HBc := hd (step_b HBc.out b9); clear b9 u0 u1 u2 u3 u4 v0 v1 v2 v3 v4; obtain ⟨_, _, ⟨u5, u6⟩, _⟩ := HK1.out _ HBc.out; obtain ⟨_, _, ⟨v5, v6⟩, _⟩ := HK2.out _ HBc.out)
    | (go_at_call 26; have _g := H2; refine Calls.mono (rpt_same ((HA.out _ HBc.out).pt HF1.out) ((HB.out _ HBc.out).pt HF2.out) H2.out) ?_; clear H2; rintro e w9 ⟨rfl, b9⟩; have HBc := hd (step_b HBc.out b9); clear b9 u5 u6 v5 v6; obtain ⟨_, _, _, u7, u8, u9, u10⟩ := HK1.out _ HBc.out; obtain ⟨_, _, _, v7, v8, v9, v10⟩ := HK2.out _ HBc.out)
    | (go_at_call 27; have _g := H3; refine Calls.mono (rrange_at (c := c.rng) (d := d.rng) ((HA.out _ HBc.out).rng HF1.out) ((HB.out _ HBc.out).rng HF2.out) H3.out) ?_; clear H3; rintro e w9 ⟨rfl, b9⟩; have HBc := hd (step_b HBc.out b9); clear b9 u7 u8 u9 u10 v7 v8 v9 v10))
  all_goals (go_ret; exact ⟨ret_bool (by simp [*]), HB0.out.trans (HBc.out.mono HB0.out.size)⟩)
set_option maxRecDepth 4000 in
theorem rsameref_at {w : World} {c d : RC} {r s : RefP} {E : Bool} (h1 : RkA w c r) (h2 : RkA w d s) (f1 : fewR r = true) (f2 : fewR s = true) (hE : samR r s = E) : Calls Try.prog 18 #[.agg c.row, .agg d.row] w (Still (.bool E) w) := by
  subst hE
  rw [samR, h1.hid, h2.hid, h1.hk, h2.hk, h1.ha, h2.ha, h1.hlv, h2.hlv]
  cases e0 : (c.id == d.id)
  · exact rsameref_0 e0
  cases e1 : (c.kind == d.kind)
  · exact rsameref_1 e0 e1
  cases e2 : (c.aff == d.aff)
  · exact rsameref_2 e0 e1 e2
  cases e3 : (c.live == d.live)
  · exact rsameref_3 e0 e1 e2 e3
  exact rsameref_4 h1 h2 f1 f2 e0 e1 e2 e3

end Go.Proofs.Ytmglnjmnabjjgaa

namespace Go.Proofs.Ytmglnjmnabjjgaa
open Go.RowKit

section
variable {P : Program} {ops : Array Oper} {Q : Exit → Act → World → Prop} {S : World → Prop} {z : Nat → Bool}
/-- Whatever order is picked from here on; S holds behind every operation but those that z names. -/
def wpAnyY (P : Program) (ops : Array Oper) (Q : Exit → Act → World → Prop) (S : World → Prop) (z : Nat → Bool) : Nat → Array Bool → Act → World → Prop
  | 0, listed, a, w => Region.ready .any ops listed = [] ∧ Q .normal a w
  | n + 1, listed, a, w => (Region.ready .any ops listed = [] → Q .normal a w) ∧
      ∀ i ∈ Region.ready .any ops listed, wpOp P ops Q i (fun a' w' => (z i = false → S w') ∧ wpAnyY P ops Q S z n (listed.setIfInBounds i true) a' w') a w
set_option maxRecDepth 4000 in
theorem any_of_Y : ∀ (n : Nat) (listed : Array Bool) (a : Act) (w : World), wpAnyY P ops Q S z n listed a w → wpAny P .any ops Q n listed a w
  | 0, _, _, _, h => h
  | n + 1, _, _, _, h => ⟨h.1, fun i hi => wpOp_mono (fun a' w' h' => any_of_Y n _ a' w' h'.2) (h.2 i hi)⟩
/-- Each of the operations that z names waits for operation i. -/
def waitsY (ops : Array Oper) (z : Nat → Bool) (i : Nat) : Bool := (List.range ops.size).all fun j => !z j || match ops[j]? with
  | some o => o.after.toList.any fun e => Region.binds .any e && e.on == i
  | none => false
set_option maxRecDepth 4000 in
theorem waits_at {i j : Nat} {o : Oper} (h : waitsY ops z i = true) (hj : ops[j]? = some o) (hz : z j = true) : ∃ e ∈ o.after, Region.binds .any e = true ∧ e.on = i := by
  have hl := (Array.getElem?_eq_some_iff.1 hj).1
  have h1 := List.all_eq_true.1 h j (List.mem_range.2 hl)
  rw [hz, hj] at h1
  simp only [Bool.not_true, Bool.false_or] at h1
  obtain ⟨x, hx, hx2⟩ := List.any_eq_true.1 h1
  simp only [Bool.and_eq_true, beq_iff_eq] at hx2
  exact ⟨x, by simpa using hx, hx2.1, hx2.2⟩
set_option maxRecDepth 4000 in
/-- What z waits for, and yields the same in every world that meets S, may be taken first. -/
theorem Y_first {i : Nat} {oi : Oper} {v : Value} (hi : ops[i]? = some oi) (hsel : Region.noSelect ops = true) (hz : waitsY ops z i = true)
    (hQ : ∀ c a w, Q (.panic c) (a.put oi.dst v) w → Q (.panic c) a w) :
    ∀ (n : Nat) (listed : Array Bool) (a : Act) (w : World),
      (∀ j oj, ops[j]? = some oj → j ≠ i → listed.getD j true = false → (∀ e ∈ oj.after, Region.binds .any e = true → e.on ≠ i) → oi.apart ops oj = true) →
      i ∈ Region.ready .any ops listed → YieldsIf P ops S oi v a → S w →
      wpAnyY P ops Q S z n (listed.setIfInBounds i true) (a.put oi.dst v) w → wpAnyY P ops Q S z (n + 1) listed a w := by
  have sel := Region.noSelect_spec hsel
  intro n
  induction n with
  | zero =>
    intro listed a w _ hr hy hS H
    refine ⟨fun h => absurd hr (by rw [h]; simp), fun j hj => ?_⟩
    rcases Classical.em (j = i) with e | e
    · subst e; exact hy.wpOp hi hS ⟨fun _ => hS, H⟩
    · have := ready_mono hj e
      rw [H.1] at this; cases this
  | succ n ih =>
    intro listed a w hfree hr hy hS H
    refine ⟨fun h => absurd hr (by rw [h]; simp), fun j hj => ?_⟩
    rcases Classical.em (j = i) with e | e
    · subst e; exact hy.wpOp hi hS ⟨fun _ => hS, H⟩
    · obtain ⟨hjun, oj, hoj, hall⟩ := mem_ready.1 hj
      have hiun := (mem_ready.1 hr).1
      have hno : ∀ e ∈ oj.after, Region.binds .any e = true → e.on ≠ i := fun x hx hb heq => by
        have h1 := hall x hx hb
        rw [heq] at h1
        rcases Nat.lt_or_ge i listed.size with h' | h'
        · simp [h'] at hiun h1; rw [hiun] at h1; cases h1
        · simp [Array.getElem?_eq_none h'] at h1
      have hjz : z j = false := by
        cases ez : z j with
        | false => rfl
        | true =>
          obtain ⟨x, hx, hx2, hx3⟩ := waits_at hz hoj ez
          exact absurd hx3 (hno x hx hx2)
      have h2 := wpOp_putIf hoj (hfree j oj hoj e hjun hno) (fun cs b => sel i oi cs b hi) (fun cs b => sel j oj cs b hoj) hQ hy (H.2 j (ready_mono hj e))
      refine wpOp_mono (fun a' w' h3 => ⟨h3.2.1, ih (listed.setIfInBounds j true) a' w' (fun k ok hk hki hun hn => hfree k ok hk hki ?_ hn) (ready_mono hr (Ne.symm e)) h3.1 (h3.2.1 hjz) ?_⟩) h2
      · rcases Classical.em (j = k) with ek | ek
        · subst ek; exact hjun
        · rw [getD_set_ne true ek] at hun; exact hun
      · rw [Array.setIfInBounds_comm _ _ e]; exact h3.2.2
set_option maxRecDepth 4000 in
theorem Y_take {i : Nat} {oi : Oper} (v : Value) {n : Nat} {listed : Array Bool} {a : Act} {w : World} (hi : ops[i]? = some oi) (hs : Region.noSelect ops = true) (hz : waitsY ops z i = true) (hf : Region.free .any ops listed i = true) (hr : (Region.ready .any ops listed).contains i = true)
    (hQ : ∀ c a w, Q (.panic c) (a.put oi.dst v) w → Q (.panic c) a w) (hw : Region.wanted oi (yielded ops a.tmps) = true) (hy : ∀ w, S w → (execOp a.eval oi).run P w = .ok (.value v) w) (hS : S w)
    (h : wpAnyY P ops Q S z n (listed.setIfInBounds i true) (a.put oi.dst v) w) : wpAnyY P ops Q S z (n + 1) listed a w :=
  Y_first hi hs hz hQ n listed a w (Region.free_spec hi hf) (by simpa using hr) (.inl ⟨hw, hy⟩) hS h
set_option maxRecDepth 4000 in
/-- Just one may come up. -/
theorem Y_one {i : Nat} {o : Oper} {n : Nat} {listed : Array Bool} {a : Act} {w : World} (hr : Region.ready .any ops listed = [i]) (hi : ops[i]? = some o)
    (h : ∀ K : Act → World → Prop, (∀ a' w', (z i = false → S w') → wpAnyY P ops Q S z n (listed.setIfInBounds i true) a' w' → K a' w') → if Region.wanted o (yielded ops a.tmps) = true then Oper.wp P o a w K Q else False) : wpAnyY P ops Q S z (n + 1) listed a w := by
  refine ⟨fun e => absurd (e.symm.trans hr) (by simp), fun j hj => ?_⟩
  rw [hr, List.mem_singleton] at hj
  subst hj
  have h1 := h (fun a' w' => (z j = false → S w') ∧ wpAnyY P ops Q S z n (listed.setIfInBounds j true) a' w') (fun a' w' h1 h2 => ⟨h1, h2⟩)
  unfold wpOp
  simp only [hi]
  split
  · rename_i hw
    rw [if_pos hw] at h1
    exact .inl h1
  · rename_i hw
    rw [if_neg hw] at h1
    exact h1.elim
set_option maxRecDepth 4000 in
theorem Y_done {n : Nat} {listed : Array Bool} {a : Act} {w : World} (hr : Region.ready .any ops listed = []) (h : Q .normal a w) : wpAnyY P ops Q S z n listed a w := by
  cases n with
  | zero => exact ⟨hr, h⟩
  | succ n => exact ⟨fun _ => h, by rw [hr]; simp⟩
set_option maxRecDepth 4000 in
theorem Y_start {id : Nat} {a : Act} {w : World} (hm : P.follows .mixedOrders = true) (h : wpAnyY P ops Q S z ops.size (Array.replicate ops.size false) a w.drew) : (Code.region id ops true).wp P Q a w :=
  wp_region_any hm (any_of_Y _ _ _ _ h)
end

end Go.Proofs.Ytmglnjmnabjjgaa

namespace Go.Proofs.Ytmglnjmnabjjgaa
open Go.RowKit

theorem rangeAt_r {w w' : World} {b o : Nat} {cs : List Value} (h : w.rangeAt b o cs) (hb : b < w.heap.size) (ho : Below w.heap.size w w') : w'.rangeAt b o cs := fun j v hv => by
  rw [ho.cell (p := ⟨b, o + j, none⟩) hb]
  exact h j v hv
set_option maxRecDepth 4000 in
theorem exec_load_ref {a : Act} {o : Oper} {W : World} {g off : Nat} {c : RC} (h : W.rangeAt g off c.row.toList) (x : Operand) (ho : o.op = .load 34 x) (hx : a.eval x = .pointer (some ⟨g, off, none⟩)) : (execOp a.eval o).run Try.prog W = .ok (.value (.agg c.row)) W := by
  obtain ⟨d, h1, h2, h3⟩ := rowT_ref
  have hr := run_loadAt_mid W g off 34 c.row.toList d h h1 h2 h3
  unfold execOp
  simp only [Instr.loadAt, Instr.sureAddr, Sem.run_bind, Sem.run_pure, Result.andThen_ok] at hr
  simp only [ho, hx, Instr.loadAt, Instr.sureAddr, Sem.run_bind, Sem.run_pure, Result.andThen_ok, hr]

set_option maxRecDepth 4000 in
/-- A new variable that holds a ref. -/
theorem ref_var (w : World) (c : RC) : VarR 34 (w.alloc (.cells c.row 34)) w.heap.size c.row ∧ Below w.heap.size w (w.alloc (.cells c.row 34)) := ⟨VarR.new w _ _, (Below.refl _ _).alloc (Nat.le_refl _) _⟩
set_option maxRecDepth 4000 in
theorem wpList_store_ref {ops : Array Oper} {rest : List Oper} {op : Oper} {a : Act} {W : World} {Q : Exit → Act → World → Prop} {g : Nat} {old : Array Value} {c : RC} (x y : Operand) (ho : op.op = .store 34 x y) (hgd : op.guard = none) (hd : op.dst = none) (hx : a.eval x = .pointer (some ⟨g, 0, none⟩)) (hy : a.eval y = .agg c.row) (hg : W.heap.size = g) (hold : old.size = 11)
    (hk : wpList Try.prog ops Q rest a (W.alloc (.cells c.row 34))) : wpList Try.prog ops Q (op :: rest) a (W.alloc (.cells old 34)) := by
  subst hg
  obtain ⟨d, h3, h4, h5⟩ := rowT_ref
  have hrun := run_storeVar_row (P := Try.prog) (W.alloc (.cells old 34)) W.heap.size 34 34 old c.row (heap_alloc_new _ _) h5 hold c.one
  rw [setRow_new] at hrun
  refine wpList_plain hgd fun K hK => ?_
  unfold Oper.wp execOp
  simp only [ho, hx, hy, Instr.storeAt, Instr.sureAddr, Sem.run_bind, Sem.run_pure, Result.andThen_ok, hrun]
  show K (a.put op.dst undef) _
  rw [hd]
  exact hK _ _ hk

set_option maxRecDepth 100000 in
set_option maxHeartbeats 8000000 in
theorem fewrs_at {w : World} {A : Option Addr} {cs : List RC} {us : List RefP} {n cap : Nat} {E : Bool} (h : LR w A cs us) (hn : us.length = n) (h63 : n ≤ 9223372036854775807) (hE : fewRs us = E) : Calls Try.prog 8 #[.slice A n cap] w (Still (.bool E) w) := by
  subst hE
  have HL := hd h
  have HN := hd hn
  clear h hn
  go_enter Try.func8, Try.ntmps8
  go_wp2_with fail
  go_loopw [7] (fun i wr => ∃ k : Nat, k ≤ n ∧ i = .int .i64 k ∧ Hid (∀ (j : Nat) (a : RefP), j < k → us[j]? = some a → fewR a = true) ∧ Hid (Below w.heap.size w wr)) (fun i _ => n - (intOf i).toNat)
  case atStart => exact ⟨0, Nat.zero_le _, rfl, hd (fun j a hj => absurd hj (Nat.not_lt_zero _)), hd (Below.refl _ _)⟩
  case round =>
    obtain ⟨k, hk1, rfl, HA, HB⟩ := hrel
    by_cases hlt : k < n
    · obtain ⟨b, o, c, a, rfl, hb, hc, ha, hok, hrg⟩ := (HL.out.later HB.out).at_ (k := k) (by rw [HN.out]; exact hlt)
      have HR := hd hrg
      have HAk := hd ha
      have HM := hd (show c.np ≤ 9223372036854775807 ∧ c.nq ≤ 9223372036854775807 ∧ c.na ≤ 9223372036854775807 ∧ c.nf ≤ 9223372036854775807 from ⟨hok.hp.max, hok.hq.max, hok.haa.max, hok.hf.max⟩)
      have HE := hd (show fewR a = (decide (c.np ≤ 50) && (decide (c.nq ≤ 50) && (decide (c.na ≤ 50) && decide (c.nf ≤ 50)))) by rw [fewR, hok.hp.len, hok.hq.len, hok.haa.len, hok.hf.len])
      clear hb hc ha hok hrg
      by_cases hf : fewR a = true
      · have HA2 := hd (show ∀ (j : Nat) (a : RefP), j < k + 1 → us[j]? = some a → fewR a = true from fun j x hj hx => by
          rcases Nat.lt_or_ge j k with h1 | h1
          · exact HA.out j x h1 hx
          · obtain rfl : j = k := by omega
            rw [HAk.out] at hx
            injection hx with hx
            subst hx
            exact hf)
        rw [HE.out] at hf
        obtain ⟨f1, f2, f3, f4⟩ : c.np ≤ 50 ∧ c.nq ≤ 50 ∧ c.na ≤ 50 ∧ c.nf ≤ 50 := by simpa [and_assoc] using hf
        clear hf HA
        go_wp2_with (first
          | ((with_reducible refine gd_load (ty := 34) (x := .tmp 9) ?_); refine wpList_load_ref HR.out _ rfl rfl rfl ?_)
          | ((with_reducible refine gd_store (ty := 34) (x := .tmp 4) ?_); refine wpList_store_ref (c := c) _ _ rfl rfl rfl rfl rfl rfl rfl ?_; have hv9 := (ref_var wr c).1; have HB := hd (step_b HB.out (ref_var wr c).2); obtain ⟨_, u4, ⟨u5, _⟩, u7, _, u9, _⟩ := hv9.eleven; clear hv9))
        go_roundw
        case rel => exact ⟨k + 1, by omega, by go_num, HA2, HB⟩
        case measure => simp [intOf]; omega
      · have HZ := hd (fewRs_no HAk.out (by simpa using hf))
        rw [HE.out] at hf
        clear HA HE
        obtain ⟨m1, m2, m3, m4⟩ := HM.out
        by_cases f1 : c.np ≤ 50
        · by_cases f2 : c.nq ≤ 50
          · by_cases f3 : c.na ≤ 50
            · have f4 : ¬ c.nf ≤ 50 := fun f4 => hf (by simp [f1, f2, f3, f4])
              clear hf
              go_wp2_with (first
                | ((with_reducible refine gd_load (ty := 34) (x := .tmp 9) ?_); refine wpList_load_ref HR.out _ rfl rfl rfl ?_)
                | ((with_reducible refine gd_store (ty := 34) (x := .tmp 4) ?_); refine wpList_store_ref (c := c) _ _ rfl rfl rfl rfl rfl rfl rfl ?_; have hv9 := (ref_var wr c).1; have HB := hd (step_b HB.out (ref_var wr c).2); obtain ⟨_, u4, ⟨u5, _⟩, u7, _, u9, _⟩ := hv9.eleven; clear hv9))
              go_ret
              exact ⟨by rw [HZ.out]; rfl, HB.out⟩
            · clear hf
              go_wp2_with (first
                | ((with_reducible refine gd_load (ty := 34) (x := .tmp 9) ?_); refine wpList_load_ref HR.out _ rfl rfl rfl ?_)
                | ((with_reducible refine gd_store (ty := 34) (x := .tmp 4) ?_); refine wpList_store_ref (c := c) _ _ rfl rfl rfl rfl rfl rfl rfl ?_; have hv9 := (ref_var wr c).1; have HB := hd (step_b HB.out (ref_var wr c).2); obtain ⟨_, u4, ⟨u5, _⟩, u7, _, u9, _⟩ := hv9.eleven; clear hv9))
              go_ret
              exact ⟨by rw [HZ.out]; rfl, HB.out⟩
          · clear hf
            go_wp2_with (first
              | ((with_reducible refine gd_load (ty := 34) (x := .tmp 9) ?_); refine wpList_load_ref HR.out _ rfl rfl rfl ?_)
              | ((with_reducible refine gd_store (ty := 34) (x := .tmp 4) ?_); refine wpList_store_ref (c := c) _ _ rfl rfl rfl rfl rfl rfl rfl ?_; have hv9 := (ref_var wr c).1; have HB := hd (step_b HB.out (ref_var wr c).2); obtain ⟨_, u4, ⟨u5, _⟩, u7, _, u9, _⟩ := hv9.eleven; clear hv9))
            go_ret
            exact ⟨by rw [HZ.out]; rfl, HB.out⟩
        · clear hf
          go_wp2_with (first
            | ((with_reducible refine gd_load (ty := 34) (x := .tmp 9) ?_); refine wpList_load_ref HR.out _ rfl rfl rfl ?_)
            | ((with_reducible refine gd_store (ty := 34) (x := .tmp 4) ?_); refine wpList_store_ref (c := c) _ _ rfl rfl rfl rfl rfl rfl rfl ?_; have hv9 := (ref_var wr c).1; have HB := hd (step_b HB.out (ref_var wr c).2); obtain ⟨_, u4, ⟨u5, _⟩, u7, _, u9, _⟩ := hv9.eleven; clear hv9))
          go_ret
          exact ⟨by rw [HZ.out]; rfl, HB.out⟩
    · obtain rfl : k = n := by omega
      have HZ := hd (fewRs_yes (l := us) (fun j a hj => HA.out j a (by rw [← HN.out]; exact (List.getElem?_eq_some_iff.1 hj).1) hj))
      clear HA hk1 hlt
      go_wp2_with fail
      go_ret
      exact ⟨ret_bool (by rw [HZ.out, HN.out]; simp; omega), HB.out⟩

set_option maxRecDepth 100000 in
set_option maxHeartbeats 8000000 in
theorem rsames_at {w : World} {A B : Option Addr} {cs ds : List RC} {us vs : List RefP} {n m cap dap : Nat} {E : Bool} (h : LR w A cs us) (g : LR w B ds vs) (hn : us.length = n) (hm : vs.length = m) (h63 : n ≤ 9223372036854775807) (h64 : m ≤ 9223372036854775807) (tu : ∀ r ∈ us, fewR r = true) (tv : ∀ r ∈ vs, fewR r = true) (hE : samRs us vs = E) :
    Calls Try.prog 11 #[.slice A n cap, .slice B m dap] w (Still (.bool E) w) := by
  subst hE
  have HL := hd h
  have HG := hd g
  have HN := hd hn
  have HM := hd hm
  have HTU := hd tu
  have HTV := hd tv
  clear h g hn hm tu tv
  by_cases hnm : n = m
  · subst hnm
    go_enter Try.func11, Try.ntmps11
    go_wp2_with fail
    go_loopw [13] (fun i wr => ∃ k : Nat, k ≤ n ∧ i = .int .i64 k ∧ Hid (∀ (j : Nat) (a b : RefP), j < k → us[j]? = some a → vs[j]? = some b → samR a b = true) ∧ Hid (Below w.heap.size w wr)) (fun i _ => n - (intOf i).toNat)
    case atStart => exact ⟨0, Nat.zero_le _, rfl, hd (fun j a b hj => absurd hj (Nat.not_lt_zero _)), hd (Below.refl _ _)⟩
    case round =>
      obtain ⟨k, hk1, rfl, HA, HB⟩ := hrel
      by_cases hlt : k < n
      · obtain ⟨b1, o1, c1, a1, rfl, hb1, hc1, ha1, hok1, hrg1⟩ := (HL.out.later HB.out).at_ (k := k) (by rw [HN.out]; exact hlt)
        obtain ⟨b2, o2, c2, a2, rfl, hb2, hc2, ha2, hok2, hrg2⟩ := (HG.out.later HB.out).at_ (k := k) (by rw [HM.out]; exact hlt)
        have HO1 := hd hok1
        have HO2 := hd hok2
        have HR1 := hd (fun W9 (h9 : Below wr.heap.size wr W9) => rangeAt_r hrg1 hb1 h9)
        have HR2 := hd (fun W9 (h9 : Below wr.heap.size wr W9) => rangeAt_r hrg2 hb2 h9)
        have HA1 := hd ha1
        have HA2 := hd ha2
        clear hb1 hc1 ha1 hok1 hrg1 hb2 hc2 ha2 hok2 hrg2
        obtain ⟨E, he⟩ : ∃ E, samR a1 a2 = E := ⟨_, rfl⟩
        have HE := hd he
        clear he
        go_upto_region 6 with fail
        refine Y_start (S := fun W' => Below wr.heap.size wr W') (z := fun _ => false) (by kernel_rfl) ?_
        have HSS := hd (show Below wr.heap.size wr wr.drew from (Below.refl _ _).drew)
        refine Y_take (i := 0) (n := 9) (.slice (some ⟨b1, o1, none⟩) n cap) rfl (by kernel_rfl) (by kernel_rfl) (by kernel_rfl) (by kernel_rfl) (fun _ _ _ h => h) (by rfl) (fun W9 hW9 => ?_) HSS.out ?_
        · go_simp
        simp only [Act.put, List.setIfInBounds_toArray]
        refine Y_take (i := 1) (n := 8) (.int .i64 (k : Int)) rfl (by kernel_rfl) (by kernel_rfl) (by kernel_rfl) (by kernel_rfl) (fun _ _ _ h => h) (by rfl) (fun W9 hW9 => ?_) HSS.out ?_
        · go_simp
        simp only [Act.put]
        refine Y_take (i := 2) (n := 7) (.pointer (some ⟨b1, o1 + k * 11, none⟩)) rfl (by kernel_rfl) (by kernel_rfl) (by kernel_rfl) (by kernel_rfl) (fun _ _ _ h => h) (by rfl) (fun W9 hW9 => ?_) HSS.out ?_
        · go_simp
        simp only [Act.put]
        refine Y_take (i := 3) (n := 6) (.agg c1.row) rfl (by kernel_rfl) (by kernel_rfl) (by kernel_rfl) (by kernel_rfl) (fun _ _ _ h => h) (by rfl) (fun W9 hW9 => ?_) HSS.out ?_
        · exact exec_load_ref (HR1.out _ hW9) _ rfl rfl
        simp only [Act.put]
        refine Y_take (i := 4) (n := 5) (.slice (some ⟨b2, o2, none⟩) n dap) rfl (by kernel_rfl) (by kernel_rfl) (by kernel_rfl) (by kernel_rfl) (fun _ _ _ h => h) (by rfl) (fun W9 hW9 => ?_) HSS.out ?_
        · go_simp
        simp only [Act.put]
        refine Y_take (i := 5) (n := 4) (.int .i64 (k : Int)) rfl (by kernel_rfl) (by kernel_rfl) (by kernel_rfl) (by kernel_rfl) (fun _ _ _ h => h) (by rfl) (fun W9 hW9 => ?_) HSS.out ?_
        · go_simp
        simp only [Act.put]
        refine Y_take (i := 6) (n := 3) (.pointer (some ⟨b2, o2 + k * 11, none⟩)) rfl (by kernel_rfl) (by kernel_rfl) (by kernel_rfl) (by kernel_rfl) (fun _ _ _ h => h) (by rfl) (fun W9 hW9 => ?_) HSS.out ?_
        · go_simp
        simp only [Act.put]
        refine Y_take (i := 7) (n := 2) (.agg c2.row) rfl (by kernel_rfl) (by kernel_rfl) (by kernel_rfl) (by kernel_rfl) (fun _ _ _ h => h) (by rfl) (fun W9 hW9 => ?_) HSS.out ?_
        · exact exec_load_ref (HR2.out _ hW9) _ rfl rfl
        simp only [Act.put]
        refine Y_one (i := 8) (n := 1) (by kernel_rfl) rfl (fun K hK => ?_)
        rw [if_pos (by rfl)]
        go_simp
        go_at_call 18
        refine (rsameref_at (HO1.out.later HSS.out) (HO2.out.later HSS.out) (HTU.out _ (List.mem_of_getElem? HA1.out)) (HTV.out _ (List.mem_of_getElem? HA2.out)) HE.out).mono ?_
        rintro e w9 ⟨rfl, b9⟩
        have HSS := hd (step_b HSS.out b9)
        clear b9
        refine hK _ _ (fun _ => HSS.out) ?_
        clear hK K
        refine Y_one (i := 9) (n := 0) (by kernel_rfl) rfl (fun K hK => ?_)
        rw [if_pos (by rfl)]
        go_simp
        refine hK _ _ (fun _ => HSS.out) (Y_done (by kernel_rfl) ?_)
        clear hK K
        have HB := hd (step_b HB.out HSS.out)
        cases E
        · have HZ := hd (samRs_no us vs k a1 a2 HA1.out HA2.out HE.out)
          clear HA
          go_wp2_with fail
          go_ret
          exact ⟨by rw [HZ.out]; rfl, HB.out⟩
        · have HAn := hd (show ∀ (j : Nat) (a b : RefP), j < k + 1 → us[j]? = some a → vs[j]? = some b → samR a b = true from fun j a b hj h1 h2 => by
            rcases Nat.lt_or_ge j k with h | h
            · exact HA.out j a b h h1 h2
            · obtain rfl : j = k := by omega
              rw [HA1.out] at h1
              rw [HA2.out] at h2
              injection h1 with h1
              injection h2 with h2
              subst h1 h2
              exact HE.out)
          clear HA
          go_wp2_with fail
          go_roundw
          case rel => exact ⟨k + 1, by omega, by go_num, HAn, HB⟩
          case measure => simp [intOf]; omega
      · obtain rfl : k = n := by omega
        have HZ := hd (samRs_yes us vs (by rw [HN.out, HM.out]) (fun j a b h1 h2 => HA.out j a b (by rw [← HN.out]; exact (List.getElem?_eq_some_iff.1 h1).1) h1 h2))
        clear HA hk1 hlt
        go_wp2_with fail
        go_ret
        exact ⟨by rw [HZ.out]; rfl, HB.out⟩
  · have hx : ((n : Int) != (m : Int)) = true := by simp; omega
    have HZ := hd (samRs_len us vs (fun e => hnm (by rw [← HN.out, ← HM.out, e])))
    go_enter Try.func11, Try.ntmps11
    go_wp2_with fail
    go_ret
    exact ⟨by rw [HZ.out]; rfl, Below.refl _ _⟩

end Go.Proofs.Ytmglnjmnabjjgaa

namespace Go.Proofs.Ytmglnjmnabjjgaa
open Go.RowKit
set_option maxRecDepth 4000 in
/-- What a store of a whole ref leaves: all below, and the variable. -/
theorem off_step {w W W' : World} {g : Nat} (hb : Below w.heap.size w W) (ho : Off g W W') (hg : w.heap.size ≤ g) : Below w.heap.size w W' := off_below hb ho hg

end Go.Proofs.Ytmglnjmnabjjgaa
