/- Which kind undoes which: a map literal, asked. The calls on an operation's parts, in the world that they are made in. Fields stored into a variable of an operation. -/
import Derived.Test.YtdjajpookmmafaaBAt
import Derived.Maps.OwnOps
namespace Go.Proofs.Ytdjajpookmmafaa
open Go.RowKit Go.Maps

theorem key_kind : Keyed Try.prog 3 := int_keyed Try.underlying3
set_option maxRecDepth 4000 in
theorem zero_kind (w : World) : (zeroValue 3).run Try.prog w = .ok (.int .i64 0) w := by kernel_rfl
set_option maxRecDepth 4000 in
/-- An entry of a map literal. -/
theorem wpList_insert_own {H : Type} {P : Program} (w : World) {ops : Array Oper} {rest : List Oper} {o : Oper} {a : Act} {Q : Exit → Act → World → Prop}
    (hg : o.guard = none) (m x v : Operand) (t : TypeId) (hop : o.op = Op.insert t m x v)
    (k e : TypeId) (K : Keyed P k) (ht : P.underlying t = some (.map k e)) (R : Value → Option (DataW H × List MemPlace)) (b n : Nat) (D : DataW H)
    (hm : a.eval m = .map (some b)) (hown : w.ownsMap P k R b n D) (hn : n < maxLen) (key val : Value) (kl : Lit) (hx : a.eval x = key) (hv : a.eval v = val) (hkey : keyOf P k key = some kl)
    (d : DataW H) (ps : List MemPlace) (hval : R val = some (d, ps))
    (hK : ∀ w', w'.ownsMap P k R b (n + 1) (D.put kl d) → w.grownBy w' (some b) → wpList P ops Q rest (a.put o.dst undef) w') :
    wpList P ops Q (o :: rest) a w := by
  refine wpList_plain hg fun K' hK' => ?_
  obtain ⟨w', hrun, r1, r2⟩ := hown.update K ht hn hkey hval
  unfold Oper.wp
  simp [execOp, hop, hm, hx, hv, hrun, Result.andThen]
  exact hK' _ _ (hK w' r1 r2)

/-- Block g holds the map D, with at most n entries; it was made since w. -/
def MapO (w : World) (n : Nat) (D : DataW Unit) (w' : World) : Prop := w'.ownsMap Try.prog 3 (plainElem Try.prog 3) w.heap.size n D ∧ Below w.heap.size w w'
set_option maxRecDepth 4000 in
theorem MapO.made (w : World) : MapO w 0 (.map []) (w.alloc (.map #[] 0)) := ⟨World.ownsMap_made w Try.prog 3 _, (Below.refl _ _).alloc (Nat.le_refl _) _⟩
set_option maxRecDepth 4000 in
theorem MapO.next {w w1 w2 : World} {n : Nat} {D D' : DataW Unit} (h : MapO w n D w1) (h2 : w2.ownsMap Try.prog 3 (plainElem Try.prog 3) w.heap.size (n + 1) D') (hg : w1.grownBy w2 (some w.heap.size)) : MapO w (n + 1) D' w2 :=
  ⟨h2, h.2.grown hg h.2.size (fun j hj => by cases hj; exact Nat.le_refl _)⟩
def nine : DataW Unit := ((((((((((DataW.map []).put (.int .i64 1) (.lit (.int .i64 2))).put (.int .i64 2) (.lit (.int .i64 1))).put (.int .i64 3) (.lit (.int .i64 4))).put (.int .i64 4) (.lit (.int .i64 3))).put (.int .i64 5) (.lit (.int .i64 5))).put (.int .i64 6) (.lit (.int .i64 6))).put (.int .i64 7) (.lit (.int .i64 8))).put (.int .i64 8) (.lit (.int .i64 7))).put (.int .i64 9) (.lit (.int .i64 9)))
set_option maxRecDepth 4000 in
theorem nine_at (k : Int) : nine.atKey (.int .i64 k) (.lit (.int .i64 0)) = .lit (.int .i64 (undoK k)) := by
  have no : ∀ a b : Int, a ≠ b → (Lit.int .i64 a) ≠ .int .i64 b := fun a b h e => by injection e with _ e; exact h e
  by_cases h1 : 1 ≤ k
  · by_cases h2 : k ≤ 9
    · rcases kinds h1 h2 with rfl | rfl | rfl | rfl | rfl | rfl | rfl | rfl | rfl <;> rfl
    · rw [(undoK_zero k).2 (by simp [kindB, decide_eq_false h2]), nine]
      iterate 9 rw [atKey_put_other (no _ _ (by omega))]
      rfl
  · rw [(undoK_zero k).2 (by simp [kindB, decide_eq_false h1]), nine]
    iterate 9 rw [atKey_put_other (no _ _ (by omega))]
    rfl
set_option maxRecDepth 4000 in
theorem wf_kind {k : Int} (h : In64 k) : (Lit.int .i64 k).wf = true := by
  obtain ⟨h1, h2⟩ := h
  show (decide (IntKind.i64.min ≤ k) && decide (k ≤ IntKind.i64.max)) = true
  rw [Bool.and_eq_true, decide_eq_true_iff, decide_eq_true_iff]
  exact ⟨h1, h2⟩

set_option maxRecDepth 4000 in
set_option maxHeartbeats 2000000 in
theorem undoing_any (k : Int) (hk : In64 k) (w : World) : Calls Try.prog 27 #[.int .i64 k] w (Still (.int .i64 (undoK k)) w) := by
  have HKK := hd (keyOf_int_mk (P := Try.prog) Try.underlying3 (wf_kind hk))
  have HO := hd (MapO.made w)
  have hm := fun W => run_makeMap (P := Try.prog) 83 W
  clear hk
  go_enter Try.func27, Try.ntmps27
  go_wp2_with (first
    | (refine wpList_insert_own _ rfl _ _ _ _ rfl 3 3 key_kind Try.underlying83 _ _ _ _ rfl HO.out.1 (by unfold maxLen; omega) _ _ _ rfl rfl (keyOf_int_mk Try.underlying3 (by decide)) _ [] (plainElem_int Try.underlying3 (by decide)) ?_; intro w9 ho9 hg9; have HO := hd (HO.out.next ho9 hg9); clear ho9 hg9)
    | (at_lookup; refine wpList_lookup_own_int _ rfl _ _ 83 rfl 3 3 .i64 key_kind Try.underlying83 Try.underlying3 (zero_kind _) _ _ _ rfl HO.out.1 _ _ rfl HKK.out ?_; intro c hat hwc))
  go_ret
  have he : c = undoK k := by
    have h2 := nine_at k
    have h3 : (DataW.lit (.int .i64 (undoK k)) : DataW Unit) = .lit (.int .i64 c) := h2.symm.trans hat
    injection h3 with h3
    injection h3 with _ h3
    exact h3.symm
  exact ⟨by rw [he]; rfl, HO.out.2⟩

end Go.Proofs.Ytdjajpookmmafaa

namespace Go.Proofs.Ytdjajpookmmafaa
open Go.RowKit

section
variable {W : World} {c d : OC} {a b : OpP} {E : Bool}
set_option maxRecDepth 4000 in
theorem OkA.xq (h : OkA W c a) (t : Tiny a) : XA W (.slice c.Q c.lq c.cq) a.q := ⟨_, _, _, rfl, h.hlq, by have := t.hq; have := h.hlq; omega, h.hcq, h.hq⟩
set_option maxRecDepth 4000 in
theorem OkA.xt (h : OkA W c a) (t : Tiny a) : XA W (.slice c.T c.lt c.ct) a.t := ⟨_, _, _, rfl, h.hlt, by have := t.ht; have := h.hlt; omega, h.hct, h.ht⟩
set_option maxRecDepth 4000 in
theorem OkA.pf (h : OkA W c a) (t : Tiny a) : PtAt W (.agg #[.slice c.F1 c.f1 c.d1, .int .i64 c.fo]) a.f.a ∧ PtAt W (.agg #[.slice c.F2 c.f2 c.d2, .int .i64 c.fp]) a.f.f :=
  h.hf.two (by have := t.hfa; have := h.hf.hn; omega) (by have := t.hff; have := h.hf.hm; omega)
set_option maxRecDepth 4000 in
theorem OkA.pg (h : OkA W c a) (t : Tiny a) : PtAt W (.agg #[.slice c.G1 c.g1 c.e1, .int .i64 c.go]) a.g.a ∧ PtAt W (.agg #[.slice c.G2 c.g2 c.e2, .int .i64 c.gp]) a.g.f :=
  h.hg.two (by have := t.hga; have := h.hg.hn; omega) (by have := t.hgf; have := h.hg.hm; omega)

set_option maxRecDepth 4000 in
theorem sq_at (h : OkA W c a) (g : OkA W d b) (ta : Tiny a) (tb : Tiny b) (hs : samI a.q b.q = E) : Calls Try.prog 31 #[.slice c.Q c.lq c.cq, .slice d.Q d.lq d.cq] W (Still (.bool E) W) := xrsame_at (h.xq ta) (g.xq tb) hs
set_option maxRecDepth 4000 in
theorem st_at (h : OkA W c a) (g : OkA W d b) (ta : Tiny a) (tb : Tiny b) (hs : samI a.t b.t = E) : Calls Try.prog 31 #[.slice c.T c.lt c.ct, .slice d.T d.lt d.ct] W (Still (.bool E) W) := xrsame_at (h.xt ta) (g.xt tb) hs
set_option maxRecDepth 4000 in
theorem sn_at (h : OkA W c a) (g : OkA W d b) (hs : eqT a.n b.n = E) : Calls Try.prog 24 #[.agg #[.bool c.lf, .slice c.P c.np c.pc, .slice c.X c.nt c.tc, .slice c.K c.nk c.kc], .agg #[.bool d.lf, .slice d.P d.np d.pc, .slice d.X d.nt d.tc, .slice d.K d.nk d.kc]] W (Still (.bool E) W) := by
  obtain ⟨d1, h1⟩ := h.hn
  obtain ⟨d2, h2⟩ := g.hn
  subst hs
  exact rnsame_any d1 d2 W _ _ _ _ h1 h2
set_option maxRecDepth 4000 in
theorem snp_at (h : OkA W c a) (g : OkA W d b) (hs : eqT a.n b.n = E) : Calls Try.prog 55 #[.agg #[.bool c.lf, .slice c.P c.np c.pc, .slice c.X c.nt c.tc, .slice c.K c.nk c.kc], .agg #[.bool d.lf, .slice d.P d.np d.pc, .slice d.X d.nt d.tc, .slice d.K d.nk d.kc]] W (Still (.bool E) W) := by
  obtain ⟨d1, h1⟩ := h.hn
  obtain ⟨d2, h2⟩ := g.hn
  subst hs
  exact nsame_any d1 d2 W _ _ _ _ h1 h2
set_option maxRecDepth 4000 in
theorem so_at (h : OkA W c a) (g : OkA W d b) (hs : decide (a.o = b.o) = E) : Calls Try.prog 32 #[.slice c.O c.no c.co, .slice d.O d.no d.co] W (Still (.bool E) W) := by
  subst hs
  rw [← h.hno, ← g.hno]
  exact prsame_any _ _ _ _ _ _ W (by have := h.hno; have := h.hmo; omega) (by have := g.hno; have := g.hmo; omega) h.ho g.ho
set_option maxRecDepth 4000 in
theorem sw_at (h : OkA W c a) (g : OkA W d b) (hs : decide (a.w = b.w) = E) : Calls Try.prog 32 #[.slice c.W c.nw c.cw, .slice d.W d.nw d.cw] W (Still (.bool E) W) := by
  subst hs
  rw [← h.hnw, ← g.hnw]
  exact prsame_any _ _ _ _ _ _ W (by have := h.hnw; have := h.hmw; omega) (by have := g.hnw; have := g.hmw; omega) h.hw g.hw
set_option maxRecDepth 4000 in
theorem sx_at (h : OkA W c a) (g : OkA W d b) (hs : sameL a.x b.x = E) : Calls Try.prog 33 #[.slice c.S c.nx c.cx, .slice d.S d.nx d.cx] W (Still (.bool E) W) :=
  calls_still (rsame_any _ _ _ _ _ _ _ _ E hs W h.hnx g.hnx (by have := h.hmx; omega) (by have := g.hmx; omega) h.hx g.hx)
set_option maxRecDepth 4000 in
theorem rsel_at {s t : Sl} {si ti : Bool} {A B C D : Option Addr} {na ca nb cb nc cc nd cd : Nat} {x y u v : Int} (h : SelA W si A na ca x B nb cb y s) (g : SelA W ti C nc cc u D nd cd v t) (h1 : na ≤ 10000000) (h2 : nb ≤ 10000000) (h3 : nc ≤ 10000000) (h4 : nd ≤ 10000000) (hs : samS s t = E) :
    Calls Try.prog 34 #[.agg #[.bool si, .slice A na ca, .int .i64 x, .slice B nb cb, .int .i64 y], .agg #[.bool ti, .slice C nc cc, .int .i64 u, .slice D nd cd, .int .i64 v]] W (Still (.bool E) W) := by
  obtain ⟨a1, a2⟩ := h.two h1 h2
  obtain ⟨b1, b2⟩ := g.two h3 h4
  have e1 := h.his
  have e2 := h.hx
  have e3 := h.hy
  have e4 := g.his
  have e5 := g.hx
  have e6 := g.hy
  subst hs e1 e2 e3 e4 e5 e6
  exact rsamesel_any W s t A B C D na nb nc nd ca cb cc cd a1 a2 b1 b2
set_option maxRecDepth 4000 in
theorem psel_at {s t : Sl} {si ti : Bool} {A B C D : Option Addr} {na ca nb cb nc cc nd cd : Nat} {x y u v : Int} (h : SelA W si A na ca x B nb cb y s) (g : SelA W ti C nc cc u D nd cd v t) (h1 : na ≤ 10000000) (h2 : nb ≤ 10000000) (h3 : nc ≤ 10000000) (h4 : nd ≤ 10000000) (hs : samS s t = E) :
    Calls Try.prog 54 #[.agg #[.bool si, .slice A na ca, .int .i64 x, .slice B nb cb, .int .i64 y], .agg #[.bool ti, .slice C nc cc, .int .i64 u, .slice D nd cd, .int .i64 v]] W (Still (.bool E) W) := by
  obtain ⟨a1, a2⟩ := h.two h1 h2
  obtain ⟨b1, b2⟩ := g.two h3 h4
  have e1 := h.his
  have e2 := h.hx
  have e3 := h.hy
  have e4 := g.his
  have e5 := g.hx
  have e6 := g.hy
  subst hs e1 e2 e3 e4 e5 e6
  exact samesel_any W s t A B C D na nb nc nd ca cb cc cd a1 a2 b1 b2
set_option maxRecDepth 4000 in
theorem sf_at (h : OkA W c a) (g : OkA W d b) (ta : Tiny a) (tb : Tiny b) (hs : samS a.f b.f = E) : Calls Try.prog 34 #[.agg #[.bool c.fi, .slice c.F1 c.f1 c.d1, .int .i64 c.fo, .slice c.F2 c.f2 c.d2, .int .i64 c.fp], .agg #[.bool d.fi, .slice d.F1 d.f1 d.d1, .int .i64 d.fo, .slice d.F2 d.f2 d.d2, .int .i64 d.fp]] W (Still (.bool E) W) :=
  rsel_at h.hf g.hf (by have := ta.hfa; have := h.hf.hn; omega) (by have := ta.hff; have := h.hf.hm; omega) (by have := tb.hfa; have := g.hf.hn; omega) (by have := tb.hff; have := g.hf.hm; omega) hs
set_option maxRecDepth 4000 in
theorem sg_at (h : OkA W c a) (g : OkA W d b) (ta : Tiny a) (tb : Tiny b) (hs : samS a.g b.g = E) : Calls Try.prog 34 #[.agg #[.bool c.gi, .slice c.G1 c.g1 c.e1, .int .i64 c.go, .slice c.G2 c.g2 c.e2, .int .i64 c.gp], .agg #[.bool d.gi, .slice d.G1 d.g1 d.e1, .int .i64 d.go, .slice d.G2 d.g2 d.e2, .int .i64 d.gp]] W (Still (.bool E) W) :=
  rsel_at h.hg g.hg (by have := ta.hga; have := h.hg.hn; omega) (by have := ta.hgf; have := h.hg.hm; omega) (by have := tb.hga; have := g.hg.hn; omega) (by have := tb.hgf; have := g.hg.hm; omega) hs
end
set_option maxRecDepth 4000 in
/-- Two variables of operations, one behind the other. -/
theorem two_ops (w : World) (c d : OC) : ∃ W0, (w.alloc (.cells c.row 35)).alloc (.cells d.row 35) = W0 ∧ Below w.heap.size w W0 ∧ W0.heap.size = w.heap.size + 1 + 1 ∧ VarO W0 w.heap.size c ∧ VarO W0 (w.heap.size + 1) d := by
  have h := pt_new w (.cells c.row 35) (.cells d.row 35)
  exact ⟨_, rfl, below_mono2 (Below.refl _ _) (Nat.le_refl _), by simp, h.1, h.2⟩

end Go.Proofs.Ytdjajpookmmafaa

namespace Go.Proofs.Ytdjajpookmmafaa
open Go.RowKit

def putAll (cs : Array Value) : Nat → List Value → Array Value
  | _, [] => cs
  | j, v :: r => putAll (cs.setIfInBounds j v) (j + 1) r
set_option maxRecDepth 4000 in
theorem setCells_row (g : Nat) (t : TypeId) : ∀ (vs : List Value) (j : Nat) (w : World) (cs : Array Value), w.heap[g]? = some (.cells cs t (0, 0)) → (w.setCells g j vs).heap[g]? = some (.cells (putAll cs j vs) t (0, 0)) ∧ Off g w (w.setCells g j vs)
  | [], j, w, cs, h => ⟨h, Off.refl g w⟩
  | v :: r, j, w, cs, h => by
    obtain ⟨h1, h2⟩ := setCells_row g t r (j + 1) _ _ (set_blk w g t cs j v h)
    have h3 : Off g w (w.setCell ⟨g, j, none⟩ v) := ⟨rfl, rfl, rfl, by show _ ≤ (w.heap.modify g _).size; simp, fun k _ hne => Below.heap_setCell w ⟨g, j, none⟩ v k (by simpa using hne)⟩
    exact ⟨h1, h3.trans h2⟩
set_option maxRecDepth 4000 in
theorem VarO.off {w w' : World} {g g' : Nat} {c : OC} (h : VarO w g c) (ho : Off g' w w') (hne : g ≠ g') : VarO w' g c := (ho.block g h.lt hne).trans h
set_option maxRecDepth 4000 in
theorem wpList_store_fld {ty : TypeId} {n : Nat} (hsz : (Try.prog.info? ty).map (·.size) = some n) {ops : Array Oper} {rest : List Oper} {op : Oper} {a : Act} {W : World} {Q : Exit → Act → World → Prop} {g : Nat} {c : OC} (h : VarO W g c) (x y : Operand) (ho : op.op = .store ty x y) (hgd : op.guard = none) (hd : op.dst = none)
    (j : Nat) (v : Value) (vs : List Value) (c' : OC) (hx : a.eval x = .pointer (some ⟨g, j, none⟩)) (hy : a.eval y = v) (hv : v.cells = vs.toArray) (hn : vs.length = n) (h1 : ∀ u ∈ vs, u.oneCell' = true) (hj : j + vs.length ≤ 21) (hc : putAll c.row j vs = c'.row)
    (hk : ∀ W', VarO W' g c' → Off g W W' → wpList Try.prog ops Q rest a W') : wpList Try.prog ops Q (op :: rest) a W := by
  have hcell : ∀ i, i < vs.length → (W.cell? ⟨g, j + i, none⟩).isSome = true ∧ W.frozen? ⟨g, j + i, none⟩ = false := fun i hi => by
    refine ⟨?_, h.thaw _⟩
    have hs : j + i < c.row.size := by rw [OC.size]; omega
    rw [h.cell (j + i) _ (Array.getElem?_eq_getElem hs)]
    rfl
  have hrun := run_storeCells_cells (P := Try.prog) g j vs 0 W (fun i hi => by simpa using (hcell i hi).1) (fun i hi => by simpa using (hcell i hi).2) h1
  have hst : (storeVar ty ⟨g, j, none⟩ v).run Try.prog W = .ok () (W.setCells g j vs) := by
    cases hq : Try.prog.info? ty with
    | none => simp [hq] at hsz
    | some i =>
      have hs : i.size = vs.length := by simp [hq] at hsz; omega
      simp only [Nat.add_zero] at hrun
      simp [storeVar, sizeOf, typeInfo, hq, hv, hs, hrun]
  refine wpList_plain hgd fun K hK => ?_
  unfold Oper.wp execOp
  simp only [ho, hx, hy, Instr.storeAt, Instr.sureAddr, Sem.run_bind, Sem.run_pure, Result.andThen_ok, hst]
  obtain ⟨r1, r2⟩ := setCells_row g _ vs j W _ h
  rw [hc] at r1
  exact hK _ _ (by rw [hd]; exact hk _ r1 r2)
set_option maxRecDepth 4000 in
/-- At a store, or a load, of a type: else it fails at once. -/
theorem gd_store {P : Program} {ops : Array Oper} {Q : Exit → Act → World → Prop} {dst : Option Nat} {ty : TypeId} {x y : Operand} {t : TypeId} {pos : String} {af : Array Edge} {rest : List Oper} {a : Act} {w : World} (h : wpList P ops Q ({ dst := dst, op := .store ty x y, type := t, pos := pos, after := af, guard := none } :: rest) a w) : wpList P ops Q ({ dst := dst, op := .store ty x y, type := t, pos := pos, after := af, guard := none } :: rest) a w := h
set_option maxRecDepth 4000 in
theorem gd_load {P : Program} {ops : Array Oper} {Q : Exit → Act → World → Prop} {dst : Option Nat} {ty : TypeId} {x : Operand} {t : TypeId} {pos : String} {af : Array Edge} {rest : List Oper} {a : Act} {w : World} (h : wpList P ops Q ({ dst := dst, op := .load ty x, type := t, pos := pos, after := af, guard := none } :: rest) a w) : wpList P ops Q ({ dst := dst, op := .load ty x, type := t, pos := pos, after := af, guard := none } :: rest) a w := h
set_option maxRecDepth 4000 in
theorem gd_loadg {P : Program} {ops : Array Oper} {Q : Exit → Act → World → Prop} {dst : Option Nat} {ty : TypeId} {x : Operand} {t : TypeId} {pos : String} {af : Array Edge} {gq : Nat × Bool} {rest : List Oper} {a : Act} {w : World} (h : wpList P ops Q ({ dst := dst, op := .load ty x, type := t, pos := pos, after := af, guard := some gq } :: rest) a w) : wpList P ops Q ({ dst := dst, op := .load ty x, type := t, pos := pos, after := af, guard := some gq } :: rest) a w := h
set_option maxRecDepth 4000 in
/-- A guarded load, its guard met. -/
theorem wpList_load_ocg {ops : Array Oper} {rest : List Oper} {op : Oper} {a : Act} {w : World} {Q : Exit → Act → World → Prop} {g : Nat} {c : OC} (h : VarO w g c)
    (x : Operand) (ho : op.op = .load 35 x) (hw : Region.wanted op (yielded ops a.tmps) = true) (hx : a.eval x = .pointer (some ⟨g, 0, none⟩)) (hk : wpList Try.prog ops Q rest (a.put op.dst (.agg c.row)) w) : wpList Try.prog ops Q (op :: rest) a w := by
  obtain ⟨d, h1, h2, h3⟩ := op_row
  refine wpList_step fun K hK => ?_
  rw [if_pos hw]
  exact wp_load_mid 35 x ho g 0 hx c.row.toList d h.range h1 h2 h3 (hK _ _ hk)
set_option maxRecDepth 4000 in
theorem run_load_f {ty : TypeId} {d : TypeDesc} (hu : Try.prog.underlying ty = some d) (hd : d.isRow = false) {w : World} {a : Addr} {v : Value} (hc : w.cell? a = some v) : (loadVar ty a).run Try.prog w = .ok v w := by
  have hagg : (isAgg ty).run Try.prog w = .ok false w := by
    unfold isAgg
    rw [Sem.run_bind, run_underlying hu w]
    cases d <;> simp_all
  simp [loadVar, Sem.run_bind, hagg, hc]
set_option maxRecDepth 4000 in
/-- Fields loaded out of a variable. -/
theorem wpList_load_f1 {ty : TypeId} {ops : Array Oper} {rest : List Oper} {op : Oper} {a : Act} {w : World} {Q : Exit → Act → World → Prop} {g : Nat} {c : OC} (h : VarO w g c) {j : Nat} {v : Value}
    (x : Operand) (ho : op.op = .load ty x) (hgd : op.guard = none) (hx : a.eval x = .pointer (some ⟨g, j, none⟩)) (hv : c.row[j]? = some v) {d : TypeDesc} (hu : Try.prog.underlying ty = some d) (hd : d.isRow = false) (hk : wpList Try.prog ops Q rest (a.put op.dst v) w) : wpList Try.prog ops Q (op :: rest) a w := by
  have hc := h.cell j v hv
  have hl := run_load_f hu hd hc
  refine wpList_plain hgd fun K hK => ?_
  unfold Oper.wp execOp
  simp only [ho, hx, Instr.loadAt, Instr.sureAddr, Sem.run_bind, Sem.run_pure, Result.andThen_ok, hl]
  exact hK _ _ hk
set_option maxRecDepth 4000 in
theorem wpList_load_fn {ty : TypeId} {ops : Array Oper} {rest : List Oper} {op : Oper} {a : Act} {w : World} {Q : Exit → Act → World → Prop} {g : Nat} {c : OC} (h : VarO w g c) {j : Nat} {vs : List Value}
    (hrow : ∃ d, Try.prog.underlying ty = some d ∧ d.isRow = true ∧ (Try.prog.info? ty).map (·.size) = some vs.length) (x : Operand) (ho : op.op = .load ty x) (hgd : op.guard = none) (hx : a.eval x = .pointer (some ⟨g, j, none⟩)) (hv : (c.row.extract j (j + vs.length)).toList = vs) (hk : wpList Try.prog ops Q rest (a.put op.dst (.agg vs.toArray)) w) : wpList Try.prog ops Q (op :: rest) a w := by
  obtain ⟨d, h1, h2, h3⟩ := hrow
  refine wpList_load_mid hgd ty x ho g j hx vs d (fun i v hi => ?_) h1 h2 h3 hk
  refine h.cell (j + i) v ?_
  rw [← hv] at hi
  simp only [Array.toList_extract, List.extract_eq_take_drop, List.getElem?_take, List.getElem?_drop] at hi
  split at hi
  · simpa using hi
  · cases hi
set_option maxRecDepth 4000 in
theorem row_node : ∃ d, Try.prog.underlying 27 = some d ∧ d.isRow = true ∧ (Try.prog.info? 27).map (·.size) = some 4 := ⟨.struct (Try.prog.fieldsOf 27), by kernel_rfl, rfl, by kernel_rfl⟩
set_option maxRecDepth 4000 in
theorem row_sel : ∃ d, Try.prog.underlying 33 = some d ∧ d.isRow = true ∧ (Try.prog.info? 33).map (·.size) = some 5 := ⟨.struct (Try.prog.fieldsOf 33), by kernel_rfl, rfl, by kernel_rfl⟩
set_option maxRecDepth 4000 in
theorem sz_int : (Try.prog.info? 3).map (·.size) = some 1 := by kernel_rfl
set_option maxRecDepth 4000 in
theorem sz_path : (Try.prog.info? 22).map (·.size) = some 1 := by kernel_rfl
set_option maxRecDepth 4000 in
theorem sz_props : (Try.prog.info? 23).map (·.size) = some 1 := by kernel_rfl
set_option maxRecDepth 4000 in
theorem sz_text : (Try.prog.info? 24).map (·.size) = some 1 := by kernel_rfl
set_option maxRecDepth 4000 in
theorem sz_node : (Try.prog.info? 27).map (·.size) = some 4 := by kernel_rfl
set_option maxRecDepth 4000 in
theorem sz_sel : (Try.prog.info? 33).map (·.size) = some 5 := by kernel_rfl
set_option maxRecDepth 4000 in
theorem oneC1 {v : Value} (h : v.oneCell' = true) : ∀ u ∈ [v], u.oneCell' = true := by simpa using h
set_option maxRecDepth 4000 in
/-- Two variables: the operation that came in, and the one that is told. -/
theorem two_vars (w : World) (c : OC) : ∃ W0, (w.alloc (.cells c.row 35)).alloc (.cells #[.int .i64 0, .slice none 0 0, .slice none 0 0, .int .i64 0, .bool false, .slice none 0 0, .slice none 0 0, .slice none 0 0, .slice none 0 0, .slice none 0 0, .slice none 0 0, .bool false, .slice none 0 0, .int .i64 0, .slice none 0 0, .int .i64 0, .bool false, .slice none 0 0, .int .i64 0, .slice none 0 0, .int .i64 0] 35) = W0 ∧ Below w.heap.size w W0 ∧ W0.heap.size = w.heap.size + 1 + 1 ∧ VarO W0 w.heap.size c ∧ VarO W0 (w.heap.size + 1) OC.zero := by
  have h := pt_new w (.cells c.row 35) (.cells OC.zero.row 35)
  exact ⟨_, rfl, below_mono2 (Below.refl _ _) (Nat.le_refl _), by simp, h.1, h.2⟩
set_option maxRecDepth 4000 in
/-- A store into one of two variables. -/
theorem off_below {w W W' : World} {g : Nat} (hb : Below w.heap.size w W) (ho : Off g W W') (hg : w.heap.size ≤ g) : Below w.heap.size w W' := hb.trans (ho.below hg hb.size)

end Go.Proofs.Ytdjajpookmmafaa
