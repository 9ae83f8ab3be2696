/- The program's own calls of stage 12: what they lean on, told by rows of cells. -/
import Derived.Test.YtmkciabefepelaaGreatJOForm
import Derived.Test.YtmkciabefepelaaGreatJTCut
import Derived.Test.YtmkciabefepelaaGreatBFresh
import Derived.Test.YtmkciabefepelaaGreatJTTree
import Derived.Test.YtmkciabefepelaaGreatJBFew
import Derived.Test.YtmkciabefepelaaGreatJXCalls
import Derived.Test.YtmkciabefepelaaGreatJIAlike
import Derived.Deep.RegionHeld3
import Derived.Test.YtmkciabefepelaaGreatJXMove5
import Derived.Test.YtmkciabefepelaaGreatBInv
set_option maxRecDepth 4000
set_option maxHeartbeats 8000000
namespace Go.Proofs.YtmkciabefepelaaGreat
open Go.RowKit
def zAm (w : World) (r : NT × Int) (e : Ending) (w' : World) : Prop := ∃ c : NC, e = .returned (.tuple #[.agg c.row, .int .i64 r.2]) /\ zH3 w.heap.size w' (fun W => kS W c r.1) /\ Below w.heap.size w w'
theorem zHy {lo d : Nat} {w : World} {c : NC} {n : NT} (ht : zAx (fun b => lo <= b /\ b < w.heap.size) d w (.agg c.row) n) : zH3 lo w (fun W => kS W c n) := fun W' ho => ⟨d,
 (ht.keep (Q := fun b => b < W'.heap.size) (fun _ hb => Nat.lt_of_lt_of_le hb.2 ho.size) (fun _ hp => ⟨ho.cell hp.1 hp.2, ho.frozen hp.1 hp.2⟩)).at_ (fun _ hb => hb)⟩
theorem zP2.nn {r : NT × Int} {w w' : World} {e : Ending} (h : zP2 r w e w') : zAm w r e w' := by
 obtain ⟨v, d, rfl, h1, h2⟩ := h
 obtain ⟨c, rfl, _⟩ := zFo (h1.at_ (B := w'.heap.size) fun b hb => hb.2)
 exact ⟨c, rfl, zHy h1, h2⟩
def kK2 (w : World) (x y : NT) (er : Int) (e : Ending) (w' : World) : Prop := ∃ c d : NC, e = .returned (.tuple #[.agg c.row, .agg d.row, .int .i64 er]) /\ zH3 w.heap.size w' (fun W => kS W c x) /\ zH3 w.heap.size w' (fun W => kS W d y) /\ Below w.heap.size w w'
theorem kFo.nn {x y : NT} {er : Int} {w w' : World} {e : Ending} (h : kFo x y er w e w') : kK2 w x y er e w' := by
 obtain ⟨v, v', d, rfl, h1, h2, h3⟩ := h
 obtain ⟨c, rfl, _⟩ := zFo (h1.at_ (B := w'.heap.size) fun b hb => hb.2)
 obtain ⟨c', rfl, _⟩ := zFo (h2.at_ (B := w'.heap.size) fun b hb => hb.2)
 exact ⟨c, c', rfl, zHy h1, zHy h2, h3⟩
theorem zH3.off {lo g : Nat} {w w' : World} {P : World -> Prop} (h : zH3 lo w P) (ho : Off g w w') (hg : g < lo) : zH3 lo w' P := h.high (.off ho hg)
theorem zH3.call {lo : Nat} {w w' : World} {P : World -> Prop} (h : zH3 lo w P) (hb : Below w.heap.size w w') : zH3 lo w' P := h.high (.below hb)
structure zKt (w : World) (A : Option Addr) (l c : Nat) (q : List Int) : Prop where
 len : q.length = l
 le : l <= 1000
 cap : l <= c
 il : IL w w.heap.size A q
 inn : InI q
theorem zKt.later {w w' : World} {A : Option Addr} {l c : Nat} {q : List Int} (h : zKt w A l c q) (hb : Below w.heap.size w w') : zKt w' A l c q := ⟨h.len, h.le, h.cap, h.il.later hb, h.inn⟩
theorem OkA.hasq {w : World} {o : OC} {a : OpP} (h : OkA w o a) (t : zAf a) : zKt w o.Q o.lq o.cq a.q := ⟨h.hlq, by have := t.hq; have := h.hlq; omega, h.hcq, h.hq, h.hiq⟩
theorem OkA.hast {w : World} {o : OC} {a : OpP} (h : OkA w o a) (t : zAf a) : zKt w o.T o.lt o.ct a.t := ⟨h.hlt, by have := t.ht; have := h.hlt; omega, h.hct, h.ht, h.hit⟩
def OC.nc (o : OC) : NC := ⟨o.lf, o.P, o.np, o.pc, o.X, o.nt, o.tc, o.K, o.nk, o.kc⟩
theorem OkA.hasn {w : World} {o : OC} {a : OpP} (h : OkA w o a) : kS w o.nc a.n := h.hn
structure zHz (w : World) (c : NC) (n : NT) : Prop where
 lf : n.lf = c.lf
 np : n.ps.length = c.np
 nt : n.tx.length = c.nt
 nk : n.ks.length = c.nk
 p : PL w w.heap.size c.P n.ps
 x : VL w w.heap.size c.X (rv n.tx)
 f : zU0 n.ps n.tx.length n.ks.length c.pc c.tc c.kc
 k : ∃ d, zKn d w w.heap.size c.K n.ks
theorem kS.parts {w : World} {c : NC} {n : NT} (h : kS w c n) : zHz w c n := by
 obtain ⟨d, h⟩ := h
 cases d with
 | zero => exact h.elim
 | succ d =>
  obtain ⟨PA, pc, TA, tc, KA, kc, e, hp, ht, hf, hks⟩ := h
  unfold NC.row at e
  simp only [Value.agg.injEq, Array.mk.injEq, List.cons.injEq, Value.bool.injEq, Value.slice.injEq, and_true] at e
  obtain ⟨e1, ⟨e2, e3, e4⟩, ⟨e5, e6, e7⟩, e8, e9, e10⟩ := e
  subst e2 e4 e5 e7 e8 e10
  exact ⟨e1.symm, e3.symm, e6.symm, e9.symm, hp, ht, hf, d, hks⟩
theorem zHz.has {w : World} {c : NC} {n : NT} (h : zHz w c n) : kS w c n := by
 obtain ⟨d, hk⟩ := h.k
 refine ⟨d + 1, c.P, c.pc, c.X, c.tc, c.K, c.kc, ?_, h.p, h.x, h.f, hk⟩
 rw [h.lf, h.np, h.nt, h.nk]; rfl
theorem kS.lf {w : World} {c : NC} {n : NT} (h : kS w c n) : n.lf = c.lf := h.parts.lf
section
variable {w : World} {A : Option Addr} {lq cq : Nat} {q : List Int} {c d : NC} {n m : NT}
theorem kFp {r : NT × Int} (hn : kS w c n) (hq : zKt w A lq cq q) (hE : zGm n q = r) : Calls Tryz.prog 30 #[.agg c.row, .slice A lq cq] w (zAm w r) := by
 obtain ⟨x, e⟩ := r
 exact (kMn hE hq.len hq.le hn hq.il).mono fun e w' h => h.nn
theorem zJ1 {r : NT × Int} (hn : kS w c n) (hm : kS w d m) (hq : zKt w A lq cq q) (hE : zSe n q m = r) : Calls Tryz.prog 128 #[.agg c.row, .slice A lq cq, .agg d.row] w (zAm w r) := by
 obtain ⟨x, e⟩ := r
 have hl := hq.len
 subst hl
 exact (kKy hE hq.le hq.cap hn hm hq.il).mono fun e w' h => h.nn
theorem zOi {r : NT × Int} (hn : kS w c n) (hm : kS w d m) (hq : zKt w A lq cq q) (hs : sizeT n <= 100000) (hE : zGo n q m = r) : Calls Tryz.prog 84 #[.agg c.row, .slice A lq cq, .agg d.row] w (zAm w r) := by
 obtain ⟨x, e⟩ := r
 have hb : ∀ x, kB n (upP q) = some x -> x.ks.length < 1759218604441 := fun x hx => by
  have h1 := zGh _ n x hx
  have h2 : ∀ (l : List NT), l.length <= sizeK l := fun l => by
   induction l with
   | nil => simp
   | cons k r ih => have := zJs k; simp only [List.length_cons, sizeK]; omega
  have h3 := h2 x.ks
  obtain ⟨lf, ps, tx, ks⟩ := x
  simp only [sizeT, NT.ks] at *
  omega
 exact (kMl hE hq.len hq.le hq.cap hn hm hq.il hb).mono fun e w' h => h.nn
theorem zR2 {x y : NT} {er : Int} (hn : kS w c n) (hq : zKt w A lq cq q) (hE : zBw n q = (x, er)) (hy : zE3 n q = y) : Calls Tryz.prog 83 #[.agg c.row, .slice A lq cq] w (kK2 w x y er) :=
 (kMm hE hy hq.len hq.le hq.cap hn hq.il).mono fun _ _w' h => h.nn
end
theorem zM {ty t : TypeId} {ops : Array Oper} {rest : List Oper} {op : Oper} {a : Act} {w : World} {Q : Exit -> Act -> World -> Prop} {g : Nat} {r : Array Value} (h : jT t w g r) {j : Nat} {v : Value}
  (x : Operand) (ho : op.op = .load ty x) (hgd : op.guard = none) (hx : a.eval x = .pointer (some ⟨g, j, none⟩)) (hv : r[j]? = some v) {d : TypeDesc} (hu : Tryz.prog.underlying ty = some d) (hd : d.isRow = false) (hk : wpList Tryz.prog ops Q rest (a.put op.dst v) w) : wpList Tryz.prog ops Q (op :: rest) a w := by
 have hc := h.cell j v hv
 have hl := zD3 hu hd hc
 refine wpList_plain hgd fun K hK => ?_
 unfold Oper.wp execOp
 simp only [ho, hx, Instr.loadAt, Instr.sureAddr, Sem.run_bind, Sem.run_pure, Result.andThen_ok, hl]
 exact hK _ _ hk
theorem jT.thaw {t : TypeId} {w : World} {g : Nat} {r : Array Value} (h : jT t w g r) (j : Nat) : w.frozen? ⟨g, j, none⟩ = false := by
 unfold jT at h
 simp [World.frozen?, h]
theorem jT.set {t : TypeId} {w : World} {g : Nat} {r : Array Value} (h : jT t w g r) (j : Nat) (v : Value) : jT t (w.setCell ⟨g, j, none⟩ v) g (r.setIfInBounds j v) /\ Off g w (w.setCell ⟨g, j, none⟩ v) :=
 ⟨kAk w g t r j v h, rfl, rfl, rfl, by show _ <= (w.heap.modify g _).size; simp, fun k _ hne => Below.heap_setCell w ⟨g, j, none⟩ v k (by simpa using hne)⟩
theorem zFd {ty t : TypeId} (hsz : (Tryz.prog.info? ty).map (·.size) = some 1) {ops : Array Oper} {rest : List Oper} {op : Oper} {a : Act} {W : World} {Q : Exit -> Act -> World -> Prop} {g : Nat} {r r' : Array Value} (h : jT t W g r) (x y : Operand) (ho : op.op = .store ty x y) (hgd : op.guard = none) (hd : op.dst = none)
  (j : Nat) (v : Value) (hx : a.eval x = .pointer (some ⟨g, j, none⟩)) (hy : a.eval y = v) (hv : v.cells = #[v]) (h1 : v.oneCell' = true) (hj : j < r.size) (hc : r.setIfInBounds j v = r')
  (hk : ∀ W', jT t W' g r' -> Off g W W' -> wpList Tryz.prog ops Q rest a W') : wpList Tryz.prog ops Q (op :: rest) a W := by
 have hcell : (W.cell? ⟨g, j, none⟩).isSome = true /\ W.frozen? ⟨g, j, none⟩ = false := ⟨by rw [h.cell j _ (Array.getElem?_eq_getElem hj)]; rfl, h.thaw _⟩
 have hrun := run_storeCells_cells (P := Tryz.prog) g j [v] 0 W (fun i hi => by simp at hi; subst hi; simpa using hcell.1) (fun i hi => by simp at hi; subst hi; simpa using hcell.2) (by simpa using h1)
 have hst : (storeVar ty ⟨g, j, none⟩ v).run Tryz.prog W = .ok () (W.setCell ⟨g, j, none⟩ v) := by
  cases hq : Tryz.prog.info? ty with
  | none => simp [hq] at hsz
  | some i =>
   have hs : i.size = 1 := by simpa [hq] using hsz
   simp only [Nat.add_zero] at hrun
   have : W.setCells g j [v] = W.setCell ⟨g, j, none⟩ v := rfl
   rw [this] at hrun
   simp [storeVar, sizeOf, typeInfo, hq, hv, hs, hrun]
 refine wpList_plain hgd fun K hK => ?_
 unfold Oper.wp execOp
 simp only [ho, hx, hy, Instr.storeAt, Instr.sureAddr, Sem.run_bind, Sem.run_pure, Result.andThen_ok, hst]
 obtain ⟨r1, r2⟩ := h.set j v
 rw [hc] at r1
 exact hK _ _ (by rw [hd]; exact hk _ r1 r2)
def NC.nil : NC := ⟨false, none, 0, 0, none, 0, 0, none, 0, 0⟩
theorem zAb (w : World) : kS w NC.nil zeroT := ⟨1, zEh _ _⟩
structure M4 (w : World) (c : NC) (o : OC) (m : NC) (a : NC) (W : World) : Prop where
 v3 : jT 26 W w.heap.size c.row
 v4 : jR W (w.heap.size + 1) o
 v5 : jT 26 W (w.heap.size + 1 + 1) m.row
 v6 : jT 26 W (w.heap.size + 1 + 1 + 1) a.row
 below : Below w.heap.size w W
section
variable {w W W' : World} {c : NC} {o : OC} {m a a' : NC}
theorem M4.call (h : M4 w c o m a W) (hb : Below W.heap.size W W') : M4 w c o m a W' := ⟨h.v3.keep hb, h.v4.keep hb, h.v5.keep hb, h.v6.keep hb, zI h.below hb⟩
theorem M4.off {g : Nat} (h : M4 w c o m a W) (hg : w.heap.size + 1 + 1 + 1 < g) (ho : Off g W W') : M4 w c o m a W' := ⟨h.v3.off ho (by omega), (ho.block _ h.v4.lt (by omega)).trans h.v4, h.v5.off ho (by omega), h.v6.off ho (by omega), zN h.below ho (by omega)⟩
theorem M4.set6 (h : M4 w c o m a W) (hv : jT 26 W' (w.heap.size + 1 + 1 + 1) a'.row) (ho : Off (w.heap.size + 1 + 1 + 1) W W') : M4 w c o m a' W' := ⟨h.v3.off ho (by omega), (ho.block _ h.v4.lt (by omega)).trans h.v4, h.v5.off ho (by omega), hv, zN h.below ho (by omega)⟩
theorem M4.set5 (h : M4 w c o m a W) (hv : jT 26 W' (w.heap.size + 1 + 1) a'.row) (ho : Off (w.heap.size + 1 + 1) W W') : M4 w c o a' a W' := ⟨h.v3.off ho (by omega), (ho.block _ h.v4.lt (by omega)).trans h.v4, hv, h.v6.off ho (by omega), zN h.below ho (by omega)⟩
end
theorem jM (w : World) (c : NC) (o : OC) (m : NC) : ∃ W0, (((w.alloc (.cells c.row 26)).alloc (.cells o.row 35)).alloc (.cells m.row 26)).alloc (.cells #[.bool false, .slice none 0 0, .slice none 0 0, .slice none 0 0] 26) = W0 /\ M4 w c o m NC.nil W0 := by
 have e1 : (w.alloc (.cells c.row 26)).heap.size = w.heap.size + 1 := by simp
 have e2 : ((w.alloc (.cells c.row 26)).alloc (.cells o.row 35)).heap.size = w.heap.size + 1 + 1 := by simp
 have e3 : (((w.alloc (.cells c.row 26)).alloc (.cells o.row 35)).alloc (.cells m.row 26)).heap.size = w.heap.size + 1 + 1 + 1 := by simp
 have h1 := (((jT.new w 26 c.row).alloc (.cells o.row 35)).alloc (.cells m.row 26)).alloc (.cells NC.nil.row 26)
 have h2 := ((jR.new (w.alloc (.cells c.row 26)) o).toR.alloc (.cells m.row 26)).alloc (.cells NC.nil.row 26)
 have h3 := (jT.new ((w.alloc (.cells c.row 26)).alloc (.cells o.row 35)) 26 m.row).alloc (.cells NC.nil.row 26)
 have h4 := jT.new (((w.alloc (.cells c.row 26)).alloc (.cells o.row 35)).alloc (.cells m.row 26)) 26 NC.nil.row
 rw [e1] at h2
 rw [e2] at h3
 rw [e3] at h4
 exact ⟨_, rfl, h1, h2, h3, h4, ((((Below.refl _ _).alloc (Nat.le_refl _) _).alloc (by rw [e1]; omega) _).alloc (by rw [e2]; omega) _).alloc (by rw [e3]; omega) _⟩
theorem kU {fn : Func} {p u : Tmp} (h : fn.results = #[.cell p 26, .tmp u]) (tmps : Array Value) (w : World) {g : Nat} {c : NC} (hv : jT 26 w g c.row) (hp : tmps.getD p undef = .pointer (some ⟨g, 0, none⟩)) : (results fn tmps).run Tryz.prog w = .ok (.tuple #[.agg c.row, tmps.getD u undef]) w := by
 obtain ⟨d, h3, h4, h5⟩ := zD
 simp only [results, h]
 simp only [List.mapM_toArray, hp, asAddr, Sem.run_bind, Sem.run_pure, List.mapM_cons, List.mapM_nil]
 simp [Result.andThen, run_loadVar_row w g _ _ _ _ d hv h3 (by cases d <;> simp_all) h5]
theorem zS {t : TypeId} {n : Nat} (hrow : kC5 t n) {a : Act} {o : Oper} {W : World} {g : Nat} {r : Array Value} (h : jT t W g r) (hn : r.size = n) (x : Operand) (ho : o.op = .load t x) (hx : a.eval x = .pointer (some ⟨g, 0, none⟩)) : (execOp a.eval o).run Tryz.prog W = .ok (.value (.agg r)) W := by
 obtain ⟨d, h3, h4, h5⟩ := hrow
 have hr := run_loadVar_row W g t t r (0, 0) d h h3 (by cases d <;> simp_all) (by rw [h5, <- hn])
 unfold execOp
 simp only [ho, hx, Instr.loadAt, Instr.sureAddr, Sem.run_bind, Sem.run_pure, Result.andThen_ok, hr]
theorem kV {ty t : TypeId} {a : Act} {o : Oper} {W : World} {g : Nat} {r : Array Value} (h : jT t W g r) {j : Nat} {v : Value} (x : Operand) (ho : o.op = .load ty x) (hx : a.eval x = .pointer (some ⟨g, j, none⟩)) (hv : r[j]? = some v) {d : TypeDesc} (hu : Tryz.prog.underlying ty = some d) (hd : d.isRow = false) : (execOp a.eval o).run Tryz.prog W = .ok (.value v) W := by
 have hl := zD3 hu hd (h.cell j v hv)
 unfold execOp
 simp only [ho, hx, Instr.loadAt, Instr.sureAddr, Sem.run_bind, Sem.run_pure, Result.andThen_ok, hl]
theorem zG3 {ty t : TypeId} {a : Act} {o : Oper} {W : World} {g : Nat} {r : Array Value} (h : jT t W g r) {j : Nat} {vs : List Value} (hrow : ∃ d, Tryz.prog.underlying ty = some d /\ d.isRow = true /\ (Tryz.prog.info? ty).map (·.size) = some vs.length) (x : Operand) (ho : o.op = .load ty x) (hx : a.eval x = .pointer (some ⟨g, j, none⟩)) (hv : (r.extract j (j + vs.length)).toList = vs) : (execOp a.eval o).run Tryz.prog W = .ok (.value (.agg vs.toArray)) W := by
 obtain ⟨d, h1, h2, h3⟩ := hrow
 have hc : W.rangeAt g j vs := fun i v hi => by
  refine h.cell (j + i) v ?_
  rw [<- hv] at hi
  simp only [Array.toList_extract, List.extract_eq_take_drop, List.getElem?_take, List.getElem?_drop] at hi
  split at hi
  ·simpa using hi
  ·cases hi
 have hr := run_loadVar_mid W g j ty vs d hc h1 h2 h3
 unfold execOp
 simp only [ho, hx, Instr.loadAt, Instr.sureAddr, Sem.run_bind, Sem.run_pure, Result.andThen_ok, hr]
theorem zA5.off2 {lo g : Nat} {w W W' : World} (h : zA5 lo w W) (ho : Off g W W') (hg : g < lo ∨ w.heap.size <= g) : zA5 lo w W' := ⟨Nat.le_trans h.size ho.size, fun k h1 h2 => (ho.block k (Nat.lt_of_lt_of_le h2 h.size) (by omega)).trans (h.block k h1 h2)⟩
theorem zA5.call {lo : Nat} {w W W' : World} (h : zA5 lo w W) (hb : Below W.heap.size W W') : zA5 lo w W' := h.trans (.below hb)
theorem zP3 (w : World) : jT 26 ((w.alloc (.cells #[.bool false, .slice none 0 0, .slice none 0 0, .slice none 0 0] 26)).alloc (.cells #[.bool false, .slice none 0 0, .slice none 0 0, .slice none 0 0] 26)) w.heap.size NC.nil.row /\ jT 26 ((w.alloc (.cells #[.bool false, .slice none 0 0, .slice none 0 0, .slice none 0 0] 26)).alloc (.cells #[.bool false, .slice none 0 0, .slice none 0 0, .slice none 0 0] 26)) (w.heap.size + 1) NC.nil.row /\ Below w.heap.size w ((w.alloc (.cells #[.bool false, .slice none 0 0, .slice none 0 0, .slice none 0 0] 26)).alloc (.cells #[.bool false, .slice none 0 0, .slice none 0 0, .slice none 0 0] 26)) := by
 have e1 : (w.alloc (.cells NC.nil.row 26)).heap.size = w.heap.size + 1 := by simp
 have h2 := jT.new (w.alloc (.cells NC.nil.row 26)) 26 NC.nil.row
 rw [e1] at h2
 exact ⟨(jT.new w 26 NC.nil.row).alloc _, h2, ((Below.refl _ _).alloc (Nat.le_refl _) _).alloc (by simp) _⟩
theorem zAr (w : World) : jT 26 (w.alloc (.cells #[.bool false, .slice none 0 0, .slice none 0 0, .slice none 0 0] 26)) w.heap.size NC.nil.row /\ Below w.heap.size w (w.alloc (.cells #[.bool false, .slice none 0 0, .slice none 0 0, .slice none 0 0] 26)) := ⟨jT.new w 26 NC.nil.row, (Below.refl _ _).alloc (Nat.le_refl _) _⟩
theorem zBx {P : Program} {ops : Array Oper} {Q : Exit -> Act -> World -> Prop} {S : World -> Prop} {z : Nat -> Bool} {i : Nat} {oi : Oper} {n : Nat} {listed : Array Bool} {a : Act} {w : World} (hi : ops[i]? = some oi) (hs : Region.noSelect ops = true) (hz : zT8 ops z i = true) (hf : Region.free .any ops listed i = true) (hr : (Region.ready .any ops listed).contains i = true)
  (hQ : ∀ c a w, Q (.panic c) (a.put oi.dst undef) w -> Q (.panic c) a w) (hw : Region.wanted oi (yielded ops a.tmps) = false) (hS : S w)
  (h : zCu P ops Q S z n (listed.setIfInBounds i true) (a.put oi.dst undef) w) : zCu P ops Q S z (n + 1) listed a w :=
 zX2 hi hs hz hQ n listed a w (Region.free_spec hi hf) (by simpa using hr) (.inr ⟨hw, rfl⟩) hS h
theorem zKu : (Tryz.prog.info? 24).map (·.size) = some 1 := by kernel_rfl
theorem kS.later2 {w0 w w' : World} {c : NC} {n : NT} {g : Nat} (h : kS w0 c n) (hb : Below w0.heap.size w0 w) (ho : Off g w w') (hg : w0.heap.size <= g) : kS w' c n := h.later (hb.trans (ho.below hg hb.size))
theorem zB6 {ty : TypeId} {op : Oper} {a : Act} {w : World} {K : Act -> World -> Prop} {Q : Exit -> Act -> World -> Prop} {g j : Nat} {v : Value} (h : w.cell? ⟨g, j, none⟩ = some v) (x : Operand) (ho : op.op = .load ty x) (hx : a.eval x = .pointer (some ⟨g, j, none⟩)) {d : TypeDesc} (hu : Tryz.prog.underlying ty = some d) (hd : d.isRow = false) (hk : K (a.put op.dst v) w) : Oper.wp Tryz.prog op a w K Q := by
 have hl := zD3 hu hd h
 unfold Oper.wp execOp
 simp only [ho, hx, Instr.loadAt, Instr.sureAddr, Sem.run_bind, Sem.run_pure, Result.andThen_ok, hl]
 exact hk
theorem zK3 {ty : TypeId} {a : Act} {o : Oper} {W : World} {g j : Nat} {v : Value} (h : W.cell? ⟨g, j, none⟩ = some v) (x : Operand) (ho : o.op = .load ty x) (hx : a.eval x = .pointer (some ⟨g, j, none⟩)) {d : TypeDesc} (hu : Tryz.prog.underlying ty = some d) (hd : d.isRow = false) : (execOp a.eval o).run Tryz.prog W = .ok (.value v) W := by
 have hl := zD3 hu hd h
 unfold execOp
 simp only [ho, hx, Instr.loadAt, Instr.sureAddr, Sem.run_bind, Sem.run_pure, Result.andThen_ok, hl]
def OC.into (o : OC) : SC := ⟨o.gi, o.G1, o.g1, o.e1, o.go, o.G2, o.g2, o.e2, o.gp⟩
theorem zLl {w : World} {o : OC} {a : OpP} (h : OkA w o a) : zB1 w o.into a.g := h.hg
section
variable {w w' : World} {g : Nat} {a b x y : Value} {t : TypeId}
theorem yb2 (h : w.heap[g]? = some (.cells #[a, b] t (0, 0))) : w.cell? ⟨g, 0, none⟩ = some a /\ w.cell? ⟨g, 1, none⟩ = some b /\ w.frozen? ⟨g, 0, none⟩ = false /\ w.frozen? ⟨g, 1, none⟩ = false := by
 refine ⟨?_, ?_, ?_, ?_⟩ <;> simp [World.cell?, World.frozen?, h]
theorem yset (w : World) (g : Nat) (t : TypeId) (cs : Array Value) (k : Nat) (x : Value) (h : w.heap[g]? = some (.cells cs t (0, 0))) : (w.setCell ⟨g, k, none⟩ x).heap[g]? = some (.cells (cs.setIfInBounds k x) t (0, 0)) := by
 have hlt := xlt h
 have h' : w.heap[g] = .cells cs t (0, 0) := by simpa [Array.getElem?_eq_getElem hlt] using h
 show (w.heap.modify g _)[g]? = _
 rw [Array.getElem?_eq_getElem (by simpa using hlt), Array.getElem_modify_self, h']
 rfl
theorem kMq (h : w.heap[g]? = some (.cells #[a, b] t (0, 0))) (x : Value) : (w.setCell ⟨g, 0, none⟩ x).heap[g]? = some (.cells #[x, b] t (0, 0)) := yset w g t _ 0 x h
theorem zCr (h : w.heap[g]? = some (.cells #[a, b] t (0, 0))) (x y : Value) : ((w.setCell ⟨g, 0, none⟩ x).setCell ⟨g, 1, none⟩ y).heap[g]? = some (.cells #[x, y] t (0, 0)) := yset _ g t _ 1 y (yset w g t _ 0 x h)
theorem kFq {cs : Array Value} {g' k : Nat} (h : w.heap[g]? = some (.cells cs t (0, 0))) (hne : g ≠ g') (x : Value) : (w.setCell ⟨g', k, none⟩ x).heap[g]? = some (.cells cs t (0, 0)) := (Below.heap_setCell _ _ _ _ hne).trans h
end
theorem kK3 (w : World) (o o' o2 : Obj) : (((w.alloc o).alloc o').alloc o2).heap[w.heap.size]? = some o /\ (((w.alloc o).alloc o').alloc o2).heap[w.heap.size + 1]? = some o' /\ (((w.alloc o).alloc o').alloc o2).heap[w.heap.size + 1 + 1]? = some o2 := by
 refine ⟨?_, ?_, ?_⟩
 ·rw [Below.heap_alloc _ _ _ (by simp; omega), Below.heap_alloc _ _ _ (by simp)]; exact heap_alloc_new _ _
 ·rw [Below.heap_alloc _ _ _ (by simp), show w.heap.size + 1 = (w.alloc o).heap.size by simp]; exact heap_alloc_new _ _
 ·rw [show w.heap.size + 1 + 1 = ((w.alloc o).alloc o').heap.size by simp]; exact heap_alloc_new _ _
theorem kMr (w : World) (o o' : Obj) : ((w.alloc o).alloc o').heap[w.heap.size]? = some o /\ ((w.alloc o).alloc o').heap[w.heap.size + 1]? = some o' := by
 refine ⟨?_, ?_⟩
 ·rw [Below.heap_alloc _ _ _ (by simp)]; exact heap_alloc_new _ _
 ·rw [show w.heap.size + 1 = (w.alloc o).heap.size by simp]; exact heap_alloc_new _ _
theorem zPp (w : World) (o o' : Obj) : Below w.heap.size w ((w.alloc o).alloc o') := ((Below.refl _ _).alloc (Nat.le_refl _) _).alloc (by simp) _
theorem kH7 (w : World) (o o' o2 : Obj) : Below w.heap.size w (((w.alloc o).alloc o').alloc o2) := (zPp w o o').alloc (by simp; omega) _
theorem zBt.yset {w : World} {B g k : Nat} {u x : Value} {l : List Int} {cs : Array Value} {t : TypeId} {fr : Nat × Nat} (h : zBt w B u l) (hg : w.heap[g]? = some (.cells cs t fr)) (ht : t ≠ 3) : zBt (w.setCell ⟨g, k, none⟩ x) B u l := by
 refine zBt.of_own (ownsRow_setCell_other h.own (a := ⟨g, k, none⟩) (fun e => ?_) _) rfl
 rcases h.own.2 with ⟨e1, _⟩ | ⟨g', cap, cur, e1, _, hg', _⟩
 ·rw [e1] at e; cases e
 ·rw [e1] at e
  injection e with e
  have e : g' = g := e
  subst e
  rw [hg] at hg'
  injection hg' with hg'
  injection hg' with _ h2
  exact ht h2
theorem zBt.ypt {w : World} {B g : Nat} {u a b x y : Value} {l : List Int} (h : zBt w B u l) (hg : w.heap[g]? = some (.cells #[a, b] 29 (0, 0))) : zBt ((w.setCell ⟨g, 0, none⟩ x).setCell ⟨g, 1, none⟩ y) B u l :=
 (h.yset hg (by decide)).yset (kMq hg x) (by decide)
def zC3 (w : World) (r : (List Int × Int) × Bool) (e : Ending) (w' : World) : Prop := ∃ v, e = .returned (.tuple #[.agg #[v, .int .i64 r.1.2], .bool r.2]) /\ zBt w' w.heap.size v r.1.1 /\ Below w.heap.size w w'
theorem zBi {w w' : World} {r : (List Int × Int) × Bool} {l : List Int} {z : Int} {b : Bool} {v : Value} (h : r = ((l, z), b)) (ho : zBt w' w.heap.size v l) (hb : Below w.heap.size w w') : zC3 w r (.returned (.tuple #[.agg #[v, .int .i64 z], .bool b])) w' := by
 subst h; exact ⟨v, rfl, ho, hb⟩
def PA (w : World) (v : Value) (p : List Int × Int) : Prop := ∃ u, v = .agg #[u, .int .i64 p.2] /\ XA w u p.1
theorem kK4 {W : World} {aff : Int} {b : Bool} (h : decide (zDx aff) = b) : Calls Tryz.prog 137 #[.int .i64 aff] W (jA (.bool b) W) := by
 subst h
 by_cases h0 : aff = 0
 ·subst h0
  go_enter Tryz.func137, Tryz.ntmps137
  go_wp2
  go_ret
  exact ⟨rfl, Below.refl _ _⟩
 by_cases h1 : aff = 1
 ·subst h1
  go_enter Tryz.func137, Tryz.ntmps137
  go_wp2
  go_ret
  exact ⟨rfl, Below.refl _ _⟩
 by_cases h2 : aff = 2
 ·subst h2
  go_enter Tryz.func137, Tryz.ntmps137
  go_wp2
  go_ret
  exact ⟨rfl, Below.refl _ _⟩
 have HF := hd (show decide (zDx aff) = false from decide_eq_false (fun h => by unfold zDx at h; omega))
 have e0 : (aff == 0) = false := by simp [h0]
 have e1 : (aff == 1) = false := by simp [h1]
 have e2 : (aff == 2) = false := by simp [h2]
 clear h0 h1 h2
 go_enter Tryz.func137, Tryz.ntmps137
 go_wp2
 go_ret
 exact ⟨kC HF.out.symm, Below.refl _ _⟩
theorem zH0 {W : World} {off pos aff : Int} {b : Bool} (h : zEl off pos aff = b) : Calls Tryz.prog 138 #[.int .i64 off, .int .i64 pos, .int .i64 aff] W (jA (.bool b) W) := by
 subst h
 by_cases h0 : pos < off
 ·have HF := hd (show zEl off pos aff = true by unfold zEl; simp [h0])
  have e0 : decide (pos < off) = true := decide_eq_true h0
  clear h0
  go_enter Tryz.func138, Tryz.ntmps138
  go_wp2
  go_ret
  exact ⟨kC HF.out.symm, Below.refl _ _⟩
 have e0 : decide (pos < off) = false := decide_eq_false h0
 by_cases h1 : pos = off
 ·by_cases h2 : aff = 1
  ·have HF := hd (show zEl off pos aff = true by unfold zEl; simp [h1, h2])
   have e1 : (pos == off) = true := by simp [h1]
   have e2 : (aff == 1) = true := by simp [h2]
   clear h0 h1 h2
   go_enter Tryz.func138, Tryz.ntmps138
   go_wp2
   go_ret
   exact ⟨kC HF.out.symm, Below.refl _ _⟩
  ·have HF := hd (show zEl off pos aff = false by unfold zEl; simp [h0, h2])
   have e1 : (pos == off) = true := by simp [h1]
   have e2 : (aff == 1) = false := by simp [h2]
   clear h0 h1 h2
   go_enter Tryz.func138, Tryz.ntmps138
   go_wp2
   go_ret
   exact ⟨kC HF.out.symm, Below.refl _ _⟩
 ·have HF := hd (show zEl off pos aff = false by unfold zEl; simp [h0, h1])
  have e1 : (pos == off) = false := by simp [h1]
  clear h0 h1
  go_enter Tryz.func138, Tryz.ntmps138
  go_wp2
  go_ret
  exact ⟨kC HF.out.symm, Below.refl _ _⟩
theorem zW6 {W : World} {u : Value} {p : List Int} {off pos aff : Int} (hp : XA W u p) (h : pos = off /\ aff = 0) : Calls Tryz.prog 139 #[.agg #[u, .int .i64 off], .int .i64 pos, .int .i64 aff] W (zC3 W noP) := by
 have e1 : (pos == off) = true := by simp [h.1]
 have e2 : (aff == 0) = true := by simp [h.2]
 clear h
 obtain ⟨A, n, c, rfl, hn, hl, hc, hp⟩ := hp
 obtain ⟨W0, hW⟩ : ∃ W0, W0 = (W.alloc (.cells #[.slice A n c, .int .i64 off] 29)).alloc (.cells #[.slice none 0 0, .int .i64 0] 29) := ⟨_, rfl⟩
 have hb0 : Below W.heap.size W W0 := hW ▸ zPp _ _ _
 have e0 := kMr W (Obj.cells #[Value.slice A n c, Value.int .i64 off] 29) (Obj.cells #[Value.slice none 0 0, Value.int .i64 0] 29)
 rw [<- hW] at e0
 have HKP := hd (fun w (h : Below W0.heap.size W0 w) => zI1 e0.1 h)
 have HKR := hd (fun w (h : Below W0.heap.size W0 w) => zI1 e0.2 h)
 have HIP := hd (fun w (h : Below W0.heap.size W0 w) => hp.later (hb0.trans (h.mono hb0.size)))
 have HP := hd (show ∀ w, Below W0.heap.size W0 w -> XA w (.slice A n c) p from fun w h => ⟨A, n, c, rfl, hn, hl, hc, HIP.out w h⟩)
 have HBc := hd (Below.refl W0.heap.size W0)
 have HW := hd hW
 have HB0 := hd hb0
 have HN := hd hn
 obtain ⟨x0, x1, _, f1⟩ := yb2 (HKP.out W0 HBc.out)
 obtain ⟨z0, z1, g0, g1⟩ := yb2 (HKR.out W0 HBc.out)
 clear hp hn hW hb0 e0
 go_enter Tryz.func139, Tryz.ntmps139
 go_wp2
 rw [<- HW.out]
 refine bodyPost_ret (v := .tuple #[.agg #[.slice none 0 0, .int .i64 0], .bool false]) (by simp [results, Tryz.results139, go_sem, z0, z1]) rfl (zBi rfl (zBt.nil _ _) HB0.out)
theorem zW7 {W : World} {u : Value} {p : List Int} {off pos aff : Int} (hp : XA W u p) (h : ¬ (pos = off /\ aff = 0)) (hs : zEl off pos aff = false) : Calls Tryz.prog 139 #[.agg #[u, .int .i64 off], .int .i64 pos, .int .i64 aff] W (fun e w' => e = .returned (.tuple #[.agg #[u, .int .i64 off], .bool true]) /\ Below W.heap.size W w') := by
 have HS := hd hs
 clear hs
 obtain ⟨A, n, c, rfl, hn, hl, hc, hp⟩ := hp
 obtain ⟨W0, hW⟩ : ∃ W0, W0 = (W.alloc (.cells #[.slice A n c, .int .i64 off] 29)).alloc (.cells #[.slice none 0 0, .int .i64 0] 29) := ⟨_, rfl⟩
 have hb0 : Below W.heap.size W W0 := hW ▸ zPp _ _ _
 have e0 := kMr W (Obj.cells #[Value.slice A n c, Value.int .i64 off] 29) (Obj.cells #[Value.slice none 0 0, Value.int .i64 0] 29)
 rw [<- hW] at e0
 have HKP := hd (fun w (h : Below W0.heap.size W0 w) => zI1 e0.1 h)
 have HKR := hd (fun w (h : Below W0.heap.size W0 w) => zI1 e0.2 h)
 have HIP := hd (fun w (h : Below W0.heap.size W0 w) => hp.later (hb0.trans (h.mono hb0.size)))
 have HP := hd (show ∀ w, Below W0.heap.size W0 w -> XA w (.slice A n c) p from fun w h => ⟨A, n, c, rfl, hn, hl, hc, HIP.out w h⟩)
 have HBc := hd (Below.refl W0.heap.size W0)
 have HW := hd hW
 have HB0 := hd hb0
 have HN := hd hn
 obtain ⟨x0, x1, _, f1⟩ := yb2 (HKP.out W0 HBc.out)
 obtain ⟨z0, z1, g0, g1⟩ := yb2 (HKR.out W0 HBc.out)
 clear hp hn hW hb0 e0
 cases e1 : (pos == off)
 ·clear h
  go_enter Tryz.func139, Tryz.ntmps139
  go_wp2_with (go_at_call 138; (try rw [<- HW.out]); refine Calls.mono (zH0 HS.out) ?_; rintro e w9 ⟨rfl, b9⟩; have HB9 := hd b9; clear b9 x0 x1 z0 z1 f1 g0 g1; obtain ⟨x0, x1, f0, f1⟩ := yb2 (HKP.out _ HB9.out); obtain ⟨z0, z1, g0, g1⟩ := yb2 (HKR.out _ HB9.out))
  have hr := zCr (HKR.out _ HB9.out) (.slice A n c) (.int .i64 off)
  obtain ⟨y0, y1, _, _⟩ := yb2 hr
  refine bodyPost_ret (v := .tuple #[.agg #[.slice A n c, .int .i64 off], .bool true]) (by simp [results, Tryz.results139, go_sem, y0, y1]) rfl ⟨rfl, ?_⟩
  exact ((HB0.out.trans (HB9.out.mono HB0.out.size)).setCell (by show _ <= W.heap.size + 1; omega) _).setCell (by show _ <= W.heap.size + 1; omega) _
 ·have e2 : (aff == 0) = false := by simp at e1; simp; exact fun h2 => h ⟨e1, h2⟩
  clear h
  go_enter Tryz.func139, Tryz.ntmps139
  go_wp2_with (go_at_call 138; (try rw [<- HW.out]); refine Calls.mono (zH0 HS.out) ?_; rintro e w9 ⟨rfl, b9⟩; have HB9 := hd b9; clear b9 x0 x1 z0 z1 f1 g0 g1; obtain ⟨x0, x1, f0, f1⟩ := yb2 (HKP.out _ HB9.out); obtain ⟨z0, z1, g0, g1⟩ := yb2 (HKR.out _ HB9.out))
  have hr := zCr (HKR.out _ HB9.out) (.slice A n c) (.int .i64 off)
  obtain ⟨y0, y1, _, _⟩ := yb2 hr
  refine bodyPost_ret (v := .tuple #[.agg #[.slice A n c, .int .i64 off], .bool true]) (by simp [results, Tryz.results139, go_sem, y0, y1]) rfl ⟨rfl, ?_⟩
  exact ((HB0.out.trans (HB9.out.mono HB0.out.size)).setCell (by show _ <= W.heap.size + 1; omega) _).setCell (by show _ <= W.heap.size + 1; omega) _
theorem zW8 {W : World} {u : Value} {p : List Int} {off pos aff : Int} {k : Nat} (hp : XA W u p) (hk : p.length = k + 1) (hsm : jI p = true) (h : ¬ (pos = off /\ aff = 0)) (hs : zEl off pos aff = true) (h1 : 0 <= off) (h2 : off <= 1048576) (h3 : 0 <= pos) (h4 : pos <= 1048576) : Calls Tryz.prog 139 #[.agg #[u, .int .i64 off], .int .i64 pos, .int .i64 aff] W (zC3 W ((addL p k 1, off - pos), true)) := by
 have HS := hd hs
 have HNX := hd (kCp hk hsm)
 have HBD := hd ((zDf p).1 hsm)
 have HLX := hd (show (addL p k 1).length = k + 1 by rw [zJe]; exact hk)
 have HK := hd hk
 clear hs hk hsm
 obtain ⟨A, n, c, rfl, hn, hl, hc, hp⟩ := hp
 obtain ⟨W0, hW⟩ : ∃ W0, W0 = (W.alloc (.cells #[.slice A n c, .int .i64 off] 29)).alloc (.cells #[.slice none 0 0, .int .i64 0] 29) := ⟨_, rfl⟩
 have hb0 : Below W.heap.size W W0 := hW ▸ zPp _ _ _
 have e0 := kMr W (Obj.cells #[Value.slice A n c, Value.int .i64 off] 29) (Obj.cells #[Value.slice none 0 0, Value.int .i64 0] 29)
 rw [<- hW] at e0
 have HKP := hd (fun w (h : Below W0.heap.size W0 w) => zI1 e0.1 h)
 have HKR := hd (fun w (h : Below W0.heap.size W0 w) => zI1 e0.2 h)
 have HIP := hd (fun w (h : Below W0.heap.size W0 w) => hp.later (hb0.trans (h.mono hb0.size)))
 have HP := hd (show ∀ w, Below W0.heap.size W0 w -> XA w (.slice A n c) p from fun w h => ⟨A, n, c, rfl, hn, hl, hc, HIP.out w h⟩)
 have HBc := hd (Below.refl W0.heap.size W0)
 have HW := hd hW
 have HB0 := hd hb0
 have HN := hd hn
 obtain ⟨x0, x1, _, f1⟩ := yb2 (HKP.out W0 HBc.out)
 obtain ⟨z0, z1, g0, g1⟩ := yb2 (HKR.out W0 HBc.out)
 clear hp hn hW hb0 e0
 cases e1 : (pos == off)
 ·clear h
  go_enter Tryz.func139, Tryz.ntmps139
  go_wp2_with (first | (go_at_call 138; (try rw [<- HW.out]); refine Calls.mono (zH0 HS.out) ?_; rintro e w9 ⟨rfl, b9⟩; have HB9 := hd b9; clear b9 x0 x1 z0 z1 f1 g0 g1; obtain ⟨x0, x1, f0, f1⟩ := yb2 (HKP.out _ HB9.out); obtain ⟨z0, z1, g0, g1⟩ := yb2 (HKR.out _ HB9.out)) | (go_at_call 118; refine Calls.mono (kBe (HP.out _ HB9.out) HBD.out HNX.out) ?_; rintro e w8 ⟨v8, rfl, ho, b8⟩; obtain ⟨A8, c8, rfl, _, _⟩ := ho.open_at (k + 1) HLX.out; have HB8 := hd (zI HB9.out b8); have HO := hd (ho.weaken (Nat.le_trans HB0.out.size HB9.out.size)); clear b8 ho x0 x1 z0 z1 f0 f1 g0 g1; obtain ⟨x0, x1, f0, f1⟩ := yb2 (HKP.out _ HB8.out); obtain ⟨z0, z1, g0, g1⟩ := yb2 (HKR.out _ HB8.out)))
  have hr1 := kFq (k := 1) (kFq (k := 0) (HKR.out _ HB8.out) (g' := W.heap.size) (by omega) (.slice A8 (k + 1) c8)) (g' := W.heap.size) (by omega) (.int .i64 (off - pos))
  have hr := zCr hr1 (.slice A8 (k + 1) c8) (.int .i64 (off - pos))
  obtain ⟨y0, y1, _, _⟩ := yb2 hr
  have ho := ((HO.out.ypt (x := .slice A8 (k + 1) c8) (y := .int .i64 (off - pos)) (HKP.out _ HB8.out)).ypt (x := .slice A8 (k + 1) c8) (y := .int .i64 (off - pos)) hr1)
  clear x0 x1 f0 f1 z0 z1 g0 g1
  refine bodyPost_ret (v := .tuple #[.agg #[.slice A8 (k + 1) c8, .int .i64 (off - pos)], .bool true]) (by simp [results, Tryz.results139, go_sem, y0, y1]) rfl (zBi rfl ho ?_)
  exact ((((HB0.out.trans (HB8.out.mono HB0.out.size)).setCell (Nat.le_refl _) _).setCell (Nat.le_refl _) _).setCell (by show _ <= W.heap.size + 1; omega) _).setCell (by show _ <= W.heap.size + 1; omega) _
 ·have e2 : (aff == 0) = false := by simp at e1; simp; exact fun h2 => h ⟨e1, h2⟩
  clear h
  go_enter Tryz.func139, Tryz.ntmps139
  go_wp2_with (first | (go_at_call 138; (try rw [<- HW.out]); refine Calls.mono (zH0 HS.out) ?_; rintro e w9 ⟨rfl, b9⟩; have HB9 := hd b9; clear b9 x0 x1 z0 z1 f1 g0 g1; obtain ⟨x0, x1, f0, f1⟩ := yb2 (HKP.out _ HB9.out); obtain ⟨z0, z1, g0, g1⟩ := yb2 (HKR.out _ HB9.out)) | (go_at_call 118; refine Calls.mono (kBe (HP.out _ HB9.out) HBD.out HNX.out) ?_; rintro e w8 ⟨v8, rfl, ho, b8⟩; obtain ⟨A8, c8, rfl, _, _⟩ := ho.open_at (k + 1) HLX.out; have HB8 := hd (zI HB9.out b8); have HO := hd (ho.weaken (Nat.le_trans HB0.out.size HB9.out.size)); clear b8 ho x0 x1 z0 z1 f0 f1 g0 g1; obtain ⟨x0, x1, f0, f1⟩ := yb2 (HKP.out _ HB8.out); obtain ⟨z0, z1, g0, g1⟩ := yb2 (HKR.out _ HB8.out)))
  have hr1 := kFq (k := 1) (kFq (k := 0) (HKR.out _ HB8.out) (g' := W.heap.size) (by omega) (.slice A8 (k + 1) c8)) (g' := W.heap.size) (by omega) (.int .i64 (off - pos))
  have hr := zCr hr1 (.slice A8 (k + 1) c8) (.int .i64 (off - pos))
  obtain ⟨y0, y1, _, _⟩ := yb2 hr
  have ho := ((HO.out.ypt (x := .slice A8 (k + 1) c8) (y := .int .i64 (off - pos)) (HKP.out _ HB8.out)).ypt (x := .slice A8 (k + 1) c8) (y := .int .i64 (off - pos)) hr1)
  clear x0 x1 f0 f1 z0 z1 g0 g1
  refine bodyPost_ret (v := .tuple #[.agg #[.slice A8 (k + 1) c8, .int .i64 (off - pos)], .bool true]) (by simp [results, Tryz.results139, go_sem, y0, y1]) rfl (zBi rfl ho ?_)
  exact ((((HB0.out.trans (HB8.out.mono HB0.out.size)).setCell (Nat.le_refl _) _).setCell (Nat.le_refl _) _).setCell (by show _ <= W.heap.size + 1; omega) _).setCell (by show _ <= W.heap.size + 1; omega) _
theorem kD8 {a b c : Nat} (h : a + 3 <= b) (h2 : b <= c) : a < c /\ a + 1 < c /\ a + 1 + 1 < c := by omega
structure PC where
 A : Option Addr
 n : Nat
 c : Nat
 x : Int
def PC.row (c : PC) : Array Value := #[.slice c.A c.n c.c, .int .i64 c.x]
theorem PC.one (c : PC) : c.row.all (·.oneCell') = true := by kernel_rfl
structure kAw (w : World) (c : PC) (p : List Int × Int) : Prop where
 hx : p.2 = c.x
 hn : p.1.length = c.n
 hc : c.n <= c.c
 hm : c.n <= 1000
 hA : IL w w.heap.size c.A p.1
theorem kAw.later {w w' : World} {c : PC} {p : List Int × Int} (h : kAw w c p) (hb : Below w.heap.size w w') : kAw w' c p := ⟨h.hx, h.hn, h.hc, h.hm, h.hA.later hb⟩
theorem zW : kC5 29 2 := ⟨.struct (Tryz.prog.fieldsOf 29), by kernel_rfl, rfl, by kernel_rfl⟩
theorem kAw.pa {w : World} {c : PC} {p : List Int × Int} (h : kAw w c p) : PA w (.agg c.row) p :=
 ⟨.slice c.A c.n c.c, by rw [h.hx]; rfl, c.A, c.n, c.c, rfl, h.hn, h.hm, h.hc, h.hA⟩
def kK5 (w : World) (r : (List Int × Int) × Bool) (e : Ending) (w' : World) : Prop := ∃ c : PC, e = .returned (.tuple #[.agg c.row, .bool r.2]) /\ kAw w' c r.1 /\ Below w.heap.size w w'
theorem OkA.xq12 {w : World} {o : OC} {a : OpP} (ho : OkA w o a) (ta : zAf a) : XA w (.slice o.Q o.lq o.cq) a.q := ⟨_, _, _, rfl, ho.hlq, by have := ta.hq; have := ho.hlq; omega, ho.hcq, ho.hq⟩
theorem OkA.xt12 {w : World} {o : OC} {a : OpP} (ho : OkA w o a) (ta : zAf a) : XA w (.slice o.T o.lt o.ct) a.t := ⟨_, _, _, rfl, ho.hlt, by have := ta.ht; have := ho.hlt; omega, ho.hct, ho.ht⟩
theorem kH8 (a b : List Int × Int) : samP a b = true ↔ a = b := by unfold samP; exact decide_eq_true_iff
theorem zTu (c : OC) : c.row.all (·.oneCell') = true := by kernel_rfl
theorem zW9 {w : World} {s : SC} {sl : Sl} (h : zB1 w s sl) (hf : fewS sl = true) : kAw w ⟨s.A, s.n, s.c, s.x⟩ sl.a /\ kAw w ⟨s.B, s.m, s.d, s.y⟩ sl.f /\ sl.a.1.length <= 60 /\ sl.f.1.length <= 60 := by
 obtain ⟨l1, l2⟩ := h.len hf
 have e1 := h.hn
 have e2 := h.hm
 exact ⟨⟨h.hx, h.hn, h.hc, by show s.n <= _; omega, h.hA⟩, ⟨h.hy, h.hm, h.hd, by show s.m <= _; omega, h.hB⟩, by omega, by omega⟩
def SC.nil : SC := ⟨false, none, 0, 0, 0, none, 0, 0, 0⟩
theorem zJ2 (w : World) : zB1 w SC.nil zeroS := zIi.zero w
theorem zDs (w : World) (c : NC) (s : SC) (o : OC) : ∃ W0, ((((w.alloc (.cells c.row 26)).alloc (.cells s.row 33)).alloc (.cells o.row 35)).alloc (.cells #[.bool false, .slice none 0 0, .slice none 0 0, .slice none 0 0] 26)).alloc (.cells #[.bool false, .slice none 0 0, .int .i64 0, .slice none 0 0, .int .i64 0] 33) = W0 /\ St5 w c s o (w.heap.size + 1 + 1 + 1) (w.heap.size + 1 + 1 + 1 + 1) NC.nil SC.nil W0 := by
 obtain ⟨W1, hW1, h1⟩ := kN w c s o
 have e1 : W1.heap.size = w.heap.size + 1 + 1 + 1 := by rw [<- hW1]; simp
 rw [hW1]
 refine ⟨_, rfl, h1.call (((Below.refl _ _).alloc (Nat.le_refl _) _).alloc (by simp) _), ?_, ?_⟩
 ·rw [<- e1]; exact (jT.new W1 26 NC.nil.row).alloc _
 ·have e2 : (W1.alloc (.cells NC.nil.row 26)).heap.size = w.heap.size + 1 + 1 + 1 + 1 := by simp [e1]
  rw [<- e2]; exact jT.new _ 33 SC.nil.row
theorem St5.set7 {w W W' : World} {c : NC} {s : SC} {o : OC} {g7 g8 : Nat} {a a' : NC} {t : SC} (h : St5 w c s o g7 g8 a t W) (hg : w.heap.size + 1 + 1 < g7) (hne : g8 ≠ g7) (hv : jT 26 W' g7 a'.row) (ho : Off g7 W W') : St5 w c s o g7 g8 a' t W' := ⟨h.st.store ho hg, hv, h.v8.off ho hne⟩
theorem St5.set8 {w W W' : World} {c : NC} {s : SC} {o : OC} {g7 g8 : Nat} {a : NC} {t t' : SC} (h : St5 w c s o g7 g8 a t W) (hg : w.heap.size + 1 + 1 < g8) (hne : g7 ≠ g8) (hv : jT 33 W' g8 t'.row) (ho : Off g8 W W') : St5 w c s o g7 g8 a t' W' := ⟨h.st.store ho hg, h.v7.off ho hne, hv⟩
theorem zDt {fn : Func} {p q u : Tmp} (h : fn.results = #[.cell p 26, .cell q 33, .tmp u]) (tmps : Array Value) (w : World) {g g' : Nat} {c : NC} {s : SC} (hv : jT 26 w g c.row) (hs : jT 33 w g' s.row) (hp : tmps.getD p undef = .pointer (some ⟨g, 0, none⟩)) (hq : tmps.getD q undef = .pointer (some ⟨g', 0, none⟩)) : (results fn tmps).run Tryz.prog w = .ok (.tuple #[.agg c.row, .agg s.row, tmps.getD u undef]) w := by
 obtain ⟨d, h3, h4, h5⟩ := zD
 obtain ⟨d', h3', h4', h5'⟩ := zP
 simp only [results, h]
 simp only [List.mapM_toArray, hp, hq, asAddr, Sem.run_bind, Sem.run_pure, List.mapM_cons, List.mapM_nil]
 simp [Sem.run_bind, Result.andThen, run_loadVar_row w g _ _ _ _ d hv h3 (by cases d <;> simp_all) h5, run_loadVar_row w g' _ _ _ _ d' hs h3' (by cases d' <;> simp_all) h5']
def OC.from_ (o : OC) : SC := ⟨o.fi, o.F1, o.f1, o.d1, o.fo, o.F2, o.f2, o.d2, o.fp⟩
theorem zPq {w : World} {o : OC} {a : OpP} (h : OkA w o a) : zB1 w o.from_ a.f := h.hf
theorem kH9 {w : World} {c : NC} {n : NT} (h : kS w c n) : Calls Tryz.prog 75 #[.agg c.row] w (fun e w' => ∃ c' : NC, e = .returned (.agg c'.row) /\ zH3 w.heap.size w' (fun W => kS W c' n) /\ Below w.heap.size w w') := by
 obtain ⟨d, h⟩ := h
 refine (zEy d w _ n h).mono fun e w' h1 => ?_
 obtain ⟨v, rfl, ht, hb⟩ := h1
 obtain ⟨c', rfl, _⟩ := zFo (ht.at_ (B := w'.heap.size) fun b hb => hb.2)
 exact ⟨c', rfl, zHy ht, hb⟩
def zVb (w : World) (r : (NT × Sl) × Int) (e : Ending) (w' : World) : Prop :=
 ∃ (c : NC) (s : SC), e = .returned (.tuple #[.agg c.row, .agg s.row, .int .i64 r.2]) /\ zH3 w.heap.size w' (fun W => kS W c r.1.1) /\ zH3 w.heap.size w' (fun W => zB1 W s r.1.2) /\ Below w.heap.size w w'
end Go.Proofs.YtmkciabefepelaaGreat
