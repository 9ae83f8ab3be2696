/- An operation told anew: fresh, freshSel. -/
import Derived.Test.YtmkciabefepelaaGreatJCAny
set_option maxRecDepth 4000
set_option maxHeartbeats 8000000
namespace Go.Proofs.YtmkciabefepelaaGreat
open Go.RowKit
def zI2 (w : World) (g : Nat) (a b c d e : Value) : Prop := w.heap[g]? = some (.cells #[a, b, c, d, e] 33 (0, 0))
section
variable {w w' : World} {g : Nat} {a b c d e : Value}
theorem zI2.lt (h : zI2 w g a b c d e) : g < w.heap.size := xlt h
theorem zI2.keep (h : zI2 w g a b c d e) (hb : Below w.heap.size w w') : zI2 w' g a b c d e := zI1 h hb
theorem zI2.off {g' : Nat} (h : zI2 w g a b c d e) (ho : Off g' w w') (hne : g ≠ g') : zI2 w' g a b c d e := (ho.block g h.lt hne).trans h
theorem zI2.cells (h : zI2 w g a b c d e) : w.cell? ⟨g, 0, none⟩ = some a /\ w.cell? ⟨g, 1, none⟩ = some b /\ w.cell? ⟨g, 2, none⟩ = some c /\ w.cell? ⟨g, 3, none⟩ = some d /\ w.cell? ⟨g, 4, none⟩ = some e := kGy h
theorem zI2.range (h : zI2 w g a b c d e) : w.rangeAt g 0 [a, b, c, d, e] := fun j v hv => by
 rw [Nat.zero_add, cell_of_row _ _ j _ _ (0, 0) h]
 simpa using hv
end
theorem zIm {ops : Array Oper} {rest : List Oper} {op : Oper} {act : Act} {w : World} {Q : Exit -> Act -> World -> Prop} {g : Nat} {a b c d e : Value} (h : zI2 w g a b c d e)
  (x : Operand) (ho : op.op = .load 33 x) (hgd : op.guard = none) (hx : act.eval x = .pointer (some ⟨g, 0, none⟩)) (hk : wpList Tryz.prog ops Q rest (act.put op.dst (.agg #[a, b, c, d, e])) w) : wpList Tryz.prog ops Q (op :: rest) act w := by
 obtain ⟨d, h1, h2, h3⟩ := zD4
 exact wpList_load_mid hgd 33 x ho g 0 hx _ d h.range h1 h2 h3 hk
theorem zHc {ops : Array Oper} {rest : List Oper} {op : Oper} {act : Act} {W : World} {Q : Exit -> Act -> World -> Prop} {g : Nat} {a b c d e a' b' c' d' e' : Value} (h : zI2 W g a b c d e) (x y : Operand) (ho : op.op = .store 33 x y) (hgd : op.guard = none) (hd : op.dst = none) (hx : act.eval x = .pointer (some ⟨g, 0, none⟩)) (hy : act.eval y = .agg #[a', b', c', d', e']) (h1 : #[a', b', c', d', e'].all (·.oneCell') = true)
  (hk : ∀ W', zI2 W' g a' b' c' d' e' -> Off g W W' -> wpList Tryz.prog ops Q rest act W') : wpList Tryz.prog ops Q (op :: rest) act W := by
 obtain ⟨d, h3, h4, h5⟩ := zD4
 refine wpList_store_row hgd 33 x y ho g _ hx hy 33 _ h h5 rfl h1 ?_
 rw [hd]
 exact hk _ (setRow_heap _ _ _ _ _ (0, 0) h) (zKw _ _ _ _ _ h)
theorem zP6 {fn : Func} {p : Tmp} (h : fn.results = #[.cell p 33]) (tmps : Array Value) (w : World) {g : Nat} {a b c d e : Value} (hv : zI2 w g a b c d e) (hp : tmps.getD p undef = .pointer (some ⟨g, 0, none⟩)) : (results fn tmps).run Tryz.prog w = .ok (.agg #[a, b, c, d, e]) w := by
 obtain ⟨d, h3, h4, h5⟩ := zD4
 exact results_cell_row h tmps w g _ _ _ d hp hv h3 (by cases d <;> simp_all) h5
theorem zY {ty : TypeId} {n : Nat} (hsz : (Tryz.prog.info? ty).map (·.size) = some n) {op : Oper} {a : Act} {W : World} {K : Act -> World -> Prop} {Q : Exit -> Act -> World -> Prop} {g : Nat} {cs : Array Value} {t : TypeId} (h : W.heap[g]? = some (.cells cs t (0, 0))) (x y : Operand) (ho : op.op = .store ty x y) (hd : op.dst = none)
  (j : Nat) (v : Value) (vs : List Value) (hx : a.eval x = .pointer (some ⟨g, j, none⟩)) (hy : a.eval y = v) (hv : v.cells = vs.toArray) (hn : vs.length = n) (h1 : ∀ u ∈ vs, u.oneCell' = true) (hj : j + vs.length <= cs.size)
  (hk : ∀ W', W'.heap[g]? = some (.cells (zU4 cs j vs) t (0, 0)) -> Off g W W' -> K a W') : Oper.wp Tryz.prog op a W K Q := by
 have hcell : ∀ i, i < vs.length -> (W.cell? ⟨g, j + i, none⟩).isSome = true /\ W.frozen? ⟨g, j + i, none⟩ = false := fun i hi => by
  refine ⟨?_, by simp [World.frozen?, h]⟩
  have hs : j + i < cs.size := by omega
  simp [World.cell?, h, hs]
 have hrun := run_storeCells_cells (P := Tryz.prog) g j vs 0 W (fun i hi => by simpa using (hcell i hi).1) (fun i hi => by simpa using (hcell i hi).2) h1
 have hst : (storeVar ty ⟨g, j, none⟩ v).run Tryz.prog W = .ok () (W.setCells g j vs) := by
  cases hq : Tryz.prog.info? ty with
  | none => simp [hq] at hsz
  | some i =>
   have hs : i.size = vs.length := by simp [hq] at hsz; omega
   simp only [Nat.add_zero] at hrun
   simp [storeVar, sizeOf, typeInfo, hq, hv, hs, hrun]
 unfold Oper.wp execOp
 simp only [ho, hx, hy, Instr.storeAt, Instr.sureAddr, Sem.run_bind, Sem.run_pure, Result.andThen_ok, hst]
 obtain ⟨r1, r2⟩ := zHr g _ vs j W _ h
 show K (a.put op.dst undef) _
 rw [hd]
 exact hk _ r1 r2
def kMx (w : World) (si : Bool) (n : Nat) (x : Int) (m : Nat) (y : Int) (s : Sl) (e : Ending) (w' : World) : Prop :=
 ∃ A c B d, e = .returned (.agg #[.bool si, .slice A n c, .int .i64 x, .slice B m d, .int .i64 y]) /\ zH3 w.heap.size w' (fun W => zIi W si A n c x B m d y s) /\ Below w.heap.size w w'
theorem kF3 {W : World} {c : OC} {a : OpP} (h : OkA W c a) : Calls Tryz.prog 75 #[.agg #[.bool c.lf, .slice c.P c.np c.pc, .slice c.X c.nt c.tc, .slice c.K c.nk c.kc]] W (fun e w' => ∃ lf P np pc X nt tc K nk kc, e = .returned (.agg #[.bool lf, .slice P np pc, .slice X nt tc, .slice K nk kc]) /\
  zH3 W.heap.size w' (fun W' => ∃ d, zV d W' W'.heap.size (.agg #[.bool lf, .slice P np pc, .slice X nt tc, .slice K nk kc]) a.n) /\ Below W.heap.size W w') := by
 obtain ⟨d, h1⟩ := h.hn
 refine (zEy d W _ _ h1).mono ?_
 rintro e w' ⟨v, rfl, ht, hb⟩
 have hv := (ht.at_ (B := w'.heap.size) (fun b hb => hb.2)).val
 obtain ⟨lf, P, np, pc, X, nt, tc, K, nk, kc, rfl⟩ := hv
 refine ⟨lf, P, np, pc, X, nt, tc, K, nk, kc, rfl, fun W' ho => ⟨d, ?_⟩, hb⟩
 refine (ht.keep (Q := fun b => b < W'.heap.size) (fun b hb => Nat.lt_of_lt_of_le hb.2 ho.size) (fun p hp => ?_)).at_ (fun b hb => hb)
 exact ⟨ho.cell hp.1 hp.2, ho.frozen hp.1 hp.2⟩
set_option maxRecDepth 100000 in
theorem zLn {w : World} {si : Bool} {A B : Option Addr} {n c m d : Nat} {x y : Int} {s : Sl} (h : zIi w si A n c x B m d y s) (h1 : n <= 1000) (h2 : m <= 1000) :
  Calls Tryz.prog 116 #[.agg #[.bool si, .slice A n c, .int .i64 x, .slice B m d, .int .i64 y]] w (kMx w si n x m y s) := by
 obtain ⟨W0, hW⟩ : ∃ W0, (w.alloc (.cells #[.bool si, .slice A n c, .int .i64 x, .slice B m d, .int .i64 y] 33)).alloc (.cells #[.bool false, .slice none 0 0, .int .i64 0, .slice none 0 0, .int .i64 0] 33) = W0 := ⟨_, rfl⟩
 have hb0 : Below w.heap.size w W0 := hW ▸ kM (Below.refl _ _) (Nat.le_refl _)
 have e0 := zK2 w (Obj.cells #[.bool si, .slice A n c, .int .i64 x, .slice B m d, .int .i64 y] 33) (Obj.cells #[.bool false, .slice none 0 0, .int .i64 0, .slice none 0 0, .int .i64 0] 33)
 rw [hW] at e0
 have HV1 := hd (show zI2 W0 w.heap.size _ _ _ _ _ from e0.1)
 have HV2 := hd (show zI2 W0 (w.heap.size + 1) _ _ _ _ _ from e0.2)
 have HW := hd hW
 have HB := hd hb0
 have HH := hd h
 clear hW hb0 e0 h
 go_enter Tryz.func116, Tryz.ntmps116
 go_upto_region 1 with fail
 rw [HW.out]
 refine jO (S := fun W => zI2 W w.heap.size (.bool si) (.slice A n c) (.int .i64 x) (.slice B m d) (.int .i64 y)) (z := fun j => decide (10 <= j)) (by kernel_rfl) ?_
 have HSS := hd (show zI2 W0.drew w.heap.size (.bool si) (.slice A n c) (.int .i64 x) (.slice B m d) (.int .i64 y) from HV1.out)
 refine zH (i := 0) (n := 17) (.pointer (some ⟨w.heap.size, 1, none⟩)) rfl (by kernel_rfl) (by kernel_rfl) (by kernel_rfl) (by kernel_rfl) (fun _ _ _ h => h) (by rfl) (fun W hW => ?_) HSS.out ?_
 ·skip
  go_simp
 simp only [Act.put, List.setIfInBounds_toArray]
 refine zH (i := 1) (n := 16) (.pointer (some ⟨w.heap.size, 1, none⟩)) rfl (by kernel_rfl) (by kernel_rfl) (by kernel_rfl) (by kernel_rfl) (fun _ _ _ h => h) (by rfl) (fun W hW => ?_) HSS.out ?_
 ·skip
  go_simp
 simp only [Act.put]
 refine zH (i := 2) (n := 15) (.pointer (some ⟨w.heap.size, 1, none⟩)) rfl (by kernel_rfl) (by kernel_rfl) (by kernel_rfl) (by kernel_rfl) (fun _ _ _ h => h) (by rfl) (fun W hW => ?_) HSS.out ?_
 ·skip
  go_simp
 simp only [Act.put]
 refine zH (i := 3) (n := 14) (.slice A n c) rfl (by kernel_rfl) (by kernel_rfl) (by kernel_rfl) (by kernel_rfl) (fun _ _ _ h => h) (by rfl) (fun W hW => ?_) HSS.out ?_
 ·obtain ⟨_, y1, _, _, _⟩ := zI2.cells hW
  go_simp
 simp only [Act.put]
 refine zH (i := 5) (n := 13) (.pointer (some ⟨w.heap.size, 1, none⟩)) rfl (by kernel_rfl) (by kernel_rfl) (by kernel_rfl) (by kernel_rfl) (fun _ _ _ h => h) (by rfl) (fun W hW => ?_) HSS.out ?_
 ·skip
  go_simp
 simp only [Act.put]
 refine zH (i := 6) (n := 12) (.pointer (some ⟨w.heap.size, 3, none⟩)) rfl (by kernel_rfl) (by kernel_rfl) (by kernel_rfl) (by kernel_rfl) (fun _ _ _ h => h) (by rfl) (fun W hW => ?_) HSS.out ?_
 ·skip
  go_simp
 simp only [Act.put]
 refine zH (i := 7) (n := 11) (.pointer (some ⟨w.heap.size, 3, none⟩)) rfl (by kernel_rfl) (by kernel_rfl) (by kernel_rfl) (by kernel_rfl) (fun _ _ _ h => h) (by rfl) (fun W hW => ?_) HSS.out ?_
 ·skip
  go_simp
 simp only [Act.put]
 refine zH (i := 8) (n := 10) (.slice B m d) rfl (by kernel_rfl) (by kernel_rfl) (by kernel_rfl) (by kernel_rfl) (fun _ _ _ h => h) (by rfl) (fun W hW => ?_) HSS.out ?_
 ·obtain ⟨_, _, _, y3, _⟩ := zI2.cells hW
  go_simp
 simp only [Act.put]
 refine kJ (i := 4) (n := 9) (by kernel_rfl) rfl (fun K hK => ?_)
 rw [if_pos (by rfl)]
 go_simp
 go_at_call 88
 refine (zFz A s.a.1 n c _ HH.out.hn h1 ((HH.out.hA.later HB.out).later ((Below.refl _ _).drew))).mono ?_
 rintro e w5 ⟨A5, c5, rfl, hc5, hs5, hb5⟩
 have hbx : Below W0.heap.size W0 w5 := ((Below.refl _ _).drew).trans hb5
 have HSS := hd (HV1.out.keep hbx)
 refine hK _ _ (fun _ => HSS.out) ?_
 clear hK K
 refine zDd (i := 10) (n := 8) (.pointer (some ⟨w.heap.size, 1, none⟩)) rfl rfl (by kernel_rfl) (by kernel_rfl) (by kernel_rfl) (fun _ _ _ h => h) (by rfl) (fun W => ?_) ?_
 ·go_simp
 simp only [Act.put]
 refine zDd (i := 11) (n := 7) (.pointer (some ⟨w.heap.size, 1, none⟩)) rfl rfl (by kernel_rfl) (by kernel_rfl) (by kernel_rfl) (fun _ _ _ h => h) (by rfl) (fun W => ?_) ?_
 ·go_simp
 simp only [Act.put]
 refine zDd (i := 12) (n := 6) (.pointer (some ⟨w.heap.size, 1, none⟩)) rfl rfl (by kernel_rfl) (by kernel_rfl) (by kernel_rfl) (fun _ _ _ h => h) (by rfl) (fun W => ?_) ?_
 ·go_simp
 simp only [Act.put]
 refine kJ (i := 9) (n := 5) (by kernel_rfl) rfl (fun K hK => ?_)
 rw [if_pos (by rfl)]
 go_simp
 go_at_call 88
 refine (zFz B s.f.1 m d _ HH.out.hm h2 ((HH.out.hB.later HB.out).later hbx)).mono ?_
 rintro e w6 ⟨B6, d6, rfl, hd6, hs6, hb6⟩
 have hg1 := HV1.out.lt
 have hg2 := HV2.out.lt
 have hz5 := hbx.size
 have hz6 := hb6.size
 have HS5 := hd (((hs5.more (show W0.heap.size <= W0.drew.heap.size from Nat.le_refl _)).high (zA5.below hb6)))
 have HS6 := hd (hs6.more hz5)
 have HV1 := hd (HSS.out.keep hb6)
 have HV2 := hd ((HV2.out.keep hbx).keep hb6)
 have HB := hd (HB.out.trans ((hbx.trans (hb6.mono hz5)).mono HB.out.size))
 clear hb5 hs5 hs6
 refine hK _ _ (fun _ => HV1.out) ?_
 clear hK K HSS
 refine kJ (i := 13) (n := 4) (by kernel_rfl) rfl (fun K hK => ?_)
 rw [if_pos (by rfl)]
 refine zY zCa HV1.out _ _ rfl rfl 1 _ [.slice A5 n c5] rfl rfl rfl rfl (zHt rfl) (Nat.le_of_ble_eq_true rfl) ?_
 intro W7 hv7 ho7
 refine hK _ _ (fun h => absurd h (by decide)) ?_
 clear hK K
 refine zDd (i := 14) (n := 3) (.pointer (some ⟨w.heap.size, 1, none⟩)) rfl rfl (by kernel_rfl) (by kernel_rfl) (by kernel_rfl) (fun _ _ _ h => h) (by rfl) (fun W => ?_) ?_
 ·go_simp
 simp only [Act.put]
 refine zDd (i := 15) (n := 2) (.pointer (some ⟨w.heap.size, 3, none⟩)) rfl rfl (by kernel_rfl) (by kernel_rfl) (by kernel_rfl) (fun _ _ _ h => h) (by rfl) (fun W => ?_) ?_
 ·go_simp
 simp only [Act.put]
 refine zDd (i := 16) (n := 1) (.pointer (some ⟨w.heap.size, 3, none⟩)) rfl rfl (by kernel_rfl) (by kernel_rfl) (by kernel_rfl) (fun _ _ _ h => h) (by rfl) (fun W => ?_) ?_
 ·go_simp
 simp only [Act.put]
 refine kJ (i := 17) (n := 0) (by kernel_rfl) rfl (fun K hK => ?_)
 rw [if_pos (by rfl)]
 refine zY zCa hv7 _ _ rfl rfl 3 _ [.slice B6 m d6] rfl rfl rfl rfl (zHt rfl) (Nat.le_of_ble_eq_true rfl) ?_
 intro W8 hv8 ho8
 refine hK _ _ (fun h => absurd h (by decide)) (zAl (by kernel_rfl) ?_)
 clear hK K
 have HO := hd (ho7.trans ho8)
 have HV1 := hd (show zI2 W8 w.heap.size (.bool si) (.slice A5 n c5) (.int .i64 x) (.slice B6 m d6) (.int .i64 y) from hv8)
 have HV2 := hd (HV2.out.off HO.out (by omega))
 have HB := hd (zN HB.out HO.out (Nat.le_refl _))
 clear hv7 ho7 hv8 ho8
 go_wp2_with (first
  | ((with_reducible refine zC (ty := 33) ?_); refine zIm HV1.out _ rfl rfl rfl ?_)
  | ((with_reducible refine zF (ty := 33) (x := .tmp 2) ?_); refine zHc HV2.out _ _ rfl rfl rfl rfl rfl (by kernel_rfl) ?_; intro W9 hv9 ho9; have HV2 := hd hv9; have HO9 := hd ho9; clear hv9 ho9))
 have hh := HH.out
 have hlo : w.heap.size + 1 < W0.heap.size := by omega
 have hhi : zA5 W0.heap.size w6 W9 := (zA5.off HO.out (by omega)).trans (zA5.off HO9.out hlo)
 refine bodyPost_ret (zP6 Tryz.results116 _ _ HV2.out rfl) rfl ⟨A5, c5, B6, d6, rfl, fun W hoff => ?_, zN HB.out HO9.out (Nat.le_succ _)⟩
 have hx := hhi.trans (hoff.mono (by omega))
 exact ⟨hh.his, hh.hx, hh.hy, hh.hn, hh.hm, hc5, hd6, hh.hmn, hh.hmm, HS5.out W hx, HS6.out W hx⟩
set_option maxRecDepth 100000 in
theorem zFh (w : World) (c : OC) (a : OpP) (ha : OkA w c a) (ta : zAf a) : Calls Tryz.prog 59 #[.agg c.row] w (kLw w a) := by
 have hl1 : c.lq <= 1000 := by have := ta.hq; have := ha.hlq; omega
 have hl2 : c.lt <= 1000 := by have := ta.ht; have := ha.hlt; omega
 have hl3 : c.f1 <= 1000 := by have := ta.hfa; have := ha.hf.hn; omega
 have hl4 : c.f2 <= 1000 := by have := ta.hff; have := ha.hf.hm; omega
 have hl5 : c.g1 <= 1000 := by have := ta.hga; have := ha.hg.hn; omega
 have hl6 : c.g2 <= 1000 := by have := ta.hgf; have := ha.hg.hm; omega
 obtain ⟨W0, hW, hb0, hsz, e1, e2⟩ := zBb w c
 have HV1 := hd e1
 have HV2 := hd e2
 have HW := hd hW
 have HB := hd hb0
 have HH := hd ha
 have HSZ := hd hsz
 clear hW hb0 e1 e2 ha ta hsz
 go_enter Tryz.func59, Tryz.ntmps59
 go_upto_region 1 with fail
 rw [HW.out]
 refine jO (S := fun W => jR W w.heap.size c) (z := fun j => decide (6 <= j)) (by kernel_rfl) ?_
 have HSS := hd (show jR (World.drew W0) w.heap.size c from HV1.out)
 refine zH (i := 0) (n := 9) (.pointer (some ⟨w.heap.size, 1, none⟩)) rfl (by kernel_rfl) (by kernel_rfl) (by kernel_rfl) (by kernel_rfl) (fun _ _ _ h => h) (by rfl) (fun W hW => ?_) HSS.out ?_
 ·skip
  go_simp
 simp only [Act.put, List.setIfInBounds_toArray]
 refine zH (i := 1) (n := 8) (.slice c.Q c.lq c.cq) rfl (by kernel_rfl) (by kernel_rfl) (by kernel_rfl) (by kernel_rfl) (fun _ _ _ h => h) (by rfl) (fun W hW => ?_) HSS.out ?_
 ·have y1 := jR.cq hW
  go_simp
 simp only [Act.put]
 refine zH (i := 3) (n := 7) (.pointer (some ⟨w.heap.size, 2, none⟩)) rfl (by kernel_rfl) (by kernel_rfl) (by kernel_rfl) (by kernel_rfl) (fun _ _ _ h => h) (by rfl) (fun W hW => ?_) HSS.out ?_
 ·skip
  go_simp
 simp only [Act.put]
 refine zH (i := 4) (n := 6) (.slice c.T c.lt c.ct) rfl (by kernel_rfl) (by kernel_rfl) (by kernel_rfl) (by kernel_rfl) (fun _ _ _ h => h) (by rfl) (fun W hW => ?_) HSS.out ?_
 ·have y1 := jR.ct hW
  go_simp
 simp only [Act.put]
 refine kJ (i := 2) (n := 5) (by kernel_rfl) rfl (fun K hK => ?_)
 rw [if_pos (by rfl)]
 go_simp
 go_at_call 88
 have HX := hd (HH.out.later (HB.out.trans (((Below.refl W0.heap.size W0).drew).mono HB.out.size)))
 refine (zFz c.Q a.q c.lq c.cq _ HH.out.hlq hl1 HX.out.hq).mono ?_
 rintro e w0a ⟨Aq, cq, rfl, hcq, hsq, hbb⟩
 have hbx : Below W0.heap.size W0 w0a := ((Below.refl _ _).drew).trans hbb
 have HSS := hd (HSS.out.keep hbb)
 refine hK _ _ (fun _ => HSS.out) ?_
 clear hK K hbb
 refine zDd (i := 6) (n := 4) (.pointer (some ⟨w.heap.size, 1, none⟩)) rfl rfl (by kernel_rfl) (by kernel_rfl) (by kernel_rfl) (fun _ _ _ h => h) (by rfl) (fun W => ?_) ?_
 ·go_simp
 simp only [Act.put]
 have HX := hd (HH.out.later (HB.out.trans (hbx.mono HB.out.size)))
 refine kJ (i := 5) (n := 3) (by kernel_rfl) rfl (fun K hK => ?_)
 rw [if_pos (by rfl)]
 go_simp
 go_at_call 88
 refine (zFz c.T a.t c.lt c.ct _ HH.out.hlt hl2 HX.out.ht).mono ?_
 rintro e w0b ⟨At, ct, rfl, hct, hst, hbb⟩
 have hz0 := HB.out.size
 have hz1 := hbx.size
 have hz2 := hbb.size
 have hg1 := HV1.out.lt
 have hg2 := HV2.out.lt
 have hlo := HSZ.out
 have HG := hd (show W0.heap.size <= W0.heap.size by exact Nat.le_refl _)
 have HSTa := hd ((hsq.more (show W0.heap.size <= (World.drew W0).heap.size from HG.out)).high (zA5.below hbb))
 have HSTb := hd (hst.more (Nat.le_trans HG.out hz1))
 have HV1 := hd (HSS.out.keep hbb)
 have HV2 := hd ((HV2.out.keep hbx).keep hbb)
 have hbw := hbx.trans (hbb.mono hz1)
 have HB := hd (HB.out.trans (hbw.mono HB.out.size))
 have HG := hd (show W0.heap.size <= w0b.heap.size from Nat.le_trans HG.out hbw.size)
 clear hbx hbb hbw hsq hst
 refine hK _ _ (fun _ => HV1.out) ?_
 clear hK K HSS
 refine kJ (i := 7) (n := 2) (by kernel_rfl) rfl (fun K hK => ?_)
 rw [if_pos (by rfl)]
 refine zY zCa HV1.out _ _ rfl rfl 1 _ [.slice Aq c.lq cq] rfl rfl rfl rfl (by intro u hu; simp at hu; rcases hu with rfl | rfl | rfl | rfl | rfl <;> rfl) (Nat.le_of_ble_eq_true rfl) ?_
 intro W0a hv7 ho7
 have hv7 : jR W0a w.heap.size { c with Q := Aq, cq := cq } := hv7
 refine hK _ _ (fun h => absurd h (by decide)) ?_
 clear hK K
 refine zDd (i := 8) (n := 1) (.pointer (some ⟨w.heap.size, 2, none⟩)) rfl rfl (by kernel_rfl) (by kernel_rfl) (by kernel_rfl) (fun _ _ _ h => h) (by rfl) (fun W => ?_) ?_
 ·go_simp
 simp only [Act.put]
 refine kJ (i := 9) (n := 0) (by kernel_rfl) rfl (fun K hK => ?_)
 rw [if_pos (by rfl)]
 refine zY zCa hv7 _ _ rfl rfl 2 _ [.slice At c.lt ct] rfl rfl rfl rfl (by intro u hu; simp at hu; rcases hu with rfl | rfl | rfl | rfl | rfl <;> rfl) (Nat.le_of_ble_eq_true rfl) ?_
 intro W0b hv8 ho8
 have hv8 : jR W0b w.heap.size { c with Q := Aq, cq := cq, T := At, ct := ct } := hv8
 refine hK _ _ (fun h => absurd h (by decide)) (zAl (by kernel_rfl) ?_)
 clear hK K
 have ho := ho7.trans ho8
 have HV1 := hd hv8
 have HV2 := hd (HV2.out.off ho (Nat.succ_ne_self _))
 have HB := hd (zN HB.out ho (Nat.le_refl _))
 have hhi : zA5 W0.heap.size w0b W0b := zA5.off ho (by omega)
 have HSTq := hd (HSTa.out.high hhi)
 have HSTt := hd (HSTb.out.high hhi)
 have HG := hd (Nat.le_trans HG.out ho.size)
 clear hhi ho ho7 ho8 hv7 hv8 HSTa HSTb HX hz0 hz1 hz2 hg1 hg2 hlo
 go_upto_region 2 with fail
 refine jO (S := fun W => jR W w.heap.size { c with Q := Aq, cq := cq, T := At, ct := ct }) (z := fun j => decide (6 <= j)) (by kernel_rfl) ?_
 have HSS := hd (show jR (World.drew W0b) w.heap.size { c with Q := Aq, cq := cq, T := At, ct := ct } from HV1.out)
 refine zH (i := 0) (n := 9) (.pointer (some ⟨w.heap.size, 8, none⟩)) rfl (by kernel_rfl) (by kernel_rfl) (by kernel_rfl) (by kernel_rfl) (fun _ _ _ h => h) (by rfl) (fun W hW => ?_) HSS.out ?_
 ·skip
  go_simp
 simp only [Act.put, List.setIfInBounds_toArray]
 refine zH (i := 1) (n := 8) (.slice c.O c.no c.co) rfl (by kernel_rfl) (by kernel_rfl) (by kernel_rfl) (by kernel_rfl) (fun _ _ _ h => h) (by rfl) (fun W hW => ?_) HSS.out ?_
 ·have y1 := jR.co hW
  go_simp
 simp only [Act.put]
 refine zH (i := 3) (n := 7) (.pointer (some ⟨w.heap.size, 9, none⟩)) rfl (by kernel_rfl) (by kernel_rfl) (by kernel_rfl) (by kernel_rfl) (fun _ _ _ h => h) (by rfl) (fun W hW => ?_) HSS.out ?_
 ·skip
  go_simp
 simp only [Act.put]
 refine zH (i := 4) (n := 6) (.slice c.W c.nw c.cw) rfl (by kernel_rfl) (by kernel_rfl) (by kernel_rfl) (by kernel_rfl) (fun _ _ _ h => h) (by rfl) (fun W hW => ?_) HSS.out ?_
 ·have y1 := jR.cw hW
  go_simp
 simp only [Act.put]
 refine kJ (i := 2) (n := 5) (by kernel_rfl) rfl (fun K hK => ?_)
 rw [if_pos (by rfl)]
 go_simp
 go_at_call 114
 have HX := hd (HH.out.later (HB.out.trans (((Below.refl W0b.heap.size W0b).drew).mono HB.out.size)))
 refine (zQe c.O a.o c.no c.co _ HH.out.hno HH.out.hmo HX.out.ho).mono ?_
 rintro e w1a ⟨Ao, co, rfl, hco, hso, hbb⟩
 have hbx : Below W0b.heap.size W0b w1a := ((Below.refl _ _).drew).trans hbb
 have HSS := hd (HSS.out.keep hbb)
 refine hK _ _ (fun _ => HSS.out) ?_
 clear hK K hbb
 refine zDd (i := 6) (n := 4) (.pointer (some ⟨w.heap.size, 8, none⟩)) rfl rfl (by kernel_rfl) (by kernel_rfl) (by kernel_rfl) (fun _ _ _ h => h) (by rfl) (fun W => ?_) ?_
 ·go_simp
 simp only [Act.put]
 have HX := hd (HH.out.later (HB.out.trans (hbx.mono HB.out.size)))
 refine kJ (i := 5) (n := 3) (by kernel_rfl) rfl (fun K hK => ?_)
 rw [if_pos (by rfl)]
 go_simp
 go_at_call 114
 refine (zQe c.W a.w c.nw c.cw _ HH.out.hnw HH.out.hmw HX.out.hw).mono ?_
 rintro e w1b ⟨Aw, cw, rfl, hcw, hsw, hbb⟩
 have hz0 := HB.out.size
 have hz1 := hbx.size
 have hz2 := hbb.size
 have hg1 := HV1.out.lt
 have hg2 := HV2.out.lt
 have hlo := HSZ.out
 have HG := hd (show W0.heap.size <= W0b.heap.size by exact HG.out)
 have HSTa := hd ((hso.more (show W0.heap.size <= (World.drew W0b).heap.size from HG.out)).high (zA5.below hbb))
 have HSTb := hd (hsw.more (Nat.le_trans HG.out hz1))
 have HV1 := hd (HSS.out.keep hbb)
 have HV2 := hd ((HV2.out.keep hbx).keep hbb)
 have hbw := hbx.trans (hbb.mono hz1)
 have HB := hd (HB.out.trans (hbw.mono HB.out.size))
 have HSTq := hd (HSTq.out.high (zA5.below hbw))
 have HSTt := hd (HSTt.out.high (zA5.below hbw))
 have HG := hd (show W0.heap.size <= w1b.heap.size from Nat.le_trans HG.out hbw.size)
 clear hbx hbb hbw hso hsw
 refine hK _ _ (fun _ => HV1.out) ?_
 clear hK K HSS
 refine kJ (i := 7) (n := 2) (by kernel_rfl) rfl (fun K hK => ?_)
 rw [if_pos (by rfl)]
 refine zY zCq HV1.out _ _ rfl rfl 8 _ [.slice Ao c.no co] rfl rfl rfl rfl (by intro u hu; simp at hu; rcases hu with rfl | rfl | rfl | rfl | rfl <;> rfl) (Nat.le_of_ble_eq_true rfl) ?_
 intro W1a hv7 ho7
 have hv7 : jR W1a w.heap.size { c with Q := Aq, cq := cq, T := At, ct := ct, O := Ao, co := co } := hv7
 refine hK _ _ (fun h => absurd h (by decide)) ?_
 clear hK K
 refine zDd (i := 8) (n := 1) (.pointer (some ⟨w.heap.size, 9, none⟩)) rfl rfl (by kernel_rfl) (by kernel_rfl) (by kernel_rfl) (fun _ _ _ h => h) (by rfl) (fun W => ?_) ?_
 ·go_simp
 simp only [Act.put]
 refine kJ (i := 9) (n := 0) (by kernel_rfl) rfl (fun K hK => ?_)
 rw [if_pos (by rfl)]
 refine zY zCq hv7 _ _ rfl rfl 9 _ [.slice Aw c.nw cw] rfl rfl rfl rfl (by intro u hu; simp at hu; rcases hu with rfl | rfl | rfl | rfl | rfl <;> rfl) (Nat.le_of_ble_eq_true rfl) ?_
 intro W1b hv8 ho8
 have hv8 : jR W1b w.heap.size { c with Q := Aq, cq := cq, T := At, ct := ct, O := Ao, co := co, W := Aw, cw := cw } := hv8
 refine hK _ _ (fun h => absurd h (by decide)) (zAl (by kernel_rfl) ?_)
 clear hK K
 have ho := ho7.trans ho8
 have HV1 := hd hv8
 have HV2 := hd (HV2.out.off ho (Nat.succ_ne_self _))
 have HB := hd (zN HB.out ho (Nat.le_refl _))
 have hhi : zA5 W0.heap.size w1b W1b := zA5.off ho (by omega)
 have HSTo := hd (HSTa.out.high hhi)
 have HSTw := hd (HSTb.out.high hhi)
 have HSTq := hd (HSTq.out.high hhi)
 have HSTt := hd (HSTt.out.high hhi)
 have HG := hd (Nat.le_trans HG.out ho.size)
 clear hhi ho ho7 ho8 hv7 hv8 HSTa HSTb HX hz0 hz1 hz2 hg1 hg2 hlo
 go_upto_region 3 with fail
 refine jO (S := fun W => jR W w.heap.size { c with Q := Aq, cq := cq, T := At, ct := ct, O := Ao, co := co, W := Aw, cw := cw }) (z := fun j => decide (6 <= j)) (by kernel_rfl) ?_
 have HSS := hd (show jR (World.drew W1b) w.heap.size { c with Q := Aq, cq := cq, T := At, ct := ct, O := Ao, co := co, W := Aw, cw := cw } from HV1.out)
 refine zH (i := 0) (n := 9) (.pointer (some ⟨w.heap.size, 10, none⟩)) rfl (by kernel_rfl) (by kernel_rfl) (by kernel_rfl) (by kernel_rfl) (fun _ _ _ h => h) (by rfl) (fun W hW => ?_) HSS.out ?_
 ·skip
  go_simp
 simp only [Act.put, List.setIfInBounds_toArray]
 refine zH (i := 1) (n := 8) (.slice c.S c.nx c.cx) rfl (by kernel_rfl) (by kernel_rfl) (by kernel_rfl) (by kernel_rfl) (fun _ _ _ h => h) (by rfl) (fun W hW => ?_) HSS.out ?_
 ·have y1 := jR.cx hW
  go_simp
 simp only [Act.put]
 refine zH (i := 3) (n := 7) (.pointer (some ⟨w.heap.size, 4, none⟩)) rfl (by kernel_rfl) (by kernel_rfl) (by kernel_rfl) (by kernel_rfl) (fun _ _ _ h => h) (by rfl) (fun W hW => ?_) HSS.out ?_
 ·skip
  go_simp
 simp only [Act.put]
 refine zH (i := 4) (n := 6) (.agg #[.bool c.lf, .slice c.P c.np c.pc, .slice c.X c.nt c.tc, .slice c.K c.nk c.kc]) rfl (by kernel_rfl) (by kernel_rfl) (by kernel_rfl) (by kernel_rfl) (fun _ _ _ h => h) (by rfl) (fun W hW => ?_) HSS.out ?_
 ·obtain ⟨y1, y2, y3, y4⟩ := jR.cn hW
  go_simp
 simp only [Act.put]
 refine kJ (i := 2) (n := 5) (by kernel_rfl) rfl (fun K hK => ?_)
 rw [if_pos (by rfl)]
 go_simp
 go_at_call 115
 have HX := hd (HH.out.later (HB.out.trans (((Below.refl W1b.heap.size W1b).drew).mono HB.out.size)))
 refine (zX3 c.S a.x c.nx c.cx _ HH.out.hnx HH.out.hmx HX.out.hx).mono ?_
 rintro e w2a ⟨Ax, cx, rfl, hcx, hsx, hbb⟩
 have hbx : Below W1b.heap.size W1b w2a := ((Below.refl _ _).drew).trans hbb
 have HSS := hd (HSS.out.keep hbb)
 refine hK _ _ (fun _ => HSS.out) ?_
 clear hK K hbb
 refine zDd (i := 6) (n := 4) (.pointer (some ⟨w.heap.size, 10, none⟩)) rfl rfl (by kernel_rfl) (by kernel_rfl) (by kernel_rfl) (fun _ _ _ h => h) (by rfl) (fun W => ?_) ?_
 ·go_simp
 simp only [Act.put]
 have HX := hd (HH.out.later (HB.out.trans (hbx.mono HB.out.size)))
 refine kJ (i := 5) (n := 3) (by kernel_rfl) rfl (fun K hK => ?_)
 rw [if_pos (by rfl)]
 go_simp
 go_at_call 75
 refine (kF3 HX.out).mono ?_
 rintro e w2b ⟨lf, P, np, pc, X, nt, tc, K2, nk, kc, rfl, hsn, hbb⟩
 have hz0 := HB.out.size
 have hz1 := hbx.size
 have hz2 := hbb.size
 have hg1 := HV1.out.lt
 have hg2 := HV2.out.lt
 have hlo := HSZ.out
 have HG := hd (show W0.heap.size <= W1b.heap.size by exact HG.out)
 have HSTa := hd ((hsx.more (show W0.heap.size <= (World.drew W1b).heap.size from HG.out)).high (zA5.below hbb))
 have HSTb := hd (hsn.more (Nat.le_trans HG.out hz1))
 have HV1 := hd (HSS.out.keep hbb)
 have HV2 := hd ((HV2.out.keep hbx).keep hbb)
 have hbw := hbx.trans (hbb.mono hz1)
 have HB := hd (HB.out.trans (hbw.mono HB.out.size))
 have HSTq := hd (HSTq.out.high (zA5.below hbw))
 have HSTt := hd (HSTt.out.high (zA5.below hbw))
 have HSTo := hd (HSTo.out.high (zA5.below hbw))
 have HSTw := hd (HSTw.out.high (zA5.below hbw))
 have HG := hd (show W0.heap.size <= w2b.heap.size from Nat.le_trans HG.out hbw.size)
 clear hbx hbb hbw hsx hsn
 refine hK _ _ (fun _ => HV1.out) ?_
 clear hK K HSS
 refine kJ (i := 7) (n := 2) (by kernel_rfl) rfl (fun K hK => ?_)
 rw [if_pos (by rfl)]
 refine zY zFu HV1.out _ _ rfl rfl 10 _ [.slice Ax c.nx cx] rfl rfl rfl rfl (by intro u hu; simp at hu; rcases hu with rfl | rfl | rfl | rfl | rfl <;> rfl) (Nat.le_of_ble_eq_true rfl) ?_
 intro W2a hv7 ho7
 have hv7 : jR W2a w.heap.size { c with Q := Aq, cq := cq, T := At, ct := ct, O := Ao, co := co, W := Aw, cw := cw, S := Ax, cx := cx } := hv7
 refine hK _ _ (fun h => absurd h (by decide)) ?_
 clear hK K
 refine zDd (i := 8) (n := 1) (.pointer (some ⟨w.heap.size, 4, none⟩)) rfl rfl (by kernel_rfl) (by kernel_rfl) (by kernel_rfl) (fun _ _ _ h => h) (by rfl) (fun W => ?_) ?_
 ·go_simp
 simp only [Act.put]
 refine kJ (i := 9) (n := 0) (by kernel_rfl) rfl (fun K hK => ?_)
 rw [if_pos (by rfl)]
 refine zY zKq hv7 _ _ rfl rfl 4 _ [.bool lf, .slice P np pc, .slice X nt tc, .slice K2 nk kc] rfl rfl rfl rfl (by intro u hu; simp at hu; rcases hu with rfl | rfl | rfl | rfl | rfl <;> rfl) (Nat.le_of_ble_eq_true rfl) ?_
 intro W2b hv8 ho8
 have hv8 : jR W2b w.heap.size { c with Q := Aq, cq := cq, T := At, ct := ct, O := Ao, co := co, W := Aw, cw := cw, S := Ax, cx := cx, lf := lf, P := P, np := np, pc := pc, X := X, nt := nt, tc := tc, K := K2, nk := nk, kc := kc } := hv8
 refine hK _ _ (fun h => absurd h (by decide)) (zAl (by kernel_rfl) ?_)
 clear hK K
 have ho := ho7.trans ho8
 have HV1 := hd hv8
 have HV2 := hd (HV2.out.off ho (Nat.succ_ne_self _))
 have HB := hd (zN HB.out ho (Nat.le_refl _))
 have hhi : zA5 W0.heap.size w2b W2b := zA5.off ho (by omega)
 have HSTx := hd (HSTa.out.high hhi)
 have HSTn := hd (HSTb.out.high hhi)
 have HSTq := hd (HSTq.out.high hhi)
 have HSTt := hd (HSTt.out.high hhi)
 have HSTo := hd (HSTo.out.high hhi)
 have HSTw := hd (HSTw.out.high hhi)
 have HG := hd (Nat.le_trans HG.out ho.size)
 clear hhi ho ho7 ho8 hv7 hv8 HSTa HSTb HX hz0 hz1 hz2 hg1 hg2 hlo
 go_upto_region 4 with fail
 refine jO (S := fun W => jR W w.heap.size { c with Q := Aq, cq := cq, T := At, ct := ct, O := Ao, co := co, W := Aw, cw := cw, S := Ax, cx := cx, lf := lf, P := P, np := np, pc := pc, X := X, nt := nt, tc := tc, K := K2, nk := nk, kc := kc }) (z := fun j => decide (6 <= j)) (by kernel_rfl) ?_
 have HSS := hd (show jR (World.drew W2b) w.heap.size { c with Q := Aq, cq := cq, T := At, ct := ct, O := Ao, co := co, W := Aw, cw := cw, S := Ax, cx := cx, lf := lf, P := P, np := np, pc := pc, X := X, nt := nt, tc := tc, K := K2, nk := nk, kc := kc } from HV1.out)
 refine zH (i := 0) (n := 9) (.pointer (some ⟨w.heap.size, 11, none⟩)) rfl (by kernel_rfl) (by kernel_rfl) (by kernel_rfl) (by kernel_rfl) (fun _ _ _ h => h) (by rfl) (fun W hW => ?_) HSS.out ?_
 ·skip
  go_simp
 simp only [Act.put, List.setIfInBounds_toArray]
 refine zH (i := 1) (n := 8) (.agg #[.bool c.fi, .slice c.F1 c.f1 c.d1, .int .i64 c.fo, .slice c.F2 c.f2 c.d2, .int .i64 c.fp]) rfl (by kernel_rfl) (by kernel_rfl) (by kernel_rfl) (by kernel_rfl) (fun _ _ _ h => h) (by rfl) (fun W hW => ?_) HSS.out ?_
 ·obtain ⟨y1, y2, y3, y4, y5⟩ := jR.cf hW
  go_simp
 simp only [Act.put]
 refine zH (i := 3) (n := 7) (.pointer (some ⟨w.heap.size, 16, none⟩)) rfl (by kernel_rfl) (by kernel_rfl) (by kernel_rfl) (by kernel_rfl) (fun _ _ _ h => h) (by rfl) (fun W hW => ?_) HSS.out ?_
 ·skip
  go_simp
 simp only [Act.put]
 refine zH (i := 4) (n := 6) (.agg #[.bool c.gi, .slice c.G1 c.g1 c.e1, .int .i64 c.go, .slice c.G2 c.g2 c.e2, .int .i64 c.gp]) rfl (by kernel_rfl) (by kernel_rfl) (by kernel_rfl) (by kernel_rfl) (fun _ _ _ h => h) (by rfl) (fun W hW => ?_) HSS.out ?_
 ·obtain ⟨y1, y2, y3, y4, y5⟩ := jR.cg hW
  go_simp
 simp only [Act.put]
 refine kJ (i := 2) (n := 5) (by kernel_rfl) rfl (fun K hK => ?_)
 rw [if_pos (by rfl)]
 go_simp
 go_at_call 116
 have HX := hd (HH.out.later (HB.out.trans (((Below.refl W2b.heap.size W2b).drew).mono HB.out.size)))
 refine (zLn HX.out.hf hl3 hl4).mono ?_
 rintro e w3a ⟨Af, cf, Bf, df, rfl, hsf, hbb⟩
 have hbx : Below W2b.heap.size W2b w3a := ((Below.refl _ _).drew).trans hbb
 have HSS := hd (HSS.out.keep hbb)
 refine hK _ _ (fun _ => HSS.out) ?_
 clear hK K hbb
 refine zDd (i := 6) (n := 4) (.pointer (some ⟨w.heap.size, 11, none⟩)) rfl rfl (by kernel_rfl) (by kernel_rfl) (by kernel_rfl) (fun _ _ _ h => h) (by rfl) (fun W => ?_) ?_
 ·go_simp
 simp only [Act.put]
 have HX := hd (HH.out.later (HB.out.trans (hbx.mono HB.out.size)))
 refine kJ (i := 5) (n := 3) (by kernel_rfl) rfl (fun K hK => ?_)
 rw [if_pos (by rfl)]
 go_simp
 go_at_call 116
 refine (zLn HX.out.hg hl5 hl6).mono ?_
 rintro e w3b ⟨Ag, cg, Bg, dg, rfl, hsg, hbb⟩
 have hz0 := HB.out.size
 have hz1 := hbx.size
 have hz2 := hbb.size
 have hg1 := HV1.out.lt
 have hg2 := HV2.out.lt
 have hlo := HSZ.out
 have HG := hd (show W0.heap.size <= W2b.heap.size by exact HG.out)
 have HSTa := hd ((hsf.more (show W0.heap.size <= (World.drew W2b).heap.size from HG.out)).high (zA5.below hbb))
 have HSTb := hd (hsg.more (Nat.le_trans HG.out hz1))
 have HV1 := hd (HSS.out.keep hbb)
 have HV2 := hd ((HV2.out.keep hbx).keep hbb)
 have hbw := hbx.trans (hbb.mono hz1)
 have HB := hd (HB.out.trans (hbw.mono HB.out.size))
 have HSTq := hd (HSTq.out.high (zA5.below hbw))
 have HSTt := hd (HSTt.out.high (zA5.below hbw))
 have HSTo := hd (HSTo.out.high (zA5.below hbw))
 have HSTw := hd (HSTw.out.high (zA5.below hbw))
 have HSTx := hd (HSTx.out.high (zA5.below hbw))
 have HSTn := hd (HSTn.out.high (zA5.below hbw))
 have HG := hd (show W0.heap.size <= w3b.heap.size from Nat.le_trans HG.out hbw.size)
 clear hbx hbb hbw hsf hsg
 refine hK _ _ (fun _ => HV1.out) ?_
 clear hK K HSS
 refine kJ (i := 7) (n := 2) (by kernel_rfl) rfl (fun K hK => ?_)
 rw [if_pos (by rfl)]
 refine zY zJu HV1.out _ _ rfl rfl 11 _ [.bool c.fi, .slice Af c.f1 cf, .int .i64 c.fo, .slice Bf c.f2 df, .int .i64 c.fp] rfl rfl rfl rfl (by intro u hu; simp at hu; rcases hu with rfl | rfl | rfl | rfl | rfl <;> rfl) (Nat.le_of_ble_eq_true rfl) ?_
 intro W3a hv7 ho7
 have hv7 : jR W3a w.heap.size { c with Q := Aq, cq := cq, T := At, ct := ct, O := Ao, co := co, W := Aw, cw := cw, S := Ax, cx := cx, lf := lf, P := P, np := np, pc := pc, X := X, nt := nt, tc := tc, K := K2, nk := nk, kc := kc, F1 := Af, d1 := cf, F2 := Bf, d2 := df } := hv7
 refine hK _ _ (fun h => absurd h (by decide)) ?_
 clear hK K
 refine zDd (i := 8) (n := 1) (.pointer (some ⟨w.heap.size, 16, none⟩)) rfl rfl (by kernel_rfl) (by kernel_rfl) (by kernel_rfl) (fun _ _ _ h => h) (by rfl) (fun W => ?_) ?_
 ·go_simp
 simp only [Act.put]
 refine kJ (i := 9) (n := 0) (by kernel_rfl) rfl (fun K hK => ?_)
 rw [if_pos (by rfl)]
 refine zY zJu hv7 _ _ rfl rfl 16 _ [.bool c.gi, .slice Ag c.g1 cg, .int .i64 c.go, .slice Bg c.g2 dg, .int .i64 c.gp] rfl rfl rfl rfl (by intro u hu; simp at hu; rcases hu with rfl | rfl | rfl | rfl | rfl <;> rfl) (Nat.le_of_ble_eq_true rfl) ?_
 intro W3b hv8 ho8
 have hv8 : jR W3b w.heap.size { c with Q := Aq, cq := cq, T := At, ct := ct, O := Ao, co := co, W := Aw, cw := cw, S := Ax, cx := cx, lf := lf, P := P, np := np, pc := pc, X := X, nt := nt, tc := tc, K := K2, nk := nk, kc := kc, F1 := Af, d1 := cf, F2 := Bf, d2 := df, G1 := Ag, e1 := cg, G2 := Bg, e2 := dg } := hv8
 refine hK _ _ (fun h => absurd h (by decide)) (zAl (by kernel_rfl) ?_)
 clear hK K
 have ho := ho7.trans ho8
 have HV1 := hd hv8
 have HV2 := hd (HV2.out.off ho (Nat.succ_ne_self _))
 have HB := hd (zN HB.out ho (Nat.le_refl _))
 have hhi : zA5 W0.heap.size w3b W3b := zA5.off ho (by omega)
 have HSTf := hd (HSTa.out.high hhi)
 have HSTg := hd (HSTb.out.high hhi)
 have HSTq := hd (HSTq.out.high hhi)
 have HSTt := hd (HSTt.out.high hhi)
 have HSTo := hd (HSTo.out.high hhi)
 have HSTw := hd (HSTw.out.high hhi)
 have HSTx := hd (HSTx.out.high hhi)
 have HSTn := hd (HSTn.out.high hhi)
 have HG := hd (Nat.le_trans HG.out ho.size)
 clear hhi ho ho7 ho8 hv7 hv8 HSTa HSTb HX hz0 hz1 hz2 hg1 hg2 hlo
 go_wp2_with (first
  | ((with_reducible refine zC (ty := 35) ?_); refine zG HV1.out _ rfl rfl rfl ?_)
  | ((with_reducible refine zF (ty := 35) (x := .tmp 2) ?_); refine kF HV2.out _ _ rfl rfl rfl rfl rfl ?_; intro W9 hv9 ho9; have HV2 := hd hv9; have HO9 := hd ho9; clear hv9 ho9))
 have hx : zA5 W0.heap.size W3b W9 := zA5.off HO9.out (by have := HSZ.out; omega)
 have hb9 := zN HB.out HO9.out (Nat.le_succ _)
 refine bodyPost_ret (zDv Tryz.results59 _ _ HV2.out rfl) rfl ⟨_, rfl, fun W hw => ?_, hb9⟩
 have hx := hx.trans (hw.mono (by have := HSZ.out; omega))
 obtain ⟨dn, hn⟩ := HSTn.out W hx
 have h := HH.out
 exact (OkA.mk h.hk h.hik h.hz h.hlq hcq h.hmq (HSTq.out W hx) h.hiq h.hlt hct h.hmt (HSTt.out W hx) h.hit ⟨dn, hn⟩ h.hno hco h.hmo h.hwo (HSTo.out W hx) h.hnw hcw h.hmw h.hww (HSTw.out W hx) h.hnx hcx h.hmx (HSTx.out W hx) (HSTf.out W hx) (HSTg.out W hx))
end Go.Proofs.YtmkciabefepelaaGreat
