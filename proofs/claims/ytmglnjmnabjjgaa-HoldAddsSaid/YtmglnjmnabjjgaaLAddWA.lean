/- One ref more: the document's Add. -/
import Derived.Test.YtmglnjmnabjjgaaJLFree
import Derived.Test.YtmglnjmnabjjgaaJLOpen
import Derived.Test.YtmglnjmnabjjgaaJKSelWA
import Derived.Laws.ResultCell
import Derived.Test.YtmglnjmnabjjgaaJKCmp
import Derived.Test.YtmglnjmnabjjgaaJTGetAWA
import Derived.IntWalk
import Derived.Great.BuildSlice
namespace Go.Proofs.Ytmglnjmnabjjgaa
open Go.RowKit

/-- A field of one cell stored into a row. -/
theorem wpList_store_cell {ty t : TypeId} (hsz : (Try.prog.info? ty).map (·.size) = some 1) {ops : Array Oper} {rest : List Oper} {op : Oper} {a : Act} {W : World} {Q : Exit → Act → World → Prop} {g : Nat} {r : Array Value} (h : VarR t W g r) (x y : Operand) (ho : op.op = .store ty x y) (hgd : op.guard = none) (hd : op.dst = none)
    (j : Nat) (v : Value) (hx : a.eval x = .pointer (some ⟨g, j, none⟩)) (hy : a.eval y = v) (hv : v.cells = [v].toArray) (h1 : v.oneCell' = true) (hj : j < r.size)
    (hk : ∀ W', VarR t W' g (r.setIfInBounds j v) → Off g W W' → wpList Try.prog ops Q rest a W') : wpList Try.prog ops Q (op :: rest) a W := by
  have hc : (W.cell? ⟨g, j, none⟩).isSome = true := by rw [h.cell j _ (Array.getElem?_eq_getElem hj)]; rfl
  have hf : W.frozen? ⟨g, j, none⟩ = false := by
    unfold VarR at h
    simp [World.frozen?, h]
  have hrun := run_storeCells_cells (P := Try.prog) g j [v] 0 W (fun i hi => by
    have : i = 0 := by simpa using hi
    subst this
    simpa using hc) (fun i hi => by
    have : i = 0 := by simpa using hi
    subst this
    simpa using hf) (by simpa using h1)
  have hst : (storeVar ty ⟨g, j, none⟩ v).run Try.prog W = .ok () (W.setCells g j [v]) := by
    cases hq : Try.prog.info? ty with
    | none => simp [hq] at hsz
    | some i =>
      have hs : i.size = 1 := by simpa [hq] using hsz
      simp only [Nat.add_zero] at hrun
      simp [storeVar, sizeOf, typeInfo, hq, hv, hs, hrun]
  refine wpList_plain hgd fun K hK => ?_
  unfold Oper.wp execOp
  simp only [ho, hx, hy, Instr.storeAt, Instr.sureAddr, Sem.run_bind, Sem.run_pure, Result.andThen_ok, hst]
  obtain ⟨r1, r2⟩ := setCells_row g _ [v] j W _ h
  exact hK _ _ (by rw [hd]; exact hk _ r1 r2)

set_option maxRecDepth 4000 in
theorem lsz_bool : (Try.prog.info? 4).map (·.size) = some 1 := by kernel_rfl
set_option maxRecDepth 4000 in
theorem step_build_ref {ops : Array Oper} {o : Oper} {a : Act} {K : Act → World → Prop} {Q : Exit → Act → World → Prop} {F : Prop} {W : World} {c : RC} (x : Operand) (hgd : o.guard = none) (ho : o.op = .buildSlice 27 1 #[(0, x)]) (hx : a.eval x = .agg c.row)
    (hk : K (a.put o.dst (.slice (some ⟨W.heap.size, 0, none⟩) 1 1)) (W.alloc (.cells c.row 34))) : if Region.wanted o (yielded ops a.tmps) = true then Oper.wp Try.prog o a W K Q else F := by
  have hw : Region.wanted o (yielded ops a.tmps) = true := by simp [Region.wanted, hgd]
  rw [if_pos hw]
  unfold Oper.wp execOp
  simp only [ho, List.map_toArray, List.map_cons, List.map_nil, hx, Sem.run_bind, run_build_ref, Result.andThen_ok]
  exact hk

set_option maxRecDepth 4000 in
theorem wpList_build_refg {ops : Array Oper} {rest : List Oper} {o : Oper} {a : Act} {Q : Exit → Act → World → Prop} {W : World} {c : RC} (x : Operand) (ho : o.op = .buildSlice 27 1 #[(0, x)]) (hw : Region.wanted o (yielded ops a.tmps) = true) (hx : a.eval x = .agg c.row)
    (hk : wpList Try.prog ops Q rest (a.put o.dst (.slice (some ⟨W.heap.size, 0, none⟩) 1 1)) (W.alloc (.cells c.row 34))) : wpList Try.prog ops Q (o :: rest) a W := by
  refine wpList_step fun K hK => ?_
  rw [if_pos hw]
  unfold Oper.wp execOp
  simp only [ho, List.map_toArray, List.map_cons, List.map_nil, hx, Sem.run_bind, run_build_ref, Result.andThen_ok]
  exact hK _ _ hk
set_option maxRecDepth 4000 in
theorem gd_buildg {P : Program} {ops : Array Oper} {Q : Exit → Act → World → Prop} {dst : Option Nat} {ty : TypeId} {k : Nat} {ps : Array (Nat × Operand)} {t : TypeId} {pos : String} {af : Array Edge} {gq : Nat × Bool} {rest : List Oper} {a : Act} {w : World} (h : wpList P ops Q ({ dst := dst, op := .buildSlice ty k ps, type := t, pos := pos, after := af, guard := some gq } :: rest) a w) : wpList P ops Q ({ dst := dst, op := .buildSlice ty k ps, type := t, pos := pos, after := af, guard := some gq } :: rest) a w := h
set_option maxRecDepth 100000 in
set_option maxHeartbeats 8000000 in
theorem radd_1 {w : World} {A : Option Addr} {cs : List RC} {us : List RefP} {m cap : Nat} {id : Int} {c : NC} {d : RC} {n : NT} {r : RefP} (hn : HasN w c n) (_h : LR w A cs us) (_hm : us.length = m) (_h63 : m ≤ 300) (_hcap : m ≤ cap) (hr : RkA w d r) (hf : fewR r = true) (hE : (chkR n r != 0) = true) : Calls Try.prog 10 #[.agg c.row, .slice A m cap, .int .i64 id, .agg d.row] w (NewLE w (addR n us id r)) := by
  obtain ⟨W0, hW, hb0, v1, v2⟩ := lvars2 w 26 34 c.row d.row
  have HV1 := hd v1
  have HV2 := hd v2
  have HB := hd hb0
  have HW := hd hW
  have HN := hd hn
  have HR := hd hr
  have HF := hd hf
  clear v1 v2 hb0 hW hn hr hf
  have hX : addR n us id r = ([], chkR n r) := by rw [addR, if_pos (by simpa using hE)]
  obtain ⟨E, he⟩ : ∃ E, chkR n r = E := ⟨_, rfl⟩
  rw [he] at hE hX
  have HE := hd he
  have HX := hd hX
  clear he hX
  go_enter Try.func10, Try.ntmps10
  go_upto_region 1 with fail
  rw [HW.out]
  go_wp2_with (first
    | ((with_reducible refine gd_load (ty := 26) (x := .tmp 4) ?_); refine wpList_load_row rowT_node HV1.out rfl _ rfl rfl rfl ?_)
    | ((with_reducible refine gd_load (ty := 34) (x := .tmp 7) ?_); refine wpList_load_row rowT_ref HV2.out rfl _ rfl rfl rfl ?_)
    | (go_at_call 13; refine Calls.mono (rchk_at (HN.out.later HB.out) (HR.out.later HB.out) HF.out HE.out) ?_; rintro e w9 ⟨rfl, b9⟩; have HV1 := hd (HV1.out.keep b9); have HV2 := hd (HV2.out.keep b9); have HB := hd (step_b HB.out b9); clear b9))
  go_ret2
  refine ⟨none, 0, 0, [], by rw [HX.out]; rfl, by rw [HX.out]; rfl, Nat.le_refl _, ?_, HB.out⟩
  rw [HX.out]
  exact LR.nil _ _
set_option maxRecDepth 100000 in
set_option maxHeartbeats 8000000 in
theorem radd_2 {w : World} {A : Option Addr} {cs : List RC} {us : List RefP} {m cap : Nat} {id : Int} {c : NC} {d : RC} {n : NT} {r : RefP} (hn : HasN w c n) (_h : LR w A cs us) (hm : us.length = m) (h63 : m ≤ 300) (_hcap : m ≤ cap) (hr : RkA w d r) (hf : fewR r = true) (hE : chkR n r = 0) (hl : 256 ≤ m) : Calls Try.prog 10 #[.agg c.row, .slice A m cap, .int .i64 id, .agg d.row] w (NewLE w (addR n us id r)) := by
  obtain ⟨W0, hW, hb0, v1, v2⟩ := lvars2 w 26 34 c.row d.row
  have HV1 := hd v1
  have HV2 := hd v2
  have HB := hd hb0
  have HW := hd hW
  have HN := hd hn
  have HR := hd hr
  have HF := hd hf
  clear v1 v2 hb0 hW hn hr hf
  have HX := hd (show addR n us id r = ([], 2) by rw [addR, if_neg (by simp [hE]), if_pos (by omega)])
  have HE := hd hE
  clear hE
  go_enter Try.func10, Try.ntmps10
  go_upto_region 1 with fail
  rw [HW.out]
  go_wp2_with (first
    | ((with_reducible refine gd_load (ty := 26) (x := .tmp 4) ?_); refine wpList_load_row rowT_node HV1.out rfl _ rfl rfl rfl ?_)
    | ((with_reducible refine gd_load (ty := 34) (x := .tmp 7) ?_); refine wpList_load_row rowT_ref HV2.out rfl _ rfl rfl rfl ?_)
    | (go_at_call 13; refine Calls.mono (rchk_at (HN.out.later HB.out) (HR.out.later HB.out) HF.out HE.out) ?_; rintro e w9 ⟨rfl, b9⟩; have HV1 := hd (HV1.out.keep b9); have HV2 := hd (HV2.out.keep b9); have HB := hd (step_b HB.out b9); clear b9))
  go_ret2
  refine ⟨none, 0, 0, [], by rw [HX.out]; rfl, by rw [HX.out]; rfl, Nat.le_refl _, ?_, HB.out⟩
  rw [HX.out]
  exact LR.nil _ _
set_option maxRecDepth 100000 in
set_option maxHeartbeats 8000000 in
theorem radd_3 {w : World} {A : Option Addr} {cs : List RC} {us : List RefP} {m cap : Nat} {id : Int} {c : NC} {d : RC} {n : NT} {r : RefP} (hn : HasN w c n) (h : LR w A cs us) (hm : us.length = m) (h63 : m ≤ 300) (_hcap : m ≤ cap) (hr : RkA w d r) (hf : fewR r = true) (hE : chkR n r = 0) (hl : m < 256) : Calls Try.prog 10 #[.agg c.row, .slice A m cap, .int .i64 id, .agg d.row] w (NewLE w (addR n us id r)) := by
  obtain ⟨W0, hW, hb0, v1, v2⟩ := lvars2 w 26 34 c.row d.row
  have HV1 := hd v1
  have HV2 := hd v2
  have HB := hd hb0
  have HW := hd hW
  have HN := hd hn
  have HR := hd hr
  have HF := hd hf
  clear v1 v2 hb0 hW hn hr hf
  have HX := hd (show addR n us id r = (us ++ [withR id r], 0) by rw [addR, if_neg (by simp [hE]), if_neg (by omega)])
  have HE := hd hE
  have HL := hd h
  have HM := hd hm
  clear hE h hm
  go_enter Try.func10, Try.ntmps10
  go_upto_region 1 with fail
  rw [HW.out]
  go_upto_region 8 with (first
    | ((with_reducible refine gd_load (ty := 26) (x := .tmp 4) ?_); refine wpList_load_row rowT_node HV1.out rfl _ rfl rfl rfl ?_)
    | ((with_reducible refine gd_load (ty := 34) (x := .tmp 7) ?_); refine wpList_load_row rowT_ref HV2.out rfl _ rfl rfl rfl ?_)
    | (go_at_call 13; refine Calls.mono (rchk_at (HN.out.later HB.out) (HR.out.later HB.out) HF.out HE.out) ?_; rintro e w9 ⟨rfl, b9⟩; have HV1 := hd (HV1.out.keep b9); have HV2 := hd (HV2.out.keep b9); have HB := hd (step_b HB.out b9); clear b9)
    | ((with_reducible refine gd_store (ty := 3) (x := .tmp 21) ?_); refine wpList_store_cell sz_int HV2.out _ _ rfl rfl rfl 0 (.int .i64 id) rfl rfl rfl rfl (show 0 < 11 by omega) ?_; intro W9 hv9 ho9; have HB := hd (off_step HB.out ho9 (by omega)); have HV2 := hd (show VarR 34 W9 (w.heap.size + 1) ({ d with id := id } : RC).row from hv9); clear hv9 ho9)
    | ((with_reducible refine gd_store (ty := 4) (x := .tmp 22) ?_); refine wpList_store_cell lsz_bool HV2.out _ _ rfl rfl rfl 3 (.bool true) rfl rfl rfl rfl (show 3 < 11 by omega) ?_; intro W9 hv9 ho9; have HB := hd (off_step HB.out ho9 (by omega)); have HV2 := hd (show VarR 34 W9 (w.heap.size + 1) ({ d with id := id, live := true } : RC).row from hv9); clear hv9 ho9))
  obtain ⟨d', hd'⟩ : ∃ d' : RC, { d with id := id, live := true } = d' := ⟨_, rfl⟩
  have HO := hd (show RkA w d' (withR id r) from hd' ▸ HR.out.with_ id)
  rw [hd'] at HV2
  clear hd'
  refine Y_start (S := fun W' => Below w.heap.size w W' ∧ VarR 34 W' (w.heap.size + 1) d'.row) (z := fun i => decide (5 ≤ i)) (by kernel_rfl) ?_
  have HSS := hd (show Below w.heap.size w W9.drew ∧ VarR 34 W9.drew (w.heap.size + 1) d'.row from ⟨HB.out.drew, HV2.out⟩)
  clear HV1 HV2 HB
  refine Y_take (i := 0) (n := 6) (.slice A m cap) rfl (by kernel_rfl) (by kernel_rfl) (by kernel_rfl) (by kernel_rfl) (fun _ _ _ h => h) (by rfl) (fun W9 hW9 => ?_) HSS.out ?_
  · go_simp
  simp only [Act.put, List.setIfInBounds_toArray, List.set_cons_succ, List.set_cons_zero, List.getElem_toArray, List.getElem_cons_zero]
  refine Y_take (i := 2) (n := 5) (.agg d'.row) rfl (by kernel_rfl) (by kernel_rfl) (by kernel_rfl) (by kernel_rfl) (fun _ _ _ h => h) (by rfl) (fun W9 hW9 => ?_) HSS.out ?_
  · exact exec_load_row rowT_ref hW9.2 rfl _ rfl rfl
  simp only [Act.put, List.setIfInBounds_toArray, List.set_cons_succ, List.set_cons_zero, List.getElem_toArray, List.getElem_cons_succ, List.getElem_cons_zero]
  refine Y_two (i := 1) (j := 3) (n := 4) (by kernel_rfl) rfl rfl (fun K hK => ?_) (fun K hK => ?_)
  · refine step_append_G0 refG _ rfl _ _ rfl w.heap.size rfl A m cap _ (cellsR cs) rfl (by rw [cellsR_len, HL.out.hl, HM.out]) (HL.out.later HSS.out.1).hv (cellsR_all _) (by unfold maxLen; omega) (by omega) HSS.out.1.size (fun A1 c1 w1 o1 b1 at1 => ?_)
    have HS := hd (step_b HSS.out.1 b1)
    have HV2 := hd (HSS.out.2.keep b1)
    refine hK _ _ (fun _ => ⟨HS.out, HV2.out⟩) ?_
    clear hK K
    simp only [Act.put, List.setIfInBounds_toArray, List.set_cons_succ, List.set_cons_zero, List.getElem_toArray, List.getElem_cons_succ, List.getElem_cons_zero]
    refine Y_one (i := 3) (n := 3) (by kernel_rfl) rfl (fun K hK => ?_)
    refine step_build_ref (c := d') _ rfl rfl rfl ?_
    have o1 := o1.alloc (.cells d'.row 34)
    have hvo := one_ref w1 d'
    have HS := hd (HS.out.alloc HS.out.size (.cells d'.row 34))
    have HLT := hd (show w.heap.size + 1 < W9.drew.heap.size from HSS.out.2.lt)
    have HV2 := hd (HV2.out.alloc (.cells d'.row 34))
    refine hK _ _ (fun _ => ⟨HS.out, HV2.out⟩) ?_
    clear hK K
    simp only [Act.put, List.setIfInBounds_toArray, List.set_cons_succ, List.set_cons_zero, List.getElem_toArray, List.getElem_cons_succ, List.getElem_cons_zero]
    refine Y_one (i := 4) (n := 2) (by kernel_rfl) rfl (fun K hK => ?_)
    refine step_append_GX refG _ rfl _ _ rfl w.heap.size (.slice A1 m c1) m (cellsR cs) rfl o1 _ 1 1 _ (cellsR [d']) rfl (by rw [cellsR_len]; rfl) hvo (cellsR_all _) (by unfold maxLen; omega) (by omega) HS.out.size (fun A2 c2 w2 o2 g2 at2 => ?_)
    have HS2 := hd (show Below w.heap.size w w2 from grown_below HS.out g2 (fun j hj => (o1.lt j hj).1))
    have HV := hd (lrow_vl o2)
    refine hK _ _ (fun _ => ⟨HS2.out, (g2.block _ HV2.out.lt (fun e => by
      rcases at1 with h | ⟨q, h, hq⟩
      · rw [h] at e; cases e
      · rw [h] at e
        injection e with e
        have h3 := HLT.out
        omega)).trans HV2.out⟩) ?_
    clear hK K o1 o2 g2 at2 hvo
    simp only [Act.put, List.setIfInBounds_toArray, List.set_cons_succ, List.set_cons_zero, List.getElem_toArray, List.getElem_cons_succ, List.getElem_cons_zero]
    refine Y_one (i := 5) (n := 1) (by kernel_rfl) rfl (fun K hK => ?_)
    rw [if_pos (by rfl)]
    go_simp
    refine hK _ _ (fun h => by cases h) ?_
    clear hK K
    refine Y_one (i := 6) (n := 0) (by kernel_rfl) rfl (fun K hK => ?_)
    rw [if_pos (by rfl)]
    go_simp
    refine hK _ _ (fun h => by cases h) (Y_done (by kernel_rfl) ?_)
    clear hK K
    go_wp2_with fail
    go_ret2
    refine ⟨A2, m + 1, c2, cs ++ [d'], by rw [HX.out]; rfl, by rw [HX.out]; simp [HM.out], HV.out.1, ?_, HS2.out⟩
    rw [HX.out]
    exact ((HL.out.rk.later HS2.out).app (RkL.one (HO.out.later HS2.out))).lr (by rw [cellsR_app]; exact HV.out.2)
  · refine step_build_ref (c := d') _ rfl rfl rfl ?_
    have HS := hd (HSS.out.1.alloc HSS.out.1.size (.cells d'.row 34))
    have HV2 := hd (HSS.out.2.alloc (.cells d'.row 34))
    have hvo := one_ref W9.drew d'
    refine hK _ _ (fun _ => ⟨HS.out, HV2.out⟩) ?_
    clear hK K
    simp only [Act.put, List.setIfInBounds_toArray, List.set_cons_succ, List.set_cons_zero, List.getElem_toArray, List.getElem_cons_succ, List.getElem_cons_zero]
    refine Y_one (i := 1) (n := 3) (by kernel_rfl) rfl (fun K hK => ?_)
    refine step_append_G0 refG _ rfl _ _ rfl w.heap.size rfl A m cap _ (cellsR cs) rfl (by rw [cellsR_len, HL.out.hl, HM.out]) (HL.out.later HS.out).hv (cellsR_all _) (by unfold maxLen; omega) (by omega) HS.out.size (fun A1 c1 w1 o1 b1 at1 => ?_)
    have HS := hd (step_b HS.out b1)
    have hvo := hvo.later b1
    have HLT := hd (show w.heap.size + 1 < (W9.drew.alloc (.cells d'.row 34)).heap.size from HV2.out.lt)
    have HV2 := hd (HV2.out.keep b1)
    refine hK _ _ (fun _ => ⟨HS.out, HV2.out⟩) ?_
    clear hK K
    simp only [Act.put, List.setIfInBounds_toArray, List.set_cons_succ, List.set_cons_zero, List.getElem_toArray, List.getElem_cons_succ, List.getElem_cons_zero]
    refine Y_one (i := 4) (n := 2) (by kernel_rfl) rfl (fun K hK => ?_)
    refine step_append_GX refG _ rfl _ _ rfl w.heap.size (.slice A1 m c1) m (cellsR cs) rfl o1 _ 1 1 _ (cellsR [d']) rfl (by rw [cellsR_len]; rfl) hvo (cellsR_all _) (by unfold maxLen; omega) (by omega) HS.out.size (fun A2 c2 w2 o2 g2 at2 => ?_)
    have HS2 := hd (show Below w.heap.size w w2 from grown_below HS.out g2 (fun j hj => (o1.lt j hj).1))
    have HV := hd (lrow_vl o2)
    refine hK _ _ (fun _ => ⟨HS2.out, (g2.block _ HV2.out.lt (fun e => by
      rcases at1 with h | ⟨q, h, hq⟩
      · rw [h] at e; cases e
      · rw [h] at e
        injection e with e
        have h3 := HLT.out
        omega)).trans HV2.out⟩) ?_
    clear hK K o1 o2 g2 at2 hvo
    simp only [Act.put, List.setIfInBounds_toArray, List.set_cons_succ, List.set_cons_zero, List.getElem_toArray, List.getElem_cons_succ, List.getElem_cons_zero]
    refine Y_one (i := 5) (n := 1) (by kernel_rfl) rfl (fun K hK => ?_)
    rw [if_pos (by rfl)]
    go_simp
    refine hK _ _ (fun h => by cases h) ?_
    clear hK K
    refine Y_one (i := 6) (n := 0) (by kernel_rfl) rfl (fun K hK => ?_)
    rw [if_pos (by rfl)]
    go_simp
    refine hK _ _ (fun h => by cases h) (Y_done (by kernel_rfl) ?_)
    clear hK K
    go_wp2_with fail
    go_ret2
    refine ⟨A2, m + 1, c2, cs ++ [d'], by rw [HX.out]; rfl, by rw [HX.out]; simp [HM.out], HV.out.1, ?_, HS2.out⟩
    rw [HX.out]
    exact ((HL.out.rk.later HS2.out).app (RkL.one (HO.out.later HS2.out))).lr (by rw [cellsR_app]; exact HV.out.2)
set_option maxRecDepth 4000 in
theorem radd_r {w : World} {A : Option Addr} {cs : List RC} {us : List RefP} {m cap : Nat} {id : Int} {c : NC} {d : RC} {n : NT} {r : RefP} (hn : HasN w c n) (h : LR w A cs us) (hm : us.length = m) (h63 : m ≤ 300) (hcap : m ≤ cap) (hr : RkA w d r) (hf : fewR r = true) : Calls Try.prog 10 #[.agg c.row, .slice A m cap, .int .i64 id, .agg d.row] w (NewLE w (addR n us id r)) := by
  cases he : (chkR n r != 0)
  · have he : chkR n r = 0 := by simpa using he
    rcases Nat.lt_or_ge m 256 with h1 | h1
    · exact radd_3 hn h hm h63 hcap hr hf he h1
    · exact radd_2 hn h hm h63 hcap hr hf he h1
  · exact radd_1 hn h hm h63 hcap hr hf he

end Go.Proofs.Ytmglnjmnabjjgaa
