/- The fields of its kind alone. -/
import Derived.Test.YtdjajpookmmafaaBVars
namespace Go.Proofs.Ytdjajpookmmafaa
open Go.RowKit

set_option maxRecDepth 100000 in
set_option maxHeartbeats 4000000 in
theorem bfields_1 (w : World) (c : OC) (a : OpP) (ha : OkA w c a) (hk : c.k = 1) : Calls Try.prog 37 #[.agg c.row] w (NewOB w (fieldsO a, true)) := by
  obtain ⟨dn, hnode⟩ := ha.hn
  have k1 : (c.k == 1) = true := by simp [hk]
  have k2 : (c.k == 2) = false := by simp [hk]
  have k3 : (c.k == 3) = false := by simp [hk]
  have k4 : (c.k == 4) = false := by simp [hk]
  have k5 : (c.k == 5) = false := by simp [hk]
  have k6 : (c.k == 6) = false := by simp [hk]
  have k7 : (c.k == 7) = false := by simp [hk]
  have k8 : (c.k == 8) = false := by simp [hk]
  have k9 : (c.k == 9) = false := by simp [hk]
  obtain ⟨W0, hW, hb0, hsz, e1, e2⟩ := two_vars w c
  have HV1 := hd e1
  have HV2 := hd e2
  have HW := hd hW
  have HB := hd hb0
  have HKK := hd hk
  clear hk
  have c0 := e1.ck
  have cq0 := e1.cq
  clear hW hb0 hsz e1 e2
  go_enter Try.func37, Try.ntmps37
  go_upto_region 1 with fail
  rw [HW.out]
  have HN13 := hd (show w.heap.size ≠ W0.heap.size by have := HV1.out.lt; omega)
  have HN23 := hd (show w.heap.size + 1 ≠ W0.heap.size by have := HV2.out.lt; omega)
  have HG3 := hd (show w.heap.size ≤ W0.heap.size from HB.out.size)
  go_wp2_with (first
    | ((with_reducible refine gd_store (ty := 35) (x := .tmp 4) ?_); refine wpList_store_oc (c := (OC.mk c.k c.Q c.lq c.cq none 0 0 0 false none 0 0 none 0 0 none 0 0 none 0 0 none 0 0 none 0 0 false none 0 0 0 none 0 0 0 false none 0 0 0 none 0 0 0)) _ _ rfl rfl rfl rfl rfl rfl rfl ?_; have HV3 := hd (VarO.new W0 (OC.mk c.k c.Q c.lq c.cq none 0 0 0 false none 0 0 none 0 0 none 0 0 none 0 0 none 0 0 none 0 0 false none 0 0 0 none 0 0 0 false none 0 0 0 none 0 0 0)); have hn9 := new_below W0 (.cells (OC.row (OC.mk c.k c.Q c.lq c.cq none 0 0 0 false none 0 0 none 0 0 none 0 0 none 0 0 none 0 0 none 0 0 false none 0 0 0 none 0 0 0 false none 0 0 0 none 0 0 0)) 35); have HV1 := hd (HV1.out.keep hn9); have HV2 := hd (HV2.out.keep hn9); have HB := hd (HB.out.trans (hn9.mono HB.out.size)); clear hn9)
    | ((with_reducible refine gd_store (ty := 27) ?_); refine wpList_store_fld sz_node HV3.out _ _ rfl rfl rfl 4 _ [.bool c.lf, .slice c.P c.np c.pc, .slice c.X c.nt c.tc, .slice c.K c.nk c.kc] (OC.mk c.k c.Q c.lq c.cq none 0 0 0 c.lf c.P c.np c.pc c.X c.nt c.tc c.K c.nk c.kc none 0 0 none 0 0 none 0 0 false none 0 0 0 none 0 0 0 false none 0 0 0 none 0 0 0) rfl (by first | rfl | (unfold Act.eval; rfl)) rfl rfl (by intro u hu; simp at hu; rcases hu with rfl | rfl | rfl | rfl | rfl <;> rfl) (Nat.le_of_ble_eq_true rfl) (by kernel_rfl) ?_; intro W9 hv9 ho9; have HV2 := hd (HV2.out.off ho9 HN23.out); have HV1 := hd (HV1.out.off ho9 HN13.out); have HV3 := hd hv9; have HB := hd (off_below HB.out ho9 HG3.out); clear hv9 ho9)
    | ((with_reducible refine gd_load (ty := 3) ?_); refine wpList_load_f1 HV1.out (j := 0) (v := .int .i64 c.k) _ rfl rfl rfl rfl Try.underlying3 rfl ?_)
    | ((with_reducible refine gd_load (ty := 35) ?_); refine wpList_load_oc HV3.out _ rfl rfl rfl ?_)
    | ((with_reducible refine gd_store (ty := 35) (x := .tmp 2) ?_); refine wpList_store_var HV2.out _ _ rfl rfl rfl rfl rfl ?_; intro W9 hv9 ho9; have HV2 := hd hv9; have HB := hd (off_below HB.out ho9 (by omega)); clear hv9 ho9)
    | ((with_reducible refine gd_load (ty := 27) ?_); refine wpList_load_fn HV1.out (j := 4) (vs := [.bool c.lf, .slice c.P c.np c.pc, .slice c.X c.nt c.tc, .slice c.K c.nk c.kc]) row_node _ rfl rfl rfl (by kernel_rfl) ?_))
  refine bodyPost_ret (result_oc2 Try.results37 _ _ HV2.out rfl) rfl ⟨_, rfl, ?_, HB.out⟩
  have hr := ((((OkA.zero w).setK (k := c.k) (ha.hk ▸ ha.hik)).setQ ha.hlq ha.hcq ha.hmq ha.hq ha.hiq).setN hnode).later HB.out
  have he : fieldsO a = { zeroO with k := c.k, q := a.q, n := a.n } := by
    unfold fieldsO
    simp [ha.hk, HKK.out]
  show OkA _ _ (fieldsO a)
  rw [he]
  exact hr
set_option maxRecDepth 100000 in
set_option maxHeartbeats 4000000 in
theorem bfields_2 (w : World) (c : OC) (a : OpP) (ha : OkA w c a) (hk : c.k = 2) : Calls Try.prog 37 #[.agg c.row] w (NewOB w (fieldsO a, true)) := by
  obtain ⟨dn, hnode⟩ := ha.hn
  have k1 : (c.k == 1) = false := by simp [hk]
  have k2 : (c.k == 2) = true := by simp [hk]
  have k3 : (c.k == 3) = false := by simp [hk]
  have k4 : (c.k == 4) = false := by simp [hk]
  have k5 : (c.k == 5) = false := by simp [hk]
  have k6 : (c.k == 6) = false := by simp [hk]
  have k7 : (c.k == 7) = false := by simp [hk]
  have k8 : (c.k == 8) = false := by simp [hk]
  have k9 : (c.k == 9) = false := by simp [hk]
  obtain ⟨W0, hW, hb0, hsz, e1, e2⟩ := two_vars w c
  have HV1 := hd e1
  have HV2 := hd e2
  have HW := hd hW
  have HB := hd hb0
  have HKK := hd hk
  clear hk
  have c0 := e1.ck
  have cq0 := e1.cq
  clear hW hb0 hsz e1 e2
  go_enter Try.func37, Try.ntmps37
  go_upto_region 1 with fail
  rw [HW.out]
  have HN13 := hd (show w.heap.size ≠ W0.heap.size by have := HV1.out.lt; omega)
  have HN23 := hd (show w.heap.size + 1 ≠ W0.heap.size by have := HV2.out.lt; omega)
  have HG3 := hd (show w.heap.size ≤ W0.heap.size from HB.out.size)
  go_wp2_with (first
    | ((with_reducible refine gd_store (ty := 35) (x := .tmp 4) ?_); refine wpList_store_oc (c := (OC.mk c.k c.Q c.lq c.cq none 0 0 0 false none 0 0 none 0 0 none 0 0 none 0 0 none 0 0 none 0 0 false none 0 0 0 none 0 0 0 false none 0 0 0 none 0 0 0)) _ _ rfl rfl rfl rfl rfl rfl rfl ?_; have HV3 := hd (VarO.new W0 (OC.mk c.k c.Q c.lq c.cq none 0 0 0 false none 0 0 none 0 0 none 0 0 none 0 0 none 0 0 none 0 0 false none 0 0 0 none 0 0 0 false none 0 0 0 none 0 0 0)); have hn9 := new_below W0 (.cells (OC.row (OC.mk c.k c.Q c.lq c.cq none 0 0 0 false none 0 0 none 0 0 none 0 0 none 0 0 none 0 0 none 0 0 false none 0 0 0 none 0 0 0 false none 0 0 0 none 0 0 0)) 35); have HV1 := hd (HV1.out.keep hn9); have HV2 := hd (HV2.out.keep hn9); have HB := hd (HB.out.trans (hn9.mono HB.out.size)); clear hn9)
    | ((with_reducible refine gd_store (ty := 27) ?_); refine wpList_store_fld sz_node HV3.out _ _ rfl rfl rfl 4 _ [.bool c.lf, .slice c.P c.np c.pc, .slice c.X c.nt c.tc, .slice c.K c.nk c.kc] (OC.mk c.k c.Q c.lq c.cq none 0 0 0 c.lf c.P c.np c.pc c.X c.nt c.tc c.K c.nk c.kc none 0 0 none 0 0 none 0 0 false none 0 0 0 none 0 0 0 false none 0 0 0 none 0 0 0) rfl (by first | rfl | (unfold Act.eval; rfl)) rfl rfl (by intro u hu; simp at hu; rcases hu with rfl | rfl | rfl | rfl | rfl <;> rfl) (Nat.le_of_ble_eq_true rfl) (by kernel_rfl) ?_; intro W9 hv9 ho9; have HV2 := hd (HV2.out.off ho9 HN23.out); have HV1 := hd (HV1.out.off ho9 HN13.out); have HV3 := hd hv9; have HB := hd (off_below HB.out ho9 HG3.out); clear hv9 ho9)
    | ((with_reducible refine gd_load (ty := 3) ?_); refine wpList_load_f1 HV1.out (j := 0) (v := .int .i64 c.k) _ rfl rfl rfl rfl Try.underlying3 rfl ?_)
    | ((with_reducible refine gd_load (ty := 35) ?_); refine wpList_load_oc HV3.out _ rfl rfl rfl ?_)
    | ((with_reducible refine gd_store (ty := 35) (x := .tmp 2) ?_); refine wpList_store_var HV2.out _ _ rfl rfl rfl rfl rfl ?_; intro W9 hv9 ho9; have HV2 := hd hv9; have HB := hd (off_below HB.out ho9 (by omega)); clear hv9 ho9)
    | ((with_reducible refine gd_load (ty := 27) ?_); refine wpList_load_fn HV1.out (j := 4) (vs := [.bool c.lf, .slice c.P c.np c.pc, .slice c.X c.nt c.tc, .slice c.K c.nk c.kc]) row_node _ rfl rfl rfl (by kernel_rfl) ?_))
  refine bodyPost_ret (result_oc2 Try.results37 _ _ HV2.out rfl) rfl ⟨_, rfl, ?_, HB.out⟩
  have hr := ((((OkA.zero w).setK (k := c.k) (ha.hk ▸ ha.hik)).setQ ha.hlq ha.hcq ha.hmq ha.hq ha.hiq).setN hnode).later HB.out
  have he : fieldsO a = { zeroO with k := c.k, q := a.q, n := a.n } := by
    unfold fieldsO
    simp [ha.hk, HKK.out]
  show OkA _ _ (fieldsO a)
  rw [he]
  exact hr
set_option maxRecDepth 100000 in
set_option maxHeartbeats 4000000 in
theorem bfields_3 (w : World) (c : OC) (a : OpP) (ha : OkA w c a) (hk : c.k = 3) : Calls Try.prog 37 #[.agg c.row] w (NewOB w (fieldsO a, true)) := by
  have k1 : (c.k == 1) = false := by simp [hk]
  have k2 : (c.k == 2) = false := by simp [hk]
  have k3 : (c.k == 3) = true := by simp [hk]
  have k4 : (c.k == 4) = false := by simp [hk]
  have k5 : (c.k == 5) = false := by simp [hk]
  have k6 : (c.k == 6) = false := by simp [hk]
  have k7 : (c.k == 7) = false := by simp [hk]
  have k8 : (c.k == 8) = false := by simp [hk]
  have k9 : (c.k == 9) = false := by simp [hk]
  obtain ⟨W0, hW, hb0, hsz, e1, e2⟩ := two_vars w c
  have HV1 := hd e1
  have HV2 := hd e2
  have HW := hd hW
  have HB := hd hb0
  have HKK := hd hk
  clear hk
  have c0 := e1.ck
  have cq0 := e1.cq
  clear hW hb0 hsz e1 e2
  go_enter Try.func37, Try.ntmps37
  go_upto_region 1 with fail
  rw [HW.out]
  have HN13 := hd (show w.heap.size ≠ W0.heap.size by have := HV1.out.lt; omega)
  have HN23 := hd (show w.heap.size + 1 ≠ W0.heap.size by have := HV2.out.lt; omega)
  have HG3 := hd (show w.heap.size ≤ W0.heap.size from HB.out.size)
  go_wp2_with (first
    | ((with_reducible refine gd_store (ty := 35) (x := .tmp 4) ?_); refine wpList_store_oc (c := (OC.mk c.k c.Q c.lq c.cq none 0 0 0 false none 0 0 none 0 0 none 0 0 none 0 0 none 0 0 none 0 0 false none 0 0 0 none 0 0 0 false none 0 0 0 none 0 0 0)) _ _ rfl rfl rfl rfl rfl rfl rfl ?_; have HV3 := hd (VarO.new W0 (OC.mk c.k c.Q c.lq c.cq none 0 0 0 false none 0 0 none 0 0 none 0 0 none 0 0 none 0 0 none 0 0 false none 0 0 0 none 0 0 0 false none 0 0 0 none 0 0 0)); have hn9 := new_below W0 (.cells (OC.row (OC.mk c.k c.Q c.lq c.cq none 0 0 0 false none 0 0 none 0 0 none 0 0 none 0 0 none 0 0 none 0 0 false none 0 0 0 none 0 0 0 false none 0 0 0 none 0 0 0)) 35); have HV1 := hd (HV1.out.keep hn9); have HV2 := hd (HV2.out.keep hn9); have HB := hd (HB.out.trans (hn9.mono HB.out.size)); clear hn9)
    | ((with_reducible refine gd_store (ty := 3) ?_); refine wpList_store_fld sz_int HV3.out _ _ rfl rfl rfl 3 _ [.int .i64 c.z] (OC.mk c.k c.Q c.lq c.cq none 0 0 c.z false none 0 0 none 0 0 none 0 0 none 0 0 none 0 0 none 0 0 false none 0 0 0 none 0 0 0 false none 0 0 0 none 0 0 0) rfl (by first | rfl | (unfold Act.eval; rfl)) rfl rfl (by intro u hu; simp at hu; rcases hu with rfl | rfl | rfl | rfl | rfl <;> rfl) (Nat.le_of_ble_eq_true rfl) (by kernel_rfl) ?_; intro W9 hv9 ho9; have HV2 := hd (HV2.out.off ho9 HN23.out); have HV1 := hd (HV1.out.off ho9 HN13.out); have HV3 := hd hv9; have HB := hd (off_below HB.out ho9 HG3.out); clear hv9 ho9)
    | ((with_reducible refine gd_store (ty := 23) ?_); refine wpList_store_fld sz_props HV3.out _ _ rfl rfl rfl 8 _ [.slice c.O c.no c.co] (OC.mk c.k c.Q c.lq c.cq none 0 0 c.z false none 0 0 none 0 0 none 0 0 c.O c.no c.co none 0 0 none 0 0 false none 0 0 0 none 0 0 0 false none 0 0 0 none 0 0 0) rfl (by first | rfl | (unfold Act.eval; rfl)) rfl rfl (by intro u hu; simp at hu; rcases hu with rfl | rfl | rfl | rfl | rfl <;> rfl) (Nat.le_of_ble_eq_true rfl) (by kernel_rfl) ?_; intro W9 hv9 ho9; have HV2 := hd (HV2.out.off ho9 HN23.out); have HV1 := hd (HV1.out.off ho9 HN13.out); have HV3 := hd hv9; have HB := hd (off_below HB.out ho9 HG3.out); clear hv9 ho9)
    | ((with_reducible refine gd_load (ty := 3) ?_); refine wpList_load_f1 HV1.out (j := 0) (v := .int .i64 c.k) _ rfl rfl rfl rfl Try.underlying3 rfl ?_)
    | ((with_reducible refine gd_load (ty := 35) ?_); refine wpList_load_oc HV3.out _ rfl rfl rfl ?_)
    | ((with_reducible refine gd_store (ty := 35) (x := .tmp 2) ?_); refine wpList_store_var HV2.out _ _ rfl rfl rfl rfl rfl ?_; intro W9 hv9 ho9; have HV2 := hd hv9; have HB := hd (off_below HB.out ho9 (by omega)); clear hv9 ho9)
    | ((with_reducible refine gd_load (ty := 3) ?_); refine wpList_load_f1 HV1.out (j := 3) (v := .int .i64 c.z) _ rfl rfl rfl rfl Try.underlying3 rfl ?_)
    | ((with_reducible refine gd_load (ty := 23) ?_); refine wpList_load_f1 HV1.out (j := 8) (v := .slice c.O c.no c.co) _ rfl rfl rfl rfl Try.underlying23 rfl ?_))
  refine bodyPost_ret (result_oc2 Try.results37 _ _ HV2.out rfl) rfl ⟨_, rfl, ?_, HB.out⟩
  have hr := (((((OkA.zero w).setK (k := c.k) (ha.hk ▸ ha.hik)).setQ ha.hlq ha.hcq ha.hmq ha.hq ha.hiq).setZ c.z).setO ha.hno ha.hco ha.hmo ha.ho ha.hwo).later HB.out
  have he : fieldsO a = { zeroO with k := c.k, q := a.q, z := c.z, o := a.o } := by
    unfold fieldsO
    simp [ha.hk, HKK.out, ha.hz]
  show OkA _ _ (fieldsO a)
  rw [he]
  exact hr
set_option maxRecDepth 100000 in
set_option maxHeartbeats 4000000 in
theorem bfields_4 (w : World) (c : OC) (a : OpP) (ha : OkA w c a) (hk : c.k = 4) : Calls Try.prog 37 #[.agg c.row] w (NewOB w (fieldsO a, true)) := by
  have k1 : (c.k == 1) = false := by simp [hk]
  have k2 : (c.k == 2) = false := by simp [hk]
  have k3 : (c.k == 3) = false := by simp [hk]
  have k4 : (c.k == 4) = true := by simp [hk]
  have k5 : (c.k == 5) = false := by simp [hk]
  have k6 : (c.k == 6) = false := by simp [hk]
  have k7 : (c.k == 7) = false := by simp [hk]
  have k8 : (c.k == 8) = false := by simp [hk]
  have k9 : (c.k == 9) = false := by simp [hk]
  obtain ⟨W0, hW, hb0, hsz, e1, e2⟩ := two_vars w c
  have HV1 := hd e1
  have HV2 := hd e2
  have HW := hd hW
  have HB := hd hb0
  have HKK := hd hk
  clear hk
  have c0 := e1.ck
  have cq0 := e1.cq
  clear hW hb0 hsz e1 e2
  go_enter Try.func37, Try.ntmps37
  go_upto_region 1 with fail
  rw [HW.out]
  have HN13 := hd (show w.heap.size ≠ W0.heap.size by have := HV1.out.lt; omega)
  have HN23 := hd (show w.heap.size + 1 ≠ W0.heap.size by have := HV2.out.lt; omega)
  have HG3 := hd (show w.heap.size ≤ W0.heap.size from HB.out.size)
  go_wp2_with (first
    | ((with_reducible refine gd_store (ty := 35) (x := .tmp 4) ?_); refine wpList_store_oc (c := (OC.mk c.k c.Q c.lq c.cq none 0 0 0 false none 0 0 none 0 0 none 0 0 none 0 0 none 0 0 none 0 0 false none 0 0 0 none 0 0 0 false none 0 0 0 none 0 0 0)) _ _ rfl rfl rfl rfl rfl rfl rfl ?_; have HV3 := hd (VarO.new W0 (OC.mk c.k c.Q c.lq c.cq none 0 0 0 false none 0 0 none 0 0 none 0 0 none 0 0 none 0 0 none 0 0 false none 0 0 0 none 0 0 0 false none 0 0 0 none 0 0 0)); have hn9 := new_below W0 (.cells (OC.row (OC.mk c.k c.Q c.lq c.cq none 0 0 0 false none 0 0 none 0 0 none 0 0 none 0 0 none 0 0 none 0 0 false none 0 0 0 none 0 0 0 false none 0 0 0 none 0 0 0)) 35); have HV1 := hd (HV1.out.keep hn9); have HV2 := hd (HV2.out.keep hn9); have HB := hd (HB.out.trans (hn9.mono HB.out.size)); clear hn9)
    | ((with_reducible refine gd_store (ty := 3) ?_); refine wpList_store_fld sz_int HV3.out _ _ rfl rfl rfl 3 _ [.int .i64 c.z] (OC.mk c.k c.Q c.lq c.cq none 0 0 c.z false none 0 0 none 0 0 none 0 0 none 0 0 none 0 0 none 0 0 false none 0 0 0 none 0 0 0 false none 0 0 0 none 0 0 0) rfl (by first | rfl | (unfold Act.eval; rfl)) rfl rfl (by intro u hu; simp at hu; rcases hu with rfl | rfl | rfl | rfl | rfl <;> rfl) (Nat.le_of_ble_eq_true rfl) (by kernel_rfl) ?_; intro W9 hv9 ho9; have HV2 := hd (HV2.out.off ho9 HN23.out); have HV1 := hd (HV1.out.off ho9 HN13.out); have HV3 := hd hv9; have HB := hd (off_below HB.out ho9 HG3.out); clear hv9 ho9)
    | ((with_reducible refine gd_store (ty := 23) ?_); refine wpList_store_fld sz_props HV3.out _ _ rfl rfl rfl 9 _ [.slice c.W c.nw c.cw] (OC.mk c.k c.Q c.lq c.cq none 0 0 c.z false none 0 0 none 0 0 none 0 0 none 0 0 c.W c.nw c.cw none 0 0 false none 0 0 0 none 0 0 0 false none 0 0 0 none 0 0 0) rfl (by first | rfl | (unfold Act.eval; rfl)) rfl rfl (by intro u hu; simp at hu; rcases hu with rfl | rfl | rfl | rfl | rfl <;> rfl) (Nat.le_of_ble_eq_true rfl) (by kernel_rfl) ?_; intro W9 hv9 ho9; have HV2 := hd (HV2.out.off ho9 HN23.out); have HV1 := hd (HV1.out.off ho9 HN13.out); have HV3 := hd hv9; have HB := hd (off_below HB.out ho9 HG3.out); clear hv9 ho9)
    | ((with_reducible refine gd_load (ty := 3) ?_); refine wpList_load_f1 HV1.out (j := 0) (v := .int .i64 c.k) _ rfl rfl rfl rfl Try.underlying3 rfl ?_)
    | ((with_reducible refine gd_load (ty := 35) ?_); refine wpList_load_oc HV3.out _ rfl rfl rfl ?_)
    | ((with_reducible refine gd_store (ty := 35) (x := .tmp 2) ?_); refine wpList_store_var HV2.out _ _ rfl rfl rfl rfl rfl ?_; intro W9 hv9 ho9; have HV2 := hd hv9; have HB := hd (off_below HB.out ho9 (by omega)); clear hv9 ho9)
    | ((with_reducible refine gd_load (ty := 3) ?_); refine wpList_load_f1 HV1.out (j := 3) (v := .int .i64 c.z) _ rfl rfl rfl rfl Try.underlying3 rfl ?_)
    | ((with_reducible refine gd_load (ty := 23) ?_); refine wpList_load_f1 HV1.out (j := 9) (v := .slice c.W c.nw c.cw) _ rfl rfl rfl rfl Try.underlying23 rfl ?_))
  refine bodyPost_ret (result_oc2 Try.results37 _ _ HV2.out rfl) rfl ⟨_, rfl, ?_, HB.out⟩
  have hr := (((((OkA.zero w).setK (k := c.k) (ha.hk ▸ ha.hik)).setQ ha.hlq ha.hcq ha.hmq ha.hq ha.hiq).setZ c.z).setW ha.hnw ha.hcw ha.hmw ha.hw ha.hww).later HB.out
  have he : fieldsO a = { zeroO with k := c.k, q := a.q, z := c.z, w := a.w } := by
    unfold fieldsO
    simp [ha.hk, HKK.out, ha.hz]
  show OkA _ _ (fieldsO a)
  rw [he]
  exact hr
set_option maxRecDepth 100000 in
set_option maxHeartbeats 4000000 in
theorem bfields_5 (w : World) (c : OC) (a : OpP) (ha : OkA w c a) (hk : c.k = 5) : Calls Try.prog 37 #[.agg c.row] w (NewOB w (fieldsO a, true)) := by
  have k1 : (c.k == 1) = false := by simp [hk]
  have k2 : (c.k == 2) = false := by simp [hk]
  have k3 : (c.k == 3) = false := by simp [hk]
  have k4 : (c.k == 4) = false := by simp [hk]
  have k5 : (c.k == 5) = true := by simp [hk]
  have k6 : (c.k == 6) = false := by simp [hk]
  have k7 : (c.k == 7) = false := by simp [hk]
  have k8 : (c.k == 8) = false := by simp [hk]
  have k9 : (c.k == 9) = false := by simp [hk]
  obtain ⟨W0, hW, hb0, hsz, e1, e2⟩ := two_vars w c
  have HV1 := hd e1
  have HV2 := hd e2
  have HW := hd hW
  have HB := hd hb0
  have HKK := hd hk
  clear hk
  have c0 := e1.ck
  have cq0 := e1.cq
  clear hW hb0 hsz e1 e2
  go_enter Try.func37, Try.ntmps37
  go_upto_region 1 with fail
  rw [HW.out]
  have HN13 := hd (show w.heap.size ≠ W0.heap.size by have := HV1.out.lt; omega)
  have HN23 := hd (show w.heap.size + 1 ≠ W0.heap.size by have := HV2.out.lt; omega)
  have HG3 := hd (show w.heap.size ≤ W0.heap.size from HB.out.size)
  go_wp2_with (first
    | ((with_reducible refine gd_store (ty := 35) (x := .tmp 4) ?_); refine wpList_store_oc (c := (OC.mk c.k c.Q c.lq c.cq none 0 0 0 false none 0 0 none 0 0 none 0 0 none 0 0 none 0 0 none 0 0 false none 0 0 0 none 0 0 0 false none 0 0 0 none 0 0 0)) _ _ rfl rfl rfl rfl rfl rfl rfl ?_; have HV3 := hd (VarO.new W0 (OC.mk c.k c.Q c.lq c.cq none 0 0 0 false none 0 0 none 0 0 none 0 0 none 0 0 none 0 0 none 0 0 false none 0 0 0 none 0 0 0 false none 0 0 0 none 0 0 0)); have hn9 := new_below W0 (.cells (OC.row (OC.mk c.k c.Q c.lq c.cq none 0 0 0 false none 0 0 none 0 0 none 0 0 none 0 0 none 0 0 none 0 0 false none 0 0 0 none 0 0 0 false none 0 0 0 none 0 0 0)) 35); have HV1 := hd (HV1.out.keep hn9); have HV2 := hd (HV2.out.keep hn9); have HB := hd (HB.out.trans (hn9.mono HB.out.size)); clear hn9)
    | ((with_reducible refine gd_store (ty := 22) ?_); refine wpList_store_fld sz_path HV3.out _ _ rfl rfl rfl 2 _ [.slice c.T c.lt c.ct] (OC.mk c.k c.Q c.lq c.cq c.T c.lt c.ct 0 false none 0 0 none 0 0 none 0 0 none 0 0 none 0 0 none 0 0 false none 0 0 0 none 0 0 0 false none 0 0 0 none 0 0 0) rfl (by first | rfl | (unfold Act.eval; rfl)) rfl rfl (by intro u hu; simp at hu; rcases hu with rfl | rfl | rfl | rfl | rfl <;> rfl) (Nat.le_of_ble_eq_true rfl) (by kernel_rfl) ?_; intro W9 hv9 ho9; have HV2 := hd (HV2.out.off ho9 HN23.out); have HV1 := hd (HV1.out.off ho9 HN13.out); have HV3 := hd hv9; have HB := hd (off_below HB.out ho9 HG3.out); clear hv9 ho9)
    | ((with_reducible refine gd_load (ty := 3) ?_); refine wpList_load_f1 HV1.out (j := 0) (v := .int .i64 c.k) _ rfl rfl rfl rfl Try.underlying3 rfl ?_)
    | ((with_reducible refine gd_load (ty := 35) ?_); refine wpList_load_oc HV3.out _ rfl rfl rfl ?_)
    | ((with_reducible refine gd_store (ty := 35) (x := .tmp 2) ?_); refine wpList_store_var HV2.out _ _ rfl rfl rfl rfl rfl ?_; intro W9 hv9 ho9; have HV2 := hd hv9; have HB := hd (off_below HB.out ho9 (by omega)); clear hv9 ho9)
    | ((with_reducible refine gd_load (ty := 22) ?_); refine wpList_load_f1 HV1.out (j := 2) (v := .slice c.T c.lt c.ct) _ rfl rfl rfl rfl Try.underlying22 rfl ?_))
  refine bodyPost_ret (result_oc2 Try.results37 _ _ HV2.out rfl) rfl ⟨_, rfl, ?_, HB.out⟩
  have hr := ((((OkA.zero w).setK (k := c.k) (ha.hk ▸ ha.hik)).setQ ha.hlq ha.hcq ha.hmq ha.hq ha.hiq).setT ha.hlt ha.hct ha.hmt ha.ht ha.hit).later HB.out
  have he : fieldsO a = { zeroO with k := c.k, q := a.q, t := a.t } := by
    unfold fieldsO
    simp [ha.hk, HKK.out]
  show OkA _ _ (fieldsO a)
  rw [he]
  exact hr
set_option maxRecDepth 100000 in
set_option maxHeartbeats 4000000 in
theorem bfields_6 (w : World) (c : OC) (a : OpP) (ha : OkA w c a) (hk : c.k = 6) : Calls Try.prog 37 #[.agg c.row] w (NewOB w (fieldsO a, true)) := by
  have k1 : (c.k == 1) = false := by simp [hk]
  have k2 : (c.k == 2) = false := by simp [hk]
  have k3 : (c.k == 3) = false := by simp [hk]
  have k4 : (c.k == 4) = false := by simp [hk]
  have k5 : (c.k == 5) = false := by simp [hk]
  have k6 : (c.k == 6) = true := by simp [hk]
  have k7 : (c.k == 7) = false := by simp [hk]
  have k8 : (c.k == 8) = false := by simp [hk]
  have k9 : (c.k == 9) = false := by simp [hk]
  obtain ⟨W0, hW, hb0, hsz, e1, e2⟩ := two_vars w c
  have HV1 := hd e1
  have HV2 := hd e2
  have HW := hd hW
  have HB := hd hb0
  have HKK := hd hk
  clear hk
  have c0 := e1.ck
  have cq0 := e1.cq
  clear hW hb0 hsz e1 e2
  go_enter Try.func37, Try.ntmps37
  go_upto_region 1 with fail
  rw [HW.out]
  have HN13 := hd (show w.heap.size ≠ W0.heap.size by have := HV1.out.lt; omega)
  have HN23 := hd (show w.heap.size + 1 ≠ W0.heap.size by have := HV2.out.lt; omega)
  have HG3 := hd (show w.heap.size ≤ W0.heap.size from HB.out.size)
  go_wp2_with (first
    | ((with_reducible refine gd_store (ty := 35) (x := .tmp 4) ?_); refine wpList_store_oc (c := (OC.mk c.k c.Q c.lq c.cq none 0 0 0 false none 0 0 none 0 0 none 0 0 none 0 0 none 0 0 none 0 0 false none 0 0 0 none 0 0 0 false none 0 0 0 none 0 0 0)) _ _ rfl rfl rfl rfl rfl rfl rfl ?_; have HV3 := hd (VarO.new W0 (OC.mk c.k c.Q c.lq c.cq none 0 0 0 false none 0 0 none 0 0 none 0 0 none 0 0 none 0 0 none 0 0 false none 0 0 0 none 0 0 0 false none 0 0 0 none 0 0 0)); have hn9 := new_below W0 (.cells (OC.row (OC.mk c.k c.Q c.lq c.cq none 0 0 0 false none 0 0 none 0 0 none 0 0 none 0 0 none 0 0 none 0 0 false none 0 0 0 none 0 0 0 false none 0 0 0 none 0 0 0)) 35); have HV1 := hd (HV1.out.keep hn9); have HV2 := hd (HV2.out.keep hn9); have HB := hd (HB.out.trans (hn9.mono HB.out.size)); clear hn9)
    | ((with_reducible refine gd_store (ty := 23) ?_); refine wpList_store_fld sz_props HV3.out _ _ rfl rfl rfl 8 _ [.slice c.O c.no c.co] (OC.mk c.k c.Q c.lq c.cq none 0 0 0 false none 0 0 none 0 0 none 0 0 c.O c.no c.co none 0 0 none 0 0 false none 0 0 0 none 0 0 0 false none 0 0 0 none 0 0 0) rfl (by first | rfl | (unfold Act.eval; rfl)) rfl rfl (by intro u hu; simp at hu; rcases hu with rfl | rfl | rfl | rfl | rfl <;> rfl) (Nat.le_of_ble_eq_true rfl) (by kernel_rfl) ?_; intro W9 hv9 ho9; have HV2 := hd (HV2.out.off ho9 HN23.out); have HV1 := hd (HV1.out.off ho9 HN13.out); have HV3 := hd hv9; have HB := hd (off_below HB.out ho9 HG3.out); clear hv9 ho9)
    | ((with_reducible refine gd_store (ty := 23) ?_); refine wpList_store_fld sz_props HV3.out _ _ rfl rfl rfl 9 _ [.slice c.W c.nw c.cw] (OC.mk c.k c.Q c.lq c.cq none 0 0 0 false none 0 0 none 0 0 none 0 0 c.O c.no c.co c.W c.nw c.cw none 0 0 false none 0 0 0 none 0 0 0 false none 0 0 0 none 0 0 0) rfl (by first | rfl | (unfold Act.eval; rfl)) rfl rfl (by intro u hu; simp at hu; rcases hu with rfl | rfl | rfl | rfl | rfl <;> rfl) (Nat.le_of_ble_eq_true rfl) (by kernel_rfl) ?_; intro W9 hv9 ho9; have HV2 := hd (HV2.out.off ho9 HN23.out); have HV1 := hd (HV1.out.off ho9 HN13.out); have HV3 := hd hv9; have HB := hd (off_below HB.out ho9 HG3.out); clear hv9 ho9)
    | ((with_reducible refine gd_load (ty := 3) ?_); refine wpList_load_f1 HV1.out (j := 0) (v := .int .i64 c.k) _ rfl rfl rfl rfl Try.underlying3 rfl ?_)
    | ((with_reducible refine gd_load (ty := 35) ?_); refine wpList_load_oc HV3.out _ rfl rfl rfl ?_)
    | ((with_reducible refine gd_store (ty := 35) (x := .tmp 2) ?_); refine wpList_store_var HV2.out _ _ rfl rfl rfl rfl rfl ?_; intro W9 hv9 ho9; have HV2 := hd hv9; have HB := hd (off_below HB.out ho9 (by omega)); clear hv9 ho9)
    | ((with_reducible refine gd_load (ty := 23) ?_); refine wpList_load_f1 HV1.out (j := 8) (v := .slice c.O c.no c.co) _ rfl rfl rfl rfl Try.underlying23 rfl ?_)
    | ((with_reducible refine gd_load (ty := 23) ?_); refine wpList_load_f1 HV1.out (j := 9) (v := .slice c.W c.nw c.cw) _ rfl rfl rfl rfl Try.underlying23 rfl ?_))
  refine bodyPost_ret (result_oc2 Try.results37 _ _ HV2.out rfl) rfl ⟨_, rfl, ?_, HB.out⟩
  have hr := (((((OkA.zero w).setK (k := c.k) (ha.hk ▸ ha.hik)).setQ ha.hlq ha.hcq ha.hmq ha.hq ha.hiq).setO ha.hno ha.hco ha.hmo ha.ho ha.hwo).setW ha.hnw ha.hcw ha.hmw ha.hw ha.hww).later HB.out
  have he : fieldsO a = { zeroO with k := c.k, q := a.q, o := a.o, w := a.w } := by
    unfold fieldsO
    simp [ha.hk, HKK.out]
  show OkA _ _ (fieldsO a)
  rw [he]
  exact hr
set_option maxRecDepth 100000 in
set_option maxHeartbeats 4000000 in
theorem bfields_7 (w : World) (c : OC) (a : OpP) (ha : OkA w c a) (hk : c.k = 7) : Calls Try.prog 37 #[.agg c.row] w (NewOB w (fieldsO a, true)) := by
  have k1 : (c.k == 1) = false := by simp [hk]
  have k2 : (c.k == 2) = false := by simp [hk]
  have k3 : (c.k == 3) = false := by simp [hk]
  have k4 : (c.k == 4) = false := by simp [hk]
  have k5 : (c.k == 5) = false := by simp [hk]
  have k6 : (c.k == 6) = false := by simp [hk]
  have k7 : (c.k == 7) = true := by simp [hk]
  have k8 : (c.k == 8) = false := by simp [hk]
  have k9 : (c.k == 9) = false := by simp [hk]
  obtain ⟨W0, hW, hb0, hsz, e1, e2⟩ := two_vars w c
  have HV1 := hd e1
  have HV2 := hd e2
  have HW := hd hW
  have HB := hd hb0
  have HKK := hd hk
  clear hk
  have c0 := e1.ck
  have cq0 := e1.cq
  clear hW hb0 hsz e1 e2
  go_enter Try.func37, Try.ntmps37
  go_upto_region 1 with fail
  rw [HW.out]
  have HN13 := hd (show w.heap.size ≠ W0.heap.size by have := HV1.out.lt; omega)
  have HN23 := hd (show w.heap.size + 1 ≠ W0.heap.size by have := HV2.out.lt; omega)
  have HG3 := hd (show w.heap.size ≤ W0.heap.size from HB.out.size)
  go_wp2_with (first
    | ((with_reducible refine gd_store (ty := 35) (x := .tmp 4) ?_); refine wpList_store_oc (c := (OC.mk c.k c.Q c.lq c.cq none 0 0 0 false none 0 0 none 0 0 none 0 0 none 0 0 none 0 0 none 0 0 false none 0 0 0 none 0 0 0 false none 0 0 0 none 0 0 0)) _ _ rfl rfl rfl rfl rfl rfl rfl ?_; have HV3 := hd (VarO.new W0 (OC.mk c.k c.Q c.lq c.cq none 0 0 0 false none 0 0 none 0 0 none 0 0 none 0 0 none 0 0 none 0 0 false none 0 0 0 none 0 0 0 false none 0 0 0 none 0 0 0)); have hn9 := new_below W0 (.cells (OC.row (OC.mk c.k c.Q c.lq c.cq none 0 0 0 false none 0 0 none 0 0 none 0 0 none 0 0 none 0 0 none 0 0 false none 0 0 0 none 0 0 0 false none 0 0 0 none 0 0 0)) 35); have HV1 := hd (HV1.out.keep hn9); have HV2 := hd (HV2.out.keep hn9); have HB := hd (HB.out.trans (hn9.mono HB.out.size)); clear hn9)
    | ((with_reducible refine gd_store (ty := 3) ?_); refine wpList_store_fld sz_int HV3.out _ _ rfl rfl rfl 3 _ [.int .i64 c.z] (OC.mk c.k c.Q c.lq c.cq none 0 0 c.z false none 0 0 none 0 0 none 0 0 none 0 0 none 0 0 none 0 0 false none 0 0 0 none 0 0 0 false none 0 0 0 none 0 0 0) rfl (by first | rfl | (unfold Act.eval; rfl)) rfl rfl (by intro u hu; simp at hu; rcases hu with rfl | rfl | rfl | rfl | rfl <;> rfl) (Nat.le_of_ble_eq_true rfl) (by kernel_rfl) ?_; intro W9 hv9 ho9; have HV2 := hd (HV2.out.off ho9 HN23.out); have HV1 := hd (HV1.out.off ho9 HN13.out); have HV3 := hd hv9; have HB := hd (off_below HB.out ho9 HG3.out); clear hv9 ho9)
    | ((with_reducible refine gd_store (ty := 24) ?_); refine wpList_store_fld sz_text HV3.out _ _ rfl rfl rfl 10 _ [.slice c.S c.nx c.cx] (OC.mk c.k c.Q c.lq c.cq none 0 0 c.z false none 0 0 none 0 0 none 0 0 none 0 0 none 0 0 c.S c.nx c.cx false none 0 0 0 none 0 0 0 false none 0 0 0 none 0 0 0) rfl (by first | rfl | (unfold Act.eval; rfl)) rfl rfl (by intro u hu; simp at hu; rcases hu with rfl | rfl | rfl | rfl | rfl <;> rfl) (Nat.le_of_ble_eq_true rfl) (by kernel_rfl) ?_; intro W9 hv9 ho9; have HV2 := hd (HV2.out.off ho9 HN23.out); have HV1 := hd (HV1.out.off ho9 HN13.out); have HV3 := hd hv9; have HB := hd (off_below HB.out ho9 HG3.out); clear hv9 ho9)
    | ((with_reducible refine gd_load (ty := 3) ?_); refine wpList_load_f1 HV1.out (j := 0) (v := .int .i64 c.k) _ rfl rfl rfl rfl Try.underlying3 rfl ?_)
    | ((with_reducible refine gd_load (ty := 35) ?_); refine wpList_load_oc HV3.out _ rfl rfl rfl ?_)
    | ((with_reducible refine gd_store (ty := 35) (x := .tmp 2) ?_); refine wpList_store_var HV2.out _ _ rfl rfl rfl rfl rfl ?_; intro W9 hv9 ho9; have HV2 := hd hv9; have HB := hd (off_below HB.out ho9 (by omega)); clear hv9 ho9)
    | ((with_reducible refine gd_load (ty := 3) ?_); refine wpList_load_f1 HV1.out (j := 3) (v := .int .i64 c.z) _ rfl rfl rfl rfl Try.underlying3 rfl ?_)
    | ((with_reducible refine gd_load (ty := 24) ?_); refine wpList_load_f1 HV1.out (j := 10) (v := .slice c.S c.nx c.cx) _ rfl rfl rfl rfl Try.underlying24 rfl ?_))
  refine bodyPost_ret (result_oc2 Try.results37 _ _ HV2.out rfl) rfl ⟨_, rfl, ?_, HB.out⟩
  have hr := (((((OkA.zero w).setK (k := c.k) (ha.hk ▸ ha.hik)).setQ ha.hlq ha.hcq ha.hmq ha.hq ha.hiq).setZ c.z).setX ha.hnx ha.hcx ha.hmx ha.hx).later HB.out
  have he : fieldsO a = { zeroO with k := c.k, q := a.q, z := c.z, x := a.x } := by
    unfold fieldsO
    simp [ha.hk, HKK.out, ha.hz]
  show OkA _ _ (fieldsO a)
  rw [he]
  exact hr
set_option maxRecDepth 100000 in
set_option maxHeartbeats 4000000 in
theorem bfields_8 (w : World) (c : OC) (a : OpP) (ha : OkA w c a) (hk : c.k = 8) : Calls Try.prog 37 #[.agg c.row] w (NewOB w (fieldsO a, true)) := by
  have k1 : (c.k == 1) = false := by simp [hk]
  have k2 : (c.k == 2) = false := by simp [hk]
  have k3 : (c.k == 3) = false := by simp [hk]
  have k4 : (c.k == 4) = false := by simp [hk]
  have k5 : (c.k == 5) = false := by simp [hk]
  have k6 : (c.k == 6) = false := by simp [hk]
  have k7 : (c.k == 7) = false := by simp [hk]
  have k8 : (c.k == 8) = true := by simp [hk]
  have k9 : (c.k == 9) = false := by simp [hk]
  obtain ⟨W0, hW, hb0, hsz, e1, e2⟩ := two_vars w c
  have HV1 := hd e1
  have HV2 := hd e2
  have HW := hd hW
  have HB := hd hb0
  have HKK := hd hk
  clear hk
  have c0 := e1.ck
  have cq0 := e1.cq
  clear hW hb0 hsz e1 e2
  go_enter Try.func37, Try.ntmps37
  go_upto_region 1 with fail
  rw [HW.out]
  have HN13 := hd (show w.heap.size ≠ W0.heap.size by have := HV1.out.lt; omega)
  have HN23 := hd (show w.heap.size + 1 ≠ W0.heap.size by have := HV2.out.lt; omega)
  have HG3 := hd (show w.heap.size ≤ W0.heap.size from HB.out.size)
  go_wp2_with (first
    | ((with_reducible refine gd_store (ty := 35) (x := .tmp 4) ?_); refine wpList_store_oc (c := (OC.mk c.k c.Q c.lq c.cq none 0 0 0 false none 0 0 none 0 0 none 0 0 none 0 0 none 0 0 none 0 0 false none 0 0 0 none 0 0 0 false none 0 0 0 none 0 0 0)) _ _ rfl rfl rfl rfl rfl rfl rfl ?_; have HV3 := hd (VarO.new W0 (OC.mk c.k c.Q c.lq c.cq none 0 0 0 false none 0 0 none 0 0 none 0 0 none 0 0 none 0 0 none 0 0 false none 0 0 0 none 0 0 0 false none 0 0 0 none 0 0 0)); have hn9 := new_below W0 (.cells (OC.row (OC.mk c.k c.Q c.lq c.cq none 0 0 0 false none 0 0 none 0 0 none 0 0 none 0 0 none 0 0 none 0 0 false none 0 0 0 none 0 0 0 false none 0 0 0 none 0 0 0)) 35); have HV1 := hd (HV1.out.keep hn9); have HV2 := hd (HV2.out.keep hn9); have HB := hd (HB.out.trans (hn9.mono HB.out.size)); clear hn9)
    | ((with_reducible refine gd_store (ty := 3) ?_); refine wpList_store_fld sz_int HV3.out _ _ rfl rfl rfl 3 _ [.int .i64 c.z] (OC.mk c.k c.Q c.lq c.cq none 0 0 c.z false none 0 0 none 0 0 none 0 0 none 0 0 none 0 0 none 0 0 false none 0 0 0 none 0 0 0 false none 0 0 0 none 0 0 0) rfl (by first | rfl | (unfold Act.eval; rfl)) rfl rfl (by intro u hu; simp at hu; rcases hu with rfl | rfl | rfl | rfl | rfl <;> rfl) (Nat.le_of_ble_eq_true rfl) (by kernel_rfl) ?_; intro W9 hv9 ho9; have HV2 := hd (HV2.out.off ho9 HN23.out); have HV1 := hd (HV1.out.off ho9 HN13.out); have HV3 := hd hv9; have HB := hd (off_below HB.out ho9 HG3.out); clear hv9 ho9)
    | ((with_reducible refine gd_store (ty := 24) ?_); refine wpList_store_fld sz_text HV3.out _ _ rfl rfl rfl 10 _ [.slice c.S c.nx c.cx] (OC.mk c.k c.Q c.lq c.cq none 0 0 c.z false none 0 0 none 0 0 none 0 0 none 0 0 none 0 0 c.S c.nx c.cx false none 0 0 0 none 0 0 0 false none 0 0 0 none 0 0 0) rfl (by first | rfl | (unfold Act.eval; rfl)) rfl rfl (by intro u hu; simp at hu; rcases hu with rfl | rfl | rfl | rfl | rfl <;> rfl) (Nat.le_of_ble_eq_true rfl) (by kernel_rfl) ?_; intro W9 hv9 ho9; have HV2 := hd (HV2.out.off ho9 HN23.out); have HV1 := hd (HV1.out.off ho9 HN13.out); have HV3 := hd hv9; have HB := hd (off_below HB.out ho9 HG3.out); clear hv9 ho9)
    | ((with_reducible refine gd_load (ty := 3) ?_); refine wpList_load_f1 HV1.out (j := 0) (v := .int .i64 c.k) _ rfl rfl rfl rfl Try.underlying3 rfl ?_)
    | ((with_reducible refine gd_load (ty := 35) ?_); refine wpList_load_oc HV3.out _ rfl rfl rfl ?_)
    | ((with_reducible refine gd_store (ty := 35) (x := .tmp 2) ?_); refine wpList_store_var HV2.out _ _ rfl rfl rfl rfl rfl ?_; intro W9 hv9 ho9; have HV2 := hd hv9; have HB := hd (off_below HB.out ho9 (by omega)); clear hv9 ho9)
    | ((with_reducible refine gd_load (ty := 3) ?_); refine wpList_load_f1 HV1.out (j := 3) (v := .int .i64 c.z) _ rfl rfl rfl rfl Try.underlying3 rfl ?_)
    | ((with_reducible refine gd_load (ty := 24) ?_); refine wpList_load_f1 HV1.out (j := 10) (v := .slice c.S c.nx c.cx) _ rfl rfl rfl rfl Try.underlying24 rfl ?_))
  refine bodyPost_ret (result_oc2 Try.results37 _ _ HV2.out rfl) rfl ⟨_, rfl, ?_, HB.out⟩
  have hr := (((((OkA.zero w).setK (k := c.k) (ha.hk ▸ ha.hik)).setQ ha.hlq ha.hcq ha.hmq ha.hq ha.hiq).setZ c.z).setX ha.hnx ha.hcx ha.hmx ha.hx).later HB.out
  have he : fieldsO a = { zeroO with k := c.k, q := a.q, z := c.z, x := a.x } := by
    unfold fieldsO
    simp [ha.hk, HKK.out, ha.hz]
  show OkA _ _ (fieldsO a)
  rw [he]
  exact hr
set_option maxRecDepth 100000 in
set_option maxHeartbeats 4000000 in
theorem bfields_9 (w : World) (c : OC) (a : OpP) (ha : OkA w c a) (hk : c.k = 9) : Calls Try.prog 37 #[.agg c.row] w (NewOB w (fieldsO a, true)) := by
  have k1 : (c.k == 1) = false := by simp [hk]
  have k2 : (c.k == 2) = false := by simp [hk]
  have k3 : (c.k == 3) = false := by simp [hk]
  have k4 : (c.k == 4) = false := by simp [hk]
  have k5 : (c.k == 5) = false := by simp [hk]
  have k6 : (c.k == 6) = false := by simp [hk]
  have k7 : (c.k == 7) = false := by simp [hk]
  have k8 : (c.k == 8) = false := by simp [hk]
  have k9 : (c.k == 9) = true := by simp [hk]
  obtain ⟨W0, hW, hb0, hsz, e1, e2⟩ := two_vars w c
  have HV1 := hd e1
  have HV2 := hd e2
  have HW := hd hW
  have HB := hd hb0
  have HKK := hd hk
  clear hk
  have c0 := e1.ck
  have cq0 := e1.cq
  clear hW hb0 hsz e1 e2
  go_enter Try.func37, Try.ntmps37
  go_upto_region 1 with fail
  rw [HW.out]
  have HN13 := hd (show w.heap.size ≠ W0.heap.size by have := HV1.out.lt; omega)
  have HN23 := hd (show w.heap.size + 1 ≠ W0.heap.size by have := HV2.out.lt; omega)
  have HG3 := hd (show w.heap.size ≤ W0.heap.size from HB.out.size)
  go_wp2_with (first
    | ((with_reducible refine gd_store (ty := 35) (x := .tmp 4) ?_); refine wpList_store_oc (c := (OC.mk c.k c.Q c.lq c.cq none 0 0 0 false none 0 0 none 0 0 none 0 0 none 0 0 none 0 0 none 0 0 false none 0 0 0 none 0 0 0 false none 0 0 0 none 0 0 0)) _ _ rfl rfl rfl rfl rfl rfl rfl ?_; have HV3 := hd (VarO.new W0 (OC.mk c.k c.Q c.lq c.cq none 0 0 0 false none 0 0 none 0 0 none 0 0 none 0 0 none 0 0 none 0 0 false none 0 0 0 none 0 0 0 false none 0 0 0 none 0 0 0)); have hn9 := new_below W0 (.cells (OC.row (OC.mk c.k c.Q c.lq c.cq none 0 0 0 false none 0 0 none 0 0 none 0 0 none 0 0 none 0 0 none 0 0 false none 0 0 0 none 0 0 0 false none 0 0 0 none 0 0 0)) 35); have HV1 := hd (HV1.out.keep hn9); have HV2 := hd (HV2.out.keep hn9); have HB := hd (HB.out.trans (hn9.mono HB.out.size)); clear hn9)
    | ((with_reducible refine gd_store (ty := 22) ?_); refine wpList_store_fld sz_path HV3.out _ _ rfl rfl rfl 1 _ [.slice none 0 0] (OC.mk c.k none 0 0 none 0 0 0 false none 0 0 none 0 0 none 0 0 none 0 0 none 0 0 none 0 0 false none 0 0 0 none 0 0 0 false none 0 0 0 none 0 0 0) rfl (by first | rfl | (unfold Act.eval; rfl)) rfl rfl (by intro u hu; simp at hu; rcases hu with rfl | rfl | rfl | rfl | rfl <;> rfl) (Nat.le_of_ble_eq_true rfl) (by kernel_rfl) ?_; intro W9 hv9 ho9; have HV2 := hd (HV2.out.off ho9 HN23.out); have HV1 := hd (HV1.out.off ho9 HN13.out); have HV3 := hd hv9; have HB := hd (off_below HB.out ho9 HG3.out); clear hv9 ho9)
    | ((with_reducible refine gd_store (ty := 33) ?_); refine wpList_store_fld sz_sel HV3.out _ _ rfl rfl rfl 11 _ [.bool c.fi, .slice c.F1 c.f1 c.d1, .int .i64 c.fo, .slice c.F2 c.f2 c.d2, .int .i64 c.fp] (OC.mk c.k none 0 0 none 0 0 0 false none 0 0 none 0 0 none 0 0 none 0 0 none 0 0 none 0 0 c.fi c.F1 c.f1 c.d1 c.fo c.F2 c.f2 c.d2 c.fp false none 0 0 0 none 0 0 0) rfl (by first | rfl | (unfold Act.eval; rfl)) rfl rfl (by intro u hu; simp at hu; rcases hu with rfl | rfl | rfl | rfl | rfl <;> rfl) (Nat.le_of_ble_eq_true rfl) (by kernel_rfl) ?_; intro W9 hv9 ho9; have HV2 := hd (HV2.out.off ho9 HN23.out); have HV1 := hd (HV1.out.off ho9 HN13.out); have HV3 := hd hv9; have HB := hd (off_below HB.out ho9 HG3.out); clear hv9 ho9)
    | ((with_reducible refine gd_store (ty := 33) ?_); refine wpList_store_fld sz_sel HV3.out _ _ rfl rfl rfl 16 _ [.bool c.gi, .slice c.G1 c.g1 c.e1, .int .i64 c.go, .slice c.G2 c.g2 c.e2, .int .i64 c.gp] (OC.mk c.k none 0 0 none 0 0 0 false none 0 0 none 0 0 none 0 0 none 0 0 none 0 0 none 0 0 c.fi c.F1 c.f1 c.d1 c.fo c.F2 c.f2 c.d2 c.fp c.gi c.G1 c.g1 c.e1 c.go c.G2 c.g2 c.e2 c.gp) rfl (by first | rfl | (unfold Act.eval; rfl)) rfl rfl (by intro u hu; simp at hu; rcases hu with rfl | rfl | rfl | rfl | rfl <;> rfl) (Nat.le_of_ble_eq_true rfl) (by kernel_rfl) ?_; intro W9 hv9 ho9; have HV2 := hd (HV2.out.off ho9 HN23.out); have HV1 := hd (HV1.out.off ho9 HN13.out); have HV3 := hd hv9; have HB := hd (off_below HB.out ho9 HG3.out); clear hv9 ho9)
    | ((with_reducible refine gd_load (ty := 3) ?_); refine wpList_load_f1 HV1.out (j := 0) (v := .int .i64 c.k) _ rfl rfl rfl rfl Try.underlying3 rfl ?_)
    | ((with_reducible refine gd_load (ty := 35) ?_); refine wpList_load_oc HV3.out _ rfl rfl rfl ?_)
    | ((with_reducible refine gd_store (ty := 35) (x := .tmp 2) ?_); refine wpList_store_var HV2.out _ _ rfl rfl rfl rfl rfl ?_; intro W9 hv9 ho9; have HV2 := hd hv9; have HB := hd (off_below HB.out ho9 (by omega)); clear hv9 ho9)
    | ((with_reducible refine gd_load (ty := 33) ?_); refine wpList_load_fn HV1.out (j := 11) (vs := [.bool c.fi, .slice c.F1 c.f1 c.d1, .int .i64 c.fo, .slice c.F2 c.f2 c.d2, .int .i64 c.fp]) row_sel _ rfl rfl rfl (by kernel_rfl) ?_)
    | ((with_reducible refine gd_load (ty := 33) ?_); refine wpList_load_fn HV1.out (j := 16) (vs := [.bool c.gi, .slice c.G1 c.g1 c.e1, .int .i64 c.go, .slice c.G2 c.g2 c.e2, .int .i64 c.gp]) row_sel _ rfl rfl rfl (by kernel_rfl) ?_))
  refine bodyPost_ret (result_oc2 Try.results37 _ _ HV2.out rfl) rfl ⟨_, rfl, ?_, HB.out⟩
  have hr := ((((OkA.zero w).setK (k := c.k) (ha.hk ▸ ha.hik)).setF ha.hf).setG ha.hg).later HB.out
  have he : fieldsO a = { zeroO with k := c.k, f := a.f, g := a.g } := by
    unfold fieldsO
    simp [ha.hk, HKK.out]
  show OkA _ _ (fieldsO a)
  rw [he]
  exact hr
set_option maxRecDepth 100000 in
set_option maxHeartbeats 4000000 in
theorem bfields_0 (w : World) (c : OC) (a : OpP) (ha : OkA w c a) (hk : ¬ (1 ≤ c.k ∧ c.k ≤ 9)) : Calls Try.prog 37 #[.agg c.row] w (NewOB w (fieldsO a, false)) := by
  have k1 : (c.k == 1) = false := by simp; omega
  have k2 : (c.k == 2) = false := by simp; omega
  have k3 : (c.k == 3) = false := by simp; omega
  have k4 : (c.k == 4) = false := by simp; omega
  have k5 : (c.k == 5) = false := by simp; omega
  have k6 : (c.k == 6) = false := by simp; omega
  have k7 : (c.k == 7) = false := by simp; omega
  have k8 : (c.k == 8) = false := by simp; omega
  have k9 : (c.k == 9) = false := by simp; omega
  obtain ⟨W0, hW, hb0, hsz, e1, e2⟩ := two_vars w c
  have HV1 := hd e1
  have HV2 := hd e2
  have HW := hd hW
  have HB := hd hb0
  have HKK := hd hk
  clear hk
  have c0 := e1.ck
  have cq0 := e1.cq
  clear hW hb0 hsz e1 e2
  go_enter Try.func37, Try.ntmps37
  go_upto_region 1 with fail
  rw [HW.out]
  have HN13 := hd (show w.heap.size ≠ W0.heap.size by have := HV1.out.lt; omega)
  have HN23 := hd (show w.heap.size + 1 ≠ W0.heap.size by have := HV2.out.lt; omega)
  have HG3 := hd (show w.heap.size ≤ W0.heap.size from HB.out.size)
  go_wp2_with (first
    | ((with_reducible refine gd_store (ty := 35) (x := .tmp 4) ?_); refine wpList_store_oc (c := (OC.mk c.k c.Q c.lq c.cq none 0 0 0 false none 0 0 none 0 0 none 0 0 none 0 0 none 0 0 none 0 0 false none 0 0 0 none 0 0 0 false none 0 0 0 none 0 0 0)) _ _ rfl rfl rfl rfl rfl rfl rfl ?_; have HV3 := hd (VarO.new W0 (OC.mk c.k c.Q c.lq c.cq none 0 0 0 false none 0 0 none 0 0 none 0 0 none 0 0 none 0 0 none 0 0 false none 0 0 0 none 0 0 0 false none 0 0 0 none 0 0 0)); have hn9 := new_below W0 (.cells (OC.row (OC.mk c.k c.Q c.lq c.cq none 0 0 0 false none 0 0 none 0 0 none 0 0 none 0 0 none 0 0 none 0 0 false none 0 0 0 none 0 0 0 false none 0 0 0 none 0 0 0)) 35); have HV1 := hd (HV1.out.keep hn9); have HV2 := hd (HV2.out.keep hn9); have HB := hd (HB.out.trans (hn9.mono HB.out.size)); clear hn9)
    | ((with_reducible refine gd_load (ty := 3) ?_); refine wpList_load_f1 HV1.out (j := 0) (v := .int .i64 c.k) _ rfl rfl rfl rfl Try.underlying3 rfl ?_)
    | ((with_reducible refine gd_load (ty := 35) ?_); refine wpList_load_oc HV3.out _ rfl rfl rfl ?_)
    | ((with_reducible refine gd_store (ty := 35) (x := .tmp 2) ?_); refine wpList_store_var HV2.out _ _ rfl rfl rfl rfl rfl ?_; intro W9 hv9 ho9; have HV2 := hd hv9; have HB := hd (off_below HB.out ho9 (by omega)); clear hv9 ho9))
  refine bodyPost_ret (result_oc2 Try.results37 _ _ HV2.out rfl) rfl ⟨_, rfl, ?_, HB.out⟩
  have hr := (((OkA.zero w).setK (k := c.k) (ha.hk ▸ ha.hik)).setQ ha.hlq ha.hcq ha.hmq ha.hq ha.hiq).later HB.out
  have he : fieldsO a = { zeroO with k := c.k, q := a.q } := by
    unfold fieldsO
    have hk := HKK.out
    rw [ha.hk, if_neg (by omega), if_neg (by omega), if_neg (by omega), if_neg (by omega), if_neg (by omega), if_neg (by omega), if_neg (by omega), if_neg (by omega), if_neg (by omega)]
  show OkA _ _ (fieldsO a)
  rw [he]
  exact hr
set_option maxRecDepth 4000 in
theorem fields_any (w : World) (c : OC) (a : OpP) (ha : OkA w c a) : Calls Try.prog 37 #[.agg c.row] w (NewOB w (fieldsO a, kindB a.k)) := by
  by_cases h : 1 ≤ c.k ∧ c.k ≤ 9
  · rcases kinds h.1 h.2 with h | h | h | h | h | h | h | h | h
    · have hx := bfields_1 w c a ha h; rwa [show kindB a.k = true by rw [ha.hk, h]; rfl]
    · have hx := bfields_2 w c a ha h; rwa [show kindB a.k = true by rw [ha.hk, h]; rfl]
    · have hx := bfields_3 w c a ha h; rwa [show kindB a.k = true by rw [ha.hk, h]; rfl]
    · have hx := bfields_4 w c a ha h; rwa [show kindB a.k = true by rw [ha.hk, h]; rfl]
    · have hx := bfields_5 w c a ha h; rwa [show kindB a.k = true by rw [ha.hk, h]; rfl]
    · have hx := bfields_6 w c a ha h; rwa [show kindB a.k = true by rw [ha.hk, h]; rfl]
    · have hx := bfields_7 w c a ha h; rwa [show kindB a.k = true by rw [ha.hk, h]; rfl]
    · have hx := bfields_8 w c a ha h; rwa [show kindB a.k = true by rw [ha.hk, h]; rfl]
    · have hx := bfields_9 w c a ha h; rwa [show kindB a.k = true by rw [ha.hk, h]; rfl]
  · have hx := bfields_0 w c a ha h; rwa [show kindB a.k = false by rw [ha.hk]; unfold kindB; cases h1 : decide (1 ≤ c.k); rfl; cases h2 : decide (c.k ≤ 9); rfl; exact absurd ⟨of_decide_eq_true h1, of_decide_eq_true h2⟩ h]

end Go.Proofs.Ytdjajpookmmafaa
