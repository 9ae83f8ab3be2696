/- The document's Inverse. -/
import Derived.Test.YtdjajpookmmafaaBInv
namespace Go.Proofs.Ytdjajpookmmafaa
open Go.RowKit

theorem OkA.setZ' {w : World} {c : OC} {o : OpP} (h : OkA w c o) {z z' : Int} (hz : z' = z) : OkA w { c with z := z } { o with z := z' } := { h with hz := hz }
set_option maxRecDepth 4000 in
theorem flip3 {a : OpP} (he : formE a = 0) (hk : a.k = 3) (p : List Int) : ({ a with k := 4, q := p, o := a.w, w := a.o } : OpP) = { zeroO with k := 4, q := p, z := a.z, w := a.o } := by
  have h := (form_eq he).2
  obtain ⟨k, q, t, z, n, o, w, x, f, g⟩ := a
  simp only at hk
  subst hk
  simp [fieldsO, zeroO] at h ⊢
  simp only [@eq_comm _ zeroS, @eq_comm _ zeroT] at h
  simp [h]
set_option maxRecDepth 4000 in
theorem flip4 {a : OpP} (he : formE a = 0) (hk : a.k = 4) (p : List Int) : ({ a with k := 3, q := p, o := a.w, w := a.o } : OpP) = { zeroO with k := 3, q := p, z := a.z, o := a.w } := by
  have h := (form_eq he).2
  obtain ⟨k, q, t, z, n, o, w, x, f, g⟩ := a
  simp only at hk
  subst hk
  simp [fieldsO, zeroO] at h ⊢
  simp only [@eq_comm _ zeroS, @eq_comm _ zeroT] at h
  simp [h]
set_option maxRecDepth 100000 in
set_option maxHeartbeats 4000000 in
theorem brinv_bad (w : World) (c : OC) (a : OpP) (ha : OkA w c a) (ta : Tiny a) (he : formE a = 1) : Calls Try.prog 12 #[.agg c.row] w (NewOE w (zeroO, 1)) := by
  obtain ⟨W0, hW, hb0, hsz, e1, e2⟩ := two_vars w c
  have HV1 := hd e1
  have HV2 := hd e2
  have HW := hd hW
  have HB := hd hb0
  have HH := hd ha
  have HTA := hd ta
  have hlq : c.lq ≤ 1000 := by have := ta.hq; have := ha.hlq; omega
  have HE := hd he
  clear hW hb0 e1 e2 ha ta hsz he
  go_enter Try.func12, Try.ntmps12
  go_upto_region 1 with fail
  rw [HW.out]
  go_wp2_with (first
    | ((with_reducible refine gd_load (ty := 35) (x := .tmp 1) ?_); refine wpList_load_oc (by first | exact HI.out.v1 | exact HV1.out) _ rfl rfl rfl ?_)
    | (go_at_call 15; refine (rform_at (HH.out.later HB.out) HTA.out HE.out).mono ?_; rintro e w4 ⟨rfl, b4⟩; have HLO := hd (show w.heap.size + 1 < w4.heap.size from Nat.lt_of_lt_of_le HV2.out.lt b4.size); have HV1 := hd (HV1.out.keep b4); have HV2 := hd (HV2.out.keep b4); have HB := hd (step_b HB.out b4); clear b4)
    | ((with_reducible refine gd_store (ty := 35) (x := .tmp 2) ?_); refine wpList_store_var (c := OC.zero) HV2.out _ _ rfl rfl rfl rfl rfl ?_; intro W9 hv9 ho9; have HV2 := hd hv9; have HB := hd (off_below HB.out ho9 (Nat.le_succ _)); clear hv9 ho9))
  refine bodyPost_ret (result_oc2 Try.results12 _ _ HV2.out rfl) rfl ⟨OC.zero, rfl, OkA.zero _, HB.out⟩
set_option maxRecDepth 100000 in
set_option maxHeartbeats 4000000 in
theorem brinv_1 (w : World) (c : OC) (a : OpP) (ha : OkA w c a) (ta : Tiny a) (he : formE a = 0) (hk : c.k = 1) : Calls Try.prog 12 #[.agg c.row] w (NewOE w ({ a with k := 2 }, 0)) := by
  have k1 : (c.k == 1) = true := by simp [hk]
  have k2 : (c.k == 2) = false := by simp [hk]
  have k3 : (c.k == 3) = false := by simp [hk]
  have k4 : (c.k == 4) = false := by simp [hk]
  have k5 : (c.k == 5) = false := by simp [hk]
  have k6 : (c.k == 6) = false := by simp [hk]
  have k7 : (c.k == 7) = false := by simp [hk]
  have k8 : (c.k == 8) = false := by simp [hk]
  have k9 : (c.k == 9) = false := by simp [hk]
  have HKK := hd hk
  clear hk
  obtain ⟨W0, hW, hb0, hsz, e1, e2⟩ := two_vars w c
  have HV1 := hd e1
  have HV2 := hd e2
  have HW := hd hW
  have HB := hd hb0
  have HH := hd ha
  have HTA := hd ta
  have hlq : c.lq ≤ 1000 := by have := ta.hq; have := ha.hlq; omega
  have HE := hd he
  clear hW hb0 e1 e2 ha ta hsz he
  go_enter Try.func12, Try.ntmps12
  go_upto_region 1 with fail
  rw [HW.out]
  go_wp2_with (first
    | ((with_reducible refine gd_load (ty := 35) (x := .tmp 1) ?_); refine wpList_load_oc (by first | exact HI.out.v1 | exact HV1.out) _ rfl rfl rfl ?_)
    | (go_at_call 15; refine (rform_at (HH.out.later HB.out) HTA.out HE.out).mono ?_; rintro e w4 ⟨rfl, b4⟩; have HLO := hd (show w.heap.size + 1 < w4.heap.size from Nat.lt_of_lt_of_le HV2.out.lt b4.size); have HV1 := hd (HV1.out.keep b4); have HV2 := hd (HV2.out.keep b4); have HB := hd (step_b HB.out b4); clear b4)
    | ((with_reducible refine gd_store (ty := 35) (x := .tmp 5) ?_); refine wpList_store_oc (c := c) _ _ rfl rfl rfl rfl rfl rfl rfl ?_; have HI := hd (InvSt.made (w5 := w4) (cx := c) HV1.out HV2.out HB.out HLO.out (Nat.le_refl _)))
    | ((with_reducible refine gd_load (ty := 3) ?_); refine wpList_load_f1 HI.out.v1 (j := 0) (v := .int .i64 c.k) _ rfl rfl rfl rfl Try.underlying3 rfl ?_)
    | ((with_reducible refine gd_load (ty := 35) (x := .tmp 5) ?_); refine wpList_load_oc HI.out.v3 _ rfl rfl rfl ?_)
    | ((with_reducible refine gd_store (ty := 35) (x := .tmp 2) ?_); refine wpList_store_var HI.out.v2 _ _ rfl rfl rfl rfl rfl ?_; intro W9 hv9 ho9; have HV2 := hd hv9; have HT := hd (HI.out.told ho9); have HOF := hd ho9; clear hv9 ho9)
    | ((with_reducible refine gd_store (ty := 3) (x := .tmp 21) ?_); refine wpList_store_fld sz_int HI.out.v3 _ _ rfl rfl rfl 0 _ [.int .i64 2] { c with k := 2 } rfl rfl rfl rfl (by intro u hu; simp at hu; rcases hu with rfl | rfl | rfl | rfl | rfl <;> rfl) (Nat.le_of_ble_eq_true rfl) (by kernel_rfl) ?_; intro W9 hv9 ho9; have HI2 := hd (HI.out.put hv9 ho9); have HI := hd HI2.out; clear HI2 hv9 ho9))
  refine bodyPost_ret (result_oc2 Try.results12 _ _ HV2.out rfl) rfl ⟨{ c with k := 2 }, rfl, ?_, HT.out.1⟩
  have h := HH.out.later HT.out.1
  exact h.setK (by unfold In64; omega)
set_option maxRecDepth 100000 in
set_option maxHeartbeats 4000000 in
theorem brinv_2 (w : World) (c : OC) (a : OpP) (ha : OkA w c a) (ta : Tiny a) (he : formE a = 0) (hk : c.k = 2) : Calls Try.prog 12 #[.agg c.row] w (NewOE w ({ a with k := 1 }, 0)) := by
  have k1 : (c.k == 1) = false := by simp [hk]
  have k2 : (c.k == 2) = true := by simp [hk]
  have k3 : (c.k == 3) = false := by simp [hk]
  have k4 : (c.k == 4) = false := by simp [hk]
  have k5 : (c.k == 5) = false := by simp [hk]
  have k6 : (c.k == 6) = false := by simp [hk]
  have k7 : (c.k == 7) = false := by simp [hk]
  have k8 : (c.k == 8) = false := by simp [hk]
  have k9 : (c.k == 9) = false := by simp [hk]
  have HKK := hd hk
  clear hk
  obtain ⟨W0, hW, hb0, hsz, e1, e2⟩ := two_vars w c
  have HV1 := hd e1
  have HV2 := hd e2
  have HW := hd hW
  have HB := hd hb0
  have HH := hd ha
  have HTA := hd ta
  have hlq : c.lq ≤ 1000 := by have := ta.hq; have := ha.hlq; omega
  have HE := hd he
  clear hW hb0 e1 e2 ha ta hsz he
  go_enter Try.func12, Try.ntmps12
  go_upto_region 1 with fail
  rw [HW.out]
  go_wp2_with (first
    | ((with_reducible refine gd_load (ty := 35) (x := .tmp 1) ?_); refine wpList_load_oc (by first | exact HI.out.v1 | exact HV1.out) _ rfl rfl rfl ?_)
    | (go_at_call 15; refine (rform_at (HH.out.later HB.out) HTA.out HE.out).mono ?_; rintro e w4 ⟨rfl, b4⟩; have HLO := hd (show w.heap.size + 1 < w4.heap.size from Nat.lt_of_lt_of_le HV2.out.lt b4.size); have HV1 := hd (HV1.out.keep b4); have HV2 := hd (HV2.out.keep b4); have HB := hd (step_b HB.out b4); clear b4)
    | ((with_reducible refine gd_store (ty := 35) (x := .tmp 5) ?_); refine wpList_store_oc (c := c) _ _ rfl rfl rfl rfl rfl rfl rfl ?_; have HI := hd (InvSt.made (w5 := w4) (cx := c) HV1.out HV2.out HB.out HLO.out (Nat.le_refl _)))
    | ((with_reducible refine gd_load (ty := 3) ?_); refine wpList_load_f1 HI.out.v1 (j := 0) (v := .int .i64 c.k) _ rfl rfl rfl rfl Try.underlying3 rfl ?_)
    | ((with_reducible refine gd_load (ty := 35) (x := .tmp 5) ?_); refine wpList_load_oc HI.out.v3 _ rfl rfl rfl ?_)
    | ((with_reducible refine gd_store (ty := 35) (x := .tmp 2) ?_); refine wpList_store_var HI.out.v2 _ _ rfl rfl rfl rfl rfl ?_; intro W9 hv9 ho9; have HV2 := hd hv9; have HT := hd (HI.out.told ho9); have HOF := hd ho9; clear hv9 ho9)
    | ((with_reducible refine gd_store (ty := 3) (x := .tmp 24) ?_); refine wpList_store_fld sz_int HI.out.v3 _ _ rfl rfl rfl 0 _ [.int .i64 1] { c with k := 1 } rfl rfl rfl rfl (by intro u hu; simp at hu; rcases hu with rfl | rfl | rfl | rfl | rfl <;> rfl) (Nat.le_of_ble_eq_true rfl) (by kernel_rfl) ?_; intro W9 hv9 ho9; have HI2 := hd (HI.out.put hv9 ho9); have HI := hd HI2.out; clear HI2 hv9 ho9))
  refine bodyPost_ret (result_oc2 Try.results12 _ _ HV2.out rfl) rfl ⟨{ c with k := 1 }, rfl, ?_, HT.out.1⟩
  have h := HH.out.later HT.out.1
  exact h.setK (by unfold In64; omega)
set_option maxRecDepth 100000 in
set_option maxHeartbeats 4000000 in
theorem brinv_7 (w : World) (c : OC) (a : OpP) (ha : OkA w c a) (ta : Tiny a) (he : formE a = 0) (hk : c.k = 7) : Calls Try.prog 12 #[.agg c.row] w (NewOE w ({ a with k := 8 }, 0)) := by
  have k1 : (c.k == 1) = false := by simp [hk]
  have k2 : (c.k == 2) = false := by simp [hk]
  have k3 : (c.k == 3) = false := by simp [hk]
  have k4 : (c.k == 4) = false := by simp [hk]
  have k5 : (c.k == 5) = false := by simp [hk]
  have k6 : (c.k == 6) = false := by simp [hk]
  have k7 : (c.k == 7) = true := by simp [hk]
  have k8 : (c.k == 8) = false := by simp [hk]
  have k9 : (c.k == 9) = false := by simp [hk]
  have HKK := hd hk
  clear hk
  obtain ⟨W0, hW, hb0, hsz, e1, e2⟩ := two_vars w c
  have HV1 := hd e1
  have HV2 := hd e2
  have HW := hd hW
  have HB := hd hb0
  have HH := hd ha
  have HTA := hd ta
  have hlq : c.lq ≤ 1000 := by have := ta.hq; have := ha.hlq; omega
  have HE := hd he
  clear hW hb0 e1 e2 ha ta hsz he
  go_enter Try.func12, Try.ntmps12
  go_upto_region 1 with fail
  rw [HW.out]
  go_wp2_with (first
    | ((with_reducible refine gd_load (ty := 35) (x := .tmp 1) ?_); refine wpList_load_oc (by first | exact HI.out.v1 | exact HV1.out) _ rfl rfl rfl ?_)
    | (go_at_call 15; refine (rform_at (HH.out.later HB.out) HTA.out HE.out).mono ?_; rintro e w4 ⟨rfl, b4⟩; have HLO := hd (show w.heap.size + 1 < w4.heap.size from Nat.lt_of_lt_of_le HV2.out.lt b4.size); have HV1 := hd (HV1.out.keep b4); have HV2 := hd (HV2.out.keep b4); have HB := hd (step_b HB.out b4); clear b4)
    | ((with_reducible refine gd_store (ty := 35) (x := .tmp 5) ?_); refine wpList_store_oc (c := c) _ _ rfl rfl rfl rfl rfl rfl rfl ?_; have HI := hd (InvSt.made (w5 := w4) (cx := c) HV1.out HV2.out HB.out HLO.out (Nat.le_refl _)))
    | ((with_reducible refine gd_load (ty := 3) ?_); refine wpList_load_f1 HI.out.v1 (j := 0) (v := .int .i64 c.k) _ rfl rfl rfl rfl Try.underlying3 rfl ?_)
    | ((with_reducible refine gd_load (ty := 35) (x := .tmp 5) ?_); refine wpList_load_oc HI.out.v3 _ rfl rfl rfl ?_)
    | ((with_reducible refine gd_store (ty := 35) (x := .tmp 2) ?_); refine wpList_store_var HI.out.v2 _ _ rfl rfl rfl rfl rfl ?_; intro W9 hv9 ho9; have HV2 := hd hv9; have HT := hd (HI.out.told ho9); have HOF := hd ho9; clear hv9 ho9)
    | ((with_reducible refine gd_store (ty := 3) (x := .tmp 79) ?_); refine wpList_store_fld sz_int HI.out.v3 _ _ rfl rfl rfl 0 _ [.int .i64 8] { c with k := 8 } rfl rfl rfl rfl (by intro u hu; simp at hu; rcases hu with rfl | rfl | rfl | rfl | rfl <;> rfl) (Nat.le_of_ble_eq_true rfl) (by kernel_rfl) ?_; intro W9 hv9 ho9; have HI2 := hd (HI.out.put hv9 ho9); have HI := hd HI2.out; clear HI2 hv9 ho9))
  refine bodyPost_ret (result_oc2 Try.results12 _ _ HV2.out rfl) rfl ⟨{ c with k := 8 }, rfl, ?_, HT.out.1⟩
  have h := HH.out.later HT.out.1
  exact h.setK (by unfold In64; omega)
set_option maxRecDepth 100000 in
set_option maxHeartbeats 4000000 in
theorem brinv_8 (w : World) (c : OC) (a : OpP) (ha : OkA w c a) (ta : Tiny a) (he : formE a = 0) (hk : c.k = 8) : Calls Try.prog 12 #[.agg c.row] w (NewOE w ({ a with k := 7 }, 0)) := by
  have k1 : (c.k == 1) = false := by simp [hk]
  have k2 : (c.k == 2) = false := by simp [hk]
  have k3 : (c.k == 3) = false := by simp [hk]
  have k4 : (c.k == 4) = false := by simp [hk]
  have k5 : (c.k == 5) = false := by simp [hk]
  have k6 : (c.k == 6) = false := by simp [hk]
  have k7 : (c.k == 7) = false := by simp [hk]
  have k8 : (c.k == 8) = true := by simp [hk]
  have k9 : (c.k == 9) = false := by simp [hk]
  have HKK := hd hk
  clear hk
  obtain ⟨W0, hW, hb0, hsz, e1, e2⟩ := two_vars w c
  have HV1 := hd e1
  have HV2 := hd e2
  have HW := hd hW
  have HB := hd hb0
  have HH := hd ha
  have HTA := hd ta
  have hlq : c.lq ≤ 1000 := by have := ta.hq; have := ha.hlq; omega
  have HE := hd he
  clear hW hb0 e1 e2 ha ta hsz he
  go_enter Try.func12, Try.ntmps12
  go_upto_region 1 with fail
  rw [HW.out]
  go_wp2_with (first
    | ((with_reducible refine gd_load (ty := 35) (x := .tmp 1) ?_); refine wpList_load_oc (by first | exact HI.out.v1 | exact HV1.out) _ rfl rfl rfl ?_)
    | (go_at_call 15; refine (rform_at (HH.out.later HB.out) HTA.out HE.out).mono ?_; rintro e w4 ⟨rfl, b4⟩; have HLO := hd (show w.heap.size + 1 < w4.heap.size from Nat.lt_of_lt_of_le HV2.out.lt b4.size); have HV1 := hd (HV1.out.keep b4); have HV2 := hd (HV2.out.keep b4); have HB := hd (step_b HB.out b4); clear b4)
    | ((with_reducible refine gd_store (ty := 35) (x := .tmp 5) ?_); refine wpList_store_oc (c := c) _ _ rfl rfl rfl rfl rfl rfl rfl ?_; have HI := hd (InvSt.made (w5 := w4) (cx := c) HV1.out HV2.out HB.out HLO.out (Nat.le_refl _)))
    | ((with_reducible refine gd_load (ty := 3) ?_); refine wpList_load_f1 HI.out.v1 (j := 0) (v := .int .i64 c.k) _ rfl rfl rfl rfl Try.underlying3 rfl ?_)
    | ((with_reducible refine gd_load (ty := 35) (x := .tmp 5) ?_); refine wpList_load_oc HI.out.v3 _ rfl rfl rfl ?_)
    | ((with_reducible refine gd_store (ty := 35) (x := .tmp 2) ?_); refine wpList_store_var HI.out.v2 _ _ rfl rfl rfl rfl rfl ?_; intro W9 hv9 ho9; have HV2 := hd hv9; have HT := hd (HI.out.told ho9); have HOF := hd ho9; clear hv9 ho9)
    | ((with_reducible refine gd_store (ty := 3) (x := .tmp 82) ?_); refine wpList_store_fld sz_int HI.out.v3 _ _ rfl rfl rfl 0 _ [.int .i64 7] { c with k := 7 } rfl rfl rfl rfl (by intro u hu; simp at hu; rcases hu with rfl | rfl | rfl | rfl | rfl <;> rfl) (Nat.le_of_ble_eq_true rfl) (by kernel_rfl) ?_; intro W9 hv9 ho9; have HI2 := hd (HI.out.put hv9 ho9); have HI := hd HI2.out; clear HI2 hv9 ho9))
  refine bodyPost_ret (result_oc2 Try.results12 _ _ HV2.out rfl) rfl ⟨{ c with k := 7 }, rfl, ?_, HT.out.1⟩
  have h := HH.out.later HT.out.1
  exact h.setK (by unfold In64; omega)
set_option maxRecDepth 100000 in
set_option maxHeartbeats 4000000 in
theorem brinv_5 (w : World) (c : OC) (a : OpP) (ha : OkA w c a) (ta : Tiny a) (he : formE a = 0) (hk : c.k = 5) : Calls Try.prog 12 #[.agg c.row] w (NewOE w ({ a with q := a.t, t := a.q }, 0)) := by
  have k1 : (c.k == 1) = false := by simp [hk]
  have k2 : (c.k == 2) = false := by simp [hk]
  have k3 : (c.k == 3) = false := by simp [hk]
  have k4 : (c.k == 4) = false := by simp [hk]
  have k5 : (c.k == 5) = true := by simp [hk]
  have k6 : (c.k == 6) = false := by simp [hk]
  have k7 : (c.k == 7) = false := by simp [hk]
  have k8 : (c.k == 8) = false := by simp [hk]
  have k9 : (c.k == 9) = false := by simp [hk]
  have HKK := hd hk
  clear hk
  obtain ⟨W0, hW, hb0, hsz, e1, e2⟩ := two_vars w c
  have HV1 := hd e1
  have HV2 := hd e2
  have HW := hd hW
  have HB := hd hb0
  have HH := hd ha
  have HTA := hd ta
  have hlq : c.lq ≤ 1000 := by have := ta.hq; have := ha.hlq; omega
  have HE := hd he
  clear hW hb0 e1 e2 ha ta hsz he
  go_enter Try.func12, Try.ntmps12
  go_upto_region 1 with fail
  rw [HW.out]
  go_wp2_with (first
    | ((with_reducible refine gd_load (ty := 35) (x := .tmp 1) ?_); refine wpList_load_oc (by first | exact HI.out.v1 | exact HV1.out) _ rfl rfl rfl ?_)
    | (go_at_call 15; refine (rform_at (HH.out.later HB.out) HTA.out HE.out).mono ?_; rintro e w4 ⟨rfl, b4⟩; have HLO := hd (show w.heap.size + 1 < w4.heap.size from Nat.lt_of_lt_of_le HV2.out.lt b4.size); have HV1 := hd (HV1.out.keep b4); have HV2 := hd (HV2.out.keep b4); have HB := hd (step_b HB.out b4); clear b4)
    | ((with_reducible refine gd_store (ty := 35) (x := .tmp 5) ?_); refine wpList_store_oc (c := c) _ _ rfl rfl rfl rfl rfl rfl rfl ?_; have HI := hd (InvSt.made (w5 := w4) (cx := c) HV1.out HV2.out HB.out HLO.out (Nat.le_refl _)))
    | ((with_reducible refine gd_load (ty := 3) ?_); refine wpList_load_f1 HI.out.v1 (j := 0) (v := .int .i64 c.k) _ rfl rfl rfl rfl Try.underlying3 rfl ?_)
    | ((with_reducible refine gd_load (ty := 35) (x := .tmp 5) ?_); refine wpList_load_oc HI.out.v3 _ rfl rfl rfl ?_)
    | ((with_reducible refine gd_store (ty := 35) (x := .tmp 2) ?_); refine wpList_store_var HI.out.v2 _ _ rfl rfl rfl rfl rfl ?_; intro W9 hv9 ho9; have HV2 := hd hv9; have HT := hd (HI.out.told ho9); have HOF := hd ho9; clear hv9 ho9)
    | ((with_reducible refine gd_load (ty := 22) (x := .tmp 63) ?_); refine wpList_load_f1 HI.out.v1 (j := 2) (v := .slice c.T c.lt c.ct) _ rfl rfl rfl rfl Try.underlying22 rfl ?_)
    | ((with_reducible refine gd_store (ty := 22) (x := .tmp 65) ?_); refine wpList_store_fld sz_path HI.out.v3 _ _ rfl rfl rfl 1 _ [.slice c.T c.lt c.ct] { c with Q := c.T, lq := c.lt, cq := c.ct } rfl rfl rfl rfl (by intro u hu; simp at hu; rcases hu with rfl | rfl | rfl | rfl | rfl <;> rfl) (Nat.le_of_ble_eq_true rfl) (by kernel_rfl) ?_; intro W9 hv9 ho9; have HI2 := hd (HI.out.put hv9 ho9); have HI := hd HI2.out; clear HI2 hv9 ho9)
    | ((with_reducible refine gd_load (ty := 22) (x := .tmp 66) ?_); refine wpList_load_f1 HI.out.v1 (j := 1) (v := .slice c.Q c.lq c.cq) _ rfl rfl rfl rfl Try.underlying22 rfl ?_)
    | ((with_reducible refine gd_store (ty := 22) (x := .tmp 68) ?_); refine wpList_store_fld sz_path HI.out.v3 _ _ rfl rfl rfl 2 _ [.slice c.Q c.lq c.cq] { c with Q := c.T, lq := c.lt, cq := c.ct, T := c.Q, lt := c.lq, ct := c.cq } rfl rfl rfl rfl (by intro u hu; simp at hu; rcases hu with rfl | rfl | rfl | rfl | rfl <;> rfl) (Nat.le_of_ble_eq_true rfl) (by kernel_rfl) ?_; intro W9 hv9 ho9; have HI2 := hd (HI.out.put hv9 ho9); have HI := hd HI2.out; clear HI2 hv9 ho9))
  refine bodyPost_ret (result_oc2 Try.results12 _ _ HV2.out rfl) rfl ⟨{ c with Q := c.T, lq := c.lt, cq := c.ct, T := c.Q, lt := c.lq, ct := c.cq }, rfl, ?_, HT.out.1⟩
  have h := HH.out.later HT.out.1
  exact (h.setQ h.hlt h.hct h.hmt h.ht h.hit).setT h.hlq h.hcq h.hmq h.hq h.hiq
set_option maxRecDepth 100000 in
set_option maxHeartbeats 4000000 in
theorem brinv_6 (w : World) (c : OC) (a : OpP) (ha : OkA w c a) (ta : Tiny a) (he : formE a = 0) (hk : c.k = 6) : Calls Try.prog 12 #[.agg c.row] w (NewOE w ({ a with o := a.w, w := a.o }, 0)) := by
  have k1 : (c.k == 1) = false := by simp [hk]
  have k2 : (c.k == 2) = false := by simp [hk]
  have k3 : (c.k == 3) = false := by simp [hk]
  have k4 : (c.k == 4) = false := by simp [hk]
  have k5 : (c.k == 5) = false := by simp [hk]
  have k6 : (c.k == 6) = true := by simp [hk]
  have k7 : (c.k == 7) = false := by simp [hk]
  have k8 : (c.k == 8) = false := by simp [hk]
  have k9 : (c.k == 9) = false := by simp [hk]
  have HKK := hd hk
  clear hk
  obtain ⟨W0, hW, hb0, hsz, e1, e2⟩ := two_vars w c
  have HV1 := hd e1
  have HV2 := hd e2
  have HW := hd hW
  have HB := hd hb0
  have HH := hd ha
  have HTA := hd ta
  have hlq : c.lq ≤ 1000 := by have := ta.hq; have := ha.hlq; omega
  have HE := hd he
  clear hW hb0 e1 e2 ha ta hsz he
  go_enter Try.func12, Try.ntmps12
  go_upto_region 1 with fail
  rw [HW.out]
  go_wp2_with (first
    | ((with_reducible refine gd_load (ty := 35) (x := .tmp 1) ?_); refine wpList_load_oc (by first | exact HI.out.v1 | exact HV1.out) _ rfl rfl rfl ?_)
    | (go_at_call 15; refine (rform_at (HH.out.later HB.out) HTA.out HE.out).mono ?_; rintro e w4 ⟨rfl, b4⟩; have HLO := hd (show w.heap.size + 1 < w4.heap.size from Nat.lt_of_lt_of_le HV2.out.lt b4.size); have HV1 := hd (HV1.out.keep b4); have HV2 := hd (HV2.out.keep b4); have HB := hd (step_b HB.out b4); clear b4)
    | ((with_reducible refine gd_store (ty := 35) (x := .tmp 5) ?_); refine wpList_store_oc (c := c) _ _ rfl rfl rfl rfl rfl rfl rfl ?_; have HI := hd (InvSt.made (w5 := w4) (cx := c) HV1.out HV2.out HB.out HLO.out (Nat.le_refl _)))
    | ((with_reducible refine gd_load (ty := 3) ?_); refine wpList_load_f1 HI.out.v1 (j := 0) (v := .int .i64 c.k) _ rfl rfl rfl rfl Try.underlying3 rfl ?_)
    | ((with_reducible refine gd_load (ty := 35) (x := .tmp 5) ?_); refine wpList_load_oc HI.out.v3 _ rfl rfl rfl ?_)
    | ((with_reducible refine gd_store (ty := 35) (x := .tmp 2) ?_); refine wpList_store_var HI.out.v2 _ _ rfl rfl rfl rfl rfl ?_; intro W9 hv9 ho9; have HV2 := hd hv9; have HT := hd (HI.out.told ho9); have HOF := hd ho9; clear hv9 ho9)
    | ((with_reducible refine gd_load (ty := 23) (x := .tmp 71) ?_); refine wpList_load_f1 HI.out.v1 (j := 9) (v := .slice c.W c.nw c.cw) _ rfl rfl rfl rfl Try.underlying23 rfl ?_)
    | ((with_reducible refine gd_store (ty := 23) (x := .tmp 73) ?_); refine wpList_store_fld sz_props HI.out.v3 _ _ rfl rfl rfl 8 _ [.slice c.W c.nw c.cw] { c with O := c.W, no := c.nw, co := c.cw } rfl rfl rfl rfl (by intro u hu; simp at hu; rcases hu with rfl | rfl | rfl | rfl | rfl <;> rfl) (Nat.le_of_ble_eq_true rfl) (by kernel_rfl) ?_; intro W9 hv9 ho9; have HI2 := hd (HI.out.put hv9 ho9); have HI := hd HI2.out; clear HI2 hv9 ho9)
    | ((with_reducible refine gd_load (ty := 23) (x := .tmp 74) ?_); refine wpList_load_f1 HI.out.v1 (j := 8) (v := .slice c.O c.no c.co) _ rfl rfl rfl rfl Try.underlying23 rfl ?_)
    | ((with_reducible refine gd_store (ty := 23) (x := .tmp 76) ?_); refine wpList_store_fld sz_props HI.out.v3 _ _ rfl rfl rfl 9 _ [.slice c.O c.no c.co] { c with O := c.W, no := c.nw, co := c.cw, W := c.O, nw := c.no, cw := c.co } rfl rfl rfl rfl (by intro u hu; simp at hu; rcases hu with rfl | rfl | rfl | rfl | rfl <;> rfl) (Nat.le_of_ble_eq_true rfl) (by kernel_rfl) ?_; intro W9 hv9 ho9; have HI2 := hd (HI.out.put hv9 ho9); have HI := hd HI2.out; clear HI2 hv9 ho9))
  refine bodyPost_ret (result_oc2 Try.results12 _ _ HV2.out rfl) rfl ⟨{ c with O := c.W, no := c.nw, co := c.cw, W := c.O, nw := c.no, cw := c.co }, rfl, ?_, HT.out.1⟩
  have h := HH.out.later HT.out.1
  exact (h.setO h.hnw h.hcw h.hmw h.hw h.hww).setW h.hno h.hco h.hmo h.ho h.hwo
set_option maxRecDepth 100000 in
set_option maxHeartbeats 4000000 in
theorem brinv_9 (w : World) (c : OC) (a : OpP) (ha : OkA w c a) (ta : Tiny a) (he : formE a = 0) (hk : c.k = 9) : Calls Try.prog 12 #[.agg c.row] w (NewOE w ({ a with f := a.g, g := a.f }, 0)) := by
  have k1 : (c.k == 1) = false := by simp [hk]
  have k2 : (c.k == 2) = false := by simp [hk]
  have k3 : (c.k == 3) = false := by simp [hk]
  have k4 : (c.k == 4) = false := by simp [hk]
  have k5 : (c.k == 5) = false := by simp [hk]
  have k6 : (c.k == 6) = false := by simp [hk]
  have k7 : (c.k == 7) = false := by simp [hk]
  have k8 : (c.k == 8) = false := by simp [hk]
  have k9 : (c.k == 9) = true := by simp [hk]
  have HKK := hd hk
  clear hk
  obtain ⟨W0, hW, hb0, hsz, e1, e2⟩ := two_vars w c
  have HV1 := hd e1
  have HV2 := hd e2
  have HW := hd hW
  have HB := hd hb0
  have HH := hd ha
  have HTA := hd ta
  have hlq : c.lq ≤ 1000 := by have := ta.hq; have := ha.hlq; omega
  have HE := hd he
  clear hW hb0 e1 e2 ha ta hsz he
  go_enter Try.func12, Try.ntmps12
  go_upto_region 1 with fail
  rw [HW.out]
  go_wp2_with (first
    | ((with_reducible refine gd_load (ty := 35) (x := .tmp 1) ?_); refine wpList_load_oc (by first | exact HI.out.v1 | exact HV1.out) _ rfl rfl rfl ?_)
    | (go_at_call 15; refine (rform_at (HH.out.later HB.out) HTA.out HE.out).mono ?_; rintro e w4 ⟨rfl, b4⟩; have HLO := hd (show w.heap.size + 1 < w4.heap.size from Nat.lt_of_lt_of_le HV2.out.lt b4.size); have HV1 := hd (HV1.out.keep b4); have HV2 := hd (HV2.out.keep b4); have HB := hd (step_b HB.out b4); clear b4)
    | ((with_reducible refine gd_store (ty := 35) (x := .tmp 5) ?_); refine wpList_store_oc (c := c) _ _ rfl rfl rfl rfl rfl rfl rfl ?_; have HI := hd (InvSt.made (w5 := w4) (cx := c) HV1.out HV2.out HB.out HLO.out (Nat.le_refl _)))
    | ((with_reducible refine gd_load (ty := 3) ?_); refine wpList_load_f1 HI.out.v1 (j := 0) (v := .int .i64 c.k) _ rfl rfl rfl rfl Try.underlying3 rfl ?_)
    | ((with_reducible refine gd_load (ty := 35) (x := .tmp 5) ?_); refine wpList_load_oc HI.out.v3 _ rfl rfl rfl ?_)
    | ((with_reducible refine gd_store (ty := 35) (x := .tmp 2) ?_); refine wpList_store_var HI.out.v2 _ _ rfl rfl rfl rfl rfl ?_; intro W9 hv9 ho9; have HV2 := hd hv9; have HT := hd (HI.out.told ho9); have HOF := hd ho9; clear hv9 ho9)
    | ((with_reducible refine gd_load (ty := 33) (x := .tmp 85) ?_); refine wpList_load_fn HI.out.v1 (j := 16) (vs := [.bool c.gi, .slice c.G1 c.g1 c.e1, .int .i64 c.go, .slice c.G2 c.g2 c.e2, .int .i64 c.gp]) row_sel _ rfl rfl rfl (by kernel_rfl) ?_)
    | ((with_reducible refine gd_store (ty := 33) (x := .tmp 87) ?_); refine wpList_store_fld sz_sel HI.out.v3 _ _ rfl rfl rfl 11 _ [.bool c.gi, .slice c.G1 c.g1 c.e1, .int .i64 c.go, .slice c.G2 c.g2 c.e2, .int .i64 c.gp] { c with fi := c.gi, F1 := c.G1, f1 := c.g1, d1 := c.e1, fo := c.go, F2 := c.G2, f2 := c.g2, d2 := c.e2, fp := c.gp } rfl rfl rfl rfl (by intro u hu; simp at hu; rcases hu with rfl | rfl | rfl | rfl | rfl <;> rfl) (Nat.le_of_ble_eq_true rfl) (by kernel_rfl) ?_; intro W9 hv9 ho9; have HI2 := hd (HI.out.put hv9 ho9); have HI := hd HI2.out; clear HI2 hv9 ho9)
    | ((with_reducible refine gd_load (ty := 33) (x := .tmp 88) ?_); refine wpList_load_fn HI.out.v1 (j := 11) (vs := [.bool c.fi, .slice c.F1 c.f1 c.d1, .int .i64 c.fo, .slice c.F2 c.f2 c.d2, .int .i64 c.fp]) row_sel _ rfl rfl rfl (by kernel_rfl) ?_)
    | ((with_reducible refine gd_store (ty := 33) (x := .tmp 90) ?_); refine wpList_store_fld sz_sel HI.out.v3 _ _ rfl rfl rfl 16 _ [.bool c.fi, .slice c.F1 c.f1 c.d1, .int .i64 c.fo, .slice c.F2 c.f2 c.d2, .int .i64 c.fp] { c with fi := c.gi, F1 := c.G1, f1 := c.g1, d1 := c.e1, fo := c.go, F2 := c.G2, f2 := c.g2, d2 := c.e2, fp := c.gp, gi := c.fi, G1 := c.F1, g1 := c.f1, e1 := c.d1, go := c.fo, G2 := c.F2, g2 := c.f2, e2 := c.d2, gp := c.fp } rfl rfl rfl rfl (by intro u hu; simp at hu; rcases hu with rfl | rfl | rfl | rfl | rfl <;> rfl) (Nat.le_of_ble_eq_true rfl) (by kernel_rfl) ?_; intro W9 hv9 ho9; have HI2 := hd (HI.out.put hv9 ho9); have HI := hd HI2.out; clear HI2 hv9 ho9))
  refine bodyPost_ret (result_oc2 Try.results12 _ _ HV2.out rfl) rfl ⟨{ c with fi := c.gi, F1 := c.G1, f1 := c.g1, d1 := c.e1, fo := c.go, F2 := c.G2, f2 := c.g2, d2 := c.e2, fp := c.gp, gi := c.fi, G1 := c.F1, g1 := c.f1, e1 := c.d1, go := c.fo, G2 := c.F2, g2 := c.f2, e2 := c.d2, gp := c.fp }, rfl, ?_, HT.out.1⟩
  have h := HH.out.later HT.out.1
  exact (h.setF h.hg).setG h.hf
set_option maxRecDepth 100000 in
set_option maxHeartbeats 4000000 in
theorem brinv_3e (w : World) (c : OC) (a : OpP) (ha : OkA w c a) (ta : Tiny a) (he : formE a = 0) (hk : c.k = 3) (er : Int) (hr : (backL a.q).2 = er) (h0 : (er != 0) = true) : Calls Try.prog 12 #[.agg c.row] w (NewOE w (zeroO, er)) := by
  have k1 : (c.k == 1) = false := by simp [hk]
  have k2 : (c.k == 2) = false := by simp [hk]
  have k3 : (c.k == 3) = true := by simp [hk]
  have k4 : (c.k == 4) = false := by simp [hk]
  have k5 : (c.k == 5) = false := by simp [hk]
  have k6 : (c.k == 6) = false := by simp [hk]
  have k7 : (c.k == 7) = false := by simp [hk]
  have k8 : (c.k == 8) = false := by simp [hk]
  have k9 : (c.k == 9) = false := by simp [hk]
  have HKK := hd hk
  clear hk
  have HER := hd hr
  clear hr
  obtain ⟨W0, hW, hb0, hsz, e1, e2⟩ := two_vars w c
  have HV1 := hd e1
  have HV2 := hd e2
  have HW := hd hW
  have HB := hd hb0
  have HH := hd ha
  have HTA := hd ta
  have hlq : c.lq ≤ 1000 := by have := ta.hq; have := ha.hlq; omega
  have HE := hd he
  clear hW hb0 e1 e2 ha ta hsz he
  go_enter Try.func12, Try.ntmps12
  go_upto_region 1 with fail
  rw [HW.out]
  go_wp2_with (first
    | ((with_reducible refine gd_load (ty := 35) (x := .tmp 1) ?_); refine wpList_load_oc (by first | exact HI.out.v1 | exact HV1.out) _ rfl rfl rfl ?_)
    | (go_at_call 15; refine (rform_at (HH.out.later HB.out) HTA.out HE.out).mono ?_; rintro e w4 ⟨rfl, b4⟩; have HLO := hd (show w.heap.size + 1 < w4.heap.size from Nat.lt_of_lt_of_le HV2.out.lt b4.size); have HV1 := hd (HV1.out.keep b4); have HV2 := hd (HV2.out.keep b4); have HB := hd (step_b HB.out b4); clear b4)
    | ((with_reducible refine gd_store (ty := 35) (x := .tmp 5) ?_); refine wpList_store_oc (c := c) _ _ rfl rfl rfl rfl rfl rfl rfl ?_; have HI := hd (InvSt.made (w5 := w4) (cx := c) HV1.out HV2.out HB.out HLO.out (Nat.le_refl _)))
    | ((with_reducible refine gd_load (ty := 22) (x := .tmp 28) ?_); refine wpList_load_f1 HI.out.v1 (j := 1) (v := .slice c.Q c.lq c.cq) _ rfl rfl rfl rfl Try.underlying22 rfl ?_)
    | ((with_reducible refine gd_load (ty := 3) ?_); refine wpList_load_f1 HI.out.v1 (j := 0) (v := .int .i64 c.k) _ rfl rfl rfl rfl Try.underlying3 rfl ?_)
    | (go_at_call 29; refine (irback_any c.Q a.q c.lq c.cq _ HH.out.hlq hlq HH.out.hiq (HH.out.later HI.out.below).hq).mono ?_; rintro e w7 ⟨v7, rfl, ho7, b7⟩; obtain ⟨Ap, dp, rfl, hp1, _, hp2⟩ := ho7.open_; have HP := hd (own_stab ho7); have HLW := hd HI.out.v3.lt; have HI := hd (HI.out.call b7); have HD := hd hp1; clear b7 hp2 ho7; dsimp only; rw [HER.out])
    | ((with_reducible refine gd_store (ty := 35) (x := .tmp 2) ?_); refine wpList_store_var (c := OC.zero) HI.out.v2 _ _ rfl rfl rfl rfl rfl ?_; intro W9 hv9 ho9; have HV2 := hd hv9; have HB := hd (off_below HI.out.below ho9 (Nat.le_succ _)); clear hv9 ho9))
  refine bodyPost_ret (result_oc2 Try.results12 _ _ HV2.out rfl) rfl ⟨OC.zero, rfl, OkA.zero _, HB.out⟩
set_option maxRecDepth 100000 in
set_option maxHeartbeats 4000000 in
theorem brinv_3 (w : World) (c : OC) (a : OpP) (ha : OkA w c a) (ta : Tiny a) (he : formE a = 0) (hk : c.k = 3) (hr : (backL a.q).2 = 0) : Calls Try.prog 12 #[.agg c.row] w (NewOE w ({ zeroO with k := 4, q := (backL a.q).1, z := a.z, w := a.o }, 0)) := by
  have HLEN := hd (show ∀ x, (backL a.q).1 = x → InI x ∧ x.length ≤ 1000 from fun x h => h ▸ half_in_3 ha.hiq ta.hq)
  obtain ⟨lp, hlp⟩ : ∃ n, (backL a.q).1.length = n := ⟨_, rfl⟩
  have HLP := hd hlp
  clear hlp
  have k1 : (c.k == 1) = false := by simp [hk]
  have k2 : (c.k == 2) = false := by simp [hk]
  have k3 : (c.k == 3) = true := by simp [hk]
  have k4 : (c.k == 4) = false := by simp [hk]
  have k5 : (c.k == 5) = false := by simp [hk]
  have k6 : (c.k == 6) = false := by simp [hk]
  have k7 : (c.k == 7) = false := by simp [hk]
  have k8 : (c.k == 8) = false := by simp [hk]
  have k9 : (c.k == 9) = false := by simp [hk]
  have HKK := hd hk
  clear hk
  have HER := hd hr
  clear hr
  obtain ⟨W0, hW, hb0, hsz, e1, e2⟩ := two_vars w c
  have HV1 := hd e1
  have HV2 := hd e2
  have HW := hd hW
  have HB := hd hb0
  have HH := hd ha
  have HTA := hd ta
  have hlq : c.lq ≤ 1000 := by have := ta.hq; have := ha.hlq; omega
  have HE := hd he
  clear hW hb0 e1 e2 ha ta hsz he
  go_enter Try.func12, Try.ntmps12
  go_upto_region 1 with fail
  rw [HW.out]
  go_wp2_with (first
    | ((with_reducible refine gd_store (ty := 35) (x := .tmp 5) ?_); refine wpList_store_var (c := (OC.mk 4 Ap lp dp none 0 0 c.z false none 0 0 none 0 0 none 0 0 none 0 0 c.O c.no c.co none 0 0 false none 0 0 0 none 0 0 0 false none 0 0 0 none 0 0 0)) HI.out.v3 _ _ rfl rfl rfl rfl rfl ?_; intro W9 hv9 ho9; have HI2 := hd (HI.out.put hv9 ho9); have HP := hd (HP.out.high (High.off ho9 HLW.out)); have HI := hd HI2.out; clear HI2 hv9 ho9)
    | ((with_reducible refine gd_load (ty := 3) (x := .tmp 38) ?_); refine wpList_load_f1 HI.out.v1 (j := 3) (v := .int .i64 c.z) _ rfl rfl rfl rfl Try.underlying3 rfl ?_)
    | ((with_reducible refine gd_load (ty := 35) (x := .tmp 1) ?_); refine wpList_load_oc (by first | exact HI.out.v1 | exact HV1.out) _ rfl rfl rfl ?_)
    | (go_at_call 15; refine (rform_at (HH.out.later HB.out) HTA.out HE.out).mono ?_; rintro e w4 ⟨rfl, b4⟩; have HLO := hd (show w.heap.size + 1 < w4.heap.size from Nat.lt_of_lt_of_le HV2.out.lt b4.size); have HV1 := hd (HV1.out.keep b4); have HV2 := hd (HV2.out.keep b4); have HB := hd (step_b HB.out b4); clear b4)
    | ((with_reducible refine gd_store (ty := 35) (x := .tmp 5) ?_); refine wpList_store_oc (c := c) _ _ rfl rfl rfl rfl rfl rfl rfl ?_; have HI := hd (InvSt.made (w5 := w4) (cx := c) HV1.out HV2.out HB.out HLO.out (Nat.le_refl _)))
    | ((with_reducible refine gd_load (ty := 3) ?_); refine wpList_load_f1 HI.out.v1 (j := 0) (v := .int .i64 c.k) _ rfl rfl rfl rfl Try.underlying3 rfl ?_)
    | ((with_reducible refine gd_load (ty := 35) (x := .tmp 5) ?_); refine wpList_load_oc HI.out.v3 _ rfl rfl rfl ?_)
    | ((with_reducible refine gd_store (ty := 35) (x := .tmp 2) ?_); refine wpList_store_var HI.out.v2 _ _ rfl rfl rfl rfl rfl ?_; intro W9 hv9 ho9; have HV2 := hd hv9; have HT := hd (HI.out.told ho9); have HOF := hd ho9; clear hv9 ho9)
    | ((with_reducible refine gd_load (ty := 22) (x := .tmp 28) ?_); refine wpList_load_f1 HI.out.v1 (j := 1) (v := .slice c.Q c.lq c.cq) _ rfl rfl rfl rfl Try.underlying22 rfl ?_)
    | (go_at_call 29; refine (irback_any c.Q a.q c.lq c.cq _ HH.out.hlq hlq HH.out.hiq (HH.out.later HI.out.below).hq).mono ?_; rintro e w7 ⟨v7, rfl, ho7, b7⟩; obtain ⟨Ap, dp, rfl, hp1, _, hp2⟩ := ho7.open_; have HP := hd (own_stab ho7); have HLW := hd HI.out.v3.lt; have HI := hd (HI.out.call b7); have HD := hd hp1; rw [HLP.out] at HD ⊢; clear b7 hp2 ho7; dsimp only; rw [HER.out])
    | ((with_reducible refine gd_load (ty := 23) (x := .tmp 40) ?_); refine wpList_load_f1 HI.out.v1 (j := 8) (v := .slice c.O c.no c.co) _ rfl rfl rfl rfl Try.underlying23 rfl ?_))
  refine bodyPost_ret (result_oc2 Try.results12 _ _ HV2.out rfl) rfl ⟨(OC.mk 4 Ap lp dp none 0 0 c.z false none 0 0 none 0 0 none 0 0 none 0 0 c.O c.no c.co none 0 0 false none 0 0 0 none 0 0 0 false none 0 0 0 none 0 0 0), rfl, ?_, HT.out.1⟩
  have h := HH.out.later HT.out.1
  have hil := HLEN.out _ rfl
  have hpp := HP.out W9 (High.off HOF.out (by have := HLO.out; have := HLW.out; omega))
  have h1 := ((((OkA.zero W9).setK (k := 4) (by unfold In64; omega)).setQ HLP.out HD.out (by have := hil.2; have := HLP.out; omega) hpp hil.1).setZ' h.hz).setW h.hno h.hco h.hmo h.ho h.hwo
  exact h1
set_option maxRecDepth 100000 in
set_option maxHeartbeats 4000000 in
theorem brinv_4e (w : World) (c : OC) (a : OpP) (ha : OkA w c a) (ta : Tiny a) (he : formE a = 0) (hk : c.k = 4) (er : Int) (hr : (nextL a.q).2 = er) (h0 : (er != 0) = true) : Calls Try.prog 12 #[.agg c.row] w (NewOE w (zeroO, er)) := by
  have k1 : (c.k == 1) = false := by simp [hk]
  have k2 : (c.k == 2) = false := by simp [hk]
  have k3 : (c.k == 3) = false := by simp [hk]
  have k4 : (c.k == 4) = true := by simp [hk]
  have k5 : (c.k == 5) = false := by simp [hk]
  have k6 : (c.k == 6) = false := by simp [hk]
  have k7 : (c.k == 7) = false := by simp [hk]
  have k8 : (c.k == 8) = false := by simp [hk]
  have k9 : (c.k == 9) = false := by simp [hk]
  have HKK := hd hk
  clear hk
  have HER := hd hr
  clear hr
  obtain ⟨W0, hW, hb0, hsz, e1, e2⟩ := two_vars w c
  have HV1 := hd e1
  have HV2 := hd e2
  have HW := hd hW
  have HB := hd hb0
  have HH := hd ha
  have HTA := hd ta
  have hlq : c.lq ≤ 1000 := by have := ta.hq; have := ha.hlq; omega
  have HE := hd he
  clear hW hb0 e1 e2 ha ta hsz he
  go_enter Try.func12, Try.ntmps12
  go_upto_region 1 with fail
  rw [HW.out]
  go_wp2_with (first
    | ((with_reducible refine gd_load (ty := 35) (x := .tmp 1) ?_); refine wpList_load_oc (by first | exact HI.out.v1 | exact HV1.out) _ rfl rfl rfl ?_)
    | (go_at_call 15; refine (rform_at (HH.out.later HB.out) HTA.out HE.out).mono ?_; rintro e w4 ⟨rfl, b4⟩; have HLO := hd (show w.heap.size + 1 < w4.heap.size from Nat.lt_of_lt_of_le HV2.out.lt b4.size); have HV1 := hd (HV1.out.keep b4); have HV2 := hd (HV2.out.keep b4); have HB := hd (step_b HB.out b4); clear b4)
    | ((with_reducible refine gd_store (ty := 35) (x := .tmp 5) ?_); refine wpList_store_oc (c := c) _ _ rfl rfl rfl rfl rfl rfl rfl ?_; have HI := hd (InvSt.made (w5 := w4) (cx := c) HV1.out HV2.out HB.out HLO.out (Nat.le_refl _)))
    | ((with_reducible refine gd_load (ty := 22) (x := .tmp 46) ?_); refine wpList_load_f1 HI.out.v1 (j := 1) (v := .slice c.Q c.lq c.cq) _ rfl rfl rfl rfl Try.underlying22 rfl ?_)
    | ((with_reducible refine gd_load (ty := 3) ?_); refine wpList_load_f1 HI.out.v1 (j := 0) (v := .int .i64 c.k) _ rfl rfl rfl rfl Try.underlying3 rfl ?_)
    | (go_at_call 30; refine (irnext_any c.Q a.q c.lq c.cq _ HH.out.hlq hlq HH.out.hiq (HH.out.later HI.out.below).hq).mono ?_; rintro e w7 ⟨v7, rfl, ho7, b7⟩; obtain ⟨Ap, dp, rfl, hp1, _, hp2⟩ := ho7.open_; have HP := hd (own_stab ho7); have HLW := hd HI.out.v3.lt; have HI := hd (HI.out.call b7); have HD := hd hp1; clear b7 hp2 ho7; dsimp only; rw [HER.out])
    | ((with_reducible refine gd_store (ty := 35) (x := .tmp 2) ?_); refine wpList_store_var (c := OC.zero) HI.out.v2 _ _ rfl rfl rfl rfl rfl ?_; intro W9 hv9 ho9; have HV2 := hd hv9; have HB := hd (off_below HI.out.below ho9 (Nat.le_succ _)); clear hv9 ho9))
  refine bodyPost_ret (result_oc2 Try.results12 _ _ HV2.out rfl) rfl ⟨OC.zero, rfl, OkA.zero _, HB.out⟩
set_option maxRecDepth 100000 in
set_option maxHeartbeats 4000000 in
theorem brinv_4 (w : World) (c : OC) (a : OpP) (ha : OkA w c a) (ta : Tiny a) (he : formE a = 0) (hk : c.k = 4) (hr : (nextL a.q).2 = 0) : Calls Try.prog 12 #[.agg c.row] w (NewOE w ({ zeroO with k := 3, q := (nextL a.q).1, z := a.z, o := a.w }, 0)) := by
  have HLEN := hd (show ∀ x, (nextL a.q).1 = x → InI x ∧ x.length ≤ 1000 from fun x h => h ▸ half_in_4 ha.hiq ta.hq)
  obtain ⟨lp, hlp⟩ : ∃ n, (nextL a.q).1.length = n := ⟨_, rfl⟩
  have HLP := hd hlp
  clear hlp
  have k1 : (c.k == 1) = false := by simp [hk]
  have k2 : (c.k == 2) = false := by simp [hk]
  have k3 : (c.k == 3) = false := by simp [hk]
  have k4 : (c.k == 4) = true := by simp [hk]
  have k5 : (c.k == 5) = false := by simp [hk]
  have k6 : (c.k == 6) = false := by simp [hk]
  have k7 : (c.k == 7) = false := by simp [hk]
  have k8 : (c.k == 8) = false := by simp [hk]
  have k9 : (c.k == 9) = false := by simp [hk]
  have HKK := hd hk
  clear hk
  have HER := hd hr
  clear hr
  obtain ⟨W0, hW, hb0, hsz, e1, e2⟩ := two_vars w c
  have HV1 := hd e1
  have HV2 := hd e2
  have HW := hd hW
  have HB := hd hb0
  have HH := hd ha
  have HTA := hd ta
  have hlq : c.lq ≤ 1000 := by have := ta.hq; have := ha.hlq; omega
  have HE := hd he
  clear hW hb0 e1 e2 ha ta hsz he
  go_enter Try.func12, Try.ntmps12
  go_upto_region 1 with fail
  rw [HW.out]
  go_wp2_with (first
    | ((with_reducible refine gd_store (ty := 35) (x := .tmp 5) ?_); refine wpList_store_var (c := (OC.mk 3 Ap lp dp none 0 0 c.z false none 0 0 none 0 0 none 0 0 c.W c.nw c.cw none 0 0 none 0 0 false none 0 0 0 none 0 0 0 false none 0 0 0 none 0 0 0)) HI.out.v3 _ _ rfl rfl rfl rfl rfl ?_; intro W9 hv9 ho9; have HI2 := hd (HI.out.put hv9 ho9); have HP := hd (HP.out.high (High.off ho9 HLW.out)); have HI := hd HI2.out; clear HI2 hv9 ho9)
    | ((with_reducible refine gd_load (ty := 3) (x := .tmp 56) ?_); refine wpList_load_f1 HI.out.v1 (j := 3) (v := .int .i64 c.z) _ rfl rfl rfl rfl Try.underlying3 rfl ?_)
    | ((with_reducible refine gd_load (ty := 35) (x := .tmp 1) ?_); refine wpList_load_oc (by first | exact HI.out.v1 | exact HV1.out) _ rfl rfl rfl ?_)
    | (go_at_call 15; refine (rform_at (HH.out.later HB.out) HTA.out HE.out).mono ?_; rintro e w4 ⟨rfl, b4⟩; have HLO := hd (show w.heap.size + 1 < w4.heap.size from Nat.lt_of_lt_of_le HV2.out.lt b4.size); have HV1 := hd (HV1.out.keep b4); have HV2 := hd (HV2.out.keep b4); have HB := hd (step_b HB.out b4); clear b4)
    | ((with_reducible refine gd_store (ty := 35) (x := .tmp 5) ?_); refine wpList_store_oc (c := c) _ _ rfl rfl rfl rfl rfl rfl rfl ?_; have HI := hd (InvSt.made (w5 := w4) (cx := c) HV1.out HV2.out HB.out HLO.out (Nat.le_refl _)))
    | ((with_reducible refine gd_load (ty := 3) ?_); refine wpList_load_f1 HI.out.v1 (j := 0) (v := .int .i64 c.k) _ rfl rfl rfl rfl Try.underlying3 rfl ?_)
    | ((with_reducible refine gd_load (ty := 35) (x := .tmp 5) ?_); refine wpList_load_oc HI.out.v3 _ rfl rfl rfl ?_)
    | ((with_reducible refine gd_store (ty := 35) (x := .tmp 2) ?_); refine wpList_store_var HI.out.v2 _ _ rfl rfl rfl rfl rfl ?_; intro W9 hv9 ho9; have HV2 := hd hv9; have HT := hd (HI.out.told ho9); have HOF := hd ho9; clear hv9 ho9)
    | ((with_reducible refine gd_load (ty := 22) (x := .tmp 46) ?_); refine wpList_load_f1 HI.out.v1 (j := 1) (v := .slice c.Q c.lq c.cq) _ rfl rfl rfl rfl Try.underlying22 rfl ?_)
    | (go_at_call 30; refine (irnext_any c.Q a.q c.lq c.cq _ HH.out.hlq hlq HH.out.hiq (HH.out.later HI.out.below).hq).mono ?_; rintro e w7 ⟨v7, rfl, ho7, b7⟩; obtain ⟨Ap, dp, rfl, hp1, _, hp2⟩ := ho7.open_; have HP := hd (own_stab ho7); have HLW := hd HI.out.v3.lt; have HI := hd (HI.out.call b7); have HD := hd hp1; rw [HLP.out] at HD ⊢; clear b7 hp2 ho7; dsimp only; rw [HER.out])
    | ((with_reducible refine gd_load (ty := 23) (x := .tmp 58) ?_); refine wpList_load_f1 HI.out.v1 (j := 9) (v := .slice c.W c.nw c.cw) _ rfl rfl rfl rfl Try.underlying23 rfl ?_))
  refine bodyPost_ret (result_oc2 Try.results12 _ _ HV2.out rfl) rfl ⟨(OC.mk 3 Ap lp dp none 0 0 c.z false none 0 0 none 0 0 none 0 0 c.W c.nw c.cw none 0 0 none 0 0 false none 0 0 0 none 0 0 0 false none 0 0 0 none 0 0 0), rfl, ?_, HT.out.1⟩
  have h := HH.out.later HT.out.1
  have hil := HLEN.out _ rfl
  have hpp := HP.out W9 (High.off HOF.out (by have := HLO.out; have := HLW.out; omega))
  have h1 := ((((OkA.zero W9).setK (k := 3) (by unfold In64; omega)).setQ HLP.out HD.out (by have := hil.2; have := HLP.out; omega) hpp hil.1).setZ' h.hz).setO h.hnw h.hcw h.hmw h.hw h.hww
  exact h1
set_option maxRecDepth 4000 in
theorem rinverse_at (w : World) (c : OC) (a : OpP) (ha : OkA w c a) (ta : Tiny a) : Calls Try.prog 12 #[.agg c.row] w (NewOE w (invO a)) := by
  rcases formE_cases a with he | he
  · have hf : invO a = flipO a := by unfold invO; rw [if_pos he]
    rw [hf]
    unfold flipO
    have hkb := (form_eq he).1
    simp only [kindB, Bool.and_eq_true, decide_eq_true_iff] at hkb
    rw [ha.hk] at hkb ⊢
    have e0 : a.k = c.k := ha.hk
    rcases kinds hkb.1 hkb.2 with h | h | h | h | h | h | h | h | h
    · rw [h]; exact brinv_1 w c a ha ta he h
    · rw [h]; exact brinv_2 w c a ha ta he h
    · rw [h, if_pos rfl]
      by_cases hr : (backL a.q).2 = 0
      · rw [if_pos hr, flip3 he (e0.trans h)]
        exact brinv_3 w c a ha ta he h hr
      · rw [if_neg hr]
        exact brinv_3e w c a ha ta he h _ rfl (by simpa using hr)
    · rw [h, if_neg (by omega), if_pos rfl]
      by_cases hr : (nextL a.q).2 = 0
      · rw [if_pos hr, flip4 he (e0.trans h)]
        exact brinv_4 w c a ha ta he h hr
      · rw [if_neg hr]
        exact brinv_4e w c a ha ta he h _ rfl (by simpa using hr)
    · have h1 := brinv_5 w c a ha ta he h
      rw [h]
      have e2 : ({ a with q := a.t, t := a.q } : OpP) = { a with k := 5, q := a.t, t := a.q } := by rw [← h, ← e0]
      rw [e2] at h1
      exact h1
    · have h1 := brinv_6 w c a ha ta he h
      rw [h]
      have e2 : ({ a with o := a.w, w := a.o } : OpP) = { a with k := 6, o := a.w, w := a.o } := by rw [← h, ← e0]
      rw [e2] at h1
      exact h1
    · rw [h]; exact brinv_7 w c a ha ta he h
    · rw [h]; exact brinv_8 w c a ha ta he h
    · have h1 := brinv_9 w c a ha ta he h
      rw [h]
      have e2 : ({ a with f := a.g, g := a.f } : OpP) = { a with k := 9, f := a.g, g := a.f } := by rw [← h, ← e0]
      rw [e2] at h1
      exact h1
  · have hf : invO a = (zeroO, 1) := by unfold invO; rw [if_neg (by omega)]
    rw [hf]
    exact brinv_bad w c a ha ta he

end Go.Proofs.Ytdjajpookmmafaa
