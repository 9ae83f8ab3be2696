/- Without the fields of its kind. -/
import Derived.Test.YtdjajpookmmafaaBVars
namespace Go.Proofs.Ytdjajpookmmafaa
open Go.RowKit

set_option maxRecDepth 100000 in
set_option maxHeartbeats 4000000 in
theorem bwith_1 (w : World) (c : OC) (a : OpP) (ha : OkA w c a) (hk : c.k = 1) : Calls Try.prog 36 #[.agg c.row] w (NewOp w (withoutO a)) := by
  have k1 : (c.k == 1) = true := by simp [hk]
  have k2 : (c.k == 2) = false := by simp [hk]
  have k3 : (c.k == 3) = false := by simp [hk]
  have k4 : (c.k == 4) = false := by simp [hk]
  have k5 : (c.k == 5) = false := by simp [hk]
  have k6 : (c.k == 6) = false := by simp [hk]
  have k7 : (c.k == 7) = false := by simp [hk]
  have k8 : (c.k == 8) = false := by simp [hk]
  have k9 : (c.k == 9) = false := by simp [hk]
  obtain ⟨W0, hW, hb0, hsz, e1, e2⟩ := two_vars w c
  have HV1 := hd e1
  have HV2 := hd e2
  have HW := hd hW
  have HB := hd hb0
  have HKK := hd hk
  clear hk
  clear hW hb0 hsz e1 e2
  go_enter Try.func36, Try.ntmps36
  go_upto_region 1 with fail
  rw [HW.out]
  have hg : w.heap.size ≤ w.heap.size + 1 := Nat.le_succ _
  go_wp2_with (first
    | ((with_reducible refine gd_load (ty := 3) ?_); refine wpList_load_f1 HV1.out (j := 0) (v := .int .i64 c.k) _ rfl rfl rfl rfl Try.underlying3 rfl ?_)
    | ((with_reducible refine gd_store (ty := 22) ?_); refine wpList_store_fld sz_path HV1.out _ _ rfl rfl rfl 1 _ [.slice none 0 0] { c with Q := none, lq := 0, cq := 0 } rfl (by first | rfl | (unfold Act.eval; rfl)) rfl rfl (by intro u hu; simp at hu; rcases hu with rfl | rfl | rfl | rfl | rfl <;> rfl) (Nat.le_of_ble_eq_true rfl) (by kernel_rfl) ?_; intro W9 hv9 ho9; have HV2 := hd (HV2.out.off ho9 (by omega)); have HV1 := hd hv9; have HB := hd (off_below HB.out ho9 (by omega)); clear hv9 ho9)
    | ((with_reducible refine gd_store (ty := 27) ?_); refine wpList_store_fld sz_node HV1.out _ _ rfl rfl rfl 4 _ [.bool false, .slice none 0 0, .slice none 0 0, .slice none 0 0] { c with Q := none, lq := 0, cq := 0, lf := false, P := none, np := 0, pc := 0, X := none, nt := 0, tc := 0, K := none, nk := 0, kc := 0 } rfl (by first | rfl | (unfold Act.eval; rfl)) rfl rfl (by intro u hu; simp at hu; rcases hu with rfl | rfl | rfl | rfl | rfl <;> rfl) (Nat.le_of_ble_eq_true rfl) (by kernel_rfl) ?_; intro W9 hv9 ho9; have HV2 := hd (HV2.out.off ho9 (by omega)); have HV1 := hd hv9; have HB := hd (off_below HB.out ho9 (by omega)); clear hv9 ho9)
    | ((with_reducible refine gd_load (ty := 35) ?_); refine wpList_load_oc HV1.out _ rfl rfl rfl ?_)
    | ((with_reducible refine gd_store (ty := 35) (x := .tmp 2) ?_); refine wpList_store_var HV2.out _ _ rfl rfl rfl rfl rfl ?_; intro W9 hv9 ho9; have HV2 := hd hv9; have HB := hd (off_below HB.out ho9 (by omega)); clear hv9 ho9))
  refine bodyPost_ret (result_oc Try.results36 _ _ HV2.out rfl) rfl ⟨_, rfl, ?_, HB.out⟩
  have hr := ((ha.setQ (A := none) (n := 0) (d := 0) (l := []) rfl (by omega) (by omega) (IL.nil _ _ _) InI.nil).setN (zero_node _ _)).later HB.out
  have he : withoutO a = { a with q := [], n := zeroT } := by
    unfold withoutO
    simp [ha.hk, HKK.out]
  rw [he]
  exact hr
set_option maxRecDepth 100000 in
set_option maxHeartbeats 4000000 in
theorem bwith_2 (w : World) (c : OC) (a : OpP) (ha : OkA w c a) (hk : c.k = 2) : Calls Try.prog 36 #[.agg c.row] w (NewOp w (withoutO a)) := by
  have k1 : (c.k == 1) = false := by simp [hk]
  have k2 : (c.k == 2) = true := by simp [hk]
  have k3 : (c.k == 3) = false := by simp [hk]
  have k4 : (c.k == 4) = false := by simp [hk]
  have k5 : (c.k == 5) = false := by simp [hk]
  have k6 : (c.k == 6) = false := by simp [hk]
  have k7 : (c.k == 7) = false := by simp [hk]
  have k8 : (c.k == 8) = false := by simp [hk]
  have k9 : (c.k == 9) = false := by simp [hk]
  obtain ⟨W0, hW, hb0, hsz, e1, e2⟩ := two_vars w c
  have HV1 := hd e1
  have HV2 := hd e2
  have HW := hd hW
  have HB := hd hb0
  have HKK := hd hk
  clear hk
  clear hW hb0 hsz e1 e2
  go_enter Try.func36, Try.ntmps36
  go_upto_region 1 with fail
  rw [HW.out]
  have hg : w.heap.size ≤ w.heap.size + 1 := Nat.le_succ _
  go_wp2_with (first
    | ((with_reducible refine gd_load (ty := 3) ?_); refine wpList_load_f1 HV1.out (j := 0) (v := .int .i64 c.k) _ rfl rfl rfl rfl Try.underlying3 rfl ?_)
    | ((with_reducible refine gd_store (ty := 22) ?_); refine wpList_store_fld sz_path HV1.out _ _ rfl rfl rfl 1 _ [.slice none 0 0] { c with Q := none, lq := 0, cq := 0 } rfl (by first | rfl | (unfold Act.eval; rfl)) rfl rfl (by intro u hu; simp at hu; rcases hu with rfl | rfl | rfl | rfl | rfl <;> rfl) (Nat.le_of_ble_eq_true rfl) (by kernel_rfl) ?_; intro W9 hv9 ho9; have HV2 := hd (HV2.out.off ho9 (by omega)); have HV1 := hd hv9; have HB := hd (off_below HB.out ho9 (by omega)); clear hv9 ho9)
    | ((with_reducible refine gd_store (ty := 27) ?_); refine wpList_store_fld sz_node HV1.out _ _ rfl rfl rfl 4 _ [.bool false, .slice none 0 0, .slice none 0 0, .slice none 0 0] { c with Q := none, lq := 0, cq := 0, lf := false, P := none, np := 0, pc := 0, X := none, nt := 0, tc := 0, K := none, nk := 0, kc := 0 } rfl (by first | rfl | (unfold Act.eval; rfl)) rfl rfl (by intro u hu; simp at hu; rcases hu with rfl | rfl | rfl | rfl | rfl <;> rfl) (Nat.le_of_ble_eq_true rfl) (by kernel_rfl) ?_; intro W9 hv9 ho9; have HV2 := hd (HV2.out.off ho9 (by omega)); have HV1 := hd hv9; have HB := hd (off_below HB.out ho9 (by omega)); clear hv9 ho9)
    | ((with_reducible refine gd_load (ty := 35) ?_); refine wpList_load_oc HV1.out _ rfl rfl rfl ?_)
    | ((with_reducible refine gd_store (ty := 35) (x := .tmp 2) ?_); refine wpList_store_var HV2.out _ _ rfl rfl rfl rfl rfl ?_; intro W9 hv9 ho9; have HV2 := hd hv9; have HB := hd (off_below HB.out ho9 (by omega)); clear hv9 ho9))
  refine bodyPost_ret (result_oc Try.results36 _ _ HV2.out rfl) rfl ⟨_, rfl, ?_, HB.out⟩
  have hr := ((ha.setQ (A := none) (n := 0) (d := 0) (l := []) rfl (by omega) (by omega) (IL.nil _ _ _) InI.nil).setN (zero_node _ _)).later HB.out
  have he : withoutO a = { a with q := [], n := zeroT } := by
    unfold withoutO
    simp [ha.hk, HKK.out]
  rw [he]
  exact hr
set_option maxRecDepth 100000 in
set_option maxHeartbeats 4000000 in
theorem bwith_3 (w : World) (c : OC) (a : OpP) (ha : OkA w c a) (hk : c.k = 3) : Calls Try.prog 36 #[.agg c.row] w (NewOp w (withoutO a)) := by
  have k1 : (c.k == 1) = false := by simp [hk]
  have k2 : (c.k == 2) = false := by simp [hk]
  have k3 : (c.k == 3) = true := by simp [hk]
  have k4 : (c.k == 4) = false := by simp [hk]
  have k5 : (c.k == 5) = false := by simp [hk]
  have k6 : (c.k == 6) = false := by simp [hk]
  have k7 : (c.k == 7) = false := by simp [hk]
  have k8 : (c.k == 8) = false := by simp [hk]
  have k9 : (c.k == 9) = false := by simp [hk]
  obtain ⟨W0, hW, hb0, hsz, e1, e2⟩ := two_vars w c
  have HV1 := hd e1
  have HV2 := hd e2
  have HW := hd hW
  have HB := hd hb0
  have HKK := hd hk
  clear hk
  clear hW hb0 hsz e1 e2
  go_enter Try.func36, Try.ntmps36
  go_upto_region 1 with fail
  rw [HW.out]
  have hg : w.heap.size ≤ w.heap.size + 1 := Nat.le_succ _
  go_wp2_with (first
    | ((with_reducible refine gd_load (ty := 3) ?_); refine wpList_load_f1 HV1.out (j := 0) (v := .int .i64 c.k) _ rfl rfl rfl rfl Try.underlying3 rfl ?_)
    | ((with_reducible refine gd_store (ty := 22) ?_); refine wpList_store_fld sz_path HV1.out _ _ rfl rfl rfl 1 _ [.slice none 0 0] { c with Q := none, lq := 0, cq := 0 } rfl (by first | rfl | (unfold Act.eval; rfl)) rfl rfl (by intro u hu; simp at hu; rcases hu with rfl | rfl | rfl | rfl | rfl <;> rfl) (Nat.le_of_ble_eq_true rfl) (by kernel_rfl) ?_; intro W9 hv9 ho9; have HV2 := hd (HV2.out.off ho9 (by omega)); have HV1 := hd hv9; have HB := hd (off_below HB.out ho9 (by omega)); clear hv9 ho9)
    | ((with_reducible refine gd_store (ty := 3) ?_); refine wpList_store_fld sz_int HV1.out _ _ rfl rfl rfl 3 _ [.int .i64 0] { c with Q := none, lq := 0, cq := 0, z := 0 } rfl (by first | rfl | (unfold Act.eval; rfl)) rfl rfl (by intro u hu; simp at hu; rcases hu with rfl | rfl | rfl | rfl | rfl <;> rfl) (Nat.le_of_ble_eq_true rfl) (by kernel_rfl) ?_; intro W9 hv9 ho9; have HV2 := hd (HV2.out.off ho9 (by omega)); have HV1 := hd hv9; have HB := hd (off_below HB.out ho9 (by omega)); clear hv9 ho9)
    | ((with_reducible refine gd_store (ty := 23) ?_); refine wpList_store_fld sz_props HV1.out _ _ rfl rfl rfl 8 _ [.slice none 0 0] { c with Q := none, lq := 0, cq := 0, z := 0, O := none, no := 0, co := 0 } rfl (by first | rfl | (unfold Act.eval; rfl)) rfl rfl (by intro u hu; simp at hu; rcases hu with rfl | rfl | rfl | rfl | rfl <;> rfl) (Nat.le_of_ble_eq_true rfl) (by kernel_rfl) ?_; intro W9 hv9 ho9; have HV2 := hd (HV2.out.off ho9 (by omega)); have HV1 := hd hv9; have HB := hd (off_below HB.out ho9 (by omega)); clear hv9 ho9)
    | ((with_reducible refine gd_load (ty := 35) ?_); refine wpList_load_oc HV1.out _ rfl rfl rfl ?_)
    | ((with_reducible refine gd_store (ty := 35) (x := .tmp 2) ?_); refine wpList_store_var HV2.out _ _ rfl rfl rfl rfl rfl ?_; intro W9 hv9 ho9; have HV2 := hd hv9; have HB := hd (off_below HB.out ho9 (by omega)); clear hv9 ho9))
  refine bodyPost_ret (result_oc Try.results36 _ _ HV2.out rfl) rfl ⟨_, rfl, ?_, HB.out⟩
  have hr := (((ha.setQ (A := none) (n := 0) (d := 0) (l := []) rfl (by omega) (by omega) (IL.nil _ _ _) InI.nil).setZ 0).setO (A := none) (n := 0) (d := 0) (l := []) rfl (by omega) (by omega) (PL.none _ _ _) Wide.none).later HB.out
  have he : withoutO a = { a with q := [], z := 0, o := [] } := by
    unfold withoutO
    simp [ha.hk, HKK.out]
  rw [he]
  exact hr
set_option maxRecDepth 100000 in
set_option maxHeartbeats 4000000 in
theorem bwith_4 (w : World) (c : OC) (a : OpP) (ha : OkA w c a) (hk : c.k = 4) : Calls Try.prog 36 #[.agg c.row] w (NewOp w (withoutO a)) := by
  have k1 : (c.k == 1) = false := by simp [hk]
  have k2 : (c.k == 2) = false := by simp [hk]
  have k3 : (c.k == 3) = false := by simp [hk]
  have k4 : (c.k == 4) = true := by simp [hk]
  have k5 : (c.k == 5) = false := by simp [hk]
  have k6 : (c.k == 6) = false := by simp [hk]
  have k7 : (c.k == 7) = false := by simp [hk]
  have k8 : (c.k == 8) = false := by simp [hk]
  have k9 : (c.k == 9) = false := by simp [hk]
  obtain ⟨W0, hW, hb0, hsz, e1, e2⟩ := two_vars w c
  have HV1 := hd e1
  have HV2 := hd e2
  have HW := hd hW
  have HB := hd hb0
  have HKK := hd hk
  clear hk
  clear hW hb0 hsz e1 e2
  go_enter Try.func36, Try.ntmps36
  go_upto_region 1 with fail
  rw [HW.out]
  have hg : w.heap.size ≤ w.heap.size + 1 := Nat.le_succ _
  go_wp2_with (first
    | ((with_reducible refine gd_load (ty := 3) ?_); refine wpList_load_f1 HV1.out (j := 0) (v := .int .i64 c.k) _ rfl rfl rfl rfl Try.underlying3 rfl ?_)
    | ((with_reducible refine gd_store (ty := 22) ?_); refine wpList_store_fld sz_path HV1.out _ _ rfl rfl rfl 1 _ [.slice none 0 0] { c with Q := none, lq := 0, cq := 0 } rfl (by first | rfl | (unfold Act.eval; rfl)) rfl rfl (by intro u hu; simp at hu; rcases hu with rfl | rfl | rfl | rfl | rfl <;> rfl) (Nat.le_of_ble_eq_true rfl) (by kernel_rfl) ?_; intro W9 hv9 ho9; have HV2 := hd (HV2.out.off ho9 (by omega)); have HV1 := hd hv9; have HB := hd (off_below HB.out ho9 (by omega)); clear hv9 ho9)
    | ((with_reducible refine gd_store (ty := 3) ?_); refine wpList_store_fld sz_int HV1.out _ _ rfl rfl rfl 3 _ [.int .i64 0] { c with Q := none, lq := 0, cq := 0, z := 0 } rfl (by first | rfl | (unfold Act.eval; rfl)) rfl rfl (by intro u hu; simp at hu; rcases hu with rfl | rfl | rfl | rfl | rfl <;> rfl) (Nat.le_of_ble_eq_true rfl) (by kernel_rfl) ?_; intro W9 hv9 ho9; have HV2 := hd (HV2.out.off ho9 (by omega)); have HV1 := hd hv9; have HB := hd (off_below HB.out ho9 (by omega)); clear hv9 ho9)
    | ((with_reducible refine gd_store (ty := 23) ?_); refine wpList_store_fld sz_props HV1.out _ _ rfl rfl rfl 9 _ [.slice none 0 0] { c with Q := none, lq := 0, cq := 0, z := 0, W := none, nw := 0, cw := 0 } rfl (by first | rfl | (unfold Act.eval; rfl)) rfl rfl (by intro u hu; simp at hu; rcases hu with rfl | rfl | rfl | rfl | rfl <;> rfl) (Nat.le_of_ble_eq_true rfl) (by kernel_rfl) ?_; intro W9 hv9 ho9; have HV2 := hd (HV2.out.off ho9 (by omega)); have HV1 := hd hv9; have HB := hd (off_below HB.out ho9 (by omega)); clear hv9 ho9)
    | ((with_reducible refine gd_load (ty := 35) ?_); refine wpList_load_oc HV1.out _ rfl rfl rfl ?_)
    | ((with_reducible refine gd_store (ty := 35) (x := .tmp 2) ?_); refine wpList_store_var HV2.out _ _ rfl rfl rfl rfl rfl ?_; intro W9 hv9 ho9; have HV2 := hd hv9; have HB := hd (off_below HB.out ho9 (by omega)); clear hv9 ho9))
  refine bodyPost_ret (result_oc Try.results36 _ _ HV2.out rfl) rfl ⟨_, rfl, ?_, HB.out⟩
  have hr := (((ha.setQ (A := none) (n := 0) (d := 0) (l := []) rfl (by omega) (by omega) (IL.nil _ _ _) InI.nil).setZ 0).setW (A := none) (n := 0) (d := 0) (l := []) rfl (by omega) (by omega) (PL.none _ _ _) Wide.none).later HB.out
  have he : withoutO a = { a with q := [], z := 0, w := [] } := by
    unfold withoutO
    simp [ha.hk, HKK.out]
  rw [he]
  exact hr
set_option maxRecDepth 100000 in
set_option maxHeartbeats 4000000 in
theorem bwith_5 (w : World) (c : OC) (a : OpP) (ha : OkA w c a) (hk : c.k = 5) : Calls Try.prog 36 #[.agg c.row] w (NewOp w (withoutO a)) := by
  have k1 : (c.k == 1) = false := by simp [hk]
  have k2 : (c.k == 2) = false := by simp [hk]
  have k3 : (c.k == 3) = false := by simp [hk]
  have k4 : (c.k == 4) = false := by simp [hk]
  have k5 : (c.k == 5) = true := by simp [hk]
  have k6 : (c.k == 6) = false := by simp [hk]
  have k7 : (c.k == 7) = false := by simp [hk]
  have k8 : (c.k == 8) = false := by simp [hk]
  have k9 : (c.k == 9) = false := by simp [hk]
  obtain ⟨W0, hW, hb0, hsz, e1, e2⟩ := two_vars w c
  have HV1 := hd e1
  have HV2 := hd e2
  have HW := hd hW
  have HB := hd hb0
  have HKK := hd hk
  clear hk
  clear hW hb0 hsz e1 e2
  go_enter Try.func36, Try.ntmps36
  go_upto_region 1 with fail
  rw [HW.out]
  have hg : w.heap.size ≤ w.heap.size + 1 := Nat.le_succ _
  go_wp2_with (first
    | ((with_reducible refine gd_load (ty := 3) ?_); refine wpList_load_f1 HV1.out (j := 0) (v := .int .i64 c.k) _ rfl rfl rfl rfl Try.underlying3 rfl ?_)
    | ((with_reducible refine gd_store (ty := 22) ?_); refine wpList_store_fld sz_path HV1.out _ _ rfl rfl rfl 1 _ [.slice none 0 0] { c with Q := none, lq := 0, cq := 0 } rfl (by first | rfl | (unfold Act.eval; rfl)) rfl rfl (by intro u hu; simp at hu; rcases hu with rfl | rfl | rfl | rfl | rfl <;> rfl) (Nat.le_of_ble_eq_true rfl) (by kernel_rfl) ?_; intro W9 hv9 ho9; have HV2 := hd (HV2.out.off ho9 (by omega)); have HV1 := hd hv9; have HB := hd (off_below HB.out ho9 (by omega)); clear hv9 ho9)
    | ((with_reducible refine gd_store (ty := 22) ?_); refine wpList_store_fld sz_path HV1.out _ _ rfl rfl rfl 2 _ [.slice none 0 0] { c with Q := none, lq := 0, cq := 0, T := none, lt := 0, ct := 0 } rfl (by first | rfl | (unfold Act.eval; rfl)) rfl rfl (by intro u hu; simp at hu; rcases hu with rfl | rfl | rfl | rfl | rfl <;> rfl) (Nat.le_of_ble_eq_true rfl) (by kernel_rfl) ?_; intro W9 hv9 ho9; have HV2 := hd (HV2.out.off ho9 (by omega)); have HV1 := hd hv9; have HB := hd (off_below HB.out ho9 (by omega)); clear hv9 ho9)
    | ((with_reducible refine gd_load (ty := 35) ?_); refine wpList_load_oc HV1.out _ rfl rfl rfl ?_)
    | ((with_reducible refine gd_store (ty := 35) (x := .tmp 2) ?_); refine wpList_store_var HV2.out _ _ rfl rfl rfl rfl rfl ?_; intro W9 hv9 ho9; have HV2 := hd hv9; have HB := hd (off_below HB.out ho9 (by omega)); clear hv9 ho9))
  refine bodyPost_ret (result_oc Try.results36 _ _ HV2.out rfl) rfl ⟨_, rfl, ?_, HB.out⟩
  have hr := ((ha.setQ (A := none) (n := 0) (d := 0) (l := []) rfl (by omega) (by omega) (IL.nil _ _ _) InI.nil).setT (A := none) (n := 0) (d := 0) (l := []) rfl (by omega) (by omega) (IL.nil _ _ _) InI.nil).later HB.out
  have he : withoutO a = { a with q := [], t := [] } := by
    unfold withoutO
    simp [ha.hk, HKK.out]
  rw [he]
  exact hr
set_option maxRecDepth 100000 in
set_option maxHeartbeats 4000000 in
theorem bwith_6 (w : World) (c : OC) (a : OpP) (ha : OkA w c a) (hk : c.k = 6) : Calls Try.prog 36 #[.agg c.row] w (NewOp w (withoutO a)) := by
  have k1 : (c.k == 1) = false := by simp [hk]
  have k2 : (c.k == 2) = false := by simp [hk]
  have k3 : (c.k == 3) = false := by simp [hk]
  have k4 : (c.k == 4) = false := by simp [hk]
  have k5 : (c.k == 5) = false := by simp [hk]
  have k6 : (c.k == 6) = true := by simp [hk]
  have k7 : (c.k == 7) = false := by simp [hk]
  have k8 : (c.k == 8) = false := by simp [hk]
  have k9 : (c.k == 9) = false := by simp [hk]
  obtain ⟨W0, hW, hb0, hsz, e1, e2⟩ := two_vars w c
  have HV1 := hd e1
  have HV2 := hd e2
  have HW := hd hW
  have HB := hd hb0
  have HKK := hd hk
  clear hk
  clear hW hb0 hsz e1 e2
  go_enter Try.func36, Try.ntmps36
  go_upto_region 1 with fail
  rw [HW.out]
  have hg : w.heap.size ≤ w.heap.size + 1 := Nat.le_succ _
  go_wp2_with (first
    | ((with_reducible refine gd_load (ty := 3) ?_); refine wpList_load_f1 HV1.out (j := 0) (v := .int .i64 c.k) _ rfl rfl rfl rfl Try.underlying3 rfl ?_)
    | ((with_reducible refine gd_store (ty := 22) ?_); refine wpList_store_fld sz_path HV1.out _ _ rfl rfl rfl 1 _ [.slice none 0 0] { c with Q := none, lq := 0, cq := 0 } rfl (by first | rfl | (unfold Act.eval; rfl)) rfl rfl (by intro u hu; simp at hu; rcases hu with rfl | rfl | rfl | rfl | rfl <;> rfl) (Nat.le_of_ble_eq_true rfl) (by kernel_rfl) ?_; intro W9 hv9 ho9; have HV2 := hd (HV2.out.off ho9 (by omega)); have HV1 := hd hv9; have HB := hd (off_below HB.out ho9 (by omega)); clear hv9 ho9)
    | ((with_reducible refine gd_store (ty := 23) ?_); refine wpList_store_fld sz_props HV1.out _ _ rfl rfl rfl 8 _ [.slice none 0 0] { c with Q := none, lq := 0, cq := 0, O := none, no := 0, co := 0 } rfl (by first | rfl | (unfold Act.eval; rfl)) rfl rfl (by intro u hu; simp at hu; rcases hu with rfl | rfl | rfl | rfl | rfl <;> rfl) (Nat.le_of_ble_eq_true rfl) (by kernel_rfl) ?_; intro W9 hv9 ho9; have HV2 := hd (HV2.out.off ho9 (by omega)); have HV1 := hd hv9; have HB := hd (off_below HB.out ho9 (by omega)); clear hv9 ho9)
    | ((with_reducible refine gd_store (ty := 23) ?_); refine wpList_store_fld sz_props HV1.out _ _ rfl rfl rfl 9 _ [.slice none 0 0] { c with Q := none, lq := 0, cq := 0, O := none, no := 0, co := 0, W := none, nw := 0, cw := 0 } rfl (by first | rfl | (unfold Act.eval; rfl)) rfl rfl (by intro u hu; simp at hu; rcases hu with rfl | rfl | rfl | rfl | rfl <;> rfl) (Nat.le_of_ble_eq_true rfl) (by kernel_rfl) ?_; intro W9 hv9 ho9; have HV2 := hd (HV2.out.off ho9 (by omega)); have HV1 := hd hv9; have HB := hd (off_below HB.out ho9 (by omega)); clear hv9 ho9)
    | ((with_reducible refine gd_load (ty := 35) ?_); refine wpList_load_oc HV1.out _ rfl rfl rfl ?_)
    | ((with_reducible refine gd_store (ty := 35) (x := .tmp 2) ?_); refine wpList_store_var HV2.out _ _ rfl rfl rfl rfl rfl ?_; intro W9 hv9 ho9; have HV2 := hd hv9; have HB := hd (off_below HB.out ho9 (by omega)); clear hv9 ho9))
  refine bodyPost_ret (result_oc Try.results36 _ _ HV2.out rfl) rfl ⟨_, rfl, ?_, HB.out⟩
  have hr := (((ha.setQ (A := none) (n := 0) (d := 0) (l := []) rfl (by omega) (by omega) (IL.nil _ _ _) InI.nil).setO (A := none) (n := 0) (d := 0) (l := []) rfl (by omega) (by omega) (PL.none _ _ _) Wide.none).setW (A := none) (n := 0) (d := 0) (l := []) rfl (by omega) (by omega) (PL.none _ _ _) Wide.none).later HB.out
  have he : withoutO a = { a with q := [], o := [], w := [] } := by
    unfold withoutO
    simp [ha.hk, HKK.out]
  rw [he]
  exact hr
set_option maxRecDepth 100000 in
set_option maxHeartbeats 4000000 in
theorem bwith_7 (w : World) (c : OC) (a : OpP) (ha : OkA w c a) (hk : c.k = 7) : Calls Try.prog 36 #[.agg c.row] w (NewOp w (withoutO a)) := by
  have k1 : (c.k == 1) = false := by simp [hk]
  have k2 : (c.k == 2) = false := by simp [hk]
  have k3 : (c.k == 3) = false := by simp [hk]
  have k4 : (c.k == 4) = false := by simp [hk]
  have k5 : (c.k == 5) = false := by simp [hk]
  have k6 : (c.k == 6) = false := by simp [hk]
  have k7 : (c.k == 7) = true := by simp [hk]
  have k8 : (c.k == 8) = false := by simp [hk]
  have k9 : (c.k == 9) = false := by simp [hk]
  obtain ⟨W0, hW, hb0, hsz, e1, e2⟩ := two_vars w c
  have HV1 := hd e1
  have HV2 := hd e2
  have HW := hd hW
  have HB := hd hb0
  have HKK := hd hk
  clear hk
  clear hW hb0 hsz e1 e2
  go_enter Try.func36, Try.ntmps36
  go_upto_region 1 with fail
  rw [HW.out]
  have hg : w.heap.size ≤ w.heap.size + 1 := Nat.le_succ _
  go_wp2_with (first
    | ((with_reducible refine gd_load (ty := 3) ?_); refine wpList_load_f1 HV1.out (j := 0) (v := .int .i64 c.k) _ rfl rfl rfl rfl Try.underlying3 rfl ?_)
    | ((with_reducible refine gd_store (ty := 22) ?_); refine wpList_store_fld sz_path HV1.out _ _ rfl rfl rfl 1 _ [.slice none 0 0] { c with Q := none, lq := 0, cq := 0 } rfl (by first | rfl | (unfold Act.eval; rfl)) rfl rfl (by intro u hu; simp at hu; rcases hu with rfl | rfl | rfl | rfl | rfl <;> rfl) (Nat.le_of_ble_eq_true rfl) (by kernel_rfl) ?_; intro W9 hv9 ho9; have HV2 := hd (HV2.out.off ho9 (by omega)); have HV1 := hd hv9; have HB := hd (off_below HB.out ho9 (by omega)); clear hv9 ho9)
    | ((with_reducible refine gd_store (ty := 3) ?_); refine wpList_store_fld sz_int HV1.out _ _ rfl rfl rfl 3 _ [.int .i64 0] { c with Q := none, lq := 0, cq := 0, z := 0 } rfl (by first | rfl | (unfold Act.eval; rfl)) rfl rfl (by intro u hu; simp at hu; rcases hu with rfl | rfl | rfl | rfl | rfl <;> rfl) (Nat.le_of_ble_eq_true rfl) (by kernel_rfl) ?_; intro W9 hv9 ho9; have HV2 := hd (HV2.out.off ho9 (by omega)); have HV1 := hd hv9; have HB := hd (off_below HB.out ho9 (by omega)); clear hv9 ho9)
    | ((with_reducible refine gd_store (ty := 24) ?_); refine wpList_store_fld sz_text HV1.out _ _ rfl rfl rfl 10 _ [.slice none 0 0] { c with Q := none, lq := 0, cq := 0, z := 0, S := none, nx := 0, cx := 0 } rfl (by first | rfl | (unfold Act.eval; rfl)) rfl rfl (by intro u hu; simp at hu; rcases hu with rfl | rfl | rfl | rfl | rfl <;> rfl) (Nat.le_of_ble_eq_true rfl) (by kernel_rfl) ?_; intro W9 hv9 ho9; have HV2 := hd (HV2.out.off ho9 (by omega)); have HV1 := hd hv9; have HB := hd (off_below HB.out ho9 (by omega)); clear hv9 ho9)
    | ((with_reducible refine gd_load (ty := 35) ?_); refine wpList_load_oc HV1.out _ rfl rfl rfl ?_)
    | ((with_reducible refine gd_store (ty := 35) (x := .tmp 2) ?_); refine wpList_store_var HV2.out _ _ rfl rfl rfl rfl rfl ?_; intro W9 hv9 ho9; have HV2 := hd hv9; have HB := hd (off_below HB.out ho9 (by omega)); clear hv9 ho9))
  refine bodyPost_ret (result_oc Try.results36 _ _ HV2.out rfl) rfl ⟨_, rfl, ?_, HB.out⟩
  have hr := (((ha.setQ (A := none) (n := 0) (d := 0) (l := []) rfl (by omega) (by omega) (IL.nil _ _ _) InI.nil).setZ 0).setX (A := none) (n := 0) (d := 0) (l := []) rfl (by omega) (by omega) (VL.nil _ _ _)).later HB.out
  have he : withoutO a = { a with q := [], z := 0, x := [] } := by
    unfold withoutO
    simp [ha.hk, HKK.out]
  rw [he]
  exact hr
set_option maxRecDepth 100000 in
set_option maxHeartbeats 4000000 in
theorem bwith_8 (w : World) (c : OC) (a : OpP) (ha : OkA w c a) (hk : c.k = 8) : Calls Try.prog 36 #[.agg c.row] w (NewOp w (withoutO a)) := by
  have k1 : (c.k == 1) = false := by simp [hk]
  have k2 : (c.k == 2) = false := by simp [hk]
  have k3 : (c.k == 3) = false := by simp [hk]
  have k4 : (c.k == 4) = false := by simp [hk]
  have k5 : (c.k == 5) = false := by simp [hk]
  have k6 : (c.k == 6) = false := by simp [hk]
  have k7 : (c.k == 7) = false := by simp [hk]
  have k8 : (c.k == 8) = true := by simp [hk]
  have k9 : (c.k == 9) = false := by simp [hk]
  obtain ⟨W0, hW, hb0, hsz, e1, e2⟩ := two_vars w c
  have HV1 := hd e1
  have HV2 := hd e2
  have HW := hd hW
  have HB := hd hb0
  have HKK := hd hk
  clear hk
  clear hW hb0 hsz e1 e2
  go_enter Try.func36, Try.ntmps36
  go_upto_region 1 with fail
  rw [HW.out]
  have hg : w.heap.size ≤ w.heap.size + 1 := Nat.le_succ _
  go_wp2_with (first
    | ((with_reducible refine gd_load (ty := 3) ?_); refine wpList_load_f1 HV1.out (j := 0) (v := .int .i64 c.k) _ rfl rfl rfl rfl Try.underlying3 rfl ?_)
    | ((with_reducible refine gd_store (ty := 22) ?_); refine wpList_store_fld sz_path HV1.out _ _ rfl rfl rfl 1 _ [.slice none 0 0] { c with Q := none, lq := 0, cq := 0 } rfl (by first | rfl | (unfold Act.eval; rfl)) rfl rfl (by intro u hu; simp at hu; rcases hu with rfl | rfl | rfl | rfl | rfl <;> rfl) (Nat.le_of_ble_eq_true rfl) (by kernel_rfl) ?_; intro W9 hv9 ho9; have HV2 := hd (HV2.out.off ho9 (by omega)); have HV1 := hd hv9; have HB := hd (off_below HB.out ho9 (by omega)); clear hv9 ho9)
    | ((with_reducible refine gd_store (ty := 3) ?_); refine wpList_store_fld sz_int HV1.out _ _ rfl rfl rfl 3 _ [.int .i64 0] { c with Q := none, lq := 0, cq := 0, z := 0 } rfl (by first | rfl | (unfold Act.eval; rfl)) rfl rfl (by intro u hu; simp at hu; rcases hu with rfl | rfl | rfl | rfl | rfl <;> rfl) (Nat.le_of_ble_eq_true rfl) (by kernel_rfl) ?_; intro W9 hv9 ho9; have HV2 := hd (HV2.out.off ho9 (by omega)); have HV1 := hd hv9; have HB := hd (off_below HB.out ho9 (by omega)); clear hv9 ho9)
    | ((with_reducible refine gd_store (ty := 24) ?_); refine wpList_store_fld sz_text HV1.out _ _ rfl rfl rfl 10 _ [.slice none 0 0] { c with Q := none, lq := 0, cq := 0, z := 0, S := none, nx := 0, cx := 0 } rfl (by first | rfl | (unfold Act.eval; rfl)) rfl rfl (by intro u hu; simp at hu; rcases hu with rfl | rfl | rfl | rfl | rfl <;> rfl) (Nat.le_of_ble_eq_true rfl) (by kernel_rfl) ?_; intro W9 hv9 ho9; have HV2 := hd (HV2.out.off ho9 (by omega)); have HV1 := hd hv9; have HB := hd (off_below HB.out ho9 (by omega)); clear hv9 ho9)
    | ((with_reducible refine gd_load (ty := 35) ?_); refine wpList_load_oc HV1.out _ rfl rfl rfl ?_)
    | ((with_reducible refine gd_store (ty := 35) (x := .tmp 2) ?_); refine wpList_store_var HV2.out _ _ rfl rfl rfl rfl rfl ?_; intro W9 hv9 ho9; have HV2 := hd hv9; have HB := hd (off_below HB.out ho9 (by omega)); clear hv9 ho9))
  refine bodyPost_ret (result_oc Try.results36 _ _ HV2.out rfl) rfl ⟨_, rfl, ?_, HB.out⟩
  have hr := (((ha.setQ (A := none) (n := 0) (d := 0) (l := []) rfl (by omega) (by omega) (IL.nil _ _ _) InI.nil).setZ 0).setX (A := none) (n := 0) (d := 0) (l := []) rfl (by omega) (by omega) (VL.nil _ _ _)).later HB.out
  have he : withoutO a = { a with q := [], z := 0, x := [] } := by
    unfold withoutO
    simp [ha.hk, HKK.out]
  rw [he]
  exact hr
set_option maxRecDepth 100000 in
set_option maxHeartbeats 4000000 in
theorem bwith_9 (w : World) (c : OC) (a : OpP) (ha : OkA w c a) (hk : c.k = 9) : Calls Try.prog 36 #[.agg c.row] w (NewOp w (withoutO a)) := by
  have k1 : (c.k == 1) = false := by simp [hk]
  have k2 : (c.k == 2) = false := by simp [hk]
  have k3 : (c.k == 3) = false := by simp [hk]
  have k4 : (c.k == 4) = false := by simp [hk]
  have k5 : (c.k == 5) = false := by simp [hk]
  have k6 : (c.k == 6) = false := by simp [hk]
  have k7 : (c.k == 7) = false := by simp [hk]
  have k8 : (c.k == 8) = false := by simp [hk]
  have k9 : (c.k == 9) = true := by simp [hk]
  obtain ⟨W0, hW, hb0, hsz, e1, e2⟩ := two_vars w c
  have HV1 := hd e1
  have HV2 := hd e2
  have HW := hd hW
  have HB := hd hb0
  have HKK := hd hk
  clear hk
  clear hW hb0 hsz e1 e2
  go_enter Try.func36, Try.ntmps36
  go_upto_region 1 with fail
  rw [HW.out]
  have hg : w.heap.size ≤ w.heap.size + 1 := Nat.le_succ _
  go_wp2_with (first
    | ((with_reducible refine gd_load (ty := 3) ?_); refine wpList_load_f1 HV1.out (j := 0) (v := .int .i64 c.k) _ rfl rfl rfl rfl Try.underlying3 rfl ?_)
    | ((with_reducible refine gd_store (ty := 33) ?_); refine wpList_store_fld sz_sel HV1.out _ _ rfl rfl rfl 11 _ [.bool false, .slice none 0 0, .int .i64 0, .slice none 0 0, .int .i64 0] { c with fi := false, F1 := none, f1 := 0, d1 := 0, fo := 0, F2 := none, f2 := 0, d2 := 0, fp := 0 } rfl (by first | rfl | (unfold Act.eval; rfl)) rfl rfl (by intro u hu; simp at hu; rcases hu with rfl | rfl | rfl | rfl | rfl <;> rfl) (Nat.le_of_ble_eq_true rfl) (by kernel_rfl) ?_; intro W9 hv9 ho9; have HV2 := hd (HV2.out.off ho9 (by omega)); have HV1 := hd hv9; have HB := hd (off_below HB.out ho9 (by omega)); clear hv9 ho9)
    | ((with_reducible refine gd_store (ty := 33) ?_); refine wpList_store_fld sz_sel HV1.out _ _ rfl rfl rfl 16 _ [.bool false, .slice none 0 0, .int .i64 0, .slice none 0 0, .int .i64 0] { c with fi := false, F1 := none, f1 := 0, d1 := 0, fo := 0, F2 := none, f2 := 0, d2 := 0, fp := 0, gi := false, G1 := none, g1 := 0, e1 := 0, go := 0, G2 := none, g2 := 0, e2 := 0, gp := 0 } rfl (by first | rfl | (unfold Act.eval; rfl)) rfl rfl (by intro u hu; simp at hu; rcases hu with rfl | rfl | rfl | rfl | rfl <;> rfl) (Nat.le_of_ble_eq_true rfl) (by kernel_rfl) ?_; intro W9 hv9 ho9; have HV2 := hd (HV2.out.off ho9 (by omega)); have HV1 := hd hv9; have HB := hd (off_below HB.out ho9 (by omega)); clear hv9 ho9)
    | ((with_reducible refine gd_load (ty := 35) ?_); refine wpList_load_oc HV1.out _ rfl rfl rfl ?_)
    | ((with_reducible refine gd_store (ty := 35) (x := .tmp 2) ?_); refine wpList_store_var HV2.out _ _ rfl rfl rfl rfl rfl ?_; intro W9 hv9 ho9; have HV2 := hd hv9; have HB := hd (off_below HB.out ho9 (by omega)); clear hv9 ho9))
  refine bodyPost_ret (result_oc Try.results36 _ _ HV2.out rfl) rfl ⟨_, rfl, ?_, HB.out⟩
  have hr := ((ha.setF (SelA.zero _)).setG (SelA.zero _)).later HB.out
  have he : withoutO a = { a with f := zeroS, g := zeroS } := by
    unfold withoutO
    simp [ha.hk, HKK.out]
  rw [he]
  exact hr
set_option maxRecDepth 100000 in
set_option maxHeartbeats 4000000 in
theorem bwith_0 (w : World) (c : OC) (a : OpP) (ha : OkA w c a) (hk : ¬ (1 ≤ c.k ∧ c.k ≤ 9)) : Calls Try.prog 36 #[.agg c.row] w (NewOp w (withoutO a)) := by
  have k1 : (c.k == 1) = false := by simp; omega
  have k2 : (c.k == 2) = false := by simp; omega
  have k3 : (c.k == 3) = false := by simp; omega
  have k4 : (c.k == 4) = false := by simp; omega
  have k5 : (c.k == 5) = false := by simp; omega
  have k6 : (c.k == 6) = false := by simp; omega
  have k7 : (c.k == 7) = false := by simp; omega
  have k8 : (c.k == 8) = false := by simp; omega
  have k9 : (c.k == 9) = false := by simp; omega
  obtain ⟨W0, hW, hb0, hsz, e1, e2⟩ := two_vars w c
  have HV1 := hd e1
  have HV2 := hd e2
  have HW := hd hW
  have HB := hd hb0
  have HKK := hd hk
  clear hk
  clear hW hb0 hsz e1 e2
  go_enter Try.func36, Try.ntmps36
  go_upto_region 1 with fail
  rw [HW.out]
  have hg : w.heap.size ≤ w.heap.size + 1 := Nat.le_succ _
  go_wp2_with (first
    | ((with_reducible refine gd_load (ty := 3) ?_); refine wpList_load_f1 HV1.out (j := 0) (v := .int .i64 c.k) _ rfl rfl rfl rfl Try.underlying3 rfl ?_)
    | ((with_reducible refine gd_load (ty := 35) ?_); refine wpList_load_oc HV1.out _ rfl rfl rfl ?_)
    | ((with_reducible refine gd_store (ty := 35) (x := .tmp 2) ?_); refine wpList_store_var HV2.out _ _ rfl rfl rfl rfl rfl ?_; intro W9 hv9 ho9; have HV2 := hd hv9; have HB := hd (off_below HB.out ho9 (by omega)); clear hv9 ho9))
  refine bodyPost_ret (result_oc Try.results36 _ _ HV2.out rfl) rfl ⟨_, rfl, ?_, HB.out⟩
  have hr := ha.later HB.out
  have he : withoutO a = a := by
    unfold withoutO
    have hk := HKK.out
    rw [ha.hk, if_neg (by omega), if_neg (by omega), if_neg (by omega), if_neg (by omega), if_neg (by omega), if_neg (by omega), if_neg (by omega), if_neg (by omega), if_neg (by omega)]
  rw [he]
  exact hr
set_option maxRecDepth 4000 in
theorem without_any (w : World) (c : OC) (a : OpP) (ha : OkA w c a) : Calls Try.prog 36 #[.agg c.row] w (NewOp w (withoutO a)) := by
  by_cases h : 1 ≤ c.k ∧ c.k ≤ 9
  · rcases kinds h.1 h.2 with h | h | h | h | h | h | h | h | h
    · exact bwith_1 w c a ha h
    · exact bwith_2 w c a ha h
    · exact bwith_3 w c a ha h
    · exact bwith_4 w c a ha h
    · exact bwith_5 w c a ha h
    · exact bwith_6 w c a ha h
    · exact bwith_7 w c a ha h
    · exact bwith_8 w c a ha h
    · exact bwith_9 w c a ha h
  · exact bwith_0 w c a ha h

end Go.Proofs.Ytdjajpookmmafaa
