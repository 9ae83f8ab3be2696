/- The one that undoes an operation: Inverse, otherHalf. -/
import Derived.Test.YtdjajpookmmafaaBFresh
import Derived.Test.YtdjajpookmmafaaBForm
namespace Go.Proofs.Ytdjajpookmmafaa
open Go.RowKit

theorem backL_err (l : List Int) : (backL l).2 = 0 ∨ (backL l).1 = [] := by unfold backL; split <;> (try split) <;> simp
set_option maxRecDepth 4000 in
theorem nextL_err (l : List Int) : (nextL l).2 = 0 ∨ (nextL l).1 = [] := by unfold nextL; split <;> (try split) <;> simp
set_option maxRecDepth 100000 in
set_option maxHeartbeats 4000000 in
theorem bhalf_3 (w : World) (c : OC) (a : OpP) (ha : OkA w c a) (ta : Tiny a) (hk : (c.k == 3) = true) : Calls Try.prog 28 #[.agg c.row] w (NewPE w (backL a.q)) := by
  have hb0 := new_below w (.cells c.row 35)
  obtain ⟨W0, hW⟩ : ∃ W0, w.alloc (.cells c.row 35) = W0 := ⟨_, rfl⟩
  have e1 := VarO.new w c
  rw [hW] at hb0 e1
  have HW := hd hW
  have HBE := hd hb0
  have HOA := hd (ha.later hb0)
  have HTA := hd ta
  have uk := e1.ck
  have uq := e1.cq
  have hlq : c.lq ≤ 1000 := by have := ta.hq; have := ha.hlq; omega
  clear hW hb0 e1 ha ta
  obtain ⟨⟨p, er⟩, hr⟩ : ∃ r, backL a.q = r := ⟨_, rfl⟩
  rw [hr]
  have HC := hd (hr ▸ back_any c.Q a.q c.lq c.cq W0 HOA.out.hlq hlq HOA.out.hiq HOA.out.hq)
  clear hr
  go_enter Try.func28, Try.ntmps28
  go_upto_region 1 with fail
  rw [HW.out]
  go_wp2_with (go_at_call 50; refine HC.out.mono ?_; rintro e w9 ⟨v9, rfl, ho9, hb9⟩)
  go_ret2
  exact ⟨v9, rfl, ho9.weaken HBE.out.size, HBE.out.trans (hb9.mono HBE.out.size)⟩
set_option maxRecDepth 100000 in
set_option maxHeartbeats 4000000 in
theorem bhalf_4 (w : World) (c : OC) (a : OpP) (ha : OkA w c a) (ta : Tiny a) (hk : (c.k == 3) = false) : Calls Try.prog 28 #[.agg c.row] w (NewPE w (nextL a.q)) := by
  have hb0 := new_below w (.cells c.row 35)
  obtain ⟨W0, hW⟩ : ∃ W0, w.alloc (.cells c.row 35) = W0 := ⟨_, rfl⟩
  have e1 := VarO.new w c
  rw [hW] at hb0 e1
  have HW := hd hW
  have HBE := hd hb0
  have HOA := hd (ha.later hb0)
  have HTA := hd ta
  have uk := e1.ck
  have uq := e1.cq
  have hlq : c.lq ≤ 1000 := by have := ta.hq; have := ha.hlq; omega
  clear hW hb0 e1 ha ta
  obtain ⟨⟨p, er⟩, hr⟩ : ∃ r, nextL a.q = r := ⟨_, rfl⟩
  rw [hr]
  have HC := hd (hr ▸ next_any c.Q a.q c.lq c.cq W0 HOA.out.hlq hlq HOA.out.hiq HOA.out.hq)
  clear hr
  go_enter Try.func28, Try.ntmps28
  go_upto_region 1 with fail
  rw [HW.out]
  go_wp2_with (go_at_call 51; refine HC.out.mono ?_; rintro e w9 ⟨v9, rfl, ho9, hb9⟩)
  go_ret2
  exact ⟨v9, rfl, ho9.weaken HBE.out.size, HBE.out.trans (hb9.mono HBE.out.size)⟩
/-- The variables of Inverse: what came in, what is told, what is made. -/
structure InvSt (w w4 w5 : World) (c cx : OC) (W : World) : Prop where
  v1 : VarO W w.heap.size c
  v2 : VarO W (w.heap.size + 1) OC.zero
  v3 : VarO W w5.heap.size cx
  below : Below w.heap.size w W
  mid : Mid w4.heap.size w5.heap.size w5 W
  lo : w.heap.size + 1 < w4.heap.size
  hi : w4.heap.size ≤ w5.heap.size
section
variable {w w4 w5 W W' : World} {c cx cy : OC}
set_option maxRecDepth 4000 in
theorem InvSt.call (h : InvSt w w4 w5 c cx W) (hb : Below W.heap.size W W') : InvSt w w4 w5 c cx W' := ⟨h.v1.keep hb, h.v2.keep hb, h.v3.keep hb, step_b h.below hb, h.mid.below hb (Nat.le_of_lt h.v3.lt), h.lo, h.hi⟩
set_option maxRecDepth 4000 in
theorem InvSt.put (h : InvSt w w4 w5 c cx W) (hv : VarO W' w5.heap.size cy) (ho : Off w5.heap.size W W') : InvSt w w4 w5 c cy W' :=
  ⟨h.v1.off ho (by have := h.lo; have := h.hi; omega), h.v2.off ho (by have := h.lo; have := h.hi; omega), hv, off_below h.below ho (by have := h.lo; have := h.hi; omega), h.mid.off ho (Nat.le_of_lt h.v3.lt) (.inr (Nat.le_refl _)), h.lo, h.hi⟩
set_option maxRecDepth 4000 in
theorem InvSt.made (h1 : VarO w5 w.heap.size c) (h2 : VarO w5 (w.heap.size + 1) OC.zero) (hb : Below w.heap.size w w5) (hlo : w.heap.size + 1 < w4.heap.size) (hhi : w4.heap.size ≤ w5.heap.size) : InvSt w w4 w5 c cx (w5.alloc (.cells cx.row 35)) := by
  have hb9 := new_below w5 (.cells (OC.row cx) 35)
  exact ⟨h1.keep hb9, h2.keep hb9, VarO.new w5 cx, step_b hb hb9, (Mid.refl _ _ _).below hb9 (Nat.le_refl _), hlo, hhi⟩
set_option maxRecDepth 4000 in
/-- What is told in the end: its block alone has changed. -/
theorem InvSt.told (h : InvSt w w4 w5 c cx W) (ho : Off (w.heap.size + 1) W W') : Below w.heap.size w W' ∧ Mid w4.heap.size w5.heap.size w5 W' :=
  ⟨off_below h.below ho (Nat.le_succ _), h.mid.off ho (Nat.le_of_lt h.v3.lt) (.inl h.lo)⟩
end
set_option maxRecDepth 4000 in
theorem undo_in (k : Int) : In64 (undoK k) := by
  unfold undoK In64
  repeat' split
  all_goals omega
set_option maxRecDepth 100000 in
set_option maxHeartbeats 4000000 in
theorem binv_bad (w : World) (c : OC) (a : OpP) (ha : OkA w c a) (ta : Tiny a) (he : formE a = 1) : Calls Try.prog 11 #[.agg c.row] w (NewOES w (zeroO, 1)) := by
  have HE := hd he
  clear he
  obtain ⟨W0, hW, hb0, hsz, e1, e2⟩ := two_vars w c
  have HV1 := hd e1
  have HV2 := hd e2
  have HW := hd hW
  have HB := hd hb0
  have HH := hd ha
  have HTA := hd ta
  have HSZ := hd hsz
  clear hW hb0 e1 e2 ha ta hsz
  go_enter Try.func11, Try.ntmps11
  go_upto_region 1 with fail
  rw [HW.out]
  go_wp2_with (first
    | ((with_reducible refine gd_load (ty := 35) (x := .tmp 1) ?_); refine wpList_load_oc HV1.out _ rfl rfl rfl ?_)
    | (go_at_call 14; refine (form_at (HH.out.later HB.out) HTA.out HE.out).mono ?_; rintro e w4 ⟨rfl, b4⟩; have HV1 := hd (HV1.out.keep b4); have HV2 := hd (HV2.out.keep b4); have HB := hd (step_b HB.out b4); clear b4)
    | ((with_reducible refine gd_store (ty := 35) (x := .tmp 2) ?_); refine wpList_store_var (c := OC.zero) HV2.out _ _ rfl rfl rfl rfl rfl ?_; intro W9 hv9 ho9; have HV2 := hd hv9; have HB := hd (off_below HB.out ho9 (Nat.le_succ _)); clear hv9 ho9))
  refine bodyPost_ret (result_oc2 Try.results11 _ _ HV2.out rfl) rfl ⟨OC.zero, rfl, fun W _ => OkA.zero W, HB.out⟩
set_option maxRecDepth 100000 in
set_option maxHeartbeats 4000000 in
theorem binv_0 (w : World) (c : OC) (a : OpP) (ha : OkA w c a) (ta : Tiny a) (he : formE a = 0) (hk : ¬ (c.k = 3 ∨ c.k = 4 ∨ c.k = 5 ∨ c.k = 6 ∨ c.k = 9)) : Calls Try.prog 11 #[.agg c.row] w (NewOES w ({ a with k := undoK c.k }, 0)) := by
  have k3 : (c.k == 3) = false := by simp; omega
  have k4 : (c.k == 4) = false := by simp; omega
  have k6 : (c.k == 6) = false := by simp; omega
  have k5 : (c.k == 5) = false := by simp; omega
  have k9 : (c.k == 9) = false := by simp; omega
  have HKK := hd hk
  clear hk
  have HIK := hd (show In64 c.k from ha.hk ▸ ha.hik)
  obtain ⟨u, hu⟩ : ∃ u, undoK c.k = u := ⟨_, rfl⟩
  have HU := hd hu
  have HIU := hd (show In64 u by rw [← hu]; exact undo_in c.k)
  clear hu
  have HE := hd he
  clear he
  obtain ⟨W0, hW, hb0, hsz, e1, e2⟩ := two_vars w c
  have HV1 := hd e1
  have HV2 := hd e2
  have HW := hd hW
  have HB := hd hb0
  have HH := hd ha
  have HTA := hd ta
  have HSZ := hd hsz
  clear hW hb0 e1 e2 ha ta hsz
  go_enter Try.func11, Try.ntmps11
  go_upto_region 1 with fail
  rw [HW.out]
  go_wp2_with (first
    | ((with_reducible refine gd_load (ty := 35) (x := .tmp 1) ?_); refine wpList_load_oc HV1.out _ rfl rfl rfl ?_)
    | (go_at_call 14; refine (form_at (HH.out.later HB.out) HTA.out HE.out).mono ?_; rintro e w4 ⟨rfl, b4⟩; have HV1 := hd (HV1.out.keep b4); have HV2 := hd (HV2.out.keep b4); have HB := hd (step_b HB.out b4); clear b4)
    | (go_at_call 26; refine (fresh_at _ c a (HH.out.later HB.out) HTA.out).mono ?_; rintro e w5 ⟨cx, rfl, hs5, b5⟩; have HS5 := hd hs5; have HLO := hd (show w.heap.size + 1 < w4.heap.size from HV2.out.lt); have HHI := hd b5.size; have HV1 := hd (HV1.out.keep b5); have HV2 := hd (HV2.out.keep b5); have HB := hd (step_b HB.out b5); clear hs5 b5)
    | ((with_reducible refine gd_store (ty := 35) (x := .tmp 5) ?_); refine wpList_store_oc (c := cx) _ _ rfl rfl rfl rfl rfl rfl rfl ?_; have HI := hd (InvSt.made (cx := cx) HV1.out HV2.out HB.out HLO.out HHI.out))
    | ((with_reducible refine gd_load (ty := 3) ?_); refine wpList_load_f1 HI.out.v1 (j := 0) (v := .int .i64 c.k) _ rfl rfl rfl rfl Try.underlying3 rfl ?_)
    | (go_at_call 27; refine Calls.mono (undoing_any _ HIK.out _) ?_; rintro e w9 ⟨rfl, b9⟩; have HI := hd (HI.out.call b9); clear b9; rw [HU.out])
    | ((with_reducible refine gd_store (ty := 3) (x := .tmp 19) ?_); refine wpList_store_fld sz_int HI.out.v3 _ _ rfl rfl rfl 0 _ [.int .i64 u] { cx with k := u } rfl rfl rfl rfl (by intro u hu; simp at hu; rcases hu with rfl | rfl | rfl | rfl | rfl <;> rfl) (Nat.le_of_ble_eq_true rfl) (by kernel_rfl) ?_; intro W9 hv9 ho9; have HI2 := hd (HI.out.put hv9 ho9); have HI := hd HI2.out; clear HI2 hv9 ho9)
    | ((with_reducible refine gd_load (ty := 35) (x := .tmp 5) ?_); refine wpList_load_oc HI.out.v3 _ rfl rfl rfl ?_)
    | ((with_reducible refine gd_store (ty := 35) (x := .tmp 2) ?_); refine wpList_store_var HI.out.v2 _ _ rfl rfl rfl rfl rfl ?_; intro W9 hv9 ho9; have HV2 := hd hv9; have HT := hd (HI.out.told ho9); have HOF := hd ho9; clear hv9 ho9))
  obtain ⟨hb9, hm9⟩ := HT.out
  refine bodyPost_ret (result_oc2 Try.results11 _ _ HV2.out rfl) rfl ⟨{ cx with k := u }, rfl, fun W hw => ?_, hb9⟩
  have h := HS5.out W (hm9.high (hw.mono (by have := HLO.out; omega)))
  show OkA W _ { a with k := undoK c.k }
  rw [HU.out]
  exact h.setK HIU.out
set_option maxRecDepth 100000 in
set_option maxHeartbeats 4000000 in
theorem binv_6 (w : World) (c : OC) (a : OpP) (ha : OkA w c a) (ta : Tiny a) (he : formE a = 0) (hk : c.k = 6) : Calls Try.prog 11 #[.agg c.row] w (NewOES w ({ a with k := undoK c.k, o := a.w, w := a.o }, 0)) := by
  have k3 : (c.k == 3) = false := by simp [hk]
  have k4 : (c.k == 4) = false := by simp [hk]
  have k6 : (c.k == 6) = true := by simp [hk]
  have k5 : (c.k == 5) = false := by simp [hk]
  have k9 : (c.k == 9) = false := by simp [hk]
  have HKK := hd hk
  clear hk
  have HIK := hd (show In64 c.k from ha.hk ▸ ha.hik)
  obtain ⟨u, hu⟩ : ∃ u, undoK c.k = u := ⟨_, rfl⟩
  have HU := hd hu
  have HIU := hd (show In64 u by rw [← hu]; exact undo_in c.k)
  clear hu
  have HE := hd he
  clear he
  obtain ⟨W0, hW, hb0, hsz, e1, e2⟩ := two_vars w c
  have HV1 := hd e1
  have HV2 := hd e2
  have HW := hd hW
  have HB := hd hb0
  have HH := hd ha
  have HTA := hd ta
  have HSZ := hd hsz
  clear hW hb0 e1 e2 ha ta hsz
  go_enter Try.func11, Try.ntmps11
  go_upto_region 1 with fail
  rw [HW.out]
  go_wp2_with (first
    | ((with_reducible refine gd_load (ty := 35) (x := .tmp 1) ?_); refine wpList_load_oc HV1.out _ rfl rfl rfl ?_)
    | (go_at_call 14; refine (form_at (HH.out.later HB.out) HTA.out HE.out).mono ?_; rintro e w4 ⟨rfl, b4⟩; have HV1 := hd (HV1.out.keep b4); have HV2 := hd (HV2.out.keep b4); have HB := hd (step_b HB.out b4); clear b4)
    | (go_at_call 26; refine (fresh_at _ c a (HH.out.later HB.out) HTA.out).mono ?_; rintro e w5 ⟨cx, rfl, hs5, b5⟩; have HS5 := hd hs5; have HLO := hd (show w.heap.size + 1 < w4.heap.size from HV2.out.lt); have HHI := hd b5.size; have HV1 := hd (HV1.out.keep b5); have HV2 := hd (HV2.out.keep b5); have HB := hd (step_b HB.out b5); clear hs5 b5)
    | ((with_reducible refine gd_store (ty := 35) (x := .tmp 5) ?_); refine wpList_store_oc (c := cx) _ _ rfl rfl rfl rfl rfl rfl rfl ?_; have HI := hd (InvSt.made (cx := cx) HV1.out HV2.out HB.out HLO.out HHI.out))
    | ((with_reducible refine gd_load (ty := 3) ?_); refine wpList_load_f1 HI.out.v1 (j := 0) (v := .int .i64 c.k) _ rfl rfl rfl rfl Try.underlying3 rfl ?_)
    | (go_at_call 27; refine Calls.mono (undoing_any _ HIK.out _) ?_; rintro e w9 ⟨rfl, b9⟩; have HI := hd (HI.out.call b9); clear b9; rw [HU.out])
    | ((with_reducible refine gd_store (ty := 3) (x := .tmp 19) ?_); refine wpList_store_fld sz_int HI.out.v3 _ _ rfl rfl rfl 0 _ [.int .i64 u] { cx with k := u } rfl rfl rfl rfl (by intro u hu; simp at hu; rcases hu with rfl | rfl | rfl | rfl | rfl <;> rfl) (Nat.le_of_ble_eq_true rfl) (by kernel_rfl) ?_; intro W9 hv9 ho9; have HI2 := hd (HI.out.put hv9 ho9); have HI := hd HI2.out; clear HI2 hv9 ho9)
    | ((with_reducible refine gd_load (ty := 35) (x := .tmp 5) ?_); refine wpList_load_oc HI.out.v3 _ rfl rfl rfl ?_)
    | ((with_reducible refine gd_store (ty := 35) (x := .tmp 2) ?_); refine wpList_store_var HI.out.v2 _ _ rfl rfl rfl rfl rfl ?_; intro W9 hv9 ho9; have HV2 := hd hv9; have HT := hd (HI.out.told ho9); have HOF := hd ho9; clear hv9 ho9)
    | ((with_reducible refine gd_load (ty := 23) (x := .tmp 42) ?_); refine wpList_load_f1 HI.out.v3 (j := 9) (v := .slice cx.W cx.nw cx.cw) _ rfl rfl rfl rfl Try.underlying23 rfl ?_)
    | ((with_reducible refine gd_load (ty := 23) (x := .tmp 44) ?_); refine wpList_load_f1 HI.out.v3 (j := 8) (v := .slice cx.O cx.no cx.co) _ rfl rfl rfl rfl Try.underlying23 rfl ?_)
    | ((with_reducible refine gd_store (ty := 23) (x := .tmp 46) ?_); refine wpList_store_fld sz_props HI.out.v3 _ _ rfl rfl rfl 8 _ [.slice cx.W cx.nw cx.cw] { cx with k := u, O := cx.W, no := cx.nw, co := cx.cw } rfl rfl rfl rfl (by intro u hu; simp at hu; rcases hu with rfl | rfl | rfl | rfl | rfl <;> rfl) (Nat.le_of_ble_eq_true rfl) (by kernel_rfl) ?_; intro W9 hv9 ho9; have HI2 := hd (HI.out.put hv9 ho9); have HI := hd HI2.out; clear HI2 hv9 ho9)
    | ((with_reducible refine gd_store (ty := 23) (x := .tmp 47) ?_); refine wpList_store_fld sz_props HI.out.v3 _ _ rfl rfl rfl 9 _ [.slice cx.O cx.no cx.co] { cx with k := u, O := cx.W, no := cx.nw, co := cx.cw, W := cx.O, nw := cx.no, cw := cx.co } rfl rfl rfl rfl (by intro u hu; simp at hu; rcases hu with rfl | rfl | rfl | rfl | rfl <;> rfl) (Nat.le_of_ble_eq_true rfl) (by kernel_rfl) ?_; intro W9 hv9 ho9; have HI2 := hd (HI.out.put hv9 ho9); have HI := hd HI2.out; clear HI2 hv9 ho9))
  obtain ⟨hb9, hm9⟩ := HT.out
  refine bodyPost_ret (result_oc2 Try.results11 _ _ HV2.out rfl) rfl ⟨{ cx with k := u, O := cx.W, no := cx.nw, co := cx.cw, W := cx.O, nw := cx.no, cw := cx.co }, rfl, fun W hw => ?_, hb9⟩
  have h := HS5.out W (hm9.high (hw.mono (by have := HLO.out; omega)))
  show OkA W _ { a with k := undoK c.k, o := a.w, w := a.o }
  rw [HU.out]
  exact ((h.setK HIU.out).setO h.hnw h.hcw h.hmw h.hw h.hww).setW h.hno h.hco h.hmo h.ho h.hwo
set_option maxRecDepth 100000 in
set_option maxHeartbeats 4000000 in
theorem binv_5 (w : World) (c : OC) (a : OpP) (ha : OkA w c a) (ta : Tiny a) (he : formE a = 0) (hk : c.k = 5) : Calls Try.prog 11 #[.agg c.row] w (NewOES w ({ a with k := undoK c.k, q := a.t, t := a.q }, 0)) := by
  have k3 : (c.k == 3) = false := by simp [hk]
  have k4 : (c.k == 4) = false := by simp [hk]
  have k6 : (c.k == 6) = false := by simp [hk]
  have k5 : (c.k == 5) = true := by simp [hk]
  have k9 : (c.k == 9) = false := by simp [hk]
  have HKK := hd hk
  clear hk
  have HIK := hd (show In64 c.k from ha.hk ▸ ha.hik)
  obtain ⟨u, hu⟩ : ∃ u, undoK c.k = u := ⟨_, rfl⟩
  have HU := hd hu
  have HIU := hd (show In64 u by rw [← hu]; exact undo_in c.k)
  clear hu
  have HE := hd he
  clear he
  obtain ⟨W0, hW, hb0, hsz, e1, e2⟩ := two_vars w c
  have HV1 := hd e1
  have HV2 := hd e2
  have HW := hd hW
  have HB := hd hb0
  have HH := hd ha
  have HTA := hd ta
  have HSZ := hd hsz
  clear hW hb0 e1 e2 ha ta hsz
  go_enter Try.func11, Try.ntmps11
  go_upto_region 1 with fail
  rw [HW.out]
  go_wp2_with (first
    | ((with_reducible refine gd_load (ty := 35) (x := .tmp 1) ?_); refine wpList_load_oc HV1.out _ rfl rfl rfl ?_)
    | (go_at_call 14; refine (form_at (HH.out.later HB.out) HTA.out HE.out).mono ?_; rintro e w4 ⟨rfl, b4⟩; have HV1 := hd (HV1.out.keep b4); have HV2 := hd (HV2.out.keep b4); have HB := hd (step_b HB.out b4); clear b4)
    | (go_at_call 26; refine (fresh_at _ c a (HH.out.later HB.out) HTA.out).mono ?_; rintro e w5 ⟨cx, rfl, hs5, b5⟩; have HS5 := hd hs5; have HLO := hd (show w.heap.size + 1 < w4.heap.size from HV2.out.lt); have HHI := hd b5.size; have HV1 := hd (HV1.out.keep b5); have HV2 := hd (HV2.out.keep b5); have HB := hd (step_b HB.out b5); clear hs5 b5)
    | ((with_reducible refine gd_store (ty := 35) (x := .tmp 5) ?_); refine wpList_store_oc (c := cx) _ _ rfl rfl rfl rfl rfl rfl rfl ?_; have HI := hd (InvSt.made (cx := cx) HV1.out HV2.out HB.out HLO.out HHI.out))
    | ((with_reducible refine gd_load (ty := 3) ?_); refine wpList_load_f1 HI.out.v1 (j := 0) (v := .int .i64 c.k) _ rfl rfl rfl rfl Try.underlying3 rfl ?_)
    | (go_at_call 27; refine Calls.mono (undoing_any _ HIK.out _) ?_; rintro e w9 ⟨rfl, b9⟩; have HI := hd (HI.out.call b9); clear b9; rw [HU.out])
    | ((with_reducible refine gd_store (ty := 3) (x := .tmp 19) ?_); refine wpList_store_fld sz_int HI.out.v3 _ _ rfl rfl rfl 0 _ [.int .i64 u] { cx with k := u } rfl rfl rfl rfl (by intro u hu; simp at hu; rcases hu with rfl | rfl | rfl | rfl | rfl <;> rfl) (Nat.le_of_ble_eq_true rfl) (by kernel_rfl) ?_; intro W9 hv9 ho9; have HI2 := hd (HI.out.put hv9 ho9); have HI := hd HI2.out; clear HI2 hv9 ho9)
    | ((with_reducible refine gd_load (ty := 35) (x := .tmp 5) ?_); refine wpList_load_oc HI.out.v3 _ rfl rfl rfl ?_)
    | ((with_reducible refine gd_store (ty := 35) (x := .tmp 2) ?_); refine wpList_store_var HI.out.v2 _ _ rfl rfl rfl rfl rfl ?_; intro W9 hv9 ho9; have HV2 := hd hv9; have HT := hd (HI.out.told ho9); have HOF := hd ho9; clear hv9 ho9)
    | ((with_reducible refine gd_load (ty := 22) (x := .tmp 48) ?_); refine wpList_load_f1 HI.out.v3 (j := 2) (v := .slice cx.T cx.lt cx.ct) _ rfl rfl rfl rfl Try.underlying22 rfl ?_)
    | ((with_reducible refine gd_load (ty := 22) (x := .tmp 50) ?_); refine wpList_load_f1 HI.out.v3 (j := 1) (v := .slice cx.Q cx.lq cx.cq) _ rfl rfl rfl rfl Try.underlying22 rfl ?_)
    | ((with_reducible refine gd_store (ty := 22) (x := .tmp 52) ?_); refine wpList_store_fld sz_path HI.out.v3 _ _ rfl rfl rfl 1 _ [.slice cx.T cx.lt cx.ct] { cx with k := u, Q := cx.T, lq := cx.lt, cq := cx.ct } rfl rfl rfl rfl (by intro u hu; simp at hu; rcases hu with rfl | rfl | rfl | rfl | rfl <;> rfl) (Nat.le_of_ble_eq_true rfl) (by kernel_rfl) ?_; intro W9 hv9 ho9; have HI2 := hd (HI.out.put hv9 ho9); have HI := hd HI2.out; clear HI2 hv9 ho9)
    | ((with_reducible refine gd_store (ty := 22) (x := .tmp 53) ?_); refine wpList_store_fld sz_path HI.out.v3 _ _ rfl rfl rfl 2 _ [.slice cx.Q cx.lq cx.cq] { cx with k := u, Q := cx.T, lq := cx.lt, cq := cx.ct, T := cx.Q, lt := cx.lq, ct := cx.cq } rfl rfl rfl rfl (by intro u hu; simp at hu; rcases hu with rfl | rfl | rfl | rfl | rfl <;> rfl) (Nat.le_of_ble_eq_true rfl) (by kernel_rfl) ?_; intro W9 hv9 ho9; have HI2 := hd (HI.out.put hv9 ho9); have HI := hd HI2.out; clear HI2 hv9 ho9))
  obtain ⟨hb9, hm9⟩ := HT.out
  refine bodyPost_ret (result_oc2 Try.results11 _ _ HV2.out rfl) rfl ⟨{ cx with k := u, Q := cx.T, lq := cx.lt, cq := cx.ct, T := cx.Q, lt := cx.lq, ct := cx.cq }, rfl, fun W hw => ?_, hb9⟩
  have h := HS5.out W (hm9.high (hw.mono (by have := HLO.out; omega)))
  show OkA W _ { a with k := undoK c.k, q := a.t, t := a.q }
  rw [HU.out]
  exact ((h.setK HIU.out).setQ h.hlt h.hct h.hmt h.ht h.hit).setT h.hlq h.hcq h.hmq h.hq h.hiq
set_option maxRecDepth 100000 in
set_option maxHeartbeats 4000000 in
theorem binv_9 (w : World) (c : OC) (a : OpP) (ha : OkA w c a) (ta : Tiny a) (he : formE a = 0) (hk : c.k = 9) : Calls Try.prog 11 #[.agg c.row] w (NewOES w ({ a with k := undoK c.k, f := a.g, g := a.f }, 0)) := by
  have k3 : (c.k == 3) = false := by simp [hk]
  have k4 : (c.k == 4) = false := by simp [hk]
  have k6 : (c.k == 6) = false := by simp [hk]
  have k5 : (c.k == 5) = false := by simp [hk]
  have k9 : (c.k == 9) = true := by simp [hk]
  have HKK := hd hk
  clear hk
  have HIK := hd (show In64 c.k from ha.hk ▸ ha.hik)
  obtain ⟨u, hu⟩ : ∃ u, undoK c.k = u := ⟨_, rfl⟩
  have HU := hd hu
  have HIU := hd (show In64 u by rw [← hu]; exact undo_in c.k)
  clear hu
  have HE := hd he
  clear he
  obtain ⟨W0, hW, hb0, hsz, e1, e2⟩ := two_vars w c
  have HV1 := hd e1
  have HV2 := hd e2
  have HW := hd hW
  have HB := hd hb0
  have HH := hd ha
  have HTA := hd ta
  have HSZ := hd hsz
  clear hW hb0 e1 e2 ha ta hsz
  go_enter Try.func11, Try.ntmps11
  go_upto_region 1 with fail
  rw [HW.out]
  go_wp2_with (first
    | ((with_reducible refine gd_load (ty := 35) (x := .tmp 1) ?_); refine wpList_load_oc HV1.out _ rfl rfl rfl ?_)
    | (go_at_call 14; refine (form_at (HH.out.later HB.out) HTA.out HE.out).mono ?_; rintro e w4 ⟨rfl, b4⟩; have HV1 := hd (HV1.out.keep b4); have HV2 := hd (HV2.out.keep b4); have HB := hd (step_b HB.out b4); clear b4)
    | (go_at_call 26; refine (fresh_at _ c a (HH.out.later HB.out) HTA.out).mono ?_; rintro e w5 ⟨cx, rfl, hs5, b5⟩; have HS5 := hd hs5; have HLO := hd (show w.heap.size + 1 < w4.heap.size from HV2.out.lt); have HHI := hd b5.size; have HV1 := hd (HV1.out.keep b5); have HV2 := hd (HV2.out.keep b5); have HB := hd (step_b HB.out b5); clear hs5 b5)
    | ((with_reducible refine gd_store (ty := 35) (x := .tmp 5) ?_); refine wpList_store_oc (c := cx) _ _ rfl rfl rfl rfl rfl rfl rfl ?_; have HI := hd (InvSt.made (cx := cx) HV1.out HV2.out HB.out HLO.out HHI.out))
    | ((with_reducible refine gd_load (ty := 3) ?_); refine wpList_load_f1 HI.out.v1 (j := 0) (v := .int .i64 c.k) _ rfl rfl rfl rfl Try.underlying3 rfl ?_)
    | (go_at_call 27; refine Calls.mono (undoing_any _ HIK.out _) ?_; rintro e w9 ⟨rfl, b9⟩; have HI := hd (HI.out.call b9); clear b9; rw [HU.out])
    | ((with_reducible refine gd_store (ty := 3) (x := .tmp 19) ?_); refine wpList_store_fld sz_int HI.out.v3 _ _ rfl rfl rfl 0 _ [.int .i64 u] { cx with k := u } rfl rfl rfl rfl (by intro u hu; simp at hu; rcases hu with rfl | rfl | rfl | rfl | rfl <;> rfl) (Nat.le_of_ble_eq_true rfl) (by kernel_rfl) ?_; intro W9 hv9 ho9; have HI2 := hd (HI.out.put hv9 ho9); have HI := hd HI2.out; clear HI2 hv9 ho9)
    | ((with_reducible refine gd_load (ty := 35) (x := .tmp 5) ?_); refine wpList_load_oc HI.out.v3 _ rfl rfl rfl ?_)
    | ((with_reducible refine gd_store (ty := 35) (x := .tmp 2) ?_); refine wpList_store_var HI.out.v2 _ _ rfl rfl rfl rfl rfl ?_; intro W9 hv9 ho9; have HV2 := hd hv9; have HT := hd (HI.out.told ho9); have HOF := hd ho9; clear hv9 ho9)
    | ((with_reducible refine gd_load (ty := 33) (x := .tmp 54) ?_); refine wpList_load_fn HI.out.v3 (j := 16) (vs := [.bool cx.gi, .slice cx.G1 cx.g1 cx.e1, .int .i64 cx.go, .slice cx.G2 cx.g2 cx.e2, .int .i64 cx.gp]) row_sel _ rfl rfl rfl (by kernel_rfl) ?_)
    | ((with_reducible refine gd_load (ty := 33) (x := .tmp 56) ?_); refine wpList_load_fn HI.out.v3 (j := 11) (vs := [.bool cx.fi, .slice cx.F1 cx.f1 cx.d1, .int .i64 cx.fo, .slice cx.F2 cx.f2 cx.d2, .int .i64 cx.fp]) row_sel _ rfl rfl rfl (by kernel_rfl) ?_)
    | ((with_reducible refine gd_store (ty := 33) (x := .tmp 58) ?_); refine wpList_store_fld sz_sel HI.out.v3 _ _ rfl rfl rfl 11 _ [.bool cx.gi, .slice cx.G1 cx.g1 cx.e1, .int .i64 cx.go, .slice cx.G2 cx.g2 cx.e2, .int .i64 cx.gp] { cx with k := u, fi := cx.gi, F1 := cx.G1, f1 := cx.g1, d1 := cx.e1, fo := cx.go, F2 := cx.G2, f2 := cx.g2, d2 := cx.e2, fp := cx.gp } rfl rfl rfl rfl (by intro u hu; simp at hu; rcases hu with rfl | rfl | rfl | rfl | rfl <;> rfl) (Nat.le_of_ble_eq_true rfl) (by kernel_rfl) ?_; intro W9 hv9 ho9; have HI2 := hd (HI.out.put hv9 ho9); have HI := hd HI2.out; clear HI2 hv9 ho9)
    | ((with_reducible refine gd_store (ty := 33) (x := .tmp 59) ?_); refine wpList_store_fld sz_sel HI.out.v3 _ _ rfl rfl rfl 16 _ [.bool cx.fi, .slice cx.F1 cx.f1 cx.d1, .int .i64 cx.fo, .slice cx.F2 cx.f2 cx.d2, .int .i64 cx.fp] { cx with k := u, fi := cx.gi, F1 := cx.G1, f1 := cx.g1, d1 := cx.e1, fo := cx.go, F2 := cx.G2, f2 := cx.g2, d2 := cx.e2, fp := cx.gp, gi := cx.fi, G1 := cx.F1, g1 := cx.f1, e1 := cx.d1, go := cx.fo, G2 := cx.F2, g2 := cx.f2, e2 := cx.d2, gp := cx.fp } rfl rfl rfl rfl (by intro u hu; simp at hu; rcases hu with rfl | rfl | rfl | rfl | rfl <;> rfl) (Nat.le_of_ble_eq_true rfl) (by kernel_rfl) ?_; intro W9 hv9 ho9; have HI2 := hd (HI.out.put hv9 ho9); have HI := hd HI2.out; clear HI2 hv9 ho9))
  obtain ⟨hb9, hm9⟩ := HT.out
  refine bodyPost_ret (result_oc2 Try.results11 _ _ HV2.out rfl) rfl ⟨{ cx with k := u, fi := cx.gi, F1 := cx.G1, f1 := cx.g1, d1 := cx.e1, fo := cx.go, F2 := cx.G2, f2 := cx.g2, d2 := cx.e2, fp := cx.gp, gi := cx.fi, G1 := cx.F1, g1 := cx.f1, e1 := cx.d1, go := cx.fo, G2 := cx.F2, g2 := cx.f2, e2 := cx.d2, gp := cx.fp }, rfl, fun W hw => ?_, hb9⟩
  have h := HS5.out W (hm9.high (hw.mono (by have := HLO.out; omega)))
  show OkA W _ { a with k := undoK c.k, f := a.g, g := a.f }
  rw [HU.out]
  exact ((h.setK HIU.out).setF h.hg).setG h.hf
set_option maxRecDepth 100000 in
set_option maxHeartbeats 4000000 in
theorem binv_3e (w : World) (c : OC) (a : OpP) (ha : OkA w c a) (ta : Tiny a) (he : formE a = 0) (hk : c.k = 3) (er : Int) (hr : (backL a.q).2 = er) (h0 : (er != 0) = true) : Calls Try.prog 11 #[.agg c.row] w (NewOES w (zeroO, er)) := by
  have k3 : (c.k == 3) = true := by simp [hk]
  have k4 : (c.k == 4) = false := by simp [hk]
  have k6 : (c.k == 6) = false := by simp [hk]
  have k5 : (c.k == 5) = false := by simp [hk]
  have k9 : (c.k == 9) = false := by simp [hk]
  have HKK := hd hk
  clear hk
  have HIK := hd (show In64 c.k from ha.hk ▸ ha.hik)
  obtain ⟨u, hu⟩ : ∃ u, undoK c.k = u := ⟨_, rfl⟩
  have HU := hd hu
  have HIU := hd (show In64 u by rw [← hu]; exact undo_in c.k)
  clear hu
  have HE := hd he
  clear he
  have HER := hd hr
  clear hr
  obtain ⟨W0, hW, hb0, hsz, e1, e2⟩ := two_vars w c
  have HV1 := hd e1
  have HV2 := hd e2
  have HW := hd hW
  have HB := hd hb0
  have HH := hd ha
  have HTA := hd ta
  have HSZ := hd hsz
  clear hW hb0 e1 e2 ha ta hsz
  go_enter Try.func11, Try.ntmps11
  go_upto_region 1 with fail
  rw [HW.out]
  go_wp2_with (first
    | ((with_reducible refine gd_load (ty := 35) (x := .tmp 1) ?_); refine wpList_load_oc HV1.out _ rfl rfl rfl ?_)
    | (go_at_call 14; refine (form_at (HH.out.later HB.out) HTA.out HE.out).mono ?_; rintro e w4 ⟨rfl, b4⟩; have HV1 := hd (HV1.out.keep b4); have HV2 := hd (HV2.out.keep b4); have HB := hd (step_b HB.out b4); clear b4)
    | (go_at_call 26; refine (fresh_at _ c a (HH.out.later HB.out) HTA.out).mono ?_; rintro e w5 ⟨cx, rfl, hs5, b5⟩; have HS5 := hd hs5; have HLO := hd (show w.heap.size + 1 < w4.heap.size from HV2.out.lt); have HHI := hd b5.size; have HV1 := hd (HV1.out.keep b5); have HV2 := hd (HV2.out.keep b5); have HB := hd (step_b HB.out b5); clear hs5 b5)
    | ((with_reducible refine gd_store (ty := 35) (x := .tmp 5) ?_); refine wpList_store_oc (c := cx) _ _ rfl rfl rfl rfl rfl rfl rfl ?_; have HI := hd (InvSt.made (cx := cx) HV1.out HV2.out HB.out HLO.out HHI.out))
    | ((with_reducible refine gd_load (ty := 3) ?_); refine wpList_load_f1 HI.out.v1 (j := 0) (v := .int .i64 c.k) _ rfl rfl rfl rfl Try.underlying3 rfl ?_)
    | (go_at_call 27; refine Calls.mono (undoing_any _ HIK.out _) ?_; rintro e w9 ⟨rfl, b9⟩; have HI := hd (HI.out.call b9); clear b9; rw [HU.out])
    | ((with_reducible refine gd_store (ty := 3) (x := .tmp 19) ?_); refine wpList_store_fld sz_int HI.out.v3 _ _ rfl rfl rfl 0 _ [.int .i64 u] { cx with k := u } rfl rfl rfl rfl (by intro u hu; simp at hu; rcases hu with rfl | rfl | rfl | rfl | rfl <;> rfl) (Nat.le_of_ble_eq_true rfl) (by kernel_rfl) ?_; intro W9 hv9 ho9; have HI2 := hd (HI.out.put hv9 ho9); have HI := hd HI2.out; clear HI2 hv9 ho9)
    | ((with_reducible refine gd_load (ty := 35) (x := .tmp 1) ?_); refine wpList_load_oc HI.out.v1 _ rfl rfl rfl ?_)
    | (go_at_call 28; refine (bhalf_3 _ c a (HH.out.later HI.out.below) HTA.out k3).mono ?_; rintro e w7 ⟨v7, rfl, ho7, b7⟩; obtain ⟨Ap, dp, rfl, hp1, _, hp2⟩ := ho7.open_; have HP := hd (own_stab ho7); have HLW := hd HI.out.v3.lt; have HI := hd (HI.out.call b7); have HD := hd hp1; clear b7 hp2 ho7; dsimp only; rw [HER.out])
    | ((with_reducible refine gd_store (ty := 35) (x := .tmp 2) ?_); refine wpList_store_var (c := OC.zero) HI.out.v2 _ _ rfl rfl rfl rfl rfl ?_; intro W9 hv9 ho9; have HV2 := hd hv9; have HB := hd (off_below HI.out.below ho9 (Nat.le_succ _)); clear hv9 ho9))
  refine bodyPost_ret (result_oc2 Try.results11 _ _ HV2.out rfl) rfl ⟨OC.zero, rfl, fun W _ => OkA.zero W, HB.out⟩
set_option maxRecDepth 4000 in
theorem half_in_3 {l : List Int} (h : InI l) (hl : l.length ≤ 60) : InI (backL l).1 ∧ (backL l).1.length ≤ 1000 := by
  unfold backL
  split
  · exact ⟨InI.nil, by simp⟩
  · split
    · exact ⟨InI.nil, by simp⟩
    · rename_i h0 h1
      obtain ⟨k, hk⟩ : ∃ k, l.length = k + 1 := ⟨l.length - 1, by omega⟩
      have hx := last_eq l k hk
      have hb := h k (by omega)
      refine ⟨fun j hj => ?_, by simp only [sib_eq l k hk, List.length_set]; omega⟩
      simp only [sib_eq l k hk] at hj ⊢
      rw [List.length_set] at hj
      rw [iAt_eq _ j (by rw [List.length_set]; exact hj), List.getElem_set]
      split
      · omega
      · have := h j hj; rwa [iAt_eq _ j hj] at this
set_option maxRecDepth 100000 in
set_option maxHeartbeats 4000000 in
theorem binv_3 (w : World) (c : OC) (a : OpP) (ha : OkA w c a) (ta : Tiny a) (he : formE a = 0) (hk : c.k = 3) (hr : (backL a.q).2 = 0) : Calls Try.prog 11 #[.agg c.row] w (NewOES w ({ a with k := undoK c.k, q := (backL a.q).1, o := a.w, w := a.o }, 0)) := by
  have HLEN := hd (show ∀ x, (backL a.q).1 = x → InI x ∧ x.length ≤ 1000 from fun x h => h ▸ half_in_3 ha.hiq ta.hq)
  obtain ⟨lp, hlp⟩ : ∃ n, (backL a.q).1.length = n := ⟨_, rfl⟩
  have HLP := hd hlp
  clear hlp
  have k3 : (c.k == 3) = true := by simp [hk]
  have k4 : (c.k == 4) = false := by simp [hk]
  have k6 : (c.k == 6) = false := by simp [hk]
  have k5 : (c.k == 5) = false := by simp [hk]
  have k9 : (c.k == 9) = false := by simp [hk]
  have HKK := hd hk
  clear hk
  have HIK := hd (show In64 c.k from ha.hk ▸ ha.hik)
  obtain ⟨u, hu⟩ : ∃ u, undoK c.k = u := ⟨_, rfl⟩
  have HU := hd hu
  have HIU := hd (show In64 u by rw [← hu]; exact undo_in c.k)
  clear hu
  have HE := hd he
  clear he
  have HER := hd hr
  clear hr
  obtain ⟨W0, hW, hb0, hsz, e1, e2⟩ := two_vars w c
  have HV1 := hd e1
  have HV2 := hd e2
  have HW := hd hW
  have HB := hd hb0
  have HH := hd ha
  have HTA := hd ta
  have HSZ := hd hsz
  clear hW hb0 e1 e2 ha ta hsz
  go_enter Try.func11, Try.ntmps11
  go_upto_region 1 with fail
  rw [HW.out]
  go_wp2_with (first
    | ((with_reducible refine gd_load (ty := 35) (x := .tmp 1) ?_); refine wpList_load_oc HV1.out _ rfl rfl rfl ?_)
    | (go_at_call 14; refine (form_at (HH.out.later HB.out) HTA.out HE.out).mono ?_; rintro e w4 ⟨rfl, b4⟩; have HV1 := hd (HV1.out.keep b4); have HV2 := hd (HV2.out.keep b4); have HB := hd (step_b HB.out b4); clear b4)
    | (go_at_call 26; refine (fresh_at _ c a (HH.out.later HB.out) HTA.out).mono ?_; rintro e w5 ⟨cx, rfl, hs5, b5⟩; have HS5 := hd hs5; have HLO := hd (show w.heap.size + 1 < w4.heap.size from HV2.out.lt); have HHI := hd b5.size; have HV1 := hd (HV1.out.keep b5); have HV2 := hd (HV2.out.keep b5); have HB := hd (step_b HB.out b5); clear hs5 b5)
    | ((with_reducible refine gd_store (ty := 35) (x := .tmp 5) ?_); refine wpList_store_oc (c := cx) _ _ rfl rfl rfl rfl rfl rfl rfl ?_; have HI := hd (InvSt.made (cx := cx) HV1.out HV2.out HB.out HLO.out HHI.out))
    | ((with_reducible refine gd_load (ty := 3) ?_); refine wpList_load_f1 HI.out.v1 (j := 0) (v := .int .i64 c.k) _ rfl rfl rfl rfl Try.underlying3 rfl ?_)
    | (go_at_call 27; refine Calls.mono (undoing_any _ HIK.out _) ?_; rintro e w9 ⟨rfl, b9⟩; have HI := hd (HI.out.call b9); clear b9; rw [HU.out])
    | ((with_reducible refine gd_store (ty := 3) (x := .tmp 19) ?_); refine wpList_store_fld sz_int HI.out.v3 _ _ rfl rfl rfl 0 _ [.int .i64 u] { cx with k := u } rfl rfl rfl rfl (by intro u hu; simp at hu; rcases hu with rfl | rfl | rfl | rfl | rfl <;> rfl) (Nat.le_of_ble_eq_true rfl) (by kernel_rfl) ?_; intro W9 hv9 ho9; have HI2 := hd (HI.out.put hv9 ho9); have HI := hd HI2.out; clear HI2 hv9 ho9)
    | ((with_reducible refine gd_load (ty := 35) (x := .tmp 5) ?_); refine wpList_load_oc HI.out.v3 _ rfl rfl rfl ?_)
    | ((with_reducible refine gd_store (ty := 35) (x := .tmp 2) ?_); refine wpList_store_var HI.out.v2 _ _ rfl rfl rfl rfl rfl ?_; intro W9 hv9 ho9; have HV2 := hd hv9; have HT := hd (HI.out.told ho9); have HOF := hd ho9; clear hv9 ho9)
    | ((with_reducible refine gd_load (ty := 35) (x := .tmp 1) ?_); refine wpList_load_oc HI.out.v1 _ rfl rfl rfl ?_)
    | (go_at_call 28; refine (bhalf_3 _ c a (HH.out.later HI.out.below) HTA.out k3).mono ?_; rintro e w7 ⟨v7, rfl, ho7, b7⟩; obtain ⟨Ap, dp, rfl, hp1, _, hp2⟩ := ho7.open_; have HP := hd (own_stab ho7); have HLW := hd HI.out.v3.lt; have HI := hd (HI.out.call b7); have HD := hd hp1; rw [HLP.out] at HD ⊢; clear b7 hp2 ho7; dsimp only; rw [HER.out])
    | ((with_reducible refine gd_store (ty := 22) (x := .tmp 41) ?_); refine wpList_store_fld sz_path HI.out.v3 _ _ rfl rfl rfl 1 _ [.slice Ap lp dp] { cx with k := u, Q := Ap, lq := lp, cq := dp } rfl rfl rfl rfl (by intro u hu; simp at hu; rcases hu with rfl | rfl | rfl | rfl | rfl <;> rfl) (Nat.le_of_ble_eq_true rfl) (by kernel_rfl) ?_; intro W9 hv9 ho9; have HI2 := hd (HI.out.put hv9 ho9); have HP := hd (HP.out.high (High.off ho9 HLW.out)); have HI := hd HI2.out; clear HI2 hv9 ho9)
    | ((with_reducible refine gd_load (ty := 23) (x := .tmp 42) ?_); refine wpList_load_f1 HI.out.v3 (j := 9) (v := .slice cx.W cx.nw cx.cw) _ rfl rfl rfl rfl Try.underlying23 rfl ?_)
    | ((with_reducible refine gd_load (ty := 23) (x := .tmp 44) ?_); refine wpList_load_f1 HI.out.v3 (j := 8) (v := .slice cx.O cx.no cx.co) _ rfl rfl rfl rfl Try.underlying23 rfl ?_)
    | ((with_reducible refine gd_store (ty := 23) (x := .tmp 46) ?_); refine wpList_store_fld sz_props HI.out.v3 _ _ rfl rfl rfl 8 _ [.slice cx.W cx.nw cx.cw] { cx with k := u, Q := Ap, lq := lp, cq := dp, O := cx.W, no := cx.nw, co := cx.cw } rfl rfl rfl rfl (by intro u hu; simp at hu; rcases hu with rfl | rfl | rfl | rfl | rfl <;> rfl) (Nat.le_of_ble_eq_true rfl) (by kernel_rfl) ?_; intro W9 hv9 ho9; have HI2 := hd (HI.out.put hv9 ho9); have HP := hd (HP.out.high (High.off ho9 HLW.out)); have HI := hd HI2.out; clear HI2 hv9 ho9)
    | ((with_reducible refine gd_store (ty := 23) (x := .tmp 47) ?_); refine wpList_store_fld sz_props HI.out.v3 _ _ rfl rfl rfl 9 _ [.slice cx.O cx.no cx.co] { cx with k := u, Q := Ap, lq := lp, cq := dp, O := cx.W, no := cx.nw, co := cx.cw, W := cx.O, nw := cx.no, cw := cx.co } rfl rfl rfl rfl (by intro u hu; simp at hu; rcases hu with rfl | rfl | rfl | rfl | rfl <;> rfl) (Nat.le_of_ble_eq_true rfl) (by kernel_rfl) ?_; intro W9 hv9 ho9; have HI2 := hd (HI.out.put hv9 ho9); have HP := hd (HP.out.high (High.off ho9 HLW.out)); have HI := hd HI2.out; clear HI2 hv9 ho9))
  obtain ⟨hb9, hm9⟩ := HT.out
  refine bodyPost_ret (result_oc2 Try.results11 _ _ HV2.out rfl) rfl ⟨{ cx with k := u, Q := Ap, lq := lp, cq := dp, O := cx.W, no := cx.nw, co := cx.cw, W := cx.O, nw := cx.no, cw := cx.co }, rfl, fun W hw => ?_, hb9⟩
  have h := HS5.out W (hm9.high (hw.mono (by have := HLO.out; omega)))
  have hil := HLEN.out _ rfl
  have hpp := HP.out W ((High.off HOF.out (by have := HLO.out; have := HHI.out; have := HLW.out; omega)).trans (hw.mono (by have := HLO.out; have := HHI.out; have := HLW.out; omega)))
  show OkA W _ { a with k := undoK c.k, q := (backL a.q).1, o := a.w, w := a.o }
  rw [HU.out]
  exact (((h.setK HIU.out).setQ HLP.out HD.out (by have := hil.2; have := HLP.out; omega) hpp hil.1).setO h.hnw h.hcw h.hmw h.hw h.hww).setW h.hno h.hco h.hmo h.ho h.hwo
set_option maxRecDepth 100000 in
set_option maxHeartbeats 4000000 in
theorem binv_4e (w : World) (c : OC) (a : OpP) (ha : OkA w c a) (ta : Tiny a) (he : formE a = 0) (hk : c.k = 4) (er : Int) (hr : (nextL a.q).2 = er) (h0 : (er != 0) = true) : Calls Try.prog 11 #[.agg c.row] w (NewOES w (zeroO, er)) := by
  have k3 : (c.k == 3) = false := by simp [hk]
  have k4 : (c.k == 4) = true := by simp [hk]
  have k6 : (c.k == 6) = false := by simp [hk]
  have k5 : (c.k == 5) = false := by simp [hk]
  have k9 : (c.k == 9) = false := by simp [hk]
  have HKK := hd hk
  clear hk
  have HIK := hd (show In64 c.k from ha.hk ▸ ha.hik)
  obtain ⟨u, hu⟩ : ∃ u, undoK c.k = u := ⟨_, rfl⟩
  have HU := hd hu
  have HIU := hd (show In64 u by rw [← hu]; exact undo_in c.k)
  clear hu
  have HE := hd he
  clear he
  have HER := hd hr
  clear hr
  obtain ⟨W0, hW, hb0, hsz, e1, e2⟩ := two_vars w c
  have HV1 := hd e1
  have HV2 := hd e2
  have HW := hd hW
  have HB := hd hb0
  have HH := hd ha
  have HTA := hd ta
  have HSZ := hd hsz
  clear hW hb0 e1 e2 ha ta hsz
  go_enter Try.func11, Try.ntmps11
  go_upto_region 1 with fail
  rw [HW.out]
  go_wp2_with (first
    | ((with_reducible refine gd_load (ty := 35) (x := .tmp 1) ?_); refine wpList_load_oc HV1.out _ rfl rfl rfl ?_)
    | (go_at_call 14; refine (form_at (HH.out.later HB.out) HTA.out HE.out).mono ?_; rintro e w4 ⟨rfl, b4⟩; have HV1 := hd (HV1.out.keep b4); have HV2 := hd (HV2.out.keep b4); have HB := hd (step_b HB.out b4); clear b4)
    | (go_at_call 26; refine (fresh_at _ c a (HH.out.later HB.out) HTA.out).mono ?_; rintro e w5 ⟨cx, rfl, hs5, b5⟩; have HS5 := hd hs5; have HLO := hd (show w.heap.size + 1 < w4.heap.size from HV2.out.lt); have HHI := hd b5.size; have HV1 := hd (HV1.out.keep b5); have HV2 := hd (HV2.out.keep b5); have HB := hd (step_b HB.out b5); clear hs5 b5)
    | ((with_reducible refine gd_store (ty := 35) (x := .tmp 5) ?_); refine wpList_store_oc (c := cx) _ _ rfl rfl rfl rfl rfl rfl rfl ?_; have HI := hd (InvSt.made (cx := cx) HV1.out HV2.out HB.out HLO.out HHI.out))
    | ((with_reducible refine gd_load (ty := 3) ?_); refine wpList_load_f1 HI.out.v1 (j := 0) (v := .int .i64 c.k) _ rfl rfl rfl rfl Try.underlying3 rfl ?_)
    | (go_at_call 27; refine Calls.mono (undoing_any _ HIK.out _) ?_; rintro e w9 ⟨rfl, b9⟩; have HI := hd (HI.out.call b9); clear b9; rw [HU.out])
    | ((with_reducible refine gd_store (ty := 3) (x := .tmp 19) ?_); refine wpList_store_fld sz_int HI.out.v3 _ _ rfl rfl rfl 0 _ [.int .i64 u] { cx with k := u } rfl rfl rfl rfl (by intro u hu; simp at hu; rcases hu with rfl | rfl | rfl | rfl | rfl <;> rfl) (Nat.le_of_ble_eq_true rfl) (by kernel_rfl) ?_; intro W9 hv9 ho9; have HI2 := hd (HI.out.put hv9 ho9); have HI := hd HI2.out; clear HI2 hv9 ho9)
    | ((with_reducible refine gd_load (ty := 35) (x := .tmp 1) ?_); refine wpList_load_oc HI.out.v1 _ rfl rfl rfl ?_)
    | (go_at_call 28; refine (bhalf_4 _ c a (HH.out.later HI.out.below) HTA.out k3).mono ?_; rintro e w7 ⟨v7, rfl, ho7, b7⟩; obtain ⟨Ap, dp, rfl, hp1, _, hp2⟩ := ho7.open_; have HP := hd (own_stab ho7); have HLW := hd HI.out.v3.lt; have HI := hd (HI.out.call b7); have HD := hd hp1; clear b7 hp2 ho7; dsimp only; rw [HER.out])
    | ((with_reducible refine gd_store (ty := 35) (x := .tmp 2) ?_); refine wpList_store_var (c := OC.zero) HI.out.v2 _ _ rfl rfl rfl rfl rfl ?_; intro W9 hv9 ho9; have HV2 := hd hv9; have HB := hd (off_below HI.out.below ho9 (Nat.le_succ _)); clear hv9 ho9))
  refine bodyPost_ret (result_oc2 Try.results11 _ _ HV2.out rfl) rfl ⟨OC.zero, rfl, fun W _ => OkA.zero W, HB.out⟩
set_option maxRecDepth 4000 in
theorem half_in_4 {l : List Int} (h : InI l) (hl : l.length ≤ 60) : InI (nextL l).1 ∧ (nextL l).1.length ≤ 1000 := by
  unfold nextL
  split
  · exact ⟨InI.nil, by simp⟩
  · split
    · exact ⟨InI.nil, by simp⟩
    · rename_i h0 h1
      obtain ⟨k, hk⟩ : ∃ k, l.length = k + 1 := ⟨l.length - 1, by omega⟩
      have hx := last_eq l k hk
      have hb := h k (by omega)
      refine ⟨fun j hj => ?_, by simp only [sib_eq l k hk, List.length_set]; omega⟩
      simp only [sib_eq l k hk] at hj ⊢
      rw [List.length_set] at hj
      rw [iAt_eq _ j (by rw [List.length_set]; exact hj), List.getElem_set]
      split
      · omega
      · have := h j hj; rwa [iAt_eq _ j hj] at this
set_option maxRecDepth 100000 in
set_option maxHeartbeats 4000000 in
theorem binv_4 (w : World) (c : OC) (a : OpP) (ha : OkA w c a) (ta : Tiny a) (he : formE a = 0) (hk : c.k = 4) (hr : (nextL a.q).2 = 0) : Calls Try.prog 11 #[.agg c.row] w (NewOES w ({ a with k := undoK c.k, q := (nextL a.q).1, o := a.w, w := a.o }, 0)) := by
  have HLEN := hd (show ∀ x, (nextL a.q).1 = x → InI x ∧ x.length ≤ 1000 from fun x h => h ▸ half_in_4 ha.hiq ta.hq)
  obtain ⟨lp, hlp⟩ : ∃ n, (nextL a.q).1.length = n := ⟨_, rfl⟩
  have HLP := hd hlp
  clear hlp
  have k3 : (c.k == 3) = false := by simp [hk]
  have k4 : (c.k == 4) = true := by simp [hk]
  have k6 : (c.k == 6) = false := by simp [hk]
  have k5 : (c.k == 5) = false := by simp [hk]
  have k9 : (c.k == 9) = false := by simp [hk]
  have HKK := hd hk
  clear hk
  have HIK := hd (show In64 c.k from ha.hk ▸ ha.hik)
  obtain ⟨u, hu⟩ : ∃ u, undoK c.k = u := ⟨_, rfl⟩
  have HU := hd hu
  have HIU := hd (show In64 u by rw [← hu]; exact undo_in c.k)
  clear hu
  have HE := hd he
  clear he
  have HER := hd hr
  clear hr
  obtain ⟨W0, hW, hb0, hsz, e1, e2⟩ := two_vars w c
  have HV1 := hd e1
  have HV2 := hd e2
  have HW := hd hW
  have HB := hd hb0
  have HH := hd ha
  have HTA := hd ta
  have HSZ := hd hsz
  clear hW hb0 e1 e2 ha ta hsz
  go_enter Try.func11, Try.ntmps11
  go_upto_region 1 with fail
  rw [HW.out]
  go_wp2_with (first
    | ((with_reducible refine gd_load (ty := 35) (x := .tmp 1) ?_); refine wpList_load_oc HV1.out _ rfl rfl rfl ?_)
    | (go_at_call 14; refine (form_at (HH.out.later HB.out) HTA.out HE.out).mono ?_; rintro e w4 ⟨rfl, b4⟩; have HV1 := hd (HV1.out.keep b4); have HV2 := hd (HV2.out.keep b4); have HB := hd (step_b HB.out b4); clear b4)
    | (go_at_call 26; refine (fresh_at _ c a (HH.out.later HB.out) HTA.out).mono ?_; rintro e w5 ⟨cx, rfl, hs5, b5⟩; have HS5 := hd hs5; have HLO := hd (show w.heap.size + 1 < w4.heap.size from HV2.out.lt); have HHI := hd b5.size; have HV1 := hd (HV1.out.keep b5); have HV2 := hd (HV2.out.keep b5); have HB := hd (step_b HB.out b5); clear hs5 b5)
    | ((with_reducible refine gd_store (ty := 35) (x := .tmp 5) ?_); refine wpList_store_oc (c := cx) _ _ rfl rfl rfl rfl rfl rfl rfl ?_; have HI := hd (InvSt.made (cx := cx) HV1.out HV2.out HB.out HLO.out HHI.out))
    | ((with_reducible refine gd_load (ty := 3) ?_); refine wpList_load_f1 HI.out.v1 (j := 0) (v := .int .i64 c.k) _ rfl rfl rfl rfl Try.underlying3 rfl ?_)
    | (go_at_call 27; refine Calls.mono (undoing_any _ HIK.out _) ?_; rintro e w9 ⟨rfl, b9⟩; have HI := hd (HI.out.call b9); clear b9; rw [HU.out])
    | ((with_reducible refine gd_store (ty := 3) (x := .tmp 19) ?_); refine wpList_store_fld sz_int HI.out.v3 _ _ rfl rfl rfl 0 _ [.int .i64 u] { cx with k := u } rfl rfl rfl rfl (by intro u hu; simp at hu; rcases hu with rfl | rfl | rfl | rfl | rfl <;> rfl) (Nat.le_of_ble_eq_true rfl) (by kernel_rfl) ?_; intro W9 hv9 ho9; have HI2 := hd (HI.out.put hv9 ho9); have HI := hd HI2.out; clear HI2 hv9 ho9)
    | ((with_reducible refine gd_load (ty := 35) (x := .tmp 5) ?_); refine wpList_load_oc HI.out.v3 _ rfl rfl rfl ?_)
    | ((with_reducible refine gd_store (ty := 35) (x := .tmp 2) ?_); refine wpList_store_var HI.out.v2 _ _ rfl rfl rfl rfl rfl ?_; intro W9 hv9 ho9; have HV2 := hd hv9; have HT := hd (HI.out.told ho9); have HOF := hd ho9; clear hv9 ho9)
    | ((with_reducible refine gd_load (ty := 35) (x := .tmp 1) ?_); refine wpList_load_oc HI.out.v1 _ rfl rfl rfl ?_)
    | (go_at_call 28; refine (bhalf_4 _ c a (HH.out.later HI.out.below) HTA.out k3).mono ?_; rintro e w7 ⟨v7, rfl, ho7, b7⟩; obtain ⟨Ap, dp, rfl, hp1, _, hp2⟩ := ho7.open_; have HP := hd (own_stab ho7); have HLW := hd HI.out.v3.lt; have HI := hd (HI.out.call b7); have HD := hd hp1; rw [HLP.out] at HD ⊢; clear b7 hp2 ho7; dsimp only; rw [HER.out])
    | ((with_reducible refine gd_store (ty := 22) (x := .tmp 41) ?_); refine wpList_store_fld sz_path HI.out.v3 _ _ rfl rfl rfl 1 _ [.slice Ap lp dp] { cx with k := u, Q := Ap, lq := lp, cq := dp } rfl rfl rfl rfl (by intro u hu; simp at hu; rcases hu with rfl | rfl | rfl | rfl | rfl <;> rfl) (Nat.le_of_ble_eq_true rfl) (by kernel_rfl) ?_; intro W9 hv9 ho9; have HI2 := hd (HI.out.put hv9 ho9); have HP := hd (HP.out.high (High.off ho9 HLW.out)); have HI := hd HI2.out; clear HI2 hv9 ho9)
    | ((with_reducible refine gd_load (ty := 23) (x := .tmp 42) ?_); refine wpList_load_f1 HI.out.v3 (j := 9) (v := .slice cx.W cx.nw cx.cw) _ rfl rfl rfl rfl Try.underlying23 rfl ?_)
    | ((with_reducible refine gd_load (ty := 23) (x := .tmp 44) ?_); refine wpList_load_f1 HI.out.v3 (j := 8) (v := .slice cx.O cx.no cx.co) _ rfl rfl rfl rfl Try.underlying23 rfl ?_)
    | ((with_reducible refine gd_store (ty := 23) (x := .tmp 46) ?_); refine wpList_store_fld sz_props HI.out.v3 _ _ rfl rfl rfl 8 _ [.slice cx.W cx.nw cx.cw] { cx with k := u, Q := Ap, lq := lp, cq := dp, O := cx.W, no := cx.nw, co := cx.cw } rfl rfl rfl rfl (by intro u hu; simp at hu; rcases hu with rfl | rfl | rfl | rfl | rfl <;> rfl) (Nat.le_of_ble_eq_true rfl) (by kernel_rfl) ?_; intro W9 hv9 ho9; have HI2 := hd (HI.out.put hv9 ho9); have HP := hd (HP.out.high (High.off ho9 HLW.out)); have HI := hd HI2.out; clear HI2 hv9 ho9)
    | ((with_reducible refine gd_store (ty := 23) (x := .tmp 47) ?_); refine wpList_store_fld sz_props HI.out.v3 _ _ rfl rfl rfl 9 _ [.slice cx.O cx.no cx.co] { cx with k := u, Q := Ap, lq := lp, cq := dp, O := cx.W, no := cx.nw, co := cx.cw, W := cx.O, nw := cx.no, cw := cx.co } rfl rfl rfl rfl (by intro u hu; simp at hu; rcases hu with rfl | rfl | rfl | rfl | rfl <;> rfl) (Nat.le_of_ble_eq_true rfl) (by kernel_rfl) ?_; intro W9 hv9 ho9; have HI2 := hd (HI.out.put hv9 ho9); have HP := hd (HP.out.high (High.off ho9 HLW.out)); have HI := hd HI2.out; clear HI2 hv9 ho9))
  obtain ⟨hb9, hm9⟩ := HT.out
  refine bodyPost_ret (result_oc2 Try.results11 _ _ HV2.out rfl) rfl ⟨{ cx with k := u, Q := Ap, lq := lp, cq := dp, O := cx.W, no := cx.nw, co := cx.cw, W := cx.O, nw := cx.no, cw := cx.co }, rfl, fun W hw => ?_, hb9⟩
  have h := HS5.out W (hm9.high (hw.mono (by have := HLO.out; omega)))
  have hil := HLEN.out _ rfl
  have hpp := HP.out W ((High.off HOF.out (by have := HLO.out; have := HHI.out; have := HLW.out; omega)).trans (hw.mono (by have := HLO.out; have := HHI.out; have := HLW.out; omega)))
  show OkA W _ { a with k := undoK c.k, q := (nextL a.q).1, o := a.w, w := a.o }
  rw [HU.out]
  exact (((h.setK HIU.out).setQ HLP.out HD.out (by have := hil.2; have := HLP.out; omega) hpp hil.1).setO h.hnw h.hcw h.hmw h.hw h.hww).setW h.hno h.hco h.hmo h.ho h.hwo
set_option maxRecDepth 4000 in
theorem inverse_at (w : World) (c : OC) (a : OpP) (ha : OkA w c a) (ta : Tiny a) : Calls Try.prog 11 #[.agg c.row] w (NewOES w (invO a)) := by
  rcases formE_cases a with he | he
  · have hf : invO a = flipO a := by unfold invO; rw [if_pos he]
    rw [hf]
    unfold flipO
    rw [ha.hk]
    by_cases h3 : c.k = 3
    · rw [if_pos h3]
      by_cases hr : (backL a.q).2 = 0
      · rw [if_pos hr]
        have h := binv_3 w c a ha ta he h3 hr
        rwa [show undoK c.k = 4 by rw [h3]; rfl] at h
      · rw [if_neg hr]
        exact binv_3e w c a ha ta he h3 _ rfl (by simpa using hr)
    rw [if_neg h3]
    by_cases h4 : c.k = 4
    · rw [if_pos h4]
      by_cases hr : (nextL a.q).2 = 0
      · rw [if_pos hr]
        have h := binv_4 w c a ha ta he h4 hr
        rwa [show undoK c.k = 3 by rw [h4]; rfl] at h
      · rw [if_neg hr]
        exact binv_4e w c a ha ta he h4 _ rfl (by simpa using hr)
    rw [if_neg h4]
    by_cases h6 : c.k = 6
    · rw [if_pos h6]
      have h := binv_6 w c a ha ta he h6
      rwa [show undoK c.k = 6 by rw [h6]; rfl] at h
    rw [if_neg h6]
    by_cases h5 : c.k = 5
    · rw [if_pos h5]
      have h := binv_5 w c a ha ta he h5
      rwa [show undoK c.k = 5 by rw [h5]; rfl] at h
    rw [if_neg h5]
    by_cases h9 : c.k = 9
    · rw [if_pos h9]
      have h := binv_9 w c a ha ta he h9
      rwa [show undoK c.k = 9 by rw [h9]; rfl] at h
    rw [if_neg h9]
    exact binv_0 w c a ha ta he (by omega)
  · have hf : invO a = (zeroO, 1) := by unfold invO; rw [if_neg (by omega)]
    rw [hf]
    exact binv_bad w c a ha ta he

end Go.Proofs.Ytdjajpookmmafaa
