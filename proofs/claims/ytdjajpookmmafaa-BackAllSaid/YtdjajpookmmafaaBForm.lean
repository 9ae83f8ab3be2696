/- Has an operation the fields of its kind: Form, and the document's. -/
import Derived.Test.YtdjajpookmmafaaBEmpty
import Derived.Test.YtdjajpookmmafaaBWith
import Derived.Test.YtdjajpookmmafaaBFields
import Derived.Test.YtdjajpookmmafaaBSame
namespace Go.Proofs.Ytdjajpookmmafaa
open Go.RowKit

theorem tiny_without {a : OpP} (t : Tiny a) : Tiny (withoutO a) := by
  obtain ⟨h1, h2, h3, h4, h5, h6, h7, h8, h9⟩ := t
  unfold withoutO
  split <;> (try split) <;> (try split) <;> (try split) <;> (try split) <;> (try split) <;> (try split) <;> (try split) <;> (try split) <;> constructor <;> first | assumption | simp [zeroS]
set_option maxRecDepth 4000 in
theorem tiny_fields {a : OpP} (t : Tiny a) : Tiny (fieldsO a) := by
  obtain ⟨h1, h2, h3, h4, h5, h6, h7, h8, h9⟩ := t
  unfold fieldsO
  split <;> (try split) <;> (try split) <;> (try split) <;> (try split) <;> (try split) <;> (try split) <;> (try split) <;> (try split) <;> constructor <;> first | assumption | simp [zeroO, zeroS]
set_option maxRecDepth 100000 in
set_option maxHeartbeats 4000000 in
theorem bform_0 (w : World) (c : OC) (a : OpP) (ha : OkA w c a) (ta : Tiny a) (h0 : (undoK c.k == 0) = true) : Calls Try.prog 14 #[.agg c.row] w (Still (.int .i64 1) w) := by
  have HIK := hd (show In64 c.k from ha.hk ▸ ha.hik)
  obtain ⟨u, hu⟩ : ∃ u, undoK c.k = u := ⟨_, rfl⟩
  rw [hu] at h0
  have HU := hd hu
  clear hu
  have hb0 := new_below w (.cells c.row 35)
  obtain ⟨W0, hW⟩ : ∃ W0, w.alloc (.cells c.row 35) = W0 := ⟨_, rfl⟩
  have e1 := VarO.new w c
  rw [hW] at hb0 e1
  have HKA := hd (fun W (h : Below W0.heap.size W0 W) => e1.keep h)
  have HOA := hd (fun W (h : Below W0.heap.size W0 W) => (ha.later hb0).later h)
  have HW := hd hW
  have HBE := hd hb0
  have HBc := hd (Below.refl W0.heap.size W0)
  have HTA := hd ta
  have HTX := hd (tiny_without ta)
  have uk0 := (HKA.out _ HBc.out).ck
  clear hW hb0 e1 ha ta
  go_enter Try.func14, Try.ntmps14
  go_upto_region 1 with fail
  rw [HW.out]
  go_wp2_with (first
    | (go_at_call 27; refine Calls.mono (undoing_any _ HIK.out _) ?_; rintro e w9 ⟨rfl, b9⟩; have HBc := hd (step_b HBc.out b9); clear b9 uk0; rw [HU.out]))
  go_ret
  exact ⟨rfl, HBE.out.trans (HBc.out.mono HBE.out.size)⟩
set_option maxRecDepth 100000 in
set_option maxHeartbeats 4000000 in
theorem bform_1 (w : World) (c : OC) (a : OpP) (ha : OkA w c a) (ta : Tiny a) (h0 : (undoK c.k == 0) = false) (hb : bareB (withoutO a) = true) : Calls Try.prog 14 #[.agg c.row] w (Still (.int .i64 0) w) := by
  have HIK := hd (show In64 c.k from ha.hk ▸ ha.hik)
  obtain ⟨u, hu⟩ : ∃ u, undoK c.k = u := ⟨_, rfl⟩
  rw [hu] at h0
  have HU := hd hu
  clear hu
  have hb0 := new_below w (.cells c.row 35)
  obtain ⟨W0, hW⟩ : ∃ W0, w.alloc (.cells c.row 35) = W0 := ⟨_, rfl⟩
  have e1 := VarO.new w c
  rw [hW] at hb0 e1
  have HKA := hd (fun W (h : Below W0.heap.size W0 W) => e1.keep h)
  have HOA := hd (fun W (h : Below W0.heap.size W0 W) => (ha.later hb0).later h)
  have HW := hd hW
  have HBE := hd hb0
  have HBc := hd (Below.refl W0.heap.size W0)
  have HTA := hd ta
  have HTX := hd (tiny_without ta)
  have uk0 := (HKA.out _ HBc.out).ck
  have HB := hd hb
  clear hb
  clear hW hb0 e1 ha ta
  go_enter Try.func14, Try.ntmps14
  go_upto_region 1 with fail
  rw [HW.out]
  go_wp2_with (first
    | (go_at_call 27; refine Calls.mono (undoing_any _ HIK.out _) ?_; rintro e w9 ⟨rfl, b9⟩; have HBc := hd (step_b HBc.out b9); clear b9 uk0; rw [HU.out])
    | (go_at_call 36; refine Calls.mono (without_any _ _ _ (HOA.out _ HBc.out)) ?_; rintro e w9 ⟨cx, rfl, ox, b9⟩; have HX := hd ox; have HBc := hd (step_b HBc.out b9); clear b9 ox)
    | (go_at_call 35; refine Calls.mono (empty_at HX.out HTX.out HB.out) ?_; rintro e w9 ⟨rfl, b9⟩; have HBc := hd (step_b HBc.out b9); clear b9)
    | ((with_reducible refine gd_loadg (ty := 35) (x := .tmp 1) ?_); refine wpList_load_ocg (HKA.out _ HBc.out) _ rfl (by rfl) rfl ?_))
  go_ret
  exact ⟨rfl, HBE.out.trans (HBc.out.mono HBE.out.size)⟩
set_option maxRecDepth 100000 in
set_option maxHeartbeats 4000000 in
theorem bform_2 (w : World) (c : OC) (a : OpP) (ha : OkA w c a) (ta : Tiny a) (h0 : (undoK c.k == 0) = false) (hb : bareB (withoutO a) = false) : Calls Try.prog 14 #[.agg c.row] w (Still (.int .i64 1) w) := by
  have HIK := hd (show In64 c.k from ha.hk ▸ ha.hik)
  obtain ⟨u, hu⟩ : ∃ u, undoK c.k = u := ⟨_, rfl⟩
  rw [hu] at h0
  have HU := hd hu
  clear hu
  have hb0 := new_below w (.cells c.row 35)
  obtain ⟨W0, hW⟩ : ∃ W0, w.alloc (.cells c.row 35) = W0 := ⟨_, rfl⟩
  have e1 := VarO.new w c
  rw [hW] at hb0 e1
  have HKA := hd (fun W (h : Below W0.heap.size W0 W) => e1.keep h)
  have HOA := hd (fun W (h : Below W0.heap.size W0 W) => (ha.later hb0).later h)
  have HW := hd hW
  have HBE := hd hb0
  have HBc := hd (Below.refl W0.heap.size W0)
  have HTA := hd ta
  have HTX := hd (tiny_without ta)
  have uk0 := (HKA.out _ HBc.out).ck
  have HB := hd hb
  clear hb
  clear hW hb0 e1 ha ta
  go_enter Try.func14, Try.ntmps14
  go_upto_region 1 with fail
  rw [HW.out]
  go_wp2_with (first
    | (go_at_call 27; refine Calls.mono (undoing_any _ HIK.out _) ?_; rintro e w9 ⟨rfl, b9⟩; have HBc := hd (step_b HBc.out b9); clear b9 uk0; rw [HU.out])
    | (go_at_call 36; refine Calls.mono (without_any _ _ _ (HOA.out _ HBc.out)) ?_; rintro e w9 ⟨cx, rfl, ox, b9⟩; have HX := hd ox; have HBc := hd (step_b HBc.out b9); clear b9 ox)
    | (go_at_call 35; refine Calls.mono (empty_at HX.out HTX.out HB.out) ?_; rintro e w9 ⟨rfl, b9⟩; have HBc := hd (step_b HBc.out b9); clear b9)
    | ((with_reducible refine gd_loadg (ty := 35) (x := .tmp 1) ?_); refine wpList_load_ocg (HKA.out _ HBc.out) _ rfl (by rfl) rfl ?_))
  go_ret
  exact ⟨rfl, HBE.out.trans (HBc.out.mono HBE.out.size)⟩
set_option maxRecDepth 4000 in
theorem form_at {w : World} {c : OC} {a : OpP} {E : Int} (ha : OkA w c a) (ta : Tiny a) (hE : formE a = E) : Calls Try.prog 14 #[.agg c.row] w (Still (.int .i64 E) w) := by
  subst hE
  unfold formE
  rw [ha.hk]
  cases h0 : (undoK c.k == 0)
  · rw [if_neg (by simpa using h0)]
    cases hb : bareB (withoutO a)
    · exact bform_2 w c a ha ta h0 hb
    · exact bform_1 w c a ha ta h0 hb
  · rw [if_pos (by simpa using h0)]
    exact bform_0 w c a ha ta h0
set_option maxRecDepth 100000 in
set_option maxHeartbeats 4000000 in
theorem brform_0 (w : World) (c : OC) (a : OpP) (ha : OkA w c a) (ta : Tiny a) (hk : kindB a.k = false) : Calls Try.prog 15 #[.agg c.row] w (Still (.int .i64 1) w) := by
  have hb0 := new_below w (.cells c.row 35)
  obtain ⟨W0, hW⟩ : ∃ W0, w.alloc (.cells c.row 35) = W0 := ⟨_, rfl⟩
  have e1 := VarO.new w c
  rw [hW] at hb0 e1
  have HKA := hd (fun W (h : Below W0.heap.size W0 W) => e1.keep h)
  have HOA := hd (fun W (h : Below W0.heap.size W0 W) => (ha.later hb0).later h)
  have HW := hd hW
  have HBE := hd hb0
  have HBc := hd (Below.refl W0.heap.size W0)
  have HTA := hd ta
  have HTX := hd (tiny_fields ta)
  have HKD := hd hk
  clear hk
  clear hW hb0 e1 ha ta
  go_enter Try.func15, Try.ntmps15
  go_upto_region 1 with fail
  rw [HW.out]
  go_wp2_with (first
    | ((with_reducible refine gd_load (ty := 35) ?_); refine wpList_load_oc (HKA.out _ HBc.out) _ rfl rfl rfl ?_)
    | (go_at_call 37; refine Calls.mono (fields_any _ _ _ (HOA.out _ HBc.out)) ?_; rintro e w9 ⟨cx, rfl, ox, b9⟩; have HX := hd ox; have HBc := hd (step_b HBc.out b9); clear b9 ox; dsimp only; rw [HKD.out])
    | ((with_reducible refine gd_store (ty := 35) (x := .tmp 3) ?_); refine wpList_store_oc (c := cx) _ _ rfl rfl rfl rfl rfl rfl rfl ?_; have hb9 := new_below w9 (.cells (OC.row cx) 35); have HVX := hd (VarO.new w9 cx); have HX := hd (HX.out.later hb9); have HBc := hd (step_b HBc.out hb9); clear hb9))
  go_ret
  exact ⟨rfl, HBE.out.trans (HBc.out.mono HBE.out.size)⟩
set_option maxRecDepth 100000 in
set_option maxHeartbeats 4000000 in
theorem brform_1 (w : World) (c : OC) (a : OpP) (ha : OkA w c a) (ta : Tiny a) (hk : kindB a.k = true) (he : eqO (fieldsO a) a = true) : Calls Try.prog 15 #[.agg c.row] w (Still (.int .i64 0) w) := by
  have hb0 := new_below w (.cells c.row 35)
  obtain ⟨W0, hW⟩ : ∃ W0, w.alloc (.cells c.row 35) = W0 := ⟨_, rfl⟩
  have e1 := VarO.new w c
  rw [hW] at hb0 e1
  have HKA := hd (fun W (h : Below W0.heap.size W0 W) => e1.keep h)
  have HOA := hd (fun W (h : Below W0.heap.size W0 W) => (ha.later hb0).later h)
  have HW := hd hW
  have HBE := hd hb0
  have HBc := hd (Below.refl W0.heap.size W0)
  have HTA := hd ta
  have HTX := hd (tiny_fields ta)
  have HKD := hd hk
  clear hk
  have HE := hd he
  clear he
  clear hW hb0 e1 ha ta
  go_enter Try.func15, Try.ntmps15
  go_upto_region 1 with fail
  rw [HW.out]
  go_wp2_with (first
    | ((with_reducible refine gd_load (ty := 35) ?_); refine wpList_load_oc (HKA.out _ HBc.out) _ rfl rfl rfl ?_)
    | (go_at_call 37; refine Calls.mono (fields_any _ _ _ (HOA.out _ HBc.out)) ?_; rintro e w9 ⟨cx, rfl, ox, b9⟩; have HX := hd ox; have HBc := hd (step_b HBc.out b9); clear b9 ox; dsimp only; rw [HKD.out])
    | ((with_reducible refine gd_store (ty := 35) (x := .tmp 3) ?_); refine wpList_store_oc (c := cx) _ _ rfl rfl rfl rfl rfl rfl rfl ?_; have hb9 := new_below w9 (.cells (OC.row cx) 35); have HVX := hd (VarO.new w9 cx); have HX := hd (HX.out.later hb9); have HBc := hd (step_b HBc.out hb9); clear hb9)
    | (go_at_call 13; refine Calls.mono (rsameop_at HX.out (HOA.out _ HBc.out) HTX.out HTA.out HE.out) ?_; rintro e w9 ⟨rfl, b9⟩; have HBc := hd (step_b HBc.out b9); clear b9)
    | ((with_reducible refine gd_loadg (ty := 35) (x := .tmp 3) ?_); refine wpList_load_ocg HVX.out _ rfl (by rfl) rfl ?_)
    | ((with_reducible refine gd_loadg (ty := 35) (x := .tmp 1) ?_); refine wpList_load_ocg (HKA.out _ HBc.out) _ rfl (by rfl) rfl ?_))
  go_ret
  exact ⟨rfl, HBE.out.trans (HBc.out.mono HBE.out.size)⟩
set_option maxRecDepth 100000 in
set_option maxHeartbeats 4000000 in
theorem brform_2 (w : World) (c : OC) (a : OpP) (ha : OkA w c a) (ta : Tiny a) (hk : kindB a.k = true) (he : eqO (fieldsO a) a = false) : Calls Try.prog 15 #[.agg c.row] w (Still (.int .i64 1) w) := by
  have hb0 := new_below w (.cells c.row 35)
  obtain ⟨W0, hW⟩ : ∃ W0, w.alloc (.cells c.row 35) = W0 := ⟨_, rfl⟩
  have e1 := VarO.new w c
  rw [hW] at hb0 e1
  have HKA := hd (fun W (h : Below W0.heap.size W0 W) => e1.keep h)
  have HOA := hd (fun W (h : Below W0.heap.size W0 W) => (ha.later hb0).later h)
  have HW := hd hW
  have HBE := hd hb0
  have HBc := hd (Below.refl W0.heap.size W0)
  have HTA := hd ta
  have HTX := hd (tiny_fields ta)
  have HKD := hd hk
  clear hk
  have HE := hd he
  clear he
  clear hW hb0 e1 ha ta
  go_enter Try.func15, Try.ntmps15
  go_upto_region 1 with fail
  rw [HW.out]
  go_wp2_with (first
    | ((with_reducible refine gd_load (ty := 35) ?_); refine wpList_load_oc (HKA.out _ HBc.out) _ rfl rfl rfl ?_)
    | (go_at_call 37; refine Calls.mono (fields_any _ _ _ (HOA.out _ HBc.out)) ?_; rintro e w9 ⟨cx, rfl, ox, b9⟩; have HX := hd ox; have HBc := hd (step_b HBc.out b9); clear b9 ox; dsimp only; rw [HKD.out])
    | ((with_reducible refine gd_store (ty := 35) (x := .tmp 3) ?_); refine wpList_store_oc (c := cx) _ _ rfl rfl rfl rfl rfl rfl rfl ?_; have hb9 := new_below w9 (.cells (OC.row cx) 35); have HVX := hd (VarO.new w9 cx); have HX := hd (HX.out.later hb9); have HBc := hd (step_b HBc.out hb9); clear hb9)
    | (go_at_call 13; refine Calls.mono (rsameop_at HX.out (HOA.out _ HBc.out) HTX.out HTA.out HE.out) ?_; rintro e w9 ⟨rfl, b9⟩; have HBc := hd (step_b HBc.out b9); clear b9)
    | ((with_reducible refine gd_loadg (ty := 35) (x := .tmp 3) ?_); refine wpList_load_ocg HVX.out _ rfl (by rfl) rfl ?_)
    | ((with_reducible refine gd_loadg (ty := 35) (x := .tmp 1) ?_); refine wpList_load_ocg (HKA.out _ HBc.out) _ rfl (by rfl) rfl ?_))
  go_ret
  exact ⟨rfl, HBE.out.trans (HBc.out.mono HBE.out.size)⟩
set_option maxRecDepth 4000 in
theorem rform_at {w : World} {c : OC} {a : OpP} {E : Int} (ha : OkA w c a) (ta : Tiny a) (hE : formE a = E) : Calls Try.prog 15 #[.agg c.row] w (Still (.int .i64 E) w) := by
  subst hE
  rw [formE_doc]
  cases hk : kindB a.k
  · exact brform_0 w c a ha ta hk
  · cases he : eqO (fieldsO a) a
    · exact brform_2 w c a ha ta hk he
    · exact brform_1 w c a ha ta hk he

end Go.Proofs.Ytdjajpookmmafaa
