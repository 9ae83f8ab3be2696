/- The document's Inverse: where the parts of what it tells lie. The document's All. BackAll answers true. -/
import Derived.Test.YtdjajpookmmafaaBBacks
import Derived.Test.YtdjajpookmmafaaBAll
import Derived.Test.YtdjajpookmmafaaBParts
namespace Go.Proofs.Ytdjajpookmmafaa
open Go.RowKit

/-- The world w without the block own. -/
def hole (own : Option Nat) (w : World) : World := { w with heap := w.heap.mapIdx fun k o => if own = some k then .deferred none else o }
set_option maxRecDepth 4000 in
theorem hole_size (own : Option Nat) (w : World) : (hole own w).heap.size = w.heap.size := by simp [hole]
set_option maxRecDepth 4000 in
theorem hole_block {own : Option Nat} {w : World} {k : Nat} (h : k < w.heap.size) (hne : own ≠ some k) : (hole own w).heap[k]? = w.heap[k]? := by
  simp only [hole, Array.getElem?_mapIdx, Array.getElem?_eq_getElem h, Option.map_some, if_neg hne]
set_option maxRecDepth 4000 in
theorem hole_high {own : Option Nat} {lo : Nat} (w : World) (h : ∀ g, own = some g → g < lo) : High lo w (hole own w) := ⟨by rw [hole_size]; exact Nat.le_refl _, fun k h1 h2 => hole_block h2 fun e => by have := h k e; omega⟩
set_option maxRecDepth 4000 in
theorem hole_cell {own : Option Nat} {w : World} {p : Addr} {v : Value} (h : (hole own w).cell? p = some v) : own ≠ some p.block ∧ w.cell? p = some v := by
  have hl := cell_spot2 h
  rw [hole_size] at hl
  have hne : own ≠ some p.block := fun e => by
    have e2 : (hole own w).heap[p.block]? = some (.deferred none) := by simp only [hole, Array.getElem?_mapIdx, Array.getElem?_eq_getElem hl, Option.map_some, if_pos e]
    simp [World.cell?, e2] at h
  exact ⟨hne, by rw [← World.cell?_of_block (hole_block hl hne)]; exact h⟩
set_option maxRecDepth 4000 in
theorem Parts.hole {lo : Nat} {own : Option Nat} {W : World} {c : OC} {a : OpP} (h : Parts lo own W c a) : OkA (hole own W) c a := by
  obtain ⟨we, h1, h2, h3⟩ := h
  refine h1.imp ⟨by rw [hole_size]; exact h2.size, fun p v hv => ?_⟩
  have hc := h2.cell p v hv
  exact (World.cell?_of_block (hole_block (cell_spot2 hc) (h3 p v hv).2)).trans hc
set_option maxRecDepth 4000 in
theorem parts_hole {own : Option Nat} {W : World} {c : OC} {a : OpP} (h : OkA (hole own W) c a) : Parts 0 own W c a :=
  ⟨hole own W, h, ⟨by rw [hole_size]; exact Nat.le_refl _, fun p v hv => (hole_cell hv).2⟩, fun p v hv => ⟨Nat.zero_le _, (hole_cell hv).1⟩⟩
set_option maxRecDepth 4000 in
/-- What lay already lies in no new row. -/
theorem parts_old {own : Option Nat} {w W : World} {c : OC} {a : OpP} (h : OkA w c a) (hb : Below w.heap.size w W) (ho : ∀ g, own = some g → w.heap.size ≤ g) : Parts 0 own W c a :=
  ⟨w, h, ⟨hb.size, fun p v hv => (hb.cell (cell_spot2 hv)).trans hv⟩, fun p v hv => ⟨Nat.zero_le _, fun e => by have := cell_spot2 hv; have := ho _ e; omega⟩⟩
/-- An operation told, and a number; its parts lie in no block own. -/
def NewOP (own : Option Nat) (w : World) (r : OpP × Int) (e : Ending) (w' : World) : Prop := ∃ c, e = .returned (.tuple #[.agg (OC.row c), .int .i64 r.2]) ∧ Parts 0 own w' c r.1 ∧ Below w.heap.size w w'
set_option maxRecDepth 100000 in
set_option maxHeartbeats 4000000 in
theorem brinvp_bad (w : World) (c : OC) (a : OpP) (own : Option Nat) (hpa : Parts 0 own w c a) (_hown : ∀ g, own = some g → g < w.heap.size) (ta : Tiny a) (he : formE a = 1) : Calls Try.prog 12 #[.agg c.row] w (NewOP own w (zeroO, 1)) := by
  have ha := hpa.ok
  have HPA := hd hpa
  clear hpa
  obtain ⟨W0, hW, hb0, hsz, e1, e2⟩ := two_vars w c
  have HV1 := hd e1
  have HV2 := hd e2
  have HW := hd hW
  have HB := hd hb0
  have HH := hd ha
  have HTA := hd ta
  have hlq : c.lq ≤ 1000 := by have := ta.hq; have := ha.hlq; omega
  have HE := hd he
  clear hW hb0 e1 e2 ha ta hsz he
  go_enter Try.func12, Try.ntmps12
  go_upto_region 1 with fail
  rw [HW.out]
  go_wp2_with (first
    | ((with_reducible refine gd_load (ty := 35) (x := .tmp 1) ?_); refine wpList_load_oc (by first | exact HI.out.v1 | exact HV1.out) _ rfl rfl rfl ?_)
    | (go_at_call 15; refine (rform_at (HH.out.later HB.out) HTA.out HE.out).mono ?_; rintro e w4 ⟨rfl, b4⟩; have HLO := hd (show w.heap.size + 1 < w4.heap.size from Nat.lt_of_lt_of_le HV2.out.lt b4.size); have HV1 := hd (HV1.out.keep b4); have HV2 := hd (HV2.out.keep b4); have HB := hd (step_b HB.out b4); clear b4)
    | ((with_reducible refine gd_store (ty := 35) (x := .tmp 2) ?_); refine wpList_store_var (c := OC.zero) HV2.out _ _ rfl rfl rfl rfl rfl ?_; intro W9 hv9 ho9; have HV2 := hd hv9; have HB := hd (off_below HB.out ho9 (Nat.le_succ _)); clear hv9 ho9))
  refine bodyPost_ret (result_oc2 Try.results12 _ _ HV2.out rfl) rfl ⟨OC.zero, rfl, parts_hole (OkA.zero _), HB.out⟩
set_option maxRecDepth 100000 in
set_option maxHeartbeats 4000000 in
theorem brinvp_1 (w : World) (c : OC) (a : OpP) (own : Option Nat) (hpa : Parts 0 own w c a) (_hown : ∀ g, own = some g → g < w.heap.size) (ta : Tiny a) (he : formE a = 0) (hk : c.k = 1) : Calls Try.prog 12 #[.agg c.row] w (NewOP own w ({ a with k := 2 }, 0)) := by
  have k1 : (c.k == 1) = true := by simp [hk]
  have k2 : (c.k == 2) = false := by simp [hk]
  have k3 : (c.k == 3) = false := by simp [hk]
  have k4 : (c.k == 4) = false := by simp [hk]
  have k5 : (c.k == 5) = false := by simp [hk]
  have k6 : (c.k == 6) = false := by simp [hk]
  have k7 : (c.k == 7) = false := by simp [hk]
  have k8 : (c.k == 8) = false := by simp [hk]
  have k9 : (c.k == 9) = false := by simp [hk]
  have HKK := hd hk
  clear hk
  have ha := hpa.ok
  have HPA := hd hpa
  clear hpa
  obtain ⟨W0, hW, hb0, hsz, e1, e2⟩ := two_vars w c
  have HV1 := hd e1
  have HV2 := hd e2
  have HW := hd hW
  have HB := hd hb0
  have HH := hd ha
  have HTA := hd ta
  have hlq : c.lq ≤ 1000 := by have := ta.hq; have := ha.hlq; omega
  have HE := hd he
  clear hW hb0 e1 e2 ha ta hsz he
  go_enter Try.func12, Try.ntmps12
  go_upto_region 1 with fail
  rw [HW.out]
  go_wp2_with (first
    | ((with_reducible refine gd_load (ty := 35) (x := .tmp 1) ?_); refine wpList_load_oc (by first | exact HI.out.v1 | exact HV1.out) _ rfl rfl rfl ?_)
    | (go_at_call 15; refine (rform_at (HH.out.later HB.out) HTA.out HE.out).mono ?_; rintro e w4 ⟨rfl, b4⟩; have HLO := hd (show w.heap.size + 1 < w4.heap.size from Nat.lt_of_lt_of_le HV2.out.lt b4.size); have HV1 := hd (HV1.out.keep b4); have HV2 := hd (HV2.out.keep b4); have HB := hd (step_b HB.out b4); clear b4)
    | ((with_reducible refine gd_store (ty := 35) (x := .tmp 5) ?_); refine wpList_store_oc (c := c) _ _ rfl rfl rfl rfl rfl rfl rfl ?_; have HI := hd (InvSt.made (w5 := w4) (cx := c) HV1.out HV2.out HB.out HLO.out (Nat.le_refl _)))
    | ((with_reducible refine gd_load (ty := 3) ?_); refine wpList_load_f1 HI.out.v1 (j := 0) (v := .int .i64 c.k) _ rfl rfl rfl rfl Try.underlying3 rfl ?_)
    | ((with_reducible refine gd_load (ty := 35) (x := .tmp 5) ?_); refine wpList_load_oc HI.out.v3 _ rfl rfl rfl ?_)
    | ((with_reducible refine gd_store (ty := 35) (x := .tmp 2) ?_); refine wpList_store_var HI.out.v2 _ _ rfl rfl rfl rfl rfl ?_; intro W9 hv9 ho9; have HV2 := hd hv9; have HT := hd (HI.out.told ho9); have HOF := hd ho9; clear hv9 ho9)
    | ((with_reducible refine gd_store (ty := 3) (x := .tmp 21) ?_); refine wpList_store_fld sz_int HI.out.v3 _ _ rfl rfl rfl 0 _ [.int .i64 2] { c with k := 2 } rfl rfl rfl rfl (by intro u hu; simp at hu; rcases hu with rfl | rfl | rfl | rfl | rfl <;> rfl) (Nat.le_of_ble_eq_true rfl) (by kernel_rfl) ?_; intro W9 hv9 ho9; have HI2 := hd (HI.out.put hv9 ho9); have HI := hd HI2.out; clear HI2 hv9 ho9))
  refine bodyPost_ret (result_oc2 Try.results12 _ _ HV2.out rfl) rfl ⟨{ c with k := 2 }, rfl, parts_hole ?_, HT.out.1⟩
  have h := (HPA.out.below HT.out.1).hole
  exact h.setK (by unfold In64; omega)
set_option maxRecDepth 100000 in
set_option maxHeartbeats 4000000 in
theorem brinvp_2 (w : World) (c : OC) (a : OpP) (own : Option Nat) (hpa : Parts 0 own w c a) (_hown : ∀ g, own = some g → g < w.heap.size) (ta : Tiny a) (he : formE a = 0) (hk : c.k = 2) : Calls Try.prog 12 #[.agg c.row] w (NewOP own w ({ a with k := 1 }, 0)) := by
  have k1 : (c.k == 1) = false := by simp [hk]
  have k2 : (c.k == 2) = true := by simp [hk]
  have k3 : (c.k == 3) = false := by simp [hk]
  have k4 : (c.k == 4) = false := by simp [hk]
  have k5 : (c.k == 5) = false := by simp [hk]
  have k6 : (c.k == 6) = false := by simp [hk]
  have k7 : (c.k == 7) = false := by simp [hk]
  have k8 : (c.k == 8) = false := by simp [hk]
  have k9 : (c.k == 9) = false := by simp [hk]
  have HKK := hd hk
  clear hk
  have ha := hpa.ok
  have HPA := hd hpa
  clear hpa
  obtain ⟨W0, hW, hb0, hsz, e1, e2⟩ := two_vars w c
  have HV1 := hd e1
  have HV2 := hd e2
  have HW := hd hW
  have HB := hd hb0
  have HH := hd ha
  have HTA := hd ta
  have hlq : c.lq ≤ 1000 := by have := ta.hq; have := ha.hlq; omega
  have HE := hd he
  clear hW hb0 e1 e2 ha ta hsz he
  go_enter Try.func12, Try.ntmps12
  go_upto_region 1 with fail
  rw [HW.out]
  go_wp2_with (first
    | ((with_reducible refine gd_load (ty := 35) (x := .tmp 1) ?_); refine wpList_load_oc (by first | exact HI.out.v1 | exact HV1.out) _ rfl rfl rfl ?_)
    | (go_at_call 15; refine (rform_at (HH.out.later HB.out) HTA.out HE.out).mono ?_; rintro e w4 ⟨rfl, b4⟩; have HLO := hd (show w.heap.size + 1 < w4.heap.size from Nat.lt_of_lt_of_le HV2.out.lt b4.size); have HV1 := hd (HV1.out.keep b4); have HV2 := hd (HV2.out.keep b4); have HB := hd (step_b HB.out b4); clear b4)
    | ((with_reducible refine gd_store (ty := 35) (x := .tmp 5) ?_); refine wpList_store_oc (c := c) _ _ rfl rfl rfl rfl rfl rfl rfl ?_; have HI := hd (InvSt.made (w5 := w4) (cx := c) HV1.out HV2.out HB.out HLO.out (Nat.le_refl _)))
    | ((with_reducible refine gd_load (ty := 3) ?_); refine wpList_load_f1 HI.out.v1 (j := 0) (v := .int .i64 c.k) _ rfl rfl rfl rfl Try.underlying3 rfl ?_)
    | ((with_reducible refine gd_load (ty := 35) (x := .tmp 5) ?_); refine wpList_load_oc HI.out.v3 _ rfl rfl rfl ?_)
    | ((with_reducible refine gd_store (ty := 35) (x := .tmp 2) ?_); refine wpList_store_var HI.out.v2 _ _ rfl rfl rfl rfl rfl ?_; intro W9 hv9 ho9; have HV2 := hd hv9; have HT := hd (HI.out.told ho9); have HOF := hd ho9; clear hv9 ho9)
    | ((with_reducible refine gd_store (ty := 3) (x := .tmp 24) ?_); refine wpList_store_fld sz_int HI.out.v3 _ _ rfl rfl rfl 0 _ [.int .i64 1] { c with k := 1 } rfl rfl rfl rfl (by intro u hu; simp at hu; rcases hu with rfl | rfl | rfl | rfl | rfl <;> rfl) (Nat.le_of_ble_eq_true rfl) (by kernel_rfl) ?_; intro W9 hv9 ho9; have HI2 := hd (HI.out.put hv9 ho9); have HI := hd HI2.out; clear HI2 hv9 ho9))
  refine bodyPost_ret (result_oc2 Try.results12 _ _ HV2.out rfl) rfl ⟨{ c with k := 1 }, rfl, parts_hole ?_, HT.out.1⟩
  have h := (HPA.out.below HT.out.1).hole
  exact h.setK (by unfold In64; omega)
set_option maxRecDepth 100000 in
set_option maxHeartbeats 4000000 in
theorem brinvp_7 (w : World) (c : OC) (a : OpP) (own : Option Nat) (hpa : Parts 0 own w c a) (_hown : ∀ g, own = some g → g < w.heap.size) (ta : Tiny a) (he : formE a = 0) (hk : c.k = 7) : Calls Try.prog 12 #[.agg c.row] w (NewOP own w ({ a with k := 8 }, 0)) := by
  have k1 : (c.k == 1) = false := by simp [hk]
  have k2 : (c.k == 2) = false := by simp [hk]
  have k3 : (c.k == 3) = false := by simp [hk]
  have k4 : (c.k == 4) = false := by simp [hk]
  have k5 : (c.k == 5) = false := by simp [hk]
  have k6 : (c.k == 6) = false := by simp [hk]
  have k7 : (c.k == 7) = true := by simp [hk]
  have k8 : (c.k == 8) = false := by simp [hk]
  have k9 : (c.k == 9) = false := by simp [hk]
  have HKK := hd hk
  clear hk
  have ha := hpa.ok
  have HPA := hd hpa
  clear hpa
  obtain ⟨W0, hW, hb0, hsz, e1, e2⟩ := two_vars w c
  have HV1 := hd e1
  have HV2 := hd e2
  have HW := hd hW
  have HB := hd hb0
  have HH := hd ha
  have HTA := hd ta
  have hlq : c.lq ≤ 1000 := by have := ta.hq; have := ha.hlq; omega
  have HE := hd he
  clear hW hb0 e1 e2 ha ta hsz he
  go_enter Try.func12, Try.ntmps12
  go_upto_region 1 with fail
  rw [HW.out]
  go_wp2_with (first
    | ((with_reducible refine gd_load (ty := 35) (x := .tmp 1) ?_); refine wpList_load_oc (by first | exact HI.out.v1 | exact HV1.out) _ rfl rfl rfl ?_)
    | (go_at_call 15; refine (rform_at (HH.out.later HB.out) HTA.out HE.out).mono ?_; rintro e w4 ⟨rfl, b4⟩; have HLO := hd (show w.heap.size + 1 < w4.heap.size from Nat.lt_of_lt_of_le HV2.out.lt b4.size); have HV1 := hd (HV1.out.keep b4); have HV2 := hd (HV2.out.keep b4); have HB := hd (step_b HB.out b4); clear b4)
    | ((with_reducible refine gd_store (ty := 35) (x := .tmp 5) ?_); refine wpList_store_oc (c := c) _ _ rfl rfl rfl rfl rfl rfl rfl ?_; have HI := hd (InvSt.made (w5 := w4) (cx := c) HV1.out HV2.out HB.out HLO.out (Nat.le_refl _)))
    | ((with_reducible refine gd_load (ty := 3) ?_); refine wpList_load_f1 HI.out.v1 (j := 0) (v := .int .i64 c.k) _ rfl rfl rfl rfl Try.underlying3 rfl ?_)
    | ((with_reducible refine gd_load (ty := 35) (x := .tmp 5) ?_); refine wpList_load_oc HI.out.v3 _ rfl rfl rfl ?_)
    | ((with_reducible refine gd_store (ty := 35) (x := .tmp 2) ?_); refine wpList_store_var HI.out.v2 _ _ rfl rfl rfl rfl rfl ?_; intro W9 hv9 ho9; have HV2 := hd hv9; have HT := hd (HI.out.told ho9); have HOF := hd ho9; clear hv9 ho9)
    | ((with_reducible refine gd_store (ty := 3) (x := .tmp 79) ?_); refine wpList_store_fld sz_int HI.out.v3 _ _ rfl rfl rfl 0 _ [.int .i64 8] { c with k := 8 } rfl rfl rfl rfl (by intro u hu; simp at hu; rcases hu with rfl | rfl | rfl | rfl | rfl <;> rfl) (Nat.le_of_ble_eq_true rfl) (by kernel_rfl) ?_; intro W9 hv9 ho9; have HI2 := hd (HI.out.put hv9 ho9); have HI := hd HI2.out; clear HI2 hv9 ho9))
  refine bodyPost_ret (result_oc2 Try.results12 _ _ HV2.out rfl) rfl ⟨{ c with k := 8 }, rfl, parts_hole ?_, HT.out.1⟩
  have h := (HPA.out.below HT.out.1).hole
  exact h.setK (by unfold In64; omega)
set_option maxRecDepth 100000 in
set_option maxHeartbeats 4000000 in
theorem brinvp_8 (w : World) (c : OC) (a : OpP) (own : Option Nat) (hpa : Parts 0 own w c a) (_hown : ∀ g, own = some g → g < w.heap.size) (ta : Tiny a) (he : formE a = 0) (hk : c.k = 8) : Calls Try.prog 12 #[.agg c.row] w (NewOP own w ({ a with k := 7 }, 0)) := by
  have k1 : (c.k == 1) = false := by simp [hk]
  have k2 : (c.k == 2) = false := by simp [hk]
  have k3 : (c.k == 3) = false := by simp [hk]
  have k4 : (c.k == 4) = false := by simp [hk]
  have k5 : (c.k == 5) = false := by simp [hk]
  have k6 : (c.k == 6) = false := by simp [hk]
  have k7 : (c.k == 7) = false := by simp [hk]
  have k8 : (c.k == 8) = true := by simp [hk]
  have k9 : (c.k == 9) = false := by simp [hk]
  have HKK := hd hk
  clear hk
  have ha := hpa.ok
  have HPA := hd hpa
  clear hpa
  obtain ⟨W0, hW, hb0, hsz, e1, e2⟩ := two_vars w c
  have HV1 := hd e1
  have HV2 := hd e2
  have HW := hd hW
  have HB := hd hb0
  have HH := hd ha
  have HTA := hd ta
  have hlq : c.lq ≤ 1000 := by have := ta.hq; have := ha.hlq; omega
  have HE := hd he
  clear hW hb0 e1 e2 ha ta hsz he
  go_enter Try.func12, Try.ntmps12
  go_upto_region 1 with fail
  rw [HW.out]
  go_wp2_with (first
    | ((with_reducible refine gd_load (ty := 35) (x := .tmp 1) ?_); refine wpList_load_oc (by first | exact HI.out.v1 | exact HV1.out) _ rfl rfl rfl ?_)
    | (go_at_call 15; refine (rform_at (HH.out.later HB.out) HTA.out HE.out).mono ?_; rintro e w4 ⟨rfl, b4⟩; have HLO := hd (show w.heap.size + 1 < w4.heap.size from Nat.lt_of_lt_of_le HV2.out.lt b4.size); have HV1 := hd (HV1.out.keep b4); have HV2 := hd (HV2.out.keep b4); have HB := hd (step_b HB.out b4); clear b4)
    | ((with_reducible refine gd_store (ty := 35) (x := .tmp 5) ?_); refine wpList_store_oc (c := c) _ _ rfl rfl rfl rfl rfl rfl rfl ?_; have HI := hd (InvSt.made (w5 := w4) (cx := c) HV1.out HV2.out HB.out HLO.out (Nat.le_refl _)))
    | ((with_reducible refine gd_load (ty := 3) ?_); refine wpList_load_f1 HI.out.v1 (j := 0) (v := .int .i64 c.k) _ rfl rfl rfl rfl Try.underlying3 rfl ?_)
    | ((with_reducible refine gd_load (ty := 35) (x := .tmp 5) ?_); refine wpList_load_oc HI.out.v3 _ rfl rfl rfl ?_)
    | ((with_reducible refine gd_store (ty := 35) (x := .tmp 2) ?_); refine wpList_store_var HI.out.v2 _ _ rfl rfl rfl rfl rfl ?_; intro W9 hv9 ho9; have HV2 := hd hv9; have HT := hd (HI.out.told ho9); have HOF := hd ho9; clear hv9 ho9)
    | ((with_reducible refine gd_store (ty := 3) (x := .tmp 82) ?_); refine wpList_store_fld sz_int HI.out.v3 _ _ rfl rfl rfl 0 _ [.int .i64 7] { c with k := 7 } rfl rfl rfl rfl (by intro u hu; simp at hu; rcases hu with rfl | rfl | rfl | rfl | rfl <;> rfl) (Nat.le_of_ble_eq_true rfl) (by kernel_rfl) ?_; intro W9 hv9 ho9; have HI2 := hd (HI.out.put hv9 ho9); have HI := hd HI2.out; clear HI2 hv9 ho9))
  refine bodyPost_ret (result_oc2 Try.results12 _ _ HV2.out rfl) rfl ⟨{ c with k := 7 }, rfl, parts_hole ?_, HT.out.1⟩
  have h := (HPA.out.below HT.out.1).hole
  exact h.setK (by unfold In64; omega)
set_option maxRecDepth 100000 in
set_option maxHeartbeats 4000000 in
theorem brinvp_5 (w : World) (c : OC) (a : OpP) (own : Option Nat) (hpa : Parts 0 own w c a) (_hown : ∀ g, own = some g → g < w.heap.size) (ta : Tiny a) (he : formE a = 0) (hk : c.k = 5) : Calls Try.prog 12 #[.agg c.row] w (NewOP own w ({ a with q := a.t, t := a.q }, 0)) := by
  have k1 : (c.k == 1) = false := by simp [hk]
  have k2 : (c.k == 2) = false := by simp [hk]
  have k3 : (c.k == 3) = false := by simp [hk]
  have k4 : (c.k == 4) = false := by simp [hk]
  have k5 : (c.k == 5) = true := by simp [hk]
  have k6 : (c.k == 6) = false := by simp [hk]
  have k7 : (c.k == 7) = false := by simp [hk]
  have k8 : (c.k == 8) = false := by simp [hk]
  have k9 : (c.k == 9) = false := by simp [hk]
  have HKK := hd hk
  clear hk
  have ha := hpa.ok
  have HPA := hd hpa
  clear hpa
  obtain ⟨W0, hW, hb0, hsz, e1, e2⟩ := two_vars w c
  have HV1 := hd e1
  have HV2 := hd e2
  have HW := hd hW
  have HB := hd hb0
  have HH := hd ha
  have HTA := hd ta
  have hlq : c.lq ≤ 1000 := by have := ta.hq; have := ha.hlq; omega
  have HE := hd he
  clear hW hb0 e1 e2 ha ta hsz he
  go_enter Try.func12, Try.ntmps12
  go_upto_region 1 with fail
  rw [HW.out]
  go_wp2_with (first
    | ((with_reducible refine gd_load (ty := 35) (x := .tmp 1) ?_); refine wpList_load_oc (by first | exact HI.out.v1 | exact HV1.out) _ rfl rfl rfl ?_)
    | (go_at_call 15; refine (rform_at (HH.out.later HB.out) HTA.out HE.out).mono ?_; rintro e w4 ⟨rfl, b4⟩; have HLO := hd (show w.heap.size + 1 < w4.heap.size from Nat.lt_of_lt_of_le HV2.out.lt b4.size); have HV1 := hd (HV1.out.keep b4); have HV2 := hd (HV2.out.keep b4); have HB := hd (step_b HB.out b4); clear b4)
    | ((with_reducible refine gd_store (ty := 35) (x := .tmp 5) ?_); refine wpList_store_oc (c := c) _ _ rfl rfl rfl rfl rfl rfl rfl ?_; have HI := hd (InvSt.made (w5 := w4) (cx := c) HV1.out HV2.out HB.out HLO.out (Nat.le_refl _)))
    | ((with_reducible refine gd_load (ty := 3) ?_); refine wpList_load_f1 HI.out.v1 (j := 0) (v := .int .i64 c.k) _ rfl rfl rfl rfl Try.underlying3 rfl ?_)
    | ((with_reducible refine gd_load (ty := 35) (x := .tmp 5) ?_); refine wpList_load_oc HI.out.v3 _ rfl rfl rfl ?_)
    | ((with_reducible refine gd_store (ty := 35) (x := .tmp 2) ?_); refine wpList_store_var HI.out.v2 _ _ rfl rfl rfl rfl rfl ?_; intro W9 hv9 ho9; have HV2 := hd hv9; have HT := hd (HI.out.told ho9); have HOF := hd ho9; clear hv9 ho9)
    | ((with_reducible refine gd_load (ty := 22) (x := .tmp 63) ?_); refine wpList_load_f1 HI.out.v1 (j := 2) (v := .slice c.T c.lt c.ct) _ rfl rfl rfl rfl Try.underlying22 rfl ?_)
    | ((with_reducible refine gd_store (ty := 22) (x := .tmp 65) ?_); refine wpList_store_fld sz_path HI.out.v3 _ _ rfl rfl rfl 1 _ [.slice c.T c.lt c.ct] { c with Q := c.T, lq := c.lt, cq := c.ct } rfl rfl rfl rfl (by intro u hu; simp at hu; rcases hu with rfl | rfl | rfl | rfl | rfl <;> rfl) (Nat.le_of_ble_eq_true rfl) (by kernel_rfl) ?_; intro W9 hv9 ho9; have HI2 := hd (HI.out.put hv9 ho9); have HI := hd HI2.out; clear HI2 hv9 ho9)
    | ((with_reducible refine gd_load (ty := 22) (x := .tmp 66) ?_); refine wpList_load_f1 HI.out.v1 (j := 1) (v := .slice c.Q c.lq c.cq) _ rfl rfl rfl rfl Try.underlying22 rfl ?_)
    | ((with_reducible refine gd_store (ty := 22) (x := .tmp 68) ?_); refine wpList_store_fld sz_path HI.out.v3 _ _ rfl rfl rfl 2 _ [.slice c.Q c.lq c.cq] { c with Q := c.T, lq := c.lt, cq := c.ct, T := c.Q, lt := c.lq, ct := c.cq } rfl rfl rfl rfl (by intro u hu; simp at hu; rcases hu with rfl | rfl | rfl | rfl | rfl <;> rfl) (Nat.le_of_ble_eq_true rfl) (by kernel_rfl) ?_; intro W9 hv9 ho9; have HI2 := hd (HI.out.put hv9 ho9); have HI := hd HI2.out; clear HI2 hv9 ho9))
  refine bodyPost_ret (result_oc2 Try.results12 _ _ HV2.out rfl) rfl ⟨{ c with Q := c.T, lq := c.lt, cq := c.ct, T := c.Q, lt := c.lq, ct := c.cq }, rfl, parts_hole ?_, HT.out.1⟩
  have h := (HPA.out.below HT.out.1).hole
  exact (h.setQ h.hlt h.hct h.hmt h.ht h.hit).setT h.hlq h.hcq h.hmq h.hq h.hiq
set_option maxRecDepth 100000 in
set_option maxHeartbeats 4000000 in
theorem brinvp_6 (w : World) (c : OC) (a : OpP) (own : Option Nat) (hpa : Parts 0 own w c a) (_hown : ∀ g, own = some g → g < w.heap.size) (ta : Tiny a) (he : formE a = 0) (hk : c.k = 6) : Calls Try.prog 12 #[.agg c.row] w (NewOP own w ({ a with o := a.w, w := a.o }, 0)) := by
  have k1 : (c.k == 1) = false := by simp [hk]
  have k2 : (c.k == 2) = false := by simp [hk]
  have k3 : (c.k == 3) = false := by simp [hk]
  have k4 : (c.k == 4) = false := by simp [hk]
  have k5 : (c.k == 5) = false := by simp [hk]
  have k6 : (c.k == 6) = true := by simp [hk]
  have k7 : (c.k == 7) = false := by simp [hk]
  have k8 : (c.k == 8) = false := by simp [hk]
  have k9 : (c.k == 9) = false := by simp [hk]
  have HKK := hd hk
  clear hk
  have ha := hpa.ok
  have HPA := hd hpa
  clear hpa
  obtain ⟨W0, hW, hb0, hsz, e1, e2⟩ := two_vars w c
  have HV1 := hd e1
  have HV2 := hd e2
  have HW := hd hW
  have HB := hd hb0
  have HH := hd ha
  have HTA := hd ta
  have hlq : c.lq ≤ 1000 := by have := ta.hq; have := ha.hlq; omega
  have HE := hd he
  clear hW hb0 e1 e2 ha ta hsz he
  go_enter Try.func12, Try.ntmps12
  go_upto_region 1 with fail
  rw [HW.out]
  go_wp2_with (first
    | ((with_reducible refine gd_load (ty := 35) (x := .tmp 1) ?_); refine wpList_load_oc (by first | exact HI.out.v1 | exact HV1.out) _ rfl rfl rfl ?_)
    | (go_at_call 15; refine (rform_at (HH.out.later HB.out) HTA.out HE.out).mono ?_; rintro e w4 ⟨rfl, b4⟩; have HLO := hd (show w.heap.size + 1 < w4.heap.size from Nat.lt_of_lt_of_le HV2.out.lt b4.size); have HV1 := hd (HV1.out.keep b4); have HV2 := hd (HV2.out.keep b4); have HB := hd (step_b HB.out b4); clear b4)
    | ((with_reducible refine gd_store (ty := 35) (x := .tmp 5) ?_); refine wpList_store_oc (c := c) _ _ rfl rfl rfl rfl rfl rfl rfl ?_; have HI := hd (InvSt.made (w5 := w4) (cx := c) HV1.out HV2.out HB.out HLO.out (Nat.le_refl _)))
    | ((with_reducible refine gd_load (ty := 3) ?_); refine wpList_load_f1 HI.out.v1 (j := 0) (v := .int .i64 c.k) _ rfl rfl rfl rfl Try.underlying3 rfl ?_)
    | ((with_reducible refine gd_load (ty := 35) (x := .tmp 5) ?_); refine wpList_load_oc HI.out.v3 _ rfl rfl rfl ?_)
    | ((with_reducible refine gd_store (ty := 35) (x := .tmp 2) ?_); refine wpList_store_var HI.out.v2 _ _ rfl rfl rfl rfl rfl ?_; intro W9 hv9 ho9; have HV2 := hd hv9; have HT := hd (HI.out.told ho9); have HOF := hd ho9; clear hv9 ho9)
    | ((with_reducible refine gd_load (ty := 23) (x := .tmp 71) ?_); refine wpList_load_f1 HI.out.v1 (j := 9) (v := .slice c.W c.nw c.cw) _ rfl rfl rfl rfl Try.underlying23 rfl ?_)
    | ((with_reducible refine gd_store (ty := 23) (x := .tmp 73) ?_); refine wpList_store_fld sz_props HI.out.v3 _ _ rfl rfl rfl 8 _ [.slice c.W c.nw c.cw] { c with O := c.W, no := c.nw, co := c.cw } rfl rfl rfl rfl (by intro u hu; simp at hu; rcases hu with rfl | rfl | rfl | rfl | rfl <;> rfl) (Nat.le_of_ble_eq_true rfl) (by kernel_rfl) ?_; intro W9 hv9 ho9; have HI2 := hd (HI.out.put hv9 ho9); have HI := hd HI2.out; clear HI2 hv9 ho9)
    | ((with_reducible refine gd_load (ty := 23) (x := .tmp 74) ?_); refine wpList_load_f1 HI.out.v1 (j := 8) (v := .slice c.O c.no c.co) _ rfl rfl rfl rfl Try.underlying23 rfl ?_)
    | ((with_reducible refine gd_store (ty := 23) (x := .tmp 76) ?_); refine wpList_store_fld sz_props HI.out.v3 _ _ rfl rfl rfl 9 _ [.slice c.O c.no c.co] { c with O := c.W, no := c.nw, co := c.cw, W := c.O, nw := c.no, cw := c.co } rfl rfl rfl rfl (by intro u hu; simp at hu; rcases hu with rfl | rfl | rfl | rfl | rfl <;> rfl) (Nat.le_of_ble_eq_true rfl) (by kernel_rfl) ?_; intro W9 hv9 ho9; have HI2 := hd (HI.out.put hv9 ho9); have HI := hd HI2.out; clear HI2 hv9 ho9))
  refine bodyPost_ret (result_oc2 Try.results12 _ _ HV2.out rfl) rfl ⟨{ c with O := c.W, no := c.nw, co := c.cw, W := c.O, nw := c.no, cw := c.co }, rfl, parts_hole ?_, HT.out.1⟩
  have h := (HPA.out.below HT.out.1).hole
  exact (h.setO h.hnw h.hcw h.hmw h.hw h.hww).setW h.hno h.hco h.hmo h.ho h.hwo
set_option maxRecDepth 100000 in
set_option maxHeartbeats 4000000 in
theorem brinvp_9 (w : World) (c : OC) (a : OpP) (own : Option Nat) (hpa : Parts 0 own w c a) (_hown : ∀ g, own = some g → g < w.heap.size) (ta : Tiny a) (he : formE a = 0) (hk : c.k = 9) : Calls Try.prog 12 #[.agg c.row] w (NewOP own w ({ a with f := a.g, g := a.f }, 0)) := by
  have k1 : (c.k == 1) = false := by simp [hk]
  have k2 : (c.k == 2) = false := by simp [hk]
  have k3 : (c.k == 3) = false := by simp [hk]
  have k4 : (c.k == 4) = false := by simp [hk]
  have k5 : (c.k == 5) = false := by simp [hk]
  have k6 : (c.k == 6) = false := by simp [hk]
  have k7 : (c.k == 7) = false := by simp [hk]
  have k8 : (c.k == 8) = false := by simp [hk]
  have k9 : (c.k == 9) = true := by simp [hk]
  have HKK := hd hk
  clear hk
  have ha := hpa.ok
  have HPA := hd hpa
  clear hpa
  obtain ⟨W0, hW, hb0, hsz, e1, e2⟩ := two_vars w c
  have HV1 := hd e1
  have HV2 := hd e2
  have HW := hd hW
  have HB := hd hb0
  have HH := hd ha
  have HTA := hd ta
  have hlq : c.lq ≤ 1000 := by have := ta.hq; have := ha.hlq; omega
  have HE := hd he
  clear hW hb0 e1 e2 ha ta hsz he
  go_enter Try.func12, Try.ntmps12
  go_upto_region 1 with fail
  rw [HW.out]
  go_wp2_with (first
    | ((with_reducible refine gd_load (ty := 35) (x := .tmp 1) ?_); refine wpList_load_oc (by first | exact HI.out.v1 | exact HV1.out) _ rfl rfl rfl ?_)
    | (go_at_call 15; refine (rform_at (HH.out.later HB.out) HTA.out HE.out).mono ?_; rintro e w4 ⟨rfl, b4⟩; have HLO := hd (show w.heap.size + 1 < w4.heap.size from Nat.lt_of_lt_of_le HV2.out.lt b4.size); have HV1 := hd (HV1.out.keep b4); have HV2 := hd (HV2.out.keep b4); have HB := hd (step_b HB.out b4); clear b4)
    | ((with_reducible refine gd_store (ty := 35) (x := .tmp 5) ?_); refine wpList_store_oc (c := c) _ _ rfl rfl rfl rfl rfl rfl rfl ?_; have HI := hd (InvSt.made (w5 := w4) (cx := c) HV1.out HV2.out HB.out HLO.out (Nat.le_refl _)))
    | ((with_reducible refine gd_load (ty := 3) ?_); refine wpList_load_f1 HI.out.v1 (j := 0) (v := .int .i64 c.k) _ rfl rfl rfl rfl Try.underlying3 rfl ?_)
    | ((with_reducible refine gd_load (ty := 35) (x := .tmp 5) ?_); refine wpList_load_oc HI.out.v3 _ rfl rfl rfl ?_)
    | ((with_reducible refine gd_store (ty := 35) (x := .tmp 2) ?_); refine wpList_store_var HI.out.v2 _ _ rfl rfl rfl rfl rfl ?_; intro W9 hv9 ho9; have HV2 := hd hv9; have HT := hd (HI.out.told ho9); have HOF := hd ho9; clear hv9 ho9)
    | ((with_reducible refine gd_load (ty := 33) (x := .tmp 85) ?_); refine wpList_load_fn HI.out.v1 (j := 16) (vs := [.bool c.gi, .slice c.G1 c.g1 c.e1, .int .i64 c.go, .slice c.G2 c.g2 c.e2, .int .i64 c.gp]) row_sel _ rfl rfl rfl (by kernel_rfl) ?_)
    | ((with_reducible refine gd_store (ty := 33) (x := .tmp 87) ?_); refine wpList_store_fld sz_sel HI.out.v3 _ _ rfl rfl rfl 11 _ [.bool c.gi, .slice c.G1 c.g1 c.e1, .int .i64 c.go, .slice c.G2 c.g2 c.e2, .int .i64 c.gp] { c with fi := c.gi, F1 := c.G1, f1 := c.g1, d1 := c.e1, fo := c.go, F2 := c.G2, f2 := c.g2, d2 := c.e2, fp := c.gp } rfl rfl rfl rfl (by intro u hu; simp at hu; rcases hu with rfl | rfl | rfl | rfl | rfl <;> rfl) (Nat.le_of_ble_eq_true rfl) (by kernel_rfl) ?_; intro W9 hv9 ho9; have HI2 := hd (HI.out.put hv9 ho9); have HI := hd HI2.out; clear HI2 hv9 ho9)
    | ((with_reducible refine gd_load (ty := 33) (x := .tmp 88) ?_); refine wpList_load_fn HI.out.v1 (j := 11) (vs := [.bool c.fi, .slice c.F1 c.f1 c.d1, .int .i64 c.fo, .slice c.F2 c.f2 c.d2, .int .i64 c.fp]) row_sel _ rfl rfl rfl (by kernel_rfl) ?_)
    | ((with_reducible refine gd_store (ty := 33) (x := .tmp 90) ?_); refine wpList_store_fld sz_sel HI.out.v3 _ _ rfl rfl rfl 16 _ [.bool c.fi, .slice c.F1 c.f1 c.d1, .int .i64 c.fo, .slice c.F2 c.f2 c.d2, .int .i64 c.fp] { c with fi := c.gi, F1 := c.G1, f1 := c.g1, d1 := c.e1, fo := c.go, F2 := c.G2, f2 := c.g2, d2 := c.e2, fp := c.gp, gi := c.fi, G1 := c.F1, g1 := c.f1, e1 := c.d1, go := c.fo, G2 := c.F2, g2 := c.f2, e2 := c.d2, gp := c.fp } rfl rfl rfl rfl (by intro u hu; simp at hu; rcases hu with rfl | rfl | rfl | rfl | rfl <;> rfl) (Nat.le_of_ble_eq_true rfl) (by kernel_rfl) ?_; intro W9 hv9 ho9; have HI2 := hd (HI.out.put hv9 ho9); have HI := hd HI2.out; clear HI2 hv9 ho9))
  refine bodyPost_ret (result_oc2 Try.results12 _ _ HV2.out rfl) rfl ⟨{ c with fi := c.gi, F1 := c.G1, f1 := c.g1, d1 := c.e1, fo := c.go, F2 := c.G2, f2 := c.g2, d2 := c.e2, fp := c.gp, gi := c.fi, G1 := c.F1, g1 := c.f1, e1 := c.d1, go := c.fo, G2 := c.F2, g2 := c.f2, e2 := c.d2, gp := c.fp }, rfl, parts_hole ?_, HT.out.1⟩
  have h := (HPA.out.below HT.out.1).hole
  exact (h.setF h.hg).setG h.hf
set_option maxRecDepth 100000 in
set_option maxHeartbeats 4000000 in
theorem brinvp_3e (w : World) (c : OC) (a : OpP) (own : Option Nat) (hpa : Parts 0 own w c a) (_hown : ∀ g, own = some g → g < w.heap.size) (ta : Tiny a) (he : formE a = 0) (hk : c.k = 3) (er : Int) (hr : (backL a.q).2 = er) (h0 : (er != 0) = true) : Calls Try.prog 12 #[.agg c.row] w (NewOP own w (zeroO, er)) := by
  have k1 : (c.k == 1) = false := by simp [hk]
  have k2 : (c.k == 2) = false := by simp [hk]
  have k3 : (c.k == 3) = true := by simp [hk]
  have k4 : (c.k == 4) = false := by simp [hk]
  have k5 : (c.k == 5) = false := by simp [hk]
  have k6 : (c.k == 6) = false := by simp [hk]
  have k7 : (c.k == 7) = false := by simp [hk]
  have k8 : (c.k == 8) = false := by simp [hk]
  have k9 : (c.k == 9) = false := by simp [hk]
  have HKK := hd hk
  clear hk
  have HER := hd hr
  clear hr
  have ha := hpa.ok
  have HPA := hd hpa
  clear hpa
  obtain ⟨W0, hW, hb0, hsz, e1, e2⟩ := two_vars w c
  have HV1 := hd e1
  have HV2 := hd e2
  have HW := hd hW
  have HB := hd hb0
  have HH := hd ha
  have HTA := hd ta
  have hlq : c.lq ≤ 1000 := by have := ta.hq; have := ha.hlq; omega
  have HE := hd he
  clear hW hb0 e1 e2 ha ta hsz he
  go_enter Try.func12, Try.ntmps12
  go_upto_region 1 with fail
  rw [HW.out]
  go_wp2_with (first
    | ((with_reducible refine gd_load (ty := 35) (x := .tmp 1) ?_); refine wpList_load_oc (by first | exact HI.out.v1 | exact HV1.out) _ rfl rfl rfl ?_)
    | (go_at_call 15; refine (rform_at (HH.out.later HB.out) HTA.out HE.out).mono ?_; rintro e w4 ⟨rfl, b4⟩; have HLO := hd (show w.heap.size + 1 < w4.heap.size from Nat.lt_of_lt_of_le HV2.out.lt b4.size); have HV1 := hd (HV1.out.keep b4); have HV2 := hd (HV2.out.keep b4); have HB := hd (step_b HB.out b4); clear b4)
    | ((with_reducible refine gd_store (ty := 35) (x := .tmp 5) ?_); refine wpList_store_oc (c := c) _ _ rfl rfl rfl rfl rfl rfl rfl ?_; have HI := hd (InvSt.made (w5 := w4) (cx := c) HV1.out HV2.out HB.out HLO.out (Nat.le_refl _)))
    | ((with_reducible refine gd_load (ty := 22) (x := .tmp 28) ?_); refine wpList_load_f1 HI.out.v1 (j := 1) (v := .slice c.Q c.lq c.cq) _ rfl rfl rfl rfl Try.underlying22 rfl ?_)
    | ((with_reducible refine gd_load (ty := 3) ?_); refine wpList_load_f1 HI.out.v1 (j := 0) (v := .int .i64 c.k) _ rfl rfl rfl rfl Try.underlying3 rfl ?_)
    | (go_at_call 29; refine (irback_any c.Q a.q c.lq c.cq _ HH.out.hlq hlq HH.out.hiq (HH.out.later HI.out.below).hq).mono ?_; rintro e w7 ⟨v7, rfl, ho7, b7⟩; obtain ⟨Ap, dp, rfl, hp1, _, hp2⟩ := ho7.open_; have HP := hd (own_stab ho7); have HLW := hd HI.out.v3.lt; have HI := hd (HI.out.call b7); have HD := hd hp1; clear b7 hp2 ho7; dsimp only; rw [HER.out])
    | ((with_reducible refine gd_store (ty := 35) (x := .tmp 2) ?_); refine wpList_store_var (c := OC.zero) HI.out.v2 _ _ rfl rfl rfl rfl rfl ?_; intro W9 hv9 ho9; have HV2 := hd hv9; have HB := hd (off_below HI.out.below ho9 (Nat.le_succ _)); clear hv9 ho9))
  refine bodyPost_ret (result_oc2 Try.results12 _ _ HV2.out rfl) rfl ⟨OC.zero, rfl, parts_hole (OkA.zero _), HB.out⟩
set_option maxRecDepth 100000 in
set_option maxHeartbeats 4000000 in
theorem brinvp_3 (w : World) (c : OC) (a : OpP) (own : Option Nat) (hpa : Parts 0 own w c a) (hown : ∀ g, own = some g → g < w.heap.size) (ta : Tiny a) (he : formE a = 0) (hk : c.k = 3) (hr : (backL a.q).2 = 0) : Calls Try.prog 12 #[.agg c.row] w (NewOP own w ({ zeroO with k := 4, q := (backL a.q).1, z := a.z, w := a.o }, 0)) := by
  have HLEN := hd (show ∀ x, (backL a.q).1 = x → InI x ∧ x.length ≤ 1000 from fun x h => h ▸ half_in_3 hpa.ok.hiq ta.hq)
  obtain ⟨lp, hlp⟩ : ∃ n, (backL a.q).1.length = n := ⟨_, rfl⟩
  have HLP := hd hlp
  clear hlp
  have k1 : (c.k == 1) = false := by simp [hk]
  have k2 : (c.k == 2) = false := by simp [hk]
  have k3 : (c.k == 3) = true := by simp [hk]
  have k4 : (c.k == 4) = false := by simp [hk]
  have k5 : (c.k == 5) = false := by simp [hk]
  have k6 : (c.k == 6) = false := by simp [hk]
  have k7 : (c.k == 7) = false := by simp [hk]
  have k8 : (c.k == 8) = false := by simp [hk]
  have k9 : (c.k == 9) = false := by simp [hk]
  have HKK := hd hk
  clear hk
  have HER := hd hr
  clear hr
  have ha := hpa.ok
  have HPA := hd hpa
  clear hpa
  obtain ⟨W0, hW, hb0, hsz, e1, e2⟩ := two_vars w c
  have HV1 := hd e1
  have HV2 := hd e2
  have HW := hd hW
  have HB := hd hb0
  have HH := hd ha
  have HTA := hd ta
  have hlq : c.lq ≤ 1000 := by have := ta.hq; have := ha.hlq; omega
  have HE := hd he
  clear hW hb0 e1 e2 ha ta hsz he
  go_enter Try.func12, Try.ntmps12
  go_upto_region 1 with fail
  rw [HW.out]
  go_wp2_with (first
    | ((with_reducible refine gd_store (ty := 35) (x := .tmp 5) ?_); refine wpList_store_var (c := (OC.mk 4 Ap lp dp none 0 0 c.z false none 0 0 none 0 0 none 0 0 none 0 0 c.O c.no c.co none 0 0 false none 0 0 0 none 0 0 0 false none 0 0 0 none 0 0 0)) HI.out.v3 _ _ rfl rfl rfl rfl rfl ?_; intro W9 hv9 ho9; have HI2 := hd (HI.out.put hv9 ho9); have HP := hd (HP.out.high (High.off ho9 HLW.out)); have HI := hd HI2.out; clear HI2 hv9 ho9)
    | ((with_reducible refine gd_load (ty := 3) (x := .tmp 38) ?_); refine wpList_load_f1 HI.out.v1 (j := 3) (v := .int .i64 c.z) _ rfl rfl rfl rfl Try.underlying3 rfl ?_)
    | ((with_reducible refine gd_load (ty := 35) (x := .tmp 1) ?_); refine wpList_load_oc (by first | exact HI.out.v1 | exact HV1.out) _ rfl rfl rfl ?_)
    | (go_at_call 15; refine (rform_at (HH.out.later HB.out) HTA.out HE.out).mono ?_; rintro e w4 ⟨rfl, b4⟩; have HLO := hd (show w.heap.size + 1 < w4.heap.size from Nat.lt_of_lt_of_le HV2.out.lt b4.size); have HV1 := hd (HV1.out.keep b4); have HV2 := hd (HV2.out.keep b4); have HB := hd (step_b HB.out b4); clear b4)
    | ((with_reducible refine gd_store (ty := 35) (x := .tmp 5) ?_); refine wpList_store_oc (c := c) _ _ rfl rfl rfl rfl rfl rfl rfl ?_; have HI := hd (InvSt.made (w5 := w4) (cx := c) HV1.out HV2.out HB.out HLO.out (Nat.le_refl _)))
    | ((with_reducible refine gd_load (ty := 3) ?_); refine wpList_load_f1 HI.out.v1 (j := 0) (v := .int .i64 c.k) _ rfl rfl rfl rfl Try.underlying3 rfl ?_)
    | ((with_reducible refine gd_load (ty := 35) (x := .tmp 5) ?_); refine wpList_load_oc HI.out.v3 _ rfl rfl rfl ?_)
    | ((with_reducible refine gd_store (ty := 35) (x := .tmp 2) ?_); refine wpList_store_var HI.out.v2 _ _ rfl rfl rfl rfl rfl ?_; intro W9 hv9 ho9; have HV2 := hd hv9; have HT := hd (HI.out.told ho9); have HOF := hd ho9; clear hv9 ho9)
    | ((with_reducible refine gd_load (ty := 22) (x := .tmp 28) ?_); refine wpList_load_f1 HI.out.v1 (j := 1) (v := .slice c.Q c.lq c.cq) _ rfl rfl rfl rfl Try.underlying22 rfl ?_)
    | (go_at_call 29; refine (irback_any c.Q a.q c.lq c.cq _ HH.out.hlq hlq HH.out.hiq (HH.out.later HI.out.below).hq).mono ?_; rintro e w7 ⟨v7, rfl, ho7, b7⟩; obtain ⟨Ap, dp, rfl, hp1, _, hp2⟩ := ho7.open_; have HP := hd (own_stab ho7); have HLW := hd HI.out.v3.lt; have HI := hd (HI.out.call b7); have HD := hd hp1; rw [HLP.out] at HD ⊢; clear b7 hp2 ho7; dsimp only; rw [HER.out])
    | ((with_reducible refine gd_load (ty := 23) (x := .tmp 40) ?_); refine wpList_load_f1 HI.out.v1 (j := 8) (v := .slice c.O c.no c.co) _ rfl rfl rfl rfl Try.underlying23 rfl ?_))
  refine bodyPost_ret (result_oc2 Try.results12 _ _ HV2.out rfl) rfl ⟨(OC.mk 4 Ap lp dp none 0 0 c.z false none 0 0 none 0 0 none 0 0 none 0 0 c.O c.no c.co none 0 0 false none 0 0 0 none 0 0 0 false none 0 0 0 none 0 0 0), rfl, parts_hole ?_, HT.out.1⟩
  have h := (HPA.out.below HT.out.1).hole
  have hil := HLEN.out _ rfl
  have hpp := HP.out (hole own W9) ((High.off HOF.out (by have := HLO.out; have := HLW.out; omega)).trans (hole_high W9 (fun g e => by have := hown g e; have := HLO.out; have := HLW.out; omega)))
  have h1 := ((((OkA.zero (hole own W9)).setK (k := 4) (by unfold In64; omega)).setQ HLP.out HD.out (by have := hil.2; have := HLP.out; omega) hpp hil.1).setZ' h.hz).setW h.hno h.hco h.hmo h.ho h.hwo
  exact h1
set_option maxRecDepth 100000 in
set_option maxHeartbeats 4000000 in
theorem brinvp_4e (w : World) (c : OC) (a : OpP) (own : Option Nat) (hpa : Parts 0 own w c a) (_hown : ∀ g, own = some g → g < w.heap.size) (ta : Tiny a) (he : formE a = 0) (hk : c.k = 4) (er : Int) (hr : (nextL a.q).2 = er) (h0 : (er != 0) = true) : Calls Try.prog 12 #[.agg c.row] w (NewOP own w (zeroO, er)) := by
  have k1 : (c.k == 1) = false := by simp [hk]
  have k2 : (c.k == 2) = false := by simp [hk]
  have k3 : (c.k == 3) = false := by simp [hk]
  have k4 : (c.k == 4) = true := by simp [hk]
  have k5 : (c.k == 5) = false := by simp [hk]
  have k6 : (c.k == 6) = false := by simp [hk]
  have k7 : (c.k == 7) = false := by simp [hk]
  have k8 : (c.k == 8) = false := by simp [hk]
  have k9 : (c.k == 9) = false := by simp [hk]
  have HKK := hd hk
  clear hk
  have HER := hd hr
  clear hr
  have ha := hpa.ok
  have HPA := hd hpa
  clear hpa
  obtain ⟨W0, hW, hb0, hsz, e1, e2⟩ := two_vars w c
  have HV1 := hd e1
  have HV2 := hd e2
  have HW := hd hW
  have HB := hd hb0
  have HH := hd ha
  have HTA := hd ta
  have hlq : c.lq ≤ 1000 := by have := ta.hq; have := ha.hlq; omega
  have HE := hd he
  clear hW hb0 e1 e2 ha ta hsz he
  go_enter Try.func12, Try.ntmps12
  go_upto_region 1 with fail
  rw [HW.out]
  go_wp2_with (first
    | ((with_reducible refine gd_load (ty := 35) (x := .tmp 1) ?_); refine wpList_load_oc (by first | exact HI.out.v1 | exact HV1.out) _ rfl rfl rfl ?_)
    | (go_at_call 15; refine (rform_at (HH.out.later HB.out) HTA.out HE.out).mono ?_; rintro e w4 ⟨rfl, b4⟩; have HLO := hd (show w.heap.size + 1 < w4.heap.size from Nat.lt_of_lt_of_le HV2.out.lt b4.size); have HV1 := hd (HV1.out.keep b4); have HV2 := hd (HV2.out.keep b4); have HB := hd (step_b HB.out b4); clear b4)
    | ((with_reducible refine gd_store (ty := 35) (x := .tmp 5) ?_); refine wpList_store_oc (c := c) _ _ rfl rfl rfl rfl rfl rfl rfl ?_; have HI := hd (InvSt.made (w5 := w4) (cx := c) HV1.out HV2.out HB.out HLO.out (Nat.le_refl _)))
    | ((with_reducible refine gd_load (ty := 22) (x := .tmp 46) ?_); refine wpList_load_f1 HI.out.v1 (j := 1) (v := .slice c.Q c.lq c.cq) _ rfl rfl rfl rfl Try.underlying22 rfl ?_)
    | ((with_reducible refine gd_load (ty := 3) ?_); refine wpList_load_f1 HI.out.v1 (j := 0) (v := .int .i64 c.k) _ rfl rfl rfl rfl Try.underlying3 rfl ?_)
    | (go_at_call 30; refine (irnext_any c.Q a.q c.lq c.cq _ HH.out.hlq hlq HH.out.hiq (HH.out.later HI.out.below).hq).mono ?_; rintro e w7 ⟨v7, rfl, ho7, b7⟩; obtain ⟨Ap, dp, rfl, hp1, _, hp2⟩ := ho7.open_; have HP := hd (own_stab ho7); have HLW := hd HI.out.v3.lt; have HI := hd (HI.out.call b7); have HD := hd hp1; clear b7 hp2 ho7; dsimp only; rw [HER.out])
    | ((with_reducible refine gd_store (ty := 35) (x := .tmp 2) ?_); refine wpList_store_var (c := OC.zero) HI.out.v2 _ _ rfl rfl rfl rfl rfl ?_; intro W9 hv9 ho9; have HV2 := hd hv9; have HB := hd (off_below HI.out.below ho9 (Nat.le_succ _)); clear hv9 ho9))
  refine bodyPost_ret (result_oc2 Try.results12 _ _ HV2.out rfl) rfl ⟨OC.zero, rfl, parts_hole (OkA.zero _), HB.out⟩
set_option maxRecDepth 100000 in
set_option maxHeartbeats 4000000 in
theorem brinvp_4 (w : World) (c : OC) (a : OpP) (own : Option Nat) (hpa : Parts 0 own w c a) (hown : ∀ g, own = some g → g < w.heap.size) (ta : Tiny a) (he : formE a = 0) (hk : c.k = 4) (hr : (nextL a.q).2 = 0) : Calls Try.prog 12 #[.agg c.row] w (NewOP own w ({ zeroO with k := 3, q := (nextL a.q).1, z := a.z, o := a.w }, 0)) := by
  have HLEN := hd (show ∀ x, (nextL a.q).1 = x → InI x ∧ x.length ≤ 1000 from fun x h => h ▸ half_in_4 hpa.ok.hiq ta.hq)
  obtain ⟨lp, hlp⟩ : ∃ n, (nextL a.q).1.length = n := ⟨_, rfl⟩
  have HLP := hd hlp
  clear hlp
  have k1 : (c.k == 1) = false := by simp [hk]
  have k2 : (c.k == 2) = false := by simp [hk]
  have k3 : (c.k == 3) = false := by simp [hk]
  have k4 : (c.k == 4) = true := by simp [hk]
  have k5 : (c.k == 5) = false := by simp [hk]
  have k6 : (c.k == 6) = false := by simp [hk]
  have k7 : (c.k == 7) = false := by simp [hk]
  have k8 : (c.k == 8) = false := by simp [hk]
  have k9 : (c.k == 9) = false := by simp [hk]
  have HKK := hd hk
  clear hk
  have HER := hd hr
  clear hr
  have ha := hpa.ok
  have HPA := hd hpa
  clear hpa
  obtain ⟨W0, hW, hb0, hsz, e1, e2⟩ := two_vars w c
  have HV1 := hd e1
  have HV2 := hd e2
  have HW := hd hW
  have HB := hd hb0
  have HH := hd ha
  have HTA := hd ta
  have hlq : c.lq ≤ 1000 := by have := ta.hq; have := ha.hlq; omega
  have HE := hd he
  clear hW hb0 e1 e2 ha ta hsz he
  go_enter Try.func12, Try.ntmps12
  go_upto_region 1 with fail
  rw [HW.out]
  go_wp2_with (first
    | ((with_reducible refine gd_store (ty := 35) (x := .tmp 5) ?_); refine wpList_store_var (c := (OC.mk 3 Ap lp dp none 0 0 c.z false none 0 0 none 0 0 none 0 0 c.W c.nw c.cw none 0 0 none 0 0 false none 0 0 0 none 0 0 0 false none 0 0 0 none 0 0 0)) HI.out.v3 _ _ rfl rfl rfl rfl rfl ?_; intro W9 hv9 ho9; have HI2 := hd (HI.out.put hv9 ho9); have HP := hd (HP.out.high (High.off ho9 HLW.out)); have HI := hd HI2.out; clear HI2 hv9 ho9)
    | ((with_reducible refine gd_load (ty := 3) (x := .tmp 56) ?_); refine wpList_load_f1 HI.out.v1 (j := 3) (v := .int .i64 c.z) _ rfl rfl rfl rfl Try.underlying3 rfl ?_)
    | ((with_reducible refine gd_load (ty := 35) (x := .tmp 1) ?_); refine wpList_load_oc (by first | exact HI.out.v1 | exact HV1.out) _ rfl rfl rfl ?_)
    | (go_at_call 15; refine (rform_at (HH.out.later HB.out) HTA.out HE.out).mono ?_; rintro e w4 ⟨rfl, b4⟩; have HLO := hd (show w.heap.size + 1 < w4.heap.size from Nat.lt_of_lt_of_le HV2.out.lt b4.size); have HV1 := hd (HV1.out.keep b4); have HV2 := hd (HV2.out.keep b4); have HB := hd (step_b HB.out b4); clear b4)
    | ((with_reducible refine gd_store (ty := 35) (x := .tmp 5) ?_); refine wpList_store_oc (c := c) _ _ rfl rfl rfl rfl rfl rfl rfl ?_; have HI := hd (InvSt.made (w5 := w4) (cx := c) HV1.out HV2.out HB.out HLO.out (Nat.le_refl _)))
    | ((with_reducible refine gd_load (ty := 3) ?_); refine wpList_load_f1 HI.out.v1 (j := 0) (v := .int .i64 c.k) _ rfl rfl rfl rfl Try.underlying3 rfl ?_)
    | ((with_reducible refine gd_load (ty := 35) (x := .tmp 5) ?_); refine wpList_load_oc HI.out.v3 _ rfl rfl rfl ?_)
    | ((with_reducible refine gd_store (ty := 35) (x := .tmp 2) ?_); refine wpList_store_var HI.out.v2 _ _ rfl rfl rfl rfl rfl ?_; intro W9 hv9 ho9; have HV2 := hd hv9; have HT := hd (HI.out.told ho9); have HOF := hd ho9; clear hv9 ho9)
    | ((with_reducible refine gd_load (ty := 22) (x := .tmp 46) ?_); refine wpList_load_f1 HI.out.v1 (j := 1) (v := .slice c.Q c.lq c.cq) _ rfl rfl rfl rfl Try.underlying22 rfl ?_)
    | (go_at_call 30; refine (irnext_any c.Q a.q c.lq c.cq _ HH.out.hlq hlq HH.out.hiq (HH.out.later HI.out.below).hq).mono ?_; rintro e w7 ⟨v7, rfl, ho7, b7⟩; obtain ⟨Ap, dp, rfl, hp1, _, hp2⟩ := ho7.open_; have HP := hd (own_stab ho7); have HLW := hd HI.out.v3.lt; have HI := hd (HI.out.call b7); have HD := hd hp1; rw [HLP.out] at HD ⊢; clear b7 hp2 ho7; dsimp only; rw [HER.out])
    | ((with_reducible refine gd_load (ty := 23) (x := .tmp 58) ?_); refine wpList_load_f1 HI.out.v1 (j := 9) (v := .slice c.W c.nw c.cw) _ rfl rfl rfl rfl Try.underlying23 rfl ?_))
  refine bodyPost_ret (result_oc2 Try.results12 _ _ HV2.out rfl) rfl ⟨(OC.mk 3 Ap lp dp none 0 0 c.z false none 0 0 none 0 0 none 0 0 c.W c.nw c.cw none 0 0 none 0 0 false none 0 0 0 none 0 0 0 false none 0 0 0 none 0 0 0), rfl, parts_hole ?_, HT.out.1⟩
  have h := (HPA.out.below HT.out.1).hole
  have hil := HLEN.out _ rfl
  have hpp := HP.out (hole own W9) ((High.off HOF.out (by have := HLO.out; have := HLW.out; omega)).trans (hole_high W9 (fun g e => by have := hown g e; have := HLO.out; have := HLW.out; omega)))
  have h1 := ((((OkA.zero (hole own W9)).setK (k := 3) (by unfold In64; omega)).setQ HLP.out HD.out (by have := hil.2; have := HLP.out; omega) hpp hil.1).setZ' h.hz).setO h.hnw h.hcw h.hmw h.hw h.hww
  exact h1
set_option maxRecDepth 4000 in
theorem rinversep_at (w : World) (c : OC) (a : OpP) (own : Option Nat) (hpa : Parts 0 own w c a) (hown : ∀ g, own = some g → g < w.heap.size) (ta : Tiny a) : Calls Try.prog 12 #[.agg c.row] w (NewOP own w (invO a)) := by
  have ha := hpa.ok
  rcases formE_cases a with he | he
  · have hf : invO a = flipO a := by unfold invO; rw [if_pos he]
    rw [hf]
    unfold flipO
    have hkb := (form_eq he).1
    simp only [kindB, Bool.and_eq_true, decide_eq_true_iff] at hkb
    rw [ha.hk] at hkb ⊢
    have e0 : a.k = c.k := ha.hk
    rcases kinds hkb.1 hkb.2 with h | h | h | h | h | h | h | h | h
    · rw [h]; exact brinvp_1 w c a own hpa hown ta he h
    · rw [h]; exact brinvp_2 w c a own hpa hown ta he h
    · rw [h, if_pos rfl]
      by_cases hr : (backL a.q).2 = 0
      · rw [if_pos hr, flip3 he (e0.trans h)]
        exact brinvp_3 w c a own hpa hown ta he h hr
      · rw [if_neg hr]
        exact brinvp_3e w c a own hpa hown ta he h _ rfl (by simpa using hr)
    · rw [h, if_neg (by omega), if_pos rfl]
      by_cases hr : (nextL a.q).2 = 0
      · rw [if_pos hr, flip4 he (e0.trans h)]
        exact brinvp_4 w c a own hpa hown ta he h hr
      · rw [if_neg hr]
        exact brinvp_4e w c a own hpa hown ta he h _ rfl (by simpa using hr)
    · have h1 := brinvp_5 w c a own hpa hown ta he h
      rw [h]
      have e2 : ({ a with q := a.t, t := a.q } : OpP) = { a with k := 5, q := a.t, t := a.q } := by rw [← h, ← e0]
      rw [e2] at h1
      exact h1
    · have h1 := brinvp_6 w c a own hpa hown ta he h
      rw [h]
      have e2 : ({ a with o := a.w, w := a.o } : OpP) = { a with k := 6, o := a.w, w := a.o } := by rw [← h, ← e0]
      rw [e2] at h1
      exact h1
    · rw [h]; exact brinvp_7 w c a own hpa hown ta he h
    · rw [h]; exact brinvp_8 w c a own hpa hown ta he h
    · have h1 := brinvp_9 w c a own hpa hown ta he h
      rw [h]
      have e2 : ({ a with f := a.g, g := a.f } : OpP) = { a with k := 9, f := a.g, g := a.f } := by rw [← h, ← e0]
      rw [e2] at h1
      exact h1
  · have hf : invO a = (zeroO, 1) := by unfold invO; rw [if_neg (by omega)]
    rw [hf]
    exact brinvp_bad w c a own hpa hown ta he

end Go.Proofs.Ytdjajpookmmafaa

namespace Go.Proofs.Ytdjajpookmmafaa
open Go.RowKit

theorem own_lo {W : World} {b n : Nat} {t : TypeId} {size : Nat} {v : Value} {xs : List Value} (h : W.ownsRow b t size v n xs) : ∀ g, v.ownBlock = some g → b ≤ g := fun g hg => by
  rcases h.2 with ⟨rfl, _⟩ | ⟨g2, cap, cur, rfl, hb, _⟩
  · simp [Value.ownBlock] at hg
  · obtain rfl : g2 = g := by simpa [Value.ownBlock] using hg
    exact hb
/-- What the row holds after k rounds. -/
structure RAll (w : World) (us : List OpP) (n k : Nat) (v : Value) (es : List OC) (W : World) : Prop where
  row : W.ownsRow w.heap.size 35 21 v k (cellsO es)
  len : es.length = k
  zero : (dn n k).map (fun j => (invO (uaAt us j)).2) = (dn n k).map (fun _ => 0)
  parts : ∀ (i : Nat) (c : OC) (j : Nat), es[i]? = some c → (dn n k)[i]? = some j → Parts 0 v.ownBlock W c (invO (uaAt us j)).1
  below : Below w.heap.size w W
set_option maxRecDepth 4000 in
theorem RAll.start (w : World) (us : List OpP) (n : Nat) {W : World} (hb : Below w.heap.size w W) : RAll w us n 0 (.slice none 0 0) [] W :=
  ⟨World.ownsRow_nil _ _ _ _, rfl, rfl, fun i c j h => by simp at h, hb⟩
set_option maxRecDepth 4000 in
theorem RAll.call {w W W' : World} {us : List OpP} {n k : Nat} {v : Value} {es : List OC} (h : RAll w us n k v es W) (hb : Below W.heap.size W W') : RAll w us n k v es W' :=
  ⟨row_below h.row hb, h.len, h.zero, fun i c j h1 h2 => (h.parts i c j h1 h2).below hb, step_b h.below hb⟩
set_option maxRecDepth 4000 in
theorem RAll.more {w W W' : World} {us : List OpP} {n k g cap : Nat} {v : Value} {es : List OC} {c : OC} (h : RAll w us n k v es W) (_hk : k < n) (hz : (invO (uaAt us (n - 1 - k))).2 = 0) (hp : Parts 0 v.ownBlock W c (invO (uaAt us (n - 1 - k))).1)
    (hr : W'.ownsRow w.heap.size 35 21 (.slice (some ⟨g, 0, none⟩) (k + 1) cap) (k + 1) (cellsO es ++ c.row.toList)) (hg : (W.alloc (.cells c.row 35)).grownBy W' v.ownBlock) (hat : v.ownBlock = some g ∨ g = W.heap.size + 1) : RAll w us n (k + 1) (.slice (some ⟨g, 0, none⟩) (k + 1) cap) (es ++ [c]) W' := by
  have hgr : ∀ (c' : OC) (a : OpP), Parts 0 v.ownBlock W c' a → Parts 0 (some g) W' c' a := fun c' a h =>
    (h.grown (World.grownBy_alloc _ _ none) (fun r e => by cases e)).appended hg (hat.imp (fun e => e) (fun e => ⟨g, rfl, by rw [e]; simp⟩))
  have hdl := dn_len n k
  refine ⟨by rw [cellsO_app, cellsO_one]; exact hr, by simp [h.len], by rw [dn_succ, List.map_append, List.map_append, h.zero]; simp [hz], fun i c' j hi hj => ?_, ?_⟩
  · rw [dn_succ] at hj
    rcases Nat.lt_or_ge i es.length with h1 | h1
    · rw [List.getElem?_append_left h1] at hi
      rw [List.getElem?_append_left (by rw [hdl, ← h.len]; exact h1)] at hj
      exact hgr c' _ (h.parts i c' j hi hj)
    · have h2 : i = es.length := by
        have := (List.getElem?_eq_some_iff.1 hi).1
        simp at this; omega
      subst h2
      rw [List.getElem?_append_right (Nat.le_refl _), Nat.sub_self] at hi
      rw [List.getElem?_append_right (by rw [hdl, h.len]; exact Nat.le_refl _), hdl, h.len, Nat.sub_self] at hj
      simp only [List.getElem?_cons_zero, Option.some.injEq] at hi hj
      subst hi
      subst hj
      exact hgr _ _ hp
  · refine (h.below.alloc h.below.size _).grown hg (by simp; have := h.below.size; omega) (fun j hj => own_lo h.row j hj)
set_option maxRecDepth 4000 in
theorem RAll.done {w W : World} {us : List OpP} {n : Nat} {v : Value} {es : List OC} (h : RAll w us n n v es W) (hn : us.length = n) : ∃ A c, v = .slice A n c ∧ NewOps w (allO us) (.returned (.tuple #[.slice A n c, .int .i64 0])) W := by
  obtain ⟨A, c, rfl, hc, hv⟩ := row_vl h.row
  have hall : allO us = (((dn n n).map (uaAt us)).map (fun a => (invO a).1), 0) := by
    unfold allO
    rw [dn_ops us, hn]
    exact invs_ok fun a ha => by
      obtain ⟨k, hk, rfl⟩ := List.mem_map.1 ha
      exact List.map_inj_left.1 h.zero k hk
  have hlen2 : (((dn n n).map (uaAt us)).map (fun a => (invO a).1)).length = n := by rw [List.length_map, List.length_map, dn_len]
  rw [hall]
  refine ⟨A, c, rfl, A, c, es, by rw [hlen2], by rw [hlen2]; exact hc, ⟨hv, by rw [hlen2]; exact h.len, fun k c a ha hh => ?_⟩, h.below⟩
  rw [List.getElem?_map, List.getElem?_map] at hh
  cases e : (dn n n)[k]? with
  | none => rw [e] at hh; cases hh
  | some j =>
    rw [e] at hh
    injection hh with hh
    subst hh
    exact (h.parts k c j ha e).ok
set_option maxRecDepth 4000 in
theorem RAll.stop {w W : World} {us : List OpP} {n k : Nat} {v : Value} {es : List OC} (h : RAll w us n k v es W) (hn : us.length = n) (hk : k < n) (hz : (invO (uaAt us (n - 1 - k))).2 ≠ 0) : allO us = ([], (invO (uaAt us (n - 1 - k))).2) := by
  obtain ⟨r, hr⟩ := dn_cut n (k + 1) hk
  unfold allO
  rw [dn_ops us, hn, hr, dn_succ, List.append_assoc, List.map_append]
  exact invs_stop (fun b hb => by
    obtain ⟨i, hi, rfl⟩ := List.mem_map.1 hb
    exact List.map_inj_left.1 h.zero i hi) hz

set_option maxRecDepth 100000 in
set_option maxHeartbeats 8000000 in
theorem rall_at {w : World} {A : Option Addr} {cs : List OC} {us : List OpP} {n cap : Nat} (h : LO w A cs us) (hn : us.length = n) (h1000 : n ≤ 10000) (ht : ∀ (k : Nat) (a : OpP), us[k]? = some a → Tiny a) : Calls Try.prog 18 #[.slice A n cap] w (NewOps w (allO us)) := by
  have HL := hd h
  have HN := hd hn
  have HT := hd ht
  clear h hn ht
  go_enter Try.func18, Try.ntmps18
  go_wp2_with fail
  go_loopw [4, 10] (fun v i wr => ∃ k : Nat, k ≤ n ∧ i = .int .i64 k ∧ Hid (∃ es, RAll w us n k v es wr)) (fun _ i _ => n - (intOf i).toNat)
  case atStart => exact ⟨0, Nat.zero_le _, rfl, hd ⟨[], RAll.start w us n (Below.refl _ _)⟩⟩
  case round =>
    obtain ⟨k, hk1, rfl, HI⟩ := hrel
    by_cases hlt : k < n
    · obtain ⟨es, hI⟩ := HI.out
      have hR := hI
      clear HI hI
      obtain ⟨b, o, c, a, rfl, hb, hc, ha, hok, hrg⟩ := HL.out.at_ (k := n - 1 - k) (by rw [HN.out]; omega)
      have hau : uaAt us (n - 1 - k) = a := by unfold uaAt; rw [ha]; rfl
      obtain ⟨⟨x, er⟩, hin⟩ : ∃ r, invO a = r := ⟨_, rfl⟩
      have HRG := hd (rangeAt_below hrg hb hR.below)
      have HTA := hd (HT.out _ a ha)
      have HPA := hd (parts_old (own := u4.ownBlock) hok hR.below (own_lo hR.row))
      have HOL := hd (own_lt hR.row)
      have HIN := hd hin
      have HAU := hd hau
      have HR := hd hR
      have hbs := hR.below.size
      clear hR hb hc ha hok hrg hau hin
      go_upto_region 6 with (first
        | ((with_reducible refine gd_load (ty := 35) (x := .tmp 20) ?_); refine wpList_load_el HRG.out _ rfl rfl rfl ?_)
        | (go_at_call 12; refine (rinversep_at _ c a u4.ownBlock HPA.out HOL.out HTA.out).mono ?_; rintro e w3 ⟨cx, rfl, hpx, b9⟩; have HX := hd hpx; have HR := hd (HR.out.call b9); clear hpx b9; rw [HIN.out]; dsimp only; rw [HIN.out] at HX)
        | ((with_reducible refine gd_store (ty := 35) (x := .tmp 6) ?_); refine wpList_store_oc (c := cx) _ _ rfl rfl rfl rfl rfl rfl rfl ?_; have hb9 := new_below w3 (.cells (OC.row cx) 35); have HV6 := hd (VarO.new w3 cx); have HX := hd (HX.out.below hb9); have HR := hd (HR.out.call hb9); clear hb9))
      obtain ⟨g6, hg6⟩ : ∃ g, w3.heap.size = g := ⟨_, rfl⟩
      rw [hg6] at HV6
      try rw [hg6]
      obtain ⟨W, hWW⟩ : ∃ W, w3.alloc (.cells cx.row 35) = W := ⟨_, rfl⟩
      rw [hWW] at HV6 HX HR
      rw [hWW]
      clear hWW hg6
      by_cases hz : er = 0
      · subst hz
        have hws := HR.out.below.size
        have HZ := hd (show (invO (uaAt us (n - 1 - k))).2 = 0 by rw [HAU.out, HIN.out])
        have HX2 := hd (show Parts 0 u4.ownBlock W cx (invO (uaAt us (n - 1 - k))).1 by rw [HAU.out, HIN.out]; exact HX.out)
        go_wp2_with (first
          | ((with_reducible refine gd_load (ty := 35) (x := .tmp 6) ?_); refine wpList_load_oc HV6.out _ rfl rfl rfl ?_)
          | ((with_reducible refine gd_build ?_); refine wpList_build_op (c := cx) _ rfl rfl rfl ?_)
          | ((with_reducible refine gd_app ?_); refine wpList_append_op W rfl _ _ rfl w.heap.size u4 k (cellsO es) rfl HR.out.row cx rfl (by omega) hws ?_; intro g' cap' w1 hown' hgrow hat; have HR2 := hd (HR.out.more hlt HZ.out HX2.out hown' hgrow hat); clear hown' hgrow hat))
        go_roundw
        case rel => exact ⟨k + 1, by omega, by go_num, hd ⟨_, HR2.out⟩⟩
        case measure => simp [intOf]; omega
      · have hall := HR.out.stop HN.out hlt (by rw [HAU.out, HIN.out]; exact hz)
        rw [HAU.out, HIN.out] at hall
        have hne : (er != 0) = true := by simpa using hz
        have HALL := hd hall
        have HBB := hd HR.out.below
        clear hall hz
        go_wp2_with fail
        go_ret2
        rw [HALL.out]
        exact ⟨none, 0, [], rfl, Nat.le_refl _, LO.nil _ _, HBB.out⟩
    · have ekn : n = k := by omega
      subst ekn
      obtain ⟨es, hR⟩ := HI.out
      obtain ⟨Av, cv, rfl, hfin⟩ := hR.done HN.out
      have HF := hd hfin
      clear HI hR hfin
      go_wp2_with fail
      go_ret2
      exact HF.out

end Go.Proofs.Ytdjajpookmmafaa

namespace Go.Proofs.Ytdjajpookmmafaa
open Go.RowKit

theorem was_lo {w w' : World} {A : Option Addr} {c n : Nat} {B : Option Addr} {ds : List OC} {us : List OpP} {b : Nat} (hr : w'.ownsRow b 35 21 (.slice A n c) n (cellsO ds)) (h : LO w B ds us) (hb : Below w.heap.size w w') : LO w' A ds us := by
  obtain ⟨A', c', e, _, hv⟩ := row_vl hr
  injection e with e
  subst e
  exact ⟨hv, h.hl, fun k c a h1 h2 => (h.ha k c a h1 h2).later hb⟩
set_option maxRecDepth 100000 in
set_option maxHeartbeats 8000000 in
theorem ballw_0 (w : World) (A : Option Addr) (us : List OpP) (n cap : Nat) (ds : List OC) (h : LO w A ds us) (hn : us.length = n) (h63 : n ≤ 9223372036854775807) (hf : fewAllO us 20 = false) : Calls Try.prog 4 #[.slice A n cap] w (AllTrue w) := by
  have HL := hd h
  have HN := hd hn
  have HF := hd hf
  clear h hn hf
  go_enter Try.func4, Try.ntmps4
  go_wp2_with (first
    | (go_at_call 9; refine Calls.mono (live11_any _) ?_; rintro e w1 ⟨rfl, b9⟩; have HB := hd b9; clear b9)
    | (go_at_call 16; refine Calls.mono (fewall_at (HL.out.later HB.out) HN.out h63 20) ?_; rw [HF.out]; rintro e w2 ⟨rfl, b9⟩; have HB := hd (step_b HB.out b9); clear b9))
  go_ret
  exact ⟨rfl, HB.out⟩
set_option maxRecDepth 100000 in
set_option maxHeartbeats 8000000 in
theorem ballw_1 (w : World) (A : Option Addr) (us : List OpP) (n cap : Nat) (ds : List OC) (h : LO w A ds us) (hn : us.length = n) (hcap : n ≤ cap) (hf : fewAllO us 20 = true) : Calls Try.prog 4 #[.slice A n cap] w (AllTrue w) := by
  have HT := hd (few_all hf).1
  have h20 : n ≤ 20 := by have := (few_all hf).2; omega
  obtain ⟨⟨ys, er⟩, hall⟩ : ∃ r, allO us = r := ⟨_, rfl⟩
  have HALL := hd hall
  obtain ⟨ny, hny⟩ : ∃ m, ys.length = m := ⟨_, rfl⟩
  have hyl : ny ≤ 20 := by
    by_cases h0 : (allO us).2 = 0
    · have := all_len h0; rw [hall] at this; dsimp only at this; omega
    · have := all_no h0; rw [hall] at this; dsimp only at this; subst this; simp at hny; omega
  have HYT := hd (show ∀ (k : Nat) (a : OpP), ys[k]? = some a → Tiny a by have h := all_tiny HT.out (fun a => inv_tiny); rw [hall] at h; exact h)
  have HNY := hd hny
  have HS1 := hd (sameAllO_yes (us := ys) rfl)
  have HS2 := hd (sameAllO_yes (us := us) rfl)
  have HL := hd h
  have HN := hd hn
  have HF := hd hf
  have HL1 := hd (show (cellsO ds).length = n * 21 by rw [cellsO_len, h.hl, hn])
  clear h hn hf hall hny
  go_enter Try.func4, Try.ntmps4
  go_upto_region 6 with (first
    | (go_at_call 9; refine Calls.mono (live11_any _) ?_; rintro e w1 ⟨rfl, b9⟩; have HB := hd b9; clear b9)
    | (go_at_call 16; refine Calls.mono (fewall_at (HL.out.later HB.out) HN.out (by omega) 20) ?_; rw [HF.out]; rintro e w2 ⟨rfl, b9⟩; have HB := hd (step_b HB.out b9); clear b9)
    | ((with_reducible refine gd_app ?_); refine wpList_append_G0 opG w2 rfl _ _ rfl w2.heap.size rfl A n cap w2.heap.size (cellsO ds) rfl HL1.out (HL.out.later HB.out).hv (cellsO_all _) (by unfold maxLen; omega) (by omega) (Nat.le_refl _) ?_; intro Ap cp w3 hr6 hb6 _; have HLW := hd (was_lo hr6 (HL.out.later HB.out) hb6); have HCW := hd (own_capO hr6); have HB := hd (step_b HB.out hb6); clear hr6 hb6))
  go_upto_region 7 with (go_at_call 17; refine Calls.mono (ball_at (HL.out.later HB.out) HN.out (by omega) HT.out) ?_; rintro e w4 ⟨A4, c4, d4, rfl, hc4, hl4, b9⟩; rw [HALL.out] at hc4 hl4 ⊢; dsimp only at hc4 hl4 ⊢; rw [HNY.out] at hc4 ⊢; have HL4 := hd hl4; have HLW := hd (HLW.out.later b9); have HB := hd (step_b HB.out b9); clear b9 hl4)
  go_upto_region 8 with (go_at_call 18; refine Calls.mono (rall_at (HL.out.later HB.out) HN.out (by omega) HT.out) ?_; rintro e w5 ⟨A5, c5, d5, rfl, hc5, hl5, b9⟩; rw [HALL.out] at hc5 hl5 ⊢; dsimp only at hc5 hl5 ⊢; rw [HNY.out] at hc5 ⊢; have HL5 := hd hl5; have HL4 := hd (HL4.out.later b9); have HLW := hd (HLW.out.later b9); have HB := hd (step_b HB.out b9); clear b9 hl5)
  have HM1 := hd (sameall_at HL4.out HL5.out HNY.out HNY.out (by omega) hc4 hc5 HYT.out HYT.out HS1.out)
  have HM2 := hd (fun W9 (h9 : Below w5.heap.size w5 W9) => sameall_at ((HL.out.later HB.out).later h9) (HLW.out.later h9) HN.out HN.out (by omega) hcap HCW.out HT.out HT.out HS2.out)
  clear HL4 HL5
  go_wp2_with (first
    | (go_at_call 19; have h1 := HM1.out; clear HM1; refine Calls.mono h1 ?_; rintro e w6 ⟨rfl, b6⟩; clear h1; have HB6 := hd b6; clear b6)
    | (go_at_call 19; have h2 := HM2.out _ HB6.out; clear HM2; refine Calls.mono h2 ?_; rintro e w7 ⟨rfl, b9⟩; clear h2; have HB := hd (step_b (step_b HB.out HB6.out) b9); clear b9))
  go_ret
  exact ⟨rfl, HB.out⟩
set_option maxRecDepth 4000 in
theorem ball_law (w : World) (A : Option Addr) (us : List OpP) (cap : Nat) (hcap : us.length ≤ cap) (h63 : us.length ≤ 9223372036854775807) (h : ∃ ds, LO w A ds us) : Calls Try.prog 4 #[.slice A us.length cap] w (AllTrue w) := by
  obtain ⟨ds, h⟩ := h
  cases hf : fewAllO us 20
  · exact ballw_0 w A us _ cap ds h rfl h63 hf
  · exact ballw_1 w A us _ cap ds h rfl hcap hf

end Go.Proofs.Ytdjajpookmmafaa
