/- BackDoes answers true. -/
import Derived.Test.YtdjajpookmmafaaBLive
namespace Go.Proofs.Ytdjajpookmmafaa
open Go.RowKit

theorem exec_load_oc {a : Act} {o : Oper} {W : World} {g : Nat} {c : OC} (h : VarO W g c) (x : Operand) (ho : o.op = .load 35 x) (hx : a.eval x = .pointer (some ⟨g, 0, none⟩)) : (execOp a.eval o).run Try.prog W = .ok (.value (.agg c.row)) W := by
  have hr := h.run
  unfold execOp
  simp only [Instr.loadAt, Instr.sureAddr, Sem.run_bind, Sem.run_pure, Result.andThen_ok] at hr
  simp only [ho, hx, Instr.loadAt, Instr.sureAddr, Sem.run_bind, Sem.run_pure, Result.andThen_ok, hr]
set_option maxRecDepth 4000 in
theorem flip_tiny {a : OpP} (t : Tiny a) : Tiny (flipO a).1 := by
  have h1 : (backL a.q).1.length ≤ 60 := by
    have := t.hq
    unfold backL
    split
    · simp
    · split
      · simp
      · obtain ⟨k, hk⟩ : ∃ k, a.q.length = k + 1 := ⟨a.q.length - 1, by omega⟩
        simp only [sib_eq a.q k hk, List.length_set]; omega
  have h2 : (nextL a.q).1.length ≤ 60 := by
    have := t.hq
    unfold nextL
    split
    · simp
    · split
      · simp
      · obtain ⟨k, hk⟩ : ∃ k, a.q.length = k + 1 := ⟨a.q.length - 1, by omega⟩
        simp only [sib_eq a.q k hk, List.length_set]; omega
  have z := Tiny.zero
  obtain ⟨t1, t2, t3, t4, t5, t6, t7, t8, t9⟩ := t
  unfold flipO
  split
  · split
    · exact ⟨h1, t2, t3, t5, t4, t6, t7, t8, t9⟩
    · exact z
  · split
    · split
      · exact ⟨h2, t2, t3, t5, t4, t6, t7, t8, t9⟩
      · exact z
    · split
      · exact ⟨t1, t2, t3, t5, t4, t6, t7, t8, t9⟩
      · split
        · exact ⟨t2, t1, t3, t4, t5, t6, t7, t8, t9⟩
        · split
          · exact ⟨t1, t2, t3, t4, t5, t8, t9, t6, t7⟩
          · exact ⟨t1, t2, t3, t4, t5, t6, t7, t8, t9⟩
set_option maxRecDepth 4000 in
theorem inv_tiny {a : OpP} (t : Tiny a) : Tiny (invO a).1 := by
  unfold invO
  split
  · exact flip_tiny t
  · exact Tiny.zero
set_option maxRecDepth 100000 in
set_option maxHeartbeats 8000000 in
theorem bdoes_0 (w : World) (c : OC) (a : OpP) (ha : OkA w c a) (hf : fewO a = false) : Calls Try.prog 3 #[.agg c.row] w (AllTrue w) := by
  have HF := hd hf
  clear hf
  have hb0 := new_below w (.cells c.row 35)
  obtain ⟨W0, hW⟩ : ∃ W0, w.alloc (.cells c.row 35) = W0 := ⟨_, rfl⟩
  have e1 := VarO.new w c
  rw [hW] at hb0 e1
  have HV1 := hd e1
  have HB := hd hb0
  have HW := hd hW
  have HH := hd ha
  clear hW hb0 e1 ha
  go_enter Try.func3, Try.ntmps3
  go_upto_region 1 with fail
  rw [HW.out]
  go_wp2_with (first
    | ((with_reducible refine gd_load (ty := 35) (x := .tmp 1) ?_); refine wpList_load_oc HV1.out _ rfl rfl rfl ?_)
    | (go_at_call 9; refine Calls.mono (live11_any _) ?_; rintro e w1 ⟨rfl, b9⟩; have HV1 := hd (HV1.out.keep b9); have HB := hd (step_b HB.out b9); clear b9)
    | (go_at_call 10; refine Calls.mono (few_at (HH.out.later HB.out) HF.out) ?_; rintro e w2 ⟨rfl, b9⟩; have HV1 := hd (HV1.out.keep b9); have HB := hd (step_b HB.out b9); clear b9))
  go_ret
  exact ⟨rfl, HB.out⟩
set_option maxRecDepth 100000 in
set_option maxHeartbeats 8000000 in
theorem bdoes_1 (w : World) (c : OC) (a : OpP) (ha : OkA w c a) (hf : fewO a = true) : Calls Try.prog 3 #[.agg c.row] w (AllTrue w) := by
  have HTA := hd (fewO_tiny hf)
  have HF := hd hf
  clear hf
  obtain ⟨⟨x, er⟩, hin⟩ : ∃ r, invO a = r := ⟨_, rfl⟩
  have HTX := hd (show Tiny x by have h := inv_tiny HTA.out; rw [hin] at h; exact h)
  have HIN := hd hin
  have HSX := hd (eqO_self x)
  obtain ⟨E, hE⟩ : ∃ E, formE a = E := ⟨_, rfl⟩
  have HE := hd hE
  clear hin hE
  have hb0 := new_below w (.cells c.row 35)
  obtain ⟨W0, hW⟩ : ∃ W0, w.alloc (.cells c.row 35) = W0 := ⟨_, rfl⟩
  have e1 := VarO.new w c
  rw [hW] at hb0 e1
  have HV1 := hd e1
  have HB := hd hb0
  have HW := hd hW
  have HH := hd ha
  clear hW hb0 e1 ha
  go_enter Try.func3, Try.ntmps3
  go_upto_region 1 with fail
  rw [HW.out]
  go_upto_region 7 with (first
    | ((with_reducible refine gd_load (ty := 35) (x := .tmp 1) ?_); refine wpList_load_oc HV1.out _ rfl rfl rfl ?_)
    | (go_at_call 9; refine Calls.mono (live11_any _) ?_; rintro e w1 ⟨rfl, b9⟩; have HV1 := hd (HV1.out.keep b9); have HB := hd (step_b HB.out b9); clear b9)
    | (go_at_call 10; refine Calls.mono (few_at (HH.out.later HB.out) HF.out) ?_; rintro e w2 ⟨rfl, b9⟩; have HV1 := hd (HV1.out.keep b9); have HB := hd (step_b HB.out b9); clear b9)
    | (go_at_call 11; refine (inverse_at _ c a (HH.out.later HB.out) HTA.out).mono ?_; rintro e w3 ⟨cx, rfl, hs, b9⟩; have HX := hd hs.now; have HV1 := hd (HV1.out.keep b9); have HB := hd (step_b HB.out b9); clear hs b9; rw [HIN.out]; dsimp only; rw [HIN.out] at HX)
    | ((with_reducible refine gd_store (ty := 35) (x := .tmp 3) ?_); refine wpList_store_oc (c := cx) _ _ rfl rfl rfl rfl rfl rfl rfl ?_; have hb9 := new_below w3 (.cells (OC.row cx) 35); have HV3 := hd (VarO.new w3 cx); have HX := hd (HX.out.later hb9); have HV1 := hd (HV1.out.keep hb9); have HB := hd (step_b HB.out hb9); clear hb9)
    | (go_at_call 12; refine (rinverse_at _ c a (HH.out.later HB.out) HTA.out).mono ?_; rintro e w4 ⟨cy, rfl, hs, b9⟩; have HY := hd hs; have HX := hd (HX.out.later b9); have HV3 := hd (HV3.out.keep b9); have HV1 := hd (HV1.out.keep b9); have HB := hd (step_b HB.out b9); clear hs b9; rw [HIN.out]; dsimp only; rw [HIN.out] at HY)
    | ((with_reducible refine gd_store (ty := 35) (x := .tmp 5) ?_); refine wpList_store_oc (c := cy) _ _ rfl rfl rfl rfl rfl rfl rfl ?_; have hb9 := new_below w4 (.cells (OC.row cy) 35); have HV5 := hd (VarO.new w4 cy); have HY := hd (HY.out.later hb9); have HX := hd (HX.out.later hb9); have HV3 := hd (HV3.out.keep hb9); have HV1 := hd (HV1.out.keep hb9); have HB := hd (step_b HB.out hb9); clear hb9))
  obtain ⟨W, hWW⟩ : ∃ W, w4.alloc (.cells cy.row 35) = W := ⟨_, rfl⟩
  have HWW := hd hWW
  rw [hWW] at HV1 HV3 HV5 HX HY HB
  rw [hWW]
  clear hWW
  have hz1 := HV1.out
  obtain ⟨g3, hg3⟩ : ∃ g, w3.heap.size = g := ⟨_, rfl⟩
  obtain ⟨g5, hg5⟩ : ∃ g, w4.heap.size = g := ⟨_, rfl⟩
  rw [hg3] at HV3 ⊢
  rw [hg5] at HV5 ⊢
  clear hg3 hg5 hz1
  refine Y_start (S := fun W' => Below W.heap.size W W') (z := fun _ => false) (by kernel_rfl) ?_
  have HSS := hd (show Below W.heap.size W W.drew from (Below.refl _ _).drew)
  refine Y_take (i := 0) (n := 15) (.agg cx.row) rfl (by kernel_rfl) (by kernel_rfl) (by kernel_rfl) (by kernel_rfl) (fun _ _ _ h => h) (by rfl) (fun W9 hW9 => ?_) HSS.out ?_
  · exact exec_load_oc (HV3.out.keep hW9) _ rfl rfl
  simp only [Act.put, List.setIfInBounds_toArray]
  refine Y_take (i := 1) (n := 14) (.agg cy.row) rfl (by kernel_rfl) (by kernel_rfl) (by kernel_rfl) (by kernel_rfl) (fun _ _ _ h => h) (by rfl) (fun W9 hW9 => ?_) HSS.out ?_
  · exact exec_load_oc (HV5.out.keep hW9) _ rfl rfl
  simp only [Act.put]
  refine Y_one (i := 2) (n := 13) (by kernel_rfl) rfl (fun K hK => ?_)
  rw [if_pos (by rfl)]
  go_simp
  go_at_call 13
  refine (rsameop_at (HX.out.later HSS.out) (HY.out.later HSS.out) HTX.out HTX.out HSX.out).mono ?_
  rintro e w9 ⟨rfl, b9⟩
  have HSS := hd (step_b HSS.out b9)
  clear b9
  refine hK _ _ (fun _ => HSS.out) ?_
  clear hK K
  refine Y_take (i := 3) (n := 12) (.bool true) rfl (by kernel_rfl) (by kernel_rfl) (by kernel_rfl) (by kernel_rfl) (fun _ _ _ h => h) (by rfl) (fun W9 hW9 => ?_) HSS.out ?_
  · go_simp
  simp only [Act.put]
  refine Y_take (i := 4) (n := 11) (.int .i64 er) rfl (by kernel_rfl) (by kernel_rfl) (by kernel_rfl) (by kernel_rfl) (fun _ _ _ h => h) (by rfl) (fun W9 hW9 => ?_) HSS.out ?_
  · go_simp
  simp only [Act.put]
  refine Y_take (i := 5) (n := 10) (.int .i64 er) rfl (by kernel_rfl) (by kernel_rfl) (by kernel_rfl) (by kernel_rfl) (fun _ _ _ h => h) (by rfl) (fun W9 hW9 => ?_) HSS.out ?_
  · go_simp
  simp only [Act.put]
  refine Y_take (i := 6) (n := 9) (.bool true) rfl (by kernel_rfl) (by kernel_rfl) (by kernel_rfl) (by kernel_rfl) (fun _ _ _ h => h) (by rfl) (fun W9 hW9 => ?_) HSS.out ?_
  · go_simp
  simp only [Act.put]
  refine Y_take (i := 7) (n := 8) (.bool true) rfl (by kernel_rfl) (by kernel_rfl) (by kernel_rfl) (by kernel_rfl) (fun _ _ _ h => h) (by rfl) (fun W9 hW9 => ?_) HSS.out ?_
  · go_simp
  simp only [Act.put]
  refine Y_take (i := 8) (n := 7) (.bool true) rfl (by kernel_rfl) (by kernel_rfl) (by kernel_rfl) (by kernel_rfl) (fun _ _ _ h => h) (by rfl) (fun W9 hW9 => ?_) HSS.out ?_
  · go_simp
  simp only [Act.put]
  refine Y_take (i := 9) (n := 6) (.agg c.row) rfl (by kernel_rfl) (by kernel_rfl) (by kernel_rfl) (by kernel_rfl) (fun _ _ _ h => h) (by rfl) (fun W9 hW9 => ?_) HSS.out ?_
  · exact exec_load_oc (HV1.out.keep hW9) _ rfl rfl
  simp only [Act.put]
  refine Y_take (i := 11) (n := 5) (.agg c.row) rfl (by kernel_rfl) (by kernel_rfl) (by kernel_rfl) (by kernel_rfl) (fun _ _ _ h => h) (by rfl) (fun W9 hW9 => ?_) HSS.out ?_
  · exact exec_load_oc (HV1.out.keep hW9) _ rfl rfl
  simp only [Act.put]
  refine Y_one (i := 10) (n := 4) (by kernel_rfl) rfl (fun K hK => ?_)
  rw [if_pos (by rfl)]
  go_simp
  go_at_call 14
  refine (form_at (HH.out.later (HB.out.trans (HSS.out.mono HB.out.size))) HTA.out HE.out).mono ?_
  rintro e w9 ⟨rfl, b9⟩
  have HSS := hd (step_b HSS.out b9)
  clear b9
  refine hK _ _ (fun _ => HSS.out) ?_
  clear hK K
  refine Y_one (i := 12) (n := 3) (by kernel_rfl) rfl (fun K hK => ?_)
  rw [if_pos (by rfl)]
  go_simp
  go_at_call 15
  refine (rform_at (HH.out.later (HB.out.trans (HSS.out.mono HB.out.size))) HTA.out HE.out).mono ?_
  rintro e w9 ⟨rfl, b9⟩
  have HSS := hd (step_b HSS.out b9)
  clear b9
  refine hK _ _ (fun _ => HSS.out) ?_
  clear hK K
  refine Y_take (i := 13) (n := 2) (.bool true) rfl (by kernel_rfl) (by kernel_rfl) (by kernel_rfl) (by kernel_rfl) (fun _ _ _ h => h) (by rfl) (fun W9 hW9 => ?_) HSS.out ?_
  · go_simp
  simp only [Act.put]
  refine Y_take (i := 14) (n := 1) (.bool true) rfl (by kernel_rfl) (by kernel_rfl) (by kernel_rfl) (by kernel_rfl) (fun _ _ _ h => h) (by rfl) (fun W9 hW9 => ?_) HSS.out ?_
  · go_simp
  simp only [Act.put]
  refine Y_one (i := 15) (n := 0) (by kernel_rfl) rfl (fun K hK => ?_)
  rw [if_pos (by rfl)]
  go_simp
  refine hK _ _ (fun _ => HSS.out) (Y_done (by kernel_rfl) ?_)
  clear hK K
  have HB := hd (HB.out.trans (HSS.out.mono HB.out.size))
  go_wp2
  go_ret
  exact ⟨rfl, HB.out⟩
set_option maxRecDepth 4000 in
theorem bdoes_law (w : World) (c : OC) (a : OpP) (ha : OkA w c a) : Calls Try.prog 3 #[.agg c.row] w (AllTrue w) := by
  cases hf : fewO a
  · exact bdoes_0 w c a ha hf
  · exact bdoes_1 w c a ha hf

end Go.Proofs.Ytdjajpookmmafaa
