/- OpSizes answers true. -/
import Derived.Test.YtmkciabefepelaaGreatJTTreeWS
import Derived.Test.YtmkciabefepelaaGreatJUDo
set_option maxRecDepth 4000
set_option maxHeartbeats 8000000
namespace Go.Proofs.YtmkciabefepelaaGreat
open Go.RowKit
set_option maxRecDepth 100000 in
theorem kC8 {w : World} {c : NC} {s : SC} {o : OC} {n x : NT} {sl tl : Sl} {a : OpP} {X N0 M : Int} {E : Bool} (hn : kS w c n) (hs : zB1 w s sl) (ho : OkA w o a) (hf : zB8 n sl a = true) (hap : jL n sl a = ((x, tl), 0)) (hk : o.k = 3) (hx : wrap64 (sizeT x) = X) (hn0 : wrap64 (sizeT n) = N0) (hxx : X = N0 + -1) (b0 : 0 <= N0) (b1 : N0 <= 1000) (b2 : 0 <= M) (b3 : M <= 100000) (_b4 : o.nx <= 1000) (b5 : 0 <= X) (hsm : eqT x n = E) : Calls Tryz.prog 8 #[.agg c.row, .agg s.row, .agg o.row] w (jW w) := by
 have HAP := hd hap
 have HSX := hd hx
 have HSN := hd hn0
 have HXX := hd hxx
 have HSM := hd hsm
 have k1 : (o.k == 1) = false := by simp [hk]
 have k2 : (o.k == 2) = false := by simp [hk]
 have k3 : (o.k == 3) = true := by simp [hk]
 have k4 : (o.k == 4) = false := by simp [hk]
 have k7 : (o.k == 7) = false := by simp [hk]
 have k8 : (o.k == 8) = false := by simp [hk]
 have k9 : (o.k == 9) = false := by simp [hk]
 have hwr : IntKind.i64.wrap (N0 + -1) = N0 + -1 := IntWalk.i64_in _ (by omega)
 have hw0 : IntKind.i64.wrap N0 = N0 := IntWalk.i64_in _ (by omega)
 have hwg : IntKind.i64.wrap (-M) = -M := IntWalk.i64_in _ (by omega)
 have k19 : (o.k != 9) = true := by simp [hk]
 clear hap hx hn0 hxx hsm hk
 have HN := hd hn
 have HSL := hd hs
 have HO := hd ho
 have HF := hd hf
 have HRD := hd (jE hf hn ho).1
 clear hn hs ho hf
 obtain ⟨W0, hW, hst⟩ := kN w c s o
 have HW := hd hW
 have HS := hd hst
 clear hW hst
 go_enter Tryz.func8, Tryz.ntmps8
 go_upto_region 1 with fail
 rw [HW.out]
 go_upto_region 6 with (first
  | ((with_reducible refine zC (ty := 26) (x := .tmp 3) ?_); refine zB zD HS.out.v3 rfl _ rfl rfl rfl ?_)
  | ((with_reducible refine zC (ty := 33) (x := .tmp 4) ?_); refine zB zP HS.out.v4 rfl _ rfl rfl rfl ?_)
  | ((with_reducible refine zC (ty := 35) (x := .tmp 5) ?_); refine zG HS.out.v5 _ rfl rfl rfl ?_)
  | (go_at_call 10; refine Calls.mono (jG _) ?_; rintro e w1 ⟨rfl, b9⟩; have HS := hd (HS.out.call b9); clear b9)
  | (go_at_call 11; refine Calls.mono (zAq (HN.out.later HS.out.below) (HSL.out.later HS.out.below) (HO.out.later HS.out.below) HF.out) ?_; rintro e w2 ⟨rfl, b9⟩; have HS := hd (HS.out.call b9); clear b9)
  | (go_at_call 13; refine Calls.mono (zA4 (HN.out.later HS.out.below) (HSL.out.later HS.out.below) (HO.out.later HS.out.below) HRD.out HAP.out) ?_; rintro e w3 ⟨ca, ct, rfl, hna, hsa, b9⟩; have HNA := hd hna; have HSA := hd hsa; have HS := hd (HS.out.call b9); clear b9 hna hsa; dsimp only)
  | ((with_reducible refine zF (ty := 26) (x := .tmp 7) ?_); refine zA zD (r := ca.row) (zDj w3) rfl rfl ca.one _ _ rfl rfl rfl rfl rfl ?_; intro W7 hv7 ho7; have HV7 := hd hv7; have HT := hd (zDk ho7); clear hv7 ho7)
  | ((with_reducible refine zF (ty := 33) (x := .tmp 8) ?_); refine zA zP (r := ct.row) HT.out.2 rfl rfl ct.one _ _ rfl rfl rfl rfl rfl ?_; intro W8 hv8 ho8; have HV8 := hd hv8; have HB8 := hd (zDl HT.out.1 ho8); have HV7 := hd (HV7.out.off ho8 (by omega)); clear hv8 ho8))
 have HS5 := hd (show St5 w c s o w3.heap.size (w3.heap.size + 1) ca ct W8 from ⟨HS.out.call HB8.out, HV7.out, HV8.out⟩)
 have HNA2 := hd (HNA.out.later HB8.out)
 have HSA2 := hd (HSA.out.later HB8.out)
 clear HS HNA HSA HV7 HV8 HT HB8
 obtain ⟨g7, hg7⟩ : ∃ g, w3.heap.size = g := ⟨_, rfl⟩
 rw [hg7] at HS5
 try rw [hg7]
 clear hg7
 go_upto_region 22 with (first
  | ((with_reducible refine zC (ty := 3) (x := .tmp 31) ?_); refine zE HS5.out.st.v5 (j := 0) (v := .int .i64 o.k) _ rfl rfl rfl rfl Tryz.underlying3 rfl ?_)
  | ((with_reducible refine zC (ty := 26) ?_); refine kR HS5.out.st.v5 (j := 4) (vs := [.bool o.lf, .slice o.P o.np o.pc, .slice o.X o.nt o.tc, .slice o.K o.nk o.kc]) zCp _ rfl rfl rfl (by kernel_rfl) ?_)
  | (go_at_call 31; refine Calls.mono (zAa (c := o.nc) (zHw (HO.out.later HS5.out.st.below)) HSO.out) ?_; rintro e w12 ⟨rfl, b9⟩; have HS5 := hd (HS5.out.call b9); have HNA2 := hd (HNA2.out.later b9); clear b9)
  | ((with_reducible refine zC (ty := 23) ?_); refine zE HS5.out.st.v5 (j := 10) (v := .slice o.S o.nx o.cx) _ rfl rfl rfl rfl Tryz.underlying23 rfl ?_))
 refine jO (S := fun W' => Below W8.heap.size W8 W') (z := fun _ => false) (by kernel_rfl) ?_
 have HSS := hd (show Below W8.heap.size W8 W8.drew from (Below.refl _ _).drew)
 refine zH (i := 0) (n := 17) (.agg ca.row) rfl (by kernel_rfl) (by kernel_rfl) (by kernel_rfl) (by kernel_rfl) (fun _ _ _ h => h) (by kernel_rfl) (fun W9 hW9 => ?_) HSS.out ?_
 ·exact zS zD (HS5.out.call hW9).v7 rfl _ rfl (by kernel_rfl)
 simp only [Act.put, List.setIfInBounds_toArray]
 refine zH (i := 2) (n := 16) (.agg c.row) rfl (by kernel_rfl) (by kernel_rfl) (by kernel_rfl) (by kernel_rfl) (fun _ _ _ h => h) (by kernel_rfl) (fun W9 hW9 => ?_) HSS.out ?_
 ·exact zS zD (HS5.out.call hW9).st.v3 rfl _ rfl (by kernel_rfl)
 simp only [Act.put]
 refine zH (i := 4) (n := 15) (.int .i64 (-1)) rfl (by kernel_rfl) (by kernel_rfl) (by kernel_rfl) (by kernel_rfl) (fun _ _ _ h => h) (by kernel_rfl) (fun W9 hW9 => ?_) HSS.out ?_
 ·go_simp
 simp only [Act.put]
 refine kJ (i := 1) (n := 14) (by kernel_rfl) rfl (fun K hK => ?_)
 rw [if_pos (by kernel_rfl)]
 go_simp
 go_at_call 31
 refine Calls.mono (zAa (HNA2.out.later HSS.out) HSX.out) ?_
 rintro e w9 ⟨rfl, b9⟩
 have HSS := hd (zI HSS.out b9)
 clear b9
 refine hK _ _ (fun _ => HSS.out) ?_
 clear hK K
 refine kJ (i := 3) (n := 13) (by kernel_rfl) rfl (fun K hK => ?_)
 rw [if_pos (by kernel_rfl)]
 go_simp
 go_at_call 31
 refine Calls.mono (zAa (HN.out.later ((HS5.out.call HSS.out).st.below)) HSN.out) ?_
 rintro e w9 ⟨rfl, b9⟩
 have HSS := hd (zI HSS.out b9)
 clear b9
 refine hK _ _ (fun _ => HSS.out) ?_
 clear hK K
 refine zH (i := 5) (n := 12) (.int .i64 X) rfl (by kernel_rfl) (by kernel_rfl) (by kernel_rfl) (by kernel_rfl) (fun _ _ _ h => h) (by kernel_rfl) (fun W9 hW9 => ?_) HSS.out ?_
 ·rw [HXX.out]; go_simp
 simp only [Act.put]
 refine zH (i := 6) (n := 11) (.bool true) rfl (by kernel_rfl) (by kernel_rfl) (by kernel_rfl) (by kernel_rfl) (fun _ _ _ h => h) (by kernel_rfl) (fun W9 hW9 => ?_) HSS.out ?_
 ·go_simp
 simp only [Act.put]
 refine zH (i := 7) (n := 10) (.bool true) rfl (by kernel_rfl) (by kernel_rfl) (by kernel_rfl) (by kernel_rfl) (fun _ _ _ h => h) (by kernel_rfl) (fun W9 hW9 => ?_) HSS.out ?_
 ·go_simp
 simp only [Act.put]
 refine zH (i := 8) (n := 9) (.pointer (some ⟨w.heap.size + 1 + 1, 0, none⟩)) rfl (by kernel_rfl) (by kernel_rfl) (by kernel_rfl) (by kernel_rfl) (fun _ _ _ h => h) (by kernel_rfl) (fun W9 hW9 => ?_) HSS.out ?_
 ·go_simp
 simp only [Act.put]
 refine zH (i := 9) (n := 8) (.int .i64 o.k) rfl (by kernel_rfl) (by kernel_rfl) (by kernel_rfl) (by kernel_rfl) (fun _ _ _ h => h) (by kernel_rfl) (fun W9 hW9 => ?_) HSS.out ?_
 ·exact zCi (HS5.out.call hW9).st.v5 _ rfl rfl
 simp only [Act.put]
 refine zH (i := 10) (n := 7) (.bool true) rfl (by kernel_rfl) (by kernel_rfl) (by kernel_rfl) (by kernel_rfl) (fun _ _ _ h => h) (by kernel_rfl) (fun W9 hW9 => ?_) HSS.out ?_
 ·go_simp
 simp only [Act.put]
 refine zH (i := 11) (n := 6) (.bool true) rfl (by kernel_rfl) (by kernel_rfl) (by kernel_rfl) (by kernel_rfl) (fun _ _ _ h => h) (by kernel_rfl) (fun W9 hW9 => ?_) HSS.out ?_
 ·go_simp
 simp only [Act.put]
 refine zBx (i := 12) (n := 5) rfl (by kernel_rfl) (by kernel_rfl) (by kernel_rfl) (by kernel_rfl) (fun _ _ _ h => h) (by kernel_rfl) HSS.out ?_
 simp only [Act.put]
 refine zBx (i := 13) (n := 4) rfl (by kernel_rfl) (by kernel_rfl) (by kernel_rfl) (by kernel_rfl) (fun _ _ _ h => h) (by kernel_rfl) HSS.out ?_
 simp only [Act.put]
 refine zBx (i := 14) (n := 3) rfl (by kernel_rfl) (by kernel_rfl) (by kernel_rfl) (by kernel_rfl) (fun _ _ _ h => h) (by kernel_rfl) HSS.out ?_
 simp only [Act.put]
 refine zH (i := 15) (n := 2) (.bool true) rfl (by kernel_rfl) (by kernel_rfl) (by kernel_rfl) (by kernel_rfl) (fun _ _ _ h => h) (by kernel_rfl) (fun W9 hW9 => ?_) HSS.out ?_
 ·go_simp
 simp only [Act.put]
 refine zH (i := 16) (n := 1) (.bool true) rfl (by kernel_rfl) (by kernel_rfl) (by kernel_rfl) (by kernel_rfl) (fun _ _ _ h => h) (by kernel_rfl) (fun W9 hW9 => ?_) HSS.out ?_
 ·go_simp
 simp only [Act.put]
 refine kJ (i := 17) (n := 0) (by kernel_rfl) rfl (fun K hK => ?_)
 rw [if_pos (by kernel_rfl)]
 go_simp
 refine hK _ _ (fun _ => HSS.out) (zAl (by kernel_rfl) ?_)
 go_wp2_with fail
 go_ret
 exact ⟨rfl, (HS5.out.call HSS.out).st.below⟩
set_option maxRecDepth 100000 in
theorem kC9 {w : World} {c : NC} {s : SC} {o : OC} {n x : NT} {sl tl : Sl} {a : OpP} {X N0 M : Int} {E : Bool} (hn : kS w c n) (hs : zB1 w s sl) (ho : OkA w o a) (hf : zB8 n sl a = true) (hap : jL n sl a = ((x, tl), 0)) (hk : o.k = 4) (hx : wrap64 (sizeT x) = X) (hn0 : wrap64 (sizeT n) = N0) (hxx : X = N0 + 1) (b0 : 0 <= N0) (b1 : N0 <= 1000) (b2 : 0 <= M) (b3 : M <= 100000) (_b4 : o.nx <= 1000) (_b5 : 0 <= X) (hsm : eqT x n = E) : Calls Tryz.prog 8 #[.agg c.row, .agg s.row, .agg o.row] w (jW w) := by
 have HAP := hd hap
 have HSX := hd hx
 have HSN := hd hn0
 have HXX := hd hxx
 have HSM := hd hsm
 have k1 : (o.k == 1) = false := by simp [hk]
 have k2 : (o.k == 2) = false := by simp [hk]
 have k3 : (o.k == 3) = false := by simp [hk]
 have k4 : (o.k == 4) = true := by simp [hk]
 have k7 : (o.k == 7) = false := by simp [hk]
 have k8 : (o.k == 8) = false := by simp [hk]
 have k9 : (o.k == 9) = false := by simp [hk]
 have hwr : IntKind.i64.wrap (N0 + 1) = N0 + 1 := IntWalk.i64_in _ (by omega)
 have hw0 : IntKind.i64.wrap N0 = N0 := IntWalk.i64_in _ (by omega)
 have hwg : IntKind.i64.wrap (-M) = -M := IntWalk.i64_in _ (by omega)
 have k19 : (o.k != 9) = true := by simp [hk]
 clear hap hx hn0 hxx hsm hk
 have HN := hd hn
 have HSL := hd hs
 have HO := hd ho
 have HF := hd hf
 have HRD := hd (jE hf hn ho).1
 clear hn hs ho hf
 obtain ⟨W0, hW, hst⟩ := kN w c s o
 have HW := hd hW
 have HS := hd hst
 clear hW hst
 go_enter Tryz.func8, Tryz.ntmps8
 go_upto_region 1 with fail
 rw [HW.out]
 go_upto_region 6 with (first
  | ((with_reducible refine zC (ty := 26) (x := .tmp 3) ?_); refine zB zD HS.out.v3 rfl _ rfl rfl rfl ?_)
  | ((with_reducible refine zC (ty := 33) (x := .tmp 4) ?_); refine zB zP HS.out.v4 rfl _ rfl rfl rfl ?_)
  | ((with_reducible refine zC (ty := 35) (x := .tmp 5) ?_); refine zG HS.out.v5 _ rfl rfl rfl ?_)
  | (go_at_call 10; refine Calls.mono (jG _) ?_; rintro e w1 ⟨rfl, b9⟩; have HS := hd (HS.out.call b9); clear b9)
  | (go_at_call 11; refine Calls.mono (zAq (HN.out.later HS.out.below) (HSL.out.later HS.out.below) (HO.out.later HS.out.below) HF.out) ?_; rintro e w2 ⟨rfl, b9⟩; have HS := hd (HS.out.call b9); clear b9)
  | (go_at_call 13; refine Calls.mono (zA4 (HN.out.later HS.out.below) (HSL.out.later HS.out.below) (HO.out.later HS.out.below) HRD.out HAP.out) ?_; rintro e w3 ⟨ca, ct, rfl, hna, hsa, b9⟩; have HNA := hd hna; have HSA := hd hsa; have HS := hd (HS.out.call b9); clear b9 hna hsa; dsimp only)
  | ((with_reducible refine zF (ty := 26) (x := .tmp 7) ?_); refine zA zD (r := ca.row) (zDj w3) rfl rfl ca.one _ _ rfl rfl rfl rfl rfl ?_; intro W7 hv7 ho7; have HV7 := hd hv7; have HT := hd (zDk ho7); clear hv7 ho7)
  | ((with_reducible refine zF (ty := 33) (x := .tmp 8) ?_); refine zA zP (r := ct.row) HT.out.2 rfl rfl ct.one _ _ rfl rfl rfl rfl rfl ?_; intro W8 hv8 ho8; have HV8 := hd hv8; have HB8 := hd (zDl HT.out.1 ho8); have HV7 := hd (HV7.out.off ho8 (by omega)); clear hv8 ho8))
 have HS5 := hd (show St5 w c s o w3.heap.size (w3.heap.size + 1) ca ct W8 from ⟨HS.out.call HB8.out, HV7.out, HV8.out⟩)
 have HNA2 := hd (HNA.out.later HB8.out)
 have HSA2 := hd (HSA.out.later HB8.out)
 clear HS HNA HSA HV7 HV8 HT HB8
 obtain ⟨g7, hg7⟩ : ∃ g, w3.heap.size = g := ⟨_, rfl⟩
 rw [hg7] at HS5
 try rw [hg7]
 clear hg7
 go_upto_region 22 with (first
  | ((with_reducible refine zC (ty := 3) (x := .tmp 31) ?_); refine zE HS5.out.st.v5 (j := 0) (v := .int .i64 o.k) _ rfl rfl rfl rfl Tryz.underlying3 rfl ?_)
  | ((with_reducible refine zC (ty := 26) ?_); refine kR HS5.out.st.v5 (j := 4) (vs := [.bool o.lf, .slice o.P o.np o.pc, .slice o.X o.nt o.tc, .slice o.K o.nk o.kc]) zCp _ rfl rfl rfl (by kernel_rfl) ?_)
  | (go_at_call 31; refine Calls.mono (zAa (c := o.nc) (zHw (HO.out.later HS5.out.st.below)) HSO.out) ?_; rintro e w12 ⟨rfl, b9⟩; have HS5 := hd (HS5.out.call b9); have HNA2 := hd (HNA2.out.later b9); clear b9)
  | ((with_reducible refine zC (ty := 23) ?_); refine zE HS5.out.st.v5 (j := 10) (v := .slice o.S o.nx o.cx) _ rfl rfl rfl rfl Tryz.underlying23 rfl ?_))
 refine jO (S := fun W' => Below W8.heap.size W8 W') (z := fun _ => false) (by kernel_rfl) ?_
 have HSS := hd (show Below W8.heap.size W8 W8.drew from (Below.refl _ _).drew)
 refine zH (i := 0) (n := 17) (.agg ca.row) rfl (by kernel_rfl) (by kernel_rfl) (by kernel_rfl) (by kernel_rfl) (fun _ _ _ h => h) (by kernel_rfl) (fun W9 hW9 => ?_) HSS.out ?_
 ·exact zS zD (HS5.out.call hW9).v7 rfl _ rfl (by kernel_rfl)
 simp only [Act.put, List.setIfInBounds_toArray]
 refine zH (i := 2) (n := 16) (.agg c.row) rfl (by kernel_rfl) (by kernel_rfl) (by kernel_rfl) (by kernel_rfl) (fun _ _ _ h => h) (by kernel_rfl) (fun W9 hW9 => ?_) HSS.out ?_
 ·exact zS zD (HS5.out.call hW9).st.v3 rfl _ rfl (by kernel_rfl)
 simp only [Act.put]
 refine zH (i := 4) (n := 15) (.int .i64 (1)) rfl (by kernel_rfl) (by kernel_rfl) (by kernel_rfl) (by kernel_rfl) (fun _ _ _ h => h) (by kernel_rfl) (fun W9 hW9 => ?_) HSS.out ?_
 ·go_simp
 simp only [Act.put]
 refine kJ (i := 1) (n := 14) (by kernel_rfl) rfl (fun K hK => ?_)
 rw [if_pos (by kernel_rfl)]
 go_simp
 go_at_call 31
 refine Calls.mono (zAa (HNA2.out.later HSS.out) HSX.out) ?_
 rintro e w9 ⟨rfl, b9⟩
 have HSS := hd (zI HSS.out b9)
 clear b9
 refine hK _ _ (fun _ => HSS.out) ?_
 clear hK K
 refine kJ (i := 3) (n := 13) (by kernel_rfl) rfl (fun K hK => ?_)
 rw [if_pos (by kernel_rfl)]
 go_simp
 go_at_call 31
 refine Calls.mono (zAa (HN.out.later ((HS5.out.call HSS.out).st.below)) HSN.out) ?_
 rintro e w9 ⟨rfl, b9⟩
 have HSS := hd (zI HSS.out b9)
 clear b9
 refine hK _ _ (fun _ => HSS.out) ?_
 clear hK K
 refine zH (i := 5) (n := 12) (.int .i64 X) rfl (by kernel_rfl) (by kernel_rfl) (by kernel_rfl) (by kernel_rfl) (fun _ _ _ h => h) (by kernel_rfl) (fun W9 hW9 => ?_) HSS.out ?_
 ·rw [HXX.out]; go_simp
 simp only [Act.put]
 refine zH (i := 6) (n := 11) (.bool true) rfl (by kernel_rfl) (by kernel_rfl) (by kernel_rfl) (by kernel_rfl) (fun _ _ _ h => h) (by kernel_rfl) (fun W9 hW9 => ?_) HSS.out ?_
 ·go_simp
 simp only [Act.put]
 refine zH (i := 7) (n := 10) (.bool true) rfl (by kernel_rfl) (by kernel_rfl) (by kernel_rfl) (by kernel_rfl) (fun _ _ _ h => h) (by kernel_rfl) (fun W9 hW9 => ?_) HSS.out ?_
 ·go_simp
 simp only [Act.put]
 refine zH (i := 8) (n := 9) (.pointer (some ⟨w.heap.size + 1 + 1, 0, none⟩)) rfl (by kernel_rfl) (by kernel_rfl) (by kernel_rfl) (by kernel_rfl) (fun _ _ _ h => h) (by kernel_rfl) (fun W9 hW9 => ?_) HSS.out ?_
 ·go_simp
 simp only [Act.put]
 refine zH (i := 9) (n := 8) (.int .i64 o.k) rfl (by kernel_rfl) (by kernel_rfl) (by kernel_rfl) (by kernel_rfl) (fun _ _ _ h => h) (by kernel_rfl) (fun W9 hW9 => ?_) HSS.out ?_
 ·exact zCi (HS5.out.call hW9).st.v5 _ rfl rfl
 simp only [Act.put]
 refine zH (i := 10) (n := 7) (.bool true) rfl (by kernel_rfl) (by kernel_rfl) (by kernel_rfl) (by kernel_rfl) (fun _ _ _ h => h) (by kernel_rfl) (fun W9 hW9 => ?_) HSS.out ?_
 ·go_simp
 simp only [Act.put]
 refine zH (i := 11) (n := 6) (.bool true) rfl (by kernel_rfl) (by kernel_rfl) (by kernel_rfl) (by kernel_rfl) (fun _ _ _ h => h) (by kernel_rfl) (fun W9 hW9 => ?_) HSS.out ?_
 ·go_simp
 simp only [Act.put]
 refine zBx (i := 12) (n := 5) rfl (by kernel_rfl) (by kernel_rfl) (by kernel_rfl) (by kernel_rfl) (fun _ _ _ h => h) (by kernel_rfl) HSS.out ?_
 simp only [Act.put]
 refine zBx (i := 13) (n := 4) rfl (by kernel_rfl) (by kernel_rfl) (by kernel_rfl) (by kernel_rfl) (fun _ _ _ h => h) (by kernel_rfl) HSS.out ?_
 simp only [Act.put]
 refine zBx (i := 14) (n := 3) rfl (by kernel_rfl) (by kernel_rfl) (by kernel_rfl) (by kernel_rfl) (fun _ _ _ h => h) (by kernel_rfl) HSS.out ?_
 simp only [Act.put]
 refine zH (i := 15) (n := 2) (.bool true) rfl (by kernel_rfl) (by kernel_rfl) (by kernel_rfl) (by kernel_rfl) (fun _ _ _ h => h) (by kernel_rfl) (fun W9 hW9 => ?_) HSS.out ?_
 ·go_simp
 simp only [Act.put]
 refine zH (i := 16) (n := 1) (.bool true) rfl (by kernel_rfl) (by kernel_rfl) (by kernel_rfl) (by kernel_rfl) (fun _ _ _ h => h) (by kernel_rfl) (fun W9 hW9 => ?_) HSS.out ?_
 ·go_simp
 simp only [Act.put]
 refine kJ (i := 17) (n := 0) (by kernel_rfl) rfl (fun K hK => ?_)
 rw [if_pos (by kernel_rfl)]
 go_simp
 refine hK _ _ (fun _ => HSS.out) (zAl (by kernel_rfl) ?_)
 go_wp2_with fail
 go_ret
 exact ⟨rfl, (HS5.out.call HSS.out).st.below⟩
theorem zJo {P : Prop} (h : P := by
 have HAP := hd hap
 have HSX := hd hx
 have HSN := hd hn0
 have HXX := hd hxx
 have HSM := hd hsm
 have k1 : (o.k == 1) = false := by simp [hk]
 have k2 : (o.k == 2) = false := by simp [hk]
 have k3 : (o.k == 3) = false := by simp [hk]
 have k4 : (o.k == 4) = false := by simp [hk]
 have k7 : (o.k == 7) = false := by simp [hk]
 have k8 : (o.k == 8) = false := by simp [hk]
 have k9 : (o.k == 9) = false := by simp [hk]
 have hwr : IntKind.i64.wrap (N0 + 0) = N0 + 0 := IntWalk.i64_in _ (by omega)
 have hw0 : IntKind.i64.wrap N0 = N0 := IntWalk.i64_in _ (by omega)
 have hwg : IntKind.i64.wrap (-M) = -M := IntWalk.i64_in _ (by omega)
 have k19 : (o.k != 9) = true := by simp [hk]
 clear hap hx hn0 hxx hsm hk
 have HN := hd hn
 have HSL := hd hs
 have HO := hd ho
 have HF := hd hf
 have HRD := hd (jE hf hn ho).1
 clear hn hs ho hf
 obtain ⟨W0, hW, hst⟩ := kN w c s o
 have HW := hd hW
 have HS := hd hst
 clear hW hst
 go_enter Tryz.func8, Tryz.ntmps8
 go_upto_region 1 with fail
 rw [HW.out]
 go_upto_region 6 with (first
  | ((with_reducible refine zC (ty := 26) (x := .tmp 3) ?_); refine zB zD HS.out.v3 rfl _ rfl rfl rfl ?_)
  | ((with_reducible refine zC (ty := 33) (x := .tmp 4) ?_); refine zB zP HS.out.v4 rfl _ rfl rfl rfl ?_)
  | ((with_reducible refine zC (ty := 35) (x := .tmp 5) ?_); refine zG HS.out.v5 _ rfl rfl rfl ?_)
  | (go_at_call 10; refine Calls.mono (jG _) ?_; rintro e w1 ⟨rfl, b9⟩; have HS := hd (HS.out.call b9); clear b9)
  | (go_at_call 11; refine Calls.mono (zAq (HN.out.later HS.out.below) (HSL.out.later HS.out.below) (HO.out.later HS.out.below) HF.out) ?_; rintro e w2 ⟨rfl, b9⟩; have HS := hd (HS.out.call b9); clear b9)
  | (go_at_call 13; refine Calls.mono (zA4 (HN.out.later HS.out.below) (HSL.out.later HS.out.below) (HO.out.later HS.out.below) HRD.out HAP.out) ?_; rintro e w3 ⟨ca, ct, rfl, hna, hsa, b9⟩; have HNA := hd hna; have HSA := hd hsa; have HS := hd (HS.out.call b9); clear b9 hna hsa; dsimp only)
  | ((with_reducible refine zF (ty := 26) (x := .tmp 7) ?_); refine zA zD (r := ca.row) (zDj w3) rfl rfl ca.one _ _ rfl rfl rfl rfl rfl ?_; intro W7 hv7 ho7; have HV7 := hd hv7; have HT := hd (zDk ho7); clear hv7 ho7)
  | ((with_reducible refine zF (ty := 33) (x := .tmp 8) ?_); refine zA zP (r := ct.row) HT.out.2 rfl rfl ct.one _ _ rfl rfl rfl rfl rfl ?_; intro W8 hv8 ho8; have HV8 := hd hv8; have HB8 := hd (zDl HT.out.1 ho8); have HV7 := hd (HV7.out.off ho8 (by omega)); clear hv8 ho8))
 have HS5 := hd (show St5 w c s o w3.heap.size (w3.heap.size + 1) ca ct W8 from ⟨HS.out.call HB8.out, HV7.out, HV8.out⟩)
 have HNA2 := hd (HNA.out.later HB8.out)
 have HSA2 := hd (HSA.out.later HB8.out)
 clear HS HNA HSA HV7 HV8 HT HB8
 obtain ⟨g7, hg7⟩ : ∃ g, w3.heap.size = g := ⟨_, rfl⟩
 rw [hg7] at HS5
 try rw [hg7]
 clear hg7
 go_upto_region 22 with (first
  | ((with_reducible refine zC (ty := 3) (x := .tmp 31) ?_); refine zE HS5.out.st.v5 (j := 0) (v := .int .i64 o.k) _ rfl rfl rfl rfl Tryz.underlying3 rfl ?_)
  | ((with_reducible refine zC (ty := 26) ?_); refine kR HS5.out.st.v5 (j := 4) (vs := [.bool o.lf, .slice o.P o.np o.pc, .slice o.X o.nt o.tc, .slice o.K o.nk o.kc]) zCp _ rfl rfl rfl (by kernel_rfl) ?_)
  | (go_at_call 31; refine Calls.mono (zAa (c := o.nc) (zHw (HO.out.later HS5.out.st.below)) HSO.out) ?_; rintro e w12 ⟨rfl, b9⟩; have HS5 := hd (HS5.out.call b9); have HNA2 := hd (HNA2.out.later b9); clear b9)
  | ((with_reducible refine zC (ty := 23) ?_); refine zE HS5.out.st.v5 (j := 10) (v := .slice o.S o.nx o.cx) _ rfl rfl rfl rfl Tryz.underlying23 rfl ?_))
 refine jO (S := fun W' => Below W8.heap.size W8 W') (z := fun _ => false) (by kernel_rfl) ?_
 have HSS := hd (show Below W8.heap.size W8 W8.drew from (Below.refl _ _).drew)
 refine zH (i := 0) (n := 17) (.agg ca.row) rfl (by kernel_rfl) (by kernel_rfl) (by kernel_rfl) (by kernel_rfl) (fun _ _ _ h => h) (by kernel_rfl) (fun W9 hW9 => ?_) HSS.out ?_
 ·exact zS zD (HS5.out.call hW9).v7 rfl _ rfl (by kernel_rfl)
 simp only [Act.put, List.setIfInBounds_toArray]
 refine zH (i := 2) (n := 16) (.agg c.row) rfl (by kernel_rfl) (by kernel_rfl) (by kernel_rfl) (by kernel_rfl) (fun _ _ _ h => h) (by kernel_rfl) (fun W9 hW9 => ?_) HSS.out ?_
 ·exact zS zD (HS5.out.call hW9).st.v3 rfl _ rfl (by kernel_rfl)
 simp only [Act.put]
 refine zH (i := 4) (n := 15) (.int .i64 (0)) rfl (by kernel_rfl) (by kernel_rfl) (by kernel_rfl) (by kernel_rfl) (fun _ _ _ h => h) (by kernel_rfl) (fun W9 hW9 => ?_) HSS.out ?_
 ·go_simp
 simp only [Act.put]
 refine kJ (i := 1) (n := 14) (by kernel_rfl) rfl (fun K hK => ?_)
 rw [if_pos (by kernel_rfl)]
 go_simp
 go_at_call 31
 refine Calls.mono (zAa (HNA2.out.later HSS.out) HSX.out) ?_
 rintro e w9 ⟨rfl, b9⟩
 have HSS := hd (zI HSS.out b9)
 clear b9
 refine hK _ _ (fun _ => HSS.out) ?_
 clear hK K
 refine kJ (i := 3) (n := 13) (by kernel_rfl) rfl (fun K hK => ?_)
 rw [if_pos (by kernel_rfl)]
 go_simp
 go_at_call 31
 refine Calls.mono (zAa (HN.out.later ((HS5.out.call HSS.out).st.below)) HSN.out) ?_
 rintro e w9 ⟨rfl, b9⟩
 have HSS := hd (zI HSS.out b9)
 clear b9
 refine hK _ _ (fun _ => HSS.out) ?_
 clear hK K
 refine zH (i := 5) (n := 12) (.int .i64 X) rfl (by kernel_rfl) (by kernel_rfl) (by kernel_rfl) (by kernel_rfl) (fun _ _ _ h => h) (by kernel_rfl) (fun W9 hW9 => ?_) HSS.out ?_
 ·rw [HXX.out]; go_simp
 simp only [Act.put]
 refine zH (i := 6) (n := 11) (.bool true) rfl (by kernel_rfl) (by kernel_rfl) (by kernel_rfl) (by kernel_rfl) (fun _ _ _ h => h) (by kernel_rfl) (fun W9 hW9 => ?_) HSS.out ?_
 ·go_simp
 simp only [Act.put]
 refine zH (i := 7) (n := 10) (.bool true) rfl (by kernel_rfl) (by kernel_rfl) (by kernel_rfl) (by kernel_rfl) (fun _ _ _ h => h) (by kernel_rfl) (fun W9 hW9 => ?_) HSS.out ?_
 ·go_simp
 simp only [Act.put]
 refine zH (i := 8) (n := 9) (.pointer (some ⟨w.heap.size + 1 + 1, 0, none⟩)) rfl (by kernel_rfl) (by kernel_rfl) (by kernel_rfl) (by kernel_rfl) (fun _ _ _ h => h) (by kernel_rfl) (fun W9 hW9 => ?_) HSS.out ?_
 ·go_simp
 simp only [Act.put]
 refine zH (i := 9) (n := 8) (.int .i64 o.k) rfl (by kernel_rfl) (by kernel_rfl) (by kernel_rfl) (by kernel_rfl) (fun _ _ _ h => h) (by kernel_rfl) (fun W9 hW9 => ?_) HSS.out ?_
 ·exact zCi (HS5.out.call hW9).st.v5 _ rfl rfl
 simp only [Act.put]
 refine zH (i := 10) (n := 7) (.bool true) rfl (by kernel_rfl) (by kernel_rfl) (by kernel_rfl) (by kernel_rfl) (fun _ _ _ h => h) (by kernel_rfl) (fun W9 hW9 => ?_) HSS.out ?_
 ·go_simp
 simp only [Act.put]
 refine zH (i := 11) (n := 6) (.bool true) rfl (by kernel_rfl) (by kernel_rfl) (by kernel_rfl) (by kernel_rfl) (fun _ _ _ h => h) (by kernel_rfl) (fun W9 hW9 => ?_) HSS.out ?_
 ·go_simp
 simp only [Act.put]
 refine zBx (i := 12) (n := 5) rfl (by kernel_rfl) (by kernel_rfl) (by kernel_rfl) (by kernel_rfl) (fun _ _ _ h => h) (by kernel_rfl) HSS.out ?_
 simp only [Act.put]
 refine zBx (i := 13) (n := 4) rfl (by kernel_rfl) (by kernel_rfl) (by kernel_rfl) (by kernel_rfl) (fun _ _ _ h => h) (by kernel_rfl) HSS.out ?_
 simp only [Act.put]
 refine zBx (i := 14) (n := 3) rfl (by kernel_rfl) (by kernel_rfl) (by kernel_rfl) (by kernel_rfl) (fun _ _ _ h => h) (by kernel_rfl) HSS.out ?_
 simp only [Act.put]
 refine zH (i := 15) (n := 2) (.bool true) rfl (by kernel_rfl) (by kernel_rfl) (by kernel_rfl) (by kernel_rfl) (fun _ _ _ h => h) (by kernel_rfl) (fun W9 hW9 => ?_) HSS.out ?_
 ·go_simp
 simp only [Act.put]
 refine zH (i := 16) (n := 1) (.bool true) rfl (by kernel_rfl) (by kernel_rfl) (by kernel_rfl) (by kernel_rfl) (fun _ _ _ h => h) (by kernel_rfl) (fun W9 hW9 => ?_) HSS.out ?_
 ·go_simp
 simp only [Act.put]
 refine kJ (i := 17) (n := 0) (by kernel_rfl) rfl (fun K hK => ?_)
 rw [if_pos (by kernel_rfl)]
 go_simp
 refine hK _ _ (fun _ => HSS.out) (zAl (by kernel_rfl) ?_)
 go_wp2_with fail
 go_ret
 exact ⟨rfl, (HS5.out.call HSS.out).st.below⟩) : P := h
set_option maxRecDepth 100000 in
theorem kDa {w : World} {c : NC} {s : SC} {o : OC} {n x : NT} {sl tl : Sl} {a : OpP} {X N0 M : Int} {E : Bool} (hn : kS w c n) (hs : zB1 w s sl) (ho : OkA w o a) (hf : zB8 n sl a = true) (hap : jL n sl a = ((x, tl), 0)) (hk : o.k = 5) (hx : wrap64 (sizeT x) = X) (hn0 : wrap64 (sizeT n) = N0) (hxx : X = N0 + 0) (b0 : 0 <= N0) (b1 : N0 <= 1000) (b2 : 0 <= M) (b3 : M <= 100000) (_b4 : o.nx <= 1000) (_b5 : 0 <= X) (hsm : eqT x n = E) : Calls Tryz.prog 8 #[.agg c.row, .agg s.row, .agg o.row] w (jW w) := by
 exact zJo
set_option maxRecDepth 100000 in
theorem kDb {w : World} {c : NC} {s : SC} {o : OC} {n x : NT} {sl tl : Sl} {a : OpP} {X N0 M : Int} {E : Bool} (hn : kS w c n) (hs : zB1 w s sl) (ho : OkA w o a) (hf : zB8 n sl a = true) (hap : jL n sl a = ((x, tl), 0)) (hk : o.k = 6) (hx : wrap64 (sizeT x) = X) (hn0 : wrap64 (sizeT n) = N0) (hxx : X = N0 + 0) (b0 : 0 <= N0) (b1 : N0 <= 1000) (b2 : 0 <= M) (b3 : M <= 100000) (_b4 : o.nx <= 1000) (_b5 : 0 <= X) (hsm : eqT x n = E) : Calls Tryz.prog 8 #[.agg c.row, .agg s.row, .agg o.row] w (jW w) := by
 exact zJo
set_option maxRecDepth 100000 in
theorem kDc {w : World} {c : NC} {s : SC} {o : OC} {n x : NT} {sl tl : Sl} {a : OpP} {X N0 M : Int} {E : Bool} (hn : kS w c n) (hs : zB1 w s sl) (ho : OkA w o a) (hf : zB8 n sl a = true) (hap : jL n sl a = ((x, tl), 0)) (hk : o.k = 7) (hx : wrap64 (sizeT x) = X) (hn0 : wrap64 (sizeT n) = N0) (hxx : X = N0 + (o.nx : Int)) (b0 : 0 <= N0) (b1 : N0 <= 1000) (b2 : 0 <= M) (b3 : M <= 100000) (b4 : o.nx <= 1000) (b5 : 0 <= X) (hsm : eqT x n = E) : Calls Tryz.prog 8 #[.agg c.row, .agg s.row, .agg o.row] w (jW w) := by
 have HAP := hd hap
 have HSX := hd hx
 have HSN := hd hn0
 have HXX := hd hxx
 have HSM := hd hsm
 have k1 : (o.k == 1) = false := by simp [hk]
 have k2 : (o.k == 2) = false := by simp [hk]
 have k3 : (o.k == 3) = false := by simp [hk]
 have k4 : (o.k == 4) = false := by simp [hk]
 have k7 : (o.k == 7) = true := by simp [hk]
 have k8 : (o.k == 8) = false := by simp [hk]
 have k9 : (o.k == 9) = false := by simp [hk]
 have hwr : IntKind.i64.wrap (N0 + (o.nx : Int)) = N0 + (o.nx : Int) := IntWalk.i64_in _ (by omega)
 have hw0 : IntKind.i64.wrap N0 = N0 := IntWalk.i64_in _ (by omega)
 have hwg : IntKind.i64.wrap (-M) = -M := IntWalk.i64_in _ (by omega)
 have k19 : (o.k != 9) = true := by simp [hk]
 clear hap hx hn0 hxx hsm hk
 have HN := hd hn
 have HSL := hd hs
 have HO := hd ho
 have HF := hd hf
 have HRD := hd (jE hf hn ho).1
 clear hn hs ho hf
 obtain ⟨W0, hW, hst⟩ := kN w c s o
 have HW := hd hW
 have HS := hd hst
 clear hW hst
 go_enter Tryz.func8, Tryz.ntmps8
 go_upto_region 1 with fail
 rw [HW.out]
 go_upto_region 6 with (first
  | ((with_reducible refine zC (ty := 26) (x := .tmp 3) ?_); refine zB zD HS.out.v3 rfl _ rfl rfl rfl ?_)
  | ((with_reducible refine zC (ty := 33) (x := .tmp 4) ?_); refine zB zP HS.out.v4 rfl _ rfl rfl rfl ?_)
  | ((with_reducible refine zC (ty := 35) (x := .tmp 5) ?_); refine zG HS.out.v5 _ rfl rfl rfl ?_)
  | (go_at_call 10; refine Calls.mono (jG _) ?_; rintro e w1 ⟨rfl, b9⟩; have HS := hd (HS.out.call b9); clear b9)
  | (go_at_call 11; refine Calls.mono (zAq (HN.out.later HS.out.below) (HSL.out.later HS.out.below) (HO.out.later HS.out.below) HF.out) ?_; rintro e w2 ⟨rfl, b9⟩; have HS := hd (HS.out.call b9); clear b9)
  | (go_at_call 13; refine Calls.mono (zA4 (HN.out.later HS.out.below) (HSL.out.later HS.out.below) (HO.out.later HS.out.below) HRD.out HAP.out) ?_; rintro e w3 ⟨ca, ct, rfl, hna, hsa, b9⟩; have HNA := hd hna; have HSA := hd hsa; have HS := hd (HS.out.call b9); clear b9 hna hsa; dsimp only)
  | ((with_reducible refine zF (ty := 26) (x := .tmp 7) ?_); refine zA zD (r := ca.row) (zDj w3) rfl rfl ca.one _ _ rfl rfl rfl rfl rfl ?_; intro W7 hv7 ho7; have HV7 := hd hv7; have HT := hd (zDk ho7); clear hv7 ho7)
  | ((with_reducible refine zF (ty := 33) (x := .tmp 8) ?_); refine zA zP (r := ct.row) HT.out.2 rfl rfl ct.one _ _ rfl rfl rfl rfl rfl ?_; intro W8 hv8 ho8; have HV8 := hd hv8; have HB8 := hd (zDl HT.out.1 ho8); have HV7 := hd (HV7.out.off ho8 (by omega)); clear hv8 ho8))
 have HS5 := hd (show St5 w c s o w3.heap.size (w3.heap.size + 1) ca ct W8 from ⟨HS.out.call HB8.out, HV7.out, HV8.out⟩)
 have HNA2 := hd (HNA.out.later HB8.out)
 have HSA2 := hd (HSA.out.later HB8.out)
 clear HS HNA HSA HV7 HV8 HT HB8
 obtain ⟨g7, hg7⟩ : ∃ g, w3.heap.size = g := ⟨_, rfl⟩
 rw [hg7] at HS5
 try rw [hg7]
 clear hg7
 go_upto_region 22 with (first
  | ((with_reducible refine zC (ty := 3) (x := .tmp 31) ?_); refine zE HS5.out.st.v5 (j := 0) (v := .int .i64 o.k) _ rfl rfl rfl rfl Tryz.underlying3 rfl ?_)
  | ((with_reducible refine zC (ty := 26) ?_); refine kR HS5.out.st.v5 (j := 4) (vs := [.bool o.lf, .slice o.P o.np o.pc, .slice o.X o.nt o.tc, .slice o.K o.nk o.kc]) zCp _ rfl rfl rfl (by kernel_rfl) ?_)
  | (go_at_call 31; refine Calls.mono (zAa (c := o.nc) (zHw (HO.out.later HS5.out.st.below)) HSO.out) ?_; rintro e w12 ⟨rfl, b9⟩; have HS5 := hd (HS5.out.call b9); have HNA2 := hd (HNA2.out.later b9); clear b9)
  | ((with_reducible refine zC (ty := 23) ?_); refine zE HS5.out.st.v5 (j := 10) (v := .slice o.S o.nx o.cx) _ rfl rfl rfl rfl Tryz.underlying23 rfl ?_))
 refine jO (S := fun W' => Below W8.heap.size W8 W') (z := fun _ => false) (by kernel_rfl) ?_
 have HSS := hd (show Below W8.heap.size W8 W8.drew from (Below.refl _ _).drew)
 refine zH (i := 0) (n := 17) (.agg ca.row) rfl (by kernel_rfl) (by kernel_rfl) (by kernel_rfl) (by kernel_rfl) (fun _ _ _ h => h) (by kernel_rfl) (fun W9 hW9 => ?_) HSS.out ?_
 ·exact zS zD (HS5.out.call hW9).v7 rfl _ rfl (by kernel_rfl)
 simp only [Act.put, List.setIfInBounds_toArray]
 refine zH (i := 2) (n := 16) (.agg c.row) rfl (by kernel_rfl) (by kernel_rfl) (by kernel_rfl) (by kernel_rfl) (fun _ _ _ h => h) (by kernel_rfl) (fun W9 hW9 => ?_) HSS.out ?_
 ·exact zS zD (HS5.out.call hW9).st.v3 rfl _ rfl (by kernel_rfl)
 simp only [Act.put]
 refine zH (i := 4) (n := 15) (.int .i64 ((o.nx : Int))) rfl (by kernel_rfl) (by kernel_rfl) (by kernel_rfl) (by kernel_rfl) (fun _ _ _ h => h) (by kernel_rfl) (fun W9 hW9 => ?_) HSS.out ?_
 ·go_simp
 simp only [Act.put]
 refine kJ (i := 1) (n := 14) (by kernel_rfl) rfl (fun K hK => ?_)
 rw [if_pos (by kernel_rfl)]
 go_simp
 go_at_call 31
 refine Calls.mono (zAa (HNA2.out.later HSS.out) HSX.out) ?_
 rintro e w9 ⟨rfl, b9⟩
 have HSS := hd (zI HSS.out b9)
 clear b9
 refine hK _ _ (fun _ => HSS.out) ?_
 clear hK K
 refine kJ (i := 3) (n := 13) (by kernel_rfl) rfl (fun K hK => ?_)
 rw [if_pos (by kernel_rfl)]
 go_simp
 go_at_call 31
 refine Calls.mono (zAa (HN.out.later ((HS5.out.call HSS.out).st.below)) HSN.out) ?_
 rintro e w9 ⟨rfl, b9⟩
 have HSS := hd (zI HSS.out b9)
 clear b9
 refine hK _ _ (fun _ => HSS.out) ?_
 clear hK K
 refine zH (i := 5) (n := 12) (.int .i64 X) rfl (by kernel_rfl) (by kernel_rfl) (by kernel_rfl) (by kernel_rfl) (fun _ _ _ h => h) (by kernel_rfl) (fun W9 hW9 => ?_) HSS.out ?_
 ·rw [HXX.out]; go_simp
 simp only [Act.put]
 refine zH (i := 6) (n := 11) (.bool true) rfl (by kernel_rfl) (by kernel_rfl) (by kernel_rfl) (by kernel_rfl) (fun _ _ _ h => h) (by kernel_rfl) (fun W9 hW9 => ?_) HSS.out ?_
 ·go_simp
 simp only [Act.put]
 refine zH (i := 7) (n := 10) (.bool true) rfl (by kernel_rfl) (by kernel_rfl) (by kernel_rfl) (by kernel_rfl) (fun _ _ _ h => h) (by kernel_rfl) (fun W9 hW9 => ?_) HSS.out ?_
 ·go_simp
 simp only [Act.put]
 refine zH (i := 8) (n := 9) (.pointer (some ⟨w.heap.size + 1 + 1, 0, none⟩)) rfl (by kernel_rfl) (by kernel_rfl) (by kernel_rfl) (by kernel_rfl) (fun _ _ _ h => h) (by kernel_rfl) (fun W9 hW9 => ?_) HSS.out ?_
 ·go_simp
 simp only [Act.put]
 refine zH (i := 9) (n := 8) (.int .i64 o.k) rfl (by kernel_rfl) (by kernel_rfl) (by kernel_rfl) (by kernel_rfl) (fun _ _ _ h => h) (by kernel_rfl) (fun W9 hW9 => ?_) HSS.out ?_
 ·exact zCi (HS5.out.call hW9).st.v5 _ rfl rfl
 simp only [Act.put]
 refine zH (i := 10) (n := 7) (.bool true) rfl (by kernel_rfl) (by kernel_rfl) (by kernel_rfl) (by kernel_rfl) (fun _ _ _ h => h) (by kernel_rfl) (fun W9 hW9 => ?_) HSS.out ?_
 ·go_simp
 simp only [Act.put]
 refine zH (i := 11) (n := 6) (.bool true) rfl (by kernel_rfl) (by kernel_rfl) (by kernel_rfl) (by kernel_rfl) (fun _ _ _ h => h) (by kernel_rfl) (fun W9 hW9 => ?_) HSS.out ?_
 ·go_simp
 simp only [Act.put]
 refine zBx (i := 12) (n := 5) rfl (by kernel_rfl) (by kernel_rfl) (by kernel_rfl) (by kernel_rfl) (fun _ _ _ h => h) (by kernel_rfl) HSS.out ?_
 simp only [Act.put]
 refine zBx (i := 13) (n := 4) rfl (by kernel_rfl) (by kernel_rfl) (by kernel_rfl) (by kernel_rfl) (fun _ _ _ h => h) (by kernel_rfl) HSS.out ?_
 simp only [Act.put]
 refine zBx (i := 14) (n := 3) rfl (by kernel_rfl) (by kernel_rfl) (by kernel_rfl) (by kernel_rfl) (fun _ _ _ h => h) (by kernel_rfl) HSS.out ?_
 simp only [Act.put]
 refine zH (i := 15) (n := 2) (.bool true) rfl (by kernel_rfl) (by kernel_rfl) (by kernel_rfl) (by kernel_rfl) (fun _ _ _ h => h) (by kernel_rfl) (fun W9 hW9 => ?_) HSS.out ?_
 ·go_simp
 simp only [Act.put]
 refine zH (i := 16) (n := 1) (.bool true) rfl (by kernel_rfl) (by kernel_rfl) (by kernel_rfl) (by kernel_rfl) (fun _ _ _ h => h) (by kernel_rfl) (fun W9 hW9 => ?_) HSS.out ?_
 ·go_simp
 simp only [Act.put]
 refine kJ (i := 17) (n := 0) (by kernel_rfl) rfl (fun K hK => ?_)
 rw [if_pos (by kernel_rfl)]
 go_simp
 refine hK _ _ (fun _ => HSS.out) (zAl (by kernel_rfl) ?_)
 go_wp2_with fail
 go_ret
 exact ⟨rfl, (HS5.out.call HSS.out).st.below⟩
end Go.Proofs.YtmkciabefepelaaGreat
