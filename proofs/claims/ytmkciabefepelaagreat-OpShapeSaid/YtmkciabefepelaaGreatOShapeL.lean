/- OpShape answers true. -/
import Derived.Test.YtmkciabefepelaaGreatJHDoS
import Derived.Test.YtmkciabefepelaaGreatJUDo
set_option maxRecDepth 4000
set_option maxHeartbeats 8000000
namespace Go.Proofs.YtmkciabefepelaaGreat
open Go.RowKit
theorem kRk {w0 w : World} {v : Value} {g n r : NT} {F : Nat -> Prop} {o : OC} {a : OpP} (hG : Gh w v g F) (hF : ∀ q, F q -> w0.heap.size <= q /\ q < w.heap.size) (ho : OkA w0 o a) (hw : Below w0.heap.size w0 w) (ta : zAf a) (h4 : (o.k == 4) = false) (hd : 1 <= a.k /\ a.k <= 8 /\ doO n a = (r, 0) ∨ a.k = 9 /\ r = n) (hs : kOb g n = true) (hn : sizeT n <= 1000) (hm : a.k = 1 -> sizeT a.n <= 1000) : ∃ g', kOb g' r = true /\ Calls Tryz.prog 24 #[v, .agg o.row] w (kQ1 F v g' w) := by
 have hk := ho.hk
 rcases hd with ⟨h1, h8, hd⟩ | ⟨h9, rfl⟩
 ·exact kQs hG hF ho hw ta h1 h8 (by rw [hk]; intro e; rw [e] at h4; cases h4) hd hs hn hm
 ·exact ⟨g, hs, kRl hG hF ho hw ta (by simp; omega) (by simp; omega) (by simp; omega) (by simp; omega) (by simp; omega) (by simp; omega) (by simp; omega)⟩
set_option maxRecDepth 100000 in
theorem kQ9 {w : World} {c : NC} {s : SC} {o : OC} {n : NT} {sl : Sl} {a : OpP} (hn : kS w c n) (hs : zB1 w s sl) (ho : OkA w o a) (hf : zB8 n sl a = false) : Calls Tryz.prog 7 #[.agg c.row, .agg s.row, .agg o.row] w (jW w) := by
 have HN := hd hn
 have HSL := hd hs
 have HO := hd ho
 have HF := hd hf
 clear hn hs ho hf
 obtain ⟨W0, hW, hst⟩ := kN w c s o
 have HW := hd hW
 have HS := hd hst
 clear hW hst
 go_enter Tryz.func7, Tryz.ntmps7
 go_upto_region 1 with fail
 rw [HW.out]
 go_wp2_with (first
  | ((with_reducible refine zC (ty := 26) (x := .tmp 3) ?_); refine zB zD HS.out.v3 rfl _ rfl rfl rfl ?_)
  | ((with_reducible refine zC (ty := 33) (x := .tmp 4) ?_); refine zB zP HS.out.v4 rfl _ rfl rfl rfl ?_)
  | ((with_reducible refine zC (ty := 35) (x := .tmp 5) ?_); refine zG HS.out.v5 _ rfl rfl rfl ?_)
  | (go_at_call 10; refine Calls.mono (jG _) ?_; rintro e w1 ⟨rfl, b9⟩; have HS := hd (HS.out.call b9); clear b9)
  | (go_at_call 11; refine Calls.mono (zAq (HN.out.later HS.out.below) (HSL.out.later HS.out.below) (HO.out.later HS.out.below) HF.out) ?_; rintro e w2 ⟨rfl, b9⟩; have HS := hd (HS.out.call b9); clear b9))
 go_ret
 exact ⟨rfl, HS.out.below⟩
theorem kO0 {P : Prop} (h : P := by
 simp only [Act.put]
 refine zH (i := 18) (n := 1) (.bool true) rfl (by kernel_rfl) (by kernel_rfl) (by kernel_rfl) (by kernel_rfl) (fun _ _ _ h => h) (by kernel_rfl) (fun W9 hW9 => ?_) HSS.out ?_
 ·go_simp
 simp only [Act.put]
 refine kJ (i := 19) (n := 0) (by kernel_rfl) rfl (fun K hK => ?_)
 rw [if_pos (by kernel_rfl)]
 go_simp
 refine hK _ _ (fun _ => HSS.out) (zAl (by kernel_rfl) ?_)
 go_wp2
 go_ret
 exact ⟨rfl, (HS5.out.call HSS.out).st.below⟩) : P := h
set_option maxRecDepth 100000 in
theorem kRa {w : World} {c : NC} {s : SC} {o : OC} {n : NT} {sl : Sl} {a : OpP} {er : Int} (hn : kS w c n) (hs : zB1 w s sl) (ho : OkA w o a) (hf : zB8 n sl a = true) (hap : jL n sl a = ((zeroT, zeroS), er)) (hne : (er != 0) = true) : Calls Tryz.prog 7 #[.agg c.row, .agg s.row, .agg o.row] w (jW w) := by
 have HAP := hd hap
 clear hap
 have HN := hd hn
 have HSL := hd hs
 have HO := hd ho
 have HF := hd hf
 have HRD := hd (jE hf hn ho).1
 clear hn hs ho hf
 obtain ⟨W0, hW, hst⟩ := kN w c s o
 have HW := hd hW
 have HS := hd hst
 clear hW hst
 go_enter Tryz.func7, Tryz.ntmps7
 go_upto_region 1 with fail
 rw [HW.out]
 go_upto_region 6 with (first
  | ((with_reducible refine zC (ty := 26) (x := .tmp 3) ?_); refine zB zD HS.out.v3 rfl _ rfl rfl rfl ?_)
  | ((with_reducible refine zC (ty := 33) (x := .tmp 4) ?_); refine zB zP HS.out.v4 rfl _ rfl rfl rfl ?_)
  | ((with_reducible refine zC (ty := 35) (x := .tmp 5) ?_); refine zG HS.out.v5 _ rfl rfl rfl ?_)
  | (go_at_call 10; refine Calls.mono (jG _) ?_; rintro e w1 ⟨rfl, b9⟩; have HS := hd (HS.out.call b9); clear b9)
  | (go_at_call 11; refine Calls.mono (zAq (HN.out.later HS.out.below) (HSL.out.later HS.out.below) (HO.out.later HS.out.below) HF.out) ?_; rintro e w2 ⟨rfl, b9⟩; have HS := hd (HS.out.call b9); clear b9)
  | (go_at_call 13; refine Calls.mono (zA4 (HN.out.later HS.out.below) (HSL.out.later HS.out.below) (HO.out.later HS.out.below) HRD.out HAP.out) ?_; rintro e w3 ⟨ca, ct, rfl, hna, hsa, b9⟩; have HNA := hd hna; have HSA := hd hsa; have HS := hd (HS.out.call b9); clear b9 hna hsa; dsimp only)
  | ((with_reducible refine zF (ty := 26) (x := .tmp 7) ?_); refine zA zD (r := ca.row) (zDj w3) rfl rfl ca.one _ _ rfl rfl rfl rfl rfl ?_; intro W7 hv7 ho7; have HV7 := hd hv7; have HT := hd (zDk ho7); clear hv7 ho7)
  | ((with_reducible refine zF (ty := 33) (x := .tmp 8) ?_); refine zA zP (r := ct.row) HT.out.2 rfl rfl ct.one _ _ rfl rfl rfl rfl rfl ?_; intro W8 hv8 ho8; have HV8 := hd hv8; have HB8 := hd (zDl HT.out.1 ho8); have HV7 := hd (HV7.out.off ho8 (by omega)); clear hv8 ho8))
 have HS5 := hd (show St5 w c s o w3.heap.size (w3.heap.size + 1) ca ct W8 from ⟨HS.out.call HB8.out, HV7.out, HV8.out⟩)
 have HNA2 := hd (HNA.out.later HB8.out)
 have HSA2 := hd (HSA.out.later HB8.out)
 clear HS HNA HSA HV7 HV8 HT HB8
 obtain ⟨g7, hg7⟩ : ∃ g, w3.heap.size = g := ⟨_, rfl⟩
 rw [hg7] at HS5
 try rw [hg7]
 clear hg7
 have HZN := hd (fun W9 : World => (show kS W9 (NC.mk false none 0 0 none 0 0 none 0 0) zeroT from ⟨1, zEh _ _⟩))
 have HSM := hd (zD8 zeroT)
 go_upto_region 7 with fail
 refine jO (S := fun W' => Below W8.heap.size W8 W') (z := fun _ => false) (by kernel_rfl) ?_
 have HSS := hd (show Below W8.heap.size W8 W8.drew from (Below.refl _ _).drew)
 refine zH (i := 0) (n := 19) (.int .i64 er) rfl (by kernel_rfl) (by kernel_rfl) (by kernel_rfl) (by kernel_rfl) (fun _ _ _ h => h) (by kernel_rfl) (fun W9 hW9 => ?_) HSS.out ?_
 ·go_simp
 simp only [Act.put, List.setIfInBounds_toArray]
 refine zH (i := 1) (n := 18) (.bool true) rfl (by kernel_rfl) (by kernel_rfl) (by kernel_rfl) (by kernel_rfl) (fun _ _ _ h => h) (by kernel_rfl) (fun W9 hW9 => ?_) HSS.out ?_
 ·go_simp
 simp only [Act.put]
 refine zH (i := 2) (n := 17) (.bool true) rfl (by kernel_rfl) (by kernel_rfl) (by kernel_rfl) (by kernel_rfl) (fun _ _ _ h => h) (by kernel_rfl) (fun W9 hW9 => ?_) HSS.out ?_
 ·go_simp
 simp only [Act.put]
 refine zH (i := 3) (n := 16) (.agg ca.row) rfl (by kernel_rfl) (by kernel_rfl) (by kernel_rfl) (by kernel_rfl) (fun _ _ _ h => h) (by kernel_rfl) (fun W9 hW9 => ?_) HSS.out ?_
 ·exact zS zD (HS5.out.call hW9).v7 rfl _ rfl (by kernel_rfl)
 simp only [Act.put]
 refine zH (i := 4) (n := 15) (.agg (NC.mk false none 0 0 none 0 0 none 0 0).row) rfl (by kernel_rfl) (by kernel_rfl) (by kernel_rfl) (by kernel_rfl) (fun _ _ _ h => h) (by kernel_rfl) (fun W9 hW9 => ?_) HSS.out ?_
 ·go_simp; rfl
 simp only [Act.put]
 refine kJ (i := 5) (n := 14) (by kernel_rfl) rfl (fun K hK => ?_)
 rw [if_pos (by kernel_rfl)]
 go_simp
 go_at_call 15
 refine Calls.mono (zHo (c' := (NC.mk false none 0 0 none 0 0 none 0 0)) (HNA2.out.later HSS.out) (HZN.out _) HSM.out) ?_
 rintro e w9 ⟨rfl, b9⟩
 have HSS := hd (zI HSS.out b9)
 clear b9
 refine hK _ _ (fun _ => HSS.out) ?_
 clear hK K
 refine zH (i := 6) (n := 13) (.bool true) rfl (by kernel_rfl) (by kernel_rfl) (by kernel_rfl) (by kernel_rfl) (fun _ _ _ h => h) (by kernel_rfl) (fun W9 hW9 => ?_) HSS.out ?_
 ·go_simp
 simp only [Act.put]
 refine zH (i := 7) (n := 12) (.bool true) rfl (by kernel_rfl) (by kernel_rfl) (by kernel_rfl) (by kernel_rfl) (fun _ _ _ h => h) (by kernel_rfl) (fun W9 hW9 => ?_) HSS.out ?_
 ·go_simp
 simp only [Act.put]
 refine zBx (i := 8) (n := 11) rfl (by kernel_rfl) (by kernel_rfl) (by kernel_rfl) (by kernel_rfl) (fun _ _ _ h => h) (by kernel_rfl) HSS.out ?_
 simp only [Act.put]
 refine zBx (i := 9) (n := 10) rfl (by kernel_rfl) (by kernel_rfl) (by kernel_rfl) (by kernel_rfl) (fun _ _ _ h => h) (by kernel_rfl) HSS.out ?_
 simp only [Act.put]
 refine zBx (i := 10) (n := 9) rfl (by kernel_rfl) (by kernel_rfl) (by kernel_rfl) (by kernel_rfl) (fun _ _ _ h => h) (by kernel_rfl) HSS.out ?_
 simp only [Act.put]
 refine zBx (i := 11) (n := 8) rfl (by kernel_rfl) (by kernel_rfl) (by kernel_rfl) (by kernel_rfl) (fun _ _ _ h => h) (by kernel_rfl) HSS.out ?_
 simp only [Act.put]
 refine zBx (i := 12) (n := 7) rfl (by kernel_rfl) (by kernel_rfl) (by kernel_rfl) (by kernel_rfl) (fun _ _ _ h => h) (by kernel_rfl) HSS.out ?_
 simp only [Act.put]
 refine zBx (i := 13) (n := 6) rfl (by kernel_rfl) (by kernel_rfl) (by kernel_rfl) (by kernel_rfl) (fun _ _ _ h => h) (by kernel_rfl) HSS.out ?_
 simp only [Act.put]
 refine zBx (i := 14) (n := 5) rfl (by kernel_rfl) (by kernel_rfl) (by kernel_rfl) (by kernel_rfl) (fun _ _ _ h => h) (by kernel_rfl) HSS.out ?_
 simp only [Act.put]
 refine zBx (i := 15) (n := 4) rfl (by kernel_rfl) (by kernel_rfl) (by kernel_rfl) (by kernel_rfl) (fun _ _ _ h => h) (by kernel_rfl) HSS.out ?_
 simp only [Act.put]
 refine zBx (i := 16) (n := 3) rfl (by kernel_rfl) (by kernel_rfl) (by kernel_rfl) (by kernel_rfl) (fun _ _ _ h => h) (by kernel_rfl) HSS.out ?_
 simp only [Act.put]
 refine zBx (i := 17) (n := 2) rfl (by kernel_rfl) (by kernel_rfl) (by kernel_rfl) (by kernel_rfl) (fun _ _ _ h => h) (by kernel_rfl) HSS.out ?_
 exact kO0
set_option maxRecDepth 100000 in
theorem kRb {w : World} {c : NC} {s : SC} {o : OC} {n x : NT} {sl tl : Sl} {a : OpP} {X N0 : Int} (hn : kS w c n) (hs : zB1 w s sl) (ho : OkA w o a) (hf : zB8 n sl a = true) (hap : jL n sl a = ((x, tl), 0)) (hk : o.k = 4) (hx : wrap64 (sizeT x) = X) (hn0 : wrap64 (sizeT n) = N0) (hxx : X = N0 + 1) (b0 : 0 <= N0) (b1 : N0 <= 1000) : Calls Tryz.prog 7 #[.agg c.row, .agg s.row, .agg o.row] w (jW w) := by
 have HAP := hd hap
 have HSX := hd hx
 have HSN := hd hn0
 have HXX := hd hxx
 have k4 : (o.k == 4) = true := by simp [hk]
 have hwr : IntKind.i64.wrap (N0 + 1) = N0 + 1 := IntWalk.i64_in _ (by omega)
 clear hap hx hn0 hxx hk
 have HN := hd hn
 have HSL := hd hs
 have HO := hd ho
 have HF := hd hf
 have HRD := hd (jE hf hn ho).1
 clear hn hs ho hf
 obtain ⟨W0, hW, hst⟩ := kN w c s o
 have HW := hd hW
 have HS := hd hst
 clear hW hst
 go_enter Tryz.func7, Tryz.ntmps7
 go_upto_region 1 with fail
 rw [HW.out]
 go_upto_region 6 with (first
  | ((with_reducible refine zC (ty := 26) (x := .tmp 3) ?_); refine zB zD HS.out.v3 rfl _ rfl rfl rfl ?_)
  | ((with_reducible refine zC (ty := 33) (x := .tmp 4) ?_); refine zB zP HS.out.v4 rfl _ rfl rfl rfl ?_)
  | ((with_reducible refine zC (ty := 35) (x := .tmp 5) ?_); refine zG HS.out.v5 _ rfl rfl rfl ?_)
  | (go_at_call 10; refine Calls.mono (jG _) ?_; rintro e w1 ⟨rfl, b9⟩; have HS := hd (HS.out.call b9); clear b9)
  | (go_at_call 11; refine Calls.mono (zAq (HN.out.later HS.out.below) (HSL.out.later HS.out.below) (HO.out.later HS.out.below) HF.out) ?_; rintro e w2 ⟨rfl, b9⟩; have HS := hd (HS.out.call b9); clear b9)
  | (go_at_call 13; refine Calls.mono (zA4 (HN.out.later HS.out.below) (HSL.out.later HS.out.below) (HO.out.later HS.out.below) HRD.out HAP.out) ?_; rintro e w3 ⟨ca, ct, rfl, hna, hsa, b9⟩; have HNA := hd hna; have HSA := hd hsa; have HS := hd (HS.out.call b9); clear b9 hna hsa; dsimp only)
  | ((with_reducible refine zF (ty := 26) (x := .tmp 7) ?_); refine zA zD (r := ca.row) (zDj w3) rfl rfl ca.one _ _ rfl rfl rfl rfl rfl ?_; intro W7 hv7 ho7; have HV7 := hd hv7; have HT := hd (zDk ho7); clear hv7 ho7)
  | ((with_reducible refine zF (ty := 33) (x := .tmp 8) ?_); refine zA zP (r := ct.row) HT.out.2 rfl rfl ct.one _ _ rfl rfl rfl rfl rfl ?_; intro W8 hv8 ho8; have HV8 := hd hv8; have HB8 := hd (zDl HT.out.1 ho8); have HV7 := hd (HV7.out.off ho8 (by omega)); clear hv8 ho8))
 have HS5 := hd (show St5 w c s o w3.heap.size (w3.heap.size + 1) ca ct W8 from ⟨HS.out.call HB8.out, HV7.out, HV8.out⟩)
 have HNA2 := hd (HNA.out.later HB8.out)
 have HSA2 := hd (HSA.out.later HB8.out)
 clear HS HNA HSA HV7 HV8 HT HB8
 obtain ⟨g7, hg7⟩ : ∃ g, w3.heap.size = g := ⟨_, rfl⟩
 rw [hg7] at HS5
 try rw [hg7]
 clear hg7
 go_upto_region 7 with (first
  | ((with_reducible refine kH (ty := 3) ?_); refine zE5 HS5.out.st.v5 (j := 0) (v := .int .i64 o.k) _ rfl (by kernel_rfl) rfl rfl Tryz.underlying3 rfl ?_)
  | fail)
 refine jO (S := fun W' => Below W8.heap.size W8 W') (z := fun _ => false) (by kernel_rfl) ?_
 have HSS := hd (show Below W8.heap.size W8 W8.drew from (Below.refl _ _).drew)
 refine zH (i := 0) (n := 19) (.int .i64 0) rfl (by kernel_rfl) (by kernel_rfl) (by kernel_rfl) (by kernel_rfl) (fun _ _ _ h => h) (by kernel_rfl) (fun W9 hW9 => ?_) HSS.out ?_
 ·go_simp
 simp only [Act.put, List.setIfInBounds_toArray]
 refine zH (i := 1) (n := 18) (.bool false) rfl (by kernel_rfl) (by kernel_rfl) (by kernel_rfl) (by kernel_rfl) (fun _ _ _ h => h) (by kernel_rfl) (fun W9 hW9 => ?_) HSS.out ?_
 ·go_simp
 simp only [Act.put]
 refine zH (i := 2) (n := 17) (.bool false) rfl (by kernel_rfl) (by kernel_rfl) (by kernel_rfl) (by kernel_rfl) (fun _ _ _ h => h) (by kernel_rfl) (fun W9 hW9 => ?_) HSS.out ?_
 ·go_simp
 simp only [Act.put]
 refine zBx (i := 3) (n := 16) rfl (by kernel_rfl) (by kernel_rfl) (by kernel_rfl) (by kernel_rfl) (fun _ _ _ h => h) (by kernel_rfl) HSS.out ?_
 simp only [Act.put]
 refine zBx (i := 4) (n := 15) rfl (by kernel_rfl) (by kernel_rfl) (by kernel_rfl) (by kernel_rfl) (fun _ _ _ h => h) (by kernel_rfl) HSS.out ?_
 simp only [Act.put]
 refine zBx (i := 5) (n := 14) rfl (by kernel_rfl) (by kernel_rfl) (by kernel_rfl) (by kernel_rfl) (fun _ _ _ h => h) (by kernel_rfl) HSS.out ?_
 simp only [Act.put]
 refine zH (i := 6) (n := 13) (.bool false) rfl (by kernel_rfl) (by kernel_rfl) (by kernel_rfl) (by kernel_rfl) (fun _ _ _ h => h) (by kernel_rfl) (fun W9 hW9 => ?_) HSS.out ?_
 ·go_simp
 simp only [Act.put]
 refine zH (i := 7) (n := 12) (.bool false) rfl (by kernel_rfl) (by kernel_rfl) (by kernel_rfl) (by kernel_rfl) (fun _ _ _ h => h) (by kernel_rfl) (fun W9 hW9 => ?_) HSS.out ?_
 ·go_simp
 simp only [Act.put]
 refine zH (i := 8) (n := 11) (.int .i64 0) rfl (by kernel_rfl) (by kernel_rfl) (by kernel_rfl) (by kernel_rfl) (fun _ _ _ h => h) (by kernel_rfl) (fun W9 hW9 => ?_) HSS.out ?_
 ·go_simp
 simp only [Act.put]
 refine zH (i := 9) (n := 10) (.bool true) rfl (by kernel_rfl) (by kernel_rfl) (by kernel_rfl) (by kernel_rfl) (fun _ _ _ h => h) (by kernel_rfl) (fun W9 hW9 => ?_) HSS.out ?_
 ·go_simp
 simp only [Act.put]
 refine zH (i := 10) (n := 9) (.bool true) rfl (by kernel_rfl) (by kernel_rfl) (by kernel_rfl) (by kernel_rfl) (fun _ _ _ h => h) (by kernel_rfl) (fun W9 hW9 => ?_) HSS.out ?_
 ·go_simp
 simp only [Act.put]
 refine zH (i := 11) (n := 8) (.agg ca.row) rfl (by kernel_rfl) (by kernel_rfl) (by kernel_rfl) (by kernel_rfl) (fun _ _ _ h => h) (by kernel_rfl) (fun W9 hW9 => ?_) HSS.out ?_
 ·exact zS zD (HS5.out.call hW9).v7 rfl _ rfl (by kernel_rfl)
 simp only [Act.put]
 refine zH (i := 13) (n := 7) (.agg c.row) rfl (by kernel_rfl) (by kernel_rfl) (by kernel_rfl) (by kernel_rfl) (fun _ _ _ h => h) (by kernel_rfl) (fun W9 hW9 => ?_) HSS.out ?_
 ·exact zS zD (HS5.out.call hW9).st.v3 rfl _ rfl (by kernel_rfl)
 simp only [Act.put]
 refine kJ (i := 12) (n := 6) (by kernel_rfl) rfl (fun K hK => ?_)
 rw [if_pos (by kernel_rfl)]
 go_simp
 go_at_call 31
 refine Calls.mono (zAa (HNA2.out.later HSS.out) HSX.out) ?_
 rintro e w9 ⟨rfl, b9⟩
 have HSS := hd (zI HSS.out b9)
 clear b9
 refine hK _ _ (fun _ => HSS.out) ?_
 clear hK K
 refine kJ (i := 14) (n := 5) (by kernel_rfl) rfl (fun K hK => ?_)
 rw [if_pos (by kernel_rfl)]
 go_simp
 go_at_call 31
 refine Calls.mono (zAa (HN.out.later ((HS5.out.call HSS.out).st.below)) HSN.out) ?_
 rintro e w9 ⟨rfl, b9⟩
 have HSS := hd (zI HSS.out b9)
 clear b9
 refine hK _ _ (fun _ => HSS.out) ?_
 clear hK K
 refine zH (i := 15) (n := 4) (.int .i64 X) rfl (by kernel_rfl) (by kernel_rfl) (by kernel_rfl) (by kernel_rfl) (fun _ _ _ h => h) (by kernel_rfl) (fun W9 hW9 => ?_) HSS.out ?_
 ·rw [HXX.out]; go_simp
 simp only [Act.put]
 refine zH (i := 16) (n := 3) (.bool true) rfl (by kernel_rfl) (by kernel_rfl) (by kernel_rfl) (by kernel_rfl) (fun _ _ _ h => h) (by kernel_rfl) (fun W9 hW9 => ?_) HSS.out ?_
 ·go_simp
 simp only [Act.put]
 refine zH (i := 17) (n := 2) (.bool true) rfl (by kernel_rfl) (by kernel_rfl) (by kernel_rfl) (by kernel_rfl) (fun _ _ _ h => h) (by kernel_rfl) (fun W9 hW9 => ?_) HSS.out ?_
 ·go_simp
 exact kO0
set_option maxRecDepth 100000 in
theorem kQ0 {w : World} {c : NC} {s : SC} {o : OC} {n x : NT} {sl tl : Sl} {a : OpP} (hn : kS w c n) (hs : zB1 w s sl) (ho : OkA w o a) (hf : zB8 n sl a = true) (hap : jL n sl a = ((x, tl), 0)) (hk : (o.k == 4) = false) (h19 : 1 <= a.k /\ a.k <= 8 /\ doO n a = (x, 0) ∨ a.k = 9 /\ x = n) (hsn : sizeT n <= 1000) (hsm : a.k = 1 -> sizeT a.n <= 1000) : Calls Tryz.prog 7 #[.agg c.row, .agg s.row, .agg o.row] w (jW w) := by
 have HAP := hd hap
 have HK4 := hd hk
 have HSN := hd hsn
 have HDO := hd (fun (w0 w : World) (v : Value) (F : Nat -> Prop) (hG : Gh w v (kQ4 n 0) F) (hF : ∀ q, F q -> w0.heap.size <= q /\ q < w.heap.size) (ho' : OkA w0 o a) (hw : Below w0.heap.size w0 w) => kRk hG hF ho' hw (jE hf hn ho).1.tiny hk h19 (kPr n 0) hsn hsm)
 have k4 := hk
 clear hap hk h19 hsn hsm
 have HN := hd hn
 have HSL := hd hs
 have HO := hd ho
 have HF := hd hf
 have HRD := hd (jE hf hn ho).1
 clear hn hs ho hf
 obtain ⟨W0, hW, hst⟩ := kN w c s o
 have HW := hd hW
 have HS := hd hst
 clear hW hst
 go_enter Tryz.func7, Tryz.ntmps7
 go_upto_region 1 with fail
 rw [HW.out]
 go_upto_region 6 with (first
  | ((with_reducible refine zC (ty := 26) (x := .tmp 3) ?_); refine zB zD HS.out.v3 rfl _ rfl rfl rfl ?_)
  | ((with_reducible refine zC (ty := 33) (x := .tmp 4) ?_); refine zB zP HS.out.v4 rfl _ rfl rfl rfl ?_)
  | ((with_reducible refine zC (ty := 35) (x := .tmp 5) ?_); refine zG HS.out.v5 _ rfl rfl rfl ?_)
  | (go_at_call 10; refine Calls.mono (jG _) ?_; rintro e w1 ⟨rfl, b9⟩; have HS := hd (HS.out.call b9); clear b9)
  | (go_at_call 11; refine Calls.mono (zAq (HN.out.later HS.out.below) (HSL.out.later HS.out.below) (HO.out.later HS.out.below) HF.out) ?_; rintro e w2 ⟨rfl, b9⟩; have HS := hd (HS.out.call b9); clear b9)
  | (go_at_call 13; refine Calls.mono (zA4 (HN.out.later HS.out.below) (HSL.out.later HS.out.below) (HO.out.later HS.out.below) HRD.out HAP.out) ?_; rintro e w3 ⟨ca, ct, rfl, hna, hsa, b9⟩; have HNA := hd hna; have HSA := hd hsa; have HS := hd (HS.out.call b9); clear b9 hna hsa; dsimp only)
  | ((with_reducible refine zF (ty := 26) (x := .tmp 7) ?_); refine zA zD (r := ca.row) (zDj w3) rfl rfl ca.one _ _ rfl rfl rfl rfl rfl ?_; intro W7 hv7 ho7; have HV7 := hd hv7; have HT := hd (zDk ho7); clear hv7 ho7)
  | ((with_reducible refine zF (ty := 33) (x := .tmp 8) ?_); refine zA zP (r := ct.row) HT.out.2 rfl rfl ct.one _ _ rfl rfl rfl rfl rfl ?_; intro W8 hv8 ho8; have HV8 := hd hv8; have HB8 := hd (zDl HT.out.1 ho8); have HV7 := hd (HV7.out.off ho8 (by omega)); clear hv8 ho8))
 have HS5 := hd (show St5 w c s o w3.heap.size (w3.heap.size + 1) ca ct W8 from ⟨HS.out.call HB8.out, HV7.out, HV8.out⟩)
 have HNA2 := hd (HNA.out.later HB8.out)
 have HSA2 := hd (HSA.out.later HB8.out)
 clear HS HNA HSA HV7 HV8 HT HB8
 obtain ⟨g7, hg7⟩ : ∃ g, w3.heap.size = g := ⟨_, rfl⟩
 rw [hg7] at HS5
 try rw [hg7]
 clear hg7
 have HSB := HS5
 obtain ⟨da, hna⟩ := HNA2.out
 have HND := hd hna
 clear hna
 go_wp2_with (first
  | ((with_reducible refine kH (ty := 3) ?_); refine zE5 HS5.out.st.v5 (j := 0) (v := .int .i64 o.k) _ rfl (by kernel_rfl) rfl rfl Tryz.underlying3 rfl ?_)
  | ((with_reducible refine zC (ty := 26) (x := .tmp 3) ?_); refine zB zD HS5.out.st.v3 rfl _ rfl rfl rfl ?_)
  | ((with_reducible refine zC (ty := 26) (x := .tmp 7) ?_); refine zB zD HS5.out.v7 rfl _ rfl rfl rfl ?_)
  | ((with_reducible refine zC (ty := 35) (x := .tmp 5) ?_); refine zG HS5.out.st.v5 _ rfl rfl rfl ?_)
  | (go_at_call 23; refine Calls.mono (kO8 (HN.out.later HS5.out.st.below) (Int.le_refl 0) (by have := HSN.out; omega)) ?_; rintro e w9 ⟨p, rfl, h1, h2⟩; have HP := hd h1; have HB9 := hd h2; have HO8 := hd (HO.out.later HS5.out.st.below); have HS5 := hd (HS5.out.call h2); clear h1 h2)
  | (go_at_call 24; obtain ⟨g2, hg2, hc2⟩ := HDO.out W8 w9 p _ HP.out (fun q h => h) HO8.out HB9.out; have HSH := hd hg2; refine Calls.mono hc2 ?_; clear hg2 hc2; rintro e w10 ⟨F2, rfl, h1, h2, h3⟩; have h4 := h3.below (B := W8.heap.size) HB9.out.size (fun q _ h => h.1); have h5 := h3.size; have HP2 := hd h1; have HF2 := hd (fun q (h : F2 q) => (show q < w10.heap.size from (h2 q h).elim (fun h => by omega) (fun h => h.2))); have HBA := hd (HB9.out.trans h4); have HS5 := hd (show St5 w c s o g7 (g7 + 1) ca ct w10 from HSB.out.call HBA.out); clear h1 h2 h3 h4 h5)
  | (go_at_call 32; refine Calls.mono (kQi da w10 _ _ g2 x F2 HP2.out HF2.out (HND.out.later HBA.out) HSH.out) ?_; rintro e w11 ⟨rfl, b9⟩; have HS5 := hd (HS5.out.call b9); clear b9)
  | fail)
 go_ret
 exact ⟨rfl, HS5.out.st.below⟩
theorem kQk {w : World} {c : NC} {s : SC} {o : OC} {n : NT} {sl : Sl} {a : OpP} (hn : kS w c n) (hs : zB1 w s sl) (ho : OkA w o a) : Calls Tryz.prog 7 #[.agg c.row, .agg s.row, .agg o.row] w (jW w) := by
 cases hf : zB8 n sl a
 ·exact kQ9 hn hs ho hf
 obtain ⟨hr, e1, e2⟩ := jE hf hn ho
 obtain ⟨⟨⟨x, tl⟩, er⟩, hap⟩ : ∃ r, jL n sl a = r := ⟨_, rfl⟩
 by_cases h0 : er = 0
 ·subst h0
  have hm := zPs hap hr e1 e2
  obtain ⟨g1, g2, g3, g4, g5⟩ := zH8 hap
  have hc := e1 (zC1 g1)
  have hkk := ho.hk
  have g6 : 1 <= a.k /\ a.k <= 8 /\ doO n a = (x, 0) ∨ a.k = 9 /\ x = n := by
   rcases g5 with ⟨e9, _, _, hx⟩ | ⟨k1, k8, hd, _, _⟩
   ·exact .inr ⟨e9, congrArg Prod.fst hx⟩
   ·exact .inl ⟨k1, k8, hd⟩
  by_cases h4 : a.k = 4
  ·rcases g6 with ⟨k1, k8, hd⟩ | ⟨e9, _⟩
   ·have hb := zMm hm.len k1 k8 hd
    rw [kHe h4] at hb
    exact kRb (X := sizeT x) (N0 := sizeT n) hn hs ho hf hap (by omega) (zGy _ (by omega) (by omega)) (zGy _ (by omega) (by omega)) (by omega) (by omega) (by omega)
   ·omega
  ·exact kQ0 hn hs ho hf hap (by rw [<- hkk]; simpa using h4) g6 (by omega) fun e => Nat.le_trans (hm.node e) (by omega)
 ·have hz := zJk (n := n) (s := sl) (o := a) (by rw [hap]; exact h0)
  rw [hap] at hz
  dsimp only at hz
  rw [hz] at hap
  exact kRa hn hs ho hf hap (by simpa using h0)
end Go.Proofs.YtmkciabefepelaaGreat
