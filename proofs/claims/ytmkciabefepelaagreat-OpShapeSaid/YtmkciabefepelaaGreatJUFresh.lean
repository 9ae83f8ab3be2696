/- op.fresh. -/
import Derived.Test.YtmkciabefepelaaGreatBFresh
import Derived.Test.YtmkciabefepelaaGreatJOForm
import Derived.Test.YtmkciabefepelaaGreatJHDoS
set_option maxRecDepth 100000
set_option maxHeartbeats 8000000
namespace Go.Proofs.YtmkciabefepelaaGreat
open Go.RowKit
theorem kN9 {P Q : Prop} (k : Q) (h : Q -> P := by
 intro kk
 simp only [Act.put, List.getElem_toArray, List.getElem_cons_succ, List.getElem_cons_zero, List.setIfInBounds_toArray, List.set_cons_succ, List.set_cons_zero]
 exact kk) : P := h k
set_option maxRecDepth 100000 in
theorem zPn {w : World} {si : Bool} {A B : Option Addr} {n c m d : Nat} {x y : Int} {s : Sl} (h : zIi w si A n c x B m d y s) (h1 : n <= 1000) (h2 : m <= 1000) :
  Calls Tryz.prog 44 #[.agg #[.bool si, .slice A n c, .int .i64 x, .slice B m d, .int .i64 y]] w (kMx w si n x m y s) := by
 obtain ⟨W0, hW⟩ : ∃ W0, (w.alloc (.cells #[.bool si, .slice A n c, .int .i64 x, .slice B m d, .int .i64 y] 33)).alloc (.cells #[.bool false, .slice none 0 0, .int .i64 0, .slice none 0 0, .int .i64 0] 33) = W0 := ⟨_, rfl⟩
 have hb0 : Below w.heap.size w W0 := hW ▸ kM (Below.refl _ _) (Nat.le_refl _)
 have e0 := zK2 w (Obj.cells #[.bool si, .slice A n c, .int .i64 x, .slice B m d, .int .i64 y] 33) (Obj.cells #[.bool false, .slice none 0 0, .int .i64 0, .slice none 0 0, .int .i64 0] 33)
 rw [hW] at e0
 have HV1 := hd (show zI2 W0 w.heap.size _ _ _ _ _ from e0.1)
 have HV2 := hd (show zI2 W0 (w.heap.size + 1) _ _ _ _ _ from e0.2)
 have HW := hd hW
 have HB := hd hb0
 have HH := hd h
 clear hW hb0 e0 h
 go_enter Tryz.func44, Tryz.ntmps44
 go_upto_region 1 with fail
 rw [HW.out]
 refine jO (S := fun W => zI2 W w.heap.size (.bool si) (.slice A n c) (.int .i64 x) (.slice B m d) (.int .i64 y)) (z := fun j => decide (10 <= j)) (by kernel_rfl) ?_
 have HSS := hd (show zI2 W0.drew w.heap.size (.bool si) (.slice A n c) (.int .i64 x) (.slice B m d) (.int .i64 y) from HV1.out)
 refine zH (i := 0) (n := 17) (.pointer (some ⟨w.heap.size, 1, none⟩)) rfl (by kernel_rfl) (by kernel_rfl) (by kernel_rfl) (by kernel_rfl) (fun _ _ _ h => h) (by rfl) (fun W hW => ?_) HSS.out ?_
 ·skip
  go_simp
 simp only [Act.put, List.setIfInBounds_toArray]
 refine zH (i := 1) (n := 16) (.pointer (some ⟨w.heap.size, 1, none⟩)) rfl (by kernel_rfl) (by kernel_rfl) (by kernel_rfl) (by kernel_rfl) (fun _ _ _ h => h) (by rfl) (fun W hW => ?_) HSS.out ?_
 ·skip
  go_simp
 simp only [Act.put]
 refine zH (i := 2) (n := 15) (.pointer (some ⟨w.heap.size, 1, none⟩)) rfl (by kernel_rfl) (by kernel_rfl) (by kernel_rfl) (by kernel_rfl) (fun _ _ _ h => h) (by rfl) (fun W hW => ?_) HSS.out ?_
 ·skip
  go_simp
 simp only [Act.put]
 refine zH (i := 3) (n := 14) (.slice A n c) rfl (by kernel_rfl) (by kernel_rfl) (by kernel_rfl) (by kernel_rfl) (fun _ _ _ h => h) (by rfl) (fun W hW => ?_) HSS.out ?_
 ·obtain ⟨_, y1, _, _, _⟩ := zI2.cells hW
  go_simp
 simp only [Act.put]
 refine zH (i := 5) (n := 13) (.pointer (some ⟨w.heap.size, 1, none⟩)) rfl (by kernel_rfl) (by kernel_rfl) (by kernel_rfl) (by kernel_rfl) (fun _ _ _ h => h) (by rfl) (fun W hW => ?_) HSS.out ?_
 ·skip
  go_simp
 simp only [Act.put]
 refine zH (i := 6) (n := 12) (.pointer (some ⟨w.heap.size, 3, none⟩)) rfl (by kernel_rfl) (by kernel_rfl) (by kernel_rfl) (by kernel_rfl) (fun _ _ _ h => h) (by rfl) (fun W hW => ?_) HSS.out ?_
 ·skip
  go_simp
 simp only [Act.put]
 refine zH (i := 7) (n := 11) (.pointer (some ⟨w.heap.size, 3, none⟩)) rfl (by kernel_rfl) (by kernel_rfl) (by kernel_rfl) (by kernel_rfl) (fun _ _ _ h => h) (by rfl) (fun W hW => ?_) HSS.out ?_
 ·skip
  go_simp
 simp only [Act.put]
 refine zH (i := 8) (n := 10) (.slice B m d) rfl (by kernel_rfl) (by kernel_rfl) (by kernel_rfl) (by kernel_rfl) (fun _ _ _ h => h) (by rfl) (fun W hW => ?_) HSS.out ?_
 ·obtain ⟨_, _, _, y3, _⟩ := zI2.cells hW
  go_simp
 simp only [Act.put]
 refine kJ (i := 4) (n := 9) (by kernel_rfl) rfl (fun K hK => ?_)
 rw [if_pos (by rfl)]
 go_simp
 go_at_call 88
 refine (zFz A s.a.1 n c _ HH.out.hn h1 ((HH.out.hA.later HB.out).later ((Below.refl _ _).drew))).mono ?_
 rintro e w5 ⟨A5, c5, rfl, hc5, hs5, hb5⟩
 have hbx : Below W0.heap.size W0 w5 := ((Below.refl _ _).drew).trans hb5
 have HSS := hd (HV1.out.keep hbx)
 refine hK _ _ (fun _ => HSS.out) ?_
 clear hK K
 refine zDd (i := 10) (n := 8) (.pointer (some ⟨w.heap.size, 1, none⟩)) rfl rfl (by kernel_rfl) (by kernel_rfl) (by kernel_rfl) (fun _ _ _ h => h) (by rfl) (fun W => ?_) ?_
 ·go_simp
 simp only [Act.put]
 refine zDd (i := 11) (n := 7) (.pointer (some ⟨w.heap.size, 1, none⟩)) rfl rfl (by kernel_rfl) (by kernel_rfl) (by kernel_rfl) (fun _ _ _ h => h) (by rfl) (fun W => ?_) ?_
 ·go_simp
 simp only [Act.put]
 refine zDd (i := 12) (n := 6) (.pointer (some ⟨w.heap.size, 1, none⟩)) rfl rfl (by kernel_rfl) (by kernel_rfl) (by kernel_rfl) (fun _ _ _ h => h) (by rfl) (fun W => ?_) ?_
 ·go_simp
 simp only [Act.put]
 refine kJ (i := 9) (n := 5) (by kernel_rfl) rfl (fun K hK => ?_)
 rw [if_pos (by rfl)]
 go_simp
 go_at_call 88
 refine (zFz B s.f.1 m d _ HH.out.hm h2 ((HH.out.hB.later HB.out).later hbx)).mono ?_
 rintro e w6 ⟨B6, d6, rfl, hd6, hs6, hb6⟩
 have hg1 := HV1.out.lt
 have hg2 := HV2.out.lt
 have hz5 := hbx.size
 have hz6 := hb6.size
 have HS5 := hd (((hs5.more (show W0.heap.size <= W0.drew.heap.size from Nat.le_refl _)).high (zA5.below hb6)))
 have HS6 := hd (hs6.more hz5)
 have HV1 := hd (HSS.out.keep hb6)
 have HV2 := hd ((HV2.out.keep hbx).keep hb6)
 have HB := hd (HB.out.trans ((hbx.trans (hb6.mono hz5)).mono HB.out.size))
 clear hb5 hs5 hs6
 refine hK _ _ (fun _ => HV1.out) ?_
 clear hK K HSS
 refine kJ (i := 13) (n := 4) (by kernel_rfl) rfl (fun K hK => ?_)
 rw [if_pos (by rfl)]
 refine zY zCa HV1.out _ _ rfl rfl 1 _ [.slice A5 n c5] rfl rfl rfl rfl (zHt rfl) (Nat.le_of_ble_eq_true rfl) ?_
 intro W7 hv7 ho7
 refine hK _ _ (fun h => absurd h (by decide)) ?_
 clear hK K
 refine zDd (i := 14) (n := 3) (.pointer (some ⟨w.heap.size, 1, none⟩)) rfl rfl (by kernel_rfl) (by kernel_rfl) (by kernel_rfl) (fun _ _ _ h => h) (by rfl) (fun W => ?_) ?_
 ·go_simp
 simp only [Act.put]
 refine zDd (i := 15) (n := 2) (.pointer (some ⟨w.heap.size, 3, none⟩)) rfl rfl (by kernel_rfl) (by kernel_rfl) (by kernel_rfl) (fun _ _ _ h => h) (by rfl) (fun W => ?_) ?_
 ·go_simp
 simp only [Act.put]
 refine zDd (i := 16) (n := 1) (.pointer (some ⟨w.heap.size, 3, none⟩)) rfl rfl (by kernel_rfl) (by kernel_rfl) (by kernel_rfl) (fun _ _ _ h => h) (by rfl) (fun W => ?_) ?_
 ·go_simp
 simp only [Act.put]
 refine kJ (i := 17) (n := 0) (by kernel_rfl) rfl (fun K hK => ?_)
 rw [if_pos (by rfl)]
 refine zY zCa hv7 _ _ rfl rfl 3 _ [.slice B6 m d6] rfl rfl rfl rfl (zHt rfl) (Nat.le_of_ble_eq_true rfl) ?_
 intro W8 hv8 ho8
 refine hK _ _ (fun h => absurd h (by decide)) (zAl (by kernel_rfl) ?_)
 clear hK K
 have HO := hd (ho7.trans ho8)
 have HV1 := hd (show zI2 W8 w.heap.size (.bool si) (.slice A5 n c5) (.int .i64 x) (.slice B6 m d6) (.int .i64 y) from hv8)
 have HV2 := hd (HV2.out.off HO.out (by omega))
 have HB := hd (zN HB.out HO.out (Nat.le_refl _))
 clear hv7 ho7 hv8 ho8
 go_wp2_with (first
  | ((with_reducible refine zC (ty := 33) ?_); refine zIm HV1.out _ rfl rfl rfl ?_)
  | ((with_reducible refine zF (ty := 33) (x := .tmp 2) ?_); refine zHc HV2.out _ _ rfl rfl rfl rfl rfl (by kernel_rfl) ?_; intro W9 hv9 ho9; have HV2 := hd hv9; have HO9 := hd ho9; clear hv9 ho9))
 have hh := HH.out
 have hlo : w.heap.size + 1 < W0.heap.size := by omega
 have hhi : zA5 W0.heap.size w6 W9 := (zA5.off HO.out (by omega)).trans (zA5.off HO9.out hlo)
 refine bodyPost_ret (zP6 Tryz.results44 _ _ HV2.out rfl) rfl ⟨A5, c5, B6, d6, rfl, fun W hoff => ?_, zN HB.out HO9.out (Nat.le_succ _)⟩
 have hx := hhi.trans (hoff.mono (by omega))
 exact ⟨hh.his, hh.hx, hh.hy, hh.hn, hh.hm, hc5, hd6, hh.hmn, hh.hmm, HS5.out W hx, HS6.out W hx⟩
theorem zKs {w : World} {s : SC} {sl : Sl} (h : zB1 w s sl) (h1 : s.n <= 1000) (h2 : s.m <= 1000) : Calls Tryz.prog 44 #[.agg s.row] w (fun e w' => ∃ t : SC, e = .returned (.agg t.row) /\ zH3 w.heap.size w' (fun W => zB1 W t sl) /\ Below w.heap.size w w') := by
 refine (zPn h h1 h2).mono ?_
 rintro e w' ⟨A, c, B, d, rfl, hs, hb⟩
 exact ⟨⟨s.is, A, s.n, c, s.x, B, s.m, d, s.y⟩, rfl, hs, hb⟩
theorem kOy {P : Prop} (h : P := by
 have HFF := hd hff
 try have HFG := hd hfg
 have H5 := hd h5
 try have H6 := hd h6
 have HN := hd hn
 have HSL := hd hs
 have HO := hd ho
 have HFS := hd hf
 have HTA := hd ta
 clear hn hs ho hf ta hff h5
 try clear hfg
 try clear h6
 obtain ⟨W0, hW, hst⟩ := zDs w c s o
 have HW := hd hW
 have HM := hd hst
 clear hW hst
 go_enter Tryz.func41, Tryz.ntmps41
 go_upto_region 1 with fail
 rw [HW.out]
 clear HW
 go_wp2_with (first
  | ((with_reducible refine zC (ty := 33) (x := .tmp 10) ?_); refine kR HM.out.st.v5 (j := 11) (vs := [.bool o.fi, .slice o.F1 o.f1 o.d1, .int .i64 o.fo, .slice o.F2 o.f2 o.d2, .int .i64 o.fp]) zD4 _ rfl rfl rfl (by kernel_rfl) ?_)
  | ((with_reducible refine zC (ty := 33) (x := .tmp 4) ?_); refine zB zP HM.out.st.v4 rfl _ rfl rfl rfl ?_)
  | ((with_reducible refine zC (ty := 33) (x := .tmp 18) ?_); refine kR HM.out.st.v5 (j := 16) (vs := [.bool o.gi, .slice o.G1 o.g1 o.e1, .int .i64 o.go, .slice o.G2 o.g2 o.e2, .int .i64 o.gp]) zD4 _ rfl rfl rfl (by kernel_rfl) ?_)
  | (go_at_call 20; refine Calls.mono (zH9 (c := o.from_) (zPq (HO.out.later HM.out.st.below)) (HSL.out.later HM.out.st.below) HFF.out HFS.out H5.out) ?_; rintro e w1 ⟨rfl, b9⟩; have HM := hd (HM.out.call b9); clear b9)
  | ((with_reducible refine zC (ty := 26) (x := .tmp 3) ?_); refine zB zD HM.out.st.v3 rfl _ rfl rfl rfl ?_)
  | (go_at_call 19; refine Calls.mono (zKk (d := o.into) (HN.out.later HM.out.st.below) (zLl (HO.out.later HM.out.st.below)) HFG.out H6.out) ?_; rintro e w2 ⟨rfl, b9⟩; have HM := hd (HM.out.call b9); clear b9)
  | ((with_reducible refine zF (ty := 26) (x := .tmp 6) ?_); refine zA zD (r0 := NC.nil.row) (r := NC.nil.row) HM.out.v7 rfl rfl NC.nil.one _ _ rfl rfl rfl rfl rfl ?_; intro W7 hv ho; have HM := hd (HM.out.set7 (a' := NC.nil) (by omega) (by omega) hv ho); clear hv ho)
  | ((with_reducible refine zF (ty := 33) (x := .tmp 7) ?_); refine zA zP (r0 := SC.nil.row) (r := SC.nil.row) HM.out.v8 rfl rfl SC.nil.one _ _ rfl rfl rfl rfl rfl ?_; intro W8 hv ho; have HM := hd (HM.out.set8 (t' := SC.nil) (by omega) (by omega) hv ho); clear hv ho)
  | fail)
 exact bodyPost_ret (zDt Tryz.results41 _ _ HM.out.v7 HM.out.v8 rfl rfl) rfl ⟨NC.nil, SC.nil, rfl, fun _ _ => zAb _, fun _ _ => zJ2 _, HM.out.st.below⟩) : P := h
set_option maxRecDepth 100000 in
theorem kAt {w : World} {c : NC} {s : SC} {o : OC} {n : NT} {sl : Sl} {a : OpP} (hn : kS w c n) (hs : zB1 w s sl) (ho : OkA w o a) (hf : fewS sl = true) (ta : zAf a) (hff : fewS a.f = true) (h5 : zF7 a.f sl = false) : Calls Tryz.prog 41 #[.agg c.row, .agg s.row, .agg o.row] w (zVb w ((zeroT, zeroS), 9)) := by
 exact kOy
set_option maxRecDepth 100000 in
theorem zW3 {w : World} {c : NC} {s : SC} {o : OC} {n : NT} {sl : Sl} {a : OpP} {E : Int} (hn : kS w c n) (hs : zB1 w s sl) (ho : OkA w o a) (hf : fewS sl = true) (ta : zAf a) (hff : fewS a.f = true) (hfg : fewS a.g = true) (h5 : zF7 a.f sl = true) (h6 : zE8 n a.g = E) (hne : (E != 0) = true) : Calls Tryz.prog 41 #[.agg c.row, .agg s.row, .agg o.row] w (zVb w ((zeroT, zeroS), E)) := by
 exact kOy
set_option maxRecDepth 100000 in
theorem zW4 {w : World} {c : NC} {s : SC} {o : OC} {n : NT} {sl : Sl} {a : OpP} (hn : kS w c n) (hs : zB1 w s sl) (ho : OkA w o a) (hf : fewS sl = true) (ta : zAf a) (hff : fewS a.f = true) (hfg : fewS a.g = true) (h5 : zF7 a.f sl = true) (h6 : zE8 n a.g = 0) (hl1 : o.g1 <= 1000) (hl2 : o.g2 <= 1000) : Calls Tryz.prog 41 #[.agg c.row, .agg s.row, .agg o.row] w (zVb w ((n, a.g), 0)) := by
 have HFF := hd hff
 have HL1 := hd hl1
 have HL2 := hd hl2
 clear hl1 hl2
 have HFG := hd hfg
 have H5 := hd h5
 have H6 := hd h6
 have HN := hd hn
 have HSL := hd hs
 have HO := hd ho
 have HFS := hd hf
 have HTA := hd ta
 clear hn hs ho hf ta hff hfg h5 h6
 obtain ⟨W0, hW, hst⟩ := zDs w c s o
 have HW := hd hW
 have HM := hd hst
 clear hW hst
 go_enter Tryz.func41, Tryz.ntmps41
 go_upto_region 1 with fail
 rw [HW.out]
 clear HW
 go_upto_region 6 with (first
  | ((with_reducible refine zC (ty := 33) (x := .tmp 10) ?_); refine kR HM.out.st.v5 (j := 11) (vs := [.bool o.fi, .slice o.F1 o.f1 o.d1, .int .i64 o.fo, .slice o.F2 o.f2 o.d2, .int .i64 o.fp]) zD4 _ rfl rfl rfl (by kernel_rfl) ?_)
  | ((with_reducible refine zC (ty := 33) (x := .tmp 4) ?_); refine zB zP HM.out.st.v4 rfl _ rfl rfl rfl ?_)
  | (go_at_call 20; refine Calls.mono (zH9 (c := o.from_) (zPq (HO.out.later HM.out.st.below)) (HSL.out.later HM.out.st.below) HFF.out HFS.out H5.out) ?_; rintro e w1 ⟨rfl, b9⟩; have HM := hd (HM.out.call b9); clear b9)
  | ((with_reducible refine zC (ty := 26) (x := .tmp 3) ?_); refine zB zD HM.out.st.v3 rfl _ rfl rfl rfl ?_)
  | ((with_reducible refine zC (ty := 33) (x := .tmp 18) ?_); refine kR HM.out.st.v5 (j := 16) (vs := [.bool o.gi, .slice o.G1 o.g1 o.e1, .int .i64 o.go, .slice o.G2 o.g2 o.e2, .int .i64 o.gp]) zD4 _ rfl rfl rfl (by kernel_rfl) ?_)
  | (go_at_call 19; refine Calls.mono (zKk (d := o.into) (HN.out.later HM.out.st.below) (zLl (HO.out.later HM.out.st.below)) HFG.out H6.out) ?_; rintro e w2 ⟨rfl, b9⟩; have HM := hd (HM.out.call b9); clear b9))
 have HM := hd (HM.out.call ((Below.refl _ _).drew))
 refine jO (S := fun W' => jT 26 W' w.heap.size c.row /\ jR W' (w.heap.size + 1 + 1) o) (z := fun _ => false) (by kernel_rfl) ?_
 have HSS := hd (And.intro HM.out.st.v3 HM.out.st.v5)
 refine zH (i := 0) (n := 7) (.agg c.row) rfl (by kernel_rfl) (by kernel_rfl) (by kernel_rfl) (by kernel_rfl) (fun _ _ _ h => h) (by kernel_rfl) (fun W9 hW9 => ?_) HSS.out ?_
 ·exact zS zD hW9.1 rfl _ rfl rfl
 simp only [Act.put, List.getElem_toArray, List.getElem_cons_zero, List.setIfInBounds_toArray, List.set_cons_succ, List.set_cons_zero]
 refine zH (i := 2) (n := 6) (.pointer (some ⟨w.heap.size + 1 + 1, 16, none⟩)) rfl (by kernel_rfl) (by kernel_rfl) (by kernel_rfl) (by kernel_rfl) (fun _ _ _ h => h) (by kernel_rfl) (fun W9 hW9 => ?_) HSS.out ?_
 ·go_simp
 refine kN9 ?_
 refine zH (i := 3) (n := 5) (.agg #[.bool o.gi, .slice o.G1 o.g1 o.e1, .int .i64 o.go, .slice o.G2 o.g2 o.e2, .int .i64 o.gp]) rfl (by kernel_rfl) (by kernel_rfl) (by kernel_rfl) (by kernel_rfl) (fun _ _ _ h => h) (by kernel_rfl) (fun W9 hW9 => ?_) HSS.out ?_
 ·exact zG3 (j := 16) (vs := [.bool o.gi, .slice o.G1 o.g1 o.e1, .int .i64 o.go, .slice o.G2 o.g2 o.e2, .int .i64 o.gp]) hW9.2.toR zD4 _ rfl rfl (by kernel_rfl)
 refine kN9 ?_
 refine kJ (i := 1) (n := 4) (by kernel_rfl) rfl (fun K hK => ?_)
 rw [if_pos (by kernel_rfl)]
 go_simp
 go_at_call 75
 refine (kH9 (HN.out.later HM.out.st.below)).mono ?_
 rintro e w3 ⟨cx, rfl, h1, b9⟩
 have hlo3 := HM.out.v8.lt
 have hs3 := HM.out.st.below.size
 have HX := hd h1
 have HM := hd (HM.out.call b9)
 clear b9 h1 HSS
 have HSS := hd (And.intro HM.out.st.v3 HM.out.st.v5)
 refine hK _ _ (fun _ => HSS.out) ?_
 clear hK K
 refine kJ (i := 4) (n := 3) (by kernel_rfl) rfl (fun K hK => ?_)
 rw [if_pos (by kernel_rfl)]
 go_simp
 go_at_call 44
 refine (zKs (s := o.into) (zLl (HO.out.later HM.out.st.below)) HL1.out HL2.out).mono ?_
 rintro e w4 ⟨sx, rfl, h1, b9⟩
 have hlo4 := HM.out.v8.lt
 have hs4 := HM.out.st.below.size
 have HS := hd h1
 have HX := hd (HX.out.call b9)
 have HM := hd (HM.out.call b9)
 clear b9 h1 HSS
 have HSS := hd (And.intro HM.out.st.v3 HM.out.st.v5)
 refine hK _ _ (fun _ => HSS.out) ?_
 clear hK K
 refine kJ (i := 5) (n := 2) (by kernel_rfl) rfl (fun K hK => ?_)
 rw [if_pos (by kernel_rfl)]
 refine zY zKq HM.out.v7 _ _ rfl rfl 0 _ [.bool cx.lf, .slice cx.P cx.np cx.pc, .slice cx.X cx.nt cx.tc, .slice cx.K cx.nk cx.kc] rfl rfl rfl rfl (by intro u hu; simp at hu; rcases hu with rfl | rfl | rfl | rfl <;> rfl) (Nat.le_of_ble_eq_true rfl) ?_
 intro W5 hv ho
 have HM := hd (HM.out.set7 (a' := cx) (by omega) (by omega) hv ho)
 have HX := hd (HX.out.off ho (by omega))
 have HS := hd (HS.out.off ho (by omega))
 clear hv ho
 have HSS := hd (And.intro HM.out.st.v3 HM.out.st.v5)
 refine hK _ _ (fun _ => HSS.out) ?_
 clear hK K
 refine kJ (i := 6) (n := 1) (by kernel_rfl) rfl (fun K hK => ?_)
 rw [if_pos (by kernel_rfl)]
 refine zY zJu HM.out.v8 _ _ rfl rfl 0 _ [.bool sx.is, .slice sx.A sx.n sx.c, .int .i64 sx.x, .slice sx.B sx.m sx.d, .int .i64 sx.y] rfl rfl rfl rfl (by intro u hu; simp at hu; rcases hu with rfl | rfl | rfl | rfl | rfl <;> rfl) (Nat.le_of_ble_eq_true rfl) ?_
 intro W6 hv ho
 have HM := hd (HM.out.set8 (t' := sx) (by omega) (by omega) hv ho)
 have HX := hd (HX.out.off ho (by omega))
 have HS := hd (HS.out.off ho (by omega))
 clear hv ho
 have HSS := hd (And.intro HM.out.st.v3 HM.out.st.v5)
 refine hK _ _ (fun _ => HSS.out) ?_
 clear hK K
 refine kJ (i := 7) (n := 0) (by kernel_rfl) rfl (fun K hK => ?_)
 rw [if_pos (by kernel_rfl)]
 go_simp
 refine hK _ _ (fun _ => HSS.out) (zAl (by kernel_rfl) ?_)
 clear hK K
 go_wp2_with fail
 exact bodyPost_ret (zDt Tryz.results41 _ _ HM.out.v7 HM.out.v8 rfl rfl) rfl ⟨cx, sx, rfl, HX.out.more (by omega), HS.out.more (by omega), HM.out.st.below⟩
end Go.Proofs.YtmkciabefepelaaGreat
