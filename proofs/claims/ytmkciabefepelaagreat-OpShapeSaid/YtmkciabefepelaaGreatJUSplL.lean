/- split, of a leaf. -/
import Derived.Test.YtmkciabefepelaaGreatJUTxt
set_option maxRecDepth 100000
set_option maxHeartbeats 8000000
namespace Go.Proofs.YtmkciabefepelaaGreat
open Go.RowKit
theorem kNh {P Q : Prop} (k : Q) (h : Q -> P := by
 intro kk
 simp only [Act.put, List.getElem_toArray, List.getElem_cons_succ, List.getElem_cons_zero, List.setIfInBounds_toArray, List.set_cons_succ, List.set_cons_zero]
 exact kk) : P := h k
theorem kQy {P : Prop} (h : P := by
 go_wp2_with (first
  | ((with_reducible refine zC (ty := 26) (x := .tmp 3) ?_); refine zB zD HM.out.v3 rfl _ rfl rfl rfl ?_)
  | ((with_reducible refine zC (ty := 26) (x := .tmp 5) ?_); refine zB zD HM.out.v5 rfl _ rfl rfl rfl ?_)
  | ((with_reducible refine zC (ty := 26) (x := .tmp 11) ?_); refine zB zD HV11.out rfl _ rfl rfl rfl ?_)
  | ((with_reducible refine zC (ty := 26) (x := .tmp 10) ?_); refine zB zD HV10.out rfl _ rfl rfl rfl ?_)
  | ((with_reducible refine zC (ty := 27) (x := .tmp 66) ?_); refine zE HM.out.v4 (j := 1) (v := .slice o.Q o.lq o.cq) _ rfl rfl rfl rfl Tryz.underlying27 rfl ?_)
  | (go_at_call 128; refine Calls.mono (zJ1 (HN.out.later HM.out.below) (zR6 (HMN.out.later HM.out.below) HLT.out HK.out) (zKt.later (HO.out.hasq HTA.out) HM.out.below) HPUT.out) ?_; rintro e w6 ⟨cp, rfl, hx, b9⟩; have HP := hd hx.now; have HV10 := hd (HV10.out.keep b9); have HQ2 := hd (HQ2.out.call b9); have HM := hd (HM.out.call b9); have hlt6 := HM.out.v6.lt; have hlv := HV10.out.lt; have hlq := HQ2.out.hi.size; clear b9 hx; dsimp only)
  | ((with_reducible refine zF (ty := 26) (x := .tmp 11) ?_); refine zA zD (r0 := NC.nil.row) (r := cp.row) (zAr w6).1 rfl rfl cp.one _ _ rfl rfl rfl rfl rfl ?_; intro W7 hv ho; have HV11 := hd hv; have HP := hd (HP.out.later2 (zAr w6).2 ho (Nat.le_refl _)); have HV10 := hd ((HV10.out.keep (zAr w6).2).off ho (by omega)); have HQ2 := hd ((HQ2.out.call (zAr w6).2).off ho (by omega)); have HM := hd ((HM.out.call (zAr w6).2).off (by omega) ho); clear hv ho)
  | ((with_reducible refine zF (ty := 26) (x := .tmp 6) ?_); refine zA zD (r0 := NC.nil.row) (r := cf.row) HM.out.v6 rfl rfl cf.one _ _ rfl rfl rfl rfl rfl ?_; intro WF hv ho; have HM := hd (HM.out.set6 (a' := cf) hv ho); have HX := hd (HX.out.off ho (by omega)); clear hv ho)
  | (go_at_call 84; refine Calls.mono (zOi HP.out (zR7 (HMN.out.later HM.out.below) (HO.out.later HM.out.below) HLT.out HK.out HD.out) HQ2.out.has HSZ.out HAD.out) ?_; rintro e wF ⟨cf, rfl, hx, b9⟩; have hlo := HM.out.v6.lt; have hsz := HM.out.below.size; have HX := hd hx; have HM := hd (HM.out.call b9); clear b9 hx; dsimp only)
  | fail)
 exact bodyPost_ret (kU Tryz.results82 _ _ HM.out.v6 rfl) rfl ⟨cf, rfl, HX.out.more (by omega), HM.out.below⟩) : P := h
theorem kPo {P : Prop} (h : P := by
 refine kNh ?_
 refine zH (i := 10) (n := 3) (.pointer (some ⟨w.heap.size + 1 + 1, 2, none⟩)) rfl (by kernel_rfl) (by kernel_rfl) (by kernel_rfl) (by kernel_rfl) (fun _ _ _ h => h) (by kernel_rfl) (fun W9 hW9 => ?_) HSS.out ?_
 ·go_simp
 refine kNh ?_
 refine kJ (i := 11) (n := 2) (by kernel_rfl) rfl (fun K hK => ?_)
 rw [if_pos (by kernel_rfl)]
 refine zY zFu HM.out.v5 _ _ rfl rfl 2 _ [.slice m.X k m.tc] rfl rfl rfl rfl (zHt rfl) (Nat.le_of_ble_eq_true rfl) ?_
 intro W5 hv ho
 have HM := hd (HM.out.set5 (a' := { m with nt := k }) hv ho)
 have HV10 := hd (HV10.out.off ho (by omega))
 have HQ2 := hd (HQ2.out.off ho (by omega))
 have HSS := hd HM.out.v4
 clear hv ho
 refine hK _ _ (fun _ => HSS.out) ?_
 clear hK K
 refine zH (i := 12) (n := 1) (.pointer (some ⟨g10, 2, none⟩)) rfl (by kernel_rfl) (by kernel_rfl) (by kernel_rfl) (by kernel_rfl) (fun _ _ _ h => h) (by kernel_rfl) (fun W9 hW9 => ?_) HSS.out ?_
 ·go_simp
 refine kNh ?_
 refine kJ (i := 13) (n := 0) (by kernel_rfl) rfl (fun K hK => ?_)
 rw [if_pos (by kernel_rfl)]
 refine zY zFu HV10.out _ _ rfl rfl 2 _ [.slice D (m.nt - k) (m.tc - k)] rfl rfl rfl rfl (zHt rfl) (Nat.le_of_ble_eq_true rfl) ?_
 intro W6 hv ho
 have HV10 := hd (show jT 26 W6 g10 (NC.row (⟨m.lf, o.W, o.nw, o.cw, D, m.nt - k, m.tc - k, none, 0, 0⟩ : NC)) from hv)
 have HM := hd (HM.out.off (by omega) ho)
 have HQ2 := hd (HQ2.out.off ho (by omega))
 clear hv ho
 refine hK _ _ (fun _ => HM.out.v4) (zAl (by kernel_rfl) ?_)
 clear hK K HSS
 exact kQy) : P := h
set_option maxRecDepth 100000 in
theorem zXn {w : World} {c : NC} {o : OC} {m : NC} {n mt : NT} {a : OpP} {E : Int} {k : Nat} {q2 : List Int} {y : NT} {r : NT × Int} (hn : kS w c n) (ho : OkA w o a) (ta : zAf a) (hm : kS w m mt) (hz : decide (o.z < 0) = false) (hzk : o.z = (k : Int)) (hk : k <= m.nt) (hln : zXd mt = E) (hov : decide (E < o.z) = false) (hnx : zBg a.q = (q2, 0)) (hin : InI q2) (hql : q2.length <= 1000) (hlf : m.lf = true) (hlt : mt.lf = true) (hput : zSe n a.q (jN mt k) = (y, 0)) (hsz : sizeT y <= 100000) (had : zGo y q2 (zA2 mt k a.w) = r) : Calls Tryz.prog 82 #[.agg c.row, .agg o.row, .agg m.row] w (zAm w r) := by
 have hmp := hm.parts.f
 obtain ⟨D, hD, hrunB0⟩ := zLb m.X m.nt m.tc k hk (by have := hmp.2.2.2.2.2.1; have := hm.parts.nt; omega)
 have hcap : k <= m.tc := by have := hmp.2.2.2.2.2.1; have := hm.parts.nt; omega
 have hrunA : ∀ W : World, (Instr.slice 23 (.slice m.X m.nt m.tc) none (some (.int .i64 o.z)) none).run Tryz.prog W = .ok (.slice m.X k m.tc) W := by rw [hzk]; exact zLc m.X m.nt m.tc k hcap
 have hrunB : ∀ W : World, (Instr.slice 23 (.slice m.X m.nt m.tc) (some (.int .i64 o.z)) none none).run Tryz.prog W = .ok (.slice D (m.nt - k) (m.tc - k)) W := by rw [hzk]; exact hrunB0
 have HD := hd hD
 have HK := hd hk
 have HRA := hd hrunA
 have HRB := hd hrunB
 clear hD hrunA hrunB hrunB0 hmp hzk hcap hk
 have HLN := hd hln
 have HNX := hd hnx
 have HIN := hd hin
 have HQL := hd hql
 have HLF := hd hlf
 have HLT := hd hlt
 have HPUT := hd hput
 have HSZ := hd hsz
 have HAD := hd had
 have HN := hd hn
 have HO := hd ho
 have HTA := hd ta
 have HMN := hd hm
 clear hn ho ta hm hln hnx hin hql hlf hlt hput hsz had
 obtain ⟨W0, hW, hst⟩ := jM w c o m
 have HW := hd hW
 have HM := hd hst
 clear hW hst
 go_enter Tryz.func82, Tryz.ntmps82
 go_upto_region 1 with fail
 rw [HW.out]
 clear HW
 have HM := hd (HM.out.call ((Below.refl _ _).drew))
 refine jO (S := fun W' => jT 26 W' (w.heap.size + 1 + 1) m.row /\ jR W' (w.heap.size + 1) o) (z := fun _ => false) (by kernel_rfl) ?_
 have HSS := hd (And.intro HM.out.v5 HM.out.v4)
 refine zH (i := 0) (n := 9) (.pointer (some ⟨w.heap.size + 1, 3, none⟩)) rfl (by kernel_rfl) (by kernel_rfl) (by kernel_rfl) (by kernel_rfl) (fun _ _ _ h => h) (by kernel_rfl) (fun W9 hW9 => ?_) HSS.out ?_
 ·go_simp
 simp only [Act.put, List.getElem_toArray, List.getElem_cons_zero, List.setIfInBounds_toArray, List.set_cons_succ, List.set_cons_zero]
 refine zH (i := 1) (n := 8) (.int .i64 o.z) rfl (by kernel_rfl) (by kernel_rfl) (by kernel_rfl) (by kernel_rfl) (fun _ _ _ h => h) (by kernel_rfl) (fun W9 hW9 => ?_) HSS.out ?_
 ·exact kV (j := 3) hW9.2.toR _ rfl rfl rfl Tryz.underlying3 rfl
 refine kNh ?_
 refine zH (i := 2) (n := 7) (.bool false) rfl (by kernel_rfl) (by kernel_rfl) (by kernel_rfl) (by kernel_rfl) (fun _ _ _ h => h) (by kernel_rfl) (fun W9 hW9 => ?_) HSS.out ?_
 ·go_simp
 refine kNh ?_
 refine zH (i := 3) (n := 6) (.bool false) rfl (by kernel_rfl) (by kernel_rfl) (by kernel_rfl) (by kernel_rfl) (fun _ _ _ h => h) (by kernel_rfl) (fun W9 hW9 => ?_) HSS.out ?_
 ·go_simp
 refine kNh ?_
 refine zH (i := 4) (n := 5) (.pointer (some ⟨w.heap.size + 1, 3, none⟩)) rfl (by kernel_rfl) (by kernel_rfl) (by kernel_rfl) (by kernel_rfl) (fun _ _ _ h => h) (by kernel_rfl) (fun W9 hW9 => ?_) HSS.out ?_
 ·go_simp
 refine kNh ?_
 refine zH (i := 5) (n := 4) (.int .i64 o.z) rfl (by kernel_rfl) (by kernel_rfl) (by kernel_rfl) (by kernel_rfl) (fun _ _ _ h => h) (by kernel_rfl) (fun W9 hW9 => ?_) HSS.out ?_
 ·exact kV (j := 3) hW9.2.toR _ rfl rfl rfl Tryz.underlying3 rfl
 refine kNh ?_
 refine zH (i := 6) (n := 3) (.agg m.row) rfl (by kernel_rfl) (by kernel_rfl) (by kernel_rfl) (by kernel_rfl) (fun _ _ _ h => h) (by kernel_rfl) (fun W9 hW9 => ?_) HSS.out ?_
 ·exact zS zD hW9.1 rfl _ rfl rfl
 refine kNh ?_
 refine kJ (i := 7) (n := 2) (by kernel_rfl) rfl (fun K hK => ?_)
 rw [if_pos (by kernel_rfl)]
 go_simp
 go_at_call 127
 refine (zDu (c := m) (HMN.out.later HM.out.below) HLN.out).mono ?_
 rintro e w1 ⟨rfl, b9⟩
 have HM := hd (HM.out.call b9)
 clear b9 HSS
 have HSS := hd (And.intro HM.out.v5 HM.out.v4)
 refine hK _ _ (fun _ => HSS.out) ?_
 clear hK K
 refine zH (i := 8) (n := 1) (.bool false) rfl (by kernel_rfl) (by kernel_rfl) (by kernel_rfl) (by kernel_rfl) (fun _ _ _ h => h) (by kernel_rfl) (fun W9 hW9 => ?_) HSS.out ?_
 ·go_simp
 refine kNh ?_
 refine kJ (i := 9) (n := 0) (by kernel_rfl) rfl (fun K hK => ?_)
 rw [if_pos (by kernel_rfl)]
 go_simp
 refine hK _ _ (fun _ => HSS.out) (zAl (by kernel_rfl) ?_)
 clear hK K HSS
 go_upto_region 8 with (first
  | ((with_reducible refine zC (ty := 27) (x := .tmp 24) ?_); refine zE HM.out.v4 (j := 1) (v := .slice o.Q o.lq o.cq) _ rfl rfl rfl rfl Tryz.underlying27 rfl ?_)
  | (go_at_call 118; refine Calls.mono (kE7 (HO.out.later HM.out.below) HTA.out HNX.out) ?_; rintro e w2 ⟨A2, l2, c2, rfl, hl2, hc2, hi2, b9⟩; have HQ2 := hd (show Pth _ w2 A2 l2 c2 q2 w2 from ⟨hl2, by have h5 := HQL.out; have h6 : q2.length = l2 := hl2; omega, hc2, HIN.out, hi2, zA5.refl _ _⟩); have hlo2 := HM.out.v6.lt; have HM := hd (HM.out.call b9); have hlt2 := HM.out.v6.lt; clear b9 hl2 hc2 hi2; dsimp only)
  | ((with_reducible refine zC (ty := 4) (x := .tmp 33) ?_); refine zM HM.out.v5 (j := 0) (v := .bool m.lf) _ rfl rfl rfl rfl Tryz.underlying4 rfl ?_)
  | ((with_reducible refine zC (ty := 22) (x := .tmp 35) ?_); refine zE HM.out.v4 (j := 9) (v := .slice o.W o.nw o.cw) _ rfl rfl rfl rfl Tryz.underlying22 rfl ?_)
  | ((with_reducible refine zF (ty := 26) (x := .tmp 10) ?_); refine zA zD (r0 := NC.nil.row) (r := (⟨m.lf, o.W, o.nw, o.cw, none, 0, 0, none, 0, 0⟩ : NC).row) (zAr w2).1 rfl rfl (⟨m.lf, o.W, o.nw, o.cw, none, 0, 0, none, 0, 0⟩ : NC).one _ _ rfl rfl rfl rfl rfl ?_; intro W3 hv ho; have HV10 := hd hv; have HQ2 := hd ((HQ2.out.call (zAr w2).2).off ho (by omega)); have HM := hd ((HM.out.call (zAr w2).2).off (by omega) ho); clear hv ho)
  | ((with_reducible refine zC (ty := 4) (x := .tmp 38) ?_); refine zM HM.out.v5 (j := 0) (v := .bool true) _ rfl rfl rfl (by simp only [NC.row, HLF.out]; rfl) Tryz.underlying4 rfl ?_))
 obtain ⟨g10, hg10⟩ : ∃ g, w2.heap.size = g := ⟨_, rfl⟩
 have hg10le : w2.heap.size <= g10 := by omega
 rw [hg10] at HV10
 try rw [hg10]
 clear hg10
 have HM := hd (HM.out.call ((Below.refl _ _).drew))
 have HV10 := hd (HV10.out.keep ((Below.refl _ _).drew))
 have HQ2 := hd (HQ2.out.call ((Below.refl _ _).drew))
 refine jO (S := fun W' => jR W' (w.heap.size + 1) o) (z := fun _ => false) (by kernel_rfl) ?_
 have HSS := hd HM.out.v4
 refine zH (i := 0) (n := 13) (.pointer (some ⟨w.heap.size + 1 + 1, 2, none⟩)) rfl (by kernel_rfl) (by kernel_rfl) (by kernel_rfl) (by kernel_rfl) (fun _ _ _ h => h) (by kernel_rfl) (fun W9 hW9 => ?_) HSS.out ?_
 ·go_simp
 simp only [Act.put, List.getElem_toArray, List.getElem_cons_zero, List.setIfInBounds_toArray, List.set_cons_succ, List.set_cons_zero]
 refine zH (i := 2) (n := 12) (.pointer (some ⟨w.heap.size + 1, 3, none⟩)) rfl (by kernel_rfl) (by kernel_rfl) (by kernel_rfl) (by kernel_rfl) (fun _ _ _ h => h) (by kernel_rfl) (fun W9 hW9 => ?_) HSS.out ?_
 ·go_simp
 refine kNh ?_
 refine zH (i := 3) (n := 11) (.int .i64 o.z) rfl (by kernel_rfl) (by kernel_rfl) (by kernel_rfl) (by kernel_rfl) (fun _ _ _ h => h) (by kernel_rfl) (fun W9 hW9 => ?_) HSS.out ?_
 ·exact kV (j := 3) hW9.toR _ rfl rfl rfl Tryz.underlying3 rfl
 refine kNh ?_
 refine zH (i := 5) (n := 10) (.pointer (some ⟨w.heap.size + 1 + 1, 2, none⟩)) rfl (by kernel_rfl) (by kernel_rfl) (by kernel_rfl) (by kernel_rfl) (fun _ _ _ h => h) (by kernel_rfl) (fun W9 hW9 => ?_) HSS.out ?_
 ·go_simp
 refine kNh ?_
 refine zH (i := 7) (n := 9) (.pointer (some ⟨w.heap.size + 1, 3, none⟩)) rfl (by kernel_rfl) (by kernel_rfl) (by kernel_rfl) (by kernel_rfl) (fun _ _ _ h => h) (by kernel_rfl) (fun W9 hW9 => ?_) HSS.out ?_
 ·go_simp
 refine kNh ?_
 refine zH (i := 8) (n := 8) (.int .i64 o.z) rfl (by kernel_rfl) (by kernel_rfl) (by kernel_rfl) (by kernel_rfl) (fun _ _ _ h => h) (by kernel_rfl) (fun W9 hW9 => ?_) HSS.out ?_
 ·exact kV (j := 3) hW9.toR _ rfl rfl rfl Tryz.underlying3 rfl
 refine kNh ?_
 refine kB9 (i := 1) (j := 6) (n := 7) (by kernel_rfl) rfl rfl (fun K hK => ?_) (fun K hK => ?_)
 ·rw [if_pos (by kernel_rfl)]
  refine zB6 (j := 2) (HM.out.v5.cell 2 (.slice m.X m.nt m.tc) rfl) _ rfl rfl Tryz.underlying23 rfl ?_
  refine kNh ?_
  refine hK _ _ (fun _ => HSS.out) ?_
  clear hK K
  refine zH (i := 4) (n := 6) (.slice m.X k m.tc) rfl (by kernel_rfl) (by kernel_rfl) (by kernel_rfl) (by kernel_rfl) (fun _ _ _ h => h) (by kernel_rfl) (fun W9 hW9 => ?_) HSS.out ?_
  ·have hrunA := HRA.out; go_simp
  refine kNh ?_
  refine kJ (i := 6) (n := 5) (by kernel_rfl) rfl (fun K hK => ?_)
  rw [if_pos (by kernel_rfl)]
  refine zB6 (j := 2) (HM.out.v5.cell 2 (.slice m.X m.nt m.tc) rfl) _ rfl rfl Tryz.underlying23 rfl ?_
  refine kNh ?_
  refine hK _ _ (fun _ => HSS.out) ?_
  clear hK K
  refine zH (i := 9) (n := 4) (.slice D (m.nt - k) (m.tc - k)) rfl (by kernel_rfl) (by kernel_rfl) (by kernel_rfl) (by kernel_rfl) (fun _ _ _ h => h) (by kernel_rfl) (fun W9 hW9 => ?_) HSS.out ?_
  ·have hrunB := HRB.out; go_simp
  exact kPo
 ·rw [if_pos (by kernel_rfl)]
  refine zB6 (j := 2) (HM.out.v5.cell 2 (.slice m.X m.nt m.tc) rfl) _ rfl rfl Tryz.underlying23 rfl ?_
  refine kNh ?_
  refine hK _ _ (fun _ => HSS.out) ?_
  clear hK K
  refine zH (i := 9) (n := 6) (.slice D (m.nt - k) (m.tc - k)) rfl (by kernel_rfl) (by kernel_rfl) (by kernel_rfl) (by kernel_rfl) (fun _ _ _ h => h) (by kernel_rfl) (fun W9 hW9 => ?_) HSS.out ?_
  ·have hrunB := HRB.out; go_simp
  refine kNh ?_
  refine kJ (i := 1) (n := 5) (by kernel_rfl) rfl (fun K hK => ?_)
  rw [if_pos (by kernel_rfl)]
  refine zB6 (j := 2) (HM.out.v5.cell 2 (.slice m.X m.nt m.tc) rfl) _ rfl rfl Tryz.underlying23 rfl ?_
  refine kNh ?_
  refine hK _ _ (fun _ => HSS.out) ?_
  clear hK K
  refine zH (i := 4) (n := 4) (.slice m.X k m.tc) rfl (by kernel_rfl) (by kernel_rfl) (by kernel_rfl) (by kernel_rfl) (fun _ _ _ h => h) (by kernel_rfl) (fun W9 hW9 => ?_) HSS.out ?_
  ·have hrunA := HRA.out; go_simp
  exact kPo
theorem kQz {P : Prop} (h : P := by
 go_wp2_with (first
  | ((with_reducible refine zC (ty := 26) (x := .tmp 3) ?_); refine zB zD HM.out.v3 rfl _ rfl rfl rfl ?_)
  | ((with_reducible refine zC (ty := 26) (x := .tmp 5) ?_); refine zB zD HM.out.v5 rfl _ rfl rfl rfl ?_)
  | ((with_reducible refine zC (ty := 26) (x := .tmp 11) ?_); refine zB zD HV11.out rfl _ rfl rfl rfl ?_)
  | ((with_reducible refine zC (ty := 26) (x := .tmp 10) ?_); refine zB zD HV10.out rfl _ rfl rfl rfl ?_)
  | ((with_reducible refine zC (ty := 27) (x := .tmp 66) ?_); refine zE HM.out.v4 (j := 1) (v := .slice o.Q o.lq o.cq) _ rfl rfl rfl rfl Tryz.underlying27 rfl ?_)
  | (go_at_call 128; refine Calls.mono (zJ1 (HN.out.later HM.out.below) (kA6 (HMN.out.later HM.out.below) HLT.out HK.out) (zKt.later (HO.out.hasq HTA.out) HM.out.below) HPUT.out) ?_; rintro e w6 ⟨cp, rfl, hx, b9⟩; have HP := hd hx.now; have HV10 := hd (HV10.out.keep b9); have HQ2 := hd (HQ2.out.call b9); have HM := hd (HM.out.call b9); have hlt6 := HM.out.v6.lt; have hlv := HV10.out.lt; have hlq := HQ2.out.hi.size; clear b9 hx; dsimp only)
  | ((with_reducible refine zF (ty := 26) (x := .tmp 11) ?_); refine zA zD (r0 := NC.nil.row) (r := cp.row) (zAr w6).1 rfl rfl cp.one _ _ rfl rfl rfl rfl rfl ?_; intro W7 hv ho; have HV11 := hd hv; have HP := hd (HP.out.later2 (zAr w6).2 ho (Nat.le_refl _)); have HV10 := hd ((HV10.out.keep (zAr w6).2).off ho (by omega)); have HQ2 := hd ((HQ2.out.call (zAr w6).2).off ho (by omega)); have HM := hd ((HM.out.call (zAr w6).2).off (by omega) ho); clear hv ho)
  | ((with_reducible refine zF (ty := 26) (x := .tmp 6) ?_); refine zA zD (r0 := NC.nil.row) (r := cf.row) HM.out.v6 rfl rfl cf.one _ _ rfl rfl rfl rfl rfl ?_; intro WF hv ho; have HM := hd (HM.out.set6 (a' := cf) hv ho); have HX := hd (HX.out.off ho (by omega)); clear hv ho)
  | (go_at_call 84; refine Calls.mono (zOi HP.out (kA7 (HMN.out.later HM.out.below) (HO.out.later HM.out.below) HLT.out HK.out HD.out) HQ2.out.has HSZ.out HAD.out) ?_; rintro e wF ⟨cf, rfl, hx, b9⟩; have hlo := HM.out.v6.lt; have hsz := HM.out.below.size; have HX := hd hx; have HM := hd (HM.out.call b9); clear b9 hx; dsimp only)
  | fail)
 exact bodyPost_ret (kU Tryz.results82 _ _ HM.out.v6 rfl) rfl ⟨cf, rfl, HX.out.more (by omega), HM.out.below⟩) : P := h
theorem kPp {P : Prop} (h : P := by
 refine kNh ?_
 refine zH (i := 10) (n := 3) (.pointer (some ⟨w.heap.size + 1 + 1, 3, none⟩)) rfl (by kernel_rfl) (by kernel_rfl) (by kernel_rfl) (by kernel_rfl) (fun _ _ _ h => h) (by kernel_rfl) (fun W9 hW9 => ?_) HSS.out ?_
 ·go_simp
 refine kNh ?_
 refine kJ (i := 11) (n := 2) (by kernel_rfl) rfl (fun K hK => ?_)
 rw [if_pos (by kernel_rfl)]
 refine zY zKu HM.out.v5 _ _ rfl rfl 3 _ [.slice m.K k m.kc] rfl rfl rfl rfl (zHt rfl) (Nat.le_of_ble_eq_true rfl) ?_
 intro W5 hv ho
 have HM := hd (HM.out.set5 (a' := { m with nk := k }) hv ho)
 have HV10 := hd (HV10.out.off ho (by omega))
 have HQ2 := hd (HQ2.out.off ho (by omega))
 have HSS := hd HM.out.v4
 clear hv ho
 refine hK _ _ (fun _ => HSS.out) ?_
 clear hK K
 refine zH (i := 12) (n := 1) (.pointer (some ⟨g10, 3, none⟩)) rfl (by kernel_rfl) (by kernel_rfl) (by kernel_rfl) (by kernel_rfl) (fun _ _ _ h => h) (by kernel_rfl) (fun W9 hW9 => ?_) HSS.out ?_
 ·go_simp
 refine kNh ?_
 refine kJ (i := 13) (n := 0) (by kernel_rfl) rfl (fun K hK => ?_)
 rw [if_pos (by kernel_rfl)]
 refine zY zKu HV10.out _ _ rfl rfl 3 _ [.slice D (m.nk - k) (m.kc - k)] rfl rfl rfl rfl (zHt rfl) (Nat.le_of_ble_eq_true rfl) ?_
 intro W6 hv ho
 have HV10 := hd (show jT 26 W6 g10 (NC.row (⟨m.lf, o.W, o.nw, o.cw, none, 0, 0, D, m.nk - k, m.kc - k⟩ : NC)) from hv)
 have HM := hd (HM.out.off (by omega) ho)
 have HQ2 := hd (HQ2.out.off ho (by omega))
 clear hv ho
 refine hK _ _ (fun _ => HM.out.v4) (zAl (by kernel_rfl) ?_)
 clear hK K HSS
 exact kQz) : P := h
set_option maxRecDepth 100000 in
theorem kEl {w : World} {c : NC} {o : OC} {m : NC} {n mt : NT} {a : OpP} {E : Int} {k : Nat} {q2 : List Int} {y : NT} {r : NT × Int} (hn : kS w c n) (ho : OkA w o a) (ta : zAf a) (hm : kS w m mt) (hz : decide (o.z < 0) = false) (hzk : o.z = (k : Int)) (hk : k <= m.nk) (hln : zXd mt = E) (hov : decide (E < o.z) = false) (hnx : zBg a.q = (q2, 0)) (hin : InI q2) (hql : q2.length <= 1000) (hlf : m.lf = false) (hlt : mt.lf = false) (hput : zSe n a.q (jN mt k) = (y, 0)) (hsz : sizeT y <= 100000) (had : zGo y q2 (zA2 mt k a.w) = r) : Calls Tryz.prog 82 #[.agg c.row, .agg o.row, .agg m.row] w (zAm w r) := by
 have hmp := hm.parts.f
 obtain ⟨D, hD, hrunB0⟩ := zVa m.K m.nk m.kc k hk (by have := hmp.2.2.2.2.2.2; have := hm.parts.nk; omega)
 have hcap : k <= m.kc := by have := hmp.2.2.2.2.2.2; have := hm.parts.nk; omega
 have hrunA : ∀ W : World, (Instr.slice 24 (.slice m.K m.nk m.kc) none (some (.int .i64 o.z)) none).run Tryz.prog W = .ok (.slice m.K k m.kc) W := by rw [hzk]; exact zRw m.K m.nk m.kc k hcap
 have hrunB : ∀ W : World, (Instr.slice 24 (.slice m.K m.nk m.kc) (some (.int .i64 o.z)) none none).run Tryz.prog W = .ok (.slice D (m.nk - k) (m.kc - k)) W := by rw [hzk]; exact hrunB0
 have HD := hd hD
 have HK := hd hk
 have HRA := hd hrunA
 have HRB := hd hrunB
 clear hD hrunA hrunB hrunB0 hmp hzk hcap hk
 have HLN := hd hln
 have HNX := hd hnx
 have HIN := hd hin
 have HQL := hd hql
 have HLF := hd hlf
 have HLT := hd hlt
 have HPUT := hd hput
 have HSZ := hd hsz
 have HAD := hd had
 have HN := hd hn
 have HO := hd ho
 have HTA := hd ta
 have HMN := hd hm
 clear hn ho ta hm hln hnx hin hql hlf hlt hput hsz had
 obtain ⟨W0, hW, hst⟩ := jM w c o m
 have HW := hd hW
 have HM := hd hst
 clear hW hst
 go_enter Tryz.func82, Tryz.ntmps82
 go_upto_region 1 with fail
 rw [HW.out]
 clear HW
 have HM := hd (HM.out.call ((Below.refl _ _).drew))
 refine jO (S := fun W' => jT 26 W' (w.heap.size + 1 + 1) m.row /\ jR W' (w.heap.size + 1) o) (z := fun _ => false) (by kernel_rfl) ?_
 have HSS := hd (And.intro HM.out.v5 HM.out.v4)
 refine zH (i := 0) (n := 9) (.pointer (some ⟨w.heap.size + 1, 3, none⟩)) rfl (by kernel_rfl) (by kernel_rfl) (by kernel_rfl) (by kernel_rfl) (fun _ _ _ h => h) (by kernel_rfl) (fun W9 hW9 => ?_) HSS.out ?_
 ·go_simp
 simp only [Act.put, List.getElem_toArray, List.getElem_cons_zero, List.setIfInBounds_toArray, List.set_cons_succ, List.set_cons_zero]
 refine zH (i := 1) (n := 8) (.int .i64 o.z) rfl (by kernel_rfl) (by kernel_rfl) (by kernel_rfl) (by kernel_rfl) (fun _ _ _ h => h) (by kernel_rfl) (fun W9 hW9 => ?_) HSS.out ?_
 ·exact kV (j := 3) hW9.2.toR _ rfl rfl rfl Tryz.underlying3 rfl
 refine kNh ?_
 refine zH (i := 2) (n := 7) (.bool false) rfl (by kernel_rfl) (by kernel_rfl) (by kernel_rfl) (by kernel_rfl) (fun _ _ _ h => h) (by kernel_rfl) (fun W9 hW9 => ?_) HSS.out ?_
 ·go_simp
 refine kNh ?_
 refine zH (i := 3) (n := 6) (.bool false) rfl (by kernel_rfl) (by kernel_rfl) (by kernel_rfl) (by kernel_rfl) (fun _ _ _ h => h) (by kernel_rfl) (fun W9 hW9 => ?_) HSS.out ?_
 ·go_simp
 refine kNh ?_
 refine zH (i := 4) (n := 5) (.pointer (some ⟨w.heap.size + 1, 3, none⟩)) rfl (by kernel_rfl) (by kernel_rfl) (by kernel_rfl) (by kernel_rfl) (fun _ _ _ h => h) (by kernel_rfl) (fun W9 hW9 => ?_) HSS.out ?_
 ·go_simp
 refine kNh ?_
 refine zH (i := 5) (n := 4) (.int .i64 o.z) rfl (by kernel_rfl) (by kernel_rfl) (by kernel_rfl) (by kernel_rfl) (fun _ _ _ h => h) (by kernel_rfl) (fun W9 hW9 => ?_) HSS.out ?_
 ·exact kV (j := 3) hW9.2.toR _ rfl rfl rfl Tryz.underlying3 rfl
 refine kNh ?_
 refine zH (i := 6) (n := 3) (.agg m.row) rfl (by kernel_rfl) (by kernel_rfl) (by kernel_rfl) (by kernel_rfl) (fun _ _ _ h => h) (by kernel_rfl) (fun W9 hW9 => ?_) HSS.out ?_
 ·exact zS zD hW9.1 rfl _ rfl rfl
 refine kNh ?_
 refine kJ (i := 7) (n := 2) (by kernel_rfl) rfl (fun K hK => ?_)
 rw [if_pos (by kernel_rfl)]
 go_simp
 go_at_call 127
 refine (zDu (c := m) (HMN.out.later HM.out.below) HLN.out).mono ?_
 rintro e w1 ⟨rfl, b9⟩
 have HM := hd (HM.out.call b9)
 clear b9 HSS
 have HSS := hd (And.intro HM.out.v5 HM.out.v4)
 refine hK _ _ (fun _ => HSS.out) ?_
 clear hK K
 refine zH (i := 8) (n := 1) (.bool false) rfl (by kernel_rfl) (by kernel_rfl) (by kernel_rfl) (by kernel_rfl) (fun _ _ _ h => h) (by kernel_rfl) (fun W9 hW9 => ?_) HSS.out ?_
 ·go_simp
 refine kNh ?_
 refine kJ (i := 9) (n := 0) (by kernel_rfl) rfl (fun K hK => ?_)
 rw [if_pos (by kernel_rfl)]
 go_simp
 refine hK _ _ (fun _ => HSS.out) (zAl (by kernel_rfl) ?_)
 clear hK K HSS
 go_upto_region 9 with (first
  | ((with_reducible refine zC (ty := 27) (x := .tmp 24) ?_); refine zE HM.out.v4 (j := 1) (v := .slice o.Q o.lq o.cq) _ rfl rfl rfl rfl Tryz.underlying27 rfl ?_)
  | (go_at_call 118; refine Calls.mono (kE7 (HO.out.later HM.out.below) HTA.out HNX.out) ?_; rintro e w2 ⟨A2, l2, c2, rfl, hl2, hc2, hi2, b9⟩; have HQ2 := hd (show Pth _ w2 A2 l2 c2 q2 w2 from ⟨hl2, by have h5 := HQL.out; have h6 : q2.length = l2 := hl2; omega, hc2, HIN.out, hi2, zA5.refl _ _⟩); have hlo2 := HM.out.v6.lt; have HM := hd (HM.out.call b9); have hlt2 := HM.out.v6.lt; clear b9 hl2 hc2 hi2; dsimp only)
  | ((with_reducible refine zC (ty := 4) (x := .tmp 33) ?_); refine zM HM.out.v5 (j := 0) (v := .bool m.lf) _ rfl rfl rfl rfl Tryz.underlying4 rfl ?_)
  | ((with_reducible refine zC (ty := 22) (x := .tmp 35) ?_); refine zE HM.out.v4 (j := 9) (v := .slice o.W o.nw o.cw) _ rfl rfl rfl rfl Tryz.underlying22 rfl ?_)
  | ((with_reducible refine zF (ty := 26) (x := .tmp 10) ?_); refine zA zD (r0 := NC.nil.row) (r := (⟨m.lf, o.W, o.nw, o.cw, none, 0, 0, none, 0, 0⟩ : NC).row) (zAr w2).1 rfl rfl (⟨m.lf, o.W, o.nw, o.cw, none, 0, 0, none, 0, 0⟩ : NC).one _ _ rfl rfl rfl rfl rfl ?_; intro W3 hv ho; have HV10 := hd hv; have HQ2 := hd ((HQ2.out.call (zAr w2).2).off ho (by omega)); have HM := hd ((HM.out.call (zAr w2).2).off (by omega) ho); clear hv ho)
  | ((with_reducible refine zC (ty := 4) (x := .tmp 38) ?_); refine zM HM.out.v5 (j := 0) (v := .bool false) _ rfl rfl rfl (by simp only [NC.row, HLF.out]; rfl) Tryz.underlying4 rfl ?_))
 obtain ⟨g10, hg10⟩ : ∃ g, w2.heap.size = g := ⟨_, rfl⟩
 have hg10le : w2.heap.size <= g10 := by omega
 rw [hg10] at HV10
 try rw [hg10]
 clear hg10
 have HM := hd (HM.out.call ((Below.refl _ _).drew))
 have HV10 := hd (HV10.out.keep ((Below.refl _ _).drew))
 have HQ2 := hd (HQ2.out.call ((Below.refl _ _).drew))
 refine jO (S := fun W' => jR W' (w.heap.size + 1) o) (z := fun _ => false) (by kernel_rfl) ?_
 have HSS := hd HM.out.v4
 refine zH (i := 0) (n := 13) (.pointer (some ⟨w.heap.size + 1 + 1, 3, none⟩)) rfl (by kernel_rfl) (by kernel_rfl) (by kernel_rfl) (by kernel_rfl) (fun _ _ _ h => h) (by kernel_rfl) (fun W9 hW9 => ?_) HSS.out ?_
 ·go_simp
 simp only [Act.put, List.getElem_toArray, List.getElem_cons_zero, List.setIfInBounds_toArray, List.set_cons_succ, List.set_cons_zero]
 refine zH (i := 2) (n := 12) (.pointer (some ⟨w.heap.size + 1, 3, none⟩)) rfl (by kernel_rfl) (by kernel_rfl) (by kernel_rfl) (by kernel_rfl) (fun _ _ _ h => h) (by kernel_rfl) (fun W9 hW9 => ?_) HSS.out ?_
 ·go_simp
 refine kNh ?_
 refine zH (i := 3) (n := 11) (.int .i64 o.z) rfl (by kernel_rfl) (by kernel_rfl) (by kernel_rfl) (by kernel_rfl) (fun _ _ _ h => h) (by kernel_rfl) (fun W9 hW9 => ?_) HSS.out ?_
 ·exact kV (j := 3) hW9.toR _ rfl rfl rfl Tryz.underlying3 rfl
 refine kNh ?_
 refine zH (i := 5) (n := 10) (.pointer (some ⟨w.heap.size + 1 + 1, 3, none⟩)) rfl (by kernel_rfl) (by kernel_rfl) (by kernel_rfl) (by kernel_rfl) (fun _ _ _ h => h) (by kernel_rfl) (fun W9 hW9 => ?_) HSS.out ?_
 ·go_simp
 refine kNh ?_
 refine zH (i := 7) (n := 9) (.pointer (some ⟨w.heap.size + 1, 3, none⟩)) rfl (by kernel_rfl) (by kernel_rfl) (by kernel_rfl) (by kernel_rfl) (fun _ _ _ h => h) (by kernel_rfl) (fun W9 hW9 => ?_) HSS.out ?_
 ·go_simp
 refine kNh ?_
 refine zH (i := 8) (n := 8) (.int .i64 o.z) rfl (by kernel_rfl) (by kernel_rfl) (by kernel_rfl) (by kernel_rfl) (fun _ _ _ h => h) (by kernel_rfl) (fun W9 hW9 => ?_) HSS.out ?_
 ·exact kV (j := 3) hW9.toR _ rfl rfl rfl Tryz.underlying3 rfl
 refine kNh ?_
 refine kB9 (i := 1) (j := 6) (n := 7) (by kernel_rfl) rfl rfl (fun K hK => ?_) (fun K hK => ?_)
 ·rw [if_pos (by kernel_rfl)]
  refine zB6 (j := 3) (HM.out.v5.cell 3 (.slice m.K m.nk m.kc) rfl) _ rfl rfl Tryz.underlying24 rfl ?_
  refine kNh ?_
  refine hK _ _ (fun _ => HSS.out) ?_
  clear hK K
  refine zH (i := 4) (n := 6) (.slice m.K k m.kc) rfl (by kernel_rfl) (by kernel_rfl) (by kernel_rfl) (by kernel_rfl) (fun _ _ _ h => h) (by kernel_rfl) (fun W9 hW9 => ?_) HSS.out ?_
  ·have hrunA := HRA.out; go_simp
  refine kNh ?_
  refine kJ (i := 6) (n := 5) (by kernel_rfl) rfl (fun K hK => ?_)
  rw [if_pos (by kernel_rfl)]
  refine zB6 (j := 3) (HM.out.v5.cell 3 (.slice m.K m.nk m.kc) rfl) _ rfl rfl Tryz.underlying24 rfl ?_
  refine kNh ?_
  refine hK _ _ (fun _ => HSS.out) ?_
  clear hK K
  refine zH (i := 9) (n := 4) (.slice D (m.nk - k) (m.kc - k)) rfl (by kernel_rfl) (by kernel_rfl) (by kernel_rfl) (by kernel_rfl) (fun _ _ _ h => h) (by kernel_rfl) (fun W9 hW9 => ?_) HSS.out ?_
  ·have hrunB := HRB.out; go_simp
  exact kPp
 ·rw [if_pos (by kernel_rfl)]
  refine zB6 (j := 3) (HM.out.v5.cell 3 (.slice m.K m.nk m.kc) rfl) _ rfl rfl Tryz.underlying24 rfl ?_
  refine kNh ?_
  refine hK _ _ (fun _ => HSS.out) ?_
  clear hK K
  refine zH (i := 9) (n := 6) (.slice D (m.nk - k) (m.kc - k)) rfl (by kernel_rfl) (by kernel_rfl) (by kernel_rfl) (by kernel_rfl) (fun _ _ _ h => h) (by kernel_rfl) (fun W9 hW9 => ?_) HSS.out ?_
  ·have hrunB := HRB.out; go_simp
  refine kNh ?_
  refine kJ (i := 1) (n := 5) (by kernel_rfl) rfl (fun K hK => ?_)
  rw [if_pos (by kernel_rfl)]
  refine zB6 (j := 3) (HM.out.v5.cell 3 (.slice m.K m.nk m.kc) rfl) _ rfl rfl Tryz.underlying24 rfl ?_
  refine kNh ?_
  refine hK _ _ (fun _ => HSS.out) ?_
  clear hK K
  refine zH (i := 4) (n := 4) (.slice m.K k m.kc) rfl (by kernel_rfl) (by kernel_rfl) (by kernel_rfl) (by kernel_rfl) (fun _ _ _ h => h) (by kernel_rfl) (fun W9 hW9 => ?_) HSS.out ?_
  ·have hrunA := HRA.out; go_simp
  exact kPp
end Go.Proofs.YtmkciabefepelaaGreat
