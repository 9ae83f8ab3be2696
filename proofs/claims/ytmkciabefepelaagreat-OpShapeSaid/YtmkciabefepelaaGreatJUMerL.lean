/- merge, done. -/
import Derived.Test.YtmkciabefepelaaGreatJUMerP
import Derived.Test.YtmkciabefepelaaGreatJOForm
set_option maxRecDepth 4000
set_option maxHeartbeats 8000000
namespace Go.Proofs.YtmkciabefepelaaGreat
open Go.RowKit
theorem zU {P Q : Prop} (k : Q) (h : Q -> P := by
 intro kk
 simp only [Act.put, List.getElem_toArray, List.getElem_cons_succ, List.getElem_cons_zero, List.setIfInBounds_toArray, List.set_cons_succ, List.set_cons_zero]
 exact kk) : P := h k
theorem kPl {P : Prop} (h : P := by
 clear htop hmp hl1 hl2 hl3 hl4 e1 e2 e3 e4 hsz
 go_wp2_with (first
  | ((with_reducible refine zC (ty := 26) (x := .tmp 3) ?_); refine zB zD HM.out.v3 rfl _ rfl rfl rfl ?_)
  | ((with_reducible refine zC (ty := 27) (x := .tmp 70) ?_); refine zE HM.out.v4 (j := 1) (v := .slice o.Q o.lq o.cq) _ rfl rfl rfl rfl Tryz.underlying27 rfl ?_)
  | (go_at_call 83; refine Calls.mono (zR2 (HN.out.later HM.out.below) (zKt.later (HO.out.hasq HTA.out) HM.out.below) HCUT.out HCM.out) ?_; rintro e w9 ⟨cr, cy, rfl, h1, h2, b9⟩; have HX := hd h1.now; have HMG := hd (HMG.out.later b9); have HV12 := hd (HV12.out.keep b9); have HQ2 := hd (HQ2.out.call b9); have HM := hd (HM.out.call b9); have hlt9 := HM.out.v6.lt; have hl12 := HV12.out.lt; have hq9 := HQ2.out.hi.size; clear b9 h1 h2; dsimp only)
  | ((with_reducible refine zF (ty := 26) (x := .tmp 11) ?_); refine zA zD (r0 := NC.nil.row) (r := cr.row) (zP3 w9).1 rfl rfl cr.one _ _ rfl rfl rfl rfl rfl ?_; intro W10 hv ho; have HV13 := hd hv; have HV14 := hd ((zP3 w9).2.1.off ho (by omega)); have HV12 := hd ((HV12.out.keep (zP3 w9).2.2).off ho (by omega)); have HQ2 := hd ((HQ2.out.call (zP3 w9).2.2).off ho (by omega)); have HM := hd ((HM.out.call (zP3 w9).2.2).off (by omega) ho); have HBB := hd ((zP3 w9).2.2.trans (ho.below (Nat.le_refl _) (zP3 w9).2.2.size)); clear hv ho)
  | ((with_reducible refine zF (ty := 26) (x := .tmp 12) ?_); refine zA zD (r0 := NC.nil.row) (r := cy.row) HV14.out rfl rfl cy.one _ _ rfl rfl rfl rfl rfl ?_; intro W11 hv ho; have HV13 := hd (HV13.out.off ho (by omega)); have HBB := hd (HBB.out.trans (ho.below (by omega) HBB.out.size)); have HX := hd (HX.out.later HBB.out); have HMG := hd (HMG.out.later HBB.out); have HV12 := hd (HV12.out.off ho (by omega)); have HQ2 := hd (HQ2.out.off ho (by omega)); have HM := hd (HM.out.off (by omega) ho); clear HV14; clear hv ho)
  | ((with_reducible refine zC (ty := 26) (x := .tmp 11) ?_); refine zB zD HV13.out rfl _ rfl rfl rfl ?_)
  | ((with_reducible refine zC (ty := 26) (x := .tmp 10) ?_); refine zB zD HV12.out rfl _ rfl rfl rfl ?_)
  | (go_at_call 128; refine Calls.mono (zJ1 HX.out HMG.out HQ2.out.has HPUT.out) ?_; rintro e wF ⟨cf, rfl, hx, b9⟩; have hlo := HM.out.v6.lt; have hsz := HM.out.below.size; have HX := hd hx; have HM := hd (HM.out.call b9); clear b9 hx; dsimp only)
  | ((with_reducible refine zF (ty := 26) (x := .tmp 6) ?_); refine zA zD (r0 := NC.nil.row) (r := cf.row) HM.out.v6 rfl rfl cf.one _ _ rfl rfl rfl rfl rfl ?_; intro WF hv ho; have HM := hd (HM.out.set6 (a' := cf) hv ho); have HX := hd (HX.out.off ho (by omega)); clear hv ho))
 exact bodyPost_ret (kU Tryz.results81 _ _ HM.out.v6 rfl) rfl ⟨cf, rfl, HX.out.more (by omega), HM.out.below⟩) : P := h
set_option maxRecDepth 100000 in
theorem kA1 {w : World} {c : NC} {o : OC} {m : NC} {n mt : NT} {a : OpP} {q2 : List Int} {b : NT} {E : Int} {x y : NT} {r : NT × Int} (hn : kS w c n) (ho : OkA w o a) (ta : zAf a) (hm : kS w m mt) (hbk : jV a.q = (q2, 0)) (hin : InI q2) (hql : q2.length <= 1000) (hgb : zGm n q2 = (b, 0)) (hbl : b.lf = true) (hml : mt.lf = true) (hlb : zXd b = E) (_z1 : (o.z == E) = true) (z2 : (o.z != E) = false) (hop : decide (a.o = mt.ps) = true) (hkb : b.ks = []) (hkm : mt.ks = []) (hbig : sizeT b + sizeT mt <= 100000) (hcut : zBw n a.q = (x, 0)) (hcm : zE3 n a.q = y) (hput : zSe x q2 (zAo b mt) = r) : Calls Tryz.prog 81 #[.agg c.row, .agg o.row, .agg m.row] w (zAm w r) := by
 have hm9 := hm
 have HBK := hd hbk
 have HIN := hd hin
 have HQL := hd hql
 have HGB := hd hgb
 have HBL := hd hbl
 have HML := hd hml
 have HLB := hd hlb
 have HOP := hd hop
 have HKB := hd hkb
 have HKM := hd hkm
 have HBIG := hd hbig
 have HCUT := hd hcut
 have HCM := hd hcm
 have HPUT := hd hput
 have HN := hd hn
 have HO := hd ho
 have HTA := hd ta
 have HMN := hd hm
 clear hn ho ta hm hbk hin hql hgb hbl hml hlb hop hkb hkm hbig hcut hcm hput
 obtain ⟨W0, hW, hst⟩ := jM w c o m
 have HW := hd hW
 have HM := hd hst
 clear hW hst
 go_enter Tryz.func81, Tryz.ntmps81
 go_upto_region 1 with fail
 rw [HW.out]
 clear HW
 go_upto_region 9 with (first
  | ((with_reducible refine zC (ty := 27) (x := .tmp 14) ?_); refine zE HM.out.v4 (j := 1) (v := .slice o.Q o.lq o.cq) _ rfl rfl rfl rfl Tryz.underlying27 rfl ?_)
  | (go_at_call 117; refine Calls.mono (zI7 (HO.out.later HM.out.below) HTA.out HBK.out) ?_; rintro e w2 ⟨A2, l2, c2, rfl, hl2, hc2, hi2, b9⟩; have HQ2 := hd (show Pth _ w2 A2 l2 c2 q2 w2 from ⟨hl2, by have h5 := HQL.out; have h6 : q2.length = l2 := hl2; omega, hc2, HIN.out, hi2, zA5.refl _ _⟩); have hlo2 := HM.out.v6.lt; have HM := hd (HM.out.call b9); have hlt2 := HM.out.v6.lt; clear b9 hl2 hc2 hi2; dsimp only)
  | ((with_reducible refine zC (ty := 26) (x := .tmp 3) ?_); refine zB zD HM.out.v3 rfl _ rfl rfl rfl ?_)
  | (go_at_call 30; refine Calls.mono (zHl (HN.out.later HM.out.below) HQ2.out.has HGB.out) ?_; rintro e w4 h4; obtain ⟨cb, db, us, rfl, htop, hst, b9⟩ := h4.top; have HTOP := hd htop; have HB := hd hst.now; have HM := hd (HM.out.call b9); have HQ2 := hd (HQ2.out.call b9); have hlt4 := HM.out.v6.lt; have hb24 := b9.size; clear b9 htop hst; dsimp only)
  | ((with_reducible refine zF (ty := 26) (x := .tmp 10) ?_); refine zA zD (r0 := NC.nil.row) (r := cb.row) (zAr w4).1 rfl rfl cb.one _ _ rfl rfl rfl rfl rfl ?_; intro W5 hv ho; have HV10 := hd hv; have HI := hd (((zA5.refl w2.heap.size w4).call (zAr w4).2).off2 ho (by omega)); have HB := hd (HB.out.later2 (zAr w4).2 ho (Nat.le_refl _)); have HQ2 := hd ((HQ2.out.call (zAr w4).2).off ho (by omega)); have HM := hd ((HM.out.call (zAr w4).2).off (by omega) ho); clear hv ho)
  | ((with_reducible refine zC (ty := 4) (x := .tmp 35) ?_); refine zM HV10.out (j := 0) (v := .bool true) _ rfl rfl rfl (by have h9 := HB.out.lf; rw [HBL.out] at h9; simp only [NC.row, <- h9]; rfl) Tryz.underlying4 rfl ?_)
  | ((with_reducible refine zC (ty := 4) (x := .tmp 37) ?_); refine zM HM.out.v5 (j := 0) (v := .bool true) _ rfl rfl rfl (by have h9 := HMN.out.lf; rw [HML.out] at h9; simp only [NC.row, <- h9]; rfl) Tryz.underlying4 rfl ?_))
 obtain ⟨g10, hg10⟩ : ∃ g, w4.heap.size = g := ⟨_, rfl⟩
 have hg10le : w4.heap.size <= g10 := by omega
 rw [hg10] at HV10
 try rw [hg10]
 clear hg10
 have HM := hd (HM.out.call ((Below.refl _ _).drew))
 have HV10 := hd (HV10.out.keep ((Below.refl _ _).drew))
 have HQ2 := hd (HQ2.out.call ((Below.refl _ _).drew))
 have HI := hd (HI.out.call ((Below.refl _ _).drew))
 have HB := hd (HB.out.later ((Below.refl _ _).drew))
 refine jO (S := fun W' => jR W' (w.heap.size + 1) o /\ jT 26 W' g10 cb.row) (z := fun _ => false) (by kernel_rfl) ?_
 have HSS := hd (And.intro HM.out.v4 HV10.out)
 refine zH (i := 0) (n := 5) (.pointer (some ⟨w.heap.size + 1, 3, none⟩)) rfl (by kernel_rfl) (by kernel_rfl) (by kernel_rfl) (by kernel_rfl) (fun _ _ _ h => h) (by kernel_rfl) (fun W9 hW9 => ?_) HSS.out ?_
 ·go_simp
 simp only [Act.put, List.getElem_toArray, List.getElem_cons_zero, List.setIfInBounds_toArray, List.set_cons_succ, List.set_cons_zero]
 refine zH (i := 1) (n := 4) (.int .i64 o.z) rfl (by kernel_rfl) (by kernel_rfl) (by kernel_rfl) (by kernel_rfl) (fun _ _ _ h => h) (by kernel_rfl) (fun W9 hW9 => ?_) HSS.out ?_
 ·exact kV (j := 3) hW9.1.toR _ rfl rfl rfl Tryz.underlying3 rfl
 refine zU ?_
 refine zH (i := 2) (n := 3) (.agg cb.row) rfl (by kernel_rfl) (by kernel_rfl) (by kernel_rfl) (by kernel_rfl) (fun _ _ _ h => h) (by kernel_rfl) (fun W9 hW9 => ?_) HSS.out ?_
 ·exact zS zD hW9.2 rfl _ rfl rfl
 refine zU ?_
 refine kJ (i := 3) (n := 2) (by kernel_rfl) rfl (fun K hK => ?_)
 rw [if_pos (by kernel_rfl)]
 go_simp
 go_at_call 127
 refine (zDu (c := cb) HB.out HLB.out).mono ?_
 rintro e w5 ⟨rfl, b9⟩
 have HM := hd (HM.out.call b9)
 have HV10 := hd (HV10.out.keep b9)
 have HQ2 := hd (HQ2.out.call b9)
 have HI := hd (HI.out.call b9)
 clear b9 HSS
 have HSS := hd (And.intro HM.out.v4 HV10.out)
 refine hK _ _ (fun _ => HSS.out) ?_
 clear hK K
 refine zH (i := 4) (n := 1) (.bool false) rfl (by kernel_rfl) (by kernel_rfl) (by kernel_rfl) (by kernel_rfl) (fun _ _ _ h => h) (by kernel_rfl) (fun W9 hW9 => ?_) HSS.out ?_
 ·go_simp
 refine zU ?_
 refine kJ (i := 5) (n := 0) (by kernel_rfl) rfl (fun K hK => ?_)
 rw [if_pos (by kernel_rfl)]
 go_simp
 refine hK _ _ (fun _ => HSS.out) (zAl (by kernel_rfl) ?_)
 clear hK K HSS
 go_upto_region 13 with (first
  | ((with_reducible refine zC (ty := 22) (x := .tmp 49) ?_); refine zE HM.out.v4 (j := 8) (v := .slice o.O o.no o.co) _ rfl rfl rfl rfl Tryz.underlying22 rfl ?_)
  | ((with_reducible refine zC (ty := 22) (x := .tmp 51) ?_); refine zM HM.out.v5 (j := 1) (v := .slice m.P m.np m.pc) _ rfl rfl rfl rfl Tryz.underlying22 rfl ?_)
  | (go_at_call 119; refine Calls.mono (zLd (HMN.out.later HM.out.below) (HO.out.later HM.out.below) HOP.out) ?_; rintro e w6 ⟨rfl, b9⟩; have HM := hd (HM.out.call b9); have HV10 := hd (HV10.out.keep b9); have HQ2 := hd (HQ2.out.call b9); have HI := hd (HI.out.call b9); clear b9))
 have HM := hd (HM.out.call ((Below.refl _ _).drew))
 have HV10 := hd (HV10.out.keep ((Below.refl _ _).drew))
 have HQ2 := hd (HQ2.out.call ((Below.refl _ _).drew))
 have HI := hd (HI.out.call ((Below.refl _ _).drew))
 obtain ⟨W, hW⟩ : ∃ W, w6.drew = W := ⟨_, rfl⟩
 rw [hW] at HM HV10 HQ2 HI
 refine jO (S := fun W' => jT 26 W' (w.heap.size + 1 + 1) m.row /\ W'.cell? ⟨g10, 3, none⟩ = some (.slice cb.K cb.nk cb.kc)) (z := fun j => j == 13) (by kernel_rfl) ?_
 rw [hW]
 clear hW
 have HSS := hd (And.intro HM.out.v5 (HV10.out.cell 3 (.slice cb.K cb.nk cb.kc) rfl))
 refine zH (i := 0) (n := 13) (.pointer (some ⟨g10, 2, none⟩)) rfl (by kernel_rfl) (by kernel_rfl) (by kernel_rfl) (by kernel_rfl) (fun _ _ _ h => h) (by kernel_rfl) (fun W9 hW9 => ?_) HSS.out ?_
 ·go_simp
 simp only [Act.put, List.getElem_toArray, List.getElem_cons_zero, List.setIfInBounds_toArray, List.set_cons_succ, List.set_cons_zero]
 refine zH (i := 2) (n := 12) (.pointer (some ⟨w.heap.size + 1 + 1, 2, none⟩)) rfl (by kernel_rfl) (by kernel_rfl) (by kernel_rfl) (by kernel_rfl) (fun _ _ _ h => h) (by kernel_rfl) (fun W9 hW9 => ?_) HSS.out ?_
 ·go_simp
 refine zU ?_
 refine zH (i := 3) (n := 11) (.slice m.X m.nt m.tc) rfl (by kernel_rfl) (by kernel_rfl) (by kernel_rfl) (by kernel_rfl) (fun _ _ _ h => h) (by kernel_rfl) (fun W9 hW9 => ?_) HSS.out ?_
 ·exact kV (j := 2) hW9.1 _ rfl rfl rfl Tryz.underlying23 rfl
 refine zU ?_
 refine zH (i := 5) (n := 10) (.pointer (some ⟨g10, 3, none⟩)) rfl (by kernel_rfl) (by kernel_rfl) (by kernel_rfl) (by kernel_rfl) (fun _ _ _ h => h) (by kernel_rfl) (fun W9 hW9 => ?_) HSS.out ?_
 ·go_simp
 refine zU ?_
 refine zH (i := 6) (n := 9) (.slice cb.K cb.nk cb.kc) rfl (by kernel_rfl) (by kernel_rfl) (by kernel_rfl) (by kernel_rfl) (fun _ _ _ h => h) (by kernel_rfl) (fun W9 hW9 => ?_) HSS.out ?_
 ·exact zK3 hW9.2 _ rfl rfl Tryz.underlying24 rfl
 refine zU ?_
 refine zH (i := 7) (n := 8) (.pointer (some ⟨w.heap.size + 1 + 1, 3, none⟩)) rfl (by kernel_rfl) (by kernel_rfl) (by kernel_rfl) (by kernel_rfl) (fun _ _ _ h => h) (by kernel_rfl) (fun W9 hW9 => ?_) HSS.out ?_
 ·go_simp
 refine zU ?_
 refine zH (i := 8) (n := 7) (.slice m.K m.nk m.kc) rfl (by kernel_rfl) (by kernel_rfl) (by kernel_rfl) (by kernel_rfl) (fun _ _ _ h => h) (by kernel_rfl) (fun W9 hW9 => ?_) HSS.out ?_
 ·exact kV (j := 3) hW9.1 _ rfl rfl rfl Tryz.underlying24 rfl
 refine zU ?_
 refine kJ (i := 1) (n := 6) (by kernel_rfl) rfl (fun K hK => ?_)
 rw [if_pos (by kernel_rfl)]
 refine zB6 (j := 2) (HV10.out.cell 2 (.slice cb.X cb.nt cb.tc) rfl) _ rfl rfl Tryz.underlying23 rfl ?_
 refine zU ?_
 refine hK _ _ (fun _ => HSS.out) ?_
 clear hK K
 have htop := HTOP.out.high HI.out
 have hmp := HMN.out.parts
 have hsz := HBIG.out
 have hl1 : b.tx.length + 1 <= sizeT b := by obtain ⟨lf, ps, tx, ks⟩ := b; simp only [sizeT, NT.tx]; omega
 have hl2 : mt.tx.length + 1 <= sizeT mt := by obtain ⟨lf, ps, tx, ks⟩ := mt; simp only [sizeT, NT.tx]; omega
 have hl3 : b.ks.length <= sizeT b := zLe b
 have hl4 : mt.ks.length <= sizeT mt := zLe mt
 have e1 := htop.nt
 have e2 := htop.nk
 have e3 := hmp.nt
 have e4 := hmp.nk
 have hloW := HI.out.size
 have hbs := HM.out.below.size
 have hg10W := HV10.out.lt
 have HI0 := hd HI.out
 refine kJ (i := 4) (n := 5) (by kernel_rfl) rfl (fun K hK => ?_)
 refine zIq zTa W rfl _ _ rfl w2.heap.size (.slice cb.X cb.nt cb.tc) cb.nt (rv b.tx) rfl htop.x m.X m.nt m.tc w.heap.size (rv mt.tx) rfl (by rw [zCg, e3, Nat.mul_one]) (hmp.x.below HM.out.below) (zNz _) (by unfold maxLen; omega) (by omega) (by omega) ?_
 intro A' c' W5 hrow hgr hat
 have HROW := hd hrow
 have HGR := hd hgr
 have hz5 := hgr.size
 have hkb : ∀ q, (Value.slice cb.X cb.nt cb.tc).ownBlock = some q -> w2.heap.size <= q /\ q < w4.heap.size := fun q hq => HTOP.out.x.lt q hq
 have hmb : Below w.heap.size w W5 := HM.out.below.grown hgr (by omega) (fun j hj => by have := (hkb j hj).1; omega)
 have hkeep : ∀ g, (g < w2.heap.size ∨ w4.heap.size <= g) -> g < W.heap.size -> W5.heap[g]? = W.heap[g]? := fun g hg hl => hgr.block g hl (fun e => by have := hkb g e.symm; omega)
 have HM := hd (show M4 w c o m NC.nil W5 from ⟨(hkeep _ (by omega) HM.out.v3.lt).trans HM.out.v3, (hkeep _ (by omega) HM.out.v4.lt).trans HM.out.v4, (hkeep _ (by omega) HM.out.v5.lt).trans HM.out.v5, (hkeep _ (by omega) HM.out.v6.lt).trans HM.out.v6, hmb⟩)
 have HV10 := hd (show jT 26 W5 g10 _ from (hkeep _ (by omega) HV10.out.lt).trans HV10.out)
 have HV5 := hd HV10.out
 have HQ2 := hd (HQ2.out.grown hgr (fun j hj => (hkb j hj).1))
 have HAT := hd hat
 clear hat hrow hgr hkeep hkb hmb
 refine zU ?_
 have HSS := hd (And.intro HM.out.v5 (HV10.out.cell 3 (.slice cb.K cb.nk cb.kc) rfl))
 refine hK _ _ (fun _ => HSS.out) ?_
 clear hK K
 refine zH (i := 10) (n := 4) (.pointer (some ⟨g10, 2, none⟩)) rfl (by kernel_rfl) (by kernel_rfl) (by kernel_rfl) (by kernel_rfl) (fun _ _ _ h => h) (by kernel_rfl) (fun W9 hW9 => ?_) HSS.out ?_
 ·go_simp
 refine zU ?_
 refine kJ (i := 9) (n := 3) (by kernel_rfl) rfl (fun K hK => ?_)
 refine zJh zWg _ rfl _ _ rfl w2.heap.size (.slice cb.K cb.nk cb.kc) cb.nk (zGg us) rfl (htop.k.kept HGR.out (zJz htop.x htop.k (by decide))) m.K m.nk m.kc (by rw [<- e4, HKM.out]; rfl) rfl ?_
 refine zU ?_
 have HSS := hd (And.intro HM.out.v5 (HV10.out.cell 3 (.slice cb.K cb.nk cb.kc) rfl))
 refine hK _ _ (fun _ => HSS.out) ?_
 clear hK K
 refine kJ (i := 11) (n := 2) (by kernel_rfl) rfl (fun K hK => ?_)
 rw [if_pos (by kernel_rfl)]
 refine zY zFu HV10.out _ _ rfl rfl 2 _ [.slice A' (cb.nt + m.nt) c'] rfl rfl rfl rfl (zHt rfl) (Nat.le_of_ble_eq_true rfl) ?_
 intro W7 hv ho
 have HO7 := hd ho
 have HM := hd (HM.out.off (by omega) ho)
 have HQ2 := hd (HQ2.out.off ho (by omega))
 have HV10 := hd (show jT 26 W7 g10 (NC.row ({ cb with X := A', nt := cb.nt + m.nt, tc := c' } : NC)) from hv)
 clear hv ho
 have HSS := hd (And.intro HM.out.v5 (HV10.out.cell 3 (.slice cb.K cb.nk cb.kc) rfl))
 refine hK _ _ (fun _ => HSS.out) ?_
 clear hK K
 refine zH (i := 12) (n := 1) (.pointer (some ⟨g10, 3, none⟩)) rfl (by kernel_rfl) (by kernel_rfl) (by kernel_rfl) (by kernel_rfl) (fun _ _ _ h => h) (by kernel_rfl) (fun W9 hW9 => ?_) HSS.out ?_
 ·go_simp
 refine zU ?_
 refine kJ (i := 13) (n := 0) (by kernel_rfl) rfl (fun K hK => ?_)
 rw [if_pos (by kernel_rfl)]
 refine zY zKu HV10.out _ _ rfl rfl 3 _ [.slice cb.K cb.nk cb.kc] rfl rfl rfl rfl (zHt rfl) (Nat.le_of_ble_eq_true rfl) ?_
 intro W8 hv ho
 have HV12 := hd (show jT 26 W8 g10 (NC.row ({ cb with X := A', nt := cb.nt + m.nt, tc := c' } : NC)) from hv)
 have HO8 := hd (HO7.out.trans ho)
 have HM := hd (HM.out.off (by omega) ho)
 have HQ2 := hd (HQ2.out.off ho (by omega))
 clear hv ho
 refine hK _ _ (fun h => absurd h (by decide)) (zAl (by kernel_rfl) ?_)
 clear hK K
 have HMG := hd (zS1 HTOP.out HI0.out HKB.out HKM.out e3 (by omega) HROW.out HGR.out HV5.out HO8.out)
 exact kPl
set_option maxRecDepth 100000 in
theorem kA2 {w : World} {c : NC} {o : OC} {m : NC} {n mt : NT} {a : OpP} {q2 : List Int} {b : NT} {E : Int} {x y : NT} {r : NT × Int} (hn : kS w c n) (ho : OkA w o a) (ta : zAf a) (hm : kS w m mt) (hbk : jV a.q = (q2, 0)) (hin : InI q2) (hql : q2.length <= 1000) (hgb : zGm n q2 = (b, 0)) (hbl : b.lf = false) (hml : mt.lf = false) (hlb : zXd b = E) (_z1 : (o.z == E) = true) (z2 : (o.z != E) = false) (hop : decide (a.o = mt.ps) = true) (hkb : b.tx = []) (hkm : mt.tx = []) (hbig : sizeT b + sizeT mt <= 100000) (hcut : zBw n a.q = (x, 0)) (hcm : zE3 n a.q = y) (hput : zSe x q2 (zAo b mt) = r) : Calls Tryz.prog 81 #[.agg c.row, .agg o.row, .agg m.row] w (zAm w r) := by
 have HM9 := hd hm
 have HBK := hd hbk
 have HIN := hd hin
 have HQL := hd hql
 have HGB := hd hgb
 have HBL := hd hbl
 have HML := hd hml
 have HLB := hd hlb
 have HOP := hd hop
 have HKB := hd hkb
 have HKM := hd hkm
 have HBIG := hd hbig
 have HCUT := hd hcut
 have HCM := hd hcm
 have HPUT := hd hput
 have HN := hd hn
 have HO := hd ho
 have HTA := hd ta
 have HMN := hd hm
 clear hn ho ta hm hbk hin hql hgb hbl hml hlb hop hkb hkm hbig hcut hcm hput
 obtain ⟨W0, hW, hst⟩ := jM w c o m
 have HW := hd hW
 have HM := hd hst
 clear hW hst
 go_enter Tryz.func81, Tryz.ntmps81
 go_upto_region 1 with fail
 rw [HW.out]
 clear HW
 go_upto_region 9 with (first
  | ((with_reducible refine zC (ty := 27) (x := .tmp 14) ?_); refine zE HM.out.v4 (j := 1) (v := .slice o.Q o.lq o.cq) _ rfl rfl rfl rfl Tryz.underlying27 rfl ?_)
  | (go_at_call 117; refine Calls.mono (zI7 (HO.out.later HM.out.below) HTA.out HBK.out) ?_; rintro e w2 ⟨A2, l2, c2, rfl, hl2, hc2, hi2, b9⟩; have HQ2 := hd (show Pth _ w2 A2 l2 c2 q2 w2 from ⟨hl2, by have h5 := HQL.out; have h6 : q2.length = l2 := hl2; omega, hc2, HIN.out, hi2, zA5.refl _ _⟩); have hlo2 := HM.out.v6.lt; have HM := hd (HM.out.call b9); have hlt2 := HM.out.v6.lt; clear b9 hl2 hc2 hi2; dsimp only)
  | ((with_reducible refine zC (ty := 26) (x := .tmp 3) ?_); refine zB zD HM.out.v3 rfl _ rfl rfl rfl ?_)
  | (go_at_call 30; refine Calls.mono (zHl (HN.out.later HM.out.below) HQ2.out.has HGB.out) ?_; rintro e w4 h4; obtain ⟨cb, db, us, rfl, htop, hst, b9⟩ := h4.top; have HTOP := hd htop; have HB := hd hst.now; have HM := hd (HM.out.call b9); have HQ2 := hd (HQ2.out.call b9); have hlt4 := HM.out.v6.lt; have hb24 := b9.size; clear b9 htop hst; dsimp only)
  | ((with_reducible refine zF (ty := 26) (x := .tmp 10) ?_); refine zA zD (r0 := NC.nil.row) (r := cb.row) (zAr w4).1 rfl rfl cb.one _ _ rfl rfl rfl rfl rfl ?_; intro W5 hv ho; have HV10 := hd hv; have HI := hd (((zA5.refl w2.heap.size w4).call (zAr w4).2).off2 ho (by omega)); have HB := hd (HB.out.later2 (zAr w4).2 ho (Nat.le_refl _)); have HQ2 := hd ((HQ2.out.call (zAr w4).2).off ho (by omega)); have HM := hd ((HM.out.call (zAr w4).2).off (by omega) ho); clear hv ho)
  | ((with_reducible refine zC (ty := 4) (x := .tmp 35) ?_); refine zM HV10.out (j := 0) (v := .bool false) _ rfl rfl rfl (by have h9 := HB.out.lf; rw [HBL.out] at h9; simp only [NC.row, <- h9]; rfl) Tryz.underlying4 rfl ?_)
  | ((with_reducible refine zC (ty := 4) (x := .tmp 37) ?_); refine zM HM.out.v5 (j := 0) (v := .bool false) _ rfl rfl rfl (by have h9 := HMN.out.lf; rw [HML.out] at h9; simp only [NC.row, <- h9]; rfl) Tryz.underlying4 rfl ?_))
 obtain ⟨g10, hg10⟩ : ∃ g, w4.heap.size = g := ⟨_, rfl⟩
 have hg10le : w4.heap.size <= g10 := by omega
 rw [hg10] at HV10
 try rw [hg10]
 clear hg10
 have HM := hd (HM.out.call ((Below.refl _ _).drew))
 have HV10 := hd (HV10.out.keep ((Below.refl _ _).drew))
 have HQ2 := hd (HQ2.out.call ((Below.refl _ _).drew))
 have HI := hd (HI.out.call ((Below.refl _ _).drew))
 have HB := hd (HB.out.later ((Below.refl _ _).drew))
 refine jO (S := fun W' => jR W' (w.heap.size + 1) o /\ jT 26 W' g10 cb.row) (z := fun _ => false) (by kernel_rfl) ?_
 have HSS := hd (And.intro HM.out.v4 HV10.out)
 refine zH (i := 0) (n := 5) (.pointer (some ⟨w.heap.size + 1, 3, none⟩)) rfl (by kernel_rfl) (by kernel_rfl) (by kernel_rfl) (by kernel_rfl) (fun _ _ _ h => h) (by kernel_rfl) (fun W9 hW9 => ?_) HSS.out ?_
 ·go_simp
 simp only [Act.put, List.getElem_toArray, List.getElem_cons_zero, List.setIfInBounds_toArray, List.set_cons_succ, List.set_cons_zero]
 refine zH (i := 1) (n := 4) (.int .i64 o.z) rfl (by kernel_rfl) (by kernel_rfl) (by kernel_rfl) (by kernel_rfl) (fun _ _ _ h => h) (by kernel_rfl) (fun W9 hW9 => ?_) HSS.out ?_
 ·exact kV (j := 3) hW9.1.toR _ rfl rfl rfl Tryz.underlying3 rfl
 refine zU ?_
 refine zH (i := 2) (n := 3) (.agg cb.row) rfl (by kernel_rfl) (by kernel_rfl) (by kernel_rfl) (by kernel_rfl) (fun _ _ _ h => h) (by kernel_rfl) (fun W9 hW9 => ?_) HSS.out ?_
 ·exact zS zD hW9.2 rfl _ rfl rfl
 refine zU ?_
 refine kJ (i := 3) (n := 2) (by kernel_rfl) rfl (fun K hK => ?_)
 rw [if_pos (by kernel_rfl)]
 go_simp
 go_at_call 127
 refine (zDu (c := cb) HB.out HLB.out).mono ?_
 rintro e w5 ⟨rfl, b9⟩
 have HM := hd (HM.out.call b9)
 have HV10 := hd (HV10.out.keep b9)
 have HQ2 := hd (HQ2.out.call b9)
 have HI := hd (HI.out.call b9)
 clear b9 HSS
 have HSS := hd (And.intro HM.out.v4 HV10.out)
 refine hK _ _ (fun _ => HSS.out) ?_
 clear hK K
 refine zH (i := 4) (n := 1) (.bool false) rfl (by kernel_rfl) (by kernel_rfl) (by kernel_rfl) (by kernel_rfl) (fun _ _ _ h => h) (by kernel_rfl) (fun W9 hW9 => ?_) HSS.out ?_
 ·go_simp
 refine zU ?_
 refine kJ (i := 5) (n := 0) (by kernel_rfl) rfl (fun K hK => ?_)
 rw [if_pos (by kernel_rfl)]
 go_simp
 refine hK _ _ (fun _ => HSS.out) (zAl (by kernel_rfl) ?_)
 clear hK K HSS
 go_upto_region 13 with (first
  | ((with_reducible refine zC (ty := 22) (x := .tmp 49) ?_); refine zE HM.out.v4 (j := 8) (v := .slice o.O o.no o.co) _ rfl rfl rfl rfl Tryz.underlying22 rfl ?_)
  | ((with_reducible refine zC (ty := 22) (x := .tmp 51) ?_); refine zM HM.out.v5 (j := 1) (v := .slice m.P m.np m.pc) _ rfl rfl rfl rfl Tryz.underlying22 rfl ?_)
  | (go_at_call 119; refine Calls.mono (zLd (HMN.out.later HM.out.below) (HO.out.later HM.out.below) HOP.out) ?_; rintro e w6 ⟨rfl, b9⟩; have HM := hd (HM.out.call b9); have HV10 := hd (HV10.out.keep b9); have HQ2 := hd (HQ2.out.call b9); have HI := hd (HI.out.call b9); clear b9))
 have HM := hd (HM.out.call ((Below.refl _ _).drew))
 have HV10 := hd (HV10.out.keep ((Below.refl _ _).drew))
 have HQ2 := hd (HQ2.out.call ((Below.refl _ _).drew))
 have HI := hd (HI.out.call ((Below.refl _ _).drew))
 obtain ⟨W, hW⟩ : ∃ W, w6.drew = W := ⟨_, rfl⟩
 rw [hW] at HM HV10 HQ2 HI
 refine jO (S := fun W' => jT 26 W' (w.heap.size + 1 + 1) m.row /\ W'.cell? ⟨g10, 3, none⟩ = some (.slice cb.K cb.nk cb.kc)) (z := fun j => j == 13) (by kernel_rfl) ?_
 rw [hW]
 clear hW
 have HSS := hd (And.intro HM.out.v5 (HV10.out.cell 3 (.slice cb.K cb.nk cb.kc) rfl))
 refine zH (i := 0) (n := 13) (.pointer (some ⟨g10, 2, none⟩)) rfl (by kernel_rfl) (by kernel_rfl) (by kernel_rfl) (by kernel_rfl) (fun _ _ _ h => h) (by kernel_rfl) (fun W9 hW9 => ?_) HSS.out ?_
 ·go_simp
 simp only [Act.put, List.getElem_toArray, List.getElem_cons_zero, List.setIfInBounds_toArray, List.set_cons_succ, List.set_cons_zero]
 refine zH (i := 2) (n := 12) (.pointer (some ⟨w.heap.size + 1 + 1, 2, none⟩)) rfl (by kernel_rfl) (by kernel_rfl) (by kernel_rfl) (by kernel_rfl) (fun _ _ _ h => h) (by kernel_rfl) (fun W9 hW9 => ?_) HSS.out ?_
 ·go_simp
 refine zU ?_
 refine zH (i := 3) (n := 11) (.slice m.X m.nt m.tc) rfl (by kernel_rfl) (by kernel_rfl) (by kernel_rfl) (by kernel_rfl) (fun _ _ _ h => h) (by kernel_rfl) (fun W9 hW9 => ?_) HSS.out ?_
 ·exact kV (j := 2) hW9.1 _ rfl rfl rfl Tryz.underlying23 rfl
 refine zU ?_
 refine zH (i := 5) (n := 10) (.pointer (some ⟨g10, 3, none⟩)) rfl (by kernel_rfl) (by kernel_rfl) (by kernel_rfl) (by kernel_rfl) (fun _ _ _ h => h) (by kernel_rfl) (fun W9 hW9 => ?_) HSS.out ?_
 ·go_simp
 refine zU ?_
 refine zH (i := 6) (n := 9) (.slice cb.K cb.nk cb.kc) rfl (by kernel_rfl) (by kernel_rfl) (by kernel_rfl) (by kernel_rfl) (fun _ _ _ h => h) (by kernel_rfl) (fun W9 hW9 => ?_) HSS.out ?_
 ·exact zK3 hW9.2 _ rfl rfl Tryz.underlying24 rfl
 refine zU ?_
 refine zH (i := 7) (n := 8) (.pointer (some ⟨w.heap.size + 1 + 1, 3, none⟩)) rfl (by kernel_rfl) (by kernel_rfl) (by kernel_rfl) (by kernel_rfl) (fun _ _ _ h => h) (by kernel_rfl) (fun W9 hW9 => ?_) HSS.out ?_
 ·go_simp
 refine zU ?_
 refine zH (i := 8) (n := 7) (.slice m.K m.nk m.kc) rfl (by kernel_rfl) (by kernel_rfl) (by kernel_rfl) (by kernel_rfl) (fun _ _ _ h => h) (by kernel_rfl) (fun W9 hW9 => ?_) HSS.out ?_
 ·exact kV (j := 3) hW9.1 _ rfl rfl rfl Tryz.underlying24 rfl
 refine zU ?_
 refine kJ (i := 1) (n := 6) (by kernel_rfl) rfl (fun K hK => ?_)
 rw [if_pos (by kernel_rfl)]
 refine zB6 (j := 2) (HV10.out.cell 2 (.slice cb.X cb.nt cb.tc) rfl) _ rfl rfl Tryz.underlying23 rfl ?_
 refine zU ?_
 refine hK _ _ (fun _ => HSS.out) ?_
 clear hK K
 have htop := HTOP.out.high HI.out
 have hmp := HMN.out.parts
 have hsz := HBIG.out
 have hl1 : b.tx.length + 1 <= sizeT b := by obtain ⟨lf, ps, tx, ks⟩ := b; simp only [sizeT, NT.tx]; omega
 have hl2 : mt.tx.length + 1 <= sizeT mt := by obtain ⟨lf, ps, tx, ks⟩ := mt; simp only [sizeT, NT.tx]; omega
 have hl3 : b.ks.length <= sizeT b := zLe b
 have hl4 : mt.ks.length <= sizeT mt := zLe mt
 have e1 := htop.nt
 have e2 := htop.nk
 have e3 := hmp.nt
 have e4 := hmp.nk
 have hloW := HI.out.size
 have hbs := HM.out.below.size
 have hg10W := HV10.out.lt
 have HI0 := hd HI.out
 refine kJ (i := 4) (n := 5) (by kernel_rfl) rfl (fun K hK => ?_)
 refine zJh zTa _ rfl _ _ rfl w2.heap.size (.slice cb.X cb.nt cb.tc) cb.nt (rv b.tx) rfl htop.x m.X m.nt m.tc (by rw [<- e3, HKM.out]; rfl) rfl ?_
 refine zU ?_
 have HSS := hd (And.intro HM.out.v5 (HV10.out.cell 3 (.slice cb.K cb.nk cb.kc) rfl))
 refine hK _ _ (fun _ => HSS.out) ?_
 clear hK K
 obtain ⟨dk, hkk⟩ := HM9.out.parts.k
 obtain ⟨vs, hvs, hvl⟩ := hkk.vals
 have HVS := hd hvs
 have HVL := hd hvl
 have HVF := hd hvs.flat
 clear hkk hvs hvl
 refine zH (i := 10) (n := 4) (.pointer (some ⟨g10, 2, none⟩)) rfl (by kernel_rfl) (by kernel_rfl) (by kernel_rfl) (by kernel_rfl) (fun _ _ _ h => h) (by kernel_rfl) (fun W9 hW9 => ?_) HSS.out ?_
 ·go_simp
 refine zU ?_
 refine kJ (i := 9) (n := 3) (by kernel_rfl) rfl (fun K hK => ?_)
 refine zIq zWg W rfl _ _ rfl w2.heap.size (.slice cb.K cb.nk cb.kc) cb.nk (zGg us) rfl (HTOP.out.high HI.out).k m.K m.nk m.kc w.heap.size (zGg vs) rfl (by rw [HVF.out.1, e4]) (HVL.out.below HM.out.below) HVF.out.2 (by unfold maxLen; omega) (by omega) (by omega) ?_
 intro A' c' W5 hrow hgr hat
 have HROW := hd hrow
 have HGR := hd hgr
 have hz5 := hgr.size
 have hkb : ∀ q, (Value.slice cb.K cb.nk cb.kc).ownBlock = some q -> w2.heap.size <= q /\ q < w4.heap.size := fun q hq => HTOP.out.k.lt q hq
 have hmb : Below w.heap.size w W5 := HM.out.below.grown hgr (by omega) (fun j hj => by have := (hkb j hj).1; omega)
 have hkeep : ∀ g, (g < w2.heap.size ∨ w4.heap.size <= g) -> g < W.heap.size -> W5.heap[g]? = W.heap[g]? := fun g hg hl => hgr.block g hl (fun e => by have := hkb g e.symm; omega)
 have HM := hd (show M4 w c o m NC.nil W5 from ⟨(hkeep _ (by omega) HM.out.v3.lt).trans HM.out.v3, (hkeep _ (by omega) HM.out.v4.lt).trans HM.out.v4, (hkeep _ (by omega) HM.out.v5.lt).trans HM.out.v5, (hkeep _ (by omega) HM.out.v6.lt).trans HM.out.v6, hmb⟩)
 have HV10 := hd (show jT 26 W5 g10 _ from (hkeep _ (by omega) HV10.out.lt).trans HV10.out)
 have HV5 := hd HV10.out
 have HQ2 := hd (HQ2.out.grown hgr (fun j hj => (hkb j hj).1))
 have HAT := hd hat
 clear hat hrow hgr hkeep hkb hmb
 refine zU ?_
 have HSS := hd (And.intro HM.out.v5 (HV10.out.cell 3 (.slice cb.K cb.nk cb.kc) rfl))
 refine hK _ _ (fun _ => HSS.out) ?_
 clear hK K
 refine kJ (i := 11) (n := 2) (by kernel_rfl) rfl (fun K hK => ?_)
 rw [if_pos (by kernel_rfl)]
 refine zY zFu HV10.out _ _ rfl rfl 2 _ [.slice cb.X cb.nt cb.tc] rfl rfl rfl rfl (zHt rfl) (Nat.le_of_ble_eq_true rfl) ?_
 intro W7 hv ho
 have HO7 := hd ho
 have HM := hd (HM.out.off (by omega) ho)
 have HQ2 := hd (HQ2.out.off ho (by omega))
 have HV10 := hd (show jT 26 W7 g10 (NC.row cb) from hv)
 clear hv ho
 have HSS := hd (And.intro HM.out.v5 (HV10.out.cell 3 (.slice cb.K cb.nk cb.kc) rfl))
 refine hK _ _ (fun _ => HSS.out) ?_
 clear hK K
 refine zH (i := 12) (n := 1) (.pointer (some ⟨g10, 3, none⟩)) rfl (by kernel_rfl) (by kernel_rfl) (by kernel_rfl) (by kernel_rfl) (fun _ _ _ h => h) (by kernel_rfl) (fun W9 hW9 => ?_) HSS.out ?_
 ·go_simp
 refine zU ?_
 refine kJ (i := 13) (n := 0) (by kernel_rfl) rfl (fun K hK => ?_)
 rw [if_pos (by kernel_rfl)]
 refine zY zKu HV10.out _ _ rfl rfl 3 _ [.slice A' (cb.nk + m.nk) c'] rfl rfl rfl rfl (zHt rfl) (Nat.le_of_ble_eq_true rfl) ?_
 intro W8 hv ho
 have HV12 := hd (show jT 26 W8 g10 (NC.row ({ cb with K := A', nk := cb.nk + m.nk, kc := c' } : NC)) from hv)
 have HO8 := hd (HO7.out.trans ho)
 have HM := hd (HM.out.off (by omega) ho)
 have HQ2 := hd (HQ2.out.off ho (by omega))
 clear hv ho
 refine hK _ _ (fun h => absurd h (by decide)) (zAl (by kernel_rfl) ?_)
 clear hK K
 have HMG := hd (zY0 HTOP.out HI0.out HKB.out HKM.out e4 (by omega) HROW.out HGR.out HAT.out (by omega) hg10W HV5.out HO8.out HVS.out (by omega) HM.out.below)
 exact kPl
theorem zH1 (n : NT) (q : List Int) : (q.length = 0 /\ zBw n q = (zeroT, 6)) ∨ (q.length ≠ 0 /\ zGm n q = (zeroT, 5) /\ zBw n q = (zeroT, 5)) ∨ ∃ m x, q.length ≠ 0 /\ kB n q = some m /\ zBw n q = (x, 0) /\ zE3 n q = m := by
 rcases Classical.em (q.length = 0) with hq | hq
 ·exact .inl ⟨hq, by unfold zBw; rw [if_pos hq]⟩
 ·cases hg : kB n q with
  | none =>
   refine .inr (.inl ⟨hq, zB2 hg, ?_⟩)
   unfold zBw
   rw [if_neg hq, zM6 (zG2 _)]
   rw [zHv hq] at hg
   cases hu : kB n (upP q) with
   | none => rfl
   | some x =>
    rw [hu] at hg
    have hk : zBh x (lastL q) = none := hg
    simp only
    have e : (zJy (lastL q) x).2 = 5 := by unfold zJy; rw [if_neg (by rw [kK1 hk]; decide)]
    rw [e, if_neg (by decide)]
  | some m =>
   refine .inr (.inr ⟨m, (zBw n q).1, hq, rfl, ?_, by unfold zE3; rw [if_neg hq, kP hg]⟩)
   have h2 : (zBw n q).2 = 0 := by
    unfold zBw
    rw [if_neg hq, zM6 (zG2 _)]
    rw [zHv hq] at hg
    cases hu : kB n (upP q) with
    | none => rw [hu] at hg; cases hg
    | some x =>
     rw [hu] at hg
     have hk : zBh x (lastL q) = some m := hg
     simp only
     have e : (zJy (lastL q) x).2 = 0 := by unfold zJy; rw [if_pos (zCy hk)]
     rw [if_pos e]
   rw [<- h2]
theorem zR5 {n x m : NT} {q : List Int} (h : kB n q = some x) : zSe n q m = (putT n q m, 0) := by rw [kHz, h]
theorem kLb {n m : NT} {q q2 : List Int} (hq : q.length ≠ 0) (hg : kB n q = some m) (hb : jV q = (q2, 0)) : ∃ b, kB n q2 = some b /\ kB (zBw n q).1 q2 = some b := by
 rcases zH1 n q with ⟨h, _⟩ | ⟨_, h, _⟩ | ⟨m', x', _, _, hc, _⟩
 ·exact absurd h hq
 ·rw [kP hg] at h; injection h with _ h; cases h
 obtain ⟨u, j, x, k, hf⟩ := zBn (n := n) (p := q) (by rw [hc])
 have hb2 := hb
 rw [hf.path] at hb2
 obtain ⟨i, rfl⟩ : ∃ i, j = i + 1 := by
  unfold jV at hb2
  rw [if_neg (by simp), zC0] at hb2
  by_cases h1 : (j : Int) <= 0
  ·rw [if_pos h1] at hb2; injection hb2 with _ hb2; cases hb2
  ·exact ⟨j - 1, by omega⟩
 have e2 : q2 = u ++ [(i : Int)] := by
  rw [zFy] at hb2
  injection hb2 with hb2
  exact hb2.symm
 subst e2
 have hlen := (List.getElem?_eq_some_iff.1 hf.kid).1
 have hbx : x.ks[i]? = some x.ks[i] := List.getElem?_eq_getElem (by omega)
 refine ⟨x.ks[i], ?_, ?_⟩
 ·rw [jJ, hf.at_]
  show kB x [(i : Int)] = _
  rw [zR, zA9, hbx]; rfl
 ·have hg2 := jX n u (jS x (i + 1) 1 []) x hf.at_
  rw [hf.eq, jJ, hg2]
  show kB (jS x (i + 1) 1 []) [(i : Int)] = _
  rw [zR, zA9]
  have hsk : (jS x (i + 1) 1 []).ks[i]? = some x.ks[i] := by
   show (spl x.ks (i + 1) 1 [])[i]? = _
   rw [zBp (by omega) (by omega), hbx]
  rw [hsk]; rfl
theorem kEk {q : List Int} (hq : q.length ≠ 0) (h : (jV q).2 ≠ 0) : (jV q).2 = 8 := by
 unfold jV at h ⊢
 rw [if_neg hq] at h ⊢
 split
 ·rfl
 ·rename_i h2; rw [if_neg h2] at h; exact absurd rfl h
theorem kIc {n m : NT} {q : List Int} (hq : q.length ≠ 0) (hg : kB n q = some m) (hs : sizeT n <= 100000) : (zBg q).2 = 0 := by
 rw [zHv hq] at hg
 cases hu : kB n (upP q) with
 | none => rw [hu] at hg; cases hg
 | some x =>
  rw [hu] at hg
  have hk : zBh x (lastL q) = some m := hg
  obtain ⟨k1, k2, _⟩ := zA1 hk
  have h1 := zGh _ n x hu
  have h2 : ∀ (l : List NT), l.length <= sizeK l := fun l => by
   induction l with
   | nil => simp
   | cons k r ih => have := zJs k; simp only [List.length_cons, sizeK]; omega
  have h3 := h2 x.ks
  obtain ⟨lf, ps, tx, ks⟩ := x
  simp only [sizeT, NT.ks] at *
  unfold zBg
  rw [if_neg hq, if_neg (by omega)]
theorem zPt {n m : NT} {q : List Int} (hg : kB n q = some m) : sizeT m <= sizeT n := by have := zGh q n m hg; omega
theorem kLc {n x : NT} {q : List Int} (hc : zBw n q = (x, 0)) : sizeT x <= sizeT n := by
 have := zFn (n := n) (p := q) (by rw [hc])
 rw [hc] at this
 have e : sizeT x + sizeT (zE3 n q) = sizeT n := this
 omega
end Go.Proofs.YtmkciabefepelaaGreat
