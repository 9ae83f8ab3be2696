import Derived.Test.YtmkciabefepelaaGreatJRMer
set_option maxRecDepth 100000
set_option maxHeartbeats 8000000
namespace Go.Proofs.YtmkciabefepelaaGreat
open Go.RowKit
variable {w:World}{n u x y:NT}{q2:List Int}{r:NT×Int}
theorem kNl {P Q:Prop}(k:Q)(h:Q->P:=by
 intro kk;simp only[Act.put,List.getElem_toArray,List.getElem_cons_succ,List.getElem_cons_zero,List.setIfInBounds_toArray,List.set_cons_succ,List.set_cons_zero];exact kk):P:=h k
theorem kX0 {c:NC}{o:OC}{a:OpP}{k:Nat}{E:Int}(hn:kS w c n)(ho:OkA w o a)(ta:zAf a)(hk:o.k=4)(hcw:chk a.w=0)(hcut:zBw n a.q=(x,0))(hcm:zE3 n a.q=y)(hz:decide (o.z<0)=false)(fJ:o.z=(k:Int))(hkl:k<=y.tx.length)(nW:zG9 y=E)(hov:decide (E<o.z)=false)(hnx:zBg a.q=(q2,0))(hin:InI q2)(bA:q2.length<=1000)(aI:y.lf=true)(hput:zSe n a.q (jN y k)=(u,0))(hsz:sizeT u<=100000)(had:zGo u q2 (zA2 y k a.w)=r):Calls Tryz.prog 48 #[.agg c.row,.agg o.row] w (kNs w r):=by
 have dV:=hd hcw;have aL:=hd hcut;have cL:=hd hcm;have uV:=hd fJ;have li:=hd hkl;have su:=hd nW;have dQ:=hd hnx;have dZ:=hd hin;have fe:=hd bA;have di:=hd aI;have bp:=hd hput;have cY:=hd hsz;have HAD:=hd had;clear hcw hcut hcm fJ hkl nW hnx hin bA aI hput hsz had;first|have k1:(o.k==1)=true:=by simp[hk]|have k1:(o.k==1)=false:=by simp[hk]
 first|have k2:(o.k==2)=true:=by simp[hk]|have k2:(o.k==2)=false:=by simp[hk]
 first|have k3:(o.k==3)=true:=by simp[hk]|have k3:(o.k==3)=false:=by simp[hk]
 first|have k4:(o.k==4)=true:=by simp[hk]|have k4:(o.k==4)=false:=by simp[hk]
 first|have k5:(o.k==5)=true:=by simp[hk]|have k5:(o.k==5)=false:=by simp[hk]
 first|have k6:(o.k==6)=true:=by simp[hk]|have k6:(o.k==6)=false:=by simp[hk]
 first|have k7:(o.k==7)=true:=by simp[hk]|have k7:(o.k==7)=false:=by simp[hk]
 first|have k9:(o.k !=6)=true:=by simp[hk]|have k9:(o.k !=6)=false:=by simp[hk]
 clear hk;have HN:=hd hn;have HO:=hd ho;have aA:=hd ta;clear hn ho ta;obtain⟨W0,hW,hst⟩:=zDc w c o;have HW:=hd hW;have HM:=hd hst;clear hW hst;go_enter Tryz.func48,Tryz.ntmps48
 go_upto_region 1 with fail
 rw[HW.o];clear HW;go_upto_region 36 with(first
  |((with_reducible refine zC (ty:=26) (x:=.tmp 2) ?_);refine zB zD HM.o.v2 rfl _ rfl rfl rfl ?_)
  |((with_reducible refine zC (ty:=3) ?_);refine zE HM.o.v3 (j:=0) (v:=.int .i64 o.k) _ rfl rfl rfl rfl Tryz.underlying3 rfl ?_)
  |((with_reducible refine zC (ty:=27) ?_);refine zE HM.o.v3 (j:=1) (v:=.slice o.Q o.lq o.cq) _ rfl rfl rfl rfl Tryz.underlying27 rfl ?_)
  |((with_reducible refine zC (ty:=22) ?_);refine zE HM.o.v3 (j:=9) (v:=.slice o.W o.nw o.cw) _ rfl rfl rfl rfl Tryz.underlying22 rfl ?_)
  |(go_at_call 100;refine Calls.mono (kNy (HO.o.later HM.o.below) dV.o) ?_;rintro e w1 ⟨rfl,b9⟩;have HM:=hd (HM.o.call b9);clear b9)
  |(go_at_call 95;refine Calls.mono (kOi (HN.o.later HM.o.below) (zKt.later (HO.o.hasq aA.o) HM.o.below) aL.o cL.o) ?_;rintro e w3 ⟨cr,cy,rfl,h1,h2,b9⟩;have hlo:=HM.o.v4.lt;have hsz:=HM.o.below.size;have HX:=hd h1;have HY:=hd h2;have HI:=hd (kNn HX.o);have HM:=hd (HM.o.call b9);have dP:=HM.o.v4.lt;clear b9 h1 h2;dsimp only)
  |((with_reducible refine zF (ty:=26) ?_);refine zA zD (r0:=NC.nil.row) (r:=cr.row) (zP3 w3).1 rfl rfl cr.one _ _ rfl rfl rfl rfl rfl ?_;intro W4 hv ho;have aB:=hd hv;have HM:=hd ((HM.o.call (zP3 w3).2.2).off Kb ho);have HI:=hd ((HI.o.call (zP3 w3).2.2).off2 ho Kb);have au:=hd ((zP3 w3).2.1.off ho Kb);clear hv ho)
  |((with_reducible refine zF (ty:=26) ?_);refine zA zD (r0:=NC.nil.row) (r:=cy.row) au.o rfl rfl cy.one _ _ rfl rfl rfl rfl rfl ?_;intro W5 hv ho;have aB:=hd (aB.o.off ho Kb);have HM:=hd (HM.o.off Kb ho);have HI:=hd (HI.o.off2 ho Kb);have au:=hd hv;clear hv ho))
 have HM:=hd (HM.o.call (Kk.drew));have aB:=hd (aB.o.keep (Kk.drew));have au:=hd (au.o.keep (Kk.drew));have HI:=hd (HI.o.call (Kk.drew));refine jO (S:=fun W'=>jT 26 W' (w3.heap.size+1) cy.row/\jR W' (w.heap.size+1) o) (z:=fun _=>false) Ka ?_;have ac:=hd (And.intro au.o HM.o.v3);refine Ko 0 9 (.pointer (some ⟨w.heap.size+1,3,none⟩)) ac.o ?_;simp only[Act.put,List.getElem_toArray,List.getElem_cons_zero,List.setIfInBounds_toArray,List.set_cons_succ,List.set_cons_zero];refine Kn 1 8 (.int .i64 o.z) (fun W9 aC=>?_) ac.o ?_
 ·exact kV (j:=3) aC.2.toR _ rfl rfl rfl Tryz.underlying3 rfl
 refine kNl ?_;refine Ko 2 7 (.bool false) ac.o ?_;refine kNl ?_;refine Ko 3 6 (.bool false) ac.o ?_;refine kNl ?_;refine Ko 4 5 (.pointer (some ⟨w.heap.size+1,3,none⟩)) ac.o ?_;refine kNl ?_;refine Kn 5 4 (.int .i64 o.z) (fun W9 aC=>?_) ac.o ?_
 ·exact kV (j:=3) aC.2.toR _ rfl rfl rfl Tryz.underlying3 rfl
 refine kNl ?_;refine Kn 6 3 (.agg cy.row) (fun W9 aC=>?_) ac.o ?_
 ·exact zS zD aC.1 rfl _ rfl rfl
 refine kNl ?_;refine Kp 7 2 (fun K hK=>?_);rw[if_pos Ka];go_simp;go_at_call 98
 refine(kPm (c:=cy) (HY.o.high HI.o).now su.o).mono ?_;rintro e w5 ⟨rfl,b9⟩;have HM:=hd (HM.o.call b9);have aB:=hd (aB.o.keep b9);have au:=hd (au.o.keep b9);have HI:=hd (HI.o.call b9);clear b9 ac;have ac:=hd (And.intro au.o HM.o.v3);refine hK _ _ (fun _=>ac.o) ?_;clear hK K;refine Ko 8 1 (.bool false) ac.o ?_;refine kNl ?_;refine Kp 9 0 (fun K hK=>?_);rw[if_pos Ka];go_simp;refine hK _ _ (fun _=>ac.o) (zAl Ka ?_);clear hK K ac;have hmp:=(HY.o.high HI.o).now.parts;have hkl:=li.o;have fJ:=uV.o;have hk2:k<=cy.nt:=by rw[<-hmp.nt];exact hkl
 have hcap:k<=cy.tc:=by have:=hmp.f.2.2.2.2.2.1;have:=hmp.nt;omega
 obtain⟨D,hD,aR⟩:=zLb cy.X cy.nt cy.tc k hk2 (by have:=hmp.f.2.2.2.2.2.1;have:=hmp.nt;omega);have bD:∀W:World,(Instr.slice 23 (.slice cy.X cy.nt cy.tc) none (some (.int .i64 o.z)) none).run Tryz.prog W=.ok (.slice cy.X k cy.tc) W:=by rw[fJ];exact zLc cy.X cy.nt cy.tc k hcap
 have bu:∀W:World,(Instr.slice 23 (.slice cy.X cy.nt cy.tc) (some (.int .i64 o.z)) none none).run Tryz.prog W=.ok (.slice D (cy.nt-k) (cy.tc-k)) W:=by rw[fJ];exact aR
 have HD:=hd hD;have HK:=hd hk2;have uW:=au.o.lt;have uX:=HM.o.v4.lt;clear hmp hkl fJ hD aR hcap hk2;go_wp2_with(first
  |((with_reducible refine zC (ty:=4) (x:=.tmp 168) ?_);refine zM au.o (j:=0) (v:=.bool cy.lf) _ rfl rfl rfl rfl Tryz.underlying4 rfl ?_)
  |((with_reducible refine zC (ty:=4) (x:=.tmp 173) ?_);refine zM au.o (j:=0) (v:=.bool true) _ rfl rfl rfl (by have h9:=HY.o.now.lf;rw[di.o]at h9;simp only[NC.row,<-h9];rfl) Tryz.underlying4 rfl ?_)
  |((with_reducible refine zC (ty:=22) ?_);refine zE HM.o.v3 (j:=9) (v:=.slice o.W o.nw o.cw) _ rfl rfl rfl rfl Tryz.underlying22 rfl ?_)
  |((with_reducible refine zF (ty:=26) (x:=.tmp 20) ?_);refine zA zD (r0:=NC.nil.row) (r:=(⟨cy.lf,o.W,o.nw,o.cw,none,0,0,none,0,0⟩:NC).row) (zAr w5).1 rfl rfl (⟨cy.lf,o.W,o.nw,o.cw,none,0,0,none,0,0⟩:NC).one _ _ rfl rfl rfl rfl rfl ?_;intro W6 hv ho;have bz:=hd hv;have HM:=hd ((HM.o.call (zAr w5).2).off Kb ho);have au:=hd ((au.o.keep (zAr w5).2).off ho Kb);have HI:=hd ((HI.o.call (zAr w5).2).off2 ho Kb);clear hv ho)
  |((with_reducible refine zC (ty:=23) (x:=.tmp 175) ?_);refine zM au.o (j:=2) (v:=.slice cy.X cy.nt cy.tc) _ rfl rfl rfl rfl Tryz.underlying23 rfl ?_)
  |((with_reducible refine zC (ty:=23) (x:=.tmp 181) ?_);refine zM au.o (j:=2) (v:=.slice cy.X cy.nt cy.tc) _ rfl rfl rfl rfl Tryz.underlying23 rfl ?_)
  |((with_reducible refine zC (ty:=3) ?_);refine zE HM.o.v3 (j:=3) (v:=.int .i64 o.z) _ rfl rfl rfl rfl Tryz.underlying3 rfl ?_)
  |((with_reducible refine zF (ty:=23) (x:=.tmp 180) ?_);refine zFd zFu (r':=(⟨cy.lf,o.W,o.nw,o.cw,D,cy.nt-k,cy.tc-k,none,0,0⟩:NC).row) bz.o _ _ rfl rfl rfl 2 (.slice D (cy.nt-k) (cy.tc-k)) rfl rfl rfl rfl (by rw[NC.size];decide) Ka ?_;intro W7 hv ho;have HM:=hd (HM.o.off Kb ho);have HI:=hd (HI.o.off2 ho Kb);have au:=hd (au.o.off ho Kb);have bz:=hd hv;clear hv ho)
  |((with_reducible refine zF (ty:=23) (x:=.tmp 186) ?_);refine zFd zFu (r':=({cy with nt:=k}:NC).row) au.o _ _ rfl rfl rfl 2 (.slice cy.X k cy.tc) rfl rfl rfl rfl (by rw[NC.size];decide) Ka ?_;intro W8 hv ho;have HM:=hd (HM.o.off Kb ho);have HI:=hd (HI.o.off2 ho Kb);have au:=hd hv;have bz:=hd (bz.o.off ho Kb);clear hv ho)
  |((with_reducible refine zC (ty:=26) (x:=.tmp 2) ?_);refine zB zD HM.o.v2 rfl _ rfl rfl rfl ?_)
  |((with_reducible refine zC (ty:=27) ?_);refine zE HM.o.v3 (j:=1) (v:=.slice o.Q o.lq o.cq) _ rfl rfl rfl rfl Tryz.underlying27 rfl ?_)
  |((with_reducible refine zC (ty:=26) (x:=.tmp 18) ?_);refine zB zD au.o rfl _ rfl rfl rfl ?_)
  |(go_at_call 99;refine Calls.mono (kPk (d:=({cy with nt:=k}:NC)) (HN.o.later HM.o.below) (zR6 (HY.o.high HI.o).now di.o HK.o) (zKt.later (HO.o.hasq aA.o) HM.o.below) bp.o) ?_;rintro e w9 ⟨cp,rfl,hx,b9⟩;have HP:=hd hx.now;have bz:=hd (bz.o.keep b9);have HI:=hd (HI.o.call b9);have HM:=hd (HM.o.call b9);have tS:=HM.o.v4.lt;have uY:=bz.o.lt;have uZ:=HI.o.size;clear b9 hx;dsimp only)
  |((with_reducible refine zF (ty:=26) (x:=.tmp 21) ?_);refine zA zD (r0:=NC.nil.row) (r:=cp.row) (zAr w9).1 rfl rfl cp.one _ _ rfl rfl rfl rfl rfl ?_;intro vd hv ho;have iG:=hd hv;have HP:=hd (HP.o.later2 (zAr w9).2 ho Kl);have bz:=hd ((bz.o.keep (zAr w9).2).off ho Kb);have HI:=hd ((HI.o.call (zAr w9).2).off2 ho Kb);have HM:=hd ((HM.o.call (zAr w9).2).off Kb ho);clear hv ho)
  |(go_at_call 101;refine Calls.mono (kTv (HO.o.later HM.o.below) aA.o dQ.o) ?_;rintro e w2 ⟨A2,l2,c2,rfl,hl2,hc2,hi2,b9⟩;have av:=hd (show Pth _ w2 A2 l2 c2 q2 w2 from⟨hl2,by have h5:=fe.o;have h6:q2.length=l2:=hl2;omega,hc2,dZ.o,hi2,zA5.refl _ _⟩);have bz:=hd (bz.o.keep b9);have iG:=hd (iG.o.keep b9);have HP:=hd (HP.o.later b9);have HI:=hd (HI.o.call b9);have HM:=hd (HM.o.call b9);clear b9 hl2 hc2 hi2;dsimp only)
  |((with_reducible refine zC (ty:=26) (x:=.tmp 21) ?_);refine zB zD iG.o rfl _ rfl rfl rfl ?_)
  |((with_reducible refine zC (ty:=26) (x:=.tmp 20) ?_);refine zB zD bz.o rfl _ rfl rfl rfl ?_)
  |(go_at_call 94;refine Calls.mono (kQr (d:=(⟨cy.lf,o.W,o.nw,o.cw,D,cy.nt-k,cy.tc-k,none,0,0⟩:NC)) HP.o (zR7 (HY.o.high HI.o).now (HO.o.later HM.o.below) di.o HK.o HD.o) av.o.has cY.o HAD.o) ?_;rintro e wF ⟨cf,rfl,hx,b9⟩;have eG:=HM.o.v4.lt;have gu:=HM.o.below.size;have bI:=hd hx;have HM:=hd (HM.o.call b9);clear b9 hx;dsimp only)
  |((with_reducible refine zF (ty:=26) ?_);refine zA zD (r0:=NC.nil.row) (r:=cf.row) HM.o.v4 rfl rfl cf.one _ _ rfl rfl rfl rfl rfl ?_;intro W9 hv ho;have HM:=hd (HM.o.set4 (a':=cf) hv ho);(try have bI:=hd (bI.o.off ho Kb));(try have HI:=hd (HI.o.off2 ho Kb));clear hv ho))
 exact bodyPost_ret (kU Tryz.results48 _ _ HM.o.v4 rfl) rfl ⟨cf,rfl,fun _=>bI.o.more Kb,HM.o.below⟩
theorem kX1 {c:NC}{o:OC}{a:OpP}{k:Nat}{E:Int}(hn:kS w c n)(ho:OkA w o a)(ta:zAf a)(hk:o.k=4)(hcw:chk a.w=0)(hcut:zBw n a.q=(x,0))(hcm:zE3 n a.q=y)(hz:decide (o.z<0)=false)(fJ:o.z=(k:Int))(hkl:k<=y.ks.length)(nW:zG9 y=E)(hov:decide (E<o.z)=false)(hnx:zBg a.q=(q2,0))(hin:InI q2)(bA:q2.length<=1000)(aI:y.lf=false)(hput:zSe n a.q (jN y k)=(u,0))(hsz:sizeT u<=100000)(had:zGo u q2 (zA2 y k a.w)=r):Calls Tryz.prog 48 #[.agg c.row,.agg o.row] w (kNs w r):=by
 have dV:=hd hcw;have aL:=hd hcut;have cL:=hd hcm;have uV:=hd fJ;have li:=hd hkl;have su:=hd nW;have dQ:=hd hnx;have dZ:=hd hin;have fe:=hd bA;have di:=hd aI;have bp:=hd hput;have cY:=hd hsz;have HAD:=hd had;clear hcw hcut hcm fJ hkl nW hnx hin bA aI hput hsz had;first|have k1:(o.k==1)=true:=by simp[hk]|have k1:(o.k==1)=false:=by simp[hk]
 first|have k2:(o.k==2)=true:=by simp[hk]|have k2:(o.k==2)=false:=by simp[hk]
 first|have k3:(o.k==3)=true:=by simp[hk]|have k3:(o.k==3)=false:=by simp[hk]
 first|have k4:(o.k==4)=true:=by simp[hk]|have k4:(o.k==4)=false:=by simp[hk]
 first|have k5:(o.k==5)=true:=by simp[hk]|have k5:(o.k==5)=false:=by simp[hk]
 first|have k6:(o.k==6)=true:=by simp[hk]|have k6:(o.k==6)=false:=by simp[hk]
 first|have k7:(o.k==7)=true:=by simp[hk]|have k7:(o.k==7)=false:=by simp[hk]
 first|have k9:(o.k !=6)=true:=by simp[hk]|have k9:(o.k !=6)=false:=by simp[hk]
 clear hk;have HN:=hd hn;have HO:=hd ho;have aA:=hd ta;clear hn ho ta;obtain⟨W0,hW,hst⟩:=zDc w c o;have HW:=hd hW;have HM:=hd hst;clear hW hst;go_enter Tryz.func48,Tryz.ntmps48
 go_upto_region 1 with fail
 rw[HW.o];clear HW;go_upto_region 36 with(first
  |((with_reducible refine zC (ty:=26) (x:=.tmp 2) ?_);refine zB zD HM.o.v2 rfl _ rfl rfl rfl ?_)
  |((with_reducible refine zC (ty:=3) ?_);refine zE HM.o.v3 (j:=0) (v:=.int .i64 o.k) _ rfl rfl rfl rfl Tryz.underlying3 rfl ?_)
  |((with_reducible refine zC (ty:=27) ?_);refine zE HM.o.v3 (j:=1) (v:=.slice o.Q o.lq o.cq) _ rfl rfl rfl rfl Tryz.underlying27 rfl ?_)
  |((with_reducible refine zC (ty:=22) ?_);refine zE HM.o.v3 (j:=9) (v:=.slice o.W o.nw o.cw) _ rfl rfl rfl rfl Tryz.underlying22 rfl ?_)
  |(go_at_call 100;refine Calls.mono (kNy (HO.o.later HM.o.below) dV.o) ?_;rintro e w1 ⟨rfl,b9⟩;have HM:=hd (HM.o.call b9);clear b9)
  |(go_at_call 95;refine Calls.mono (kOi (HN.o.later HM.o.below) (zKt.later (HO.o.hasq aA.o) HM.o.below) aL.o cL.o) ?_;rintro e w3 ⟨cr,cy,rfl,h1,h2,b9⟩;have hlo:=HM.o.v4.lt;have hsz:=HM.o.below.size;have HX:=hd h1;have HY:=hd h2;have HI:=hd (kNn HX.o);have HM:=hd (HM.o.call b9);have dP:=HM.o.v4.lt;clear b9 h1 h2;dsimp only)
  |((with_reducible refine zF (ty:=26) ?_);refine zA zD (r0:=NC.nil.row) (r:=cr.row) (zP3 w3).1 rfl rfl cr.one _ _ rfl rfl rfl rfl rfl ?_;intro W4 hv ho;have aB:=hd hv;have HM:=hd ((HM.o.call (zP3 w3).2.2).off Kb ho);have HI:=hd ((HI.o.call (zP3 w3).2.2).off2 ho Kb);have au:=hd ((zP3 w3).2.1.off ho Kb);clear hv ho)
  |((with_reducible refine zF (ty:=26) ?_);refine zA zD (r0:=NC.nil.row) (r:=cy.row) au.o rfl rfl cy.one _ _ rfl rfl rfl rfl rfl ?_;intro W5 hv ho;have aB:=hd (aB.o.off ho Kb);have HM:=hd (HM.o.off Kb ho);have HI:=hd (HI.o.off2 ho Kb);have au:=hd hv;clear hv ho))
 have HM:=hd (HM.o.call (Kk.drew));have aB:=hd (aB.o.keep (Kk.drew));have au:=hd (au.o.keep (Kk.drew));have HI:=hd (HI.o.call (Kk.drew));refine jO (S:=fun W'=>jT 26 W' (w3.heap.size+1) cy.row/\jR W' (w.heap.size+1) o) (z:=fun _=>false) Ka ?_;have ac:=hd (And.intro au.o HM.o.v3);refine Ko 0 9 (.pointer (some ⟨w.heap.size+1,3,none⟩)) ac.o ?_;simp only[Act.put,List.getElem_toArray,List.getElem_cons_zero,List.setIfInBounds_toArray,List.set_cons_succ,List.set_cons_zero];refine Kn 1 8 (.int .i64 o.z) (fun W9 aC=>?_) ac.o ?_
 ·exact kV (j:=3) aC.2.toR _ rfl rfl rfl Tryz.underlying3 rfl
 refine kNl ?_;refine Ko 2 7 (.bool false) ac.o ?_;refine kNl ?_;refine Ko 3 6 (.bool false) ac.o ?_;refine kNl ?_;refine Ko 4 5 (.pointer (some ⟨w.heap.size+1,3,none⟩)) ac.o ?_;refine kNl ?_;refine Kn 5 4 (.int .i64 o.z) (fun W9 aC=>?_) ac.o ?_
 ·exact kV (j:=3) aC.2.toR _ rfl rfl rfl Tryz.underlying3 rfl
 refine kNl ?_;refine Kn 6 3 (.agg cy.row) (fun W9 aC=>?_) ac.o ?_
 ·exact zS zD aC.1 rfl _ rfl rfl
 refine kNl ?_;refine Kp 7 2 (fun K hK=>?_);rw[if_pos Ka];go_simp;go_at_call 98
 refine(kPm (c:=cy) (HY.o.high HI.o).now su.o).mono ?_;rintro e w5 ⟨rfl,b9⟩;have HM:=hd (HM.o.call b9);have aB:=hd (aB.o.keep b9);have au:=hd (au.o.keep b9);have HI:=hd (HI.o.call b9);clear b9 ac;have ac:=hd (And.intro au.o HM.o.v3);refine hK _ _ (fun _=>ac.o) ?_;clear hK K;refine Ko 8 1 (.bool false) ac.o ?_;refine kNl ?_;refine Kp 9 0 (fun K hK=>?_);rw[if_pos Ka];go_simp;refine hK _ _ (fun _=>ac.o) (zAl Ka ?_);clear hK K ac;have hmp:=(HY.o.high HI.o).now.parts;have hkl:=li.o;have fJ:=uV.o;have hk2:k<=cy.nk:=by rw[<-hmp.nk];exact hkl
 have hcap:k<=cy.kc:=by have:=hmp.f.2.2.2.2.2.2;have:=hmp.nk;omega
 obtain⟨D,hD,aR⟩:=zVa cy.K cy.nk cy.kc k hk2 (by have:=hmp.f.2.2.2.2.2.2;have:=hmp.nk;omega);have bD:∀W:World,(Instr.slice 24 (.slice cy.K cy.nk cy.kc) none (some (.int .i64 o.z)) none).run Tryz.prog W=.ok (.slice cy.K k cy.kc) W:=by rw[fJ];exact zRw cy.K cy.nk cy.kc k hcap
 have bu:∀W:World,(Instr.slice 24 (.slice cy.K cy.nk cy.kc) (some (.int .i64 o.z)) none none).run Tryz.prog W=.ok (.slice D (cy.nk-k) (cy.kc-k)) W:=by rw[fJ];exact aR
 have HD:=hd hD;have HK:=hd hk2;have uW:=au.o.lt;have uX:=HM.o.v4.lt;clear hmp hkl fJ hD aR hcap hk2;go_wp2_with(first
  |((with_reducible refine zC (ty:=4) (x:=.tmp 168) ?_);refine zM au.o (j:=0) (v:=.bool cy.lf) _ rfl rfl rfl rfl Tryz.underlying4 rfl ?_)
  |((with_reducible refine zC (ty:=4) (x:=.tmp 173) ?_);refine zM au.o (j:=0) (v:=.bool false) _ rfl rfl rfl (by have h9:=HY.o.now.lf;rw[di.o]at h9;simp only[NC.row,<-h9];rfl) Tryz.underlying4 rfl ?_)
  |((with_reducible refine zC (ty:=22) ?_);refine zE HM.o.v3 (j:=9) (v:=.slice o.W o.nw o.cw) _ rfl rfl rfl rfl Tryz.underlying22 rfl ?_)
  |((with_reducible refine zF (ty:=26) (x:=.tmp 20) ?_);refine zA zD (r0:=NC.nil.row) (r:=(⟨cy.lf,o.W,o.nw,o.cw,none,0,0,none,0,0⟩:NC).row) (zAr w5).1 rfl rfl (⟨cy.lf,o.W,o.nw,o.cw,none,0,0,none,0,0⟩:NC).one _ _ rfl rfl rfl rfl rfl ?_;intro W6 hv ho;have bz:=hd hv;have HM:=hd ((HM.o.call (zAr w5).2).off Kb ho);have au:=hd ((au.o.keep (zAr w5).2).off ho Kb);have HI:=hd ((HI.o.call (zAr w5).2).off2 ho Kb);clear hv ho)
  |((with_reducible refine zC (ty:=24) (x:=.tmp 187) ?_);refine zM au.o (j:=3) (v:=.slice cy.K cy.nk cy.kc) _ rfl rfl rfl rfl Tryz.underlying24 rfl ?_)
  |((with_reducible refine zC (ty:=24) (x:=.tmp 193) ?_);refine zM au.o (j:=3) (v:=.slice cy.K cy.nk cy.kc) _ rfl rfl rfl rfl Tryz.underlying24 rfl ?_)
  |((with_reducible refine zC (ty:=3) ?_);refine zE HM.o.v3 (j:=3) (v:=.int .i64 o.z) _ rfl rfl rfl rfl Tryz.underlying3 rfl ?_)
  |((with_reducible refine zF (ty:=24) (x:=.tmp 192) ?_);refine zFd zKu (r':=(⟨cy.lf,o.W,o.nw,o.cw,none,0,0,D,cy.nk-k,cy.kc-k⟩:NC).row) bz.o _ _ rfl rfl rfl 3 (.slice D (cy.nk-k) (cy.kc-k)) rfl rfl rfl rfl (by rw[NC.size];decide) Ka ?_;intro W7 hv ho;have HM:=hd (HM.o.off Kb ho);have HI:=hd (HI.o.off2 ho Kb);have au:=hd (au.o.off ho Kb);have bz:=hd hv;clear hv ho)
  |((with_reducible refine zF (ty:=24) (x:=.tmp 198) ?_);refine zFd zKu (r':=({cy with nk:=k}:NC).row) au.o _ _ rfl rfl rfl 3 (.slice cy.K k cy.kc) rfl rfl rfl rfl (by rw[NC.size];decide) Ka ?_;intro W8 hv ho;have HM:=hd (HM.o.off Kb ho);have HI:=hd (HI.o.off2 ho Kb);have au:=hd hv;have bz:=hd (bz.o.off ho Kb);clear hv ho)
  |((with_reducible refine zC (ty:=26) (x:=.tmp 2) ?_);refine zB zD HM.o.v2 rfl _ rfl rfl rfl ?_)
  |((with_reducible refine zC (ty:=27) ?_);refine zE HM.o.v3 (j:=1) (v:=.slice o.Q o.lq o.cq) _ rfl rfl rfl rfl Tryz.underlying27 rfl ?_)
  |((with_reducible refine zC (ty:=26) (x:=.tmp 18) ?_);refine zB zD au.o rfl _ rfl rfl rfl ?_)
  |(go_at_call 99;refine Calls.mono (kPk (d:=({cy with nk:=k}:NC)) (HN.o.later HM.o.below) (kA6 (HY.o.high HI.o).now di.o HK.o) (zKt.later (HO.o.hasq aA.o) HM.o.below) bp.o) ?_;rintro e w9 ⟨cp,rfl,hx,b9⟩;have HP:=hd hx.now;have bz:=hd (bz.o.keep b9);have HI:=hd (HI.o.call b9);have HM:=hd (HM.o.call b9);have tS:=HM.o.v4.lt;have uY:=bz.o.lt;have uZ:=HI.o.size;clear b9 hx;dsimp only)
  |((with_reducible refine zF (ty:=26) (x:=.tmp 21) ?_);refine zA zD (r0:=NC.nil.row) (r:=cp.row) (zAr w9).1 rfl rfl cp.one _ _ rfl rfl rfl rfl rfl ?_;intro vd hv ho;have iG:=hd hv;have HP:=hd (HP.o.later2 (zAr w9).2 ho Kl);have bz:=hd ((bz.o.keep (zAr w9).2).off ho Kb);have HI:=hd ((HI.o.call (zAr w9).2).off2 ho Kb);have HM:=hd ((HM.o.call (zAr w9).2).off Kb ho);clear hv ho)
  |(go_at_call 101;refine Calls.mono (kTv (HO.o.later HM.o.below) aA.o dQ.o) ?_;rintro e w2 ⟨A2,l2,c2,rfl,hl2,hc2,hi2,b9⟩;have av:=hd (show Pth _ w2 A2 l2 c2 q2 w2 from⟨hl2,by have h5:=fe.o;have h6:q2.length=l2:=hl2;omega,hc2,dZ.o,hi2,zA5.refl _ _⟩);have bz:=hd (bz.o.keep b9);have iG:=hd (iG.o.keep b9);have HP:=hd (HP.o.later b9);have HI:=hd (HI.o.call b9);have HM:=hd (HM.o.call b9);clear b9 hl2 hc2 hi2;dsimp only)
  |((with_reducible refine zC (ty:=26) (x:=.tmp 21) ?_);refine zB zD iG.o rfl _ rfl rfl rfl ?_)
  |((with_reducible refine zC (ty:=26) (x:=.tmp 20) ?_);refine zB zD bz.o rfl _ rfl rfl rfl ?_)
  |(go_at_call 94;refine Calls.mono (kQr (d:=(⟨cy.lf,o.W,o.nw,o.cw,none,0,0,D,cy.nk-k,cy.kc-k⟩:NC)) HP.o (kA7 (HY.o.high HI.o).now (HO.o.later HM.o.below) di.o HK.o HD.o) av.o.has cY.o HAD.o) ?_;rintro e wF ⟨cf,rfl,hx,b9⟩;have eG:=HM.o.v4.lt;have gu:=HM.o.below.size;have bI:=hd hx;have HM:=hd (HM.o.call b9);clear b9 hx;dsimp only)
  |((with_reducible refine zF (ty:=26) ?_);refine zA zD (r0:=NC.nil.row) (r:=cf.row) HM.o.v4 rfl rfl cf.one _ _ rfl rfl rfl rfl rfl ?_;intro W9 hv ho;have HM:=hd (HM.o.set4 (a':=cf) hv ho);(try have bI:=hd (bI.o.off ho Kb));(try have HI:=hd (HI.o.off2 ho Kb));clear hv ho))
 exact bodyPost_ret (kU Tryz.results48 _ _ HM.o.v4 rfl) rfl ⟨cf,rfl,fun _=>bI.o.more Kb,HM.o.below⟩
