import Derived.Test.YtmkciabefepelaaGreatJRDo2
set_option maxRecDepth 100000
set_option maxHeartbeats 8000000
namespace Go.Proofs.YtmkciabefepelaaGreat
open Go.RowKit
variable {P:Prop}{W W' w:World}{c:NC}{b n x y:NT}{a:OpP}{q2:List Int}{E:Int}
theorem kO2 {Q:Prop}(k:Q)(h:Q->P:=by
 intro kk;simp only[Act.put,List.getElem_toArray,List.getElem_cons_succ,List.getElem_cons_zero,List.setIfInBounds_toArray,List.set_cons_succ,List.set_cons_zero];exact kk):P:=h k
theorem rdD (h:P:=by
 have HN:=hd hn;have HO:=hd ho;have aA:=hd ta;clear hn ho ta;obtain⟨W0,hW,hst⟩:=zDc w c o;have HW:=hd hW;have HM:=hd hst;clear hW hst;go_enter Tryz.func48,Tryz.ntmps48
 go_upto_region 1 with fail
 rw[HW.o];clear HW;go_wp2_with(first
  |((with_reducible refine zC (ty:=26) (x:=.tmp 2) ?_);refine zB zD HM.o.v2 rfl _ rfl rfl rfl ?_)
  |((with_reducible refine zC (ty:=3) ?_);refine zE HM.o.v3 (j:=0) (v:=.int .i64 o.k) _ rfl rfl rfl rfl Tryz.underlying3 rfl ?_)
  |((with_reducible refine zC (ty:=27) ?_);refine zE HM.o.v3 (j:=1) (v:=.slice o.Q o.lq o.cq) _ rfl rfl rfl rfl Tryz.underlying27 rfl ?_)
  |((with_reducible refine zC (ty:=22) ?_);refine zE HM.o.v3 (j:=9) (v:=.slice o.W o.nw o.cw) _ rfl rfl rfl rfl Tryz.underlying22 rfl ?_)
  |(go_at_call 100;refine Calls.mono (kNy (HO.o.later HM.o.below) dV.o) ?_;rintro e w1 ⟨rfl,b9⟩;have HM:=hd (HM.o.call b9);clear b9)
  |(go_at_call 95;refine Calls.mono (kOi (HN.o.later HM.o.below) (zKt.later (HO.o.hasq aA.o) HM.o.below) aL.o cL.o) ?_;rintro e w3 ⟨cr,cy,rfl,h1,h2,b9⟩;have hlo:=HM.o.v4.lt;have hsz:=HM.o.below.size;have HX:=hd h1;have HY:=hd h2;have HI:=hd (kNn HX.o);have HM:=hd (HM.o.call b9);have dP:=HM.o.v4.lt;clear b9 h1 h2;dsimp only)
  |((with_reducible refine zF (ty:=26) ?_);refine zA zD (r0:=NC.nil.row) (r:=cr.row) (zP3 w3).1 rfl rfl cr.one _ _ rfl rfl rfl rfl rfl ?_;intro W4 hv ho;have aB:=hd hv;have HM:=hd ((HM.o.call (zP3 w3).2.2).off Kb ho);have HI:=hd ((HI.o.call (zP3 w3).2.2).off2 ho Kb);have au:=hd ((zP3 w3).2.1.off ho Kb);clear hv ho)
  |((with_reducible refine zF (ty:=26) ?_);refine zA zD (r0:=NC.nil.row) (r:=cy.row) au.o rfl rfl cy.one _ _ rfl rfl rfl rfl rfl ?_;intro W5 hv ho;have aB:=hd (aB.o.off ho Kb);have HM:=hd (HM.o.off Kb ho);have HI:=hd (HI.o.off2 ho Kb);have au:=hd hv;clear hv ho)
  |(go_at_call 96;refine Calls.mono (kP3 (HO.o.later HM.o.below) aA.o ej.o) ?_;rintro e w2 ⟨A2,l2,c2,rfl,hl2,hc2,hi2,b9⟩;(try have av:=hd (show Pth _ w2 A2 l2 c2 q2 w2 from⟨hl2,by have h5:=fe.o;have h6:q2.length=l2:=hl2;omega,hc2,dZ.o,hi2,zA5.refl _ _⟩));have aB:=hd (aB.o.keep b9);have au:=hd (au.o.keep b9);have HI:=hd (HI.o.call b9);have HM:=hd (HM.o.call b9);have dO:=HM.o.v4.lt;have hlk2:=au.o.lt;clear b9 hl2 hc2 hi2;dsimp only)
  |((with_reducible refine zC (ty:=26) (x:=.tmp 10) ?_);refine zB zD aB.o rfl _ rfl rfl rfl ?_)
  |(have _g:=fW;go_at_call 97;refine Calls.mono (kPv (HX.o.high HI.o).now av.o.has fW.o) ?_;rintro e w4 h4;obtain⟨cb,db,us,rfl,htop,hst,b9⟩:=h4.top;have cO:=hd htop;have HB:=hd hst;have HJ:=hd (kNn hst);have aB:=hd (aB.o.keep b9);have au:=hd (au.o.keep b9);have HI:=hd (HI.o.call b9);have av:=hd (av.o.call b9);have HM:=hd (HM.o.call b9);have kG:=HM.o.v4.lt;have hlk:=au.o.lt;have lg:=b9.size;clear b9 htop hst;dsimp only;clear _g)
  |((with_reducible refine zF (ty:=26) ?_);refine zA zD (r0:=NC.nil.row) (r:=cb.row) (zAr w4).1 rfl rfl cb.one _ _ rfl rfl rfl rfl rfl ?_;intro W6 hv ho;have bk:=hd hv;have HM:=hd ((HM.o.call (zAr w4).2).off Kb ho);have aB:=hd ((aB.o.keep (zAr w4).2).off ho Kb);have au:=hd ((au.o.keep (zAr w4).2).off ho Kb);have HI:=hd ((HI.o.call (zAr w4).2).off2 ho Kb);have HJ:=hd ((HJ.o.call (zAr w4).2).off2 ho Kb);have av:=hd ((av.o.call (zAr w4).2).off ho Kb);clear hv ho)
  |((with_reducible refine zC (ty:=4) (x:=.tmp 99) ?_);refine zM bk.o (j:=0) (v:=.bool true) _ rfl rfl rfl (by have h9:=HB.o.now.lf;rw[fX.o]at h9;simp only[NC.row,<-h9];rfl) Tryz.underlying4 rfl ?_)
  |((with_reducible refine zC (ty:=4) (x:=.tmp 99) ?_);refine zM bk.o (j:=0) (v:=.bool false) _ rfl rfl rfl (by have h9:=HB.o.now.lf;rw[fX.o]at h9;simp only[NC.row,<-h9];rfl) Tryz.underlying4 rfl ?_)
  |((with_reducible refine zC (ty:=4) (x:=.tmp 101) ?_);refine zM au.o (j:=0) (v:=.bool true) _ rfl rfl rfl (by have h9:=HY.o.now.lf;rw[cU.o]at h9;simp only[NC.row,<-h9];rfl) Tryz.underlying4 rfl ?_)
  |((with_reducible refine zC (ty:=4) (x:=.tmp 101) ?_);refine zM au.o (j:=0) (v:=.bool false) _ rfl rfl rfl (by have h9:=HY.o.now.lf;rw[cU.o]at h9;simp only[NC.row,<-h9];rfl) Tryz.underlying4 rfl ?_)
  |((with_reducible refine zF (ty:=26) ?_);refine zA zD (r0:=NC.nil.row) (r:=c.row) HM.o.v4 rfl rfl c.one _ _ rfl rfl rfl rfl rfl ?_;intro W9 hv ho;have HM:=hd (HM.o.set4 (a':=c) hv ho);(try have bI:=hd (bI.o.off ho Kb));(try have HI:=hd (HI.o.off2 ho Kb));clear hv ho))
 first
  |exact bodyPost_ret (kU Tryz.results48 _ _ HM.o.v4 rfl) rfl ⟨c,rfl,fun h=>absurd h dh.o,HM.o.below⟩
 ):P:=h
theorem rdN (h:P:=by
 first|have k1:(o.k==1)=true:=by simp[hk]|have k1:(o.k==1)=false:=by simp[hk]
 first|have k2:(o.k==2)=true:=by simp[hk]|have k2:(o.k==2)=false:=by simp[hk]
 first|have k3:(o.k==3)=true:=by simp[hk]|have k3:(o.k==3)=false:=by simp[hk]
 first|have k4:(o.k==4)=true:=by simp[hk]|have k4:(o.k==4)=false:=by simp[hk]
 first|have k5:(o.k==5)=true:=by simp[hk]|have k5:(o.k==5)=false:=by simp[hk]
 first|have k6:(o.k==6)=true:=by simp[hk]|have k6:(o.k==6)=false:=by simp[hk]
 first|have k7:(o.k==7)=true:=by simp[hk]|have k7:(o.k==7)=false:=by simp[hk]
 first|have k9:(o.k !=6)=true:=by simp[hk]|have k9:(o.k !=6)=false:=by simp[hk]
 clear hk;exact rdD
 ):P:=h
theorem rdE (h:P:=by
 have HN:=hd hn;have HO:=hd ho;have aA:=hd ta;clear hn ho ta;obtain⟨W0,hW,hst⟩:=zDc w c o;have HW:=hd hW;have HM:=hd hst;clear hW hst;go_enter Tryz.func48,Tryz.ntmps48
 go_upto_region 1 with fail
 rw[HW.o];clear HW;go_upto_region 22 with(first
  |((with_reducible refine zC (ty:=26) (x:=.tmp 2) ?_);refine zB zD HM.o.v2 rfl _ rfl rfl rfl ?_)
  |((with_reducible refine zC (ty:=3) ?_);refine zE HM.o.v3 (j:=0) (v:=.int .i64 o.k) _ rfl rfl rfl rfl Tryz.underlying3 rfl ?_)
  |((with_reducible refine zC (ty:=27) ?_);refine zE HM.o.v3 (j:=1) (v:=.slice o.Q o.lq o.cq) _ rfl rfl rfl rfl Tryz.underlying27 rfl ?_)
  |((with_reducible refine zC (ty:=22) ?_);refine zE HM.o.v3 (j:=9) (v:=.slice o.W o.nw o.cw) _ rfl rfl rfl rfl Tryz.underlying22 rfl ?_)
  |(go_at_call 100;refine Calls.mono (kNy (HO.o.later HM.o.below) dV.o) ?_;rintro e w1 ⟨rfl,b9⟩;have HM:=hd (HM.o.call b9);clear b9)
  |(go_at_call 95;refine Calls.mono (kOi (HN.o.later HM.o.below) (zKt.later (HO.o.hasq aA.o) HM.o.below) aL.o cL.o) ?_;rintro e w3 ⟨cr,cy,rfl,h1,h2,b9⟩;have hlo:=HM.o.v4.lt;have hsz:=HM.o.below.size;have HX:=hd h1;have HY:=hd h2;have HI:=hd (kNn HX.o);have HM:=hd (HM.o.call b9);have dP:=HM.o.v4.lt;clear b9 h1 h2;dsimp only)
  |((with_reducible refine zF (ty:=26) ?_);refine zA zD (r0:=NC.nil.row) (r:=cr.row) (zP3 w3).1 rfl rfl cr.one _ _ rfl rfl rfl rfl rfl ?_;intro W4 hv ho;have aB:=hd hv;have HM:=hd ((HM.o.call (zP3 w3).2.2).off Kb ho);have HI:=hd ((HI.o.call (zP3 w3).2.2).off2 ho Kb);have au:=hd ((zP3 w3).2.1.off ho Kb);clear hv ho)
  |((with_reducible refine zF (ty:=26) ?_);refine zA zD (r0:=NC.nil.row) (r:=cy.row) au.o rfl rfl cy.one _ _ rfl rfl rfl rfl rfl ?_;intro W5 hv ho;have aB:=hd (aB.o.off ho Kb);have HM:=hd (HM.o.off Kb ho);have HI:=hd (HI.o.off2 ho Kb);have au:=hd hv;clear hv ho)
  |(go_at_call 96;refine Calls.mono (kP3 (HO.o.later HM.o.below) aA.o ej.o) ?_;rintro e w2 ⟨A2,l2,c2,rfl,hl2,hc2,hi2,b9⟩;(try have av:=hd (show Pth _ w2 A2 l2 c2 q2 w2 from⟨hl2,by have h5:=fe.o;have h6:q2.length=l2:=hl2;omega,hc2,dZ.o,hi2,zA5.refl _ _⟩));have aB:=hd (aB.o.keep b9);have au:=hd (au.o.keep b9);have HI:=hd (HI.o.call b9);have HM:=hd (HM.o.call b9);have dO:=HM.o.v4.lt;have hlk2:=au.o.lt;clear b9 hl2 hc2 hi2;dsimp only)
  |((with_reducible refine zC (ty:=26) (x:=.tmp 10) ?_);refine zB zD aB.o rfl _ rfl rfl rfl ?_)
  |(have _g:=fW;go_at_call 97;refine Calls.mono (kPv (HX.o.high HI.o).now av.o.has fW.o) ?_;rintro e w4 h4;obtain⟨cb,db,us,rfl,htop,hst,b9⟩:=h4.top;have cO:=hd htop;have HB:=hd hst;have HJ:=hd (kNn hst);have aB:=hd (aB.o.keep b9);have au:=hd (au.o.keep b9);have HI:=hd (HI.o.call b9);have av:=hd (av.o.call b9);have HM:=hd (HM.o.call b9);have kG:=HM.o.v4.lt;have hlk:=au.o.lt;have lg:=b9.size;clear b9 htop hst;dsimp only;clear _g)
  |((with_reducible refine zF (ty:=26) ?_);refine zA zD (r0:=NC.nil.row) (r:=cb.row) (zAr w4).1 rfl rfl cb.one _ _ rfl rfl rfl rfl rfl ?_;intro W6 hv ho;have bk:=hd hv;have HM:=hd ((HM.o.call (zAr w4).2).off Kb ho);have aB:=hd ((aB.o.keep (zAr w4).2).off ho Kb);have au:=hd ((au.o.keep (zAr w4).2).off ho Kb);have HI:=hd ((HI.o.call (zAr w4).2).off2 ho Kb);have HJ:=hd ((HJ.o.call (zAr w4).2).off2 ho Kb);have av:=hd ((av.o.call (zAr w4).2).off ho Kb);clear hv ho)
  |((with_reducible refine zC (ty:=4) (x:=.tmp 99) ?_);refine zM bk.o (j:=0) (v:=.bool true) _ rfl rfl rfl (by have h9:=HB.o.now.lf;rw[fX.o]at h9;simp only[NC.row,<-h9];rfl) Tryz.underlying4 rfl ?_)
  |((with_reducible refine zC (ty:=4) (x:=.tmp 99) ?_);refine zM bk.o (j:=0) (v:=.bool false) _ rfl rfl rfl (by have h9:=HB.o.now.lf;rw[fX.o]at h9;simp only[NC.row,<-h9];rfl) Tryz.underlying4 rfl ?_)
  |((with_reducible refine zC (ty:=4) (x:=.tmp 101) ?_);refine zM au.o (j:=0) (v:=.bool true) _ rfl rfl rfl (by have h9:=HY.o.now.lf;rw[cU.o]at h9;simp only[NC.row,<-h9];rfl) Tryz.underlying4 rfl ?_)
  |((with_reducible refine zC (ty:=4) (x:=.tmp 101) ?_);refine zM au.o (j:=0) (v:=.bool false) _ rfl rfl rfl (by have h9:=HY.o.now.lf;rw[cU.o]at h9;simp only[NC.row,<-h9];rfl) Tryz.underlying4 rfl ?_))
 have HM:=hd (HM.o.call (Kk.drew));have aB:=hd (aB.o.keep (Kk.drew));have au:=hd (au.o.keep (Kk.drew));have bk:=hd (bk.o.keep (Kk.drew));have av:=hd (av.o.call (Kk.drew));have HI:=hd (HI.o.call (Kk.drew));have HJ:=hd (HJ.o.call (Kk.drew));refine jO (S:=fun W'=>jR W' (w.heap.size+1) o/\jT 26 W' w4.heap.size cb.row) (z:=fun _=>false) Ka ?_;have ac:=hd (And.intro HM.o.v3 bk.o);refine Kn 0 4 (.agg cb.row) (fun W9 aC=>?_) ac.o ?_
 ·exact zS zD aC.2 rfl _ rfl rfl
 refine kO2 ?_;refine Ko 2 3 (.pointer (some ⟨w.heap.size+1,3,none⟩)) ac.o ?_;refine kO2 ?_;refine Kn 3 2 (.int .i64 o.z) (fun W9 aC=>?_) ac.o ?_
 ·exact kV (j:=3) aC.1.toR _ rfl rfl rfl Tryz.underlying3 rfl
 refine kO2 ?_;refine Kp 1 1 (fun K hK=>?_);rw[if_pos Ka];go_simp;go_at_call 98
 refine(kPm (c:=cb) (HB.o.high HJ.o).now lU.o).mono ?_;rintro e w5 ⟨rfl,b9⟩;have HM:=hd (HM.o.call b9);have aB:=hd (aB.o.keep b9);have au:=hd (au.o.keep b9);have bk:=hd (bk.o.keep b9);have av:=hd (av.o.call b9);have HI:=hd (HI.o.call b9);have HJ:=hd (HJ.o.call b9);clear b9 ac;have ac:=hd (And.intro HM.o.v3 bk.o);refine hK _ _ (fun _=>ac.o) ?_;clear hK K;refine Kp 4 0 (fun K hK=>?_);rw[if_pos Ka];go_simp;refine hK _ _ (fun _=>ac.o) (zAl Ka ?_);clear hK K ac;go_wp2_with(first
  |((with_reducible refine zC (ty:=26) (x:=.tmp 2) ?_);refine zB zD HM.o.v2 rfl _ rfl rfl rfl ?_)
  |((with_reducible refine zC (ty:=22) (x:=.tmp 113) ?_);refine zE HM.o.v3 (j:=8) (v:=.slice o.O o.no o.co) _ rfl rfl rfl rfl Tryz.underlying22 rfl ?_)
  |((with_reducible refine zC (ty:=22) (x:=.tmp 111) ?_);refine zM au.o (j:=1) (v:=.slice cy.P cy.np cy.pc) _ rfl rfl rfl rfl Tryz.underlying22 rfl ?_)
  |(go_at_call 50;refine Calls.mono (kP2 (HY.o.high HI.o).now (HO.o.later HM.o.below) gV.o) ?_;rintro e w6 ⟨rfl,b9⟩;have bk:=hd (bk.o.keep b9);have av:=hd (av.o.call b9);have HJ:=hd (HJ.o.call b9);have aB:=hd (aB.o.keep b9);have au:=hd (au.o.keep b9);have HI:=hd (HI.o.call b9);have HM:=hd (HM.o.call b9);clear b9)
  |((with_reducible refine zF (ty:=26) ?_);refine zA zD (r0:=NC.nil.row) (r:=c.row) HM.o.v4 rfl rfl c.one _ _ rfl rfl rfl rfl rfl ?_;intro W9 hv ho;have HM:=hd (HM.o.set4 (a':=c) hv ho);(try have bI:=hd (bI.o.off ho Kb));(try have HI:=hd (HI.o.off2 ho Kb));clear hv ho))
 first
  |exact bodyPost_ret (kU Tryz.results48 _ _ HM.o.v4 rfl) rfl ⟨c,rfl,fun h=>absurd h dh.o,HM.o.below⟩
 ):P:=h
theorem rdO (h:P:=by
 first|have k1:(o.k==1)=true:=by simp[hk]|have k1:(o.k==1)=false:=by simp[hk]
 first|have k2:(o.k==2)=true:=by simp[hk]|have k2:(o.k==2)=false:=by simp[hk]
 first|have k3:(o.k==3)=true:=by simp[hk]|have k3:(o.k==3)=false:=by simp[hk]
 first|have k4:(o.k==4)=true:=by simp[hk]|have k4:(o.k==4)=false:=by simp[hk]
 first|have k5:(o.k==5)=true:=by simp[hk]|have k5:(o.k==5)=false:=by simp[hk]
 first|have k6:(o.k==6)=true:=by simp[hk]|have k6:(o.k==6)=false:=by simp[hk]
 first|have k7:(o.k==7)=true:=by simp[hk]|have k7:(o.k==7)=false:=by simp[hk]
 first|have k9:(o.k !=6)=true:=by simp[hk]|have k9:(o.k !=6)=false:=by simp[hk]
 clear hk;exact rdE
 ):P:=h
theorem kV4 {o:OC}(hn:kS w c n)(ho:OkA w o a)(ta:zAf a)(hk:o.k=3)(hcut:zBw n a.q=(x,0))(hcm:zE3 n a.q=y)(hbk:jV a.q=(q2,0))(hin:InI q2)(bA:q2.length<=1000)(hgb:zGm x q2=(b,0))(hbl:b.lf=true)(cK:y.lf=false):Calls Tryz.prog 48 #[.agg c.row,.agg o.row] w (kNs w (zeroT,7)):=by
 have aL:=hd hcut;have cL:=hd hcm;have ej:=hd hbk;have dZ:=hd hin;have fe:=hd bA;have fW:=hd hgb;have fX:=hd hbl;have cU:=hd cK;have dh:=hd (show(7:Int)≠0 by decide);clear hcut hcm hbk hin bA hgb hbl cK;exact rdN
theorem kV5 {o:OC}(hn:kS w c n)(ho:OkA w o a)(ta:zAf a)(hk:o.k=3)(hcut:zBw n a.q=(x,0))(hcm:zE3 n a.q=y)(hbk:jV a.q=(q2,0))(hin:InI q2)(bA:q2.length<=1000)(hgb:zGm x q2=(b,0))(hbl:b.lf=false)(cK:y.lf=true):Calls Tryz.prog 48 #[.agg c.row,.agg o.row] w (kNs w (zeroT,7)):=by
 have aL:=hd hcut;have cL:=hd hcm;have ej:=hd hbk;have dZ:=hd hin;have fe:=hd bA;have fW:=hd hgb;have fX:=hd hbl;have cU:=hd cK;have dh:=hd (show(7:Int)≠0 by decide);clear hcut hcm hbk hin bA hgb hbl cK;exact rdN
theorem kV6 {o:OC}(hn:kS w c n)(ho:OkA w o a)(ta:zAf a)(hk:o.k=3)(hcut:zBw n a.q=(x,0))(hcm:zE3 n a.q=y)(hbk:jV a.q=(q2,0))(hin:InI q2)(bA:q2.length<=1000)(hgb:zGm x q2=(b,0))(hbl:b.lf=true)(cK:y.lf=true)(hlb:zG9 b=E)(z2:(E !=o.z)=true):Calls Tryz.prog 48 #[.agg c.row,.agg o.row] w (kNs w (zeroT,8)):=by
 have aL:=hd hcut;have cL:=hd hcm;have ej:=hd hbk;have dZ:=hd hin;have fe:=hd bA;have fW:=hd hgb;have fX:=hd hbl;have cU:=hd cK;have lU:=hd hlb;have dh:=hd (show(8:Int)≠0 by decide);clear hcut hcm hbk hin bA hgb hbl cK hlb;exact rdO
theorem kV7 {o:OC}(hn:kS w c n)(ho:OkA w o a)(ta:zAf a)(hk:o.k=3)(hcut:zBw n a.q=(x,0))(hcm:zE3 n a.q=y)(hbk:jV a.q=(q2,0))(hin:InI q2)(bA:q2.length<=1000)(hgb:zGm x q2=(b,0))(hbl:b.lf=true)(cK:y.lf=true)(hlb:zG9 b=E)(z2:(E !=o.z)=false)(hop:decide (y.ps=a.o)=false):Calls Tryz.prog 48 #[.agg c.row,.agg o.row] w (kNs w (zeroT,9)):=by
 have aL:=hd hcut;have cL:=hd hcm;have ej:=hd hbk;have dZ:=hd hin;have fe:=hd bA;have fW:=hd hgb;have fX:=hd hbl;have cU:=hd cK;have lU:=hd hlb;have gV:=hd hop;have dh:=hd (show(9:Int)≠0 by decide);clear hcut hcm hbk hin bA hgb hbl cK hlb hop;exact rdO
theorem kV8 {o:OC}(hn:kS w c n)(ho:OkA w o a)(ta:zAf a)(hk:o.k=3)(hcut:zBw n a.q=(x,0))(hcm:zE3 n a.q=y)(hbk:jV a.q=(q2,0))(hin:InI q2)(bA:q2.length<=1000)(hgb:zGm x q2=(b,0))(hbl:b.lf=false)(cK:y.lf=false)(hlb:zG9 b=E)(z2:(E !=o.z)=true):Calls Tryz.prog 48 #[.agg c.row,.agg o.row] w (kNs w (zeroT,8)):=by
 have aL:=hd hcut;have cL:=hd hcm;have ej:=hd hbk;have dZ:=hd hin;have fe:=hd bA;have fW:=hd hgb;have fX:=hd hbl;have cU:=hd cK;have lU:=hd hlb;have dh:=hd (show(8:Int)≠0 by decide);clear hcut hcm hbk hin bA hgb hbl cK hlb;exact rdO
theorem kV9 {o:OC}(hn:kS w c n)(ho:OkA w o a)(ta:zAf a)(hk:o.k=3)(hcut:zBw n a.q=(x,0))(hcm:zE3 n a.q=y)(hbk:jV a.q=(q2,0))(hin:InI q2)(bA:q2.length<=1000)(hgb:zGm x q2=(b,0))(hbl:b.lf=false)(cK:y.lf=false)(hlb:zG9 b=E)(z2:(E !=o.z)=false)(hop:decide (y.ps=a.o)=false):Calls Tryz.prog 48 #[.agg c.row,.agg o.row] w (kNs w (zeroT,9)):=by
 have aL:=hd hcut;have cL:=hd hcm;have ej:=hd hbk;have dZ:=hd hin;have fe:=hd bA;have fW:=hd hgb;have fX:=hd hbl;have cU:=hd cK;have lU:=hd hlb;have gV:=hd hop;have dh:=hd (show(9:Int)≠0 by decide);clear hcut hcm hbk hin bA hgb hbl cK hlb hop;exact rdO
theorem kO3 {ts te:TypeId}{size by_:Nat}(E:zQ7 ts te size by_)(W:World){ops:Array Oper}{rest:List Oper}{o:Oper}{a:Act}{Q:Exit->Act->World->Prop}(hgd:o.guard=none)(s x:Operand)
  (ho:o.op=.call {callee:=.builtin .append,args:=#[s,x],argTypes:=#[ts,ts]})
  (b:Nat) (v:Value) (n:Nat) (k:List Value) (hs:a.eval s=v) (hO:W.ownsRow b te size v n k) (A:Option Addr) (m c:Nat) (hm:m=0) (hx:a.eval x=.slice A m c) (hK:wpList Tryz.prog ops Q rest (a.put o.dst v) W):
  wpList Tryz.prog ops Q (o::rest) a W:=by
 subst hm;obtain⟨i0,z,hi,hz0,hz1,hz2,hz3⟩:=E.info;have hrun:=zEp (w:=W) (ty:=o.type) (A:=A) (c:=c) E.under hi hO;refine wpList_plain hgd fun K hK2=>?_;unfold Oper.wp execOp;simp only[ho,resolve,invoke,builtin,Sem.run_bind,Sem.run_pure,Result.andThen_ok,List.map_toArray,List.map_cons,List.map_nil,hs,hx,hrun];exact hK2 _ _ hK
theorem zA5.grown {lo:Nat}{row:Option Nat}(h:zA5 lo w W)(hg:W.grownBy W' row)(hr:∀j,row=some j->w.heap.size<=j):zA5 lo w W':=
 ⟨Nat.le_trans h.size hg.size,fun k h1 h2=>(hg.block k (Nat.lt_of_lt_of_le h2 h.size) (fun e=>by have:=hr k e.symm;omega)).trans (h.block k h1 h2)⟩
theorem jT.grown {t:TypeId}{w':World}{g:Nat}{r:Array Value}{row:Option Nat}(h:jT t w g r)(hg:w.grownBy w' row)(hn:row≠some g):jT t w' g r:=(hg.block g h.lt (fun e=>hn e.symm)).trans h
theorem M3.grown {o:OC}{a:NC}{row:Option Nat}(h:M3 w c o a W)(hg:W.grownBy W' row)(hr:∀j,row=some j->w.heap.size+1+1<j):M3 w c o a W':=
 ⟨h.v2.grown hg (fun e=>by have:=hr _ e;omega),(hg.block _ h.v3.lt (fun e=>by have:=hr _ e.symm;omega)).trans h.v3,h.v4.grown hg (fun e=>by have:=hr _ e;omega),h.below.grown hg h.below.size (fun j hj=>by have:=hr j hj;omega)⟩
