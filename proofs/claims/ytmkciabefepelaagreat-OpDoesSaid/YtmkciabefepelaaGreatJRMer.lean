import Derived.Test.YtmkciabefepelaaGreatJRDo4
set_option maxRecDepth 100000
set_option maxHeartbeats 8000000
namespace Go.Proofs.YtmkciabefepelaaGreat
open Go.RowKit
variable {q2:List Int}{E:Int}{B k:Nat}{A D:Option Addr}
theorem kNm {P Q:Prop}(k:Q)(h:Q->P:=by
 intro kk;simp only[Act.put,List.getElem_toArray,List.getElem_cons_succ,List.getElem_cons_zero,List.setIfInBounds_toArray,List.set_cons_succ,List.set_cons_zero];exact kk):P:=h k
theorem kWa {w:World}{c:NC}{o:OC}{n:NT}{a:OpP}{x y b:NT}{r:NT×Int}(hn:kS w c n)(ho:OkA w o a)(ta:zAf a)(hk:o.k=3)(hcut:zBw n a.q=(x,0))(hcm:zE3 n a.q=y)(hbk:jV a.q=(q2,0))(hin:InI q2)(bA:q2.length<=1000)(hgb:zGm x q2=(b,0))(hbl:b.lf=true)(cK:y.lf=true)(hlb:zG9 b=E)(z2:(E !=o.z)=false)(hop:decide (y.ps=a.o)=true)(hkb:b.ks=[])(gY:y.ks=[])(hbig:sizeT b+sizeT y<=100000)(hput:zSe x q2 (zAo b y)=r):Calls Tryz.prog 48 #[.agg c.row,.agg o.row] w (kNs w r):=by
 have aL:=hd hcut;have cL:=hd hcm;have ej:=hd hbk;have dZ:=hd hin;have fe:=hd bA;have fW:=hd hgb;have fX:=hd hbl;have cU:=hd cK;have lU:=hd hlb;have gV:=hd hop;have fU:=hd hkb;have lV:=hd gY;have lh:=hd hbig;have bp:=hd hput;clear hcut hcm hbk hin bA hgb hbl cK hlb hop hkb gY hbig hput;first|have k1:(o.k==1)=true:=by simp[hk]|have k1:(o.k==1)=false:=by simp[hk]
 first|have k2:(o.k==2)=true:=by simp[hk]|have k2:(o.k==2)=false:=by simp[hk]
 first|have k3:(o.k==3)=true:=by simp[hk]|have k3:(o.k==3)=false:=by simp[hk]
 first|have k4:(o.k==4)=true:=by simp[hk]|have k4:(o.k==4)=false:=by simp[hk]
 first|have k5:(o.k==5)=true:=by simp[hk]|have k5:(o.k==5)=false:=by simp[hk]
 first|have k6:(o.k==6)=true:=by simp[hk]|have k6:(o.k==6)=false:=by simp[hk]
 first|have k7:(o.k==7)=true:=by simp[hk]|have k7:(o.k==7)=false:=by simp[hk]
 first|have k9:(o.k !=6)=true:=by simp[hk]|have k9:(o.k !=6)=false:=by simp[hk]
 clear hk;have HN:=hd hn;have HO:=hd ho;have aA:=hd ta;clear hn ho ta;obtain⟨W0,hW,hst⟩:=zDc w c o;have HW:=hd hW;have HM:=hd hst;clear hW hst;go_enter Tryz.func48,Tryz.ntmps48
 go_upto_region 1 with fail
 rw[HW.o];clear HW;go_upto_region 22 with(first
  |((with_reducible refine zC (ty:=26) (x:=.tmp 2) ?_);refine zB zD HM.o.v2 rfl _ rfl rfl rfl ?_)
  |((with_reducible refine zC (ty:=3) ?_);refine zE HM.o.v3 (j:=0) (v:=.int .i64 o.k) _ rfl rfl rfl rfl Tryz.underlying3 rfl ?_)
  |((with_reducible refine zC (ty:=27) ?_);refine zE HM.o.v3 (j:=1) (v:=.slice o.Q o.lq o.cq) _ rfl rfl rfl rfl Tryz.underlying27 rfl ?_)
  |((with_reducible refine zC (ty:=22) ?_);refine zE HM.o.v3 (j:=9) (v:=.slice o.W o.nw o.cw) _ rfl rfl rfl rfl Tryz.underlying22 rfl ?_)
  |(go_at_call 100;refine Calls.mono (kNy (HO.o.later HM.o.below) dV.o) ?_;rintro e w1 ⟨rfl,b9⟩;have HM:=hd (HM.o.call b9);clear b9)
  |(go_at_call 95;refine Calls.mono (kOi (HN.o.later HM.o.below) (zKt.later (HO.o.hasq aA.o) HM.o.below) aL.o cL.o) ?_;rintro e w3 ⟨cr,cy,rfl,h1,h2,b9⟩;have hlo:=HM.o.v4.lt;have hsz:=HM.o.below.size;have HX:=hd h1;have HY:=hd h2;have HI:=hd (kNn HX.o);have HM:=hd (HM.o.call b9);have dP:=HM.o.v4.lt;clear b9 h1 h2;dsimp only)
  |((with_reducible refine zF (ty:=26) ?_);refine zA zD (r0:=NC.nil.row) (r:=cr.row) (zP3 w3).1 rfl rfl cr.one _ _ rfl rfl rfl rfl rfl ?_;intro W4 hv ho;have aB:=hd hv;have HM:=hd ((HM.o.call (zP3 w3).2.2).off Kb ho);have HI:=hd ((HI.o.call (zP3 w3).2.2).off2 ho Kb);have au:=hd ((zP3 w3).2.1.off ho Kb);clear hv ho)
  |((with_reducible refine zF (ty:=26) ?_);refine zA zD (r0:=NC.nil.row) (r:=cy.row) au.o rfl rfl cy.one _ _ rfl rfl rfl rfl rfl ?_;intro W5 hv ho;have aB:=hd (aB.o.off ho Kb);have HM:=hd (HM.o.off Kb ho);have HI:=hd (HI.o.off2 ho Kb);have au:=hd hv;clear hv ho)
  |(go_at_call 96;refine Calls.mono (kP3 (HO.o.later HM.o.below) aA.o ej.o) ?_;rintro e w2 ⟨A2,l2,c2,rfl,hl2,hc2,hi2,b9⟩;(try have av:=hd (show Pth _ w2 A2 l2 c2 q2 w2 from⟨hl2,by have h5:=fe.o;have h6:q2.length=l2:=hl2;omega,hc2,dZ.o,hi2,zA5.refl _ _⟩));have aB:=hd (aB.o.keep b9);have au:=hd (au.o.keep b9);have HI:=hd (HI.o.call b9);have HM:=hd (HM.o.call b9);have dO:=HM.o.v4.lt;have hlk2:=au.o.lt;clear b9 hl2 hc2 hi2;dsimp only)
  |((with_reducible refine zC (ty:=26) (x:=.tmp 10) ?_);refine zB zD aB.o rfl _ rfl rfl rfl ?_)
  |(have _g:=fW;go_at_call 97;refine Calls.mono (kPv (HX.o.high HI.o).now av.o.has fW.o) ?_;rintro e w4 h4;obtain⟨cb,db,us,rfl,htop,hst,b9⟩:=h4.top;have cO:=hd htop;have HB:=hd hst;have HJ:=hd (kNn hst);have aB:=hd (aB.o.keep b9);have au:=hd (au.o.keep b9);have HI:=hd (HI.o.call b9);have av:=hd (av.o.call b9);have HM:=hd (HM.o.call b9);have kG:=HM.o.v4.lt;have hlk:=au.o.lt;have lg:=b9.size;clear b9 htop hst;dsimp only;clear _g)
  |((with_reducible refine zF (ty:=26) ?_);refine zA zD (r0:=NC.nil.row) (r:=cb.row) (zAr w4).1 rfl rfl cb.one _ _ rfl rfl rfl rfl rfl ?_;intro W6 hv ho;have bk:=hd hv;have HM:=hd ((HM.o.call (zAr w4).2).off Kb ho);have aB:=hd ((aB.o.keep (zAr w4).2).off ho Kb);have au:=hd ((au.o.keep (zAr w4).2).off ho Kb);have HI:=hd ((HI.o.call (zAr w4).2).off2 ho Kb);have HJ:=hd ((HJ.o.call (zAr w4).2).off2 ho Kb);have av:=hd ((av.o.call (zAr w4).2).off ho Kb);clear hv ho)
  |((with_reducible refine zC (ty:=4) (x:=.tmp 99) ?_);refine zM bk.o (j:=0) (v:=.bool true) _ rfl rfl rfl (by have h9:=HB.o.now.lf;rw[fX.o]at h9;simp only[NC.row,<-h9];rfl) Tryz.underlying4 rfl ?_)
  |((with_reducible refine zC (ty:=4) (x:=.tmp 99) ?_);refine zM bk.o (j:=0) (v:=.bool false) _ rfl rfl rfl (by have h9:=HB.o.now.lf;rw[fX.o]at h9;simp only[NC.row,<-h9];rfl) Tryz.underlying4 rfl ?_)
  |((with_reducible refine zC (ty:=4) (x:=.tmp 101) ?_);refine zM au.o (j:=0) (v:=.bool true) _ rfl rfl rfl (by have h9:=HY.o.now.lf;rw[cU.o]at h9;simp only[NC.row,<-h9];rfl) Tryz.underlying4 rfl ?_)
  |((with_reducible refine zC (ty:=4) (x:=.tmp 101) ?_);refine zM au.o (j:=0) (v:=.bool false) _ rfl rfl rfl (by have h9:=HY.o.now.lf;rw[cU.o]at h9;simp only[NC.row,<-h9];rfl) Tryz.underlying4 rfl ?_))
 have HM:=hd (HM.o.call (Kk.drew));have aB:=hd (aB.o.keep (Kk.drew));have au:=hd (au.o.keep (Kk.drew));have bk:=hd (bk.o.keep (Kk.drew));have av:=hd (av.o.call (Kk.drew));have HI:=hd (HI.o.call (Kk.drew));have HJ:=hd (HJ.o.call (Kk.drew));refine jO (S:=fun W'=>jR W' (w.heap.size+1) o/\jT 26 W' w4.heap.size cb.row) (z:=fun _=>false) Ka ?_;have ac:=hd (And.intro HM.o.v3 bk.o);refine Kn 0 4 (.agg cb.row) (fun W9 aC=>?_) ac.o ?_
 ·exact zS zD aC.2 rfl _ rfl rfl
 simp only[Act.put,List.getElem_toArray,List.getElem_cons_zero,List.setIfInBounds_toArray,List.set_cons_succ,List.set_cons_zero];refine Ko 2 3 (.pointer (some ⟨w.heap.size+1,3,none⟩)) ac.o ?_;refine kNm ?_;refine Kn 3 2 (.int .i64 o.z) (fun W9 aC=>?_) ac.o ?_
 ·exact kV (j:=3) aC.1.toR _ rfl rfl rfl Tryz.underlying3 rfl
 refine kNm ?_;refine Kp 1 1 (fun K hK=>?_);rw[if_pos Ka];go_simp;go_at_call 98
 refine(kPm (c:=cb) (HB.o.high HJ.o).now lU.o).mono ?_;rintro e w5 ⟨rfl,b9⟩;have HM:=hd (HM.o.call b9);have aB:=hd (aB.o.keep b9);have au:=hd (au.o.keep b9);have bk:=hd (bk.o.keep b9);have av:=hd (av.o.call b9);have HI:=hd (HI.o.call b9);have HJ:=hd (HJ.o.call b9);clear b9 ac;have ac:=hd (And.intro HM.o.v3 bk.o);refine hK _ _ (fun _=>ac.o) ?_;clear hK K;refine Kp 4 0 (fun K hK=>?_);rw[if_pos Ka];go_simp;refine hK _ _ (fun _=>ac.o) (zAl Ka ?_);clear hK K ac;go_upto_region 26 with(first
  |((with_reducible refine zC (ty:=22) (x:=.tmp 113) ?_);refine zE HM.o.v3 (j:=8) (v:=.slice o.O o.no o.co) _ rfl rfl rfl rfl Tryz.underlying22 rfl ?_)
  |((with_reducible refine zC (ty:=22) (x:=.tmp 111) ?_);refine zM au.o (j:=1) (v:=.slice cy.P cy.np cy.pc) _ rfl rfl rfl rfl Tryz.underlying22 rfl ?_)
  |(go_at_call 50;refine Calls.mono (kP2 (HY.o.high HI.o).now (HO.o.later HM.o.below) gV.o) ?_;rintro e w6 ⟨rfl,b9⟩;have bk:=hd (bk.o.keep b9);have av:=hd (av.o.call b9);have HJ:=hd (HJ.o.call b9);have aB:=hd (aB.o.keep b9);have au:=hd (au.o.keep b9);have HI:=hd (HI.o.call b9);have HM:=hd (HM.o.call b9);clear b9))
 have htop:=cO.o.high HJ.o;have qy:=(HY.o.high HI.o).now.parts;have hsz:=lh.o;have bo:b.tx.length+1<=sizeT b:=by obtain⟨lf,ps,tx,ks⟩:=b;simp only[sizeT,NT.tx];omega
 have hl2:y.tx.length+1<=sizeT y:=by obtain⟨lf,ps,tx,ks⟩:=y;simp only[sizeT,NT.tx];omega
 have cC:b.ks.length<=sizeT b:=zLe b;have hl4:y.ks.length<=sizeT y:=zLe y;have e1:=htop.nt;have e2:=htop.nk;have e3:=qy.nt;have e4:=qy.nk;have se:=HJ.o.size;have hbs:=HM.o.below.size;have qz:=hd HJ.o;go_wp2_with(first
  |((with_reducible refine zC (ty:=23) (x:=.tmp 118) ?_);refine zM bk.o (j:=2) (v:=.slice cb.X cb.nt cb.tc) _ rfl rfl rfl rfl Tryz.underlying23 rfl ?_)
  |((with_reducible refine zC (ty:=23) (x:=.tmp 120) ?_);refine zM au.o (j:=2) (v:=.slice cy.X cy.nt cy.tc) _ rfl rfl rfl rfl Tryz.underlying23 rfl ?_)
  |((with_reducible refine zC (ty:=24) (x:=.tmp 124) ?_);refine zM bk.o (j:=3) (v:=.slice cb.K cb.nk cb.kc) _ rfl rfl rfl rfl Tryz.underlying24 rfl ?_)
  |((with_reducible refine zC (ty:=24) (x:=.tmp 126) ?_);refine zM au.o (j:=3) (v:=.slice cy.K cy.nk cy.kc) _ rfl rfl rfl rfl Tryz.underlying24 rfl ?_)
  |(at_builtin;refine zK7 zTa w6 rfl (.tmp 119) (.tmp 121) rfl w2.heap.size (.slice cb.X cb.nt cb.tc) cb.nt (rv b.tx) rfl htop.x cy.X cy.nt cy.tc w6.heap.size (rv y.tx) rfl (by rw[zCg,e3,Nat.mul_one]) qy.x (zNz _) Kg Kb Kb ?_;intro A' c' W5 hrow hgr hat;have iE:=hd hrow;have mM:=hd hgr;have ju:=hgr.size;have hkb:∀q,(Value.slice cb.X cb.nt cb.tc).ownBlock=some q->w2.heap.size<=q/\q<w4.heap.size:=fun q hq=>cO.o.x.lt q hq;have HM:=hd (HM.o.grown hgr (fun j hj=>by have:=(hkb j hj).1;omega));have aB:=hd (aB.o.grown hgr (fun e=>by have:=(hkb _ e).1;omega));have au:=hd (au.o.grown hgr (fun e=>by have:=(hkb _ e).1;omega));have bk:=hd (bk.o.grown hgr (fun e=>by have:=(hkb _ e).2;omega));have gJ:=hd bk.o;have av:=hd (av.o.grown hgr (fun j hj=>(hkb j hj).1));have HI:=hd (HI.o.grown hgr (fun j hj=>by have:=(hkb j hj).1;omega));have sj:=hd hat;clear hat hrow hgr hkb)
  |(at_builtin;refine kO3 zWg _ rfl (.tmp 125) (.tmp 127) rfl w2.heap.size (.slice cb.K cb.nk cb.kc) cb.nk (zGg us) rfl (zS0 (htop.k.kept mM.o (zJz htop.x htop.k Kd)) nV.o (fun e=>by have:=(cO.o.k.lt _ e).2;omega)) cy.K cy.nk cy.kc (by rw[<-e4,lV.o];rfl) rfl ?_)
  |((with_reducible refine zF (ty:=23) ?_);refine zFd zFu (r':=({cb with X:=A',nt:=cb.nt+cy.nt,tc:=c'}:NC).row) bk.o _ _ rfl rfl rfl 2 (.slice A' (cb.nt+cy.nt) c') rfl rfl rfl rfl (by rw[NC.size];decide) Ka ?_;intro W7 hv ho;have nV:=hd ho;have HM:=hd (HM.o.off Kb ho);have aB:=hd (aB.o.off ho Kb);have au:=hd (au.o.off ho Kb);have av:=hd (av.o.off ho Kb);have HI:=hd (HI.o.off2 ho Kb);have bk:=hd hv;clear hv ho)
  |((with_reducible refine zF (ty:=24) ?_);refine zFd zKu (r':=({cb with X:=A',nt:=cb.nt+cy.nt,tc:=c'}:NC).row) bk.o _ _ rfl rfl rfl 3 (.slice cb.K cb.nk cb.kc) rfl rfl rfl rfl (by rw[NC.size];decide) Ka ?_;intro W8 hv ho;have q8:=hd (nV.o.trans ho);have HM:=hd (HM.o.off Kb ho);have aB:=hd (aB.o.off ho Kb);have au:=hd (au.o.off ho Kb);have av:=hd (av.o.off ho Kb);have HI:=hd (HI.o.off2 ho Kb);have bk:=hd hv;have iF:=hd (zS1 cO.o qz.o fU.o lV.o e3 Kb iE.o mM.o gJ.o q8.o);clear hv ho)
  |((with_reducible refine zC (ty:=26) (x:=.tmp 10) ?_);refine zB zD aB.o rfl _ rfl rfl rfl ?_)
  |((with_reducible refine zC (ty:=26) (x:=.tmp 14) ?_);refine zB zD bk.o rfl _ rfl rfl rfl ?_)
  |(go_at_call 99;refine Calls.mono (kPk (d:=({cb with X:=A',nt:=cb.nt+cy.nt,tc:=c'}:NC)) (HX.o.high HI.o).now iF.o av.o.has bp.o) ?_;rintro e wF ⟨cf,rfl,hx,b9⟩;have eG:=HM.o.v4.lt;have gu:=HM.o.below.size;have bI:=hd hx;have HM:=hd (HM.o.call b9);clear b9 hx;dsimp only)
  |((with_reducible refine zF (ty:=26) ?_);refine zA zD (r0:=NC.nil.row) (r:=cf.row) HM.o.v4 rfl rfl cf.one _ _ rfl rfl rfl rfl rfl ?_;intro W9 hv ho;have HM:=hd (HM.o.set4 (a':=cf) hv ho);(try have bI:=hd (bI.o.off ho Kb));(try have HI:=hd (HI.o.off2 ho Kb));clear hv ho))
 exact bodyPost_ret (kU Tryz.results48 _ _ HM.o.v4 rfl) rfl ⟨cf,rfl,fun _=>bI.o.more Kb,HM.o.below⟩
theorem kWb {w:World}{c:NC}{o:OC}{n:NT}{a:OpP}{x y b:NT}{r:NT×Int}(hn:kS w c n)(ho:OkA w o a)(ta:zAf a)(hk:o.k=3)(hcut:zBw n a.q=(x,0))(hcm:zE3 n a.q=y)(hbk:jV a.q=(q2,0))(hin:InI q2)(bA:q2.length<=1000)(hgb:zGm x q2=(b,0))(hbl:b.lf=false)(cK:y.lf=false)(hlb:zG9 b=E)(z2:(E !=o.z)=false)(hop:decide (y.ps=a.o)=true)(hkb:b.tx=[])(gY:y.tx=[])(hbig:sizeT b+sizeT y<=100000)(hput:zSe x q2 (zAo b y)=r):Calls Tryz.prog 48 #[.agg c.row,.agg o.row] w (kNs w r):=by
 have aL:=hd hcut;have cL:=hd hcm;have ej:=hd hbk;have dZ:=hd hin;have fe:=hd bA;have fW:=hd hgb;have fX:=hd hbl;have cU:=hd cK;have lU:=hd hlb;have gV:=hd hop;have fU:=hd hkb;have lV:=hd gY;have lh:=hd hbig;have bp:=hd hput;clear hcut hcm hbk hin bA hgb hbl cK hlb hop hkb gY hbig hput;first|have k1:(o.k==1)=true:=by simp[hk]|have k1:(o.k==1)=false:=by simp[hk]
 first|have k2:(o.k==2)=true:=by simp[hk]|have k2:(o.k==2)=false:=by simp[hk]
 first|have k3:(o.k==3)=true:=by simp[hk]|have k3:(o.k==3)=false:=by simp[hk]
 first|have k4:(o.k==4)=true:=by simp[hk]|have k4:(o.k==4)=false:=by simp[hk]
 first|have k5:(o.k==5)=true:=by simp[hk]|have k5:(o.k==5)=false:=by simp[hk]
 first|have k6:(o.k==6)=true:=by simp[hk]|have k6:(o.k==6)=false:=by simp[hk]
 first|have k7:(o.k==7)=true:=by simp[hk]|have k7:(o.k==7)=false:=by simp[hk]
 first|have k9:(o.k !=6)=true:=by simp[hk]|have k9:(o.k !=6)=false:=by simp[hk]
 clear hk;have HN:=hd hn;have HO:=hd ho;have aA:=hd ta;clear hn ho ta;obtain⟨W0,hW,hst⟩:=zDc w c o;have HW:=hd hW;have HM:=hd hst;clear hW hst;go_enter Tryz.func48,Tryz.ntmps48
 go_upto_region 1 with fail
 rw[HW.o];clear HW;go_upto_region 22 with(first
  |((with_reducible refine zC (ty:=26) (x:=.tmp 2) ?_);refine zB zD HM.o.v2 rfl _ rfl rfl rfl ?_)
  |((with_reducible refine zC (ty:=3) ?_);refine zE HM.o.v3 (j:=0) (v:=.int .i64 o.k) _ rfl rfl rfl rfl Tryz.underlying3 rfl ?_)
  |((with_reducible refine zC (ty:=27) ?_);refine zE HM.o.v3 (j:=1) (v:=.slice o.Q o.lq o.cq) _ rfl rfl rfl rfl Tryz.underlying27 rfl ?_)
  |((with_reducible refine zC (ty:=22) ?_);refine zE HM.o.v3 (j:=9) (v:=.slice o.W o.nw o.cw) _ rfl rfl rfl rfl Tryz.underlying22 rfl ?_)
  |(go_at_call 100;refine Calls.mono (kNy (HO.o.later HM.o.below) dV.o) ?_;rintro e w1 ⟨rfl,b9⟩;have HM:=hd (HM.o.call b9);clear b9)
  |(go_at_call 95;refine Calls.mono (kOi (HN.o.later HM.o.below) (zKt.later (HO.o.hasq aA.o) HM.o.below) aL.o cL.o) ?_;rintro e w3 ⟨cr,cy,rfl,h1,h2,b9⟩;have hlo:=HM.o.v4.lt;have hsz:=HM.o.below.size;have HX:=hd h1;have HY:=hd h2;have HI:=hd (kNn HX.o);have cV:=hd (Below.refl w3.heap.size w3);have HM:=hd (HM.o.call b9);have dP:=HM.o.v4.lt;clear b9 h1 h2;dsimp only)
  |((with_reducible refine zF (ty:=26) ?_);refine zA zD (r0:=NC.nil.row) (r:=cr.row) (zP3 w3).1 rfl rfl cr.one _ _ rfl rfl rfl rfl rfl ?_;intro W4 hv ho;have aB:=hd hv;have HM:=hd ((HM.o.call (zP3 w3).2.2).off Kb ho);have HI:=hd ((HI.o.call (zP3 w3).2.2).off2 ho Kb);have cV:=hd (zN (zI cV.o (zP3 w3).2.2) ho Kb);have au:=hd ((zP3 w3).2.1.off ho Kb);clear hv ho)
  |((with_reducible refine zF (ty:=26) ?_);refine zA zD (r0:=NC.nil.row) (r:=cy.row) au.o rfl rfl cy.one _ _ rfl rfl rfl rfl rfl ?_;intro W5 hv ho;have aB:=hd (aB.o.off ho Kb);have HM:=hd (HM.o.off Kb ho);have HI:=hd (HI.o.off2 ho Kb);have cV:=hd (zN cV.o ho Kb);have au:=hd hv;clear hv ho)
  |(go_at_call 96;refine Calls.mono (kP3 (HO.o.later HM.o.below) aA.o ej.o) ?_;rintro e w2 ⟨A2,l2,c2,rfl,hl2,hc2,hi2,b9⟩;(try have av:=hd (show Pth _ w2 A2 l2 c2 q2 w2 from⟨hl2,by have h5:=fe.o;have h6:q2.length=l2:=hl2;omega,hc2,dZ.o,hi2,zA5.refl _ _⟩));have aB:=hd (aB.o.keep b9);have au:=hd (au.o.keep b9);have HI:=hd (HI.o.call b9);have cV:=hd (zI cV.o b9);have HM:=hd (HM.o.call b9);have dO:=HM.o.v4.lt;have hlk2:=au.o.lt;clear b9 hl2 hc2 hi2;dsimp only)
  |((with_reducible refine zC (ty:=26) (x:=.tmp 10) ?_);refine zB zD aB.o rfl _ rfl rfl rfl ?_)
  |(have _g:=fW;go_at_call 97;refine Calls.mono (kPv (HX.o.high HI.o).now av.o.has fW.o) ?_;rintro e w4 h4;obtain⟨cb,db,us,rfl,htop,hst,b9⟩:=h4.top;have cO:=hd htop;have HB:=hd hst;have HJ:=hd (kNn hst);have aB:=hd (aB.o.keep b9);have au:=hd (au.o.keep b9);have HI:=hd (HI.o.call b9);have cV:=hd (zI cV.o b9);have av:=hd (av.o.call b9);have HM:=hd (HM.o.call b9);have kG:=HM.o.v4.lt;have hlk:=au.o.lt;have lg:=b9.size;clear b9 htop hst;dsimp only;clear _g)
  |((with_reducible refine zF (ty:=26) ?_);refine zA zD (r0:=NC.nil.row) (r:=cb.row) (zAr w4).1 rfl rfl cb.one _ _ rfl rfl rfl rfl rfl ?_;intro W6 hv ho;have bk:=hd hv;have HM:=hd ((HM.o.call (zAr w4).2).off Kb ho);have aB:=hd ((aB.o.keep (zAr w4).2).off ho Kb);have au:=hd ((au.o.keep (zAr w4).2).off ho Kb);have HI:=hd ((HI.o.call (zAr w4).2).off2 ho Kb);have cV:=hd (zN (zI cV.o (zAr w4).2) ho Kb);have HJ:=hd ((HJ.o.call (zAr w4).2).off2 ho Kb);have av:=hd ((av.o.call (zAr w4).2).off ho Kb);clear hv ho)
  |((with_reducible refine zC (ty:=4) (x:=.tmp 99) ?_);refine zM bk.o (j:=0) (v:=.bool true) _ rfl rfl rfl (by have h9:=HB.o.now.lf;rw[fX.o]at h9;simp only[NC.row,<-h9];rfl) Tryz.underlying4 rfl ?_)
  |((with_reducible refine zC (ty:=4) (x:=.tmp 99) ?_);refine zM bk.o (j:=0) (v:=.bool false) _ rfl rfl rfl (by have h9:=HB.o.now.lf;rw[fX.o]at h9;simp only[NC.row,<-h9];rfl) Tryz.underlying4 rfl ?_)
  |((with_reducible refine zC (ty:=4) (x:=.tmp 101) ?_);refine zM au.o (j:=0) (v:=.bool true) _ rfl rfl rfl (by have h9:=HY.o.now.lf;rw[cU.o]at h9;simp only[NC.row,<-h9];rfl) Tryz.underlying4 rfl ?_)
  |((with_reducible refine zC (ty:=4) (x:=.tmp 101) ?_);refine zM au.o (j:=0) (v:=.bool false) _ rfl rfl rfl (by have h9:=HY.o.now.lf;rw[cU.o]at h9;simp only[NC.row,<-h9];rfl) Tryz.underlying4 rfl ?_))
 have HM:=hd (HM.o.call (Kk.drew));have aB:=hd (aB.o.keep (Kk.drew));have au:=hd (au.o.keep (Kk.drew));have bk:=hd (bk.o.keep (Kk.drew));have av:=hd (av.o.call (Kk.drew));have HI:=hd (HI.o.call (Kk.drew));have cV:=hd (zI cV.o (Kk.drew));have HJ:=hd (HJ.o.call (Kk.drew));refine jO (S:=fun W'=>jR W' (w.heap.size+1) o/\jT 26 W' w4.heap.size cb.row) (z:=fun _=>false) Ka ?_;have ac:=hd (And.intro HM.o.v3 bk.o);refine Kn 0 4 (.agg cb.row) (fun W9 aC=>?_) ac.o ?_
 ·exact zS zD aC.2 rfl _ rfl rfl
 simp only[Act.put,List.getElem_toArray,List.getElem_cons_zero,List.setIfInBounds_toArray,List.set_cons_succ,List.set_cons_zero];refine Ko 2 3 (.pointer (some ⟨w.heap.size+1,3,none⟩)) ac.o ?_;refine kNm ?_;refine Kn 3 2 (.int .i64 o.z) (fun W9 aC=>?_) ac.o ?_
 ·exact kV (j:=3) aC.1.toR _ rfl rfl rfl Tryz.underlying3 rfl
 refine kNm ?_;refine Kp 1 1 (fun K hK=>?_);rw[if_pos Ka];go_simp;go_at_call 98
 refine(kPm (c:=cb) (HB.o.high HJ.o).now lU.o).mono ?_;rintro e w5 ⟨rfl,b9⟩;have HM:=hd (HM.o.call b9);have aB:=hd (aB.o.keep b9);have au:=hd (au.o.keep b9);have bk:=hd (bk.o.keep b9);have av:=hd (av.o.call b9);have HI:=hd (HI.o.call b9);have cV:=hd (zI cV.o b9);have HJ:=hd (HJ.o.call b9);clear b9 ac;have ac:=hd (And.intro HM.o.v3 bk.o);refine hK _ _ (fun _=>ac.o) ?_;clear hK K;refine Kp 4 0 (fun K hK=>?_);rw[if_pos Ka];go_simp;refine hK _ _ (fun _=>ac.o) (zAl Ka ?_);clear hK K ac;go_upto_region 26 with(first
  |((with_reducible refine zC (ty:=22) (x:=.tmp 113) ?_);refine zE HM.o.v3 (j:=8) (v:=.slice o.O o.no o.co) _ rfl rfl rfl rfl Tryz.underlying22 rfl ?_)
  |((with_reducible refine zC (ty:=22) (x:=.tmp 111) ?_);refine zM au.o (j:=1) (v:=.slice cy.P cy.np cy.pc) _ rfl rfl rfl rfl Tryz.underlying22 rfl ?_)
  |(go_at_call 50;refine Calls.mono (kP2 (HY.o.high HI.o).now (HO.o.later HM.o.below) gV.o) ?_;rintro e w6 ⟨rfl,b9⟩;have bk:=hd (bk.o.keep b9);have av:=hd (av.o.call b9);have HJ:=hd (HJ.o.call b9);have aB:=hd (aB.o.keep b9);have au:=hd (au.o.keep b9);have HI:=hd (HI.o.call b9);have cV:=hd (zI cV.o b9);have HM:=hd (HM.o.call b9);clear b9))
 have htop:=cO.o.high HJ.o;have qy:=(HY.o.high HI.o).now.parts;have hsz:=lh.o;have bo:b.tx.length+1<=sizeT b:=by obtain⟨lf,ps,tx,ks⟩:=b;simp only[sizeT,NT.tx];omega
 have hl2:y.tx.length+1<=sizeT y:=by obtain⟨lf,ps,tx,ks⟩:=y;simp only[sizeT,NT.tx];omega
 have cC:b.ks.length<=sizeT b:=zLe b;have hl4:y.ks.length<=sizeT y:=zLe y;have e1:=htop.nt;have e2:=htop.nk;have e3:=qy.nt;have e4:=qy.nk;have se:=HJ.o.size;have hbs:=HM.o.below.size;have qz:=hd HJ.o;obtain⟨dk,hkk⟩:=HY.o.now.parts.k;obtain⟨vs,hvs,hvl⟩:=hkk.vals;have uT:=hd hvs;have uU:=hd hvl;have sk:=hd hvs.flat;clear hkk hvs hvl;go_wp2_with(first
  |((with_reducible refine zC (ty:=23) (x:=.tmp 118) ?_);refine zM bk.o (j:=2) (v:=.slice cb.X cb.nt cb.tc) _ rfl rfl rfl rfl Tryz.underlying23 rfl ?_)
  |((with_reducible refine zC (ty:=23) (x:=.tmp 120) ?_);refine zM au.o (j:=2) (v:=.slice cy.X cy.nt cy.tc) _ rfl rfl rfl rfl Tryz.underlying23 rfl ?_)
  |((with_reducible refine zC (ty:=24) (x:=.tmp 124) ?_);refine zM bk.o (j:=3) (v:=.slice cb.K cb.nk cb.kc) _ rfl rfl rfl rfl Tryz.underlying24 rfl ?_)
  |((with_reducible refine zC (ty:=24) (x:=.tmp 126) ?_);refine zM au.o (j:=3) (v:=.slice cy.K cy.nk cy.kc) _ rfl rfl rfl rfl Tryz.underlying24 rfl ?_)
  |(at_builtin;refine kO3 zTa w6 rfl (.tmp 119) (.tmp 121) rfl w2.heap.size (.slice cb.X cb.nt cb.tc) cb.nt (rv b.tx) rfl htop.x cy.X cy.nt cy.tc (by rw[<-e3,lV.o];rfl) rfl ?_)
  |(at_builtin;refine zK7 zWg W7 rfl (.tmp 125) (.tmp 127) rfl w2.heap.size (.slice cb.K cb.nk cb.kc) cb.nk (zGg us) rfl (cO.o.high qz.o).k cy.K cy.nk cy.kc w3.heap.size (zGg vs) rfl (by rw[sk.o.1,e4]) (uU.o.below cV.o) sk.o.2 Kg Kb (by have:=qz.o.size;omega) ?_;intro A' c' W5 hrow hgr hat;have iE:=hd hrow;have mM:=hd hgr;have ju:=hgr.size;have hkb:∀q,(Value.slice cb.K cb.nk cb.kc).ownBlock=some q->w2.heap.size<=q/\q<w4.heap.size:=fun q hq=>cO.o.k.lt q hq;have HM:=hd (HM.o.grown hgr (fun j hj=>by have:=(hkb j hj).1;omega));have aB:=hd (aB.o.grown hgr (fun e=>by have:=(hkb _ e).1;omega));have au:=hd (au.o.grown hgr (fun e=>by have:=(hkb _ e).1;omega));have bk:=hd (bk.o.grown hgr (fun e=>by have:=(hkb _ e).2;omega));have gJ:=hd bk.o;have av:=hd (av.o.grown hgr (fun j hj=>(hkb j hj).1));have HI:=hd (HI.o.grown hgr (fun j hj=>by have:=(hkb j hj).1;omega));have cV:=hd (cV.o.grown hgr cV.o.size (fun j hj=>by have:=(hkb j hj).1;omega));have sj:=hd hat;clear hat hrow hgr hkb)
  |((with_reducible refine zF (ty:=23) ?_);refine zFd zFu (r':=cb.row) bk.o _ _ rfl rfl rfl 2 (.slice cb.X cb.nt cb.tc) rfl rfl rfl rfl (by rw[NC.size];decide) Ka ?_;intro W7 hv ho;have HM:=hd (HM.o.off Kb ho);have aB:=hd (aB.o.off ho Kb);have au:=hd (au.o.off ho Kb);have av:=hd (av.o.off ho Kb);have HI:=hd (HI.o.off2 ho Kb);have cV:=hd (zN cV.o ho Kb);have bk:=hd hv;have HJ:=hd (HJ.o.off2 ho Kb);have qz:=hd HJ.o;have BF:=hd bk.o.lt;clear hv ho)
  |((with_reducible refine zF (ty:=24) ?_);refine zFd zKu (r':=({cb with K:=A',nk:=cb.nk+cy.nk,kc:=c'}:NC).row) bk.o _ _ rfl rfl rfl 3 (.slice A' (cb.nk+cy.nk) c') rfl rfl rfl rfl (by rw[NC.size];decide) Ka ?_;intro W8 hv ho;have HM:=hd (HM.o.off Kb ho);have aB:=hd (aB.o.off ho Kb);have au:=hd (au.o.off ho Kb);have av:=hd (av.o.off ho Kb);have HI:=hd (HI.o.off2 ho Kb);have cV:=hd (zN cV.o ho Kb);have bk:=hd hv;have iF:=hd (zY0 cO.o qz.o fU.o lV.o e4 Kb iE.o mM.o sj.o Kl BF.o gJ.o ho uT.o Kb cV.o);clear hv ho)
  |((with_reducible refine zC (ty:=26) (x:=.tmp 10) ?_);refine zB zD aB.o rfl _ rfl rfl rfl ?_)
  |((with_reducible refine zC (ty:=26) (x:=.tmp 14) ?_);refine zB zD bk.o rfl _ rfl rfl rfl ?_)
  |(go_at_call 99;refine Calls.mono (kPk (d:=({cb with K:=A',nk:=cb.nk+cy.nk,kc:=c'}:NC)) (HX.o.high HI.o).now iF.o av.o.has bp.o) ?_;rintro e wF ⟨cf,rfl,hx,b9⟩;have eG:=HM.o.v4.lt;have gu:=HM.o.below.size;have bI:=hd hx;have HM:=hd (HM.o.call b9);clear b9 hx;dsimp only)
  |((with_reducible refine zF (ty:=26) ?_);refine zA zD (r0:=NC.nil.row) (r:=cf.row) HM.o.v4 rfl rfl cf.one _ _ rfl rfl rfl rfl rfl ?_;intro W9 hv ho;have HM:=hd (HM.o.set4 (a':=cf) hv ho);(try have bI:=hd (bI.o.off ho Kb));(try have HI:=hd (HI.o.off2 ho Kb));clear hv ho))
 exact bodyPost_ret (kU Tryz.results48 _ _ HM.o.v4 rfl) rfl ⟨cf,rfl,fun _=>bI.o.more Kb,HM.o.below⟩
theorem kId {w:World}{xs:List Value}(h:VL w B A xs)(k:Nat):VL w B A (xs.take k):=fun hn=>by
 obtain⟨b,o,e,hb,hc⟩:=h (fun e=>hn (by rw[e];simp));refine⟨b,o,e,hb,fun j u hj=>hc j u ?_⟩;rw[List.getElem?_take]at hj;split at hj
 ·exact hj
 ·cases hj
theorem kA5 {d:Nat}{w:World}{ks:List NT}(h:zKn d w B A ks)(k:Nat):zKn d w B A (ks.take k):=fun j m hj=>h j m (by
 rw[List.getElem?_take]at hj;split at hj
 ·exact hj
 ·cases hj)
section
variable {w:World}{m:NC}{o:OC}{mt:NT}{a:OpP}
theorem zR6 (h:kS w m mt)(hl:mt.lf=true)(hk:k<=m.nt):kS w {m with nt:=k} (jN mt k):=by
 have hp:=h.parts;have hf:=hp.f;have e:=hp.nt;obtain⟨d,hK⟩:=hp.k;unfold jN;rw[if_pos hl];have ek:(mt.tx.take k).length=k:=by rw[List.length_take];omega
 exact zHz.has ⟨hp.lf,hp.np,ek,hp.nk,hp.p,by show VL _ _ _ (rv (mt.tx.take k));rw[zOr];exact kId hp.x k,⟨hf.1,hf.2.1,by show(mt.tx.take k).length<=_;have:=hf.2.2.1;omega,hf.2.2.2.1,hf.2.2.2.2.1,by show(mt.tx.take k).length<=m.tc;have:=hf.2.2.2.2.2.1;omega,hf.2.2.2.2.2.2⟩,d,hK⟩
theorem kA6 (h:kS w m mt)(hl:mt.lf=false)(hk:k<=m.nk):kS w {m with nk:=k} (jN mt k):=by
 have hp:=h.parts;have hf:=hp.f;have e:=hp.nk;obtain⟨d,hK⟩:=hp.k;unfold jN;rw[if_neg (by rw[hl];decide)];have ek:(mt.ks.take k).length=k:=by rw[List.length_take];omega
 exact zHz.has ⟨hp.lf,hp.np,hp.nt,ek,hp.p,hp.x,⟨hf.1,hf.2.1,hf.2.2.1,by show(mt.ks.take k).length<=_;have:=hf.2.2.2.1;omega,hf.2.2.2.2.1,hf.2.2.2.2.2.1,by show(mt.ks.take k).length<=m.kc;have:=hf.2.2.2.2.2.2;omega⟩,d,kA5 hK k⟩
theorem zR7 (h:kS w m mt)(ho:OkA w o a)(hl:mt.lf=true)(hk:k<=m.nt)(hD:∀(w:World)(B:Nat)(xs:List Value),VL w B m.X xs->xs.length=m.nt->VL w B D (xs.drop k)):kS w ⟨m.lf,o.W,o.nw,o.cw,D,m.nt-k,m.tc-k,none,0,0⟩ (zA2 mt k a.w):=by
 have hp:=h.parts;have hf:=hp.f;have e:=hp.nt;unfold zA2;rw[if_pos hl];have ek:(mt.tx.drop k).length=m.nt-k:=by rw[List.length_drop];omega
 exact zHz.has ⟨hp.lf,ho.hnw,ek,rfl,ho.hw,by show VL _ _ _ (rv (mt.tx.drop k));rw[zOs];exact hD _ _ _ hp.x (by rw[zCg];exact e),⟨ho.hww,by show a.w.length<=_;have:=ho.hmw;have:=ho.hnw;omega,by show(mt.tx.drop k).length<=_;have:=hf.2.2.1;omega,Nat.zero_le _,by show a.w.length<=o.cw;have:=ho.hcw;have:=ho.hnw;omega,by show(mt.tx.drop k).length<=m.tc-k;have:=hf.2.2.2.2.2.1;omega,Nat.le_refl _⟩,0,fun k m h=>by cases h⟩
theorem kA7 (h:kS w m mt)(ho:OkA w o a)(hl:mt.lf=false)(hk:k<=m.nk)(hD:∀(d:Nat)(w:World)(B:Nat)(ks:List NT),zKn d w B m.K ks->ks.length=m.nk->zKn d w B D (ks.drop k)):kS w ⟨m.lf,o.W,o.nw,o.cw,none,0,0,D,m.nk-k,m.kc-k⟩ (zA2 mt k a.w):=by
 have hp:=h.parts;have hf:=hp.f;have e:=hp.nk;obtain⟨d,hK⟩:=hp.k;unfold zA2;rw[if_neg (by rw[hl];decide)];have ek:(mt.ks.drop k).length=m.nk-k:=by rw[List.length_drop];omega
 exact zHz.has ⟨hp.lf,ho.hnw,rfl,ek,ho.hw,VL.nil _ _ _,⟨ho.hww,by show a.w.length<=_;have:=ho.hmw;have:=ho.hnw;omega,Nat.zero_le _,by show(mt.ks.drop k).length<=_;have:=hf.2.2.2.1;omega,by show a.w.length<=o.cw;have:=ho.hcw;have:=ho.hnw;omega,Nat.le_refl _,by show(mt.ks.drop k).length<=m.kc-k;have:=hf.2.2.2.2.2.2;omega⟩,d,hD _ _ _ _ hK e⟩
end
theorem kR9 {P:Prop}(h:P:=by
 refine Kp 9 0 (fun K hK=>?_);rw[if_pos Ka];go_simp;refine hK _ _ (fun _=>ac.o) (zAl Ka ?_);clear hK K ac;go_wp2_with(first
  |((with_reducible refine zC (ty:=26) (x:=.tmp 2) ?_);refine zB zD HM.o.v2 rfl _ rfl rfl rfl ?_)
  |((with_reducible refine zF (ty:=26) ?_);refine zA zD (r0:=NC.nil.row) (r:=c.row) HM.o.v4 rfl rfl c.one _ _ rfl rfl rfl rfl rfl ?_;intro W9 hv ho;have HM:=hd (HM.o.set4 (a':=c) hv ho);(try have bI:=hd (bI.o.off ho Kb));(try have HI:=hd (HI.o.off2 ho Kb));clear hv ho))
 exact bodyPost_ret (kU Tryz.results48 _ _ HM.o.v4 rfl) rfl ⟨c,rfl,fun h=>absurd h dh.o,HM.o.below⟩):P:=h
theorem kXy {w:World}{c:NC}{o:OC}{n:NT}{a:OpP}{x y:NT}(hn:kS w c n)(ho:OkA w o a)(ta:zAf a)(hk:o.k=4)(hcw:chk a.w=0)(hcut:zBw n a.q=(x,0))(hcm:zE3 n a.q=y)(hz:decide (o.z<0)=true):Calls Tryz.prog 48 #[.agg c.row,.agg o.row] w (kNs w (zeroT,8)):=by
 have dh:=hd (show(8:Int)≠0 by decide);have dV:=hd hcw;have aL:=hd hcut;have cL:=hd hcm;clear hcw hcut hcm;first|have k1:(o.k==1)=true:=by simp[hk]|have k1:(o.k==1)=false:=by simp[hk]
 first|have k2:(o.k==2)=true:=by simp[hk]|have k2:(o.k==2)=false:=by simp[hk]
 first|have k3:(o.k==3)=true:=by simp[hk]|have k3:(o.k==3)=false:=by simp[hk]
 first|have k4:(o.k==4)=true:=by simp[hk]|have k4:(o.k==4)=false:=by simp[hk]
 first|have k5:(o.k==5)=true:=by simp[hk]|have k5:(o.k==5)=false:=by simp[hk]
 first|have k6:(o.k==6)=true:=by simp[hk]|have k6:(o.k==6)=false:=by simp[hk]
 first|have k7:(o.k==7)=true:=by simp[hk]|have k7:(o.k==7)=false:=by simp[hk]
 first|have k9:(o.k !=6)=true:=by simp[hk]|have k9:(o.k !=6)=false:=by simp[hk]
 clear hk;have HN:=hd hn;have HO:=hd ho;have aA:=hd ta;clear hn ho ta;obtain⟨W0,hW,hst⟩:=zDc w c o;have HW:=hd hW;have HM:=hd hst;clear hW hst;go_enter Tryz.func48,Tryz.ntmps48
 go_upto_region 1 with fail
 rw[HW.o];clear HW;go_upto_region 36 with(first
  |((with_reducible refine zC (ty:=26) (x:=.tmp 2) ?_);refine zB zD HM.o.v2 rfl _ rfl rfl rfl ?_)
  |((with_reducible refine zC (ty:=3) ?_);refine zE HM.o.v3 (j:=0) (v:=.int .i64 o.k) _ rfl rfl rfl rfl Tryz.underlying3 rfl ?_)
  |((with_reducible refine zC (ty:=27) ?_);refine zE HM.o.v3 (j:=1) (v:=.slice o.Q o.lq o.cq) _ rfl rfl rfl rfl Tryz.underlying27 rfl ?_)
  |((with_reducible refine zC (ty:=22) ?_);refine zE HM.o.v3 (j:=9) (v:=.slice o.W o.nw o.cw) _ rfl rfl rfl rfl Tryz.underlying22 rfl ?_)
  |(go_at_call 100;refine Calls.mono (kNy (HO.o.later HM.o.below) dV.o) ?_;rintro e w1 ⟨rfl,b9⟩;have HM:=hd (HM.o.call b9);clear b9)
  |(go_at_call 95;refine Calls.mono (kOi (HN.o.later HM.o.below) (zKt.later (HO.o.hasq aA.o) HM.o.below) aL.o cL.o) ?_;rintro e w3 ⟨cr,cy,rfl,h1,h2,b9⟩;have hlo:=HM.o.v4.lt;have hsz:=HM.o.below.size;have HX:=hd h1;have HY:=hd h2;have HI:=hd (kNn HX.o);have HM:=hd (HM.o.call b9);have dP:=HM.o.v4.lt;clear b9 h1 h2;dsimp only)
  |((with_reducible refine zF (ty:=26) ?_);refine zA zD (r0:=NC.nil.row) (r:=cr.row) (zP3 w3).1 rfl rfl cr.one _ _ rfl rfl rfl rfl rfl ?_;intro W4 hv ho;have aB:=hd hv;have HM:=hd ((HM.o.call (zP3 w3).2.2).off Kb ho);have HI:=hd ((HI.o.call (zP3 w3).2.2).off2 ho Kb);have au:=hd ((zP3 w3).2.1.off ho Kb);clear hv ho)
  |((with_reducible refine zF (ty:=26) ?_);refine zA zD (r0:=NC.nil.row) (r:=cy.row) au.o rfl rfl cy.one _ _ rfl rfl rfl rfl rfl ?_;intro W5 hv ho;have aB:=hd (aB.o.off ho Kb);have HM:=hd (HM.o.off Kb ho);have HI:=hd (HI.o.off2 ho Kb);have au:=hd hv;clear hv ho))
 have HM:=hd (HM.o.call (Kk.drew));have aB:=hd (aB.o.keep (Kk.drew));have au:=hd (au.o.keep (Kk.drew));have HI:=hd (HI.o.call (Kk.drew));refine jO (S:=fun W'=>jT 26 W' (w3.heap.size+1) cy.row/\jR W' (w.heap.size+1) o) (z:=fun _=>false) Ka ?_;have ac:=hd (And.intro au.o HM.o.v3);refine Ko 0 9 (.pointer (some ⟨w.heap.size+1,3,none⟩)) ac.o ?_;simp only[Act.put,List.getElem_toArray,List.getElem_cons_zero,List.setIfInBounds_toArray,List.set_cons_succ,List.set_cons_zero];refine Kn 1 8 (.int .i64 o.z) (fun W9 aC=>?_) ac.o ?_
 ·exact kV (j:=3) aC.2.toR _ rfl rfl rfl Tryz.underlying3 rfl
 refine kNm ?_;refine Ko 2 7 (.bool true) ac.o ?_;refine kNm ?_;refine Ko 3 6 (.bool true) ac.o ?_;refine kNm ?_;refine zBx (i:=4) (n:=5) rfl Ka Ka Ka Ka (fun _ _ _ h=>h) Ka ac.o ?_;simp only[Act.put];refine zBx (i:=5) (n:=4) rfl Ka Ka Ka Ka (fun _ _ _ h=>h) Ka ac.o ?_;simp only[Act.put];refine zBx (i:=6) (n:=3) rfl Ka Ka Ka Ka (fun _ _ _ h=>h) Ka ac.o ?_;simp only[Act.put];refine zBx (i:=7) (n:=2) rfl Ka Ka Ka Ka (fun _ _ _ h=>h) Ka ac.o ?_;simp only[Act.put];refine zBx (i:=8) (n:=1) rfl Ka Ka Ka Ka (fun _ _ _ h=>h) Ka ac.o ?_;simp only[Act.put];exact kR9
theorem kXz {w:World}{c:NC}{o:OC}{n:NT}{a:OpP}{x y:NT}(hn:kS w c n)(ho:OkA w o a)(ta:zAf a)(hk:o.k=4)(hcw:chk a.w=0)(hcut:zBw n a.q=(x,0))(hcm:zE3 n a.q=y)(hz:decide (o.z<0)=false)(nW:zG9 y=E)(hov:decide (E<o.z)=true):Calls Tryz.prog 48 #[.agg c.row,.agg o.row] w (kNs w (zeroT,8)):=by
 have dh:=hd (show(8:Int)≠0 by decide);have dV:=hd hcw;have aL:=hd hcut;have cL:=hd hcm;have su:=hd nW;clear hcw hcut hcm nW;first|have k1:(o.k==1)=true:=by simp[hk]|have k1:(o.k==1)=false:=by simp[hk]
 first|have k2:(o.k==2)=true:=by simp[hk]|have k2:(o.k==2)=false:=by simp[hk]
 first|have k3:(o.k==3)=true:=by simp[hk]|have k3:(o.k==3)=false:=by simp[hk]
 first|have k4:(o.k==4)=true:=by simp[hk]|have k4:(o.k==4)=false:=by simp[hk]
 first|have k5:(o.k==5)=true:=by simp[hk]|have k5:(o.k==5)=false:=by simp[hk]
 first|have k6:(o.k==6)=true:=by simp[hk]|have k6:(o.k==6)=false:=by simp[hk]
 first|have k7:(o.k==7)=true:=by simp[hk]|have k7:(o.k==7)=false:=by simp[hk]
 first|have k9:(o.k !=6)=true:=by simp[hk]|have k9:(o.k !=6)=false:=by simp[hk]
 clear hk;have HN:=hd hn;have HO:=hd ho;have aA:=hd ta;clear hn ho ta;obtain⟨W0,hW,hst⟩:=zDc w c o;have HW:=hd hW;have HM:=hd hst;clear hW hst;go_enter Tryz.func48,Tryz.ntmps48
 go_upto_region 1 with fail
 rw[HW.o];clear HW;go_upto_region 36 with(first
  |((with_reducible refine zC (ty:=26) (x:=.tmp 2) ?_);refine zB zD HM.o.v2 rfl _ rfl rfl rfl ?_)
  |((with_reducible refine zC (ty:=3) ?_);refine zE HM.o.v3 (j:=0) (v:=.int .i64 o.k) _ rfl rfl rfl rfl Tryz.underlying3 rfl ?_)
  |((with_reducible refine zC (ty:=27) ?_);refine zE HM.o.v3 (j:=1) (v:=.slice o.Q o.lq o.cq) _ rfl rfl rfl rfl Tryz.underlying27 rfl ?_)
  |((with_reducible refine zC (ty:=22) ?_);refine zE HM.o.v3 (j:=9) (v:=.slice o.W o.nw o.cw) _ rfl rfl rfl rfl Tryz.underlying22 rfl ?_)
  |(go_at_call 100;refine Calls.mono (kNy (HO.o.later HM.o.below) dV.o) ?_;rintro e w1 ⟨rfl,b9⟩;have HM:=hd (HM.o.call b9);clear b9)
  |(go_at_call 95;refine Calls.mono (kOi (HN.o.later HM.o.below) (zKt.later (HO.o.hasq aA.o) HM.o.below) aL.o cL.o) ?_;rintro e w3 ⟨cr,cy,rfl,h1,h2,b9⟩;have hlo:=HM.o.v4.lt;have hsz:=HM.o.below.size;have HX:=hd h1;have HY:=hd h2;have HI:=hd (kNn HX.o);have HM:=hd (HM.o.call b9);have dP:=HM.o.v4.lt;clear b9 h1 h2;dsimp only)
  |((with_reducible refine zF (ty:=26) ?_);refine zA zD (r0:=NC.nil.row) (r:=cr.row) (zP3 w3).1 rfl rfl cr.one _ _ rfl rfl rfl rfl rfl ?_;intro W4 hv ho;have aB:=hd hv;have HM:=hd ((HM.o.call (zP3 w3).2.2).off Kb ho);have HI:=hd ((HI.o.call (zP3 w3).2.2).off2 ho Kb);have au:=hd ((zP3 w3).2.1.off ho Kb);clear hv ho)
  |((with_reducible refine zF (ty:=26) ?_);refine zA zD (r0:=NC.nil.row) (r:=cy.row) au.o rfl rfl cy.one _ _ rfl rfl rfl rfl rfl ?_;intro W5 hv ho;have aB:=hd (aB.o.off ho Kb);have HM:=hd (HM.o.off Kb ho);have HI:=hd (HI.o.off2 ho Kb);have au:=hd hv;clear hv ho))
 have HM:=hd (HM.o.call (Kk.drew));have aB:=hd (aB.o.keep (Kk.drew));have au:=hd (au.o.keep (Kk.drew));have HI:=hd (HI.o.call (Kk.drew));refine jO (S:=fun W'=>jT 26 W' (w3.heap.size+1) cy.row/\jR W' (w.heap.size+1) o) (z:=fun _=>false) Ka ?_;have ac:=hd (And.intro au.o HM.o.v3);refine Ko 0 9 (.pointer (some ⟨w.heap.size+1,3,none⟩)) ac.o ?_;simp only[Act.put,List.getElem_toArray,List.getElem_cons_zero,List.setIfInBounds_toArray,List.set_cons_succ,List.set_cons_zero];refine Kn 1 8 (.int .i64 o.z) (fun W9 aC=>?_) ac.o ?_
 ·exact kV (j:=3) aC.2.toR _ rfl rfl rfl Tryz.underlying3 rfl
 refine kNm ?_;refine Ko 2 7 (.bool false) ac.o ?_;refine kNm ?_;refine Ko 3 6 (.bool false) ac.o ?_;refine kNm ?_;refine Ko 4 5 (.pointer (some ⟨w.heap.size+1,3,none⟩)) ac.o ?_;refine kNm ?_;refine Kn 5 4 (.int .i64 o.z) (fun W9 aC=>?_) ac.o ?_
 ·exact kV (j:=3) aC.2.toR _ rfl rfl rfl Tryz.underlying3 rfl
 refine kNm ?_;refine Kn 6 3 (.agg cy.row) (fun W9 aC=>?_) ac.o ?_
 ·exact zS zD aC.1 rfl _ rfl rfl
 refine kNm ?_;refine Kp 7 2 (fun K hK=>?_);rw[if_pos Ka];go_simp;go_at_call 98
 refine(kPm (c:=cy) (HY.o.high HI.o).now su.o).mono ?_;rintro e w5 ⟨rfl,b9⟩;have HM:=hd (HM.o.call b9);have aB:=hd (aB.o.keep b9);have au:=hd (au.o.keep b9);have HI:=hd (HI.o.call b9);clear b9 ac;have ac:=hd (And.intro au.o HM.o.v3);refine hK _ _ (fun _=>ac.o) ?_;clear hK K;refine Ko 8 1 (.bool true) ac.o ?_;refine kNm ?_;exact kR9
