import Derived.Test.YtmglnjmnabjjgaaGreatJUSplE
set_option maxRecDepth 100000
set_option maxHeartbeats 8000000
namespace Go.Proofs.YtmglnjmnabjjgaaGreat
open Go.RowKit
variable {w:World}{b m mt n x y:NT}{q q2:List Int}{r:NT×Int}
theorem zU {P Q:Prop}(k:Q)(h:Q->P:=by
 intro kk;simp only[Act.put,List.getElem_toArray,List.getElem_cons_succ,List.getElem_cons_zero,List.setIfInBounds_toArray,List.set_cons_succ,List.set_cons_zero];exact kk):P:=h k
theorem kQ6 {P:Prop}(h:P:=by
 clear htop hmp aY hl2 cj hl4 e1 e2 e3 e4 hsz;go_wp2_with(first
  |((with_reducible refine zC (ty:=26) (x:=.tmp 3) ?_);refine zB zD HM.o.v3 rfl _ rfl rfl rfl ?_)
  |((with_reducible refine zC (ty:=27) (x:=.tmp 70) ?_);refine zE HM.o.v4 (j:=1) (v:=.slice o.Q o.lq o.cq) _ rfl rfl rfl rfl Tryz.underlying27 rfl ?_)
  |(go_at_call 72;refine Calls.mono (zR2 (HN.o.later HM.o.below) (zKt.later (HO.o.hasq aw.o) HM.o.below) dX.o fL.o) ?_;rintro e w9 ⟨cr,cy,rfl,h1,h2,b9⟩;have HX:=hd h1.now;have nE:=hd (nE.o.later b9);have dK:=hd (dK.o.keep b9);have au:=hd (au.o.call b9);have HM:=hd (HM.o.call b9);have yj:=HM.o.v6.lt;have hl12:=dK.o.lt;have zt:=au.o.hi.size;clear b9 h1 h2;dsimp only)
  |((with_reducible refine zF (ty:=26) (x:=.tmp 11) ?_);refine zA zD (r0:=NC.nil.row) (r:=cr.row) (zP3 w9).1 rfl rfl cr.one _ _ rfl rfl rfl rfl rfl ?_;intro zu hv ho;have mi:=hd hv;have pu:=hd ((zP3 w9).2.1.off ho Kb);have dK:=hd ((dK.o.keep (zP3 w9).2.2).off ho Kb);have au:=hd ((au.o.call (zP3 w9).2.2).off ho Kb);have HM:=hd ((HM.o.call (zP3 w9).2.2).off Kb ho);have kG:=hd ((zP3 w9).2.2.trans (ho.below Kl (zP3 w9).2.2.size));clear hv ho)
  |((with_reducible refine zF (ty:=26) (x:=.tmp 12) ?_);refine zA zD (r0:=NC.nil.row) (r:=cy.row) pu.o rfl rfl cy.one _ _ rfl rfl rfl rfl rfl ?_;intro bH hv ho;have mi:=hd (mi.o.off ho Kb);have kG:=hd (kG.o.trans (ho.below Kb kG.o.size));have HX:=hd (HX.o.later kG.o);have nE:=hd (nE.o.later kG.o);have dK:=hd (dK.o.off ho Kb);have au:=hd (au.o.off ho Kb);have HM:=hd (HM.o.off Kb ho);clear pu;clear hv ho)
  |((with_reducible refine zC (ty:=26) (x:=.tmp 11) ?_);refine zB zD mi.o rfl _ rfl rfl rfl ?_)
  |((with_reducible refine zC (ty:=26) (x:=.tmp 10) ?_);refine zB zD dK.o rfl _ rfl rfl rfl ?_)
  |(go_at_call 104;refine Calls.mono (zJ1 HX.o nE.o au.o.has cU.o) ?_;rintro e wF ⟨cf,rfl,hx,b9⟩;have hlo:=HM.o.v6.lt;have hsz:=HM.o.below.size;have HX:=hd hx;have HM:=hd (HM.o.call b9);clear b9 hx;dsimp only)
  |((with_reducible refine zF (ty:=26) (x:=.tmp 6) ?_);refine zA zD (r0:=NC.nil.row) (r:=cf.row) HM.o.v6 rfl rfl cf.one _ _ rfl rfl rfl rfl rfl ?_;intro WF hv ho;have HM:=hd (HM.o.set6 (a':=cf) hv ho);have HX:=hd (HX.o.off ho Kb);clear hv ho))
 exact bodyPost_ret (kU Tryz.results70 _ _ HM.o.v6 rfl) rfl ⟨cf,rfl,HX.o.more Kb,HM.o.below⟩):P:=h
theorem kA1 {c:NC}{o:OC}{m:NC}{a:OpP}{E:Int}(hn:kS w c n)(ho:OkA w o a)(ta:zAf a)(hm:kS w m mt)(hbk:jV a.q=(q2,0))(hin:InI q2)(bO:q2.length<=1000)(hgb:zGm n q2=(b,0))(hbl:b.lf=true)(cV:mt.lf=true)(hlb:zXd b=E)(_z1:(o.z==E)=true)(z2:(o.z !=E)=false)(hop:decide (a.o=mt.ps)=true)(hkb:b.ks=[])(bD:mt.ks=[])(hbig:sizeT b+sizeT mt<=100000)(hcut:zBw n a.q=(x,0))(hcm:zE3 n a.q=y)(hput:zSe x q2 (zAo b mt)=r):Calls Tryz.prog 70 #[.agg c.row,.agg o.row,.agg m.row] w (zAm w r):=by
 have fW:=hm;have eZ:=hd hbk;have fA:=hd hin;have fT:=hd bO;have gV:=hd hgb;have gm:=hd hbl;have dO:=hd cV;have iu:=hd hlb;have iX:=hd hop;have sX:=hd hkb;have iR:=hd bD;have mj:=hd hbig;have dX:=hd hcut;have fL:=hd hcm;have cU:=hd hput;have HN:=hd hn;have HO:=hd ho;have aw:=hd ta;have aF:=hd hm;clear hn ho ta hm hbk hin bO hgb hbl cV hlb hop hkb bD hbig hcut hcm hput;obtain⟨W0,hW,hst⟩:=jM w c o m;have HW:=hd hW;have HM:=hd hst;clear hW hst;go_enter Tryz.func70,Tryz.ntmps70
 go_upto_region 1 with fail
 rw[HW.o];clear HW;go_upto_region 9 with(first
  |((with_reducible refine zC (ty:=27) (x:=.tmp 14) ?_);refine zE HM.o.v4 (j:=1) (v:=.slice o.Q o.lq o.cq) _ rfl rfl rfl rfl Tryz.underlying27 rfl ?_)
  |(go_at_call 24;refine Calls.mono (zI7 (HO.o.later HM.o.below) aw.o eZ.o) ?_;rintro e w2 ⟨A2,l2,c2,rfl,hl2,hc2,hi2,b9⟩;have au:=hd (show Pth _ w2 A2 l2 c2 q2 w2 from⟨hl2,by have h5:=fT.o;have h6:q2.length=l2:=hl2;omega,hc2,fA.o,hi2,zA5.refl _ _⟩);have f9:=HM.o.v6.lt;have HM:=hd (HM.o.call b9);have bY:=HM.o.v6.lt;clear b9 hl2 hc2 hi2;dsimp only)
  |((with_reducible refine zC (ty:=26) (x:=.tmp 3) ?_);refine zB zD HM.o.v3 rfl _ rfl rfl rfl ?_)
  |(go_at_call 15;refine Calls.mono (zHl (HN.o.later HM.o.below) au.o.has gV.o) ?_;rintro e w4 h4;obtain⟨cb,db,us,rfl,htop,hst,b9⟩:=h4.top;have cG:=hd htop;have HB:=hd hst.now;have HM:=hd (HM.o.call b9);have au:=hd (au.o.call b9);have jr:=HM.o.v6.lt;have js:=b9.size;clear b9 htop hst;dsimp only)
  |((with_reducible refine zF (ty:=26) (x:=.tmp 10) ?_);refine zA zD (r0:=NC.nil.row) (r:=cb.row) (zAr w4).1 rfl rfl cb.one _ _ rfl rfl rfl rfl rfl ?_;intro W5 hv ho;have ae:=hd hv;have HI:=hd (((zA5.refl w2.heap.size w4).call (zAr w4).2).off2 ho Kb);have HB:=hd (HB.o.later2 (zAr w4).2 ho Kl);have au:=hd ((au.o.call (zAr w4).2).off ho Kb);have HM:=hd ((HM.o.call (zAr w4).2).off Kb ho);clear hv ho)
  |((with_reducible refine zC (ty:=4) (x:=.tmp 35) ?_);refine zM ae.o (j:=0) (v:=.bool true) _ rfl rfl rfl (by have h9:=HB.o.lf;rw[gm.o]at h9;simp only[NC.row,<-h9];rfl) Tryz.underlying4 rfl ?_)
  |((with_reducible refine zC (ty:=4) (x:=.tmp 37) ?_);refine zM HM.o.v5 (j:=0) (v:=.bool true) _ rfl rfl rfl (by have h9:=aF.o.lf;rw[dO.o]at h9;simp only[NC.row,<-h9];rfl) Tryz.underlying4 rfl ?_))
 obtain⟨g10,aG⟩:∃g,w4.heap.size=g:=⟨_,rfl⟩;have bS:w4.heap.size<=g10:=Kb;rw[aG]at ae;try rw[aG]
 clear aG;have HM:=hd (HM.o.call (Kk.drew));have ae:=hd (ae.o.keep (Kk.drew));have au:=hd (au.o.call (Kk.drew));have HI:=hd (HI.o.call (Kk.drew));have HB:=hd (HB.o.later (Kk.drew));refine jO (S:=fun W'=>jR W' (w.heap.size+1) o/\jT 26 W' g10 cb.row) (z:=fun _=>false) Ka ?_;have aa:=hd (And.intro HM.o.v4 ae.o);refine Ko 0 5 (.pointer (some ⟨w.heap.size+1,3,none⟩)) aa.o ?_;simp only[Act.put,List.getElem_toArray,List.getElem_cons_zero,List.setIfInBounds_toArray,List.set_cons_succ,List.set_cons_zero];refine Kn 1 4 (.int .i64 o.z) (fun W9 aj=>?_) aa.o ?_
 ·exact kV (j:=3) aj.1.toR _ rfl rfl rfl Tryz.underlying3 rfl
 refine zU ?_;refine Kn 2 3 (.agg cb.row) (fun W9 aj=>?_) aa.o ?_
 ·exact zS zD aj.2 rfl _ rfl rfl
 refine zU ?_;refine Kp 3 2 (fun K hK=>?_);rw[if_pos Ka];go_simp;go_at_call 102
 refine(zDu (c:=cb) HB.o iu.o).mono ?_;rintro e w5 ⟨rfl,b9⟩;have HM:=hd (HM.o.call b9);have ae:=hd (ae.o.keep b9);have au:=hd (au.o.call b9);have HI:=hd (HI.o.call b9);clear b9 aa;have aa:=hd (And.intro HM.o.v4 ae.o);refine hK _ _ (fun _=>aa.o) ?_;clear hK K;refine Ko 4 1 (.bool false) aa.o ?_;refine zU ?_;refine Kp 5 0 (fun K hK=>?_);rw[if_pos Ka];go_simp;refine hK _ _ (fun _=>aa.o) (zAl Ka ?_);clear hK K aa;go_upto_region 13 with(first
  |((with_reducible refine zC (ty:=22) (x:=.tmp 49) ?_);refine zE HM.o.v4 (j:=8) (v:=.slice o.O o.no o.co) _ rfl rfl rfl rfl Tryz.underlying22 rfl ?_)
  |((with_reducible refine zC (ty:=22) (x:=.tmp 51) ?_);refine zM HM.o.v5 (j:=1) (v:=.slice m.P m.np m.pc) _ rfl rfl rfl rfl Tryz.underlying22 rfl ?_)
  |(go_at_call 103;refine Calls.mono (zLd (aF.o.later HM.o.below) (HO.o.later HM.o.below) iX.o) ?_;rintro e w6 ⟨rfl,b9⟩;have HM:=hd (HM.o.call b9);have ae:=hd (ae.o.keep b9);have au:=hd (au.o.call b9);have HI:=hd (HI.o.call b9);clear b9))
 have HM:=hd (HM.o.call (Kk.drew));have ae:=hd (ae.o.keep (Kk.drew));have au:=hd (au.o.call (Kk.drew));have HI:=hd (HI.o.call (Kk.drew));obtain⟨W,hW⟩:∃W,w6.drew=W:=⟨_,rfl⟩;rw[hW]at HM ae au HI;refine jO (S:=fun W'=>jT 26 W' (w.heap.size+1+1) m.row/\W'.cell? ⟨g10,3,none⟩=some (.slice cb.K cb.nk cb.kc)) (z:=fun j=>j==13) Ka ?_;rw[hW];clear hW;have aa:=hd (And.intro HM.o.v5 (ae.o.cell 3 (.slice cb.K cb.nk cb.kc) rfl));refine Ko 0 13 (.pointer (some ⟨g10,2,none⟩)) aa.o ?_;simp only[Act.put,List.getElem_toArray,List.getElem_cons_zero,List.setIfInBounds_toArray,List.set_cons_succ,List.set_cons_zero];refine Ko 2 12 (.pointer (some ⟨w.heap.size+1+1,2,none⟩)) aa.o ?_;refine zU ?_;refine Kn 3 11 (.slice m.X m.nt m.tc) (fun W9 aj=>?_) aa.o ?_
 ·exact kV (j:=2) aj.1 _ rfl rfl rfl Tryz.underlying23 rfl
 refine zU ?_;refine Ko 5 10 (.pointer (some ⟨g10,3,none⟩)) aa.o ?_;refine zU ?_;refine Kn 6 9 (.slice cb.K cb.nk cb.kc) (fun W9 aj=>?_) aa.o ?_
 ·exact zK3 aj.2 _ rfl rfl Tryz.underlying24 rfl
 refine zU ?_;refine Ko 7 8 (.pointer (some ⟨w.heap.size+1+1,3,none⟩)) aa.o ?_;refine zU ?_;refine Kn 8 7 (.slice m.K m.nk m.kc) (fun W9 aj=>?_) aa.o ?_
 ·exact kV (j:=3) aj.1 _ rfl rfl rfl Tryz.underlying24 rfl
 refine zU ?_;refine Kp 1 6 (fun K hK=>?_);rw[if_pos Ka];refine zB6 (j:=2) (ae.o.cell 2 (.slice cb.X cb.nt cb.tc) rfl) _ rfl rfl Tryz.underlying23 rfl ?_;refine zU ?_;refine hK _ _ (fun _=>aa.o) ?_;clear hK K;have htop:=cG.o.high HI.o;have hmp:=aF.o.parts;have hsz:=mj.o;have aY:b.tx.length+1<=sizeT b:=by obtain⟨lf,ps,tx,ks⟩:=b;simp only[sizeT,NT.tx];omega
 have hl2:mt.tx.length+1<=sizeT mt:=by obtain⟨lf,ps,tx,ks⟩:=mt;simp only[sizeT,NT.tx];omega
 have cj:b.ks.length<=sizeT b:=zLe b;have hl4:mt.ks.length<=sizeT mt:=zLe mt;have e1:=htop.nt;have e2:=htop.nk;have e3:=hmp.nt;have e4:=hmp.nk;have sY:=HI.o.size;have hbs:=HM.o.below.size;have lg:=ae.o.lt;have sZ:=hd HI.o;refine Kp 4 5 (fun K hK=>?_);refine zIq zTa W rfl _ _ rfl w2.heap.size (.slice cb.X cb.nt cb.tc) cb.nt (rv b.tx) rfl htop.x m.X m.nt m.tc w.heap.size (rv mt.tx) rfl (by rw[zCg,e3,Nat.mul_one]) (hmp.x.below HM.o.below) (zNz _) Kg Kb Kb ?_;intro A' c' W5 hrow hgr hat;have mn:=hd hrow;have qi:=hd hgr;have lv:=hgr.size;have hkb:∀q,(Value.slice cb.X cb.nt cb.tc).ownBlock=some q->w2.heap.size<=q/\q<w4.heap.size:=fun q hq=>cG.o.x.lt q hq;have hmb:Below w.heap.size w W5:=HM.o.below.grown hgr Kb (fun j hj=>by have:=(hkb j hj).1;omega);have aW:∀g,(g<w2.heap.size∨w4.heap.size<=g)->g<W.heap.size->W5.heap[g]? =W.heap[g]? :=fun g hg hl=>hgr.block g hl (fun e=>by have:=hkb g e.symm;omega);have HM:=hd (show M4 w c o m NC.nil W5 from⟨(aW _ Kb HM.o.v3.lt).trans HM.o.v3,(aW _ Kb HM.o.v4.lt).trans HM.o.v4,(aW _ Kb HM.o.v5.lt).trans HM.o.v5,(aW _ Kb HM.o.v6.lt).trans HM.o.v6,hmb⟩);have ae:=hd (show jT 26 W5 g10 _ from(aW _ Kb ae.o.lt).trans ae.o);have mo:=hd ae.o;have au:=hd (au.o.grown hgr (fun j hj=>(hkb j hj).1));have uX:=hd hat;clear hat hrow hgr aW hkb hmb;refine zU ?_;have aa:=hd (And.intro HM.o.v5 (ae.o.cell 3 (.slice cb.K cb.nk cb.kc) rfl));refine hK _ _ (fun _=>aa.o) ?_;clear hK K;refine Ko 10 4 (.pointer (some ⟨g10,2,none⟩)) aa.o ?_;refine zU ?_;refine Kp 9 3 (fun K hK=>?_);refine zJh zWg _ rfl _ _ rfl w2.heap.size (.slice cb.K cb.nk cb.kc) cb.nk (zGg us) rfl (htop.k.kept qi.o (zJz htop.x htop.k Kd)) m.K m.nk m.kc (by rw[<-e4,iR.o];rfl) rfl ?_;refine zU ?_;have aa:=hd (And.intro HM.o.v5 (ae.o.cell 3 (.slice cb.K cb.nk cb.kc) rfl));refine hK _ _ (fun _=>aa.o) ?_;clear hK K;refine Kp 11 2 (fun K hK=>?_);rw[if_pos Ka];refine zY zFu ae.o _ _ rfl rfl 2 _ [.slice A' (cb.nt+m.nt) c'] rfl rfl rfl rfl (zHt rfl) Km ?_;intro W7 hv ho;have oX:=hd ho;have HM:=hd (HM.o.off Kb ho);have au:=hd (au.o.off ho Kb);have ae:=hd (show jT 26 W7 g10 (NC.row ({cb with X:=A',nt:=cb.nt+m.nt,tc:=c'}:NC))from hv);clear hv ho;have aa:=hd (And.intro HM.o.v5 (ae.o.cell 3 (.slice cb.K cb.nk cb.kc) rfl));refine hK _ _ (fun _=>aa.o) ?_;clear hK K;refine Ko 12 1 (.pointer (some ⟨g10,3,none⟩)) aa.o ?_;refine zU ?_;refine Kp 13 0 (fun K hK=>?_);rw[if_pos Ka];refine zY zKu ae.o _ _ rfl rfl 3 _ [.slice cb.K cb.nk cb.kc] rfl rfl rfl rfl (zHt rfl) Km ?_;intro W8 hv ho;have dK:=hd (show jT 26 W8 g10 (NC.row ({cb with X:=A',nt:=cb.nt+m.nt,tc:=c'}:NC))from hv);have qj:=hd (oX.o.trans ho);have HM:=hd (HM.o.off Kb ho);have au:=hd (au.o.off ho Kb);clear hv ho;refine hK _ _ (fun h=>absurd h Kd) (zAl Ka ?_);clear hK K;have nE:=hd (zS1 cG.o sZ.o sX.o iR.o e3 Kb mn.o qi.o mo.o qj.o);exact kQ6
theorem kA2 {c:NC}{o:OC}{m:NC}{a:OpP}{E:Int}(hn:kS w c n)(ho:OkA w o a)(ta:zAf a)(hm:kS w m mt)(hbk:jV a.q=(q2,0))(hin:InI q2)(bO:q2.length<=1000)(hgb:zGm n q2=(b,0))(hbl:b.lf=false)(cV:mt.lf=false)(hlb:zXd b=E)(_z1:(o.z==E)=true)(z2:(o.z !=E)=false)(hop:decide (a.o=mt.ps)=true)(hkb:b.tx=[])(bD:mt.tx=[])(hbig:sizeT b+sizeT mt<=100000)(hcut:zBw n a.q=(x,0))(hcm:zE3 n a.q=y)(hput:zSe x q2 (zAo b mt)=r):Calls Tryz.prog 70 #[.agg c.row,.agg o.row,.agg m.row] w (zAm w r):=by
 have yl:=hd hm;have eZ:=hd hbk;have fA:=hd hin;have fT:=hd bO;have gV:=hd hgb;have gm:=hd hbl;have dO:=hd cV;have iu:=hd hlb;have iX:=hd hop;have sX:=hd hkb;have iR:=hd bD;have mj:=hd hbig;have dX:=hd hcut;have fL:=hd hcm;have cU:=hd hput;have HN:=hd hn;have HO:=hd ho;have aw:=hd ta;have aF:=hd hm;clear hn ho ta hm hbk hin bO hgb hbl cV hlb hop hkb bD hbig hcut hcm hput;obtain⟨W0,hW,hst⟩:=jM w c o m;have HW:=hd hW;have HM:=hd hst;clear hW hst;go_enter Tryz.func70,Tryz.ntmps70
 go_upto_region 1 with fail
 rw[HW.o];clear HW;go_upto_region 9 with(first
  |((with_reducible refine zC (ty:=27) (x:=.tmp 14) ?_);refine zE HM.o.v4 (j:=1) (v:=.slice o.Q o.lq o.cq) _ rfl rfl rfl rfl Tryz.underlying27 rfl ?_)
  |(go_at_call 24;refine Calls.mono (zI7 (HO.o.later HM.o.below) aw.o eZ.o) ?_;rintro e w2 ⟨A2,l2,c2,rfl,hl2,hc2,hi2,b9⟩;have au:=hd (show Pth _ w2 A2 l2 c2 q2 w2 from⟨hl2,by have h5:=fT.o;have h6:q2.length=l2:=hl2;omega,hc2,fA.o,hi2,zA5.refl _ _⟩);have f9:=HM.o.v6.lt;have HM:=hd (HM.o.call b9);have bY:=HM.o.v6.lt;clear b9 hl2 hc2 hi2;dsimp only)
  |((with_reducible refine zC (ty:=26) (x:=.tmp 3) ?_);refine zB zD HM.o.v3 rfl _ rfl rfl rfl ?_)
  |(go_at_call 15;refine Calls.mono (zHl (HN.o.later HM.o.below) au.o.has gV.o) ?_;rintro e w4 h4;obtain⟨cb,db,us,rfl,htop,hst,b9⟩:=h4.top;have cG:=hd htop;have HB:=hd hst.now;have HM:=hd (HM.o.call b9);have au:=hd (au.o.call b9);have jr:=HM.o.v6.lt;have js:=b9.size;clear b9 htop hst;dsimp only)
  |((with_reducible refine zF (ty:=26) (x:=.tmp 10) ?_);refine zA zD (r0:=NC.nil.row) (r:=cb.row) (zAr w4).1 rfl rfl cb.one _ _ rfl rfl rfl rfl rfl ?_;intro W5 hv ho;have ae:=hd hv;have HI:=hd (((zA5.refl w2.heap.size w4).call (zAr w4).2).off2 ho Kb);have HB:=hd (HB.o.later2 (zAr w4).2 ho Kl);have au:=hd ((au.o.call (zAr w4).2).off ho Kb);have HM:=hd ((HM.o.call (zAr w4).2).off Kb ho);clear hv ho)
  |((with_reducible refine zC (ty:=4) (x:=.tmp 35) ?_);refine zM ae.o (j:=0) (v:=.bool false) _ rfl rfl rfl (by have h9:=HB.o.lf;rw[gm.o]at h9;simp only[NC.row,<-h9];rfl) Tryz.underlying4 rfl ?_)
  |((with_reducible refine zC (ty:=4) (x:=.tmp 37) ?_);refine zM HM.o.v5 (j:=0) (v:=.bool false) _ rfl rfl rfl (by have h9:=aF.o.lf;rw[dO.o]at h9;simp only[NC.row,<-h9];rfl) Tryz.underlying4 rfl ?_))
 obtain⟨g10,aG⟩:∃g,w4.heap.size=g:=⟨_,rfl⟩;have bS:w4.heap.size<=g10:=Kb;rw[aG]at ae;try rw[aG]
 clear aG;have HM:=hd (HM.o.call (Kk.drew));have ae:=hd (ae.o.keep (Kk.drew));have au:=hd (au.o.call (Kk.drew));have HI:=hd (HI.o.call (Kk.drew));have HB:=hd (HB.o.later (Kk.drew));refine jO (S:=fun W'=>jR W' (w.heap.size+1) o/\jT 26 W' g10 cb.row) (z:=fun _=>false) Ka ?_;have aa:=hd (And.intro HM.o.v4 ae.o);refine Ko 0 5 (.pointer (some ⟨w.heap.size+1,3,none⟩)) aa.o ?_;simp only[Act.put,List.getElem_toArray,List.getElem_cons_zero,List.setIfInBounds_toArray,List.set_cons_succ,List.set_cons_zero];refine Kn 1 4 (.int .i64 o.z) (fun W9 aj=>?_) aa.o ?_
 ·exact kV (j:=3) aj.1.toR _ rfl rfl rfl Tryz.underlying3 rfl
 refine zU ?_;refine Kn 2 3 (.agg cb.row) (fun W9 aj=>?_) aa.o ?_
 ·exact zS zD aj.2 rfl _ rfl rfl
 refine zU ?_;refine Kp 3 2 (fun K hK=>?_);rw[if_pos Ka];go_simp;go_at_call 102
 refine(zDu (c:=cb) HB.o iu.o).mono ?_;rintro e w5 ⟨rfl,b9⟩;have HM:=hd (HM.o.call b9);have ae:=hd (ae.o.keep b9);have au:=hd (au.o.call b9);have HI:=hd (HI.o.call b9);clear b9 aa;have aa:=hd (And.intro HM.o.v4 ae.o);refine hK _ _ (fun _=>aa.o) ?_;clear hK K;refine Ko 4 1 (.bool false) aa.o ?_;refine zU ?_;refine Kp 5 0 (fun K hK=>?_);rw[if_pos Ka];go_simp;refine hK _ _ (fun _=>aa.o) (zAl Ka ?_);clear hK K aa;go_upto_region 13 with(first
  |((with_reducible refine zC (ty:=22) (x:=.tmp 49) ?_);refine zE HM.o.v4 (j:=8) (v:=.slice o.O o.no o.co) _ rfl rfl rfl rfl Tryz.underlying22 rfl ?_)
  |((with_reducible refine zC (ty:=22) (x:=.tmp 51) ?_);refine zM HM.o.v5 (j:=1) (v:=.slice m.P m.np m.pc) _ rfl rfl rfl rfl Tryz.underlying22 rfl ?_)
  |(go_at_call 103;refine Calls.mono (zLd (aF.o.later HM.o.below) (HO.o.later HM.o.below) iX.o) ?_;rintro e w6 ⟨rfl,b9⟩;have HM:=hd (HM.o.call b9);have ae:=hd (ae.o.keep b9);have au:=hd (au.o.call b9);have HI:=hd (HI.o.call b9);clear b9))
 have HM:=hd (HM.o.call (Kk.drew));have ae:=hd (ae.o.keep (Kk.drew));have au:=hd (au.o.call (Kk.drew));have HI:=hd (HI.o.call (Kk.drew));obtain⟨W,hW⟩:∃W,w6.drew=W:=⟨_,rfl⟩;rw[hW]at HM ae au HI;refine jO (S:=fun W'=>jT 26 W' (w.heap.size+1+1) m.row/\W'.cell? ⟨g10,3,none⟩=some (.slice cb.K cb.nk cb.kc)) (z:=fun j=>j==13) Ka ?_;rw[hW];clear hW;have aa:=hd (And.intro HM.o.v5 (ae.o.cell 3 (.slice cb.K cb.nk cb.kc) rfl));refine Ko 0 13 (.pointer (some ⟨g10,2,none⟩)) aa.o ?_;simp only[Act.put,List.getElem_toArray,List.getElem_cons_zero,List.setIfInBounds_toArray,List.set_cons_succ,List.set_cons_zero];refine Ko 2 12 (.pointer (some ⟨w.heap.size+1+1,2,none⟩)) aa.o ?_;refine zU ?_;refine Kn 3 11 (.slice m.X m.nt m.tc) (fun W9 aj=>?_) aa.o ?_
 ·exact kV (j:=2) aj.1 _ rfl rfl rfl Tryz.underlying23 rfl
 refine zU ?_;refine Ko 5 10 (.pointer (some ⟨g10,3,none⟩)) aa.o ?_;refine zU ?_;refine Kn 6 9 (.slice cb.K cb.nk cb.kc) (fun W9 aj=>?_) aa.o ?_
 ·exact zK3 aj.2 _ rfl rfl Tryz.underlying24 rfl
 refine zU ?_;refine Ko 7 8 (.pointer (some ⟨w.heap.size+1+1,3,none⟩)) aa.o ?_;refine zU ?_;refine Kn 8 7 (.slice m.K m.nk m.kc) (fun W9 aj=>?_) aa.o ?_
 ·exact kV (j:=3) aj.1 _ rfl rfl rfl Tryz.underlying24 rfl
 refine zU ?_;refine Kp 1 6 (fun K hK=>?_);rw[if_pos Ka];refine zB6 (j:=2) (ae.o.cell 2 (.slice cb.X cb.nt cb.tc) rfl) _ rfl rfl Tryz.underlying23 rfl ?_;refine zU ?_;refine hK _ _ (fun _=>aa.o) ?_;clear hK K;have htop:=cG.o.high HI.o;have hmp:=aF.o.parts;have hsz:=mj.o;have aY:b.tx.length+1<=sizeT b:=by obtain⟨lf,ps,tx,ks⟩:=b;simp only[sizeT,NT.tx];omega
 have hl2:mt.tx.length+1<=sizeT mt:=by obtain⟨lf,ps,tx,ks⟩:=mt;simp only[sizeT,NT.tx];omega
 have cj:b.ks.length<=sizeT b:=zLe b;have hl4:mt.ks.length<=sizeT mt:=zLe mt;have e1:=htop.nt;have e2:=htop.nk;have e3:=hmp.nt;have e4:=hmp.nk;have sY:=HI.o.size;have hbs:=HM.o.below.size;have lg:=ae.o.lt;have sZ:=hd HI.o;refine Kp 4 5 (fun K hK=>?_);refine zJh zTa _ rfl _ _ rfl w2.heap.size (.slice cb.X cb.nt cb.tc) cb.nt (rv b.tx) rfl htop.x m.X m.nt m.tc (by rw[<-e3,iR.o];rfl) rfl ?_;refine zU ?_;have aa:=hd (And.intro HM.o.v5 (ae.o.cell 3 (.slice cb.K cb.nk cb.kc) rfl));refine hK _ _ (fun _=>aa.o) ?_;clear hK K;obtain⟨dk,hkk⟩:=yl.o.parts.k;obtain⟨vs,hvs,hvl⟩:=hkk.vals;have ym:=hd hvs;have yq:=hd hvl;have uY:=hd hvs.flat;clear hkk hvs hvl;refine Ko 10 4 (.pointer (some ⟨g10,2,none⟩)) aa.o ?_;refine zU ?_;refine Kp 9 3 (fun K hK=>?_);refine zIq zWg W rfl _ _ rfl w2.heap.size (.slice cb.K cb.nk cb.kc) cb.nk (zGg us) rfl (cG.o.high HI.o).k m.K m.nk m.kc w.heap.size (zGg vs) rfl (by rw[uY.o.1,e4]) (yq.o.below HM.o.below) uY.o.2 Kg Kb Kb ?_;intro A' c' W5 hrow hgr hat;have mn:=hd hrow;have qi:=hd hgr;have lv:=hgr.size;have hkb:∀q,(Value.slice cb.K cb.nk cb.kc).ownBlock=some q->w2.heap.size<=q/\q<w4.heap.size:=fun q hq=>cG.o.k.lt q hq;have hmb:Below w.heap.size w W5:=HM.o.below.grown hgr Kb (fun j hj=>by have:=(hkb j hj).1;omega);have aW:∀g,(g<w2.heap.size∨w4.heap.size<=g)->g<W.heap.size->W5.heap[g]? =W.heap[g]? :=fun g hg hl=>hgr.block g hl (fun e=>by have:=hkb g e.symm;omega);have HM:=hd (show M4 w c o m NC.nil W5 from⟨(aW _ Kb HM.o.v3.lt).trans HM.o.v3,(aW _ Kb HM.o.v4.lt).trans HM.o.v4,(aW _ Kb HM.o.v5.lt).trans HM.o.v5,(aW _ Kb HM.o.v6.lt).trans HM.o.v6,hmb⟩);have ae:=hd (show jT 26 W5 g10 _ from(aW _ Kb ae.o.lt).trans ae.o);have mo:=hd ae.o;have au:=hd (au.o.grown hgr (fun j hj=>(hkb j hj).1));have uX:=hd hat;clear hat hrow hgr aW hkb hmb;refine zU ?_;have aa:=hd (And.intro HM.o.v5 (ae.o.cell 3 (.slice cb.K cb.nk cb.kc) rfl));refine hK _ _ (fun _=>aa.o) ?_;clear hK K;refine Kp 11 2 (fun K hK=>?_);rw[if_pos Ka];refine zY zFu ae.o _ _ rfl rfl 2 _ [.slice cb.X cb.nt cb.tc] rfl rfl rfl rfl (zHt rfl) Km ?_;intro W7 hv ho;have oX:=hd ho;have HM:=hd (HM.o.off Kb ho);have au:=hd (au.o.off ho Kb);have ae:=hd (show jT 26 W7 g10 (NC.row cb)from hv);clear hv ho;have aa:=hd (And.intro HM.o.v5 (ae.o.cell 3 (.slice cb.K cb.nk cb.kc) rfl));refine hK _ _ (fun _=>aa.o) ?_;clear hK K;refine Ko 12 1 (.pointer (some ⟨g10,3,none⟩)) aa.o ?_;refine zU ?_;refine Kp 13 0 (fun K hK=>?_);rw[if_pos Ka];refine zY zKu ae.o _ _ rfl rfl 3 _ [.slice A' (cb.nk+m.nk) c'] rfl rfl rfl rfl (zHt rfl) Km ?_;intro W8 hv ho;have dK:=hd (show jT 26 W8 g10 (NC.row ({cb with K:=A',nk:=cb.nk+m.nk,kc:=c'}:NC))from hv);have qj:=hd (oX.o.trans ho);have HM:=hd (HM.o.off Kb ho);have au:=hd (au.o.off ho Kb);clear hv ho;refine hK _ _ (fun h=>absurd h Kd) (zAl Ka ?_);clear hK K;have nE:=hd (zY0 cG.o sZ.o sX.o iR.o e4 Kb mn.o qi.o uX.o Kb lg mo.o qj.o ym.o Kb HM.o.below);exact kQ6
theorem zH1 (n:NT)(q:List Int):(q.length=0/\zBw n q=(zeroT,6))∨(q.length≠0/\zGm n q=(zeroT,5)/\zBw n q=(zeroT,5))∨∃m x,q.length≠0/\kB n q=some m/\zBw n q=(x,0)/\zE3 n q=m:=by
 rcases Classical.em (q.length=0)with hq|hq
 ·exact .inl ⟨hq,by unfold zBw;rw[if_pos hq]⟩
 ·cases hg:kB n q with
  |none=>
   refine .inr (.inl ⟨hq,zB2 hg,?_⟩);unfold zBw;rw[if_neg hq,zM6 (zG2 _)];rw[zHv hq]at hg;cases hu:kB n (upP q)with
   |none=>rfl
   |some x=>
    rw[hu]at hg;have hk:zBh x (lastL q)=none:=hg;simp only;have e:(zJy (lastL q) x).2=5:=by unfold zJy;rw[if_neg (by rw[kK1 hk];decide)]
    rw[e,if_neg Kd]
  | some m=>
   refine .inr (.inr ⟨m,(zBw n q).1,hq,rfl,?_,by unfold zE3;rw[if_neg hq,kP hg]⟩);have h2:(zBw n q).2=0:=by
    unfold zBw;rw[if_neg hq,zM6 (zG2 _)];rw[zHv hq]at hg;cases hu:kB n (upP q)with
    |none=>rw[hu]at hg;cases hg
    |some x=>
     rw[hu]at hg;have hk:zBh x (lastL q)=some m:=hg;simp only;have e:(zJy (lastL q) x).2=0:=by unfold zJy;rw[if_pos (zCy hk)]
     rw[if_pos e]
   rw[<-h2]
theorem zR5 (h:kB n q=some x):zSe n q m=(putT n q m,0):=by rw[kHz,h]
theorem kLb (hq:q.length≠0)(hg:kB n q=some m)(hb:jV q=(q2,0)):∃b,kB n q2=some b/\kB (zBw n q).1 q2=some b:=by
 rcases zH1 n q with⟨h,_⟩|⟨_,h,_⟩|⟨m',x',_,_,hc,_⟩
 ·exact absurd h hq
 ·rw[kP hg]at h;injection h with _ h;cases h
 obtain⟨u,j,x,k,hf⟩:=zBn (n:=n) (p:=q) (by rw[hc]);have hb2:=hb;rw[hf.path]at hb2;obtain⟨i,rfl⟩:∃i,j=i+1:=by
  unfold jV at hb2;rw[if_neg Kc,zC0]at hb2;by_cases h1:(j:Int)<=0
  ·rw[if_pos h1]at hb2;injection hb2 with _ hb2;cases hb2
  ·exact⟨j-1,by omega⟩
 have e2:q2=u++[(i:Int)]:=by
  rw[zFy]at hb2;injection hb2 with hb2;exact hb2.symm
 subst e2;have hlen:=(List.getElem?_eq_some_iff.1 hf.kid).1;have aJ:x.ks[i]? =some x.ks[i]:=List.getElem?_eq_getElem Kb;refine⟨x.ks[i],?_,?_⟩
 ·rw[jJ,hf.at_];show kB x [(i:Int)]=_
  rw[zR,zA9,aJ];rfl
 ·have hg2:=jX n u (jS x (i+1) 1 []) x hf.at_;rw[hf.eq,jJ,hg2];show kB (jS x (i+1) 1 []) [(i:Int)]=_
  rw[zR,zA9];have hsk:(jS x (i+1) 1 []).ks[i]? =some x.ks[i]:=by
   show(spl x.ks (i+1) 1 [])[i]? =_
   rw[zBp Kb Kb,aJ]
  rw[hsk];rfl
theorem kEk (hq:q.length≠0)(h:(jV q).2≠0):(jV q).2=8:=by
 unfold jV at h⊢;rw[if_neg hq]at h⊢;split
 ·rfl
 ·rename_i h2;rw[if_neg h2]at h;exact absurd rfl h
theorem kIc (hq:q.length≠0)(hg:kB n q=some m)(hs:sizeT n<=100000):(zBg q).2=0:=by
 rw[zHv hq]at hg;cases hu:kB n (upP q)with
 |none=>rw[hu]at hg;cases hg
 |some x=>
  rw[hu]at hg;have hk:zBh x (lastL q)=some m:=hg;obtain⟨k1,k2,_⟩:=zA1 hk;have h1:=zGh _ n x hu;have h2:∀(l:List NT),l.length<=sizeK l:=fun l=>by
   induction l with
   |nil=>simp
   |cons k r ih=>have:=zJs k;simp only[List.length_cons,sizeK];omega
  have h3:=h2 x.ks;obtain⟨lf,ps,tx,ks⟩:=x;simp only[sizeT,NT.ks]at*;unfold zBg;rw[if_neg hq,if_neg Kb]
theorem zPt (hg:kB n q=some m):sizeT m<=sizeT n:=by have:=zGh q n m hg;omega
theorem kLc (hc:zBw n q=(x,0)):sizeT x<=sizeT n:=by
 have:=zFn (n:=n) (p:=q) (by rw[hc]);rw[hc]at this;have e:sizeT x+sizeT (zE3 n q)=sizeT n:=this;omega
