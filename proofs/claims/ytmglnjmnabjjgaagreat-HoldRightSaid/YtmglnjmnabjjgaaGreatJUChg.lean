import Derived.Test.YtmglnjmnabjjgaaGreatJUParts
set_option maxRecDepth 100000
set_option maxHeartbeats 8000000
namespace Go.Proofs.YtmglnjmnabjjgaaGreat
open Go.RowKit
variable {w:World}{c m:NC}{mt n x y:NT}{a:OpP}{E er:Int}{r:NT×Int}{L:List Pr}
theorem kOb {P:Prop}(h:P:=by
 try have k1:(o.k==1)=true:=by simp[hk]
 try have k1:(o.k==1)=false:=by simp[hk]
 try have k2:(o.k==2)=false:=by simp[hk]
 try have k3:(o.k==3)=true:=by simp[hk]
 try have k2:(o.k==2)=true:=by simp[hk]
 try have k3:(o.k==3)=false:=by simp[hk]
 try have k4:(o.k==4)=true:=by simp[hk]
 try have k4:(o.k==4)=false:=by simp[hk]
 try have k5:(o.k==5)=true:=by simp[hk]
 try have k5:(o.k==5)=false:=by simp[hk]
 try have k6:(o.k==6)=true:=by simp[hk]
 try have k6:(o.k==6)=false:=by simp[hk]
 try have k7:(o.k==7)=true:=by simp[hk]
 try have k7:(o.k==7)=false:=by simp[hk]
 try have k8:(o.k==8)=true:=by simp[hk]
 try have k8:(o.k==8)=false:=by simp[hk]
 try have k9:(o.k==9)=false:=by simp[hk]
 have sQ:=hd hme;try have HC:=hd hc
 try have dX:=hd hcut
 try have fL:=hd hcm
 try have cM:=hd hsz
 try have HAD:=hd had
 have HN:=hd hn;have HO:=hd ho;have aw:=hd ta;clear hn ho ta hme;try clear hk
 try clear hc
 try clear hsz
 try clear had
 try clear hcut
 try clear hcm
 obtain⟨W0,hW,hst⟩:=zDc w c o;have HW:=hd hW;have HM:=hd hst;clear hW hst;go_enter Tryz.func31,Tryz.ntmps31
 go_upto_region 1 with fail
 rw[HW.o];clear HW;go_wp2_with(first
  |((with_reducible refine zC (ty:=26) (x:=.tmp 2) ?_);refine zB zD HM.o.v2 rfl _ rfl rfl rfl ?_)
  |((with_reducible refine zC (ty:=26) (x:=.tmp 6) ?_);refine zB zD dx.o rfl _ rfl rfl rfl ?_)
  |((with_reducible refine zC (ty:=35) (x:=.tmp 3) ?_);refine zG HM.o.v3 _ rfl rfl rfl ?_)
  |(go_at_call 68;refine Calls.mono (sQ.o _ HM.o.below) ?_;rintro e w1 ⟨cm,rfl,hx,b9⟩;have aY:=HM.o.v4.lt;have aF:=hd hx;have HM:=hd (HM.o.call b9);have hl2:=HM.o.v4.lt;have HG:=hd (Nat.le_refl w1.heap.size);clear b9 hx;dsimp only)
  |((with_reducible refine zF (ty:=26) (x:=.tmp 2) ?_);refine zA zD (r0:=c.row) (r:=cr.row) HM.o.v2 rfl rfl cr.one _ _ rfl rfl rfl rfl rfl ?_;intro W4 hv ho;have HM:=hd (HM.o.set2 (a':=cr) hv ho);have HX:=hd (HX.o.off ho Kb);have HY:=hd (HY.o.off ho Kb);have dx:=hd (dx.o.off ho Kb);clear hv ho)
  |((with_reducible refine zF (ty:=26) (x:=.tmp 6) ?_);refine zA zD (r0:=NC.nil.row) (r:=cm.row) (zAr w1).1 rfl rfl cm.one _ _ rfl rfl rfl rfl rfl ?_;intro W2 hv ho;have dx:=hd hv;have aF:=hd (aF.o.later2 (zAr w1).2 ho Kl);have HM:=hd ((HM.o.call (zAr w1).2).off Kb ho);clear hv ho)
  |((with_reducible refine zF (ty:=26) (x:=.tmp 4) ?_);refine zA zD (r0:=NC.nil.row) (r:=cf.row) HM.o.v4 rfl rfl cf.one _ _ rfl rfl rfl rfl rfl ?_;intro WF hv ho;have HM:=hd (HM.o.set4 (a':=cf) hv ho);have HX:=hd (HX.o.off ho Kb);clear hv ho)
  |((with_reducible refine zF (ty:=26) (x:=.tmp 4) ?_);refine zA zD (r0:=NC.nil.row) (r:=NC.nil.row) HM.o.v4 rfl rfl NC.nil.one _ _ rfl rfl rfl rfl rfl ?_;intro W7 hv ho;have HM:=hd (HM.o.set4 (a':=NC.nil) hv ho);clear hv ho)
  |(have _g:=HG;(with_reducible refine zF (ty:=26) (x:=.tmp 6) ?_);refine zA zD (r0:=NC.nil.row) (r:=cm.row) (zAr w1).1 rfl rfl cm.one _ _ rfl rfl rfl rfl rfl ?_;intro W2 hv ho;have dx:=hd hv;have aF:=hd (aF.o.later2 (zAr w1).2 ho Kl);have HM:=hd ((HM.o.call (zAr w1).2).off Kb ho);clear hv ho;clear HG)
  |((with_reducible refine zC (ty:=3) (x:=.tmp 18) ?_);refine zE HM.o.v3 (j:=0) (v:=.int .i64 o.k) _ rfl rfl rfl rfl Tryz.underlying3 rfl ?_)
  |(go_at_call 75;refine Calls.mono (HC.o _ _ HM.o.below aF.o) ?_;rintro e wF ⟨cf,rfl,hx,b9⟩;have hlo:=HM.o.v4.lt;have hsz:=HM.o.below.size;have HX:=hd hx;have HM:=hd (HM.o.call b9);clear b9 hx;dsimp only)
  |(go_at_call 74;refine Calls.mono (HC.o _ _ HM.o.below aF.o) ?_;rintro e wF ⟨cf,rfl,hx,b9⟩;have hlo:=HM.o.v4.lt;have hsz:=HM.o.below.size;have HX:=hd hx;have HM:=hd (HM.o.call b9);clear b9 hx;dsimp only)
  |(go_at_call 71;refine Calls.mono (HC.o _ _ HM.o.below aF.o) ?_;rintro e wF ⟨cf,rfl,hx,b9⟩;have hlo:=HM.o.v4.lt;have hsz:=HM.o.below.size;have HX:=hd hx;have HM:=hd (HM.o.call b9);clear b9 hx;dsimp only)
  |(go_at_call 70;refine Calls.mono (HC.o _ _ HM.o.below aF.o) ?_;rintro e wF ⟨cf,rfl,hx,b9⟩;have hlo:=HM.o.v4.lt;have hsz:=HM.o.below.size;have HX:=hd hx;have HM:=hd (HM.o.call b9);clear b9 hx;dsimp only)
  |(go_at_call 69;refine Calls.mono (HC.o _ _ HM.o.below aF.o) ?_;rintro e wF ⟨cf,rfl,hx,b9⟩;have hlo:=HM.o.v4.lt;have hsz:=HM.o.below.size;have HX:=hd hx;have HM:=hd (HM.o.call b9);clear b9 hx;dsimp only)
  |((with_reducible refine zC (ty:=27) (x:=.tmp 66) ?_);refine zE HM.o.v3 (j:=1) (v:=.slice o.Q o.lq o.cq) _ rfl rfl rfl rfl Tryz.underlying27 rfl ?_)
  |((with_reducible refine zC (ty:=27) (x:=.tmp 52) ?_);refine zE HM.o.v3 (j:=1) (v:=.slice o.Q o.lq o.cq) _ rfl rfl rfl rfl Tryz.underlying27 rfl ?_)
  |(go_at_call 73;refine Calls.mono (zOi (HN.o.later HM.o.below) aF.o (zKt.later (HO.o.hasq aw.o) HM.o.below) cM.o HAD.o) ?_;rintro e wF ⟨cf,rfl,hx,b9⟩;have hlo:=HM.o.v4.lt;have hsz:=HM.o.below.size;have HX:=hd hx;have HM:=hd (HM.o.call b9);clear b9 hx;dsimp only)
  |(go_at_call 72;refine Calls.mono (zR2 (HN.o.later HM.o.below) (zKt.later (HO.o.hasq aw.o) HM.o.below) dX.o fL.o) ?_;rintro e w3 ⟨cr,cy,rfl,h1,h2,b9⟩;have hlo:=HM.o.v4.lt;have rV:=dx.o.lt;have HX:=hd h1;have HY:=hd h2;have HM:=hd (HM.o.call b9);have dx:=hd (dx.o.keep b9);clear b9 h1 h2;dsimp only)
  |(have _g:=HX;(with_reducible refine zF (ty:=26) (x:=.tmp 6) ?_);refine zA zD (r0:=cm.row) (r:=cy.row) dx.o rfl rfl cy.one _ _ rfl rfl rfl rfl rfl ?_;intro W5 hv ho;have HM:=hd (HM.o.off Kb ho);have HX:=hd (HX.o.off ho Kb);have HY:=hd (HY.o.off ho Kb);have dx:=hd hv;clear hv ho)
  |fail)
 first
  |
   exact bodyPost_ret (kU Tryz.results31 _ _ HM.o.v4 rfl) rfl ⟨NC.nil,rfl,fun _ _=>zAb _,HM.o.below⟩
  |
   exact bodyPost_ret (kU Tryz.results31 _ _ HM.o.v4 rfl) rfl ⟨cf,rfl,HX.o.more Kb,HM.o.below⟩
  |fail):P:=h
theorem zKv {o:OC}(hn:kS w c n)(ho:OkA w o a)(ta:zAf a)(hme:∀W,Below w.heap.size w W->Calls Tryz.prog 68 #[.agg c.row,.agg o.row] W (zEi W (mt,E)))(hne:(E !=0)=true):Calls Tryz.prog 31 #[.agg c.row,.agg o.row] w (zAm w (zeroT,E)):=by
 exact kOb
theorem kK6 {o:OC}(hn:kS w c n)(ho:OkA w o a)(ta:zAf a)(hk:o.k=2)(hme:∀W,Below w.heap.size w W->Calls Tryz.prog 68 #[.agg c.row,.agg o.row] W (zEi W (mt,0)))(hc:∀W m,Below w.heap.size w W->kS W m mt->Calls Tryz.prog 69 #[.agg c.row,.agg o.row,.agg m.row] W (zAm W r)):Calls Tryz.prog 31 #[.agg c.row,.agg o.row] w (zAm w r):=by
 exact kOb
theorem zPr {o:OC}(hn:kS w c n)(ho:OkA w o a)(ta:zAf a)(hk:o.k=3)(hme:∀W,Below w.heap.size w W->Calls Tryz.prog 68 #[.agg c.row,.agg o.row] W (zEi W (mt,0)))(hc:∀W m,Below w.heap.size w W->kS W m mt->Calls Tryz.prog 70 #[.agg c.row,.agg o.row,.agg m.row] W (zAm W r)):Calls Tryz.prog 31 #[.agg c.row,.agg o.row] w (zAm w r):=by
 exact kOb
theorem kD9 {o:OC}(hn:kS w c n)(ho:OkA w o a)(ta:zAf a)(hk:o.k=4)(hme:∀W,Below w.heap.size w W->Calls Tryz.prog 68 #[.agg c.row,.agg o.row] W (zEi W (mt,0)))(hc:∀W m,Below w.heap.size w W->kS W m mt->Calls Tryz.prog 71 #[.agg c.row,.agg o.row,.agg m.row] W (zAm W r)):Calls Tryz.prog 31 #[.agg c.row,.agg o.row] w (zAm w r):=by
 exact kOb
theorem kK7 {o:OC}(hn:kS w c n)(ho:OkA w o a)(ta:zAf a)(hk:o.k=6)(hme:∀W,Below w.heap.size w W->Calls Tryz.prog 68 #[.agg c.row,.agg o.row] W (zEi W (mt,0)))(hc:∀W m,Below w.heap.size w W->kS W m mt->Calls Tryz.prog 74 #[.agg c.row,.agg o.row,.agg m.row] W (zAm W r)):Calls Tryz.prog 31 #[.agg c.row,.agg o.row] w (zAm w r):=by
 exact kOb
theorem kMs {o:OC}(hn:kS w c n)(ho:OkA w o a)(ta:zAf a)(hk:o.k=7)(hme:∀W,Below w.heap.size w W->Calls Tryz.prog 68 #[.agg c.row,.agg o.row] W (zEi W (mt,0)))(hc:∀W m,Below w.heap.size w W->kS W m mt->Calls Tryz.prog 75 #[.agg c.row,.agg o.row,.agg m.row] W (zAm W r)):Calls Tryz.prog 31 #[.agg c.row,.agg o.row] w (zAm w r):=by
 exact kOb
theorem kMt {o:OC}(hn:kS w c n)(ho:OkA w o a)(ta:zAf a)(hk:o.k=8)(hme:∀W,Below w.heap.size w W->Calls Tryz.prog 68 #[.agg c.row,.agg o.row] W (zEi W (mt,0)))(hc:∀W m,Below w.heap.size w W->kS W m mt->Calls Tryz.prog 75 #[.agg c.row,.agg o.row,.agg m.row] W (zAm W r)):Calls Tryz.prog 31 #[.agg c.row,.agg o.row] w (zAm w r):=by
 exact kOb
theorem kMu {o:OC}(hn:kS w c n)(ho:OkA w o a)(ta:zAf a)(hk:o.k=1)(hme:∀W,Below w.heap.size w W->Calls Tryz.prog 68 #[.agg c.row,.agg o.row] W (zEi W (mt,0)))(hsz:sizeT n<=100000)(had:zGo n a.q mt=r):Calls Tryz.prog 31 #[.agg c.row,.agg o.row] w (zAm w r):=by
 exact kOb
theorem kM2 {o:OC}(hn:kS w c n)(ho:OkA w o a)(ta:zAf a)(hk:o.k=5)(hme:∀W,Below w.heap.size w W->Calls Tryz.prog 68 #[.agg c.row,.agg o.row] W (zEi W (mt,0)))(hcut:zBw n a.q=(x,E))(hcm:zE3 n a.q=y)(hne:(E !=0)=true):Calls Tryz.prog 31 #[.agg c.row,.agg o.row] w (zAm w (zeroT,E)):=by
 exact kOb
theorem kMv {o:OC}(hn:kS w c n)(ho:OkA w o a)(ta:zAf a)(hk:o.k=5)(hme:∀W,Below w.heap.size w W->Calls Tryz.prog 68 #[.agg c.row,.agg o.row] W (zEi W (mt,0)))(hcut:zBw n a.q=(x,0))(hcm:zE3 n a.q=y)(hsz:sizeT x<=100000)(had:zGo x a.t y=r):Calls Tryz.prog 31 #[.agg c.row,.agg o.row] w (zAm w r):=by
 have k1:(o.k==1)=false:=by simp[hk]
 have k2:(o.k==2)=false:=by simp[hk]
 have k3:(o.k==3)=false:=by simp[hk]
 have k4:(o.k==4)=false:=by simp[hk]
 have k5:(o.k==5)=true:=by simp[hk]
 have k6:(o.k==6)=false:=by simp[hk]
 have k7:(o.k==7)=false:=by simp[hk]
 have k8:(o.k==8)=false:=by simp[hk]
 have k9:(o.k==9)=false:=by simp[hk]
 clear hk;have sQ:=hd hme;have dX:=hd hcut;have fL:=hd hcm;have cM:=hd hsz;have HAD:=hd had;have HN:=hd hn;have HO:=hd ho;have aw:=hd ta;clear hn ho ta hme hcut hcm hsz had;obtain⟨W0,hW,hst⟩:=zDc w c o;have HW:=hd hW;have HM:=hd hst;clear hW hst;go_enter Tryz.func31,Tryz.ntmps31
 go_upto_region 1 with fail
 rw[HW.o];clear HW;go_upto_region 18 with(first
  |((with_reducible refine zC (ty:=26) (x:=.tmp 2) ?_);refine zB zD HM.o.v2 rfl _ rfl rfl rfl ?_)
  |((with_reducible refine zC (ty:=35) (x:=.tmp 3) ?_);refine zG HM.o.v3 _ rfl rfl rfl ?_)
  |(go_at_call 68;refine Calls.mono (sQ.o _ HM.o.below) ?_;rintro e w1 ⟨cm,rfl,hx,b9⟩;have aY:=HM.o.v4.lt;have aF:=hd hx;have HM:=hd (HM.o.call b9);have hl2:=HM.o.v4.lt;have HG:=hd (Nat.le_refl w1.heap.size);clear b9 hx;dsimp only)
  |(have _g:=HG;(with_reducible refine zF (ty:=26) (x:=.tmp 6) ?_);refine zA zD (r0:=NC.nil.row) (r:=cm.row) (zAr w1).1 rfl rfl cm.one _ _ rfl rfl rfl rfl rfl ?_;intro W2 hv ho;have dx:=hd hv;have aF:=hd (aF.o.later2 (zAr w1).2 ho Kl);have HM:=hd ((HM.o.call (zAr w1).2).off Kb ho);clear hv ho;clear HG)
  |((with_reducible refine zC (ty:=3) (x:=.tmp 18) ?_);refine zE HM.o.v3 (j:=0) (v:=.int .i64 o.k) _ rfl rfl rfl rfl Tryz.underlying3 rfl ?_)
  |((with_reducible refine zC (ty:=27) (x:=.tmp 52) ?_);refine zE HM.o.v3 (j:=1) (v:=.slice o.Q o.lq o.cq) _ rfl rfl rfl rfl Tryz.underlying27 rfl ?_)
  |(go_at_call 72;refine Calls.mono (zR2 (HN.o.later HM.o.below) (zKt.later (HO.o.hasq aw.o) HM.o.below) dX.o fL.o) ?_;rintro e w3 ⟨cr,cy,rfl,h1,h2,b9⟩;have hlo:=HM.o.v4.lt;have rV:=dx.o.lt;have HX:=hd h1;have HY:=hd h2;have HM:=hd (HM.o.call b9);have dx:=hd (dx.o.keep b9);clear b9 h1 h2;dsimp only)
  |((with_reducible refine zF (ty:=26) (x:=.tmp 2) ?_);refine zA zD (r0:=c.row) (r:=cr.row) HM.o.v2 rfl rfl cr.one _ _ rfl rfl rfl rfl rfl ?_;intro W4 hv ho;have HM:=hd (HM.o.set2 (a':=cr) hv ho);have HX:=hd (HX.o.off ho Kb);have HY:=hd (HY.o.off ho Kb);have dx:=hd (dx.o.off ho Kb);clear hv ho)
  |(have _g:=HX;(with_reducible refine zF (ty:=26) (x:=.tmp 6) ?_);refine zA zD (r0:=cm.row) (r:=cy.row) dx.o rfl rfl cy.one _ _ rfl rfl rfl rfl rfl ?_;intro W5 hv ho;have HM:=hd (HM.o.off Kb ho);have HX:=hd (HX.o.off ho Kb);have HY:=hd (HY.o.off ho Kb);have dx:=hd hv;clear hv ho)
  |((with_reducible refine zC (ty:=27) (x:=.tmp 62) ?_);refine zE HM.o.v3 (j:=2) (v:=.slice o.T o.lt o.ct) _ rfl rfl rfl rfl Tryz.underlying27 rfl ?_)
  |((with_reducible refine zF (ty:=27) (x:=.tmp 64) ?_);refine zL zCa HM.o.v3 _ _ rfl rfl rfl 1 _ [.slice o.T o.lt o.ct] {o with Q:=o.T,lq:=o.lt,cq:=o.ct} rfl rfl rfl rfl (zHt rfl) Km Ka ?_;intro W6 hv ho;have HM:=hd (HM.o.set3 (o':={o with Q:=o.T,lq:=o.lt,cq:=o.ct}) hv ho);have HX:=hd (HX.o.off ho Kb);have HY:=hd (HY.o.off ho Kb);have dx:=hd ((dx.o).off ho Kb);have nC:=hd (Nat.le_refl W6.heap.size);clear hv ho))
 go_wp2_with(first
  |((with_reducible refine zC (ty:=26) (x:=.tmp 2) ?_);refine zB zD HM.o.v2 rfl _ rfl rfl rfl ?_)
  |((with_reducible refine zC (ty:=27) (x:=.tmp 66) ?_);refine zE HM.o.v3 (j:=1) (v:=.slice o.T o.lt o.ct) _ rfl rfl rfl rfl Tryz.underlying27 rfl ?_)
  |((with_reducible refine zC (ty:=26) (x:=.tmp 6) ?_);refine zB zD dx.o rfl _ rfl rfl rfl ?_)
  |(go_at_call 73;refine Calls.mono (zOi HX.o.now HY.o.now (zKt.later (HO.o.hast aw.o) HM.o.below) cM.o HAD.o) ?_;rintro e wF ⟨cf,rfl,hx,b9⟩;have f9:=HM.o.v4.lt;have hsz:=HM.o.below.size;have mh:=hd hx;have HM:=hd (HM.o.call b9);clear b9 hx HX HY;dsimp only)
  |((with_reducible refine zF (ty:=26) (x:=.tmp 4) ?_);refine zA zD (r0:=NC.nil.row) (r:=cf.row) HM.o.v4 rfl rfl cf.one _ _ rfl rfl rfl rfl rfl ?_;intro WF hv ho;have HM:=hd (HM.o.set4 (a':=cf) hv ho);have mh:=hd (mh.o.off ho Kb);clear hv ho))
 exact bodyPost_ret (kU Tryz.results31 _ _ HM.o.v4 rfl) rfl ⟨cf,rfl,mh.o.more Kb,HM.o.below⟩
theorem kRy {P:Prop}(h:P:=by
 have yg:=hd heq;try have dX:=hd hcut
 try have fL:=hd hcm
 have HN:=hd hn;have HO:=hd ho;have aw:=hd ta;have aF:=hd hm;clear hn ho ta hm heq;try clear hcut
 try clear hcm
 obtain⟨W0,hW,hst⟩:=jM w c o m;have HW:=hd hW;have HM:=hd hst;clear hW hst;go_enter Tryz.func69,Tryz.ntmps69
 go_upto_region 1 with fail
 rw[HW.o];clear HW;go_wp2_with(first
  |((with_reducible refine zC (ty:=26) (x:=.tmp 11) ?_);refine kR HM.o.v4 (j:=4) (vs:=[.bool o.lf,.slice o.P o.np o.pc,.slice o.X o.nt o.tc,.slice o.K o.nk o.kc]) zCp _ rfl rfl rfl Ka ?_)
  |((with_reducible refine zC (ty:=26) (x:=.tmp 5) ?_);refine zB zD HM.o.v5 rfl _ rfl rfl rfl ?_)
  |((with_reducible refine zC (ty:=26) (x:=.tmp 3) ?_);refine zB zD HM.o.v3 rfl _ rfl rfl rfl ?_)
  |((with_reducible refine zC (ty:=26) (x:=.tmp 8) ?_);refine zB zD bE.o rfl _ rfl rfl rfl ?_)
  |(go_at_call 101;refine Calls.mono (zLi (c:=o.nc) (HO.o.later HM.o.below).hasn (aF.o.later HM.o.below) yg.o) ?_;rintro e w1 ⟨rfl,b9⟩;have HM:=hd (HM.o.call b9);clear b9)
  |((with_reducible refine zF (ty:=26) (x:=.tmp 8) ?_);refine zA zD (r0:=NC.nil.row) (r:=cr.row) (zP3 w3).1 rfl rfl cr.one _ _ rfl rfl rfl rfl rfl ?_;intro W4 hv ho;have bE:=hd hv;have HM:=hd ((HM.o.call (zP3 w3).2.2).off Kb ho);have HI:=hd ((HI.o.call (zP3 w3).2.2).off2 ho Kb);have uW:=hd ((zP3 w3).2.1.off ho Kb);clear hv ho)
  |((with_reducible refine zF (ty:=26) (x:=.tmp 9) ?_);refine zA zD (r0:=NC.nil.row) (r:=cm.row) uW.o rfl rfl cm.one _ _ rfl rfl rfl rfl rfl ?_;intro W5 hv ho;have bE:=hd (bE.o.off ho Kb);have HM:=hd (HM.o.off Kb ho);have HI:=hd (HI.o.off2 ho Kb);clear uW;clear hv ho)
  |((with_reducible refine zF (ty:=26) (x:=.tmp 6) ?_);refine zA zD (r0:=NC.nil.row) (r:=cr.row) HM.o.v6 rfl rfl cr.one _ _ rfl rfl rfl rfl rfl ?_;intro W6 hv ho;have HM:=hd (HM.o.set6 (a':=cr) hv ho);have HI:=hd (HI.o.off2 ho Kb);clear hv ho)
  |((with_reducible refine zF (ty:=26) (x:=.tmp 6) ?_);refine zA zD (r0:=NC.nil.row) (r:=NC.nil.row) HM.o.v6 rfl rfl NC.nil.one _ _ rfl rfl rfl rfl rfl ?_;intro W7 hv ho;have HM:=hd (HM.o.set6 (a':=NC.nil) hv ho);clear hv ho)
  |((with_reducible refine zC (ty:=27) (x:=.tmp 19) ?_);refine zE HM.o.v4 (j:=1) (v:=.slice o.Q o.lq o.cq) _ rfl rfl rfl rfl Tryz.underlying27 rfl ?_)
  |(go_at_call 72;refine Calls.mono (zR2 (HN.o.later HM.o.below) (zKt.later (HO.o.hasq aw.o) HM.o.below) dX.o fL.o) ?_;rintro e w3 ⟨cr,cm,rfl,h1,h2,b9⟩;have hlo:=HM.o.v6.lt;have hsz:=HM.o.below.size;have HX:=hd h1;have HI:=hd (zA5.refl w1.heap.size w3);have HM:=hd (HM.o.call b9);have iW:=HM.o.v6.lt;clear b9 h1 h2;dsimp only)
  |fail)
 first
  |
   exact bodyPost_ret (kU Tryz.results69 _ _ HM.o.v6 rfl) rfl ⟨NC.nil,rfl,fun _ _=>zAb _,HM.o.below⟩
  |
   exact bodyPost_ret (kU Tryz.results69 _ _ HM.o.v6 rfl) rfl ⟨cr,rfl,(HX.o.high HI.o).more Kb,HM.o.below⟩
  |fail):P:=h
theorem kAx {o:OC}(hn:kS w c n)(ho:OkA w o a)(ta:zAf a)(hm:kS w m mt)(heq:eqT a.n mt=false):Calls Tryz.prog 69 #[.agg c.row,.agg o.row,.agg m.row] w (zAm w (zeroT,9)):=by
 exact kRy
theorem zXa {o:OC}(hn:kS w c n)(ho:OkA w o a)(ta:zAf a)(hm:kS w m mt)(heq:eqT a.n mt=true)(hcut:zBw n a.q=(x,er))(hcm:zE3 n a.q=y):Calls Tryz.prog 69 #[.agg c.row,.agg o.row,.agg m.row] w (zAm w (x,er)):=by
 exact kRy
theorem kK8 {o:OC}(hn:kS w c n)(ho:OkA w o a)(ta:zAf a)(hm:kS w m mt)(hpe:(PLs mt.ps a.o a.w,PE mt.ps a.o a.w)=(L,E))(hne:(E !=0)=true):Calls Tryz.prog 74 #[.agg c.row,.agg o.row,.agg m.row] w (zAm w (zeroT,E)):=by
 have sS:=hd hpe;have HN:=hd hn;have HO:=hd ho;have aw:=hd ta;have aF:=hd hm;clear hn ho ta hm hpe;obtain⟨W0,hW,hst⟩:=jM w c o m;have HW:=hd hW;have HM:=hd hst;clear hW hst;go_enter Tryz.func74,Tryz.ntmps74
 go_upto_region 1 with fail
 rw[HW.o];clear HW;go_wp2_with(first
  |((with_reducible refine zC (ty:=22) (x:=.tmp 11) ?_);refine zM HM.o.v5 (j:=1) (v:=.slice m.P m.np m.pc) _ rfl rfl rfl rfl Tryz.underlying22 rfl ?_)
  |((with_reducible refine zC (ty:=22) (x:=.tmp 13) ?_);refine zE HM.o.v4 (j:=8) (v:=.slice o.O o.no o.co) _ rfl rfl rfl rfl Tryz.underlying22 rfl ?_)
  |((with_reducible refine zC (ty:=22) (x:=.tmp 15) ?_);refine zE HM.o.v4 (j:=9) (v:=.slice o.W o.nw o.cw) _ rfl rfl rfl rfl Tryz.underlying22 rfl ?_)
  |(go_at_call 110;refine Calls.mono (zT9 (aF.o.later HM.o.below) (HO.o.later HM.o.below) sS.o) ?_;rintro e w1 ⟨A1,c1,rfl,hc1,hs1,b9⟩;have aY:=HM.o.v5.lt;have HS:=hd hs1;have bR:=hd hc1;have HM:=hd (HM.o.call b9);clear b9 hc1 hs1;dsimp only)
  |((with_reducible refine zF (ty:=26) (x:=.tmp 6) ?_);refine zA zD (r0:=NC.nil.row) (r:=NC.nil.row) HM.o.v6 rfl rfl NC.nil.one _ _ rfl rfl rfl rfl rfl ?_;intro W7 hv ho;have HM:=hd (HM.o.set6 (a':=NC.nil) hv ho);clear hv ho))
 exact bodyPost_ret (kU Tryz.results74 _ _ HM.o.v6 rfl) rfl ⟨NC.nil,rfl,fun _ _=>zAb _,HM.o.below⟩
theorem kIa {o:OC}(hn:kS w c n)(ho:OkA w o a)(ta:zAf a)(hm:kS w m mt)(hpe:(PLs mt.ps a.o a.w,PE mt.ps a.o a.w)=(L,0))(hch:chk L=0)(hput:zSe n a.q (zEs mt L)=(x,er)):Calls Tryz.prog 74 #[.agg c.row,.agg o.row,.agg m.row] w (zAm w (x,er)):=by
 have sS:=hd hpe;have dw:=hd hch;have cU:=hd hput;have HN:=hd hn;have HO:=hd ho;have aw:=hd ta;have aF:=hd hm;clear hn ho ta hm hpe hch hput;obtain⟨W0,hW,hst⟩:=jM w c o m;have HW:=hd hW;have HM:=hd hst;clear hW hst;go_enter Tryz.func74,Tryz.ntmps74
 go_upto_region 1 with fail
 rw[HW.o];clear HW;go_upto_region 4 with(first
  |((with_reducible refine zC (ty:=22) (x:=.tmp 11) ?_);refine zM HM.o.v5 (j:=1) (v:=.slice m.P m.np m.pc) _ rfl rfl rfl rfl Tryz.underlying22 rfl ?_)
  |((with_reducible refine zC (ty:=22) (x:=.tmp 13) ?_);refine zE HM.o.v4 (j:=8) (v:=.slice o.O o.no o.co) _ rfl rfl rfl rfl Tryz.underlying22 rfl ?_)
  |((with_reducible refine zC (ty:=22) (x:=.tmp 15) ?_);refine zE HM.o.v4 (j:=9) (v:=.slice o.W o.nw o.cw) _ rfl rfl rfl rfl Tryz.underlying22 rfl ?_)
  |(go_at_call 110;refine Calls.mono (zT9 (aF.o.later HM.o.below) (HO.o.later HM.o.below) sS.o) ?_;rintro e w1 ⟨A1,c1,rfl,hc1,hs1,b9⟩;have aY:=HM.o.v5.lt;have HS:=hd hs1;have bR:=hd hc1;have HM:=hd (HM.o.call b9);clear b9 hc1 hs1;dsimp only))
 go_wp2_with(first
  |((with_reducible refine zF (ty:=22) (x:=.tmp 25) ?_);refine zFd zCq (r':=({m with P:=A1,np:=L.length,pc:=c1}:NC).row) HM.o.v5 _ _ rfl rfl rfl 1 (.slice A1 L.length c1) rfl rfl rfl rfl (by rw[NC.size];decide) Ka ?_;intro W4 hv ho;have HM:=hd (HM.o.set5 (a':={m with P:=A1,np:=L.length,pc:=c1}) hv ho);have yh:=aY;have sU:=hd (kS.setP (aF.o.later HM.o.below) (HS.o.off ho Kb).now dw.o bR.o);clear hv ho)
  |((with_reducible refine zC (ty:=26) (x:=.tmp 3) ?_);refine zB zD HM.o.v3 rfl _ rfl rfl rfl ?_)
  |((with_reducible refine zC (ty:=27) (x:=.tmp 27) ?_);refine zE HM.o.v4 (j:=1) (v:=.slice o.Q o.lq o.cq) _ rfl rfl rfl rfl Tryz.underlying27 rfl ?_)
  |((with_reducible refine zC (ty:=26) (x:=.tmp 5) ?_);refine zB zD HM.o.v5 rfl _ rfl rfl rfl ?_)
  |(go_at_call 104;refine Calls.mono (zJ1 (HN.o.later HM.o.below) sU.o (zKt.later (HO.o.hasq aw.o) HM.o.below) cU.o) ?_;rintro e wF ⟨cf,rfl,hx,b9⟩;have hlo:=HM.o.v6.lt;have hsz:=HM.o.below.size;have HX:=hd hx;have HM:=hd (HM.o.call b9);clear b9 hx;dsimp only)
  |((with_reducible refine zF (ty:=26) (x:=.tmp 6) ?_);refine zA zD (r0:=NC.nil.row) (r:=cf.row) HM.o.v6 rfl rfl cf.one _ _ rfl rfl rfl rfl rfl ?_;intro WF hv ho;have HM:=hd (HM.o.set6 (a':=cf) hv ho);have HX:=hd (HX.o.off ho Kb);clear hv ho))
 exact bodyPost_ret (kU Tryz.results74 _ _ HM.o.v6 rfl) rfl ⟨cf,rfl,HX.o.more Kb,HM.o.below⟩
