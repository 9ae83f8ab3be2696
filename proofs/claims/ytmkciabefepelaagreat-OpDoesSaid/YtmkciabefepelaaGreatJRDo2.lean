import Derived.Test.YtmkciabefepelaaGreatJQRPatch2
set_option maxRecDepth 100000
set_option maxHeartbeats 8000000
namespace Go.Proofs.YtmkciabefepelaaGreat
open Go.RowKit
variable {P:Prop}{v:Value}{cs:Array Value}
theorem rdB (h:P:=by
 go_wp2_with(first
  |((with_reducible refine zC (ty:=26) (x:=.tmp 2) ?_);refine zB zD HM.o.v2 rfl _ rfl rfl rfl ?_)
  |((with_reducible refine zC (ty:=3) ?_);refine zE HM.o.v3 (j:=0) (v:=.int .i64 o.k) _ rfl rfl rfl rfl Tryz.underlying3 rfl ?_)
  |((with_reducible refine zC (ty:=3) ?_);refine zE HM.o.v3 (j:=3) (v:=.int .i64 o.z) _ rfl rfl rfl rfl Tryz.underlying3 rfl ?_)
  |((with_reducible refine zC (ty:=27) ?_);refine zE HM.o.v3 (j:=1) (v:=.slice o.Q o.lq o.cq) _ rfl rfl rfl rfl Tryz.underlying27 rfl ?_)
  |((with_reducible refine kH (dst:=some 245) (ty:=27) (x:=.tmp 244) ?_);refine kQa HM.o.v3 (j:=1) (v:=.slice o.Q o.lq o.cq) _ rfl Ke rfl rfl Tryz.underlying27 rfl ?_)
  |((with_reducible refine zC (ty:=22) ?_);refine zE HM.o.v3 (j:=8) (v:=.slice o.O o.no o.co) _ rfl rfl rfl rfl Tryz.underlying22 rfl ?_)
  |((with_reducible refine zC (ty:=22) ?_);refine zE HM.o.v3 (j:=9) (v:=.slice o.W o.nw o.cw) _ rfl rfl rfl rfl Tryz.underlying22 rfl ?_)
  |((with_reducible refine zC (ty:=23) ?_);refine zE HM.o.v3 (j:=10) (v:=.slice o.S o.nx o.cx) _ rfl rfl rfl rfl Tryz.underlying23 rfl ?_)
  |(go_at_call 97;refine Calls.mono (kVz (HN.o.later HM.o.below) (zKt.later (HO.o.hasq aA.o) HM.o.below) eY.o) ?_;rintro e w1 ⟨cm,rfl,hx,b9⟩;have hlo:=HM.o.v4.lt;have hsz:=HM.o.below.size;have HX:=hd hx;have HI:=hd (kNn HX.o);have HM:=hd (HM.o.call b9);have BD:=HM.o.v4.lt;clear b9 hx;dsimp only)
  |((with_reducible refine zF (ty:=26) ?_);refine zA zD (r0:=NC.nil.row) (r:=cm.row) (zAr w1).1 rfl rfl cm.one _ _ rfl rfl rfl rfl rfl ?_;intro W4 hv ho;have HV:=hd hv;have HM:=hd ((HM.o.call (zAr w1).2).off Kb ho);have HI:=hd ((HI.o.call (zAr w1).2).off2 ho Kb);have hlv:=HV.o.lt;clear hv ho)
  |((with_reducible refine kH (dst:=some 266) (ty:=4) (x:=.tmp 265) ?_);refine kO1 HV.o (j:=0) (v:=.bool true) _ rfl Ke rfl (by simp only[NC.row,di.o _ _ (HX.o.high HI.o).now];rfl) Tryz.underlying4 rfl ?_)
  |((with_reducible refine kH (dst:=some 266) (ty:=4) (x:=.tmp 265) ?_);refine kO1 HV.o (j:=0) (v:=.bool false) _ rfl Ke rfl (by simp only[NC.row,di.o _ _ (HX.o.high HI.o).now];rfl) Tryz.underlying4 rfl ?_)
  |((with_reducible refine zC (ty:=22) ?_);refine zM HV.o (j:=1) (v:=.slice cm.P cm.np cm.pc) _ rfl rfl rfl rfl Tryz.underlying22 rfl ?_)
  |((with_reducible refine zC (ty:=23) ?_);refine zM HV.o (j:=2) (v:=.slice cm.X cm.nt cm.tc) _ rfl rfl rfl rfl Tryz.underlying23 rfl ?_)
  |(go_at_call 102;refine Calls.mono (kTu (HX.o.high HI.o).now (HO.o.later HM.o.below) qx.o) ?_;rintro e w2 ⟨A1,c1,rfl,hc1,hs1,b9⟩;have bo:=HM.o.v4.lt;have HS:=hd hs1;have cN:=hd hc1;have HV:=hd (HV.o.keep b9);have HI:=hd (HI.o.call b9);have HM:=hd (HM.o.call b9);clear b9 hc1 hs1;dsimp only)
  |(go_at_call 103;refine Calls.mono (kV1 (HX.o.high HI.o).now (HO.o.later HM.o.below) aA.o cY.o HR.o) ?_;rintro e w2 ⟨A1,c1,rfl,hc1,hs1,b9⟩;have bo:=HM.o.v4.lt;have HS:=hd hs1;have cN:=hd hc1;have HV:=hd (HV.o.keep b9);have HI:=hd (HI.o.call b9);have HM:=hd (HM.o.call b9);clear b9 hc1 hs1;dsimp only)
  |(go_at_call 104;refine Calls.mono (kV2 (HX.o.high HI.o).now (HO.o.later HM.o.below) aA.o cY.o HR.o) ?_;rintro e w2 ⟨A1,c1,rfl,hc1,hs1,b9⟩;have bo:=HM.o.v4.lt;have HS:=hd hs1;have cN:=hd hc1;have HV:=hd (HV.o.keep b9);have HI:=hd (HI.o.call b9);have HM:=hd (HM.o.call b9);clear b9 hc1 hs1;dsimp only)
  |((with_reducible refine zF (ty:=22) ?_);refine zFd zCq (r':=({cm with P:=A1,np:=L.length,pc:=c1}:NC).row) HV.o _ _ rfl rfl rfl 1 (.slice A1 L.length c1) rfl rfl rfl rfl (by rw[NC.size];decide) Ka ?_;intro W5 hv ho;have HM:=hd (HM.o.off Kb ho);have HI:=hd (HI.o.off2 ho Kb);have HS:=hd (HS.o.off ho Kb);have HV:=hd hv;have bC:=hd (kS.setP (HX.o.high HI.o).now HS.o.now dG.o cN.o);clear hv ho)
  |((with_reducible refine zF (ty:=23) ?_);refine zFd zFu (r':=({cm with X:=A1,nt:=L.length,tc:=c1}:NC).row) HV.o _ _ rfl rfl rfl 2 (.slice A1 L.length c1) rfl rfl rfl rfl (by rw[NC.size];decide) Ka ?_;intro W5 hv ho;have HM:=hd (HM.o.off Kb ho);have HI:=hd (HI.o.off2 ho Kb);have HS:=hd (HS.o.off ho Kb);have HV:=hd hv;have bC:=hd (kS.setX (HX.o.high HI.o).now HS.o.now iA.o cN.o);clear hv ho)
  |((with_reducible refine zC (ty:=26) (x:=.tmp 28) ?_);refine zB zD HV.o rfl _ rfl rfl rfl ?_)
  |(have _g:=dG;go_at_call 99;refine Calls.mono (kPk (d:={cm with P:=A1,np:=L.length,pc:=c1}) (HN.o.later HM.o.below) bC.o (zKt.later (HO.o.hasq aA.o) HM.o.below) bp.o) ?_;rintro e wF ⟨cf,rfl,hx,b9⟩;have eG:=HM.o.v4.lt;have gu:=HM.o.below.size;have bI:=hd hx;have HM:=hd (HM.o.call b9);clear b9 hx;dsimp only;clear _g)
  |(have _g:=iA;go_at_call 99;refine Calls.mono (kPk (d:={cm with X:=A1,nt:=L.length,tc:=c1}) (HN.o.later HM.o.below) bC.o (zKt.later (HO.o.hasq aA.o) HM.o.below) bp.o) ?_;rintro e wF ⟨cf,rfl,hx,b9⟩;have eG:=HM.o.v4.lt;have gu:=HM.o.below.size;have bI:=hd hx;have HM:=hd (HM.o.call b9);clear b9 hx;dsimp only;clear _g)
  |((with_reducible refine zF (ty:=26) ?_);refine zA zD (r0:=NC.nil.row) (r:=cf.row) HM.o.v4 rfl rfl cf.one _ _ rfl rfl rfl rfl rfl ?_;intro W9 hv ho;have HM:=hd (HM.o.set4 (a':=cf) hv ho);(try have bI:=hd (bI.o.off ho Kb));(try have HI:=hd (HI.o.off2 ho Kb));clear hv ho)
  |((with_reducible refine zF (ty:=26) ?_);refine zA zD (r0:=NC.nil.row) (r:=c.row) HM.o.v4 rfl rfl c.one _ _ rfl rfl rfl rfl rfl ?_;intro W9 hv ho;have HM:=hd (HM.o.set4 (a':=c) hv ho);(try have bI:=hd (bI.o.off ho Kb));(try have HI:=hd (HI.o.off2 ho Kb));clear hv ho))
 first
  |exact bodyPost_ret (kU Tryz.results48 _ _ HM.o.v4 rfl) rfl ⟨cf,rfl,fun _=>bI.o.more Kb,HM.o.below⟩
  |exact bodyPost_ret (kU Tryz.results48 _ _ HM.o.v4 rfl) rfl ⟨c,rfl,fun h=>absurd h dh.o,HM.o.below⟩
 ):P:=h
theorem rdL (h:P:=by
 first|have k1:(o.k==1)=true:=by simp[hk]|have k1:(o.k==1)=false:=by simp[hk]
 first|have k2:(o.k==2)=true:=by simp[hk]|have k2:(o.k==2)=false:=by simp[hk]
 first|have k3:(o.k==3)=true:=by simp[hk]|have k3:(o.k==3)=false:=by simp[hk]
 first|have k4:(o.k==4)=true:=by simp[hk]|have k4:(o.k==4)=false:=by simp[hk]
 first|have k5:(o.k==5)=true:=by simp[hk]|have k5:(o.k==5)=false:=by simp[hk]
 first|have k6:(o.k==6)=true:=by simp[hk]|have k6:(o.k==6)=false:=by simp[hk]
 first|have k7:(o.k==7)=true:=by simp[hk]|have k7:(o.k==7)=false:=by simp[hk]
 first|have k9:(o.k !=6)=true:=by simp[hk]|have k9:(o.k !=6)=false:=by simp[hk]
 clear hk;have HN:=hd hn;have HO:=hd ho;have aA:=hd ta;clear hn ho ta;obtain⟨W0,hW,hst⟩:=zDc w c o;have HW:=hd hW;have HM:=hd hst;clear hW hst;go_enter Tryz.func48,Tryz.ntmps48
 go_upto_region 1 with fail
 rw[HW.o];clear HW;exact rdB
 ):P:=h
theorem kXn {w:World}{c:NC}{o:OC}{n:NT}{a:OpP}(hn:kS w c n)(ho:OkA w o a)(ta:zAf a)(hk:o.k=6)(hlq:o.lq=0):Calls Tryz.prog 48 #[.agg c.row,.agg o.row] w (kNs w (zeroT,6)):=by
 have hq0:((o.lq:Int)==0)=true:=by rw[hlq];rfl
 clear hlq;have dh:=hd (show(6:Int)≠0 by decide);exact rdL
theorem kXo {w:World}{c:NC}{o:OC}{n:NT}{a:OpP}{x:NT}{E:Int}(hn:kS w c n)(ho:OkA w o a)(ta:zAf a)(hk:o.k=6)(hlq:o.lq≠0)(hget:zGm n a.q=(x,E))(hne:E≠0):Calls Tryz.prog 48 #[.agg c.row,.agg o.row] w (kNs w (zeroT,E)):=by
 have eY:=hd hget;have dh:=hd hne;have hq0:((o.lq:Int)==0)=false:=by simp[hlq]
 clear hlq;have e1:(E !=0)=true:=by simpa using hne
 clear hget hne;exact rdL
theorem kXp {w:World}{c:NC}{o:OC}{n:NT}{a:OpP}{x:NT}{L:List Pr}{E:Int}(hn:kS w c n)(ho:OkA w o a)(ta:zAf a)(hk:o.k=6)(hlq:o.lq≠0)(hget:zGm n a.q=(x,0))(hpe:(PLs x.ps a.o a.w,PE x.ps a.o a.w)=(L,E))(hne:E≠0):Calls Tryz.prog 48 #[.agg c.row,.agg o.row] w (kNs w (zeroT,E)):=by
 have eY:=hd hget;have qx:=hd hpe;have dh:=hd hne;have hq0:((o.lq:Int)==0)=false:=by simp[hlq]
 clear hlq;have e1:(E !=0)=true:=by simpa using hne
 have dG:=hd (show chk L=0 by have h:=hpe;injection h with h1 h2;rw[<-h1];unfold PLs;rw[if_neg (by rw[h2];exact hne)];rfl);clear hget hpe hne;exact rdL
theorem kYo {w:World}{c:NC}{o:OC}{n:NT}{a:OpP}{x:NT}{L:List Pr}{r:NT×Int}(hn:kS w c n)(ho:OkA w o a)(ta:zAf a)(hk:o.k=6)(hlq:o.lq≠0)(hget:zGm n a.q=(x,0))(hpe:(PLs x.ps a.o a.w,PE x.ps a.o a.w)=(L,0))(hch:chk L=0)(hput:zSe n a.q (zEs x L)=r):Calls Tryz.prog 48 #[.agg c.row,.agg o.row] w (kNs w r):=by
 have eY:=hd hget;have qx:=hd hpe;have dG:=hd hch;have bp:=hd hput;have hq0:((o.lq:Int)==0)=false:=by simp[hlq]
 clear hlq;clear hget hpe hch hput;exact rdL
theorem kXq {w:World}{c:NC}{o:OC}{n:NT}{a:OpP}{x:NT}{E:Int}(hn:kS w c n)(ho:OkA w o a)(ta:zAf a)(hk:o.k=7)(hget:zGm n a.q=(x,E))(hne:E≠0):Calls Tryz.prog 48 #[.agg c.row,.agg o.row] w (kNs w (zeroT,E)):=by
 have eY:=hd hget;have dh:=hd hne;have e1:(E !=0)=true:=by simpa using hne
 clear hget hne;exact rdL
theorem kXr {w:World}{c:NC}{o:OC}{n:NT}{a:OpP}{x:NT}(hn:kS w c n)(ho:OkA w o a)(ta:zAf a)(hk:o.k=7)(hget:zGm n a.q=(x,0))(aI:x.lf=false):Calls Tryz.prog 48 #[.agg c.row,.agg o.row] w (kNs w (zeroT,7)):=by
 have eY:=hd hget;have dh:=hd (show(7:Int)≠0 by decide);have di:=hd (fun(w:World)(cm:NC)(h:kS w cm x)=>(h.lf.symm.trans aI:cm.lf=false));clear aI;clear hget;exact rdL
theorem kXs {w:World}{c:NC}{o:OC}{n:NT}{a:OpP}{x:NT}{L:List Int}{E:Int}(hn:kS w c n)(ho:OkA w o a)(ta:zAf a)(hk:o.k=7)(hget:zGm n a.q=(x,0))(aI:x.lf=true)(hsz:sizeT x<=900)(hr:zFx x.tx a.z a.x=(L,E))(hll:L.length<=35184372088832)(hne:E≠0):Calls Tryz.prog 48 #[.agg c.row,.agg o.row] w (kNs w (zeroT,E)):=by
 have eY:=hd hget;have cY:=hd hsz;have HR:=hd hr;have iA:=hd hll;have dh:=hd hne;have e1:(E !=0)=true:=by simpa using hne
 have di:=hd (fun(w:World)(cm:NC)(h:kS w cm x)=>(h.lf.symm.trans aI:cm.lf=true));clear aI;clear hget hsz hr hll hne;exact rdL
theorem kYp {w:World}{c:NC}{o:OC}{n:NT}{a:OpP}{x:NT}{L:List Int}{r:NT×Int}(hn:kS w c n)(ho:OkA w o a)(ta:zAf a)(hk:o.k=7)(hget:zGm n a.q=(x,0))(aI:x.lf=true)(hsz:sizeT x<=900)(hr:zFx x.tx a.z a.x=(L,0))(hll:L.length<=35184372088832)(hput:zSe n a.q (zCz x L)=r):Calls Tryz.prog 48 #[.agg c.row,.agg o.row] w (kNs w r):=by
 have eY:=hd hget;have cY:=hd hsz;have HR:=hd hr;have iA:=hd hll;have bp:=hd hput;have di:=hd (fun(w:World)(cm:NC)(h:kS w cm x)=>(h.lf.symm.trans aI:cm.lf=true));clear aI;clear hget hsz hr hll hput;exact rdL
theorem kXt {w:World}{c:NC}{o:OC}{n:NT}{a:OpP}{x:NT}{E:Int}(hn:kS w c n)(ho:OkA w o a)(ta:zAf a)(hk:o.k=8)(hget:zGm n a.q=(x,E))(hne:E≠0):Calls Tryz.prog 48 #[.agg c.row,.agg o.row] w (kNs w (zeroT,E)):=by
 have eY:=hd hget;have dh:=hd hne;have e1:(E !=0)=true:=by simpa using hne
 clear hget hne;exact rdL
theorem kXu {w:World}{c:NC}{o:OC}{n:NT}{a:OpP}{x:NT}(hn:kS w c n)(ho:OkA w o a)(ta:zAf a)(hk:o.k=8)(hget:zGm n a.q=(x,0))(aI:x.lf=false):Calls Tryz.prog 48 #[.agg c.row,.agg o.row] w (kNs w (zeroT,7)):=by
 have eY:=hd hget;have dh:=hd (show(7:Int)≠0 by decide);have di:=hd (fun(w:World)(cm:NC)(h:kS w cm x)=>(h.lf.symm.trans aI:cm.lf=false));clear aI;clear hget;exact rdL
theorem kXv {w:World}{c:NC}{o:OC}{n:NT}{a:OpP}{x:NT}{L:List Int}{E:Int}(hn:kS w c n)(ho:OkA w o a)(ta:zAf a)(hk:o.k=8)(hget:zGm n a.q=(x,0))(aI:x.lf=true)(hsz:sizeT x<=900)(hr:zFe x.tx a.z a.x=(L,E))(hll:L.length<=35184372088832)(hne:E≠0):Calls Tryz.prog 48 #[.agg c.row,.agg o.row] w (kNs w (zeroT,E)):=by
 have eY:=hd hget;have cY:=hd hsz;have HR:=hd hr;have iA:=hd hll;have dh:=hd hne;have e1:(E !=0)=true:=by simpa using hne
 have di:=hd (fun(w:World)(cm:NC)(h:kS w cm x)=>(h.lf.symm.trans aI:cm.lf=true));clear aI;clear hget hsz hr hll hne;exact rdL
theorem kYq {w:World}{c:NC}{o:OC}{n:NT}{a:OpP}{x:NT}{L:List Int}{r:NT×Int}(hn:kS w c n)(ho:OkA w o a)(ta:zAf a)(hk:o.k=8)(hget:zGm n a.q=(x,0))(aI:x.lf=true)(hsz:sizeT x<=900)(hr:zFe x.tx a.z a.x=(L,0))(hll:L.length<=35184372088832)(hput:zSe n a.q (zCz x L)=r):Calls Tryz.prog 48 #[.agg c.row,.agg o.row] w (kNs w r):=by
 have eY:=hd hget;have cY:=hd hsz;have HR:=hd hr;have iA:=hd hll;have bp:=hd hput;have di:=hd (fun(w:World)(cm:NC)(h:kS w cm x)=>(h.lf.symm.trans aI:cm.lf=true));clear aI;clear hget hsz hr hll hput;exact rdL
theorem zH1 (n:NT)(q:List Int):(q.length=0/\zBw n q=(zeroT,6))∨(q.length≠0/\zGm n q=(zeroT,5)/\zBw n q=(zeroT,5))∨∃m x,q.length≠0/\kB n q=some m/\zBw n q=(x,0)/\zE3 n q=m:=by
 rcases Classical.em (q.length=0)with hq|hq
 ·exact .inl ⟨hq,by unfold zBw;rw[if_pos hq]⟩
 ·cases hg:kB n q with
  |none=>
   refine .inr (.inl ⟨hq,zB2 hg,?_⟩);unfold zBw;rw[if_neg hq,zM6 (zG2 _)];rw[zHv hq]at hg;cases hu:kB n (upP q)with
   |none=>rfl
   |some x=>
    rw[hu]at hg;have hk:zBh x (lastL q)=none:=hg;simp only;have e:(zJy (lastL q) x).2=5:=by unfold zJy;rw[if_neg (by rw[kK1 hk];decide)]
    rw[e,if_neg Kd]
  | some m=>
   refine .inr (.inr ⟨m,(zBw n q).1,hq,rfl,?_,by unfold zE3;rw[if_neg hq,kP hg]⟩);have h2:(zBw n q).2=0:=by
    unfold zBw;rw[if_neg hq,zM6 (zG2 _)];rw[zHv hq]at hg;cases hu:kB n (upP q)with
    |none=>rw[hu]at hg;cases hg
    |some x=>
     rw[hu]at hg;have hk:zBh x (lastL q)=some m:=hg;simp only;have e:(zJy (lastL q) x).2=0:=by unfold zJy;rw[if_pos (zCy hk)]
     rw[if_pos e]
   rw[<-h2]
theorem zR5 {n x m:NT}{q:List Int}(h:kB n q=some x):zSe n q m=(putT n q m,0):=by rw[kHz,h]
theorem kLb {n m:NT}{q q2:List Int}(hq:q.length≠0)(hg:kB n q=some m)(hb:jV q=(q2,0)):∃b,kB n q2=some b/\kB (zBw n q).1 q2=some b:=by
 rcases zH1 n q with⟨h,_⟩|⟨_,h,_⟩|⟨m',x',_,_,hc,_⟩
 ·exact absurd h hq
 ·rw[kP hg]at h;injection h with _ h;cases h
 obtain⟨u,j,x,k,hf⟩:=zBn (n:=n) (p:=q) (by rw[hc]);have hb2:=hb;rw[hf.path]at hb2;obtain⟨i,rfl⟩:∃i,j=i+1:=by
  unfold jV at hb2;rw[if_neg Kc,zC0]at hb2;by_cases h1:(j:Int)<=0
  ·rw[if_pos h1]at hb2;injection hb2 with _ hb2;cases hb2
  ·exact⟨j-1,by omega⟩
 have e2:q2=u++[(i:Int)]:=by
  rw[zFy]at hb2;injection hb2 with hb2;exact hb2.symm
 subst e2;have hlen:=(List.getElem?_eq_some_iff.1 hf.kid).1;have aN:x.ks[i]? =some x.ks[i]:=List.getElem?_eq_getElem Kb;refine⟨x.ks[i],?_,?_⟩
 ·rw[jJ,hf.at_];show kB x [(i:Int)]=_
  rw[zR,zA9,aN];rfl
 ·have hg2:=jX n u (jS x (i+1) 1 []) x hf.at_;rw[hf.eq,jJ,hg2];show kB (jS x (i+1) 1 []) [(i:Int)]=_
  rw[zR,zA9];have hsk:(jS x (i+1) 1 []).ks[i]? =some x.ks[i]:=by
   show(spl x.ks (i+1) 1 [])[i]? =_
   rw[zBp Kb Kb,aN]
  rw[hsk];rfl
theorem kEk {q:List Int}(hq:q.length≠0)(h:(jV q).2≠0):(jV q).2=8:=by
 unfold jV at h⊢;rw[if_neg hq]at h⊢;split
 ·rfl
 ·rename_i h2;rw[if_neg h2]at h;exact absurd rfl h
theorem kIc {n m:NT}{q:List Int}(hq:q.length≠0)(hg:kB n q=some m)(hs:sizeT n<=100000):(zBg q).2=0:=by
 rw[zHv hq]at hg;cases hu:kB n (upP q)with
 |none=>rw[hu]at hg;cases hg
 |some x=>
  rw[hu]at hg;have hk:zBh x (lastL q)=some m:=hg;obtain⟨k1,k2,_⟩:=zA1 hk;have h1:=zGh _ n x hu;have h2:∀(l:List NT),l.length<=sizeK l:=fun l=>by
   induction l with
   |nil=>simp
   |cons k r ih=>have:=zJs k;simp only[List.length_cons,sizeK];omega
  have h3:=h2 x.ks;obtain⟨lf,ps,tx,ks⟩:=x;simp only[sizeT,NT.ks]at*;unfold zBg;rw[if_neg hq,if_neg Kb]
theorem zPt {n m:NT}{q:List Int}(hg:kB n q=some m):sizeT m<=sizeT n:=by have:=zGh q n m hg;omega
theorem kLc {n x:NT}{q:List Int}(hc:zBw n q=(x,0)):sizeT x<=sizeT n:=by
 have:=zFn (n:=n) (p:=q) (by rw[hc]);rw[hc]at this;have e:sizeT x+sizeT (zE3 n q)=sizeT n:=this;omega
section
variable {w:World}{c:NC}{o:OC}{n:NT}{a:OpP}{r:NT×Int}
theorem kYr (hn:kS w c n)(ho:OkA w o a)(ta:zAf a)(hs:sizeT n<=900)(hk:a.k=1)(hE:kB7 n a=r):Calls Tryz.prog 48 #[.agg c.row,.agg o.row] w (kNs w r):=by
 have ko:o.k=1:=by rw[<-ho.hk];exact hk
 unfold kB7 at hE;by_cases h0:zAd a.n=0
 ·rw[if_neg (by simp[h0])]at hE;exact kYj hn ho ta ko h0 Kb hE
 ·rw[if_pos h0]at hE;subst hE;exact kXh hn ho ta ko rfl h0
theorem kYs (hn:kS w c n)(ho:OkA w o a)(ta:zAf a)(hk:a.k=2)(hE:zVk n a=r):Calls Tryz.prog 48 #[.agg c.row,.agg o.row] w (kNs w r):=by
 have ko:o.k=2:=by rw[<-ho.hk];exact hk
 unfold zVk at hE;by_cases h0:(zBw n a.q).2=0
 ·rw[if_neg (by simp[h0])]at hE;have hc:zBw n a.q=((zBw n a.q).1,0):=by rw[<-h0]
  by_cases h:eqT (zE3 n a.q) a.n=true
  ·rw[if_pos h]at hE;subst hE;exact kXj hn ho ta ko hc rfl h
  ·rw[if_neg h]at hE;subst hE;exact kXk hn ho ta ko hc rfl (by simpa using h)
 ·rw[if_pos h0]at hE;subst hE;exact kXi hn ho ta ko rfl rfl h0
theorem kYt (hn:kS w c n)(ho:OkA w o a)(ta:zAf a)(hs:sizeT n<=900)(hk:a.k=5)(hE:zVl n a=r):Calls Tryz.prog 48 #[.agg c.row,.agg o.row] w (kNs w r):=by
 have ko:o.k=5:=by rw[<-ho.hk];exact hk
 unfold zVl at hE;by_cases h0:(zBw n a.q).2=0
 ·rw[if_neg (by simp[h0])]at hE;have hc:zBw n a.q=((zBw n a.q).1,0):=by rw[<-h0]
  have:=kLc hc;exact kYk hn ho ta ko hc rfl Kb hE
 ·rw[if_pos h0]at hE;subst hE;exact kXl hn ho ta ko rfl rfl h0
theorem kYu (hn:kS w c n)(ho:OkA w o a)(ta:zAf a)(hk:a.k=6)(hE:setO n a=r):Calls Tryz.prog 48 #[.agg c.row,.agg o.row] w (kNs w r):=by
 have ko:o.k=6:=by rw[<-ho.hk];exact hk
 unfold setO at hE;by_cases hq:a.q.length=0
 ·rw[if_pos hq]at hE;subst hE;exact kXn hn ho ta ko (by rw[<-ho.hlq];exact hq)
 rw[if_neg hq]at hE;have hl:o.lq≠0:=by rw[<-ho.hlq];exact hq
 cases hg:kB n a.q with
 |none=>
  rw[zB2 hg,if_pos Kd]at hE;subst hE;exact kXo hn ho ta ko hl (zB2 hg) Kd
 |some m=>
  rw[kP hg,if_neg Kc]at hE;unfold set2 at hE;by_cases h0:PE m.ps a.o a.w=0
  ·rw[if_neg (by simp[h0])]at hE;subst hE;have kA:=zPj.1 h0;have hL:=kA.list;exact kYo hn ho ta ko hl (kP hg) (by rw[h0,hL]) kA.may (zR5 hg)
  ·rw[if_pos h0]at hE;subst hE;exact kXp hn ho ta ko hl (kP hg) rfl h0
theorem kYv (hn:kS w c n)(ho:OkA w o a)(ta:zAf a)(hs:sizeT n<=900)(hk:a.k=7)(hE:zP1 n a (fun r=>zFx r a.z a.x)=r):Calls Tryz.prog 48 #[.agg c.row,.agg o.row] w (kNs w r):=by
 have ko:o.k=7:=by rw[<-ho.hk];exact hk
 unfold zP1 at hE;cases hg:kB n a.q with
 |none=>
  rw[zB2 hg,if_pos Kd]at hE;subst hE;exact kXq hn ho ta ko (zB2 hg) Kd
 | some m=>
  rw[kP hg,if_neg Kc]at hE;have hsm:=zPt hg;dsimp only at hE;cases aI:m.lf with
  |false=>
   rw[if_pos aI]at hE;subst hE;exact kXr hn ho ta ko (kP hg) aI
  | true=>
   rw[if_neg (by simp[aI])]at hE;unfold kI0 at hE;have tS:m.tx.length<=900:=by have:=jC m;omega
   have xR:=ta.hx;obtain⟨⟨L,er⟩,hr⟩:∃b,zFx m.tx a.z a.x=b:=⟨_,rfl⟩;rw[hr]at hE;by_cases h0:er=0
   ·subst h0;rw[if_neg Kc]at hE;subst hE;have hll:L.length<=35184372088832:=by have:=zKi hr;omega
    exact kYp hn ho ta ko (kP hg) aI Kb hr hll (zR5 hg)
   ·rw[if_pos h0]at hE;subst hE;have hll:L.length<=35184372088832:=by
     unfold zFx at hr;repeat(split at hr;first|(injection hr with h1 h2;subst h1;simp;done)|skip)
     all_goals(injection hr with h1 h2;first|exact absurd h2.symm h0|(subst h1;simp))
    exact kXs hn ho ta ko (kP hg) aI Kb hr hll h0
theorem kYw (hn:kS w c n)(ho:OkA w o a)(ta:zAf a)(hs:sizeT n<=900)(hk:a.k=8)(hE:zP1 n a (fun r=>zFe r a.z a.x)=r):Calls Tryz.prog 48 #[.agg c.row,.agg o.row] w (kNs w r):=by
 have ko:o.k=8:=by rw[<-ho.hk];exact hk
 unfold zP1 at hE;cases hg:kB n a.q with
 |none=>
  rw[zB2 hg,if_pos Kd]at hE;subst hE;exact kXt hn ho ta ko (zB2 hg) Kd
 | some m=>
  rw[kP hg,if_neg Kc]at hE;have hsm:=zPt hg;dsimp only at hE;cases aI:m.lf with
  |false=>
   rw[if_pos aI]at hE;subst hE;exact kXu hn ho ta ko (kP hg) aI
  | true=>
   rw[if_neg (by simp[aI])]at hE;unfold kI0 at hE;have tS:m.tx.length<=900:=by have:=jC m;omega
   have xR:=ta.hx;obtain⟨⟨L,er⟩,hr⟩:∃b,zFe m.tx a.z a.x=b:=⟨_,rfl⟩;rw[hr]at hE;by_cases h0:er=0
   ·subst h0;rw[if_neg Kc]at hE;subst hE;have hll:L.length<=35184372088832:=by have:=zKj hr;omega
    exact kYq hn ho ta ko (kP hg) aI Kb hr hll (zR5 hg)
   ·rw[if_pos h0]at hE;subst hE;have hll:L.length<=35184372088832:=by
     unfold zFe at hr;repeat(split at hr;first|(injection hr with h1 h2;subst h1;simp;done)|skip)
     all_goals(injection hr with h1 h2;first|exact absurd h2.symm h0|(subst h1;simp))
    exact kXv hn ho ta ko (kP hg) aI Kb hr hll h0
end
def zXd (n:NT):Int:=if n.lf=true then n.tx.length else n.ks.length
theorem zDu {w:World}{c:NC}{n:NT}{E:Int}(h:kS w c n)(hE:zXd n=E):Calls Tryz.prog 127 #[.agg c.row] w (jA (.int .i64 E) w):=by
 have hp:=h.parts;obtain⟨lf,P,np,pc,X,nt,tc,K,nk,kc⟩:=c;have e1:n.lf=lf:=hp.lf;have e2:n.tx.length=nt:=hp.nt;have e3:n.ks.length=nk:=hp.nk;have hf:=hp.f;have l1:nt<=35184372088832:=by have:=hf.2.2.1;omega
 have l2:nk<=1759218604441:=by have:=hf.2.2.2.1;omega
 have HV:=hd (jT.new w 26 (NC.row ⟨lf,P,np,pc,X,nt,tc,K,nk,kc⟩));have HB:=hd (zQ w (.cells (NC.row ⟨lf,P,np,pc,X,nt,tc,K,nk,kc⟩) 26));unfold zXd at hE;rw[e1,e2,e3]at hE;clear h hp hf e1 e2 e3;cases lf
 ·obtain rfl:(nk:Int)=E:=by simpa using hE
  clear hE;go_enter Tryz.func127,Tryz.ntmps127
  go_wp2_with(first
   |((with_reducible refine zC (ty:=4) (x:=.tmp 3) ?_);refine zM HV.o (j:=0) (v:=.bool false) _ rfl rfl rfl rfl Tryz.underlying4 rfl ?_)
   |((with_reducible refine zC (ty:=24) (x:=.tmp 8) ?_);refine zM HV.o (j:=3) (v:=.slice K nk kc) _ rfl rfl rfl rfl Tryz.underlying24 rfl ?_))
  go_ret
  exact⟨rfl,HB.o⟩
 ·obtain rfl:(nt:Int)=E:=by simpa using hE
  clear hE;go_enter Tryz.func127,Tryz.ntmps127
  go_wp2_with(first
   |((with_reducible refine zC (ty:=4) (x:=.tmp 3) ?_);refine zM HV.o (j:=0) (v:=.bool true) _ rfl rfl rfl rfl Tryz.underlying4 rfl ?_)
   |((with_reducible refine zC (ty:=23) (x:=.tmp 5) ?_);refine zM HV.o (j:=2) (v:=.slice X nt tc) _ rfl rfl rfl rfl Tryz.underlying23 rfl ?_))
  go_ret
  exact⟨rfl,HB.o⟩
theorem kJ0 {w:World}{n x:NT}{er:Int}{A:Option Addr}{p:List Int}{lp c:Nat}(hr:zGm n p=(x,er))(ay:p.length=lp)(hl:lp<=1000)(hn:At w v n)(hp:IL w w.heap.size A p):Calls Tryz.prog 30 #[v,.slice A lp c] w (zV2 (x,er) w):=by
 obtain⟨d,hn⟩:=hn;subst ay;rw[<-hr];exact zYz d w v n A p p.length c rfl Kb hn hp
theorem kV3 {w:World}{n x:NT}{er:Int}{A:Option Addr}{p:List Int}{lp c:Nat}(hr:zGm n p=(x,er))(ay:p.length=lp)(hl:lp<=1000)(hn:At w v n)(hp:IL w w.heap.size A p):Calls Tryz.prog 97 #[v,.slice A lp c] w (zV2 (x,er) w):=by
 obtain⟨d,hn⟩:=hn;subst ay;rw[<-hr];exact kQl d w v n A p p.length c rfl Kb hn hp
structure kI2 (base d:Nat)(w:World)(c:NC)(n:NT)(us:List Value):Prop where
 lf:n.lf=c.lf
 np:n.ps.length=c.np
 nt:n.tx.length=c.nt
 nk:n.ks.length=c.nk
 p:w.ownsRow base 94 2 (.slice c.P c.np c.pc) c.np (pv n.ps)
 x:w.ownsRow base 21 1 (.slice c.X c.nt c.tc) c.nt (rv n.tx)
 k:w.ownsRow base 26 4 (.slice c.K c.nk c.kc) c.nk (zGg us)
 f:zU0 n.ps n.tx.length n.ks.length c.pc c.tc c.kc
 len:us.length=n.ks.length
 kids:∀(j:Nat)(m:NT),n.ks[j]? =some m->∃u,us[j]? =some u/\zAx (fun b=>base<=b/\b<w.heap.size/\some b≠(Value.slice c.K c.nk c.kc).ownBlock) d w u m
theorem zV2.top {r:NT×Int}{w w':World}{e:Ending}(h:zV2 r w e w'):∃c d us,e=.returned (.tuple #[.agg (NC.row c),.int .i64 r.2])/\kI2 w.heap.size d w' c r.1 us/\zH3 w.heap.size w' (fun W=>kS W c r.1)/\Below w.heap.size w w':=by
 obtain⟨v,d,rfl,ht,hb⟩:=h;have ht2:=ht.tree;obtain⟨PA,pc,TA,tc,KA,kc,us,rfl,hp,hx,hk,hf,hl,hks⟩:=ht;exact⟨⟨r.1.lf,PA,r.1.ps.length,pc,TA,r.1.tx.length,tc,KA,r.1.ks.length,kc⟩,d,us,rfl,⟨rfl,rfl,rfl,rfl,hp,hx,hk,hf,hl,fun j m hm=>by
  obtain⟨u,h1,h2⟩:=hks j m hm;exact⟨u,h1,h2.keep (fun b hb=>⟨hb.1,hb.2.1,by have:=hb.2.2;cases KA<;>exact this⟩) (fun _ _=>⟨rfl,rfl⟩)⟩⟩,zHy ht2,hb⟩
theorem zHl {w:World}{A:Option Addr}{lq cq:Nat}{q:List Int}{c:NC}{n:NT}{r:NT×Int}(hn:kS w c n)(hq:zKt w A lq cq q)(hE:zGm n q=r):Calls Tryz.prog 30 #[.agg c.row,.slice A lq cq] w (zV2 r w):=by
 obtain⟨x,e⟩:=r;exact kJ0 hE hq.len hq.le hn hq.il
theorem zJh {ts te:TypeId}{size by_:Nat}(E:zQ7 ts te size by_)(W:World){ops:Array Oper}{o:Oper}{a:Act}{K:Act->World->Prop}{Q:Exit->Act->World->Prop}{F:Prop}(hgd:o.guard=none)(s x:Operand)
  (ho:o.op=.call {callee:=.builtin .append,args:=#[s,x],argTypes:=#[ts,ts]})
  (b:Nat) (v:Value) (n:Nat) (k:List Value) (hs:a.eval s=v) (hO:W.ownsRow b te size v n k) (A:Option Addr) (m c:Nat) (hm:m=0) (hx:a.eval x=.slice A m c) (hK:K (a.put o.dst v) W):
  if Region.wanted o (yielded ops a.tmps)=true then Oper.wp Tryz.prog o a W K Q else F:=by
 subst hm;have hw:Region.wanted o (yielded ops a.tmps)=true:=by simp[Region.wanted,hgd]
 rw[if_pos hw];obtain⟨i0,z,hi,hz0,hz1,hz2,hz3⟩:=E.info;have hrun:=zEp (w:=W) (ty:=o.type) (A:=A) (c:=c) E.under hi hO;unfold Oper.wp execOp;simp only[ho,resolve,invoke,builtin,Sem.run_bind,Sem.run_pure,Result.andThen_ok,List.map_toArray,List.map_cons,List.map_nil,hs,hx,hrun];exact hK
theorem kI2.high {base d:Nat}{w w':World}{c:NC}{n:NT}{us:List Value}(h:kI2 base d w c n us)(hh:zA5 base w w'):kI2 base d w' c n us:=
 ⟨h.lf,h.np,h.nt,h.nk,zA8 h.p hh.block,zA8 h.x hh.block,zA8 h.k hh.block,h.f,h.len,fun j m hm=>by
  obtain⟨u,h1,h2⟩:=h.kids j m hm;exact⟨u,h1,h2.keep (fun b hb=>⟨hb.1,Nat.lt_of_lt_of_le hb.2.1 hh.size,hb.2.2⟩) (fun p hp=>⟨hh.cell hp.1 hp.2.1,hh.frozen hp.1 hp.2.1⟩)⟩⟩
theorem zS0 {w w':World}{base g:Nat}{t:TypeId}{size:Nat}{n:Nat}{xs:List Value}(h:w.ownsRow base t size v n xs)(ho:Off g w w')(hg:v.ownBlock≠some g):w'.ownsRow base t size v n xs:=by
 refine⟨h.1,?_⟩;rcases h.2 with e|⟨g',cap,cur,e,hb,hh,rest⟩
 ·exact .inl e
 ·refine .inr ⟨g',cap,cur,e,hb,(ho.block g' (lt_of_block hh) (fun e2=>hg ?_)).trans hh,rest⟩;rw[e,e2];rfl
theorem zS1 {w4 W W5 W8:World}{base d g:Nat}{c m:NC}{b mt:NT}{us:List Value}{A':Option Addr}{c':Nat}{fr:Nat×Nat}(ht:kI2 base d w4 c b us)(hi:zA5 base w4 W)(hlb:b.ks=[])(hlm:mt.ks=[])(hlen:mt.tx.length=m.nt)(hbig:c.nt+m.nt<=100000)
  (hrow:W5.ownsRow base 21 1 (.slice A' (c.nt+m.nt) c') (c.nt+m.nt) (rv b.tx++rv mt.tx)) (hgr:W.grownBy W5 (Value.slice c.X c.nt c.tc).ownBlock) (hg:W5.heap[g]? =some (.cells cs 26 fr)) (ho:Off g W5 W8):kS W8 {c with X:=A',nt:=c.nt+m.nt,tc:=c'} (zAo b mt):=by
 have h:=ht.high hi;have hk:zGj W5 W8:=zGj.of_but hg fun k hk hl=>ho.block k hl hk;have hp:=zCs (h.p.kept hgr (zJz h.x h.p Kd)) Kd hk;have hx:=zCs hrow Kd hk;have hf:=h.f;have e1:=h.nt;have e2:=h.nk;have hn:({c with X:=A',nt:=c.nt+m.nt,tc:=c'}:NC).nk=0:=by show c.nk=0;rw[<-e2,hlb];rfl
 refine zHz.has ⟨h.lf,h.np,?_,?_,VP.pl (zIr hp) (fun _ hb=>hb.2),?_,?_,0,?_⟩
 ·show(b.tx++mt.tx).length=c.nt+m.nt
  rw[List.length_append];omega
 ·show(b.ks++mt.ks).length=c.nk
  rw[hlm,List.append_nil];exact e2
 ·show VL W8 _ A' (rv (b.tx++mt.tx))
  have:rv (b.tx++mt.tx)=rv b.tx++rv mt.tx:=by simp[rv]
  rw[this];exact VP.vl (zIr hx) (fun _ hb=>hb.2)
 ·exact⟨hf.1,hf.2.1,by show(b.tx++mt.tx).length<=_;rw[List.length_append];omega,by show(b.ks++mt.ks).length<=_;rw[hlm,List.append_nil];exact hf.2.2.2.1,hf.2.2.2.2.1,by show(b.tx++mt.tx).length<=c';rw[List.length_append];have:=zPm hx;omega,by show(b.ks++mt.ks).length<=_;rw[hlm,List.append_nil];exact hf.2.2.2.2.2.2⟩
 ·intro j m hm;have:(b.ks++mt.ks)[j]? =some m:=hm;rw[hlb,hlm]at this;simp at this
theorem zY0 {w w4 W W5 W8:World}{base d d' g:Nat}{c m:NC}{b mt:NT}{us vs:List Value}{A':Option Addr}{c':Nat}(ht:kI2 base d w4 c b us)(hi:zA5 base w4 W)(_hlb:b.tx=[])(hlm:mt.tx=[])(hlen:mt.ks.length=m.nk)(hbig:c.nk+m.nk<=100000)
  (hrow:W5.ownsRow base 26 4 (.slice A' (c.nk+m.nk) c') (c.nk+m.nk) (zGg us++zGg vs)) (hgr:W.grownBy W5 (Value.slice c.K c.nk c.kc).ownBlock) (hat:(Value.slice A' (c.nk+m.nk) c').ownBlock=(Value.slice c.K c.nk c.kc).ownBlock∨∃q,(Value.slice A' (c.nk+m.nk) c').ownBlock=some q/\W.heap.size<=q)
  (hg:w4.heap.size<=g) (hgl:g<W.heap.size) {fr:Nat×Nat} (rF:W5.heap[g]? =some (.cells cs 26 fr)) (ho:Off g W5 W8) (hv:zM1 d' w w.heap.size vs mt.ks) (_hw:w.heap.size<=base) (hb:Below w.heap.size w W8):kS W8 {c with K:=A',nk:=c.nk+m.nk,kc:=c'} (zAo b mt):=by
 have h:=ht.high hi;have hk:zGj W5 W8:=zGj.of_but rF fun k hk hl=>ho.block k hl hk;have hp:=zCs (h.p.kept hgr (zJz h.k h.p Kd)) Kd hk;have hx:=zCs (h.x.kept hgr (zJz h.k h.x Kd)) Kd hk;have hkl:∀q,(Value.slice c.K c.nk c.kc).ownBlock=some q->q<w4.heap.size:=fun q hq=>(ht.k.lt q hq).2;have hkk:=zS0 hrow ho (fun e=>by
  rcases hat with h2|⟨q,h2,h3⟩
  ·rw[h2]at e;have:=hkl g e;omega
  ·rw[h2]at e;injection e with e;omega)
 have hf:=h.f;have e1:=h.nt;have e2:=h.nk;have h5:=hgr.size;have h8:=ho.size;have h4:=hi.size;have rZ:zM1 (max d d') W8 W8.heap.size (us++vs) (b.ks++mt.ks):=by
  refine zM1.append ⟨h.len,fun j x hj=>?_⟩ (((hv.below hb).more hb.size).deep (Nat.le_max_right _ _));obtain⟨u,hu,htr⟩:=ht.kids j x hj;refine⟨u,hu,((htr.keep (Q:=fun b=>b<W8.heap.size) (fun b hb=>by omega) (fun p hp=>?_)).at_ (fun _ h=>h)).deep (Nat.le_max_left _ _)⟩;have e:W8.heap[p.block]? =w4.heap[p.block]? :=by
   rw[ho.block _ Kb Kb,hgr.block _ Kb hp.2.2,hi.block _ hp.1 hp.2.1]
  exact⟨World.cell?_of_block e,World.frozen?_of_block e⟩
 have eZ:zKn (max d d') W8 W8.heap.size A' (b.ks++mt.ks):=kDy (us:=us++vs) (by rw[zRu];exact hkk) rZ;refine zHz.has ⟨h.lf,h.np,?_,?_,VP.pl (zIr hp) (fun _ hb=>hb.2),?_,?_,_,eZ⟩
 ·show(b.tx++mt.tx).length=c.nt
  rw[hlm,List.append_nil];exact e1
 ·show(b.ks++mt.ks).length=c.nk+m.nk
  rw[List.length_append];omega
 ·show VL W8 _ c.X (rv (b.tx++mt.tx))
  rw[hlm,List.append_nil];exact VP.vl (zIr hx) (fun _ hb=>hb.2)
 ·exact⟨hf.1,hf.2.1,by show(b.tx++mt.tx).length<=_;rw[hlm,List.append_nil];exact hf.2.2.1,by show(b.ks++mt.ks).length<=_;rw[List.length_append];omega,hf.2.2.2.2.1,by show(b.tx++mt.tx).length<=_;rw[hlm,List.append_nil];exact hf.2.2.2.2.2.1,by show(b.ks++mt.ks).length<=c';rw[List.length_append];have:=zPm hkk;omega⟩
theorem kPm {w:World}{c:NC}{n:NT}{E:Int}(h:kS w c n)(hE:zG9 n=E):Calls Tryz.prog 98 #[.agg c.row] w (jA (.int .i64 E) w):=by
 have hp:=h.parts;have e2:n.tx.length=c.nt:=hp.nt;have e3:n.ks.length=c.nk:=hp.nk;have hf:=hp.f;have l1:c.nt<=35184372088832:=by have:=hf.2.2.1;omega
 have l2:c.nk<=1759218604441:=by have:=hf.2.2.2.1;omega
 have HV:=hd (jT.new w 26 c.row);have HB:=hd (zQ w (.cells c.row 26));unfold zG9 at hE;rw[e2,e3]at hE;subst hE;clear h hp hf e2 e3;go_enter Tryz.func98,Tryz.ntmps98
 go_wp2_with(first
  |((with_reducible refine zC (ty:=23) ?_);refine zM HV.o (j:=2) (v:=.slice c.X c.nt c.tc) _ rfl rfl rfl rfl Tryz.underlying23 rfl ?_)
  |((with_reducible refine zC (ty:=24) ?_);refine zM HV.o (j:=3) (v:=.slice c.K c.nk c.kc) _ rfl rfl rfl rfl Tryz.underlying24 rfl ?_))
 go_ret
 exact⟨rfl,HB.o⟩
section
variable {w:World}{c m:NC}{o:OC}{n mt:NT}{a:OpP}{A:Option Addr}{lq cq:Nat}{q:List Int}
theorem kPv {r:NT×Int}(hn:kS w c n)(hq:zKt w A lq cq q)(hE:zGm n q=r):Calls Tryz.prog 97 #[.agg c.row,.slice A lq cq] w (zV2 r w):=by
 obtain⟨x,e⟩:=r;exact kV3 hE hq.len hq.le hn hq.il
theorem kP3 {r:List Int×Int}(ho:OkA w o a)(ta:zAf a)(hE:jV a.q=r):Calls Tryz.prog 96 #[.slice o.Q o.lq o.cq] w (zX9 w r):=by
 have hq:=ho.hasq ta;rw[<-hE];exact(kPo o.Q a.q o.lq o.cq w hq.len hq.le hq.inn hq.il).mono fun e w' h=>h.told
theorem kTv {r:List Int×Int}(ho:OkA w o a)(ta:zAf a)(hE:zBg a.q=r):Calls Tryz.prog 101 #[.slice o.Q o.lq o.cq] w (zX9 w r):=by
 have hq:=ho.hasq ta;rw[<-hE];exact(kO8 o.Q a.q o.lq o.cq w hq.len hq.le hq.inn hq.il).mono fun e w' h=>h.told
end
theorem rdC (h:P:=by
 go_wp2_with(first
  |((with_reducible refine zC (ty:=26) (x:=.tmp 2) ?_);refine zB zD HM.o.v2 rfl _ rfl rfl rfl ?_)
  |((with_reducible refine zC (ty:=3) ?_);refine zE HM.o.v3 (j:=0) (v:=.int .i64 o.k) _ rfl rfl rfl rfl Tryz.underlying3 rfl ?_)
  |((with_reducible refine zC (ty:=27) ?_);refine zE HM.o.v3 (j:=1) (v:=.slice o.Q o.lq o.cq) _ rfl rfl rfl rfl Tryz.underlying27 rfl ?_)
  |((with_reducible refine zC (ty:=22) ?_);refine zE HM.o.v3 (j:=9) (v:=.slice o.W o.nw o.cw) _ rfl rfl rfl rfl Tryz.underlying22 rfl ?_)
  |(go_at_call 100;refine Calls.mono (kNy (HO.o.later HM.o.below) dV.o) ?_;rintro e w1 ⟨rfl,b9⟩;have HM:=hd (HM.o.call b9);clear b9)
  |(go_at_call 95;refine Calls.mono (kOi (HN.o.later HM.o.below) (zKt.later (HO.o.hasq aA.o) HM.o.below) aL.o cL.o) ?_;rintro e w3 ⟨cr,cy,rfl,h1,h2,b9⟩;have hlo:=HM.o.v4.lt;have hsz:=HM.o.below.size;have HX:=hd h1;have HY:=hd h2;have HI:=hd (kNn HX.o);have HM:=hd (HM.o.call b9);have dP:=HM.o.v4.lt;clear b9 h1 h2;dsimp only)
  |((with_reducible refine zF (ty:=26) ?_);refine zA zD (r0:=NC.nil.row) (r:=cr.row) (zP3 w3).1 rfl rfl cr.one _ _ rfl rfl rfl rfl rfl ?_;intro W4 hv ho;have aB:=hd hv;have HM:=hd ((HM.o.call (zP3 w3).2.2).off Kb ho);have HI:=hd ((HI.o.call (zP3 w3).2.2).off2 ho Kb);have au:=hd ((zP3 w3).2.1.off ho Kb);clear hv ho)
  |((with_reducible refine zF (ty:=26) ?_);refine zA zD (r0:=NC.nil.row) (r:=cy.row) au.o rfl rfl cy.one _ _ rfl rfl rfl rfl rfl ?_;intro W5 hv ho;have aB:=hd (aB.o.off ho Kb);have HM:=hd (HM.o.off Kb ho);have HI:=hd (HI.o.off2 ho Kb);have au:=hd hv;clear hv ho)
  |(go_at_call 96;refine Calls.mono (kP3 (HO.o.later HM.o.below) aA.o ej.o) ?_;rintro e w2 ⟨A2,l2,c2,rfl,hl2,hc2,hi2,b9⟩;(try have av:=hd (show Pth _ w2 A2 l2 c2 q2 w2 from⟨hl2,by have h5:=fe.o;have h6:q2.length=l2:=hl2;omega,hc2,dZ.o,hi2,zA5.refl _ _⟩));have aB:=hd (aB.o.keep b9);have au:=hd (au.o.keep b9);have HI:=hd (HI.o.call b9);have HM:=hd (HM.o.call b9);have dO:=HM.o.v4.lt;have hlk2:=au.o.lt;clear b9 hl2 hc2 hi2;dsimp only)
  |((with_reducible refine zF (ty:=26) ?_);refine zA zD (r0:=NC.nil.row) (r:=c.row) HM.o.v4 rfl rfl c.one _ _ rfl rfl rfl rfl rfl ?_;intro W9 hv ho;have HM:=hd (HM.o.set4 (a':=c) hv ho);(try have bI:=hd (bI.o.off ho Kb));(try have HI:=hd (HI.o.off2 ho Kb));clear hv ho))
 first
  |exact bodyPost_ret (kU Tryz.results48 _ _ HM.o.v4 rfl) rfl ⟨c,rfl,fun h=>absurd h dh.o,HM.o.below⟩
 ):P:=h
theorem rdM (h:P:=by
 first|have k1:(o.k==1)=true:=by simp[hk]|have k1:(o.k==1)=false:=by simp[hk]
 first|have k2:(o.k==2)=true:=by simp[hk]|have k2:(o.k==2)=false:=by simp[hk]
 first|have k3:(o.k==3)=true:=by simp[hk]|have k3:(o.k==3)=false:=by simp[hk]
 first|have k4:(o.k==4)=true:=by simp[hk]|have k4:(o.k==4)=false:=by simp[hk]
 first|have k5:(o.k==5)=true:=by simp[hk]|have k5:(o.k==5)=false:=by simp[hk]
 first|have k6:(o.k==6)=true:=by simp[hk]|have k6:(o.k==6)=false:=by simp[hk]
 first|have k7:(o.k==7)=true:=by simp[hk]|have k7:(o.k==7)=false:=by simp[hk]
 first|have k9:(o.k !=6)=true:=by simp[hk]|have k9:(o.k !=6)=false:=by simp[hk]
 clear hk;have HN:=hd hn;have HO:=hd ho;have aA:=hd ta;clear hn ho ta;obtain⟨W0,hW,hst⟩:=zDc w c o;have HW:=hd hW;have HM:=hd hst;clear hW hst;go_enter Tryz.func48,Tryz.ntmps48
 go_upto_region 1 with fail
 rw[HW.o];clear HW;exact rdC
 ):P:=h
theorem kVc {w:World}{c:NC}{o:OC}{n:NT}{a:OpP}{x y:NT}{E:Int}(hn:kS w c n)(ho:OkA w o a)(ta:zAf a)(hk:o.k=3)(hcut:zBw n a.q=(x,E))(hcm:zE3 n a.q=y)(hne:E≠0):Calls Tryz.prog 48 #[.agg c.row,.agg o.row] w (kNs w (zeroT,E)):=by
 have aL:=hd hcut;have cL:=hd hcm;have dh:=hd hne;have e1:(E !=0)=true:=by simpa using hne
 clear hcut hcm hne;exact rdM
theorem kXw {w:World}{c:NC}{o:OC}{n:NT}{a:OpP}{x y:NT}{q2:List Int}{E:Int}(hn:kS w c n)(ho:OkA w o a)(ta:zAf a)(hk:o.k=3)(hcut:zBw n a.q=(x,0))(hcm:zE3 n a.q=y)(hbk:jV a.q=(q2,E))(he:E≠0):Calls Tryz.prog 48 #[.agg c.row,.agg o.row] w (kNs w (zeroT,8)):=by
 have aL:=hd hcut;have cL:=hd hcm;have ej:=hd hbk;have e1:(E !=0)=true:=by simpa using he
 clear he;have dh:=hd (show(8:Int)≠0 by decide);clear hcut hcm hbk;exact rdM
theorem kXx {w:World}{c:NC}{o:OC}{n:NT}{a:OpP}{E:Int}(hn:kS w c n)(ho:OkA w o a)(ta:zAf a)(hk:o.k=4)(hcw:chk a.w=E)(hne:E≠0):Calls Tryz.prog 48 #[.agg c.row,.agg o.row] w (kNs w (zeroT,E)):=by
 have dV:=hd hcw;have dh:=hd hne;have e1:(E !=0)=true:=by simpa using hne
 clear hcw hne;exact rdM
theorem kVd {w:World}{c:NC}{o:OC}{n:NT}{a:OpP}{x y:NT}{E:Int}(hn:kS w c n)(ho:OkA w o a)(ta:zAf a)(hk:o.k=4)(hcw:chk a.w=0)(hcut:zBw n a.q=(x,E))(hcm:zE3 n a.q=y)(hne:E≠0):Calls Tryz.prog 48 #[.agg c.row,.agg o.row] w (kNs w (zeroT,E)):=by
 have dV:=hd hcw;have aL:=hd hcut;have cL:=hd hcm;have dh:=hd hne;have e1:(E !=0)=true:=by simpa using hne
 clear hcw hcut hcm hne;exact rdM
