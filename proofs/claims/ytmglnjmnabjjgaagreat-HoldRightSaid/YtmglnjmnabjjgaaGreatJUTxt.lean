import Derived.Test.YtmglnjmnabjjgaaGreatJUParts
set_option maxRecDepth 100000
set_option maxHeartbeats 8000000
namespace Go.Proofs.YtmglnjmnabjjgaaGreat
open Go.RowKit
variable {P:Prop}{L:List Int}{E er:Int}{B k:Nat}{A D:Option Addr}
theorem zAi {Q:Prop}(k:Q)(h:Q->P:=by
 intro kk;simp only[Act.put,List.getElem_toArray,List.getElem_cons_succ,List.getElem_cons_zero,List.setIfInBounds_toArray,List.set_cons_succ,List.set_cons_zero];exact kk):P:=h k
theorem kQq (h:P:=by
 have cX:=hd cJ;try have cM:=hd hsz
 try have HR:=hd hr
 have HN:=hd hn;have HO:=hd ho;have aw:=hd ta;have aF:=hd hm;clear hn ho ta hm cJ;try clear hsz
 try clear hr
 obtain⟨W0,hW,hst⟩:=jM w c o m;have HW:=hd hW;have HM:=hd hst;clear hW hst;go_enter Tryz.func75,Tryz.ntmps75
 go_upto_region 1 with fail
 rw[HW.o];clear HW;go_wp2_with(first
  |((with_reducible refine zC (ty:=4) (x:=.tmp 11) ?_);refine zM HM.o.v5 (j:=0) (v:=.bool false) _ rfl rfl rfl (by simp only[NC.row,cX.o];rfl) Tryz.underlying4 rfl ?_)
  |((with_reducible refine zC (ty:=4) (x:=.tmp 11) ?_);refine zM HM.o.v5 (j:=0) (v:=.bool true) _ rfl rfl rfl (by simp only[NC.row,cX.o];rfl) Tryz.underlying4 rfl ?_)
  |((with_reducible refine zC (ty:=3) (x:=.tmp 15) ?_);refine zE HM.o.v4 (j:=0) (v:=.int .i64 o.k) _ rfl rfl rfl rfl Tryz.underlying3 rfl ?_)
  |((with_reducible refine zC (ty:=3) (x:=.tmp 22) ?_);refine zE HM.o.v4 (j:=3) (v:=.int .i64 o.z) _ rfl rfl rfl rfl Tryz.underlying3 rfl ?_)
  |((with_reducible refine zC (ty:=23) (x:=.tmp 20) ?_);refine zM HM.o.v5 (j:=2) (v:=.slice m.X m.nt m.tc) _ rfl rfl rfl rfl Tryz.underlying23 rfl ?_)
  |((with_reducible refine zC (ty:=23) (x:=.tmp 24) ?_);refine zE HM.o.v4 (j:=10) (v:=.slice o.S o.nx o.cx) _ rfl rfl rfl rfl Tryz.underlying23 rfl ?_)
  |(go_at_call 112;refine Calls.mono (kE6 (aF.o.later HM.o.below) (HO.o.later HM.o.below) aw.o cM.o HR.o) ?_;rintro e w1 ⟨A1,c1,rfl,hc1,hs1,b9⟩;have aY:=HM.o.v5.lt;have HS:=hd hs1;have bR:=hd hc1;have HM:=hd (HM.o.call b9);clear b9 hc1 hs1;dsimp only)
  |(go_at_call 111;refine Calls.mono (kE5 (aF.o.later HM.o.below) (HO.o.later HM.o.below) aw.o cM.o HR.o) ?_;rintro e w1 ⟨A1,c1,rfl,hc1,hs1,b9⟩;have aY:=HM.o.v5.lt;have HS:=hd hs1;have bR:=hd hc1;have HM:=hd (HM.o.call b9);clear b9 hc1 hs1;dsimp only)
  |((with_reducible refine zF (ty:=26) (x:=.tmp 6) ?_);refine zA zD (r0:=NC.nil.row) (r:=NC.nil.row) HM.o.v6 rfl rfl NC.nil.one _ _ rfl rfl rfl rfl rfl ?_;intro W7 hv ho;have HM:=hd (HM.o.set6 (a':=NC.nil) hv ho);clear hv ho)
  |fail)
 exact bodyPost_ret (kU Tryz.results75 _ _ HM.o.v6 rfl) rfl ⟨NC.nil,rfl,fun _ _=>zAb _,HM.o.below⟩):P:=h
theorem kA4 {w:World}{c:NC}{o:OC}{m:NC}{n mt:NT}{a:OpP}(hn:kS w c n)(ho:OkA w o a)(ta:zAf a)(hm:kS w m mt)(cJ:m.lf=false):Calls Tryz.prog 75 #[.agg c.row,.agg o.row,.agg m.row] w (zAm w (zeroT,7)):=by
 exact kQq
theorem zPv {w:World}{c:NC}{o:OC}{m:NC}{n mt:NT}{a:OpP}(hn:kS w c n)(ho:OkA w o a)(ta:zAf a)(hm:kS w m mt)(cJ:m.lf=true)(k8:(o.k==8)=false)(hsz:sizeT mt<=900)(hr:zFx mt.tx a.z a.x=(L,E))(hne:(E !=0)=true):Calls Tryz.prog 75 #[.agg c.row,.agg o.row,.agg m.row] w (zAm w (zeroT,E)):=by
 exact kQq
theorem kR0 (h:P:=by
 have cX:=hd cJ;have cM:=hd hsz;have HR:=hd hr;have mr:=hd gu;have cU:=hd hput;have HN:=hd hn;have HO:=hd ho;have aw:=hd ta;have aF:=hd hm;clear hn ho ta hm cJ hsz hr gu hput;obtain⟨W0,hW,hst⟩:=jM w c o m;have HW:=hd hW;have HM:=hd hst;clear hW hst;go_enter Tryz.func75,Tryz.ntmps75
 go_upto_region 1 with fail
 rw[HW.o];clear HW;go_upto_region 9 with(first
  |((with_reducible refine zC (ty:=4) (x:=.tmp 11) ?_);refine zM HM.o.v5 (j:=0) (v:=.bool true) _ rfl rfl rfl (by simp only[NC.row,cX.o];rfl) Tryz.underlying4 rfl ?_)
  |((with_reducible refine zC (ty:=3) (x:=.tmp 15) ?_);refine zE HM.o.v4 (j:=0) (v:=.int .i64 o.k) _ rfl rfl rfl rfl Tryz.underlying3 rfl ?_)
  |((with_reducible refine zC (ty:=3) (x:=.tmp 22) ?_);refine zE HM.o.v4 (j:=3) (v:=.int .i64 o.z) _ rfl rfl rfl rfl Tryz.underlying3 rfl ?_)
  |((with_reducible refine zC (ty:=23) (x:=.tmp 20) ?_);refine zM HM.o.v5 (j:=2) (v:=.slice m.X m.nt m.tc) _ rfl rfl rfl rfl Tryz.underlying23 rfl ?_)
  |((with_reducible refine zC (ty:=23) (x:=.tmp 24) ?_);refine zE HM.o.v4 (j:=10) (v:=.slice o.S o.nx o.cx) _ rfl rfl rfl rfl Tryz.underlying23 rfl ?_)
  |(go_at_call 112;refine Calls.mono (kE6 (aF.o.later HM.o.below) (HO.o.later HM.o.below) aw.o cM.o HR.o) ?_;rintro e w1 ⟨A1,c1,rfl,hc1,hs1,b9⟩;have aY:=HM.o.v5.lt;have HS:=hd hs1;have bR:=hd hc1;have HM:=hd (HM.o.call b9);clear b9 hc1 hs1;dsimp only)
  |(go_at_call 111;refine Calls.mono (kE5 (aF.o.later HM.o.below) (HO.o.later HM.o.below) aw.o cM.o HR.o) ?_;rintro e w1 ⟨A1,c1,rfl,hc1,hs1,b9⟩;have aY:=HM.o.v5.lt;have HS:=hd hs1;have bR:=hd hc1;have HM:=hd (HM.o.call b9);clear b9 hc1 hs1;dsimp only)
  |fail)
 go_wp2_with(first
  |((with_reducible refine zF (ty:=23) (x:=.tmp 34) ?_);refine zFd zFu (r':=({m with X:=A1,nt:=L.length,tc:=c1}:NC).row) HM.o.v5 _ _ rfl rfl rfl 2 (.slice A1 L.length c1) rfl rfl rfl rfl (by rw[NC.size];decide) Ka ?_;intro W4 hv ho;have HM:=hd (HM.o.set5 (a':={m with X:=A1,nt:=L.length,tc:=c1}) hv ho);have sU:=hd (kS.setX (aF.o.later HM.o.below) (HS.o.off ho Kb).now mr.o bR.o);clear hv ho)
  |((with_reducible refine zC (ty:=26) (x:=.tmp 3) ?_);refine zB zD HM.o.v3 rfl _ rfl rfl rfl ?_)
  |((with_reducible refine zC (ty:=26) (x:=.tmp 5) ?_);refine zB zD HM.o.v5 rfl _ rfl rfl rfl ?_)
  |((with_reducible refine zC (ty:=27) (x:=.tmp 36) ?_);refine zE HM.o.v4 (j:=1) (v:=.slice o.Q o.lq o.cq) _ rfl rfl rfl rfl Tryz.underlying27 rfl ?_)
  |(go_at_call 104;refine Calls.mono (zJ1 (HN.o.later HM.o.below) sU.o (zKt.later (HO.o.hasq aw.o) HM.o.below) cU.o) ?_;rintro e wF ⟨cf,rfl,hx,b9⟩;have hlo:=HM.o.v6.lt;have hsz:=HM.o.below.size;have HX:=hd hx;have HM:=hd (HM.o.call b9);clear b9 hx;dsimp only)
  |((with_reducible refine zF (ty:=26) (x:=.tmp 6) ?_);refine zA zD (r0:=NC.nil.row) (r:=cf.row) HM.o.v6 rfl rfl cf.one _ _ rfl rfl rfl rfl rfl ?_;intro WF hv ho;have HM:=hd (HM.o.set6 (a':=cf) hv ho);have HX:=hd (HX.o.off ho Kb);clear hv ho)
  |fail)
 exact bodyPost_ret (kU Tryz.results75 _ _ HM.o.v6 rfl) rfl ⟨cf,rfl,HX.o.more Kb,HM.o.below⟩):P:=h
theorem zNl {w:World}{c:NC}{o:OC}{m:NC}{n mt:NT}{a:OpP}{x:NT}(hn:kS w c n)(ho:OkA w o a)(ta:zAf a)(hm:kS w m mt)(cJ:m.lf=true)(k8:(o.k==8)=false)(hsz:sizeT mt<=900)(hr:zFx mt.tx a.z a.x=(L,0))(gu:L.length<=35184372088832)(hput:zSe n a.q (zCz mt L)=(x,er)):Calls Tryz.prog 75 #[.agg c.row,.agg o.row,.agg m.row] w (zAm w (x,er)):=by
 exact kR0
theorem zPw {w:World}{c:NC}{o:OC}{m:NC}{n mt:NT}{a:OpP}(hn:kS w c n)(ho:OkA w o a)(ta:zAf a)(hm:kS w m mt)(cJ:m.lf=true)(k8:(o.k==8)=true)(hsz:sizeT mt<=900)(hr:zFe mt.tx a.z a.x=(L,E))(hne:(E !=0)=true):Calls Tryz.prog 75 #[.agg c.row,.agg o.row,.agg m.row] w (zAm w (zeroT,E)):=by
 exact kQq
theorem zNm {w:World}{c:NC}{o:OC}{m:NC}{n mt:NT}{a:OpP}{x:NT}(hn:kS w c n)(ho:OkA w o a)(ta:zAf a)(hm:kS w m mt)(cJ:m.lf=true)(k8:(o.k==8)=true)(hsz:sizeT mt<=900)(hr:zFe mt.tx a.z a.x=(L,0))(gu:L.length<=35184372088832)(hput:zSe n a.q (zCz mt L)=(x,er)):Calls Tryz.prog 75 #[.agg c.row,.agg o.row,.agg m.row] w (zAm w (x,er)):=by
 exact kR0
def zXd (n:NT):Int:=if n.lf=true then n.tx.length else n.ks.length
theorem zDu {w:World}{c:NC}{n:NT}(h:kS w c n)(hE:zXd n=E):Calls Tryz.prog 102 #[.agg c.row] w (jA (.int .i64 E) w):=by
 have hp:=h.parts;obtain⟨lf,P,np,pc,X,nt,tc,K,nk,kc⟩:=c;have e1:n.lf=lf:=hp.lf;have e2:n.tx.length=nt:=hp.nt;have e3:n.ks.length=nk:=hp.nk;have hf:=hp.f;have l1:nt<=35184372088832:=by have:=hf.2.2.1;omega
 have l2:nk<=1759218604441:=by have:=hf.2.2.2.1;omega
 have HV:=hd (jT.new w 26 (NC.row ⟨lf,P,np,pc,X,nt,tc,K,nk,kc⟩));have HB:=hd (zQ w (.cells (NC.row ⟨lf,P,np,pc,X,nt,tc,K,nk,kc⟩) 26));unfold zXd at hE;rw[e1,e2,e3]at hE;clear h hp hf e1 e2 e3;cases lf
 ·obtain rfl:(nk:Int)=E:=by simpa using hE
  clear hE;go_enter Tryz.func102,Tryz.ntmps102
  go_wp2_with(first
   |((with_reducible refine zC (ty:=4) (x:=.tmp 3) ?_);refine zM HV.o (j:=0) (v:=.bool false) _ rfl rfl rfl rfl Tryz.underlying4 rfl ?_)
   |((with_reducible refine zC (ty:=24) (x:=.tmp 8) ?_);refine zM HV.o (j:=3) (v:=.slice K nk kc) _ rfl rfl rfl rfl Tryz.underlying24 rfl ?_))
  go_ret
  exact⟨rfl,HB.o⟩
 ·obtain rfl:(nt:Int)=E:=by simpa using hE
  clear hE;go_enter Tryz.func102,Tryz.ntmps102
  go_wp2_with(first
   |((with_reducible refine zC (ty:=4) (x:=.tmp 3) ?_);refine zM HV.o (j:=0) (v:=.bool true) _ rfl rfl rfl rfl Tryz.underlying4 rfl ?_)
   |((with_reducible refine zC (ty:=23) (x:=.tmp 5) ?_);refine zM HV.o (j:=2) (v:=.slice X nt tc) _ rfl rfl rfl rfl Tryz.underlying23 rfl ?_))
  go_ret
  exact⟨rfl,HB.o⟩
theorem kId {w:World}{xs:List Value}(h:VL w B A xs)(k:Nat):VL w B A (xs.take k):=fun hn=>by
 obtain⟨b,o,e,hb,hc⟩:=h (fun e=>hn (by rw[e];simp));refine⟨b,o,e,hb,fun j u hj=>hc j u ?_⟩;rw[List.getElem?_take]at hj;split at hj
 ·exact hj
 ·cases hj
theorem kA5 {d:Nat}{w:World}{ks:List NT}(h:zKn d w B A ks)(k:Nat):zKn d w B A (ks.take k):=fun j m hj=>h j m (by
 rw[List.getElem?_take]at hj;split at hj
 ·exact hj
 ·cases hj)
section
variable {w:World}{m:NC}{o:OC}{mt:NT}{a:OpP}
theorem zR6 (h:kS w m mt)(hl:mt.lf=true)(hk:k<=m.nt):kS w {m with nt:=k} (jN mt k):=by
 have hp:=h.parts;have hf:=hp.f;have e:=hp.nt;obtain⟨d,hK⟩:=hp.k;unfold jN;rw[if_pos hl];have ek:(mt.tx.take k).length=k:=by rw[List.length_take];omega
 exact zHz.has ⟨hp.lf,hp.np,ek,hp.nk,hp.p,by show VL _ _ _ (rv (mt.tx.take k));rw[zOr];exact kId hp.x k,⟨hf.1,hf.2.1,by show(mt.tx.take k).length<=_;have:=hf.2.2.1;omega,hf.2.2.2.1,hf.2.2.2.2.1,by show(mt.tx.take k).length<=m.tc;have:=hf.2.2.2.2.2.1;omega,hf.2.2.2.2.2.2⟩,d,hK⟩
theorem kA6 (h:kS w m mt)(hl:mt.lf=false)(hk:k<=m.nk):kS w {m with nk:=k} (jN mt k):=by
 have hp:=h.parts;have hf:=hp.f;have e:=hp.nk;obtain⟨d,hK⟩:=hp.k;unfold jN;rw[if_neg (by rw[hl];decide)];have ek:(mt.ks.take k).length=k:=by rw[List.length_take];omega
 exact zHz.has ⟨hp.lf,hp.np,hp.nt,ek,hp.p,hp.x,⟨hf.1,hf.2.1,hf.2.2.1,by show(mt.ks.take k).length<=_;have:=hf.2.2.2.1;omega,hf.2.2.2.2.1,hf.2.2.2.2.2.1,by show(mt.ks.take k).length<=m.kc;have:=hf.2.2.2.2.2.2;omega⟩,d,kA5 hK k⟩
theorem zR7 (h:kS w m mt)(ho:OkA w o a)(hl:mt.lf=true)(hk:k<=m.nt)(hD:∀(w:World)(B:Nat)(xs:List Value),VL w B m.X xs->xs.length=m.nt->VL w B D (xs.drop k)):kS w ⟨m.lf,o.W,o.nw,o.cw,D,m.nt-k,m.tc-k,none,0,0⟩ (zA2 mt k a.w):=by
 have hp:=h.parts;have hf:=hp.f;have e:=hp.nt;unfold zA2;rw[if_pos hl];have ek:(mt.tx.drop k).length=m.nt-k:=by rw[List.length_drop];omega
 exact zHz.has ⟨hp.lf,ho.hnw,ek,rfl,ho.hw,by show VL _ _ _ (rv (mt.tx.drop k));rw[zOs];exact hD _ _ _ hp.x (by rw[zCg];exact e),⟨ho.hww,by show a.w.length<=_;have:=ho.hmw;have:=ho.hnw;omega,by show(mt.tx.drop k).length<=_;have:=hf.2.2.1;omega,Nat.zero_le _,by show a.w.length<=o.cw;have:=ho.hcw;have:=ho.hnw;omega,by show(mt.tx.drop k).length<=m.tc-k;have:=hf.2.2.2.2.2.1;omega,Nat.le_refl _⟩,0,fun k m h=>by cases h⟩
theorem kA7 (h:kS w m mt)(ho:OkA w o a)(hl:mt.lf=false)(hk:k<=m.nk)(hD:∀(d:Nat)(w:World)(B:Nat)(ks:List NT),zKn d w B m.K ks->ks.length=m.nk->zKn d w B D (ks.drop k)):kS w ⟨m.lf,o.W,o.nw,o.cw,none,0,0,D,m.nk-k,m.kc-k⟩ (zA2 mt k a.w):=by
 have hp:=h.parts;have hf:=hp.f;have e:=hp.nk;obtain⟨d,hK⟩:=hp.k;unfold zA2;rw[if_neg (by rw[hl];decide)];have ek:(mt.ks.drop k).length=m.nk-k:=by rw[List.length_drop];omega
 exact zHz.has ⟨hp.lf,ho.hnw,rfl,ek,ho.hw,VL.nil _ _ _,⟨ho.hww,by show a.w.length<=_;have:=ho.hmw;have:=ho.hnw;omega,Nat.zero_le _,by show(mt.ks.drop k).length<=_;have:=hf.2.2.2.1;omega,by show a.w.length<=o.cw;have:=ho.hcw;have:=ho.hnw;omega,Nat.le_refl _,by show(mt.ks.drop k).length<=m.kc-k;have:=hf.2.2.2.2.2.2;omega⟩,d,hD _ _ _ _ hK e⟩
end
theorem kR1 (h:P:=by
 refine Kp 9 0 (fun K hK=>?_);rw[if_pos Ka];go_simp;refine hK _ _ (fun _=>aa.o) (zAl Ka ?_);clear hK K aa;go_wp2_with(first
  |((with_reducible refine zF (ty:=26) (x:=.tmp 6) ?_);refine zA zD (r0:=NC.nil.row) (r:=NC.nil.row) HM.o.v6 rfl rfl NC.nil.one _ _ rfl rfl rfl rfl rfl ?_;intro W7 hv ho;have HM:=hd (HM.o.set6 (a':=NC.nil) hv ho);clear hv ho))
 exact bodyPost_ret (kU Tryz.results71 _ _ HM.o.v6 rfl) rfl ⟨NC.nil,rfl,fun _ _=>zAb _,HM.o.below⟩):P:=h
theorem kA8 {w:World}{c:NC}{o:OC}{m:NC}{n mt:NT}{a:OpP}(hn:kS w c n)(ho:OkA w o a)(ta:zAf a)(hm:kS w m mt)(hz:decide (o.z<0)=true):Calls Tryz.prog 71 #[.agg c.row,.agg o.row,.agg m.row] w (zAm w (zeroT,8)):=by
 have HN:=hd hn;have HO:=hd ho;have aw:=hd ta;have aF:=hd hm;clear hn ho ta hm;obtain⟨W0,hW,hst⟩:=jM w c o m;have HW:=hd hW;have HM:=hd hst;clear hW hst;go_enter Tryz.func71,Tryz.ntmps71
 go_upto_region 1 with fail
 rw[HW.o];clear HW;have HM:=hd (HM.o.call (Kk.drew));refine jO (S:=fun W'=>jT 26 W' (w.heap.size+1+1) m.row/\jR W' (w.heap.size+1) o) (z:=fun _=>false) Ka ?_;have aa:=hd (And.intro HM.o.v5 HM.o.v4);refine Ko 0 9 (.pointer (some ⟨w.heap.size+1,3,none⟩)) aa.o ?_;simp only[Act.put,List.getElem_toArray,List.getElem_cons_zero,List.setIfInBounds_toArray,List.set_cons_succ,List.set_cons_zero];refine Kn 1 8 (.int .i64 o.z) (fun W9 aj=>?_) aa.o ?_
 ·exact kV (j:=3) aj.2.toR _ rfl rfl rfl Tryz.underlying3 rfl
 refine zAi ?_;refine Ko 2 7 (.bool true) aa.o ?_;refine zAi ?_;refine Ko 3 6 (.bool true) aa.o ?_;refine zAi ?_;refine zBx (i:=4) (n:=5) rfl Ka Ka Ka Ka (fun _ _ _ h=>h) Ka aa.o ?_;simp only[Act.put];refine zBx (i:=5) (n:=4) rfl Ka Ka Ka Ka (fun _ _ _ h=>h) Ka aa.o ?_;simp only[Act.put];refine zBx (i:=6) (n:=3) rfl Ka Ka Ka Ka (fun _ _ _ h=>h) Ka aa.o ?_;simp only[Act.put];refine zBx (i:=7) (n:=2) rfl Ka Ka Ka Ka (fun _ _ _ h=>h) Ka aa.o ?_;simp only[Act.put];refine zBx (i:=8) (n:=1) rfl Ka Ka Ka Ka (fun _ _ _ h=>h) Ka aa.o ?_;simp only[Act.put];exact kR1
theorem zXe {w:World}{c:NC}{o:OC}{m:NC}{n mt:NT}{a:OpP}(hn:kS w c n)(ho:OkA w o a)(ta:zAf a)(hm:kS w m mt)(hz:decide (o.z<0)=false)(gu:zXd mt=E)(hov:decide (E<o.z)=true):Calls Tryz.prog 71 #[.agg c.row,.agg o.row,.agg m.row] w (zAm w (zeroT,8)):=by
 have mr:=hd gu;have HN:=hd hn;have HO:=hd ho;have aw:=hd ta;have aF:=hd hm;clear hn ho ta hm gu;obtain⟨W0,hW,hst⟩:=jM w c o m;have HW:=hd hW;have HM:=hd hst;clear hW hst;go_enter Tryz.func71,Tryz.ntmps71
 go_upto_region 1 with fail
 rw[HW.o];clear HW;have HM:=hd (HM.o.call (Kk.drew));refine jO (S:=fun W'=>jT 26 W' (w.heap.size+1+1) m.row/\jR W' (w.heap.size+1) o) (z:=fun _=>false) Ka ?_;have aa:=hd (And.intro HM.o.v5 HM.o.v4);refine Ko 0 9 (.pointer (some ⟨w.heap.size+1,3,none⟩)) aa.o ?_;simp only[Act.put,List.getElem_toArray,List.getElem_cons_zero,List.setIfInBounds_toArray,List.set_cons_succ,List.set_cons_zero];refine Kn 1 8 (.int .i64 o.z) (fun W9 aj=>?_) aa.o ?_
 ·exact kV (j:=3) aj.2.toR _ rfl rfl rfl Tryz.underlying3 rfl
 refine zAi ?_;refine Ko 2 7 (.bool false) aa.o ?_;refine zAi ?_;refine Ko 3 6 (.bool false) aa.o ?_;refine zAi ?_;refine Ko 4 5 (.pointer (some ⟨w.heap.size+1,3,none⟩)) aa.o ?_;refine zAi ?_;refine Kn 5 4 (.int .i64 o.z) (fun W9 aj=>?_) aa.o ?_
 ·exact kV (j:=3) aj.2.toR _ rfl rfl rfl Tryz.underlying3 rfl
 refine zAi ?_;refine Kn 6 3 (.agg m.row) (fun W9 aj=>?_) aa.o ?_
 ·exact zS zD aj.1 rfl _ rfl rfl
 refine zAi ?_;refine Kp 7 2 (fun K hK=>?_);rw[if_pos Ka];go_simp;go_at_call 102
 refine(zDu (c:=m) (aF.o.later HM.o.below) mr.o).mono ?_;rintro e w1 ⟨rfl,b9⟩;have HM:=hd (HM.o.call b9);clear b9 aa;have aa:=hd (And.intro HM.o.v5 HM.o.v4);refine hK _ _ (fun _=>aa.o) ?_;clear hK K;refine Ko 8 1 (.bool true) aa.o ?_;refine zAi ?_;exact kR1
theorem kUj (h:P:=by
 go_wp2_with(first
  |((with_reducible refine zC (ty:=26) (x:=.tmp 3) ?_);refine zB zD HM.o.v3 rfl _ rfl rfl rfl ?_)
  |((with_reducible refine zC (ty:=26) (x:=.tmp 5) ?_);refine zB zD HM.o.v5 rfl _ rfl rfl rfl ?_)
  |((with_reducible refine zC (ty:=26) (x:=.tmp 11) ?_);refine zB zD bT.o rfl _ rfl rfl rfl ?_)
  |((with_reducible refine zC (ty:=26) (x:=.tmp 10) ?_);refine zB zD ae.o rfl _ rfl rfl rfl ?_)
  |((with_reducible refine zC (ty:=27) (x:=.tmp 66) ?_);refine zE HM.o.v4 (j:=1) (v:=.slice o.Q o.lq o.cq) _ rfl rfl rfl rfl Tryz.underlying27 rfl ?_)
  |(go_at_call 104;refine Calls.mono (zJ1 (HN.o.later HM.o.below) (zR6 (aF.o.later HM.o.below) eX.o HK.o) (zKt.later (HO.o.hasq aw.o) HM.o.below) cU.o) ?_;rintro e w6 ⟨cp,rfl,hx,b9⟩;have HP:=hd hx.now;have ae:=hd (ae.o.keep b9);have au:=hd (au.o.call b9);have HM:=hd (HM.o.call b9);have iZ:=HM.o.v6.lt;have hlv:=ae.o.lt;have hlq:=au.o.hi.size;clear b9 hx;dsimp only)
  |((with_reducible refine zF (ty:=26) (x:=.tmp 11) ?_);refine zA zD (r0:=NC.nil.row) (r:=cp.row) (zAr w6).1 rfl rfl cp.one _ _ rfl rfl rfl rfl rfl ?_;intro W7 hv ho;have bT:=hd hv;have HP:=hd (HP.o.later2 (zAr w6).2 ho Kl);have ae:=hd ((ae.o.keep (zAr w6).2).off ho Kb);have au:=hd ((au.o.call (zAr w6).2).off ho Kb);have HM:=hd ((HM.o.call (zAr w6).2).off Kb ho);clear hv ho)
  |((with_reducible refine zF (ty:=26) (x:=.tmp 6) ?_);refine zA zD (r0:=NC.nil.row) (r:=cf.row) HM.o.v6 rfl rfl cf.one _ _ rfl rfl rfl rfl rfl ?_;intro WF hv ho;have HM:=hd (HM.o.set6 (a':=cf) hv ho);have HX:=hd (HX.o.off ho Kb);clear hv ho)
  |(go_at_call 73;refine Calls.mono (zOi HP.o (zR7 (aF.o.later HM.o.below) (HO.o.later HM.o.below) eX.o HK.o HD.o) au.o.has cM.o HAD.o) ?_;rintro e wF ⟨cf,rfl,hx,b9⟩;have hlo:=HM.o.v6.lt;have hsz:=HM.o.below.size;have HX:=hd hx;have HM:=hd (HM.o.call b9);clear b9 hx;dsimp only)
  |fail)
 exact bodyPost_ret (kU Tryz.results71 _ _ HM.o.v6 rfl) rfl ⟨cf,rfl,HX.o.more Kb,HM.o.below⟩):P:=h
theorem kR2 (h:P:=by
 refine zAi ?_;refine Ko 10 3 (.pointer (some ⟨w.heap.size+1+1,2,none⟩)) aa.o ?_;refine zAi ?_;refine Kp 11 2 (fun K hK=>?_);rw[if_pos Ka];refine zY zFu HM.o.v5 _ _ rfl rfl 2 _ [.slice m.X k m.tc] rfl rfl rfl rfl (zHt rfl) Km ?_;intro W5 hv ho;have HM:=hd (HM.o.set5 (a':={m with nt:=k}) hv ho);have ae:=hd (ae.o.off ho Kb);have au:=hd (au.o.off ho Kb);have aa:=hd HM.o.v4;clear hv ho;refine hK _ _ (fun _=>aa.o) ?_;clear hK K;refine Ko 12 1 (.pointer (some ⟨g10,2,none⟩)) aa.o ?_;refine zAi ?_;refine Kp 13 0 (fun K hK=>?_);rw[if_pos Ka];refine zY zFu ae.o _ _ rfl rfl 2 _ [.slice D (m.nt-k) (m.tc-k)] rfl rfl rfl rfl (zHt rfl) Km ?_;intro W6 hv ho;have ae:=hd (show jT 26 W6 g10 (NC.row (⟨m.lf,o.W,o.nw,o.cw,D,m.nt-k,m.tc-k,none,0,0⟩:NC))from hv);have HM:=hd (HM.o.off Kb ho);have au:=hd (au.o.off ho Kb);clear hv ho;refine hK _ _ (fun _=>HM.o.v4) (zAl Ka ?_);clear hK K aa;exact kUj):P:=h
theorem zXn {w:World}{c:NC}{o:OC}{m:NC}{n mt:NT}{a:OpP}{q2:List Int}{y:NT}{r:NT×Int}(hn:kS w c n)(ho:OkA w o a)(ta:zAf a)(hm:kS w m mt)(hz:decide (o.z<0)=false)(mq:o.z=(k:Int))(hk:k<=m.nt)(gu:zXd mt=E)(hov:decide (E<o.z)=false)(hnx:zBg a.q=(q2,0))(hin:InI q2)(bO:q2.length<=1000)(cJ:m.lf=true)(hlt:mt.lf=true)(hput:zSe n a.q (jN mt k)=(y,0))(hsz:sizeT y<=100000)(had:zGo y q2 (zA2 mt k a.w)=r):Calls Tryz.prog 71 #[.agg c.row,.agg o.row,.agg m.row] w (zAm w r):=by
 have hmp:=hm.parts.f;obtain⟨D,hD,br⟩:=zLb m.X m.nt m.tc k hk (by have:=hmp.2.2.2.2.2.1;have:=hm.parts.nt;omega);have hcap:k<=m.tc:=by have:=hmp.2.2.2.2.2.1;have:=hm.parts.nt;omega
 have bu:∀W:World,(Instr.slice 23 (.slice m.X m.nt m.tc) none (some (.int .i64 o.z)) none).run Tryz.prog W=.ok (.slice m.X k m.tc) W:=by rw[mq];exact zLc m.X m.nt m.tc k hcap
 have bi:∀W:World,(Instr.slice 23 (.slice m.X m.nt m.tc) (some (.int .i64 o.z)) none none).run Tryz.prog W=.ok (.slice D (m.nt-k) (m.tc-k)) W:=by rw[mq];exact br
 have HD:=hd hD;have HK:=hd hk;have px:=hd bu;have fR:=hd bi;clear hD bu bi br hmp mq hcap hk;have mr:=hd gu;have mz:=hd hnx;have fA:=hd hin;have fT:=hd bO;have cX:=hd cJ;have eX:=hd hlt;have cU:=hd hput;have cM:=hd hsz;have HAD:=hd had;have HN:=hd hn;have HO:=hd ho;have aw:=hd ta;have aF:=hd hm;clear hn ho ta hm gu hnx hin bO cJ hlt hput hsz had;obtain⟨W0,hW,hst⟩:=jM w c o m;have HW:=hd hW;have HM:=hd hst;clear hW hst;go_enter Tryz.func71,Tryz.ntmps71
 go_upto_region 1 with fail
 rw[HW.o];clear HW;have HM:=hd (HM.o.call (Kk.drew));refine jO (S:=fun W'=>jT 26 W' (w.heap.size+1+1) m.row/\jR W' (w.heap.size+1) o) (z:=fun _=>false) Ka ?_;have aa:=hd (And.intro HM.o.v5 HM.o.v4);refine Ko 0 9 (.pointer (some ⟨w.heap.size+1,3,none⟩)) aa.o ?_;simp only[Act.put,List.getElem_toArray,List.getElem_cons_zero,List.setIfInBounds_toArray,List.set_cons_succ,List.set_cons_zero];refine Kn 1 8 (.int .i64 o.z) (fun W9 aj=>?_) aa.o ?_
 ·exact kV (j:=3) aj.2.toR _ rfl rfl rfl Tryz.underlying3 rfl
 refine zAi ?_;refine Ko 2 7 (.bool false) aa.o ?_;refine zAi ?_;refine Ko 3 6 (.bool false) aa.o ?_;refine zAi ?_;refine Ko 4 5 (.pointer (some ⟨w.heap.size+1,3,none⟩)) aa.o ?_;refine zAi ?_;refine Kn 5 4 (.int .i64 o.z) (fun W9 aj=>?_) aa.o ?_
 ·exact kV (j:=3) aj.2.toR _ rfl rfl rfl Tryz.underlying3 rfl
 refine zAi ?_;refine Kn 6 3 (.agg m.row) (fun W9 aj=>?_) aa.o ?_
 ·exact zS zD aj.1 rfl _ rfl rfl
 refine zAi ?_;refine Kp 7 2 (fun K hK=>?_);rw[if_pos Ka];go_simp;go_at_call 102
 refine(zDu (c:=m) (aF.o.later HM.o.below) mr.o).mono ?_;rintro e w1 ⟨rfl,b9⟩;have HM:=hd (HM.o.call b9);clear b9 aa;have aa:=hd (And.intro HM.o.v5 HM.o.v4);refine hK _ _ (fun _=>aa.o) ?_;clear hK K;refine Ko 8 1 (.bool false) aa.o ?_;refine zAi ?_;refine Kp 9 0 (fun K hK=>?_);rw[if_pos Ka];go_simp;refine hK _ _ (fun _=>aa.o) (zAl Ka ?_);clear hK K aa;go_upto_region 8 with(first
  |((with_reducible refine zC (ty:=27) (x:=.tmp 24) ?_);refine zE HM.o.v4 (j:=1) (v:=.slice o.Q o.lq o.cq) _ rfl rfl rfl rfl Tryz.underlying27 rfl ?_)
  |(go_at_call 86;refine Calls.mono (kE7 (HO.o.later HM.o.below) aw.o mz.o) ?_;rintro e w2 ⟨A2,l2,c2,rfl,hl2,hc2,hi2,b9⟩;have au:=hd (show Pth _ w2 A2 l2 c2 q2 w2 from⟨hl2,by have h5:=fT.o;have h6:q2.length=l2:=hl2;omega,hc2,fA.o,hi2,zA5.refl _ _⟩);have f9:=HM.o.v6.lt;have HM:=hd (HM.o.call b9);have bY:=HM.o.v6.lt;clear b9 hl2 hc2 hi2;dsimp only)
  |((with_reducible refine zC (ty:=4) (x:=.tmp 33) ?_);refine zM HM.o.v5 (j:=0) (v:=.bool m.lf) _ rfl rfl rfl rfl Tryz.underlying4 rfl ?_)
  |((with_reducible refine zC (ty:=22) (x:=.tmp 35) ?_);refine zE HM.o.v4 (j:=9) (v:=.slice o.W o.nw o.cw) _ rfl rfl rfl rfl Tryz.underlying22 rfl ?_)
  |((with_reducible refine zF (ty:=26) (x:=.tmp 10) ?_);refine zA zD (r0:=NC.nil.row) (r:=(⟨m.lf,o.W,o.nw,o.cw,none,0,0,none,0,0⟩:NC).row) (zAr w2).1 rfl rfl (⟨m.lf,o.W,o.nw,o.cw,none,0,0,none,0,0⟩:NC).one _ _ rfl rfl rfl rfl rfl ?_;intro W3 hv ho;have ae:=hd hv;have au:=hd ((au.o.call (zAr w2).2).off ho Kb);have HM:=hd ((HM.o.call (zAr w2).2).off Kb ho);clear hv ho)
  |((with_reducible refine zC (ty:=4) (x:=.tmp 38) ?_);refine zM HM.o.v5 (j:=0) (v:=.bool true) _ rfl rfl rfl (by simp only[NC.row,cX.o];rfl) Tryz.underlying4 rfl ?_))
 obtain⟨g10,aG⟩:∃g,w2.heap.size=g:=⟨_,rfl⟩;have bS:w2.heap.size<=g10:=Kb;rw[aG]at ae;try rw[aG]
 clear aG;have HM:=hd (HM.o.call (Kk.drew));have ae:=hd (ae.o.keep (Kk.drew));have au:=hd (au.o.call (Kk.drew));refine jO (S:=fun W'=>jR W' (w.heap.size+1) o) (z:=fun _=>false) Ka ?_;have aa:=hd HM.o.v4;refine Ko 0 13 (.pointer (some ⟨w.heap.size+1+1,2,none⟩)) aa.o ?_;simp only[Act.put,List.getElem_toArray,List.getElem_cons_zero,List.setIfInBounds_toArray,List.set_cons_succ,List.set_cons_zero];refine Ko 2 12 (.pointer (some ⟨w.heap.size+1,3,none⟩)) aa.o ?_;refine zAi ?_;refine Kn 3 11 (.int .i64 o.z) (fun W9 aj=>?_) aa.o ?_
 ·exact kV (j:=3) aj.toR _ rfl rfl rfl Tryz.underlying3 rfl
 refine zAi ?_;refine Ko 5 10 (.pointer (some ⟨w.heap.size+1+1,2,none⟩)) aa.o ?_;refine zAi ?_;refine Ko 7 9 (.pointer (some ⟨w.heap.size+1,3,none⟩)) aa.o ?_;refine zAi ?_;refine Kn 8 8 (.int .i64 o.z) (fun W9 aj=>?_) aa.o ?_
 ·exact kV (j:=3) aj.toR _ rfl rfl rfl Tryz.underlying3 rfl
 refine zAi ?_;refine kB9 (i:=1) (j:=6) (n:=7) Ka rfl rfl (fun K hK=>?_) (fun K hK=>?_)
 ·rw[if_pos Ka];refine zB6 (j:=2) (HM.o.v5.cell 2 (.slice m.X m.nt m.tc) rfl) _ rfl rfl Tryz.underlying23 rfl ?_;refine zAi ?_;refine hK _ _ (fun _=>aa.o) ?_;clear hK K;refine Kn 4 6 (.slice m.X k m.tc) (fun W9 aj=>?_) aa.o ?_
  ·have bu:=px.o;go_simp
  refine zAi ?_;refine Kp 6 5 (fun K hK=>?_);rw[if_pos Ka];refine zB6 (j:=2) (HM.o.v5.cell 2 (.slice m.X m.nt m.tc) rfl) _ rfl rfl Tryz.underlying23 rfl ?_;refine zAi ?_;refine hK _ _ (fun _=>aa.o) ?_;clear hK K;refine Kn 9 4 (.slice D (m.nt-k) (m.tc-k)) (fun W9 aj=>?_) aa.o ?_
  ·have bi:=fR.o;go_simp
  exact kR2
 ·rw[if_pos Ka];refine zB6 (j:=2) (HM.o.v5.cell 2 (.slice m.X m.nt m.tc) rfl) _ rfl rfl Tryz.underlying23 rfl ?_;refine zAi ?_;refine hK _ _ (fun _=>aa.o) ?_;clear hK K;refine Kn 9 6 (.slice D (m.nt-k) (m.tc-k)) (fun W9 aj=>?_) aa.o ?_
  ·have bi:=fR.o;go_simp
  refine zAi ?_;refine Kp 1 5 (fun K hK=>?_);rw[if_pos Ka];refine zB6 (j:=2) (HM.o.v5.cell 2 (.slice m.X m.nt m.tc) rfl) _ rfl rfl Tryz.underlying23 rfl ?_;refine zAi ?_;refine hK _ _ (fun _=>aa.o) ?_;clear hK K;refine Kn 4 4 (.slice m.X k m.tc) (fun W9 aj=>?_) aa.o ?_
  ·have bu:=px.o;go_simp
  exact kR2
