import Derived.Test.YtmkciabefepelaaGreatJUTxt
set_option maxRecDepth 100000
set_option maxHeartbeats 8000000
namespace Go.Proofs.YtmkciabefepelaaGreat
open Go.RowKit
variable {P:Prop}{w:World}{c m:NC}{mt n y:NT}{q2:List Int}{r:NT×Int}
theorem kNh {Q:Prop}(k:Q)(h:Q->P:=by
 intro kk;simp only[Act.put,List.getElem_toArray,List.getElem_cons_succ,List.getElem_cons_zero,List.setIfInBounds_toArray,List.set_cons_succ,List.set_cons_zero];exact kk):P:=h k
theorem kSa (h:P:=by
 go_wp2_with(first
  |((with_reducible refine zC (ty:=26) (x:=.tmp 3) ?_);refine zB zD HM.o.v3 rfl _ rfl rfl rfl ?_)
  |((with_reducible refine zC (ty:=26) (x:=.tmp 5) ?_);refine zB zD HM.o.v5 rfl _ rfl rfl rfl ?_)
  |((with_reducible refine zC (ty:=26) (x:=.tmp 11) ?_);refine zB zD dh.o rfl _ rfl rfl rfl ?_)
  |((with_reducible refine zC (ty:=26) (x:=.tmp 10) ?_);refine zB zD ac.o rfl _ rfl rfl rfl ?_)
  |((with_reducible refine zC (ty:=27) (x:=.tmp 66) ?_);refine zE HM.o.v4 (j:=1) (v:=.slice o.Q o.lq o.cq) _ rfl rfl rfl rfl Tryz.underlying27 rfl ?_)
  |(go_at_call 128;refine Calls.mono (zJ1 (HN.o.later HM.o.below) (zR6 (aR.o.later HM.o.below) j6.o HK.o) (zKt.later (HO.o.hasq au.o) HM.o.below) dX.o) ?_;rintro e w6 ⟨cp,rfl,hx,b9⟩;have HP:=hd hx.now;have ac:=hd (ac.o.keep b9);have ar:=hd (ar.o.call b9);have HM:=hd (HM.o.call b9);have kp:=HM.o.v6.lt;have hlv:=ac.o.lt;have hlq:=ar.o.hi.size;clear b9 hx;dsimp only)
  |((with_reducible refine zF (ty:=26) (x:=.tmp 11) ?_);refine zA zD (r0:=NC.nil.row) (r:=cp.row) (zAr w6).1 rfl rfl cp.one _ _ rfl rfl rfl rfl rfl ?_;intro W7 hv ho;have dh:=hd hv;have HP:=hd (HP.o.later2 (zAr w6).2 ho Km);have ac:=hd ((ac.o.keep (zAr w6).2).off ho Kb);have ar:=hd ((ar.o.call (zAr w6).2).off ho Kb);have HM:=hd ((HM.o.call (zAr w6).2).off Kb ho);clear hv ho)
  |((with_reducible refine zF (ty:=26) (x:=.tmp 6) ?_);refine zA zD (r0:=NC.nil.row) (r:=cf.row) HM.o.v6 rfl rfl cf.one _ _ rfl rfl rfl rfl rfl ?_;intro WF hv ho;have HM:=hd (HM.o.set6 (a':=cf) hv ho);have HX:=hd (HX.o.off ho Kb);clear hv ho)
  |(go_at_call 84;refine Calls.mono (zOi HP.o (zR7 (aR.o.later HM.o.below) (HO.o.later HM.o.below) j6.o HK.o HD.o) ar.o.has dC.o HAD.o) ?_;rintro e wF ⟨cf,rfl,hx,b9⟩;have hlo:=HM.o.v6.lt;have hsz:=HM.o.below.size;have HX:=hd hx;have HM:=hd (HM.o.call b9);clear b9 hx;dsimp only)
  |fail)
 exact bodyPost_ret (kU Tryz.results82 _ _ HM.o.v6 rfl) rfl ⟨cf,rfl,HX.o.more Kb,HM.o.below⟩):P:=h
theorem kQl (h:P:=by
 refine kNh ?_;refine Kp 10 3 (.pointer (some ⟨w.heap.size+1+1,2,none⟩)) aa.o ?_;refine kNh ?_;refine Kq 11 2 (fun K hK=>?_);rw[if_pos Ka];refine zY zFu HM.o.v5 _ _ rfl rfl 2 _ [.slice m.X k m.tc] rfl rfl rfl rfl (zHt rfl) Kn ?_;intro W5 hv ho;have HM:=hd (HM.o.set5 (a':={m with nt:=k}) hv ho);have ac:=hd (ac.o.off ho Kb);have ar:=hd (ar.o.off ho Kb);have aa:=hd HM.o.v4;clear hv ho;refine hK _ _ (fun _=>aa.o) ?_;clear hK K;refine Kp 12 1 (.pointer (some ⟨g10,2,none⟩)) aa.o ?_;refine kNh ?_;refine Kq 13 0 (fun K hK=>?_);rw[if_pos Ka];refine zY zFu ac.o _ _ rfl rfl 2 _ [.slice D (m.nt-k) (m.tc-k)] rfl rfl rfl rfl (zHt rfl) Kn ?_;intro W6 hv ho;have ac:=hd (show jT 26 W6 g10 (NC.row (⟨m.lf,o.W,o.nw,o.cw,D,m.nt-k,m.tc-k,none,0,0⟩:NC))from hv);have HM:=hd (HM.o.off Kb ho);have ar:=hd (ar.o.off ho Kb);clear hv ho;refine hK _ _ (fun _=>HM.o.v4) (zAl Ka ?_);clear hK K aa;exact kSa):P:=h
theorem zXn {o:OC}{a:OpP}{E:Int}{k:Nat}(hn:kS w c n)(ho:OkA w o a)(ta:zAf a)(hm:kS w m mt)(hz:decide (o.z<0)=false)(pP:o.z=(k:Int))(hk:k<=m.nt)(jc:zXd mt=E)(hov:decide (E<o.z)=false)(hnx:zBg a.q=(q2,0))(hin:InI q2)(br:q2.length<=1000)(dA:m.lf=true)(hlt:mt.lf=true)(hput:zSe n a.q (jN mt k)=(y,0))(hsz:sizeT y<=100000)(had:zGo y q2 (zA2 mt k a.w)=r):Calls Tryz.prog 82 #[.agg c.row,.agg o.row,.agg m.row] w (zAm w r):=by
 have hmp:=hm.parts.f;obtain⟨D,hD,ax⟩:=zLb m.X m.nt m.tc k hk (by have:=hmp.2.2.2.2.2.1;have:=hm.parts.nt;omega);have hcap:k<=m.tc:=by have:=hmp.2.2.2.2.2.1;have:=hm.parts.nt;omega
 have aA:∀W:World,(Instr.slice 23 (.slice m.X m.nt m.tc) none (some (.int .i64 o.z)) none).run Tryz.prog W=.ok (.slice m.X k m.tc) W:=by rw[pP];exact zLc m.X m.nt m.tc k hcap
 have az:∀W:World,(Instr.slice 23 (.slice m.X m.nt m.tc) (some (.int .i64 o.z)) none none).run Tryz.prog W=.ok (.slice D (m.nt-k) (m.tc-k)) W:=by rw[pP];exact ax
 have HD:=hd hD;have HK:=hd hk;have ip:=hd aA;have dR:=hd az;clear hD aA az ax hmp pP hcap hk;have pQ:=hd jc;have mL:=hd hnx;have dS:=hd hin;have gZ:=hd br;have iP:=hd dA;have j6:=hd hlt;have dX:=hd hput;have dC:=hd hsz;have HAD:=hd had;have HN:=hd hn;have HO:=hd ho;have au:=hd ta;have aR:=hd hm;clear hn ho ta hm jc hnx hin br dA hlt hput hsz had;obtain⟨W0,hW,hst⟩:=jM w c o m;have HW:=hd hW;have HM:=hd hst;clear hW hst;go_enter Tryz.func82,Tryz.ntmps82
 go_upto_region 1 with fail
 rw[HW.o];clear HW;have HM:=hd (HM.o.call (Kl.drew));refine jO (S:=fun W'=>jT 26 W' (w.heap.size+1+1) m.row/\jR W' (w.heap.size+1) o) (z:=fun _=>false) Ka ?_;have aa:=hd (And.intro HM.o.v5 HM.o.v4);refine Kp 0 9 (.pointer (some ⟨w.heap.size+1,3,none⟩)) aa.o ?_;simp only[Act.put,List.getElem_toArray,List.getElem_cons_zero,List.setIfInBounds_toArray,List.set_cons_succ,List.set_cons_zero];refine Ko 1 8 (.int .i64 o.z) (fun W9 ag=>?_) aa.o ?_
 ·exact kV (j:=3) ag.2.toR _ rfl rfl rfl Tryz.underlying3 rfl
 refine kNh ?_;refine Kp 2 7 (.bool false) aa.o ?_;refine kNh ?_;refine Kp 3 6 (.bool false) aa.o ?_;refine kNh ?_;refine Kp 4 5 (.pointer (some ⟨w.heap.size+1,3,none⟩)) aa.o ?_;refine kNh ?_;refine Ko 5 4 (.int .i64 o.z) (fun W9 ag=>?_) aa.o ?_
 ·exact kV (j:=3) ag.2.toR _ rfl rfl rfl Tryz.underlying3 rfl
 refine kNh ?_;refine Ko 6 3 (.agg m.row) (fun W9 ag=>?_) aa.o ?_
 ·exact zS zD ag.1 rfl _ rfl rfl
 refine kNh ?_;refine Kq 7 2 (fun K hK=>?_);rw[if_pos Ka];go_simp;go_at_call 127
 refine(zDu (c:=m) (aR.o.later HM.o.below) pQ.o).mono ?_;rintro e w1 ⟨rfl,b9⟩;have HM:=hd (HM.o.call b9);clear b9 aa;have aa:=hd (And.intro HM.o.v5 HM.o.v4);refine hK _ _ (fun _=>aa.o) ?_;clear hK K;refine Kp 8 1 (.bool false) aa.o ?_;refine kNh ?_;refine Kq 9 0 (fun K hK=>?_);rw[if_pos Ka];go_simp;refine hK _ _ (fun _=>aa.o) (zAl Ka ?_);clear hK K aa;go_upto_region 8 with(first
  |((with_reducible refine zC (ty:=27) (x:=.tmp 24) ?_);refine zE HM.o.v4 (j:=1) (v:=.slice o.Q o.lq o.cq) _ rfl rfl rfl rfl Tryz.underlying27 rfl ?_)
  |(go_at_call 118;refine Calls.mono (kE7 (HO.o.later HM.o.below) au.o mL.o) ?_;rintro e w2 ⟨A2,l2,c2,rfl,hl2,hc2,hi2,b9⟩;have ar:=hd (show Pth _ w2 A2 l2 c2 q2 w2 from⟨hl2,by have h5:=gZ.o;have h6:q2.length=l2:=hl2;omega,hc2,dS.o,hi2,zA5.refl _ _⟩);have gM:=HM.o.v6.lt;have HM:=hd (HM.o.call b9);have bu:=HM.o.v6.lt;clear b9 hl2 hc2 hi2;dsimp only)
  |((with_reducible refine zC (ty:=4) (x:=.tmp 33) ?_);refine zM HM.o.v5 (j:=0) (v:=.bool m.lf) _ rfl rfl rfl rfl Tryz.underlying4 rfl ?_)
  |((with_reducible refine zC (ty:=22) (x:=.tmp 35) ?_);refine zE HM.o.v4 (j:=9) (v:=.slice o.W o.nw o.cw) _ rfl rfl rfl rfl Tryz.underlying22 rfl ?_)
  |((with_reducible refine zF (ty:=26) (x:=.tmp 10) ?_);refine zA zD (r0:=NC.nil.row) (r:=(⟨m.lf,o.W,o.nw,o.cw,none,0,0,none,0,0⟩:NC).row) (zAr w2).1 rfl rfl (⟨m.lf,o.W,o.nw,o.cw,none,0,0,none,0,0⟩:NC).one _ _ rfl rfl rfl rfl rfl ?_;intro W3 hv ho;have ac:=hd hv;have ar:=hd ((ar.o.call (zAr w2).2).off ho Kb);have HM:=hd ((HM.o.call (zAr w2).2).off Kb ho);clear hv ho)
  |((with_reducible refine zC (ty:=4) (x:=.tmp 38) ?_);refine zM HM.o.v5 (j:=0) (v:=.bool true) _ rfl rfl rfl (by simp only[NC.row,iP.o];rfl) Tryz.underlying4 rfl ?_))
 obtain⟨g10,aS⟩:∃g,w2.heap.size=g:=⟨_,rfl⟩;have cZ:w2.heap.size<=g10:=Kb;rw[aS]at ac;try rw[aS]
 clear aS;have HM:=hd (HM.o.call (Kl.drew));have ac:=hd (ac.o.keep (Kl.drew));have ar:=hd (ar.o.call (Kl.drew));refine jO (S:=fun W'=>jR W' (w.heap.size+1) o) (z:=fun _=>false) Ka ?_;have aa:=hd HM.o.v4;refine Kp 0 13 (.pointer (some ⟨w.heap.size+1+1,2,none⟩)) aa.o ?_;simp only[Act.put,List.getElem_toArray,List.getElem_cons_zero,List.setIfInBounds_toArray,List.set_cons_succ,List.set_cons_zero];refine Kp 2 12 (.pointer (some ⟨w.heap.size+1,3,none⟩)) aa.o ?_;refine kNh ?_;refine Ko 3 11 (.int .i64 o.z) (fun W9 ag=>?_) aa.o ?_
 ·exact kV (j:=3) ag.toR _ rfl rfl rfl Tryz.underlying3 rfl
 refine kNh ?_;refine Kp 5 10 (.pointer (some ⟨w.heap.size+1+1,2,none⟩)) aa.o ?_;refine kNh ?_;refine Kp 7 9 (.pointer (some ⟨w.heap.size+1,3,none⟩)) aa.o ?_;refine kNh ?_;refine Ko 8 8 (.int .i64 o.z) (fun W9 ag=>?_) aa.o ?_
 ·exact kV (j:=3) ag.toR _ rfl rfl rfl Tryz.underlying3 rfl
 refine kNh ?_;refine kB9 (i:=1) (j:=6) (n:=7) Ka rfl rfl (fun K hK=>?_) (fun K hK=>?_)
 ·rw[if_pos Ka];refine zB6 (j:=2) (HM.o.v5.cell 2 (.slice m.X m.nt m.tc) rfl) _ rfl rfl Tryz.underlying23 rfl ?_;refine kNh ?_;refine hK _ _ (fun _=>aa.o) ?_;clear hK K;refine Ko 4 6 (.slice m.X k m.tc) (fun W9 ag=>?_) aa.o ?_
  ·have aA:=ip.o;go_simp
  refine kNh ?_;refine Kq 6 5 (fun K hK=>?_);rw[if_pos Ka];refine zB6 (j:=2) (HM.o.v5.cell 2 (.slice m.X m.nt m.tc) rfl) _ rfl rfl Tryz.underlying23 rfl ?_;refine kNh ?_;refine hK _ _ (fun _=>aa.o) ?_;clear hK K;refine Ko 9 4 (.slice D (m.nt-k) (m.tc-k)) (fun W9 ag=>?_) aa.o ?_
  ·have az:=dR.o;go_simp
  exact kQl
 ·rw[if_pos Ka];refine zB6 (j:=2) (HM.o.v5.cell 2 (.slice m.X m.nt m.tc) rfl) _ rfl rfl Tryz.underlying23 rfl ?_;refine kNh ?_;refine hK _ _ (fun _=>aa.o) ?_;clear hK K;refine Ko 9 6 (.slice D (m.nt-k) (m.tc-k)) (fun W9 ag=>?_) aa.o ?_
  ·have az:=dR.o;go_simp
  refine kNh ?_;refine Kq 1 5 (fun K hK=>?_);rw[if_pos Ka];refine zB6 (j:=2) (HM.o.v5.cell 2 (.slice m.X m.nt m.tc) rfl) _ rfl rfl Tryz.underlying23 rfl ?_;refine kNh ?_;refine hK _ _ (fun _=>aa.o) ?_;clear hK K;refine Ko 4 4 (.slice m.X k m.tc) (fun W9 ag=>?_) aa.o ?_
  ·have aA:=ip.o;go_simp
  exact kQl
theorem kSb (h:P:=by
 go_wp2_with(first
  |((with_reducible refine zC (ty:=26) (x:=.tmp 3) ?_);refine zB zD HM.o.v3 rfl _ rfl rfl rfl ?_)
  |((with_reducible refine zC (ty:=26) (x:=.tmp 5) ?_);refine zB zD HM.o.v5 rfl _ rfl rfl rfl ?_)
  |((with_reducible refine zC (ty:=26) (x:=.tmp 11) ?_);refine zB zD dh.o rfl _ rfl rfl rfl ?_)
  |((with_reducible refine zC (ty:=26) (x:=.tmp 10) ?_);refine zB zD ac.o rfl _ rfl rfl rfl ?_)
  |((with_reducible refine zC (ty:=27) (x:=.tmp 66) ?_);refine zE HM.o.v4 (j:=1) (v:=.slice o.Q o.lq o.cq) _ rfl rfl rfl rfl Tryz.underlying27 rfl ?_)
  |(go_at_call 128;refine Calls.mono (zJ1 (HN.o.later HM.o.below) (kA6 (aR.o.later HM.o.below) j6.o HK.o) (zKt.later (HO.o.hasq au.o) HM.o.below) dX.o) ?_;rintro e w6 ⟨cp,rfl,hx,b9⟩;have HP:=hd hx.now;have ac:=hd (ac.o.keep b9);have ar:=hd (ar.o.call b9);have HM:=hd (HM.o.call b9);have kp:=HM.o.v6.lt;have hlv:=ac.o.lt;have hlq:=ar.o.hi.size;clear b9 hx;dsimp only)
  |((with_reducible refine zF (ty:=26) (x:=.tmp 11) ?_);refine zA zD (r0:=NC.nil.row) (r:=cp.row) (zAr w6).1 rfl rfl cp.one _ _ rfl rfl rfl rfl rfl ?_;intro W7 hv ho;have dh:=hd hv;have HP:=hd (HP.o.later2 (zAr w6).2 ho Km);have ac:=hd ((ac.o.keep (zAr w6).2).off ho Kb);have ar:=hd ((ar.o.call (zAr w6).2).off ho Kb);have HM:=hd ((HM.o.call (zAr w6).2).off Kb ho);clear hv ho)
  |((with_reducible refine zF (ty:=26) (x:=.tmp 6) ?_);refine zA zD (r0:=NC.nil.row) (r:=cf.row) HM.o.v6 rfl rfl cf.one _ _ rfl rfl rfl rfl rfl ?_;intro WF hv ho;have HM:=hd (HM.o.set6 (a':=cf) hv ho);have HX:=hd (HX.o.off ho Kb);clear hv ho)
  |(go_at_call 84;refine Calls.mono (zOi HP.o (kA7 (aR.o.later HM.o.below) (HO.o.later HM.o.below) j6.o HK.o HD.o) ar.o.has dC.o HAD.o) ?_;rintro e wF ⟨cf,rfl,hx,b9⟩;have hlo:=HM.o.v6.lt;have hsz:=HM.o.below.size;have HX:=hd hx;have HM:=hd (HM.o.call b9);clear b9 hx;dsimp only)
  |fail)
 exact bodyPost_ret (kU Tryz.results82 _ _ HM.o.v6 rfl) rfl ⟨cf,rfl,HX.o.more Kb,HM.o.below⟩):P:=h
theorem kQm (h:P:=by
 refine kNh ?_;refine Kp 10 3 (.pointer (some ⟨w.heap.size+1+1,3,none⟩)) aa.o ?_;refine kNh ?_;refine Kq 11 2 (fun K hK=>?_);rw[if_pos Ka];refine zY zKu HM.o.v5 _ _ rfl rfl 3 _ [.slice m.K k m.kc] rfl rfl rfl rfl (zHt rfl) Kn ?_;intro W5 hv ho;have HM:=hd (HM.o.set5 (a':={m with nk:=k}) hv ho);have ac:=hd (ac.o.off ho Kb);have ar:=hd (ar.o.off ho Kb);have aa:=hd HM.o.v4;clear hv ho;refine hK _ _ (fun _=>aa.o) ?_;clear hK K;refine Kp 12 1 (.pointer (some ⟨g10,3,none⟩)) aa.o ?_;refine kNh ?_;refine Kq 13 0 (fun K hK=>?_);rw[if_pos Ka];refine zY zKu ac.o _ _ rfl rfl 3 _ [.slice D (m.nk-k) (m.kc-k)] rfl rfl rfl rfl (zHt rfl) Kn ?_;intro W6 hv ho;have ac:=hd (show jT 26 W6 g10 (NC.row (⟨m.lf,o.W,o.nw,o.cw,none,0,0,D,m.nk-k,m.kc-k⟩:NC))from hv);have HM:=hd (HM.o.off Kb ho);have ar:=hd (ar.o.off ho Kb);clear hv ho;refine hK _ _ (fun _=>HM.o.v4) (zAl Ka ?_);clear hK K aa;exact kSb):P:=h
theorem kEl {o:OC}{a:OpP}{E:Int}{k:Nat}(hn:kS w c n)(ho:OkA w o a)(ta:zAf a)(hm:kS w m mt)(hz:decide (o.z<0)=false)(pP:o.z=(k:Int))(hk:k<=m.nk)(jc:zXd mt=E)(hov:decide (E<o.z)=false)(hnx:zBg a.q=(q2,0))(hin:InI q2)(br:q2.length<=1000)(dA:m.lf=false)(hlt:mt.lf=false)(hput:zSe n a.q (jN mt k)=(y,0))(hsz:sizeT y<=100000)(had:zGo y q2 (zA2 mt k a.w)=r):Calls Tryz.prog 82 #[.agg c.row,.agg o.row,.agg m.row] w (zAm w r):=by
 have hmp:=hm.parts.f;obtain⟨D,hD,ax⟩:=zVa m.K m.nk m.kc k hk (by have:=hmp.2.2.2.2.2.2;have:=hm.parts.nk;omega);have hcap:k<=m.kc:=by have:=hmp.2.2.2.2.2.2;have:=hm.parts.nk;omega
 have aA:∀W:World,(Instr.slice 24 (.slice m.K m.nk m.kc) none (some (.int .i64 o.z)) none).run Tryz.prog W=.ok (.slice m.K k m.kc) W:=by rw[pP];exact zRw m.K m.nk m.kc k hcap
 have az:∀W:World,(Instr.slice 24 (.slice m.K m.nk m.kc) (some (.int .i64 o.z)) none none).run Tryz.prog W=.ok (.slice D (m.nk-k) (m.kc-k)) W:=by rw[pP];exact ax
 have HD:=hd hD;have HK:=hd hk;have ip:=hd aA;have dR:=hd az;clear hD aA az ax hmp pP hcap hk;have pQ:=hd jc;have mL:=hd hnx;have dS:=hd hin;have gZ:=hd br;have iP:=hd dA;have j6:=hd hlt;have dX:=hd hput;have dC:=hd hsz;have HAD:=hd had;have HN:=hd hn;have HO:=hd ho;have au:=hd ta;have aR:=hd hm;clear hn ho ta hm jc hnx hin br dA hlt hput hsz had;obtain⟨W0,hW,hst⟩:=jM w c o m;have HW:=hd hW;have HM:=hd hst;clear hW hst;go_enter Tryz.func82,Tryz.ntmps82
 go_upto_region 1 with fail
 rw[HW.o];clear HW;have HM:=hd (HM.o.call (Kl.drew));refine jO (S:=fun W'=>jT 26 W' (w.heap.size+1+1) m.row/\jR W' (w.heap.size+1) o) (z:=fun _=>false) Ka ?_;have aa:=hd (And.intro HM.o.v5 HM.o.v4);refine Kp 0 9 (.pointer (some ⟨w.heap.size+1,3,none⟩)) aa.o ?_;simp only[Act.put,List.getElem_toArray,List.getElem_cons_zero,List.setIfInBounds_toArray,List.set_cons_succ,List.set_cons_zero];refine Ko 1 8 (.int .i64 o.z) (fun W9 ag=>?_) aa.o ?_
 ·exact kV (j:=3) ag.2.toR _ rfl rfl rfl Tryz.underlying3 rfl
 refine kNh ?_;refine Kp 2 7 (.bool false) aa.o ?_;refine kNh ?_;refine Kp 3 6 (.bool false) aa.o ?_;refine kNh ?_;refine Kp 4 5 (.pointer (some ⟨w.heap.size+1,3,none⟩)) aa.o ?_;refine kNh ?_;refine Ko 5 4 (.int .i64 o.z) (fun W9 ag=>?_) aa.o ?_
 ·exact kV (j:=3) ag.2.toR _ rfl rfl rfl Tryz.underlying3 rfl
 refine kNh ?_;refine Ko 6 3 (.agg m.row) (fun W9 ag=>?_) aa.o ?_
 ·exact zS zD ag.1 rfl _ rfl rfl
 refine kNh ?_;refine Kq 7 2 (fun K hK=>?_);rw[if_pos Ka];go_simp;go_at_call 127
 refine(zDu (c:=m) (aR.o.later HM.o.below) pQ.o).mono ?_;rintro e w1 ⟨rfl,b9⟩;have HM:=hd (HM.o.call b9);clear b9 aa;have aa:=hd (And.intro HM.o.v5 HM.o.v4);refine hK _ _ (fun _=>aa.o) ?_;clear hK K;refine Kp 8 1 (.bool false) aa.o ?_;refine kNh ?_;refine Kq 9 0 (fun K hK=>?_);rw[if_pos Ka];go_simp;refine hK _ _ (fun _=>aa.o) (zAl Ka ?_);clear hK K aa;go_upto_region 9 with(first
  |((with_reducible refine zC (ty:=27) (x:=.tmp 24) ?_);refine zE HM.o.v4 (j:=1) (v:=.slice o.Q o.lq o.cq) _ rfl rfl rfl rfl Tryz.underlying27 rfl ?_)
  |(go_at_call 118;refine Calls.mono (kE7 (HO.o.later HM.o.below) au.o mL.o) ?_;rintro e w2 ⟨A2,l2,c2,rfl,hl2,hc2,hi2,b9⟩;have ar:=hd (show Pth _ w2 A2 l2 c2 q2 w2 from⟨hl2,by have h5:=gZ.o;have h6:q2.length=l2:=hl2;omega,hc2,dS.o,hi2,zA5.refl _ _⟩);have gM:=HM.o.v6.lt;have HM:=hd (HM.o.call b9);have bu:=HM.o.v6.lt;clear b9 hl2 hc2 hi2;dsimp only)
  |((with_reducible refine zC (ty:=4) (x:=.tmp 33) ?_);refine zM HM.o.v5 (j:=0) (v:=.bool m.lf) _ rfl rfl rfl rfl Tryz.underlying4 rfl ?_)
  |((with_reducible refine zC (ty:=22) (x:=.tmp 35) ?_);refine zE HM.o.v4 (j:=9) (v:=.slice o.W o.nw o.cw) _ rfl rfl rfl rfl Tryz.underlying22 rfl ?_)
  |((with_reducible refine zF (ty:=26) (x:=.tmp 10) ?_);refine zA zD (r0:=NC.nil.row) (r:=(⟨m.lf,o.W,o.nw,o.cw,none,0,0,none,0,0⟩:NC).row) (zAr w2).1 rfl rfl (⟨m.lf,o.W,o.nw,o.cw,none,0,0,none,0,0⟩:NC).one _ _ rfl rfl rfl rfl rfl ?_;intro W3 hv ho;have ac:=hd hv;have ar:=hd ((ar.o.call (zAr w2).2).off ho Kb);have HM:=hd ((HM.o.call (zAr w2).2).off Kb ho);clear hv ho)
  |((with_reducible refine zC (ty:=4) (x:=.tmp 38) ?_);refine zM HM.o.v5 (j:=0) (v:=.bool false) _ rfl rfl rfl (by simp only[NC.row,iP.o];rfl) Tryz.underlying4 rfl ?_))
 obtain⟨g10,aS⟩:∃g,w2.heap.size=g:=⟨_,rfl⟩;have cZ:w2.heap.size<=g10:=Kb;rw[aS]at ac;try rw[aS]
 clear aS;have HM:=hd (HM.o.call (Kl.drew));have ac:=hd (ac.o.keep (Kl.drew));have ar:=hd (ar.o.call (Kl.drew));refine jO (S:=fun W'=>jR W' (w.heap.size+1) o) (z:=fun _=>false) Ka ?_;have aa:=hd HM.o.v4;refine Kp 0 13 (.pointer (some ⟨w.heap.size+1+1,3,none⟩)) aa.o ?_;simp only[Act.put,List.getElem_toArray,List.getElem_cons_zero,List.setIfInBounds_toArray,List.set_cons_succ,List.set_cons_zero];refine Kp 2 12 (.pointer (some ⟨w.heap.size+1,3,none⟩)) aa.o ?_;refine kNh ?_;refine Ko 3 11 (.int .i64 o.z) (fun W9 ag=>?_) aa.o ?_
 ·exact kV (j:=3) ag.toR _ rfl rfl rfl Tryz.underlying3 rfl
 refine kNh ?_;refine Kp 5 10 (.pointer (some ⟨w.heap.size+1+1,3,none⟩)) aa.o ?_;refine kNh ?_;refine Kp 7 9 (.pointer (some ⟨w.heap.size+1,3,none⟩)) aa.o ?_;refine kNh ?_;refine Ko 8 8 (.int .i64 o.z) (fun W9 ag=>?_) aa.o ?_
 ·exact kV (j:=3) ag.toR _ rfl rfl rfl Tryz.underlying3 rfl
 refine kNh ?_;refine kB9 (i:=1) (j:=6) (n:=7) Ka rfl rfl (fun K hK=>?_) (fun K hK=>?_)
 ·rw[if_pos Ka];refine zB6 (j:=3) (HM.o.v5.cell 3 (.slice m.K m.nk m.kc) rfl) _ rfl rfl Tryz.underlying24 rfl ?_;refine kNh ?_;refine hK _ _ (fun _=>aa.o) ?_;clear hK K;refine Ko 4 6 (.slice m.K k m.kc) (fun W9 ag=>?_) aa.o ?_
  ·have aA:=ip.o;go_simp
  refine kNh ?_;refine Kq 6 5 (fun K hK=>?_);rw[if_pos Ka];refine zB6 (j:=3) (HM.o.v5.cell 3 (.slice m.K m.nk m.kc) rfl) _ rfl rfl Tryz.underlying24 rfl ?_;refine kNh ?_;refine hK _ _ (fun _=>aa.o) ?_;clear hK K;refine Ko 9 4 (.slice D (m.nk-k) (m.kc-k)) (fun W9 ag=>?_) aa.o ?_
  ·have az:=dR.o;go_simp
  exact kQm
 ·rw[if_pos Ka];refine zB6 (j:=3) (HM.o.v5.cell 3 (.slice m.K m.nk m.kc) rfl) _ rfl rfl Tryz.underlying24 rfl ?_;refine kNh ?_;refine hK _ _ (fun _=>aa.o) ?_;clear hK K;refine Ko 9 6 (.slice D (m.nk-k) (m.kc-k)) (fun W9 ag=>?_) aa.o ?_
  ·have az:=dR.o;go_simp
  refine kNh ?_;refine Kq 1 5 (fun K hK=>?_);rw[if_pos Ka];refine zB6 (j:=3) (HM.o.v5.cell 3 (.slice m.K m.nk m.kc) rfl) _ rfl rfl Tryz.underlying24 rfl ?_;refine kNh ?_;refine hK _ _ (fun _=>aa.o) ?_;clear hK K;refine Ko 4 4 (.slice m.K k m.kc) (fun W9 ag=>?_) aa.o ?_
  ·have aA:=ip.o;go_simp
  exact kQm
