import Derived.Test.YtmkciabefepelaaGreatJRMer
set_option maxRecDepth 100000
namespace Go.Proofs.YtmkciabefepelaaGreat
open Go.RowKit
variable {P:Prop}
theorem kNj {Q:Prop}(k:Q)(h:Q->P:=by
 intro kk;simp only[Act.put,List.getElem_toArray,List.getElem_cons_succ,List.getElem_cons_zero,List.setIfInBounds_toArray,List.set_cons_succ,List.set_cons_zero];exact kk):P:=h k
theorem kU6 (h:P:=by
 go_wp2_with(first
  |((with_reducible refine zC (ty:=26) (x:=.tmp 3) ?_);refine zB zD HM.o.v3 rfl _ rfl rfl rfl ?_)
  |((with_reducible refine zC (ty:=26) (x:=.tmp 5) ?_);refine zB zD HM.o.v5 rfl _ rfl rfl rfl ?_)
  |((with_reducible refine zC (ty:=26) (x:=.tmp 11) ?_);refine zB zD dB.o rfl _ rfl rfl rfl ?_)
  |((with_reducible refine zC (ty:=26) (x:=.tmp 10) ?_);refine zB zD ag.o rfl _ rfl rfl rfl ?_)
  |((with_reducible refine zC (ty:=27) (x:=.tmp 66) ?_);refine zE HM.o.v4 (j:=1) (v:=.slice o.Q o.lq o.cq) _ rfl rfl rfl rfl Tryz.underlying27 rfl ?_)
  |(go_at_call 128;refine Calls.mono (zJ1 (HN.o.later HM.o.below) (kA6 (bC.o.later HM.o.below) eN.o HK.o) (zKt.later (HO.o.hasq aA.o) HM.o.below) bp.o) ?_;rintro e w6 ⟨cp,rfl,hx,b9⟩;have HP:=hd hx.now;have ag:=hd (ag.o.keep b9);have av:=hd (av.o.call b9);have HM:=hd (HM.o.call b9);have jk:=HM.o.v6.lt;have hlv:=ag.o.lt;have hlq:=av.o.hi.size;clear b9 hx;dsimp only)
  |((with_reducible refine zF (ty:=26) (x:=.tmp 11) ?_);refine zA zD (r0:=NC.nil.row) (r:=cp.row) (zAr w6).1 rfl rfl cp.one _ _ rfl rfl rfl rfl rfl ?_;intro W7 hv ho;have dB:=hd hv;have HP:=hd (HP.o.later2 (zAr w6).2 ho Kl);have ag:=hd ((ag.o.keep (zAr w6).2).off ho Kb);have av:=hd ((av.o.call (zAr w6).2).off ho Kb);have HM:=hd ((HM.o.call (zAr w6).2).off Kb ho);clear hv ho)
  |((with_reducible refine zF (ty:=26) (x:=.tmp 6) ?_);refine zA zD (r0:=NC.nil.row) (r:=cf.row) HM.o.v6 rfl rfl cf.one _ _ rfl rfl rfl rfl rfl ?_;intro WF hv ho;have HM:=hd (HM.o.set6 (a':=cf) hv ho);have HX:=hd (HX.o.off ho Kb);clear hv ho)
  |(go_at_call 84;refine Calls.mono (zOi HP.o (kA7 (bC.o.later HM.o.below) (HO.o.later HM.o.below) eN.o HK.o HD.o) av.o.has cY.o HAD.o) ?_;rintro e wF ⟨cf,rfl,hx,b9⟩;have hlo:=HM.o.v6.lt;have hsz:=HM.o.below.size;have HX:=hd hx;have HM:=hd (HM.o.call b9);clear b9 hx;dsimp only)
  |fail)
 exact bodyPost_ret (kU Tryz.results82 _ _ HM.o.v6 rfl) rfl ⟨cf,rfl,HX.o.more Kb,HM.o.below⟩):P:=h
theorem kSl (h:P:=by
 refine kNj ?_;refine Ko 10 3 (.pointer (some ⟨w.heap.size+1+1,3,none⟩)) ac.o ?_;refine kNj ?_;refine Kp 11 2 (fun K hK=>?_);rw[if_pos Ka];refine zY zKu HM.o.v5 _ _ rfl rfl 3 _ [.slice m.K k m.kc] rfl rfl rfl rfl (zHt rfl) Km ?_;intro W5 hv ho;have HM:=hd (HM.o.set5 (a':={m with nk:=k}) hv ho);have ag:=hd (ag.o.off ho Kb);have av:=hd (av.o.off ho Kb);have ac:=hd HM.o.v4;clear hv ho;refine hK _ _ (fun _=>ac.o) ?_;clear hK K;refine Ko 12 1 (.pointer (some ⟨g10,3,none⟩)) ac.o ?_;refine kNj ?_;refine Kp 13 0 (fun K hK=>?_);rw[if_pos Ka];refine zY zKu ag.o _ _ rfl rfl 3 _ [.slice D (m.nk-k) (m.kc-k)] rfl rfl rfl rfl (zHt rfl) Km ?_;intro W6 hv ho;have ag:=hd (show jT 26 W6 g10 (NC.row (⟨m.lf,o.W,o.nw,o.cw,none,0,0,D,m.nk-k,m.kc-k⟩:NC))from hv);have HM:=hd (HM.o.off Kb ho);have av:=hd (av.o.off ho Kb);clear hv ho;refine hK _ _ (fun _=>HM.o.v4) (zAl Ka ?_);clear hK K ac;exact kU6):P:=h
set_option maxHeartbeats 8000000 in
theorem kEl {w:World}{c:NC}{o:OC}{m:NC}{n mt:NT}{a:OpP}{E:Int}{k:Nat}{q2:List Int}{y:NT}{r:NT×Int}(hn:kS w c n)(ho:OkA w o a)(ta:zAf a)(hm:kS w m mt)(hz:decide (o.z<0)=false)(fJ:o.z=(k:Int))(hk:k<=m.nk)(j5:zXd mt=E)(hov:decide (E<o.z)=false)(hnx:zBg a.q=(q2,0))(hin:InI q2)(bA:q2.length<=1000)(aI:m.lf=false)(hlt:mt.lf=false)(hput:zSe n a.q (jN mt k)=(y,0))(hsz:sizeT y<=100000)(had:zGo y q2 (zA2 mt k a.w)=r):Calls Tryz.prog 82 #[.agg c.row,.agg o.row,.agg m.row] w (zAm w r):=by
 have hmp:=hm.parts.f;obtain⟨D,hD,aR⟩:=zVa m.K m.nk m.kc k hk (by have:=hmp.2.2.2.2.2.2;have:=hm.parts.nk;omega);have hcap:k<=m.kc:=by have:=hmp.2.2.2.2.2.2;have:=hm.parts.nk;omega
 have bD:∀W:World,(Instr.slice 24 (.slice m.K m.nk m.kc) none (some (.int .i64 o.z)) none).run Tryz.prog W=.ok (.slice m.K k m.kc) W:=by rw[fJ];exact zRw m.K m.nk m.kc k hcap
 have bu:∀W:World,(Instr.slice 24 (.slice m.K m.nk m.kc) (some (.int .i64 o.z)) none none).run Tryz.prog W=.ok (.slice D (m.nk-k) (m.kc-k)) W:=by rw[fJ];exact aR
 have HD:=hd hD;have HK:=hd hk;have td:=hd bD;have gA:=hd bu;clear hD bD bu aR hmp fJ hcap hk;have pJ:=hd j5;have dQ:=hd hnx;have dZ:=hd hin;have fe:=hd bA;have di:=hd aI;have eN:=hd hlt;have bp:=hd hput;have cY:=hd hsz;have HAD:=hd had;have HN:=hd hn;have HO:=hd ho;have aA:=hd ta;have bC:=hd hm;clear hn ho ta hm j5 hnx hin bA aI hlt hput hsz had;obtain⟨W0,hW,hst⟩:=jM w c o m;have HW:=hd hW;have HM:=hd hst;clear hW hst;go_enter Tryz.func82,Tryz.ntmps82
 go_upto_region 1 with fail
 rw[HW.o];clear HW;have HM:=hd (HM.o.call (Kk.drew));refine jO (S:=fun W'=>jT 26 W' (w.heap.size+1+1) m.row/\jR W' (w.heap.size+1) o) (z:=fun _=>false) Ka ?_;have ac:=hd (And.intro HM.o.v5 HM.o.v4);refine Ko 0 9 (.pointer (some ⟨w.heap.size+1,3,none⟩)) ac.o ?_;simp only[Act.put,List.getElem_toArray,List.getElem_cons_zero,List.setIfInBounds_toArray,List.set_cons_succ,List.set_cons_zero];refine Kn 1 8 (.int .i64 o.z) (fun W9 aC=>?_) ac.o ?_
 ·exact kV (j:=3) aC.2.toR _ rfl rfl rfl Tryz.underlying3 rfl
 refine kNj ?_;refine Ko 2 7 (.bool false) ac.o ?_;refine kNj ?_;refine Ko 3 6 (.bool false) ac.o ?_;refine kNj ?_;refine Ko 4 5 (.pointer (some ⟨w.heap.size+1,3,none⟩)) ac.o ?_;refine kNj ?_;refine Kn 5 4 (.int .i64 o.z) (fun W9 aC=>?_) ac.o ?_
 ·exact kV (j:=3) aC.2.toR _ rfl rfl rfl Tryz.underlying3 rfl
 refine kNj ?_;refine Kn 6 3 (.agg m.row) (fun W9 aC=>?_) ac.o ?_
 ·exact zS zD aC.1 rfl _ rfl rfl
 refine kNj ?_;refine Kp 7 2 (fun K hK=>?_);rw[if_pos Ka];go_simp;go_at_call 127
 refine(zDu (c:=m) (bC.o.later HM.o.below) pJ.o).mono ?_;rintro e w1 ⟨rfl,b9⟩;have HM:=hd (HM.o.call b9);clear b9 ac;have ac:=hd (And.intro HM.o.v5 HM.o.v4);refine hK _ _ (fun _=>ac.o) ?_;clear hK K;refine Ko 8 1 (.bool false) ac.o ?_;refine kNj ?_;refine Kp 9 0 (fun K hK=>?_);rw[if_pos Ka];go_simp;refine hK _ _ (fun _=>ac.o) (zAl Ka ?_);clear hK K ac;go_upto_region 9 with(first
  |((with_reducible refine zC (ty:=27) (x:=.tmp 24) ?_);refine zE HM.o.v4 (j:=1) (v:=.slice o.Q o.lq o.cq) _ rfl rfl rfl rfl Tryz.underlying27 rfl ?_)
  |(go_at_call 118;refine Calls.mono (kE7 (HO.o.later HM.o.below) aA.o dQ.o) ?_;rintro e w2 ⟨A2,l2,c2,rfl,hl2,hc2,hi2,b9⟩;have av:=hd (show Pth _ w2 A2 l2 c2 q2 w2 from⟨hl2,by have h5:=fe.o;have h6:q2.length=l2:=hl2;omega,hc2,dZ.o,hi2,zA5.refl _ _⟩);have eG:=HM.o.v6.lt;have HM:=hd (HM.o.call b9);have dO:=HM.o.v6.lt;clear b9 hl2 hc2 hi2;dsimp only)
  |((with_reducible refine zC (ty:=4) (x:=.tmp 33) ?_);refine zM HM.o.v5 (j:=0) (v:=.bool m.lf) _ rfl rfl rfl rfl Tryz.underlying4 rfl ?_)
  |((with_reducible refine zC (ty:=22) (x:=.tmp 35) ?_);refine zE HM.o.v4 (j:=9) (v:=.slice o.W o.nw o.cw) _ rfl rfl rfl rfl Tryz.underlying22 rfl ?_)
  |((with_reducible refine zF (ty:=26) (x:=.tmp 10) ?_);refine zA zD (r0:=NC.nil.row) (r:=(⟨m.lf,o.W,o.nw,o.cw,none,0,0,none,0,0⟩:NC).row) (zAr w2).1 rfl rfl (⟨m.lf,o.W,o.nw,o.cw,none,0,0,none,0,0⟩:NC).one _ _ rfl rfl rfl rfl rfl ?_;intro W3 hv ho;have ag:=hd hv;have av:=hd ((av.o.call (zAr w2).2).off ho Kb);have HM:=hd ((HM.o.call (zAr w2).2).off Kb ho);clear hv ho)
  |((with_reducible refine zC (ty:=4) (x:=.tmp 38) ?_);refine zM HM.o.v5 (j:=0) (v:=.bool false) _ rfl rfl rfl (by simp only[NC.row,di.o];rfl) Tryz.underlying4 rfl ?_))
 obtain⟨g10,dK⟩:∃g,w2.heap.size=g:=⟨_,rfl⟩;have iP:w2.heap.size<=g10:=Kb;rw[dK]at ag;try rw[dK]
 clear dK;have HM:=hd (HM.o.call (Kk.drew));have ag:=hd (ag.o.keep (Kk.drew));have av:=hd (av.o.call (Kk.drew));refine jO (S:=fun W'=>jR W' (w.heap.size+1) o) (z:=fun _=>false) Ka ?_;have ac:=hd HM.o.v4;refine Ko 0 13 (.pointer (some ⟨w.heap.size+1+1,3,none⟩)) ac.o ?_;simp only[Act.put,List.getElem_toArray,List.getElem_cons_zero,List.setIfInBounds_toArray,List.set_cons_succ,List.set_cons_zero];refine Ko 2 12 (.pointer (some ⟨w.heap.size+1,3,none⟩)) ac.o ?_;refine kNj ?_;refine Kn 3 11 (.int .i64 o.z) (fun W9 aC=>?_) ac.o ?_
 ·exact kV (j:=3) aC.toR _ rfl rfl rfl Tryz.underlying3 rfl
 refine kNj ?_;refine Ko 5 10 (.pointer (some ⟨w.heap.size+1+1,3,none⟩)) ac.o ?_;refine kNj ?_;refine Ko 7 9 (.pointer (some ⟨w.heap.size+1,3,none⟩)) ac.o ?_;refine kNj ?_;refine Kn 8 8 (.int .i64 o.z) (fun W9 aC=>?_) ac.o ?_
 ·exact kV (j:=3) aC.toR _ rfl rfl rfl Tryz.underlying3 rfl
 refine kNj ?_;refine kB9 (i:=1) (j:=6) (n:=7) Ka rfl rfl (fun K hK=>?_) (fun K hK=>?_)
 ·rw[if_pos Ka];refine zB6 (j:=3) (HM.o.v5.cell 3 (.slice m.K m.nk m.kc) rfl) _ rfl rfl Tryz.underlying24 rfl ?_;refine kNj ?_;refine hK _ _ (fun _=>ac.o) ?_;clear hK K;refine Kn 4 6 (.slice m.K k m.kc) (fun W9 aC=>?_) ac.o ?_
  ·have bD:=td.o;go_simp
  refine kNj ?_;refine Kp 6 5 (fun K hK=>?_);rw[if_pos Ka];refine zB6 (j:=3) (HM.o.v5.cell 3 (.slice m.K m.nk m.kc) rfl) _ rfl rfl Tryz.underlying24 rfl ?_;refine kNj ?_;refine hK _ _ (fun _=>ac.o) ?_;clear hK K;refine Kn 9 4 (.slice D (m.nk-k) (m.kc-k)) (fun W9 aC=>?_) ac.o ?_
  ·have bu:=gA.o;go_simp
  exact kSl
 ·rw[if_pos Ka];refine zB6 (j:=3) (HM.o.v5.cell 3 (.slice m.K m.nk m.kc) rfl) _ rfl rfl Tryz.underlying24 rfl ?_;refine kNj ?_;refine hK _ _ (fun _=>ac.o) ?_;clear hK K;refine Kn 9 6 (.slice D (m.nk-k) (m.kc-k)) (fun W9 aC=>?_) ac.o ?_
  ·have bu:=gA.o;go_simp
  refine kNj ?_;refine Kp 1 5 (fun K hK=>?_);rw[if_pos Ka];refine zB6 (j:=3) (HM.o.v5.cell 3 (.slice m.K m.nk m.kc) rfl) _ rfl rfl Tryz.underlying24 rfl ?_;refine kNj ?_;refine hK _ _ (fun _=>ac.o) ?_;clear hK K;refine Kn 4 4 (.slice m.K k m.kc) (fun W9 aC=>?_) ac.o ?_
  ·have bD:=td.o;go_simp
  exact kSl
