import Derived.Test.YtmglnjmnabjjgaaGreatJUSplE
set_option maxRecDepth 100000
set_option maxHeartbeats 8000000
namespace Go.Proofs.YtmglnjmnabjjgaaGreat
open Go.RowKit
variable {P:Prop}{w:World}{c m:NC}{b mt n:NT}{a:OpP}{q2:List Int}{E:Int}
theorem jP {Q:Prop}(k:Q)(h:Q->P:=by
 intro kk;simp only[Act.put,List.getElem_toArray,List.getElem_cons_succ,List.getElem_cons_zero,List.setIfInBounds_toArray,List.set_cons_succ,List.set_cons_zero];exact kk):P:=h k
theorem kSx (h:P:=by
 have eJ:=hd hbk;try have dW:=hd hin
 try have gM:=hd bn
 try have mg:=hd hgb
 try have j0:=hd hbl
 try have fE:=hd eF
 have HN:=hd hn;have HO:=hd ho;have az:=hd ta;have aR:=hd hm;clear hn ho ta hm hbk;try clear hin
 try clear bn
 try clear hgb
 try clear hbl
 try clear eF
 obtain⟨W0,hW,hst⟩:=jM w c o m;have HW:=hd hW;have HM:=hd hst;clear hW hst;go_enter Tryz.func70,Tryz.ntmps70
 go_upto_region 1 with fail
 rw[HW.o];clear HW;go_wp2_with(first
  |((with_reducible refine zC (ty:=27) (x:=.tmp 14) ?_);refine zE HM.o.v4 (j:=1) (v:=.slice o.Q o.lq o.cq) _ rfl rfl rfl rfl Tryz.underlying27 rfl ?_)
  |(go_at_call 24;refine Calls.mono (zI7 (HO.o.later HM.o.below) az.o eJ.o) ?_;rintro e w2 ⟨A2,l2,c2,rfl,hl2,hc2,hi2,b9⟩;have ak:=hd (show Pth _ w2 A2 l2 c2 q2 w2 from⟨hl2,by have h5:=gM.o;have h6:q2.length=l2:=hl2;omega,hc2,dW.o,hi2,zA5.refl _ _⟩);have iA:=HM.o.v6.lt;have HM:=hd (HM.o.call b9);have br:=HM.o.v6.lt;clear b9 hl2 hc2 hi2;dsimp only)
  |(go_at_call 24;refine Calls.mono (zI7 (HO.o.later HM.o.below) az.o eJ.o) ?_;rintro e w2 ⟨A2,l2,c2,rfl,hl2,hc2,hi2,b9⟩;have HM:=hd (HM.o.call b9);clear b9 hl2 hc2 hi2;dsimp only)
  |((with_reducible refine zC (ty:=26) (x:=.tmp 3) ?_);refine zB zD HM.o.v3 rfl _ rfl rfl rfl ?_)
  |(go_at_call 15;refine Calls.mono (zHl (HN.o.later HM.o.below) ak.o.has mg.o) ?_;rintro e w4 h4;obtain⟨cb,db,us,rfl,htop,hst,b9⟩:=h4.top;have dO:=hd htop;have HB:=hd hst.now;have HM:=hd (HM.o.call b9);have ak:=hd (ak.o.call b9);have od:=HM.o.v6.lt;have og:=b9.size;clear b9 htop hst;dsimp only)
  |((with_reducible refine zF (ty:=26) (x:=.tmp 10) ?_);refine zA zD (r0:=NC.nil.row) (r:=cb.row) (zAr w4).1 rfl rfl cb.one _ _ rfl rfl rfl rfl rfl ?_;intro W5 hv ho;have ac:=hd hv;have HI:=hd (((zA5.refl w2.heap.size w4).call (zAr w4).2).off2 ho Kb);have HB:=hd (HB.o.later2 (zAr w4).2 ho Km);have ak:=hd ((ak.o.call (zAr w4).2).off ho Kb);have HM:=hd ((HM.o.call (zAr w4).2).off Kb ho);clear hv ho)
  |((with_reducible refine zF (ty:=26) (x:=.tmp 6) ?_);refine zA zD (r0:=NC.nil.row) (r:=NC.nil.row) HM.o.v6 rfl rfl NC.nil.one _ _ rfl rfl rfl rfl rfl ?_;intro W7 hv ho;have HM:=hd (HM.o.set6 (a':=NC.nil) hv ho);clear hv ho)
  |((with_reducible refine zC (ty:=4) (x:=.tmp 35) ?_);refine zM ac.o (j:=0) (v:=.bool false) _ rfl rfl rfl (by have h9:=HB.o.lf;rw[j0.o]at h9;simp only[NC.row,<-h9];rfl) Tryz.underlying4 rfl ?_)
  |((with_reducible refine zC (ty:=4) (x:=.tmp 37) ?_);refine zM HM.o.v5 (j:=0) (v:=.bool true) _ rfl rfl rfl (by have h9:=aR.o.lf;rw[fE.o]at h9;simp only[NC.row,<-h9];rfl) Tryz.underlying4 rfl ?_)
  |((with_reducible refine zC (ty:=4) (x:=.tmp 35) ?_);refine zM ac.o (j:=0) (v:=.bool true) _ rfl rfl rfl (by have h9:=HB.o.lf;rw[j0.o]at h9;simp only[NC.row,<-h9];rfl) Tryz.underlying4 rfl ?_)
  |((with_reducible refine zC (ty:=4) (x:=.tmp 37) ?_);refine zM HM.o.v5 (j:=0) (v:=.bool false) _ rfl rfl rfl (by have h9:=aR.o.lf;rw[fE.o]at h9;simp only[NC.row,<-h9];rfl) Tryz.underlying4 rfl ?_)
  |fail)
 exact bodyPost_ret (kU Tryz.results70 _ _ HM.o.v6 rfl) rfl ⟨NC.nil,rfl,fun _ _=>zAb _,HM.o.below⟩):P:=h
theorem zXm {o:OC}{er:Int}(hn:kS w c n)(ho:OkA w o a)(ta:zAf a)(hm:kS w m mt)(hbk:jV a.q=(q2,er))(hne:(er !=0)=true):Calls Tryz.prog 70 #[.agg c.row,.agg o.row,.agg m.row] w (zAm w (zeroT,er)):=by
 exact kSx
theorem kBl {o:OC}(hn:kS w c n)(ho:OkA w o a)(ta:zAf a)(hm:kS w m mt)(hbk:jV a.q=(q2,0))(hin:InI q2)(bn:q2.length<=1000)(hgb:zGm n q2=(b,0))(hbl:b.lf=true)(eF:mt.lf=false):Calls Tryz.prog 70 #[.agg c.row,.agg o.row,.agg m.row] w (zAm w (zeroT,7)):=by
 exact kSx
theorem kBm {o:OC}(hn:kS w c n)(ho:OkA w o a)(ta:zAf a)(hm:kS w m mt)(hbk:jV a.q=(q2,0))(hin:InI q2)(bn:q2.length<=1000)(hgb:zGm n q2=(b,0))(hbl:b.lf=false)(eF:mt.lf=true):Calls Tryz.prog 70 #[.agg c.row,.agg o.row,.agg m.row] w (zAm w (zeroT,7)):=by
 exact kSx
theorem kU8 (h:P:=by
 have eJ:=hd hbk;have dW:=hd hin;have gM:=hd bn;have mg:=hd hgb;have j0:=hd hbl;have fE:=hd eF;have rf:=hd hlb;have HN:=hd hn;have HO:=hd ho;have az:=hd ta;have aR:=hd hm;clear hn ho ta hm hbk hin bn hgb hbl eF hlb;obtain⟨W0,hW,hst⟩:=jM w c o m;have HW:=hd hW;have HM:=hd hst;clear hW hst;go_enter Tryz.func70,Tryz.ntmps70
 go_upto_region 1 with fail
 rw[HW.o];clear HW;go_upto_region 9 with(first
  |((with_reducible refine zC (ty:=27) (x:=.tmp 14) ?_);refine zE HM.o.v4 (j:=1) (v:=.slice o.Q o.lq o.cq) _ rfl rfl rfl rfl Tryz.underlying27 rfl ?_)
  |(go_at_call 24;refine Calls.mono (zI7 (HO.o.later HM.o.below) az.o eJ.o) ?_;rintro e w2 ⟨A2,l2,c2,rfl,hl2,hc2,hi2,b9⟩;have ak:=hd (show Pth _ w2 A2 l2 c2 q2 w2 from⟨hl2,by have h5:=gM.o;have h6:q2.length=l2:=hl2;omega,hc2,dW.o,hi2,zA5.refl _ _⟩);have iA:=HM.o.v6.lt;have HM:=hd (HM.o.call b9);have br:=HM.o.v6.lt;clear b9 hl2 hc2 hi2;dsimp only)
  |((with_reducible refine zC (ty:=26) (x:=.tmp 3) ?_);refine zB zD HM.o.v3 rfl _ rfl rfl rfl ?_)
  |(go_at_call 15;refine Calls.mono (zHl (HN.o.later HM.o.below) ak.o.has mg.o) ?_;rintro e w4 h4;obtain⟨cb,db,us,rfl,htop,hst,b9⟩:=h4.top;have dO:=hd htop;have HB:=hd hst.now;have HM:=hd (HM.o.call b9);have ak:=hd (ak.o.call b9);have od:=HM.o.v6.lt;have og:=b9.size;clear b9 htop hst;dsimp only)
  |((with_reducible refine zF (ty:=26) (x:=.tmp 10) ?_);refine zA zD (r0:=NC.nil.row) (r:=cb.row) (zAr w4).1 rfl rfl cb.one _ _ rfl rfl rfl rfl rfl ?_;intro W5 hv ho;have ac:=hd hv;have HI:=hd (((zA5.refl w2.heap.size w4).call (zAr w4).2).off2 ho Kb);have HB:=hd (HB.o.later2 (zAr w4).2 ho Km);have ak:=hd ((ak.o.call (zAr w4).2).off ho Kb);have HM:=hd ((HM.o.call (zAr w4).2).off Kb ho);clear hv ho)
  |((with_reducible refine zC (ty:=4) (x:=.tmp 35) ?_);refine zM ac.o (j:=0) (v:=.bool false) _ rfl rfl rfl (by have h9:=HB.o.lf;rw[j0.o]at h9;simp only[NC.row,<-h9];rfl) Tryz.underlying4 rfl ?_)
  |((with_reducible refine zC (ty:=4) (x:=.tmp 37) ?_);refine zM HM.o.v5 (j:=0) (v:=.bool false) _ rfl rfl rfl (by have h9:=aR.o.lf;rw[fE.o]at h9;simp only[NC.row,<-h9];rfl) Tryz.underlying4 rfl ?_)
  |((with_reducible refine zC (ty:=4) (x:=.tmp 35) ?_);refine zM ac.o (j:=0) (v:=.bool true) _ rfl rfl rfl (by have h9:=HB.o.lf;rw[j0.o]at h9;simp only[NC.row,<-h9];rfl) Tryz.underlying4 rfl ?_)
  |((with_reducible refine zC (ty:=4) (x:=.tmp 37) ?_);refine zM HM.o.v5 (j:=0) (v:=.bool true) _ rfl rfl rfl (by have h9:=aR.o.lf;rw[fE.o]at h9;simp only[NC.row,<-h9];rfl) Tryz.underlying4 rfl ?_)
  |fail)
 obtain⟨g10,aS⟩:∃g,w4.heap.size=g:=⟨_,rfl⟩;have cW:w4.heap.size<=g10:=Kb;rw[aS]at ac;try rw[aS]
 clear aS;have HM:=hd (HM.o.call (Kl.drew));have ac:=hd (ac.o.keep (Kl.drew));have ak:=hd (ak.o.call (Kl.drew));have HI:=hd (HI.o.call (Kl.drew));have HB:=hd (HB.o.later (Kl.drew));refine jO (S:=fun W'=>jR W' (w.heap.size+1) o/\jT 26 W' g10 cb.row) (z:=fun _=>false) Ka ?_;have aa:=hd (And.intro HM.o.v4 ac.o);refine Kp 0 5 (.pointer (some ⟨w.heap.size+1,3,none⟩)) aa.o ?_;simp only[Act.put,List.getElem_toArray,List.getElem_cons_zero,List.setIfInBounds_toArray,List.set_cons_succ,List.set_cons_zero];refine Ko 1 4 (.int .i64 o.z) (fun W9 ag=>?_) aa.o ?_
 ·exact kV (j:=3) ag.1.toR _ rfl rfl rfl Tryz.underlying3 rfl
 refine jP ?_;refine Ko 2 3 (.agg cb.row) (fun W9 ag=>?_) aa.o ?_
 ·exact zS zD ag.2 rfl _ rfl rfl
 refine jP ?_;refine Kq 3 2 (fun K hK=>?_);rw[if_pos Ka];go_simp;go_at_call 102
 refine(zDu (c:=cb) HB.o rf.o).mono ?_;rintro e w5 ⟨rfl,b9⟩;have HM:=hd (HM.o.call b9);have ac:=hd (ac.o.keep b9);have ak:=hd (ak.o.call b9);have HI:=hd (HI.o.call b9);clear b9 aa;have aa:=hd (And.intro HM.o.v4 ac.o);refine hK _ _ (fun _=>aa.o) ?_;clear hK K;refine Kp 4 1 (.bool true) aa.o ?_;refine jP ?_;refine Kq 5 0 (fun K hK=>?_);rw[if_pos Ka];go_simp;refine hK _ _ (fun _=>aa.o) (zAl Ka ?_);clear hK K aa;go_wp2_with(first
  |((with_reducible refine zF (ty:=26) (x:=.tmp 6) ?_);refine zA zD (r0:=NC.nil.row) (r:=NC.nil.row) HM.o.v6 rfl rfl NC.nil.one _ _ rfl rfl rfl rfl rfl ?_;intro W7 hv ho;have HM:=hd (HM.o.set6 (a':=NC.nil) hv ho);clear hv ho)
  |fail)
 exact bodyPost_ret (kU Tryz.results70 _ _ HM.o.v6 rfl) rfl ⟨NC.nil,rfl,fun _ _=>zAb _,HM.o.below⟩):P:=h
theorem kE1 {o:OC}(hn:kS w c n)(ho:OkA w o a)(ta:zAf a)(hm:kS w m mt)(hbk:jV a.q=(q2,0))(hin:InI q2)(bn:q2.length<=1000)(hgb:zGm n q2=(b,0))(hbl:b.lf=true)(eF:mt.lf=true)(hlb:zXd b=E)(_z1:(o.z==E)=false)(z2:(o.z !=E)=true):Calls Tryz.prog 70 #[.agg c.row,.agg o.row,.agg m.row] w (zAm w (zeroT,8)):=by
 exact kU8
theorem kU9 (h:P:=by
 have eJ:=hd hbk;have dW:=hd hin;have gM:=hd bn;have mg:=hd hgb;have j0:=hd hbl;have fE:=hd eF;have rf:=hd hlb;have nG:=hd hop;have HN:=hd hn;have HO:=hd ho;have az:=hd ta;have aR:=hd hm;clear hn ho ta hm hbk hin bn hgb hbl eF hlb hop;obtain⟨W0,hW,hst⟩:=jM w c o m;have HW:=hd hW;have HM:=hd hst;clear hW hst;go_enter Tryz.func70,Tryz.ntmps70
 go_upto_region 1 with fail
 rw[HW.o];clear HW;go_upto_region 9 with(first
  |((with_reducible refine zC (ty:=27) (x:=.tmp 14) ?_);refine zE HM.o.v4 (j:=1) (v:=.slice o.Q o.lq o.cq) _ rfl rfl rfl rfl Tryz.underlying27 rfl ?_)
  |(go_at_call 24;refine Calls.mono (zI7 (HO.o.later HM.o.below) az.o eJ.o) ?_;rintro e w2 ⟨A2,l2,c2,rfl,hl2,hc2,hi2,b9⟩;have ak:=hd (show Pth _ w2 A2 l2 c2 q2 w2 from⟨hl2,by have h5:=gM.o;have h6:q2.length=l2:=hl2;omega,hc2,dW.o,hi2,zA5.refl _ _⟩);have iA:=HM.o.v6.lt;have HM:=hd (HM.o.call b9);have br:=HM.o.v6.lt;clear b9 hl2 hc2 hi2;dsimp only)
  |((with_reducible refine zC (ty:=26) (x:=.tmp 3) ?_);refine zB zD HM.o.v3 rfl _ rfl rfl rfl ?_)
  |(go_at_call 15;refine Calls.mono (zHl (HN.o.later HM.o.below) ak.o.has mg.o) ?_;rintro e w4 h4;obtain⟨cb,db,us,rfl,htop,hst,b9⟩:=h4.top;have dO:=hd htop;have HB:=hd hst.now;have HM:=hd (HM.o.call b9);have ak:=hd (ak.o.call b9);have od:=HM.o.v6.lt;have og:=b9.size;clear b9 htop hst;dsimp only)
  |((with_reducible refine zF (ty:=26) (x:=.tmp 10) ?_);refine zA zD (r0:=NC.nil.row) (r:=cb.row) (zAr w4).1 rfl rfl cb.one _ _ rfl rfl rfl rfl rfl ?_;intro W5 hv ho;have ac:=hd hv;have HI:=hd (((zA5.refl w2.heap.size w4).call (zAr w4).2).off2 ho Kb);have HB:=hd (HB.o.later2 (zAr w4).2 ho Km);have ak:=hd ((ak.o.call (zAr w4).2).off ho Kb);have HM:=hd ((HM.o.call (zAr w4).2).off Kb ho);clear hv ho)
  |((with_reducible refine zC (ty:=4) (x:=.tmp 35) ?_);refine zM ac.o (j:=0) (v:=.bool false) _ rfl rfl rfl (by have h9:=HB.o.lf;rw[j0.o]at h9;simp only[NC.row,<-h9];rfl) Tryz.underlying4 rfl ?_)
  |((with_reducible refine zC (ty:=4) (x:=.tmp 37) ?_);refine zM HM.o.v5 (j:=0) (v:=.bool false) _ rfl rfl rfl (by have h9:=aR.o.lf;rw[fE.o]at h9;simp only[NC.row,<-h9];rfl) Tryz.underlying4 rfl ?_)
  |((with_reducible refine zC (ty:=4) (x:=.tmp 35) ?_);refine zM ac.o (j:=0) (v:=.bool true) _ rfl rfl rfl (by have h9:=HB.o.lf;rw[j0.o]at h9;simp only[NC.row,<-h9];rfl) Tryz.underlying4 rfl ?_)
  |((with_reducible refine zC (ty:=4) (x:=.tmp 37) ?_);refine zM HM.o.v5 (j:=0) (v:=.bool true) _ rfl rfl rfl (by have h9:=aR.o.lf;rw[fE.o]at h9;simp only[NC.row,<-h9];rfl) Tryz.underlying4 rfl ?_)
  |fail)
 obtain⟨g10,aS⟩:∃g,w4.heap.size=g:=⟨_,rfl⟩;have cW:w4.heap.size<=g10:=Kb;rw[aS]at ac;try rw[aS]
 clear aS;have HM:=hd (HM.o.call (Kl.drew));have ac:=hd (ac.o.keep (Kl.drew));have ak:=hd (ak.o.call (Kl.drew));have HI:=hd (HI.o.call (Kl.drew));have HB:=hd (HB.o.later (Kl.drew));refine jO (S:=fun W'=>jR W' (w.heap.size+1) o/\jT 26 W' g10 cb.row) (z:=fun _=>false) Ka ?_;have aa:=hd (And.intro HM.o.v4 ac.o);refine Kp 0 5 (.pointer (some ⟨w.heap.size+1,3,none⟩)) aa.o ?_;simp only[Act.put,List.getElem_toArray,List.getElem_cons_zero,List.setIfInBounds_toArray,List.set_cons_succ,List.set_cons_zero];refine Ko 1 4 (.int .i64 o.z) (fun W9 ag=>?_) aa.o ?_
 ·exact kV (j:=3) ag.1.toR _ rfl rfl rfl Tryz.underlying3 rfl
 refine jP ?_;refine Ko 2 3 (.agg cb.row) (fun W9 ag=>?_) aa.o ?_
 ·exact zS zD ag.2 rfl _ rfl rfl
 refine jP ?_;refine Kq 3 2 (fun K hK=>?_);rw[if_pos Ka];go_simp;go_at_call 102
 refine(zDu (c:=cb) HB.o rf.o).mono ?_;rintro e w5 ⟨rfl,b9⟩;have HM:=hd (HM.o.call b9);have ac:=hd (ac.o.keep b9);have ak:=hd (ak.o.call b9);have HI:=hd (HI.o.call b9);clear b9 aa;have aa:=hd (And.intro HM.o.v4 ac.o);refine hK _ _ (fun _=>aa.o) ?_;clear hK K;refine Kp 4 1 (.bool false) aa.o ?_;refine jP ?_;refine Kq 5 0 (fun K hK=>?_);rw[if_pos Ka];go_simp;refine hK _ _ (fun _=>aa.o) (zAl Ka ?_);clear hK K aa;go_wp2_with(first
  |((with_reducible refine zC (ty:=22) (x:=.tmp 49) ?_);refine zE HM.o.v4 (j:=8) (v:=.slice o.O o.no o.co) _ rfl rfl rfl rfl Tryz.underlying22 rfl ?_)
  |((with_reducible refine zC (ty:=22) (x:=.tmp 51) ?_);refine zM HM.o.v5 (j:=1) (v:=.slice m.P m.np m.pc) _ rfl rfl rfl rfl Tryz.underlying22 rfl ?_)
  |(go_at_call 103;refine Calls.mono (zLd (aR.o.later HM.o.below) (HO.o.later HM.o.below) nG.o) ?_;rintro e w6 ⟨rfl,b9⟩;have HM:=hd (HM.o.call b9);have ac:=hd (ac.o.keep b9);have ak:=hd (ak.o.call b9);have HI:=hd (HI.o.call b9);clear b9)
  |((with_reducible refine zF (ty:=26) (x:=.tmp 6) ?_);refine zA zD (r0:=NC.nil.row) (r:=NC.nil.row) HM.o.v6 rfl rfl NC.nil.one _ _ rfl rfl rfl rfl rfl ?_;intro W7 hv ho;have HM:=hd (HM.o.set6 (a':=NC.nil) hv ho);clear hv ho)
  |fail)
 exact bodyPost_ret (kU Tryz.results70 _ _ HM.o.v6 rfl) rfl ⟨NC.nil,rfl,fun _ _=>zAb _,HM.o.below⟩):P:=h
theorem kE2 {o:OC}(hn:kS w c n)(ho:OkA w o a)(ta:zAf a)(hm:kS w m mt)(hbk:jV a.q=(q2,0))(hin:InI q2)(bn:q2.length<=1000)(hgb:zGm n q2=(b,0))(hbl:b.lf=true)(eF:mt.lf=true)(hlb:zXd b=E)(_z1:(o.z==E)=true)(z2:(o.z !=E)=false)(hop:decide (a.o=mt.ps)=false):Calls Tryz.prog 70 #[.agg c.row,.agg o.row,.agg m.row] w (zAm w (zeroT,9)):=by
 exact kU9
theorem kE3 {o:OC}(hn:kS w c n)(ho:OkA w o a)(ta:zAf a)(hm:kS w m mt)(hbk:jV a.q=(q2,0))(hin:InI q2)(bn:q2.length<=1000)(hgb:zGm n q2=(b,0))(hbl:b.lf=false)(eF:mt.lf=false)(hlb:zXd b=E)(_z1:(o.z==E)=false)(z2:(o.z !=E)=true):Calls Tryz.prog 70 #[.agg c.row,.agg o.row,.agg m.row] w (zAm w (zeroT,8)):=by
 exact kU8
theorem kE4 {o:OC}(hn:kS w c n)(ho:OkA w o a)(ta:zAf a)(hm:kS w m mt)(hbk:jV a.q=(q2,0))(hin:InI q2)(bn:q2.length<=1000)(hgb:zGm n q2=(b,0))(hbl:b.lf=false)(eF:mt.lf=false)(hlb:zXd b=E)(_z1:(o.z==E)=true)(z2:(o.z !=E)=false)(hop:decide (a.o=mt.ps)=false):Calls Tryz.prog 70 #[.agg c.row,.agg o.row,.agg m.row] w (zAm w (zeroT,9)):=by
 exact kU9
