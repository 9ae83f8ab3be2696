import Derived.Test.YtmglnjmnabjjgaaGreatJUSplE
set_option maxRecDepth 100000
set_option maxHeartbeats 8000000
namespace Go.Proofs.YtmglnjmnabjjgaaGreat
open Go.RowKit
variable {P:Prop}{w:World}{c m:NC}{b mt n:NT}{a:OpP}{q2:List Int}{E:Int}
theorem jP {Q:Prop}(k:Q)(h:Q->P:=by
 intro kk;simp only[Act.put,List.getElem_toArray,List.getElem_cons_succ,List.getElem_cons_zero,List.setIfInBounds_toArray,List.set_cons_succ,List.set_cons_zero];exact kk):P:=h k
theorem kRj (h:P:=by
 have eZ:=hd hbk;try have fA:=hd hin
 try have fT:=hd bO
 try have gV:=hd hgb
 try have gm:=hd hbl
 try have dO:=hd cV
 have HN:=hd hn;have HO:=hd ho;have aw:=hd ta;have aF:=hd hm;clear hn ho ta hm hbk;try clear hin
 try clear bO
 try clear hgb
 try clear hbl
 try clear cV
 obtain⟨W0,hW,hst⟩:=jM w c o m;have HW:=hd hW;have HM:=hd hst;clear hW hst;go_enter Tryz.func70,Tryz.ntmps70
 go_upto_region 1 with fail
 rw[HW.o];clear HW;go_wp2_with(first
  |((with_reducible refine zC (ty:=27) (x:=.tmp 14) ?_);refine zE HM.o.v4 (j:=1) (v:=.slice o.Q o.lq o.cq) _ rfl rfl rfl rfl Tryz.underlying27 rfl ?_)
  |(go_at_call 24;refine Calls.mono (zI7 (HO.o.later HM.o.below) aw.o eZ.o) ?_;rintro e w2 ⟨A2,l2,c2,rfl,hl2,hc2,hi2,b9⟩;have au:=hd (show Pth _ w2 A2 l2 c2 q2 w2 from⟨hl2,by have h5:=fT.o;have h6:q2.length=l2:=hl2;omega,hc2,fA.o,hi2,zA5.refl _ _⟩);have f9:=HM.o.v6.lt;have HM:=hd (HM.o.call b9);have bY:=HM.o.v6.lt;clear b9 hl2 hc2 hi2;dsimp only)
  |(go_at_call 24;refine Calls.mono (zI7 (HO.o.later HM.o.below) aw.o eZ.o) ?_;rintro e w2 ⟨A2,l2,c2,rfl,hl2,hc2,hi2,b9⟩;have HM:=hd (HM.o.call b9);clear b9 hl2 hc2 hi2;dsimp only)
  |((with_reducible refine zC (ty:=26) (x:=.tmp 3) ?_);refine zB zD HM.o.v3 rfl _ rfl rfl rfl ?_)
  |(go_at_call 15;refine Calls.mono (zHl (HN.o.later HM.o.below) au.o.has gV.o) ?_;rintro e w4 h4;obtain⟨cb,db,us,rfl,htop,hst,b9⟩:=h4.top;have cG:=hd htop;have HB:=hd hst.now;have HM:=hd (HM.o.call b9);have au:=hd (au.o.call b9);have jr:=HM.o.v6.lt;have js:=b9.size;clear b9 htop hst;dsimp only)
  |((with_reducible refine zF (ty:=26) (x:=.tmp 10) ?_);refine zA zD (r0:=NC.nil.row) (r:=cb.row) (zAr w4).1 rfl rfl cb.one _ _ rfl rfl rfl rfl rfl ?_;intro W5 hv ho;have ae:=hd hv;have HI:=hd (((zA5.refl w2.heap.size w4).call (zAr w4).2).off2 ho Kb);have HB:=hd (HB.o.later2 (zAr w4).2 ho Kl);have au:=hd ((au.o.call (zAr w4).2).off ho Kb);have HM:=hd ((HM.o.call (zAr w4).2).off Kb ho);clear hv ho)
  |((with_reducible refine zF (ty:=26) (x:=.tmp 6) ?_);refine zA zD (r0:=NC.nil.row) (r:=NC.nil.row) HM.o.v6 rfl rfl NC.nil.one _ _ rfl rfl rfl rfl rfl ?_;intro W7 hv ho;have HM:=hd (HM.o.set6 (a':=NC.nil) hv ho);clear hv ho)
  |((with_reducible refine zC (ty:=4) (x:=.tmp 35) ?_);refine zM ae.o (j:=0) (v:=.bool false) _ rfl rfl rfl (by have h9:=HB.o.lf;rw[gm.o]at h9;simp only[NC.row,<-h9];rfl) Tryz.underlying4 rfl ?_)
  |((with_reducible refine zC (ty:=4) (x:=.tmp 37) ?_);refine zM HM.o.v5 (j:=0) (v:=.bool true) _ rfl rfl rfl (by have h9:=aF.o.lf;rw[dO.o]at h9;simp only[NC.row,<-h9];rfl) Tryz.underlying4 rfl ?_)
  |((with_reducible refine zC (ty:=4) (x:=.tmp 35) ?_);refine zM ae.o (j:=0) (v:=.bool true) _ rfl rfl rfl (by have h9:=HB.o.lf;rw[gm.o]at h9;simp only[NC.row,<-h9];rfl) Tryz.underlying4 rfl ?_)
  |((with_reducible refine zC (ty:=4) (x:=.tmp 37) ?_);refine zM HM.o.v5 (j:=0) (v:=.bool false) _ rfl rfl rfl (by have h9:=aF.o.lf;rw[dO.o]at h9;simp only[NC.row,<-h9];rfl) Tryz.underlying4 rfl ?_)
  |fail)
 exact bodyPost_ret (kU Tryz.results70 _ _ HM.o.v6 rfl) rfl ⟨NC.nil,rfl,fun _ _=>zAb _,HM.o.below⟩):P:=h
theorem zXm {o:OC}{er:Int}(hn:kS w c n)(ho:OkA w o a)(ta:zAf a)(hm:kS w m mt)(hbk:jV a.q=(q2,er))(hne:(er !=0)=true):Calls Tryz.prog 70 #[.agg c.row,.agg o.row,.agg m.row] w (zAm w (zeroT,er)):=by
 exact kRj
theorem kBl {o:OC}(hn:kS w c n)(ho:OkA w o a)(ta:zAf a)(hm:kS w m mt)(hbk:jV a.q=(q2,0))(hin:InI q2)(bO:q2.length<=1000)(hgb:zGm n q2=(b,0))(hbl:b.lf=true)(cV:mt.lf=false):Calls Tryz.prog 70 #[.agg c.row,.agg o.row,.agg m.row] w (zAm w (zeroT,7)):=by
 exact kRj
theorem kBm {o:OC}(hn:kS w c n)(ho:OkA w o a)(ta:zAf a)(hm:kS w m mt)(hbk:jV a.q=(q2,0))(hin:InI q2)(bO:q2.length<=1000)(hgb:zGm n q2=(b,0))(hbl:b.lf=false)(cV:mt.lf=true):Calls Tryz.prog 70 #[.agg c.row,.agg o.row,.agg m.row] w (zAm w (zeroT,7)):=by
 exact kRj
theorem kTm (h:P:=by
 have eZ:=hd hbk;have fA:=hd hin;have fT:=hd bO;have gV:=hd hgb;have gm:=hd hbl;have dO:=hd cV;have iu:=hd hlb;have HN:=hd hn;have HO:=hd ho;have aw:=hd ta;have aF:=hd hm;clear hn ho ta hm hbk hin bO hgb hbl cV hlb;obtain⟨W0,hW,hst⟩:=jM w c o m;have HW:=hd hW;have HM:=hd hst;clear hW hst;go_enter Tryz.func70,Tryz.ntmps70
 go_upto_region 1 with fail
 rw[HW.o];clear HW;go_upto_region 9 with(first
  |((with_reducible refine zC (ty:=27) (x:=.tmp 14) ?_);refine zE HM.o.v4 (j:=1) (v:=.slice o.Q o.lq o.cq) _ rfl rfl rfl rfl Tryz.underlying27 rfl ?_)
  |(go_at_call 24;refine Calls.mono (zI7 (HO.o.later HM.o.below) aw.o eZ.o) ?_;rintro e w2 ⟨A2,l2,c2,rfl,hl2,hc2,hi2,b9⟩;have au:=hd (show Pth _ w2 A2 l2 c2 q2 w2 from⟨hl2,by have h5:=fT.o;have h6:q2.length=l2:=hl2;omega,hc2,fA.o,hi2,zA5.refl _ _⟩);have f9:=HM.o.v6.lt;have HM:=hd (HM.o.call b9);have bY:=HM.o.v6.lt;clear b9 hl2 hc2 hi2;dsimp only)
  |((with_reducible refine zC (ty:=26) (x:=.tmp 3) ?_);refine zB zD HM.o.v3 rfl _ rfl rfl rfl ?_)
  |(go_at_call 15;refine Calls.mono (zHl (HN.o.later HM.o.below) au.o.has gV.o) ?_;rintro e w4 h4;obtain⟨cb,db,us,rfl,htop,hst,b9⟩:=h4.top;have cG:=hd htop;have HB:=hd hst.now;have HM:=hd (HM.o.call b9);have au:=hd (au.o.call b9);have jr:=HM.o.v6.lt;have js:=b9.size;clear b9 htop hst;dsimp only)
  |((with_reducible refine zF (ty:=26) (x:=.tmp 10) ?_);refine zA zD (r0:=NC.nil.row) (r:=cb.row) (zAr w4).1 rfl rfl cb.one _ _ rfl rfl rfl rfl rfl ?_;intro W5 hv ho;have ae:=hd hv;have HI:=hd (((zA5.refl w2.heap.size w4).call (zAr w4).2).off2 ho Kb);have HB:=hd (HB.o.later2 (zAr w4).2 ho Kl);have au:=hd ((au.o.call (zAr w4).2).off ho Kb);have HM:=hd ((HM.o.call (zAr w4).2).off Kb ho);clear hv ho)
  |((with_reducible refine zC (ty:=4) (x:=.tmp 35) ?_);refine zM ae.o (j:=0) (v:=.bool false) _ rfl rfl rfl (by have h9:=HB.o.lf;rw[gm.o]at h9;simp only[NC.row,<-h9];rfl) Tryz.underlying4 rfl ?_)
  |((with_reducible refine zC (ty:=4) (x:=.tmp 37) ?_);refine zM HM.o.v5 (j:=0) (v:=.bool false) _ rfl rfl rfl (by have h9:=aF.o.lf;rw[dO.o]at h9;simp only[NC.row,<-h9];rfl) Tryz.underlying4 rfl ?_)
  |((with_reducible refine zC (ty:=4) (x:=.tmp 35) ?_);refine zM ae.o (j:=0) (v:=.bool true) _ rfl rfl rfl (by have h9:=HB.o.lf;rw[gm.o]at h9;simp only[NC.row,<-h9];rfl) Tryz.underlying4 rfl ?_)
  |((with_reducible refine zC (ty:=4) (x:=.tmp 37) ?_);refine zM HM.o.v5 (j:=0) (v:=.bool true) _ rfl rfl rfl (by have h9:=aF.o.lf;rw[dO.o]at h9;simp only[NC.row,<-h9];rfl) Tryz.underlying4 rfl ?_)
  |fail)
 obtain⟨g10,aG⟩:∃g,w4.heap.size=g:=⟨_,rfl⟩;have bS:w4.heap.size<=g10:=Kb;rw[aG]at ae;try rw[aG]
 clear aG;have HM:=hd (HM.o.call (Kk.drew));have ae:=hd (ae.o.keep (Kk.drew));have au:=hd (au.o.call (Kk.drew));have HI:=hd (HI.o.call (Kk.drew));have HB:=hd (HB.o.later (Kk.drew));refine jO (S:=fun W'=>jR W' (w.heap.size+1) o/\jT 26 W' g10 cb.row) (z:=fun _=>false) Ka ?_;have aa:=hd (And.intro HM.o.v4 ae.o);refine Ko 0 5 (.pointer (some ⟨w.heap.size+1,3,none⟩)) aa.o ?_;simp only[Act.put,List.getElem_toArray,List.getElem_cons_zero,List.setIfInBounds_toArray,List.set_cons_succ,List.set_cons_zero];refine Kn 1 4 (.int .i64 o.z) (fun W9 aj=>?_) aa.o ?_
 ·exact kV (j:=3) aj.1.toR _ rfl rfl rfl Tryz.underlying3 rfl
 refine jP ?_;refine Kn 2 3 (.agg cb.row) (fun W9 aj=>?_) aa.o ?_
 ·exact zS zD aj.2 rfl _ rfl rfl
 refine jP ?_;refine Kp 3 2 (fun K hK=>?_);rw[if_pos Ka];go_simp;go_at_call 102
 refine(zDu (c:=cb) HB.o iu.o).mono ?_;rintro e w5 ⟨rfl,b9⟩;have HM:=hd (HM.o.call b9);have ae:=hd (ae.o.keep b9);have au:=hd (au.o.call b9);have HI:=hd (HI.o.call b9);clear b9 aa;have aa:=hd (And.intro HM.o.v4 ae.o);refine hK _ _ (fun _=>aa.o) ?_;clear hK K;refine Ko 4 1 (.bool true) aa.o ?_;refine jP ?_;refine Kp 5 0 (fun K hK=>?_);rw[if_pos Ka];go_simp;refine hK _ _ (fun _=>aa.o) (zAl Ka ?_);clear hK K aa;go_wp2_with(first
  |((with_reducible refine zF (ty:=26) (x:=.tmp 6) ?_);refine zA zD (r0:=NC.nil.row) (r:=NC.nil.row) HM.o.v6 rfl rfl NC.nil.one _ _ rfl rfl rfl rfl rfl ?_;intro W7 hv ho;have HM:=hd (HM.o.set6 (a':=NC.nil) hv ho);clear hv ho)
  |fail)
 exact bodyPost_ret (kU Tryz.results70 _ _ HM.o.v6 rfl) rfl ⟨NC.nil,rfl,fun _ _=>zAb _,HM.o.below⟩):P:=h
theorem kE1 {o:OC}(hn:kS w c n)(ho:OkA w o a)(ta:zAf a)(hm:kS w m mt)(hbk:jV a.q=(q2,0))(hin:InI q2)(bO:q2.length<=1000)(hgb:zGm n q2=(b,0))(hbl:b.lf=true)(cV:mt.lf=true)(hlb:zXd b=E)(_z1:(o.z==E)=false)(z2:(o.z !=E)=true):Calls Tryz.prog 70 #[.agg c.row,.agg o.row,.agg m.row] w (zAm w (zeroT,8)):=by
 exact kTm
theorem kTn (h:P:=by
 have eZ:=hd hbk;have fA:=hd hin;have fT:=hd bO;have gV:=hd hgb;have gm:=hd hbl;have dO:=hd cV;have iu:=hd hlb;have iX:=hd hop;have HN:=hd hn;have HO:=hd ho;have aw:=hd ta;have aF:=hd hm;clear hn ho ta hm hbk hin bO hgb hbl cV hlb hop;obtain⟨W0,hW,hst⟩:=jM w c o m;have HW:=hd hW;have HM:=hd hst;clear hW hst;go_enter Tryz.func70,Tryz.ntmps70
 go_upto_region 1 with fail
 rw[HW.o];clear HW;go_upto_region 9 with(first
  |((with_reducible refine zC (ty:=27) (x:=.tmp 14) ?_);refine zE HM.o.v4 (j:=1) (v:=.slice o.Q o.lq o.cq) _ rfl rfl rfl rfl Tryz.underlying27 rfl ?_)
  |(go_at_call 24;refine Calls.mono (zI7 (HO.o.later HM.o.below) aw.o eZ.o) ?_;rintro e w2 ⟨A2,l2,c2,rfl,hl2,hc2,hi2,b9⟩;have au:=hd (show Pth _ w2 A2 l2 c2 q2 w2 from⟨hl2,by have h5:=fT.o;have h6:q2.length=l2:=hl2;omega,hc2,fA.o,hi2,zA5.refl _ _⟩);have f9:=HM.o.v6.lt;have HM:=hd (HM.o.call b9);have bY:=HM.o.v6.lt;clear b9 hl2 hc2 hi2;dsimp only)
  |((with_reducible refine zC (ty:=26) (x:=.tmp 3) ?_);refine zB zD HM.o.v3 rfl _ rfl rfl rfl ?_)
  |(go_at_call 15;refine Calls.mono (zHl (HN.o.later HM.o.below) au.o.has gV.o) ?_;rintro e w4 h4;obtain⟨cb,db,us,rfl,htop,hst,b9⟩:=h4.top;have cG:=hd htop;have HB:=hd hst.now;have HM:=hd (HM.o.call b9);have au:=hd (au.o.call b9);have jr:=HM.o.v6.lt;have js:=b9.size;clear b9 htop hst;dsimp only)
  |((with_reducible refine zF (ty:=26) (x:=.tmp 10) ?_);refine zA zD (r0:=NC.nil.row) (r:=cb.row) (zAr w4).1 rfl rfl cb.one _ _ rfl rfl rfl rfl rfl ?_;intro W5 hv ho;have ae:=hd hv;have HI:=hd (((zA5.refl w2.heap.size w4).call (zAr w4).2).off2 ho Kb);have HB:=hd (HB.o.later2 (zAr w4).2 ho Kl);have au:=hd ((au.o.call (zAr w4).2).off ho Kb);have HM:=hd ((HM.o.call (zAr w4).2).off Kb ho);clear hv ho)
  |((with_reducible refine zC (ty:=4) (x:=.tmp 35) ?_);refine zM ae.o (j:=0) (v:=.bool false) _ rfl rfl rfl (by have h9:=HB.o.lf;rw[gm.o]at h9;simp only[NC.row,<-h9];rfl) Tryz.underlying4 rfl ?_)
  |((with_reducible refine zC (ty:=4) (x:=.tmp 37) ?_);refine zM HM.o.v5 (j:=0) (v:=.bool false) _ rfl rfl rfl (by have h9:=aF.o.lf;rw[dO.o]at h9;simp only[NC.row,<-h9];rfl) Tryz.underlying4 rfl ?_)
  |((with_reducible refine zC (ty:=4) (x:=.tmp 35) ?_);refine zM ae.o (j:=0) (v:=.bool true) _ rfl rfl rfl (by have h9:=HB.o.lf;rw[gm.o]at h9;simp only[NC.row,<-h9];rfl) Tryz.underlying4 rfl ?_)
  |((with_reducible refine zC (ty:=4) (x:=.tmp 37) ?_);refine zM HM.o.v5 (j:=0) (v:=.bool true) _ rfl rfl rfl (by have h9:=aF.o.lf;rw[dO.o]at h9;simp only[NC.row,<-h9];rfl) Tryz.underlying4 rfl ?_)
  |fail)
 obtain⟨g10,aG⟩:∃g,w4.heap.size=g:=⟨_,rfl⟩;have bS:w4.heap.size<=g10:=Kb;rw[aG]at ae;try rw[aG]
 clear aG;have HM:=hd (HM.o.call (Kk.drew));have ae:=hd (ae.o.keep (Kk.drew));have au:=hd (au.o.call (Kk.drew));have HI:=hd (HI.o.call (Kk.drew));have HB:=hd (HB.o.later (Kk.drew));refine jO (S:=fun W'=>jR W' (w.heap.size+1) o/\jT 26 W' g10 cb.row) (z:=fun _=>false) Ka ?_;have aa:=hd (And.intro HM.o.v4 ae.o);refine Ko 0 5 (.pointer (some ⟨w.heap.size+1,3,none⟩)) aa.o ?_;simp only[Act.put,List.getElem_toArray,List.getElem_cons_zero,List.setIfInBounds_toArray,List.set_cons_succ,List.set_cons_zero];refine Kn 1 4 (.int .i64 o.z) (fun W9 aj=>?_) aa.o ?_
 ·exact kV (j:=3) aj.1.toR _ rfl rfl rfl Tryz.underlying3 rfl
 refine jP ?_;refine Kn 2 3 (.agg cb.row) (fun W9 aj=>?_) aa.o ?_
 ·exact zS zD aj.2 rfl _ rfl rfl
 refine jP ?_;refine Kp 3 2 (fun K hK=>?_);rw[if_pos Ka];go_simp;go_at_call 102
 refine(zDu (c:=cb) HB.o iu.o).mono ?_;rintro e w5 ⟨rfl,b9⟩;have HM:=hd (HM.o.call b9);have ae:=hd (ae.o.keep b9);have au:=hd (au.o.call b9);have HI:=hd (HI.o.call b9);clear b9 aa;have aa:=hd (And.intro HM.o.v4 ae.o);refine hK _ _ (fun _=>aa.o) ?_;clear hK K;refine Ko 4 1 (.bool false) aa.o ?_;refine jP ?_;refine Kp 5 0 (fun K hK=>?_);rw[if_pos Ka];go_simp;refine hK _ _ (fun _=>aa.o) (zAl Ka ?_);clear hK K aa;go_wp2_with(first
  |((with_reducible refine zC (ty:=22) (x:=.tmp 49) ?_);refine zE HM.o.v4 (j:=8) (v:=.slice o.O o.no o.co) _ rfl rfl rfl rfl Tryz.underlying22 rfl ?_)
  |((with_reducible refine zC (ty:=22) (x:=.tmp 51) ?_);refine zM HM.o.v5 (j:=1) (v:=.slice m.P m.np m.pc) _ rfl rfl rfl rfl Tryz.underlying22 rfl ?_)
  |(go_at_call 103;refine Calls.mono (zLd (aF.o.later HM.o.below) (HO.o.later HM.o.below) iX.o) ?_;rintro e w6 ⟨rfl,b9⟩;have HM:=hd (HM.o.call b9);have ae:=hd (ae.o.keep b9);have au:=hd (au.o.call b9);have HI:=hd (HI.o.call b9);clear b9)
  |((with_reducible refine zF (ty:=26) (x:=.tmp 6) ?_);refine zA zD (r0:=NC.nil.row) (r:=NC.nil.row) HM.o.v6 rfl rfl NC.nil.one _ _ rfl rfl rfl rfl rfl ?_;intro W7 hv ho;have HM:=hd (HM.o.set6 (a':=NC.nil) hv ho);clear hv ho)
  |fail)
 exact bodyPost_ret (kU Tryz.results70 _ _ HM.o.v6 rfl) rfl ⟨NC.nil,rfl,fun _ _=>zAb _,HM.o.below⟩):P:=h
theorem kE2 {o:OC}(hn:kS w c n)(ho:OkA w o a)(ta:zAf a)(hm:kS w m mt)(hbk:jV a.q=(q2,0))(hin:InI q2)(bO:q2.length<=1000)(hgb:zGm n q2=(b,0))(hbl:b.lf=true)(cV:mt.lf=true)(hlb:zXd b=E)(_z1:(o.z==E)=true)(z2:(o.z !=E)=false)(hop:decide (a.o=mt.ps)=false):Calls Tryz.prog 70 #[.agg c.row,.agg o.row,.agg m.row] w (zAm w (zeroT,9)):=by
 exact kTn
theorem kE3 {o:OC}(hn:kS w c n)(ho:OkA w o a)(ta:zAf a)(hm:kS w m mt)(hbk:jV a.q=(q2,0))(hin:InI q2)(bO:q2.length<=1000)(hgb:zGm n q2=(b,0))(hbl:b.lf=false)(cV:mt.lf=false)(hlb:zXd b=E)(_z1:(o.z==E)=false)(z2:(o.z !=E)=true):Calls Tryz.prog 70 #[.agg c.row,.agg o.row,.agg m.row] w (zAm w (zeroT,8)):=by
 exact kTm
theorem kE4 {o:OC}(hn:kS w c n)(ho:OkA w o a)(ta:zAf a)(hm:kS w m mt)(hbk:jV a.q=(q2,0))(hin:InI q2)(bO:q2.length<=1000)(hgb:zGm n q2=(b,0))(hbl:b.lf=false)(cV:mt.lf=false)(hlb:zXd b=E)(_z1:(o.z==E)=true)(z2:(o.z !=E)=false)(hop:decide (a.o=mt.ps)=false):Calls Tryz.prog 70 #[.agg c.row,.agg o.row,.agg m.row] w (zAm w (zeroT,9)):=by
 exact kTn
