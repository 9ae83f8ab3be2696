import Derived.Test.YtmglnjmnabjjgaaGreatJLXr
set_option maxRecDepth 100000
set_option maxHeartbeats 8000000
namespace Go.Proofs.YtmglnjmnabjjgaaGreat
open Go.RowKit
variable {w:World}{r:kNj}{c:NC}{d:RC}{n x:NT}{tl:Sl}{a:OpP}{ec er:Int}
theorem RkA.live {c:RC}(h:RkA w c r):RkA w {c with live:=true} (kNn r):={h with hlv:=rfl}
theorem kUd {o:OC}(hn:kS w c n)(ho:OkA w o a)(hr:RkA w d r)(h1:zI5 100 n=true)(h2:zT3 a=true)(h3:kO9 [r]=true)(bG:chkR n r=ec)(iT:(ec !=0)=false)(fZ:zAf a)(hap:jL n zeroS a=((x,tl),er))(hne:(er !=0)=false)(hgo:kTp x a r (kOc a (kNn r)))(hlv:(kOc a (kNn r)).live=true)(htr:kOf (kOc a (kNn r))):Calls Tryz.prog 3 #[.agg c.row,.agg o.row,.agg d.row] w (jW w):=by
 have ru:=hd hlv;have rx:=hd htr;have rG:=hd (hgo.live hlv);clear hlv htr;have H1:=hd h1;have H2:=hd h2;have H3:=hd h3;have jG:=hd (kN9 h3 (r:=r) Kc);have ik:=hd (show kO1 (kNn r)=true from kN9 h3 (r:=r) Kc);have iq:=hd bG;have gJ:=hd (show chkR n (kNn r)=0 from(show chkR n (kNn r)=ec from bG).trans (by simpa using iT));have ir:=hd (kNw h1 h2 hn ho).1;have fY:=hd hap;have aw:=hd fZ;have gK:=hd hgo;clear h1 h2 h3 bG hap hgo fZ;obtain⟨W0,hW,hst⟩:=kQj w c o 37 d.row;have HW:=hd hW;have HS:=hd hst;have HN:=hd hn;have HO:=hd ho;have HR:=hd hr;clear hW hst hn ho hr;go_enter Tryz.func3,Tryz.ntmps3
 go_upto_region 1 with fail
 rw[HW.o];go_upto_region 8 with(first
  |(go_at_call 6;refine Calls.mono (kOw _) ?_;rintro e w1 ⟨rfl,b9⟩;have HS:=hd (HS.o.call b9);clear b9)
  |((with_reducible refine zC (ty:=26) (x:=.tmp 3) ?_);refine zB zD HS.o.v4 rfl _ rfl rfl rfl ?_)
  |(go_at_call 7;refine Calls.mono (zTe (HN.o.later HS.o.below) (by unfold zFf;omega) H1.o) ?_;rintro e w2 ⟨rfl,b9⟩;have HS:=hd (HS.o.call b9);clear b9)
  |((with_reducible refine kH (ty:=35) (x:=.tmp 4) ?_);refine zDq HS.o.v5 _ rfl Ke rfl ?_)
  |((with_reducible refine zC (ty:=35) (x:=.tmp 4) ?_);refine zG HS.o.v5 _ rfl rfl rfl ?_)
  |(go_at_call 8;refine Calls.mono (kJm (HO.o.later HS.o.below) H2.o) ?_;rintro e w3 ⟨rfl,b9⟩;have HS:=hd (HS.o.call b9);clear b9)
  |((with_reducible refine kH (ty:=37) (x:=.tmp 5) ?_);refine zK kNu HS.o.v6 rfl _ rfl Ke rfl ?_)
  |((with_reducible refine kO8 (ty:=42) (k:=1) ?_);refine kNs (c:=d) _ rfl Ke rfl ?_;have bU:=hd (kPi (HR.o.later HS.o.below));have HS:=hd (HS.o.call (kNx w3 d).2))
  |(go_at_call 9;refine Calls.mono (kPn bU.o rfl Kb H3.o) ?_;rintro e w4 ⟨rfl,b9⟩;have HS:=hd (HS.o.call b9);clear b9)
  |((with_reducible refine kH (ty:=26) (x:=.tmp 3) ?_);refine zK zD HS.o.v4 rfl _ rfl Ke rfl ?_)
  |(go_at_call 10;refine Calls.mono (kPm (HN.o.later HS.o.below) (HR.o.later HS.o.below) jG.o iq.o) ?_;rintro e w5 ⟨rfl,b9⟩;have HS:=hd (HS.o.call b9);clear b9)
  |(go_at_call 11;refine Calls.mono (kPp (s:=⟨false,none,0,0,0,none,0,0,0⟩) (HN.o.later HS.o.below) (zIi.zero _) (HO.o.later HS.o.below) ir.o fY.o) ?_;rintro e w6 ⟨ca,ct,rfl,ip,hsa,b9,jQ⟩;have HST:=hd (jQ.more (Nat.succ_le_of_lt HS.o.v6.lt));have HS:=hd (HS.o.call b9);have nX:=hd HS.o.v6.lt;clear b9 ip hsa jQ;dsimp only)
  |((with_reducible refine zF (ty:=26) (x:=.tmp 7) ?_);refine zA zD (r:=ca.row) (zDj w6) rfl rfl ca.one _ _ rfl rfl rfl rfl rfl ?_;intro W7 bk aI;have bl:=hd bk;have HT:=hd (zDk aI);clear bk aI)
  |((with_reducible refine zF (ty:=33) (x:=.tmp 8) ?_);refine zA kNm (r:=ct.row) HT.o.2 rfl rfl ct.one _ _ rfl rfl rfl rfl rfl ?_;intro W8 bz aQ;have bM:=hd (zDl HT.o.1 aQ);have bl:=hd (bl.o.off aQ Kb);have HS:=hd (HS.o.call bM.o);have HST:=hd (HST.o.call bM.o);clear bz aQ HT bM))
 clear iq fY ir H1 H2 H3;go_upto_region 9 with(first
  |((with_reducible refine zF (ty:=4) (x:=.tmp 47) ?_);refine kN6 kQl HS.o.v6 _ _ rfl rfl rfl 3 (.bool true) rfl rfl rfl rfl (show 3<11 by omega) ?_;intro W9 ak ag;have lw:=nX.o;have bl:=hd (bl.o.off ag Kb);have bX:=hd (HST.o.off ag Kb).now;have HS:=hd (show S3 w c o 37 ({d with live:=true}:RC).row W9 from⟨HS.o.v4.off ag Kb,(ag.block _ HS.o.v5.lt Kb).trans HS.o.v5,ak,zN HS.o.below ag Kb⟩);clear ak ag HST lw))
 obtain⟨d',hd'⟩:∃d':RC,{d with live:=true}=d':=⟨_,rfl⟩;have HR:=hd (show RkA w d' (kNn r)from hd'▸HR.o.live);rw[hd']at HS;clear hd';go_upto_region 10 with(first
  |((with_reducible refine zC (ty:=37) (x:=.tmp 5) ?_);refine zB kNu HS.o.v6 rfl _ rfl rfl rfl ?_)
  |((with_reducible refine kP0 (ty:=42) (k:=1) ?_);refine kNv (c:=d') _ rfl rfl rfl ?_;have bU:=hd (kPi (HR.o.later HS.o.below));have aH:=hd (kNx W9 d').2;have bl:=hd (bl.o.keep aH.o);have bX:=hd (bX.o.later aH.o);have HS:=hd (HS.o.call aH.o);clear aH)
  |((with_reducible refine zC (ty:=35) (x:=.tmp 4) ?_);refine zG HS.o.v5 _ rfl rfl rfl ?_)
  |(go_at_call 13;refine Calls.mono (kRh bU.o Kb ik.o (HO.o.later HS.o.below) aw.o gJ.o rfl) ?_;rintro e cW ⟨A,k,cap,cs,rfl,hk,cQ,hlr,b9⟩;have ke:=hd hlr;have gb:=hd cQ;have bl:=hd (bl.o.keep b9);have bX:=hd (bX.o.later b9);have HS:=hd (HS.o.call b9);simp only[List.length_cons,List.length_nil]at hk;subst hk;clear b9 hlr cQ))
 obtain⟨b,q,d2,eA,hb,bB,hrg⟩:=ke.o.one;subst eA;obtain⟨⟨x0,x1,x2,x3⟩,_⟩:=HS.o.v6.eleven;have eid:d2.id=d'.id:=bB.hid.symm.trans (gK.o.id.trans HR.o.hid);have ekd:d2.kind=d'.kind:=bB.hk.symm.trans (gK.o.kind.trans HR.o.hk);have eaf:d2.aff=d'.aff:=bB.ha.symm.trans (gK.o.aff.trans HR.o.ha);have y0:cW.cell? ⟨b,q,none⟩=some (.int .i64 d'.id):=by have h:=hrg 0 _ rfl;rw[Nat.add_zero,eid]at h;exact h
 have y1:cW.cell? ⟨b,q+1,none⟩=some (.int .i64 d'.kind):=by have h:=hrg 1 _ rfl;rw[ekd]at h;exact h
 have y2:cW.cell? ⟨b,q+2,none⟩=some (.int .i64 d'.aff):=by have h:=hrg 2 _ rfl;rw[eaf]at h;exact h
 have t0:(d'.id !=d'.id)=false:=by simp
 have t1:(d'.kind !=d'.kind)=false:=by simp
 have t2:(d'.aff !=d'.aff)=false:=by simp
 have bb:=hd bB;have fG:=hd hrg;have cQ:=gb.o;clear ke bU;clear hrg bB;go_quiet(fail)
 have bc:=zZ (Below.refl cW.heap.size cW) nq;obtain⟨bH,dU⟩:∃W,cW.drewN nq=W:=⟨_,rfl⟩;rw[dU]at bc⊢;clear dU x0 x1 x2 x3 y0 y1 y2 t0 t1 t2;have hbs:=bc.size;have iu:=hd hb;have bo:=hd (fun W9(h9:Below bH.heap.size bH W9)=>kPu fG.o hb (bc.trans (h9.mono hbs)));have bb:=hd (bb.o.later bc);have bl:=hd (bl.o.keep bc);have bX:=hd (bX.o.later bc);have HS:=hd (HS.o.call bc);clear fG bc hbs hb;have y3:bH.cell? ⟨b,q+3,none⟩=some (.bool true):=by
  have h:=bo.o bH Kk 3 _ rfl;rw[<-bb.o.hlv,ru.o]at h;exact h
 go_upto_region 13 with fail
 refine jO (S:=fun W'=>Below bH.heap.size bH W') (z:=fun _=>false) Ka ?_;have aa:=hd (show Below bH.heap.size bH bH.drew from Kk.drew);refine Kn 0 6 (.agg ca.row) (fun W9 aj=>?_) aa.o ?_
 ·exact kNz zD (bl.o.keep aj) rfl _ rfl rfl
 simp only[Act.put,List.setIfInBounds_toArray,List.set_cons_succ,List.set_cons_zero,List.getElem_toArray,List.getElem_cons_zero];refine Ko 1 5 (.slice (some ⟨b,q,none⟩) 1 cap) aa.o ?_;simp only[Act.put,List.setIfInBounds_toArray,List.set_cons_succ,List.set_cons_zero,List.getElem_toArray,List.getElem_cons_succ,List.getElem_cons_zero];refine Ko 2 4 (.pointer (some ⟨b,q,none⟩)) aa.o ?_;simp only[Act.put,List.setIfInBounds_toArray,List.set_cons_succ,List.set_cons_zero,List.getElem_toArray,List.getElem_cons_succ,List.getElem_cons_zero];refine Kn 3 3 (.agg d2.row) (fun W9 aj=>?_) aa.o ?_
 ·exact kOk (bo.o _ aj) _ rfl rfl
 simp only[Act.put,List.setIfInBounds_toArray,List.set_cons_succ,List.set_cons_zero,List.getElem_toArray,List.getElem_cons_succ,List.getElem_cons_zero];refine Kp 4 2 (fun K hK=>?_);rw[if_pos Ke];go_simp;go_at_call 10
 refine(kRn (bX.o.later aa.o) (bb.o.later aa.o) rx.o rG.o).mono ?_;rintro e w9 ⟨rfl,b9⟩;have aa:=hd (zI aa.o b9);clear b9;refine hK _ _ (fun _=>aa.o) ?_;clear hK K;refine Kp 5 1 (fun K hK=>?_);rw[if_pos Ke];go_simp;refine hK _ _ (fun _=>aa.o) ?_;clear hK K;refine Kp 6 0 (fun K hK=>?_);rw[if_pos Ke];go_simp;refine hK _ _ (fun _=>aa.o) (zAl Ka ?_);clear hK K;have HS:=hd (HS.o.call aa.o);go_wp2_with fail
 go_ret
 exact⟨rfl,HS.o.below⟩
theorem kPy {P:Prop}(h:P:=by
 simp only[Act.put,List.setIfInBounds_toArray,List.set_cons_succ,List.set_cons_zero,List.getElem_toArray,List.getElem_cons_succ,List.getElem_cons_zero];refine Ko 17 2 (.bool true) aa.o ?_;simp only[Act.put,List.setIfInBounds_toArray,List.set_cons_succ,List.set_cons_zero,List.getElem_toArray,List.getElem_cons_succ,List.getElem_cons_zero];refine Ko 18 1 (.bool true) aa.o ?_;simp only[Act.put,List.setIfInBounds_toArray,List.set_cons_succ,List.set_cons_zero,List.getElem_toArray,List.getElem_cons_succ,List.getElem_cons_zero];refine Kp 19 0 (fun K hK=>?_);rw[if_pos Ke];go_simp;refine hK _ _ (fun _=>aa.o) (zAl Ka ?_);clear hK K;have HS:=hd (HS.o.call aa.o);go_wp2_with fail
 go_ret
 exact⟨rfl,HS.o.below⟩):P:=h
theorem kS4 {o:OC}(hn:kS w c n)(ho:OkA w o a)(hr:RkA w d r)(h1:zI5 100 n=true)(h2:zT3 a=true)(h3:kO9 [r]=true)(bG:chkR n r=ec)(iT:(ec !=0)=false)(fZ:zAf a)(hap:jL n zeroS a=((x,tl),er))(hne:(er !=0)=false)(hgo:kTp x a r (kOc a (kNn r)))(nY:kOc a (kNn r)=kNr r)(im:a.k=2)(ha0:a.k=4->r.aff=0/\r.kind≠1):Calls Tryz.prog 3 #[.agg c.row,.agg o.row,.agg d.row] w (jW w):=by
 have lG:=hd im;have nZ:=hd ha0;have oa:=hd nY;have iU:=hd (show kO1 (kNr r)=true by unfold kNr kO1;rfl);clear im ha0 nY;have H1:=hd h1;have H2:=hd h2;have H3:=hd h3;have jG:=hd (kN9 h3 (r:=r) Kc);have ik:=hd (show kO1 (kNn r)=true from kN9 h3 (r:=r) Kc);have iq:=hd bG;have gJ:=hd (show chkR n (kNn r)=0 from(show chkR n (kNn r)=ec from bG).trans (by simpa using iT));have ir:=hd (kNw h1 h2 hn ho).1;have fY:=hd hap;have aw:=hd fZ;have gK:=hd hgo;clear h1 h2 h3 bG hap hgo fZ;obtain⟨W0,hW,hst⟩:=kQj w c o 37 d.row;have HW:=hd hW;have HS:=hd hst;have HN:=hd hn;have HO:=hd ho;have HR:=hd hr;clear hW hst hn ho hr;go_enter Tryz.func3,Tryz.ntmps3
 go_upto_region 1 with fail
 rw[HW.o];go_upto_region 8 with(first
  |(go_at_call 6;refine Calls.mono (kOw _) ?_;rintro e w1 ⟨rfl,b9⟩;have HS:=hd (HS.o.call b9);clear b9)
  |((with_reducible refine zC (ty:=26) (x:=.tmp 3) ?_);refine zB zD HS.o.v4 rfl _ rfl rfl rfl ?_)
  |(go_at_call 7;refine Calls.mono (zTe (HN.o.later HS.o.below) (by unfold zFf;omega) H1.o) ?_;rintro e w2 ⟨rfl,b9⟩;have HS:=hd (HS.o.call b9);clear b9)
  |((with_reducible refine kH (ty:=35) (x:=.tmp 4) ?_);refine zDq HS.o.v5 _ rfl Ke rfl ?_)
  |((with_reducible refine zC (ty:=35) (x:=.tmp 4) ?_);refine zG HS.o.v5 _ rfl rfl rfl ?_)
  |(go_at_call 8;refine Calls.mono (kJm (HO.o.later HS.o.below) H2.o) ?_;rintro e w3 ⟨rfl,b9⟩;have HS:=hd (HS.o.call b9);clear b9)
  |((with_reducible refine kH (ty:=37) (x:=.tmp 5) ?_);refine zK kNu HS.o.v6 rfl _ rfl Ke rfl ?_)
  |((with_reducible refine kO8 (ty:=42) (k:=1) ?_);refine kNs (c:=d) _ rfl Ke rfl ?_;have bU:=hd (kPi (HR.o.later HS.o.below));have HS:=hd (HS.o.call (kNx w3 d).2))
  |(go_at_call 9;refine Calls.mono (kPn bU.o rfl Kb H3.o) ?_;rintro e w4 ⟨rfl,b9⟩;have HS:=hd (HS.o.call b9);clear b9)
  |((with_reducible refine kH (ty:=26) (x:=.tmp 3) ?_);refine zK zD HS.o.v4 rfl _ rfl Ke rfl ?_)
  |(go_at_call 10;refine Calls.mono (kPm (HN.o.later HS.o.below) (HR.o.later HS.o.below) jG.o iq.o) ?_;rintro e w5 ⟨rfl,b9⟩;have HS:=hd (HS.o.call b9);clear b9)
  |(go_at_call 11;refine Calls.mono (kPp (s:=⟨false,none,0,0,0,none,0,0,0⟩) (HN.o.later HS.o.below) (zIi.zero _) (HO.o.later HS.o.below) ir.o fY.o) ?_;rintro e w6 ⟨ca,ct,rfl,ip,hsa,b9,jQ⟩;have HST:=hd (jQ.more (Nat.succ_le_of_lt HS.o.v6.lt));have HS:=hd (HS.o.call b9);have nX:=hd HS.o.v6.lt;clear b9 ip hsa jQ;dsimp only)
  |((with_reducible refine zF (ty:=26) (x:=.tmp 7) ?_);refine zA zD (r:=ca.row) (zDj w6) rfl rfl ca.one _ _ rfl rfl rfl rfl rfl ?_;intro W7 bk aI;have bl:=hd bk;have HT:=hd (zDk aI);clear bk aI)
  |((with_reducible refine zF (ty:=33) (x:=.tmp 8) ?_);refine zA kNm (r:=ct.row) HT.o.2 rfl rfl ct.one _ _ rfl rfl rfl rfl rfl ?_;intro W8 bz aQ;have bM:=hd (zDl HT.o.1 aQ);have bl:=hd (bl.o.off aQ Kb);have HS:=hd (HS.o.call bM.o);have HST:=hd (HST.o.call bM.o);clear bz aQ HT bM))
 clear iq fY ir H1 H2 H3;go_upto_region 9 with(first
  |((with_reducible refine zF (ty:=4) (x:=.tmp 47) ?_);refine kN6 kQl HS.o.v6 _ _ rfl rfl rfl 3 (.bool true) rfl rfl rfl rfl (show 3<11 by omega) ?_;intro W9 ak ag;have lw:=nX.o;have bl:=hd (bl.o.off ag Kb);have bX:=hd (HST.o.off ag Kb).now;have HS:=hd (show S3 w c o 37 ({d with live:=true}:RC).row W9 from⟨HS.o.v4.off ag Kb,(ag.block _ HS.o.v5.lt Kb).trans HS.o.v5,ak,zN HS.o.below ag Kb⟩);clear ak ag HST lw))
 obtain⟨d',hd'⟩:∃d':RC,{d with live:=true}=d':=⟨_,rfl⟩;have HR:=hd (show RkA w d' (kNn r)from hd'▸HR.o.live);rw[hd']at HS;clear hd';go_upto_region 10 with(first
  |((with_reducible refine zC (ty:=37) (x:=.tmp 5) ?_);refine zB kNu HS.o.v6 rfl _ rfl rfl rfl ?_)
  |((with_reducible refine kP0 (ty:=42) (k:=1) ?_);refine kNv (c:=d') _ rfl rfl rfl ?_;have bU:=hd (kPi (HR.o.later HS.o.below));have aH:=hd (kNx W9 d').2;have bl:=hd (bl.o.keep aH.o);have bX:=hd (bX.o.later aH.o);have HS:=hd (HS.o.call aH.o);clear aH)
  |((with_reducible refine zC (ty:=35) (x:=.tmp 4) ?_);refine zG HS.o.v5 _ rfl rfl rfl ?_)
  |(go_at_call 13;refine Calls.mono (kRh bU.o Kb ik.o (HO.o.later HS.o.below) aw.o gJ.o rfl) ?_;rintro e cW ⟨A,k,cap,cs,rfl,hk,cQ,hlr,b9⟩;have ke:=hd hlr;have gb:=hd cQ;have bl:=hd (bl.o.keep b9);have bX:=hd (bX.o.later b9);have HS:=hd (HS.o.call b9);simp only[List.length_cons,List.length_nil]at hk;subst hk;clear b9 hlr cQ))
 obtain⟨b,q,d2,eA,hb,bB,hrg⟩:=ke.o.one;subst eA;obtain⟨⟨x0,x1,x2,x3⟩,_⟩:=HS.o.v6.eleven;have eid:d2.id=d'.id:=bB.hid.symm.trans (gK.o.id.trans HR.o.hid);have ekd:d2.kind=d'.kind:=bB.hk.symm.trans (gK.o.kind.trans HR.o.hk);have eaf:d2.aff=d'.aff:=bB.ha.symm.trans (gK.o.aff.trans HR.o.ha);have y0:cW.cell? ⟨b,q,none⟩=some (.int .i64 d'.id):=by have h:=hrg 0 _ rfl;rw[Nat.add_zero,eid]at h;exact h
 have y1:cW.cell? ⟨b,q+1,none⟩=some (.int .i64 d'.kind):=by have h:=hrg 1 _ rfl;rw[ekd]at h;exact h
 have y2:cW.cell? ⟨b,q+2,none⟩=some (.int .i64 d'.aff):=by have h:=hrg 2 _ rfl;rw[eaf]at h;exact h
 have t0:(d'.id !=d'.id)=false:=by simp
 have t1:(d'.kind !=d'.kind)=false:=by simp
 have t2:(d'.aff !=d'.aff)=false:=by simp
 have bb:=hd bB;have fG:=hd hrg;have cQ:=gb.o;clear ke bU;go_quiet(fail)
 have bc:=zZ (Below.refl cW.heap.size cW) nq;obtain⟨bH,dU⟩:∃W,cW.drewN nq=W:=⟨_,rfl⟩;rw[dU]at bc⊢;clear dU x0 x1 x2 x3 y0 y1 y2 t0 t1 t2;have hbs:=bc.size;have iu:=hd hb;have bo:=hd (fun W9(h9:Below bH.heap.size bH W9)=>kPu fG.o hb (bc.trans (h9.mono hbs)));have bb:=hd (bb.o.later bc);have bl:=hd (bl.o.keep bc);have bX:=hd (bX.o.later bc);have HS:=hd (HS.o.call bc);clear fG bc hbs hb;have y3:bH.cell? ⟨b,q+3,none⟩=some (.bool false):=by
  have h:=bo.o bH Kk 3 _ rfl;rw[<-bb.o.hlv,oa.o]at h;exact h
 have un:a.k=4->d'.aff=0:=fun h=>HR.o.ha.symm.trans (nZ.o h).1;have od:a.k=4->d'.kind≠1:=fun h e=>(nZ.o h).2 (HR.o.hk.trans e);have hok:o.k=a.k:=HO.o.hk.symm;obtain⟨⟨x0,x1,x2,x3⟩,_⟩:=HS.o.v6.eleven;have z0:=HS.o.v5.ck;rw[hok,lG.o]at z0;have t1:((2:Int)==4)=false:=by decide
 go_upto_region 15 with fail
 have bb:=hd (oa.o▸bb.o);have bN:=hd (fun W9:World=>(show RkA W9 {RC.zero with id:=d'.id,kind:=d'.kind,aff:=d'.aff} (kNr r)from{RkA.zero W9 with hid:=HR.o.hid,hk:=HR.o.hk,ha:=HR.o.ha,hlv:=rfl,hkw:=HR.o.hkw}));have dB:=HS;refine jO (S:=fun W'=>Below bH.heap.size bH W') (z:=fun _=>false) Ka ?_;have aa:=hd (show Below bH.heap.size bH bH.drew from Kk.drew);refine Ko 0 19 (.slice (some ⟨b,q,none⟩) 1 cap) aa.o ?_;simp only[Act.put,List.setIfInBounds_toArray,List.set_cons_succ,List.set_cons_zero,List.getElem_toArray,List.getElem_cons_zero];refine Ko 1 18 (.pointer (some ⟨b,q,none⟩)) aa.o ?_;simp only[Act.put,List.setIfInBounds_toArray,List.set_cons_succ,List.set_cons_zero,List.getElem_toArray,List.getElem_cons_succ,List.getElem_cons_zero];refine Kn 2 17 (.agg d2.row) (fun W9 aj=>?_) aa.o ?_
 ·exact kOk (bo.o _ aj) _ rfl rfl
 simp only[Act.put,List.setIfInBounds_toArray,List.set_cons_succ,List.set_cons_zero,List.getElem_toArray,List.getElem_cons_succ,List.getElem_cons_zero];refine Ko 3 16 (.pointer (some ⟨w.heap.size+1+1,0,none⟩)) aa.o ?_;simp only[Act.put,List.setIfInBounds_toArray,List.set_cons_succ,List.set_cons_zero,List.getElem_toArray,List.getElem_cons_succ,List.getElem_cons_zero];refine Kn 4 15 (.int .i64 d'.id) (fun W9 aj=>?_) aa.o ?_
 ·have h0:=(dB.o.v6.keep aj).cell 0 _ rfl;go_simp;rfl
 simp only[Act.put,List.setIfInBounds_toArray,List.set_cons_succ,List.set_cons_zero,List.getElem_toArray,List.getElem_cons_succ,List.getElem_cons_zero];refine Ko 5 14 (.pointer (some ⟨w.heap.size+1+1,1,none⟩)) aa.o ?_;simp only[Act.put,List.setIfInBounds_toArray,List.set_cons_succ,List.set_cons_zero,List.getElem_toArray,List.getElem_cons_succ,List.getElem_cons_zero];refine Kn 6 13 (.int .i64 d'.kind) (fun W9 aj=>?_) aa.o ?_
 ·have h0:=(dB.o.v6.keep aj).cell 1 _ rfl;go_simp;rfl
 simp only[Act.put,List.setIfInBounds_toArray,List.set_cons_succ,List.set_cons_zero,List.getElem_toArray,List.getElem_cons_succ,List.getElem_cons_zero];refine Ko 7 12 (.pointer (some ⟨w.heap.size+1+1,2,none⟩)) aa.o ?_;simp only[Act.put,List.setIfInBounds_toArray,List.set_cons_succ,List.set_cons_zero,List.getElem_toArray,List.getElem_cons_succ,List.getElem_cons_zero];refine Kn 8 11 (.int .i64 d'.aff) (fun W9 aj=>?_) aa.o ?_
 ·have h0:=(dB.o.v6.keep aj).cell 2 _ rfl;go_simp;rfl
 simp only[Act.put,List.setIfInBounds_toArray,List.set_cons_succ,List.set_cons_zero,List.getElem_toArray,List.getElem_cons_succ,List.getElem_cons_zero];refine Kn 9 10 (.agg (RC.row {RC.zero with id:=d'.id,kind:=d'.kind,aff:=d'.aff})) (fun W9 aj=>?_) aa.o ?_
 ·go_simp;rfl
 simp only[Act.put,List.setIfInBounds_toArray,List.set_cons_succ,List.set_cons_zero,List.getElem_toArray,List.getElem_cons_succ,List.getElem_cons_zero];refine Kp 10 9 (fun K hK=>?_);rw[if_pos Ke];go_simp;go_at_call 14
 refine(kP3 (bb.o.later aa.o) (bN.o _) iU.o iU.o (kQ1 (kNr r))).mono ?_;rintro e w9 ⟨rfl,b9⟩;have aa:=hd (zI aa.o b9);clear b9;refine hK _ _ (fun _=>aa.o) ?_;clear hK K;refine Ko 11 8 (.bool true) aa.o ?_;simp only[Act.put,List.setIfInBounds_toArray,List.set_cons_succ,List.set_cons_zero,List.getElem_toArray,List.getElem_cons_succ,List.getElem_cons_zero];refine Ko 12 7 (.pointer (some ⟨w.heap.size+1,0,none⟩)) aa.o ?_;simp only[Act.put,List.setIfInBounds_toArray,List.set_cons_succ,List.set_cons_zero,List.getElem_toArray,List.getElem_cons_succ,List.getElem_cons_zero];refine Kn 13 6 (.int .i64 2) (fun W9 aj=>?_) aa.o ?_
 ·have h0:W9.cell? ⟨w.heap.size+1,0,none⟩=some (.int .i64 2):=by have h:=(dB.o.v5.keep aj).ck;rw[HO.o.hk.symm,lG.o]at h;exact h
  go_simp
 simp only[Act.put,List.setIfInBounds_toArray,List.set_cons_succ,List.set_cons_zero,List.getElem_toArray,List.getElem_cons_succ,List.getElem_cons_zero];refine Kn 14 5 (.bool true) (fun W9 aj=>?_) aa.o ?_
 ·go_simp;try rfl
 simp only[Act.put,List.setIfInBounds_toArray,List.set_cons_succ,List.set_cons_zero,List.getElem_toArray,List.getElem_cons_succ,List.getElem_cons_zero];refine Ko 15 4 (.bool true) aa.o ?_;simp only[Act.put,List.setIfInBounds_toArray,List.set_cons_succ,List.set_cons_zero,List.getElem_toArray,List.getElem_cons_succ,List.getElem_cons_zero];refine zBx (i:=16) (n:=3) rfl Ka Ka Ka Ka (fun _ _ _ h=>h) Ke aa.o ?_;exact kPy
theorem kS5 {o:OC}(hn:kS w c n)(ho:OkA w o a)(hr:RkA w d r)(h1:zI5 100 n=true)(h2:zT3 a=true)(h3:kO9 [r]=true)(bG:chkR n r=ec)(iT:(ec !=0)=false)(fZ:zAf a)(hap:jL n zeroS a=((x,tl),er))(hne:(er !=0)=false)(hgo:kTp x a r (kOc a (kNn r)))(nY:kOc a (kNn r)=kNr r)(im:a.k=4)(ha0:a.k=4->r.aff=0/\r.kind≠1):Calls Tryz.prog 3 #[.agg c.row,.agg o.row,.agg d.row] w (jW w):=by
 have lG:=hd im;have nZ:=hd ha0;have oa:=hd nY;have iU:=hd (show kO1 (kNr r)=true by unfold kNr kO1;rfl);clear im ha0 nY;have H1:=hd h1;have H2:=hd h2;have H3:=hd h3;have jG:=hd (kN9 h3 (r:=r) Kc);have ik:=hd (show kO1 (kNn r)=true from kN9 h3 (r:=r) Kc);have iq:=hd bG;have gJ:=hd (show chkR n (kNn r)=0 from(show chkR n (kNn r)=ec from bG).trans (by simpa using iT));have ir:=hd (kNw h1 h2 hn ho).1;have fY:=hd hap;have aw:=hd fZ;have gK:=hd hgo;clear h1 h2 h3 bG hap hgo fZ;obtain⟨W0,hW,hst⟩:=kQj w c o 37 d.row;have HW:=hd hW;have HS:=hd hst;have HN:=hd hn;have HO:=hd ho;have HR:=hd hr;clear hW hst hn ho hr;go_enter Tryz.func3,Tryz.ntmps3
 go_upto_region 1 with fail
 rw[HW.o];go_upto_region 8 with(first
  |(go_at_call 6;refine Calls.mono (kOw _) ?_;rintro e w1 ⟨rfl,b9⟩;have HS:=hd (HS.o.call b9);clear b9)
  |((with_reducible refine zC (ty:=26) (x:=.tmp 3) ?_);refine zB zD HS.o.v4 rfl _ rfl rfl rfl ?_)
  |(go_at_call 7;refine Calls.mono (zTe (HN.o.later HS.o.below) (by unfold zFf;omega) H1.o) ?_;rintro e w2 ⟨rfl,b9⟩;have HS:=hd (HS.o.call b9);clear b9)
  |((with_reducible refine kH (ty:=35) (x:=.tmp 4) ?_);refine zDq HS.o.v5 _ rfl Ke rfl ?_)
  |((with_reducible refine zC (ty:=35) (x:=.tmp 4) ?_);refine zG HS.o.v5 _ rfl rfl rfl ?_)
  |(go_at_call 8;refine Calls.mono (kJm (HO.o.later HS.o.below) H2.o) ?_;rintro e w3 ⟨rfl,b9⟩;have HS:=hd (HS.o.call b9);clear b9)
  |((with_reducible refine kH (ty:=37) (x:=.tmp 5) ?_);refine zK kNu HS.o.v6 rfl _ rfl Ke rfl ?_)
  |((with_reducible refine kO8 (ty:=42) (k:=1) ?_);refine kNs (c:=d) _ rfl Ke rfl ?_;have bU:=hd (kPi (HR.o.later HS.o.below));have HS:=hd (HS.o.call (kNx w3 d).2))
  |(go_at_call 9;refine Calls.mono (kPn bU.o rfl Kb H3.o) ?_;rintro e w4 ⟨rfl,b9⟩;have HS:=hd (HS.o.call b9);clear b9)
  |((with_reducible refine kH (ty:=26) (x:=.tmp 3) ?_);refine zK zD HS.o.v4 rfl _ rfl Ke rfl ?_)
  |(go_at_call 10;refine Calls.mono (kPm (HN.o.later HS.o.below) (HR.o.later HS.o.below) jG.o iq.o) ?_;rintro e w5 ⟨rfl,b9⟩;have HS:=hd (HS.o.call b9);clear b9)
  |(go_at_call 11;refine Calls.mono (kPp (s:=⟨false,none,0,0,0,none,0,0,0⟩) (HN.o.later HS.o.below) (zIi.zero _) (HO.o.later HS.o.below) ir.o fY.o) ?_;rintro e w6 ⟨ca,ct,rfl,ip,hsa,b9,jQ⟩;have HST:=hd (jQ.more (Nat.succ_le_of_lt HS.o.v6.lt));have HS:=hd (HS.o.call b9);have nX:=hd HS.o.v6.lt;clear b9 ip hsa jQ;dsimp only)
  |((with_reducible refine zF (ty:=26) (x:=.tmp 7) ?_);refine zA zD (r:=ca.row) (zDj w6) rfl rfl ca.one _ _ rfl rfl rfl rfl rfl ?_;intro W7 bk aI;have bl:=hd bk;have HT:=hd (zDk aI);clear bk aI)
  |((with_reducible refine zF (ty:=33) (x:=.tmp 8) ?_);refine zA kNm (r:=ct.row) HT.o.2 rfl rfl ct.one _ _ rfl rfl rfl rfl rfl ?_;intro W8 bz aQ;have bM:=hd (zDl HT.o.1 aQ);have bl:=hd (bl.o.off aQ Kb);have HS:=hd (HS.o.call bM.o);have HST:=hd (HST.o.call bM.o);clear bz aQ HT bM))
 clear iq fY ir H1 H2 H3;go_upto_region 9 with(first
  |((with_reducible refine zF (ty:=4) (x:=.tmp 47) ?_);refine kN6 kQl HS.o.v6 _ _ rfl rfl rfl 3 (.bool true) rfl rfl rfl rfl (show 3<11 by omega) ?_;intro W9 ak ag;have lw:=nX.o;have bl:=hd (bl.o.off ag Kb);have bX:=hd (HST.o.off ag Kb).now;have HS:=hd (show S3 w c o 37 ({d with live:=true}:RC).row W9 from⟨HS.o.v4.off ag Kb,(ag.block _ HS.o.v5.lt Kb).trans HS.o.v5,ak,zN HS.o.below ag Kb⟩);clear ak ag HST lw))
 obtain⟨d',hd'⟩:∃d':RC,{d with live:=true}=d':=⟨_,rfl⟩;have HR:=hd (show RkA w d' (kNn r)from hd'▸HR.o.live);rw[hd']at HS;clear hd';go_upto_region 10 with(first
  |((with_reducible refine zC (ty:=37) (x:=.tmp 5) ?_);refine zB kNu HS.o.v6 rfl _ rfl rfl rfl ?_)
  |((with_reducible refine kP0 (ty:=42) (k:=1) ?_);refine kNv (c:=d') _ rfl rfl rfl ?_;have bU:=hd (kPi (HR.o.later HS.o.below));have aH:=hd (kNx W9 d').2;have bl:=hd (bl.o.keep aH.o);have bX:=hd (bX.o.later aH.o);have HS:=hd (HS.o.call aH.o);clear aH)
  |((with_reducible refine zC (ty:=35) (x:=.tmp 4) ?_);refine zG HS.o.v5 _ rfl rfl rfl ?_)
  |(go_at_call 13;refine Calls.mono (kRh bU.o Kb ik.o (HO.o.later HS.o.below) aw.o gJ.o rfl) ?_;rintro e cW ⟨A,k,cap,cs,rfl,hk,cQ,hlr,b9⟩;have ke:=hd hlr;have gb:=hd cQ;have bl:=hd (bl.o.keep b9);have bX:=hd (bX.o.later b9);have HS:=hd (HS.o.call b9);simp only[List.length_cons,List.length_nil]at hk;subst hk;clear b9 hlr cQ))
 obtain⟨b,q,d2,eA,hb,bB,hrg⟩:=ke.o.one;subst eA;obtain⟨⟨x0,x1,x2,x3⟩,_⟩:=HS.o.v6.eleven;have eid:d2.id=d'.id:=bB.hid.symm.trans (gK.o.id.trans HR.o.hid);have ekd:d2.kind=d'.kind:=bB.hk.symm.trans (gK.o.kind.trans HR.o.hk);have eaf:d2.aff=d'.aff:=bB.ha.symm.trans (gK.o.aff.trans HR.o.ha);have y0:cW.cell? ⟨b,q,none⟩=some (.int .i64 d'.id):=by have h:=hrg 0 _ rfl;rw[Nat.add_zero,eid]at h;exact h
 have y1:cW.cell? ⟨b,q+1,none⟩=some (.int .i64 d'.kind):=by have h:=hrg 1 _ rfl;rw[ekd]at h;exact h
 have y2:cW.cell? ⟨b,q+2,none⟩=some (.int .i64 d'.aff):=by have h:=hrg 2 _ rfl;rw[eaf]at h;exact h
 have t0:(d'.id !=d'.id)=false:=by simp
 have t1:(d'.kind !=d'.kind)=false:=by simp
 have t2:(d'.aff !=d'.aff)=false:=by simp
 have bb:=hd bB;have fG:=hd hrg;have cQ:=gb.o;clear ke bU;go_quiet(fail)
 have bc:=zZ (Below.refl cW.heap.size cW) nq;obtain⟨bH,dU⟩:∃W,cW.drewN nq=W:=⟨_,rfl⟩;rw[dU]at bc⊢;clear dU x0 x1 x2 x3 y0 y1 y2 t0 t1 t2;have hbs:=bc.size;have iu:=hd hb;have bo:=hd (fun W9(h9:Below bH.heap.size bH W9)=>kPu fG.o hb (bc.trans (h9.mono hbs)));have bb:=hd (bb.o.later bc);have bl:=hd (bl.o.keep bc);have bX:=hd (bX.o.later bc);have HS:=hd (HS.o.call bc);clear fG bc hbs hb;have y3:bH.cell? ⟨b,q+3,none⟩=some (.bool false):=by
  have h:=bo.o bH Kk 3 _ rfl;rw[<-bb.o.hlv,oa.o]at h;exact h
 have un:a.k=4->d'.aff=0:=fun h=>HR.o.ha.symm.trans (nZ.o h).1;have od:a.k=4->d'.kind≠1:=fun h e=>(nZ.o h).2 (HR.o.hk.trans e);have hok:o.k=a.k:=HO.o.hk.symm;obtain⟨⟨x0,x1,x2,x3⟩,_⟩:=HS.o.v6.eleven;have z0:=HS.o.v5.ck;rw[hok,lG.o]at z0;have t1:((4:Int)==4)=true:=by decide
 have t2:(d'.kind !=1)=true:=by simp[od lG.o]
 have t3:(d'.aff==0)=true:=by simp[un lG.o]
 go_upto_region 15 with fail
 have bb:=hd (oa.o▸bb.o);have bN:=hd (fun W9:World=>(show RkA W9 {RC.zero with id:=d'.id,kind:=d'.kind,aff:=d'.aff} (kNr r)from{RkA.zero W9 with hid:=HR.o.hid,hk:=HR.o.hk,ha:=HR.o.ha,hlv:=rfl,hkw:=HR.o.hkw}));have dB:=HS;refine jO (S:=fun W'=>Below bH.heap.size bH W') (z:=fun _=>false) Ka ?_;have aa:=hd (show Below bH.heap.size bH bH.drew from Kk.drew);refine Ko 0 19 (.slice (some ⟨b,q,none⟩) 1 cap) aa.o ?_;simp only[Act.put,List.setIfInBounds_toArray,List.set_cons_succ,List.set_cons_zero,List.getElem_toArray,List.getElem_cons_zero];refine Ko 1 18 (.pointer (some ⟨b,q,none⟩)) aa.o ?_;simp only[Act.put,List.setIfInBounds_toArray,List.set_cons_succ,List.set_cons_zero,List.getElem_toArray,List.getElem_cons_succ,List.getElem_cons_zero];refine Kn 2 17 (.agg d2.row) (fun W9 aj=>?_) aa.o ?_
 ·exact kOk (bo.o _ aj) _ rfl rfl
 simp only[Act.put,List.setIfInBounds_toArray,List.set_cons_succ,List.set_cons_zero,List.getElem_toArray,List.getElem_cons_succ,List.getElem_cons_zero];refine Ko 3 16 (.pointer (some ⟨w.heap.size+1+1,0,none⟩)) aa.o ?_;simp only[Act.put,List.setIfInBounds_toArray,List.set_cons_succ,List.set_cons_zero,List.getElem_toArray,List.getElem_cons_succ,List.getElem_cons_zero];refine Kn 4 15 (.int .i64 d'.id) (fun W9 aj=>?_) aa.o ?_
 ·have h0:=(dB.o.v6.keep aj).cell 0 _ rfl;go_simp;rfl
 simp only[Act.put,List.setIfInBounds_toArray,List.set_cons_succ,List.set_cons_zero,List.getElem_toArray,List.getElem_cons_succ,List.getElem_cons_zero];refine Ko 5 14 (.pointer (some ⟨w.heap.size+1+1,1,none⟩)) aa.o ?_;simp only[Act.put,List.setIfInBounds_toArray,List.set_cons_succ,List.set_cons_zero,List.getElem_toArray,List.getElem_cons_succ,List.getElem_cons_zero];refine Kn 6 13 (.int .i64 d'.kind) (fun W9 aj=>?_) aa.o ?_
 ·have h0:=(dB.o.v6.keep aj).cell 1 _ rfl;go_simp;rfl
 simp only[Act.put,List.setIfInBounds_toArray,List.set_cons_succ,List.set_cons_zero,List.getElem_toArray,List.getElem_cons_succ,List.getElem_cons_zero];refine Ko 7 12 (.pointer (some ⟨w.heap.size+1+1,2,none⟩)) aa.o ?_;simp only[Act.put,List.setIfInBounds_toArray,List.set_cons_succ,List.set_cons_zero,List.getElem_toArray,List.getElem_cons_succ,List.getElem_cons_zero];refine Kn 8 11 (.int .i64 d'.aff) (fun W9 aj=>?_) aa.o ?_
 ·have h0:=(dB.o.v6.keep aj).cell 2 _ rfl;go_simp;rfl
 simp only[Act.put,List.setIfInBounds_toArray,List.set_cons_succ,List.set_cons_zero,List.getElem_toArray,List.getElem_cons_succ,List.getElem_cons_zero];refine Kn 9 10 (.agg (RC.row {RC.zero with id:=d'.id,kind:=d'.kind,aff:=d'.aff})) (fun W9 aj=>?_) aa.o ?_
 ·go_simp;rfl
 simp only[Act.put,List.setIfInBounds_toArray,List.set_cons_succ,List.set_cons_zero,List.getElem_toArray,List.getElem_cons_succ,List.getElem_cons_zero];refine Kp 10 9 (fun K hK=>?_);rw[if_pos Ke];go_simp;go_at_call 14
 refine(kP3 (bb.o.later aa.o) (bN.o _) iU.o iU.o (kQ1 (kNr r))).mono ?_;rintro e w9 ⟨rfl,b9⟩;have aa:=hd (zI aa.o b9);clear b9;refine hK _ _ (fun _=>aa.o) ?_;clear hK K;refine Ko 11 8 (.bool true) aa.o ?_;simp only[Act.put,List.setIfInBounds_toArray,List.set_cons_succ,List.set_cons_zero,List.getElem_toArray,List.getElem_cons_succ,List.getElem_cons_zero];refine Ko 12 7 (.pointer (some ⟨w.heap.size+1,0,none⟩)) aa.o ?_;simp only[Act.put,List.setIfInBounds_toArray,List.set_cons_succ,List.set_cons_zero,List.getElem_toArray,List.getElem_cons_succ,List.getElem_cons_zero];refine Kn 13 6 (.int .i64 4) (fun W9 aj=>?_) aa.o ?_
 ·have h0:W9.cell? ⟨w.heap.size+1,0,none⟩=some (.int .i64 4):=by have h:=(dB.o.v5.keep aj).ck;rw[HO.o.hk.symm,lG.o]at h;exact h
  go_simp
 simp only[Act.put,List.setIfInBounds_toArray,List.set_cons_succ,List.set_cons_zero,List.getElem_toArray,List.getElem_cons_succ,List.getElem_cons_zero];refine Kn 14 5 (.bool false) (fun W9 aj=>?_) aa.o ?_
 ·go_simp;try rfl
 simp only[Act.put,List.setIfInBounds_toArray,List.set_cons_succ,List.set_cons_zero,List.getElem_toArray,List.getElem_cons_succ,List.getElem_cons_zero];refine Ko 15 4 (.bool false) aa.o ?_;simp only[Act.put,List.setIfInBounds_toArray,List.set_cons_succ,List.set_cons_zero,List.getElem_toArray,List.getElem_cons_succ,List.getElem_cons_zero];refine Ko 16 3 (.bool true) aa.o ?_;exact kPy
theorem kSc {o:OC}(h1:zI5 100 n=true)(h2:zT3 a=true)(hn:kS w c n)(ho:OkA w o a)(hap:jL n zeroS a=((x,tl),0)):sizeT x<=1000:=by
 obtain⟨hr,e1,e2⟩:=kNw h1 h2 hn ho;obtain⟨f1,f2,f3,f4,f5⟩:=kRm h1 h2 hn ho hap;rcases f2 with⟨k1,k8,hd⟩|⟨h9,rfl⟩
 ·have hb:(sizeT x:Int)=sizeT n+byO a:=zMm (fun u y hy=>by have:=(kOa (m:=1000) Kb hy).1;omega) k1 k8 hd;have hx:=hr.tiny.hx;unfold byO at hb;split at hb
  ·have:=f5 (by assumption);omega
  ·(repeat' split at hb)<;>omega
 ·omega
theorem kU4 {s:kNj}(h:chkR x s=0)(hs:sizeT x<=1000):kOf s:=by
 have hp:∀q:List Int×Int,zK6 x q=0->q.1.length<=1000:=fun q hq=>by
  obtain⟨m,hg,_⟩:=zCm.1 hq;have:=zGh _ _ _ hg;omega
 rcases kQm h with k|k|k
 ·obtain⟨e1,e2,e3⟩:=kS7 h k;obtain⟨y,hy⟩:=kS2 (kVs k h).2;have:=zGh _ _ _ hy;exact⟨by omega,by rw[e1];exact Nat.zero_le _,by rw[e2];exact Nat.zero_le _,by rw[e3];exact Nat.zero_le _⟩
 ·obtain⟨e1,e2,e3⟩:=kS8 h k;exact⟨by rw[e1];exact Nat.zero_le _,hp _ (kVt k h).2,by rw[e2];exact Nat.zero_le _,by rw[e3];exact Nat.zero_le _⟩
 ·obtain⟨e1,e2⟩:=kS9 h k;obtain⟨_,c2,c3⟩:=kVu k h;exact⟨by rw[e1];exact Nat.zero_le _,by rw[e2];exact Nat.zero_le _,hp _ c2,hp _ c3⟩
theorem kSd {o:OC}(hn:kS w c n)(ho:OkA w o a)(hr:RkA w d r):Calls Tryz.prog 3 #[.agg c.row,.agg o.row,.agg d.row] w (jW w):=by
 cases h1:zI5 100 n
 ·exact kT7 hn ho hr h1
 cases h2:zT3 a
 ·exact kT8 hn ho hr h1 h2
 cases h3:kO9 [r]
 ·exact kT9 hn ho hr h1 h2 h3
 obtain⟨ec,bG⟩:∃ec,chkR n r=ec:=⟨_,rfl⟩;by_cases iT:ec=0
 case neg=>exact kUa hn ho hr h1 h2 h3 bG (by simpa using iT)
 subst iT;obtain⟨⟨⟨x,tl⟩,er⟩,hap⟩:∃r,jL n zeroS a=r:=⟨_,rfl⟩;by_cases h0:er=0
 case neg=>
  have hz:=zJk (n:=n) (s:=zeroS) (o:=a) (by rw[hap];exact h0);rw[hap]at hz;dsimp only at hz;rw[hz]at hap;exact kUb hn ho hr h1 h2 h3 bG Kd hap (by simpa using h0)
 subst h0;obtain⟨f1,f2,f3,f4,_⟩:=kRm h1 h2 hn ho hap;have pH:=kSc h1 h2 hn ho hap;have fZ:=(kNw h1 h2 hn ho).1.tiny;have hgo:=kT6 ⟨f1,f2,by omega,f4⟩ bG;cases hl:(kOc a (kNn r)).live
 ·obtain⟨e,hk⟩:=hgo.gone hl;rcases hk with k2|⟨k4,kk,ka⟩
  ·exact kS4 hn ho hr h1 h2 h3 bG Kd fZ hap Kd hgo e k2 (fun h=>by omega)
  ·exact kS5 hn ho hr h1 h2 h3 bG Kd fZ hap Kd hgo e k4 (fun _=>⟨ka,kk⟩)
 ·exact kUd hn ho hr h1 h2 h3 bG Kd fZ hap Kd hgo hl (kU4 (hgo.live hl) pH)
