import Derived.Test.YtmglnjmnabjjgaaGreatJLStepH
set_option maxRecDepth 100000
set_option maxHeartbeats 8000000
namespace Go.Proofs.YtmglnjmnabjjgaaGreat
open Go.RowKit
variable {W w:World}{c:NC}{n x y:NT}{a:OpP}{tl:Sl}{p:List Int×Int}{t:TypeId}{pc:PC}{P:Prop}{b:Bool}
theorem kN0 {o:OC}(h1:zI5 100 n=true)(h3:zT3 a=true)(hn:kS w c n)(ho:OkA w o a):zRb n zeroS a/\(zAh n=0->sizeT n<=100)/\(zAh a.n=0->sizeT a.n<=100):=by
 obtain⟨d,hd⟩:=hn;obtain⟨d2,hd2⟩:=ho.hn;have e1:zAh n=0->sizeT n<=100:=fun hk=>by have:=zRa hd (m:=100) Kb Kb hk h1;omega
 have e2:zAh a.n=0->sizeT a.n<=100:=fun hk=>by
  have hf:zI5 100 a.n=true:=by
   simp only[zT3,Bool.and_eq_true]at h3;exact h3.1.1.1.1.2
  have:=zRa hd2 (m:=100) Kb Kb hk hf;omega
 exact⟨⟨rfl,zXu h3,fun hk=>by have:=e1 hk;omega,fun hk=>by have:=e2 hk;omega⟩,e1,e2⟩
theorem kTv {o:OC}(h1:zI5 100 n=true)(h2:zT3 a=true)(hn:kS w c n)(ho:OkA w o a)(hap:jL n zeroS a=((x,tl),0)):
  zCx a=0/\(1<=a.k/\a.k<=8/\doO n a=(x,0)∨a.k=9/\x=n)/\sizeT n<=100/\zAh n=0/\(a.k=1->sizeT a.n<=100):=by
 obtain⟨_,e1,e2⟩:=kN0 h1 h2 hn ho;obtain⟨g1,g2,g3,g4,g5⟩:=zH8 hap;have hc:=e1 (zC1 g1);rcases g5 with⟨e9,_,_,hx⟩|⟨k1,k8,hd,_,_⟩
 ·exact⟨g4,.inr ⟨e9,congrArg Prod.fst hx⟩,hc,zC1 g1,fun e=>by omega⟩
 ·refine⟨g4,.inl ⟨k1,k8,hd⟩,hc,zC1 g1,fun e=>?_⟩;rcases zC7 k1 k8 hd with⟨_,h⟩|⟨e',_⟩|⟨e',_⟩|⟨e',_⟩|⟨e',_⟩|⟨e',_⟩|⟨e',_⟩|⟨e',_⟩
  case inl=>exact e2 (zC1 (zCd h).1)
  all_goals omega
theorem kUx {c:PC}{o:OC}{aff:Int}{r:(List Int×Int)×Bool}(hp:kAw w c p)(ho:OkA w o a)(ta:zAf a)(hl:p.1.length<=60)(hr:zEr a.k a.q a.t a.z a.x.length aff p=r):Calls Tryz.prog 20 #[.agg c.row,.agg o.row,.int .i64 aff] w (kK5 w r):=by
 have h1:=ta.hq;have h2:=ta.ht;have h3:=ta.hx;have h4:=ho.hnx;have hm:=zXz (K:=a.k) (q:=a.q) (t:=a.t) (pos:=a.z) (n:=a.x.length) (aff:=aff) (p:=p);rw[hr]at hm;rw[ho.hk,ho.hz,h4]at hr;refine(kEt hp.pa (ho.xq12 ta) (ho.xt12 ta) Kb hr).mono fun e w' h=>?_;obtain⟨v,rfl,h5,h6⟩:=h;obtain⟨A,k,d,rfl,e1,e2,e3,e4⟩:=XA.own h5 Kb;exact⟨⟨A,k,d,r.1.2⟩,rfl,⟨rfl,e1,e3,e2,e4⟩,h6⟩
structure S3 (w:World)(c:NC)(o:OC)(t:TypeId)(r:Array Value)(W:World):Prop where
 v4:jT 26 W w.heap.size c.row
 v5:jR W (w.heap.size+1) o
 v6:jT t W (w.heap.size+1+1) r
 below:Below w.heap.size w W
theorem S3.call {W':World}{o:OC}{r:Array Value}(h:S3 w c o t r W)(hb:Below W.heap.size W W'):S3 w c o t r W':=⟨h.v4.keep hb,(hb.block _ h.v5.lt).trans h.v5,h.v6.keep hb,zI h.below hb⟩
theorem kRi (w:World)(c:NC)(o:OC)(t:TypeId)(r:Array Value):∃W0,((w.alloc (.cells c.row 26)).alloc (.cells o.row 35)).alloc (.cells r t)=W0/\S3 w c o t r W0:=by
 have e1:(w.alloc (.cells c.row 26)).heap.size=w.heap.size+1:=by simp
 have e2:((w.alloc (.cells c.row 26)).alloc (.cells o.row 35)).heap.size=w.heap.size+1+1:=by simp
 have h1:=((jT.new w 26 c.row).alloc (.cells o.row 35)).alloc (.cells r t);have h2:=(jT.new (w.alloc (.cells c.row 26)) 35 o.row).alloc (.cells r t);have h3:=jT.new ((w.alloc (.cells c.row 26)).alloc (.cells o.row 35)) t r;rw[e1]at h2;rw[e2]at h3;exact⟨_,rfl,h1,h2,h3,((Kl.alloc Km _).alloc (by rw[e1];omega) _).alloc (by rw[e2];omega) _⟩
theorem kS.leaf14 (h:kS w c n):c.lf=n.lf:=by
 obtain⟨d,h⟩:=h;cases d with
 |zero=>exact h.elim
 |succ d=>
  obtain⟨PA,pc,TA,tc,KA,kc,e,_⟩:=h;simp only[NC.row,Value.agg.injEq,Array.mk.injEq,List.cons.injEq,Value.bool.injEq]at e;exact e.1
theorem kRj {r:NT×Int}(hn:kS w c n)(hp:kAw w pc p)(hE:zGm n p.1=r):Calls Tryz.prog 15 #[.agg c.row,.slice pc.A pc.n pc.c] w (zAm w r):=by
 obtain⟨x,e⟩:=r;exact(kMn hE hp.hn hp.hm hn hp.hA).mono fun e w' h=>h.nn
theorem kOc {g:Nat}(h:jT t W g pc.row):W.cell? ⟨g,0,none⟩=some (.slice pc.A pc.n pc.c)/\W.cell? ⟨g,1,none⟩=some (.int .i64 pc.x):=⟨h.cell 0 _ rfl,h.cell 1 _ rfl⟩
theorem kOm (h:P:=by
 try have dG:=hd hl
 try have dG:=hd sP
 have H1:=hd h1;try have H2:=hd h2
 try have HP:=hd hp
 try have oo:=hd hap
 try have HG:=hd hg
 try have AY:(er==0)=false:=by simpa using hne
 try have dG:=hd sP
 obtain⟨W0,hW,hst⟩:=kRi w c o 29 pc.row;have HW:=hd hW;have HS:=hd hst;have HN:=hd hn;have HO:=hd ho;clear h1;try clear h2
 try clear hp
 try clear hap
 try clear hg
 try clear h3
 try clear sP
 try clear hl
 clear hW hst hn ho;go_enter Tryz.func4,Tryz.ntmps4
 go_upto_region 1 with fail
 rw[HW.o];go_wp2_with(first
  |(go_at_call 6;refine Calls.mono (kO5 _) ?_;rintro e w1 ⟨rfl,b9⟩;have HS:=hd (HS.o.call b9);clear b9)
  |((with_reducible refine zC (ty:=26) (x:=.tmp 4) ?_);refine zB zD HS.o.v4 rfl _ rfl rfl rfl ?_)
  |(go_at_call 7;refine Calls.mono (zTe (HN.o.later HS.o.below) (by unfold zFf;omega) H1.o) ?_;rintro e w2 ⟨rfl,b9⟩;have HS:=hd (HS.o.call b9);clear b9)
  |((with_reducible refine kH (ty:=35) (x:=.tmp 5) ?_);refine zDq HS.o.v5 _ rfl Ke rfl ?_)
  |((with_reducible refine zC (ty:=35) (x:=.tmp 5) ?_);refine zG HS.o.v5 _ rfl rfl rfl ?_)
  |(go_at_call 8;refine Calls.mono (kJm (HO.o.later HS.o.below) H2.o) ?_;rintro e w3 ⟨rfl,b9⟩;have HS:=hd (HS.o.call b9);clear b9;obtain⟨y0,y1⟩:=kOc HS.o.v6)
  |(go_at_call 11;clear y0 y1;refine Calls.mono (zA4 (s:=⟨false,none,0,0,0,none,0,0,0⟩) (HN.o.later HS.o.below) (zIi.zero _) (HO.o.later HS.o.below) ou.o oo.o) ?_;rintro e w4 ⟨ca,ct,rfl,mN,hsa,b9⟩;have cM:=hd mN;have HS:=hd (HS.o.call b9);clear b9 mN hsa;dsimp only)
  |((with_reducible refine zF (ty:=26) (x:=.tmp 9) ?_);refine zA zD (r:=ca.row) (zDj w4) rfl rfl ca.one _ _ rfl rfl rfl rfl rfl ?_;intro W7 bJ aV;have bL:=hd bJ;have HT:=hd (zDk aV);clear bJ aV)
  |((with_reducible refine zF (ty:=26) (x:=.tmp 12) ?_);refine zA zD (r:=cg.row) (jT.new w5 26 _) rfl rfl cg.one _ _ rfl rfl rfl rfl rfl ?_;intro W9 ar ah;have cA:=hd ar;have aN:=hd (zN ((Below.refl w5.heap.size w5).alloc Km _) ah Km);have bL:=hd (bL.o.keep aN.o);have HS:=hd (HS.o.call aN.o);have cM:=hd (cM.o.later aN.o);have gJ:=hd (gJ.o.later aN.o);have aZ:=gJ.o.leaf14.trans dG.o;have l0:=ar.cell 0 (.bool cg.lf) rfl;rw[aZ]at l0;clear ar ah aZ)
  |((with_reducible refine zF (ty:=33) (x:=.tmp 10) ?_);refine zA zP (r:=ct.row) HT.o.2 rfl rfl ct.one _ _ rfl rfl rfl rfl rfl ?_;intro W8 bM bg;have cL:=hd (zDl HT.o.1 bg);have bL:=hd (bL.o.off bg Kb);have HS:=hd (HS.o.call cL.o);have cM:=hd (cM.o.later cL.o);obtain⟨y0,y1⟩:=kOc HS.o.v6;clear bM bg HT cL)
  |(go_at_call 15;clear y0 y1;refine Calls.mono (kRj (HN.o.later HS.o.below) (HP.o.later HS.o.below) HG.o) ?_;rintro e w5 ⟨cg,rfl,mO,b9⟩;have gJ:=hd mO.now;have HS:=hd (HS.o.call b9);have bL:=hd (bL.o.keep b9);have cM:=hd (cM.o.later b9);clear b9 mO;dsimp only)
  |((with_reducible refine kH (ty:=26) (x:=.tmp 9) ?_);refine zK zD bL.o rfl _ rfl Ke rfl ?_)
  |(go_at_call 12;refine Calls.mono (zHo (c':=(NC.mk false none 0 0 none 0 0 none 0 0)) cM.o (vh.o _) ie.o) ?_;rintro e w9 ⟨rfl,b9⟩;have HS:=hd (HS.o.call b9);clear b9)
  |fail)
 go_ret
 exact⟨rfl,HS.o.below⟩):P:=h
theorem kV2 {o:OC}(hn:kS w c n)(ho:OkA w o a)(h1:zI5 100 n=false):Calls Tryz.prog 4 #[.agg c.row,.agg o.row,.agg pc.row,.bool b] w (jW w):=by
 exact kOm
theorem kV3 {o:OC}(hn:kS w c n)(ho:OkA w o a)(h1:zI5 100 n=true)(h2:zT3 a=false):Calls Tryz.prog 4 #[.agg c.row,.agg o.row,.agg pc.row,.bool b] w (jW w):=by
 exact kOm
theorem kS5 (h:P:=by
 go_wp2_with(first
  |(go_at_call 6;refine Calls.mono (kO5 _) ?_;rintro e w1 ⟨rfl,b9⟩;have HS:=hd (HS.o.call b9);clear b9)
  |((with_reducible refine zC (ty:=26) (x:=.tmp 4) ?_);refine zB zD HS.o.v4 rfl _ rfl rfl rfl ?_)
  |(go_at_call 7;refine Calls.mono (zTe (HN.o.later HS.o.below) (by unfold zFf;omega) H1.o) ?_;rintro e w2 ⟨rfl,b9⟩;have HS:=hd (HS.o.call b9);clear b9)
  |((with_reducible refine kH (ty:=35) (x:=.tmp 5) ?_);refine zDq HS.o.v5 _ rfl Ke rfl ?_)
  |((with_reducible refine zC (ty:=35) (x:=.tmp 5) ?_);refine zG HS.o.v5 _ rfl rfl rfl ?_)
  |(go_at_call 8;refine Calls.mono (kJm (HO.o.later HS.o.below) H2.o) ?_;rintro e w3 ⟨rfl,b9⟩;have HS:=hd (HS.o.call b9);clear b9;obtain⟨y0,y1⟩:=kOc HS.o.v6)
  |(go_at_call 11;clear y0 y1;refine Calls.mono (zA4 (s:=⟨false,none,0,0,0,none,0,0,0⟩) (HN.o.later HS.o.below) (zIi.zero _) (HO.o.later HS.o.below) ou.o oo.o) ?_;rintro e w4 ⟨ca,ct,rfl,mN,hsa,b9⟩;have cM:=hd mN;have HS:=hd (HS.o.call b9);clear b9 mN hsa;dsimp only)
  |((with_reducible refine zF (ty:=26) (x:=.tmp 9) ?_);refine zA zD (r:=ca.row) (zDj w4) rfl rfl ca.one _ _ rfl rfl rfl rfl rfl ?_;intro W7 bJ aV;have bL:=hd bJ;have HT:=hd (zDk aV);clear bJ aV)
  |((with_reducible refine zF (ty:=26) (x:=.tmp 12) ?_);refine zA zD (r:=cg.row) (jT.new w5 26 _) rfl rfl cg.one _ _ rfl rfl rfl rfl rfl ?_;intro W9 ar ah;have cA:=hd ar;have aN:=hd (zN ((Below.refl w5.heap.size w5).alloc Km _) ah Km);have bL:=hd (bL.o.keep aN.o);have HS:=hd (HS.o.call aN.o);have cM:=hd (cM.o.later aN.o);have gJ:=hd (gJ.o.later aN.o);have aZ:=gJ.o.leaf14.trans dG.o;have l0:=ar.cell 0 (.bool cg.lf) rfl;rw[aZ]at l0;clear ar ah aZ)
  |((with_reducible refine zF (ty:=33) (x:=.tmp 10) ?_);refine zA zP (r:=ct.row) HT.o.2 rfl rfl ct.one _ _ rfl rfl rfl rfl rfl ?_;intro W8 bM bg;have cL:=hd (zDl HT.o.1 bg);have bL:=hd (bL.o.off bg Kb);have HS:=hd (HS.o.call cL.o);have cM:=hd (cM.o.later cL.o);obtain⟨y0,y1⟩:=kOc HS.o.v6;clear bM bg HT cL)
  |(go_at_call 15;clear y0 y1;refine Calls.mono (kRj (HN.o.later HS.o.below) (HP.o.later HS.o.below) HG.o) ?_;rintro e w5 ⟨cg,rfl,mO,b9⟩;have gJ:=hd mO.now;have HS:=hd (HS.o.call b9);have bL:=hd (bL.o.keep b9);have cM:=hd (cM.o.later b9);clear b9 mO;dsimp only)
  |((with_reducible refine kH (ty:=26) (x:=.tmp 9) ?_);refine zK zD bL.o rfl _ rfl Ke rfl ?_)
  |(go_at_call 12;refine Calls.mono (zHo (c':=(NC.mk false none 0 0 none 0 0 none 0 0)) cM.o (vh.o _) ie.o) ?_;rintro e w9 ⟨rfl,b9⟩;have HS:=hd (HS.o.call b9);clear b9)
  |fail)
 go_ret
 exact⟨rfl,HS.o.below⟩):P:=h
theorem kPp (h:P:=by
 clear h3;obtain⟨W0,hW,hst⟩:=kRi w c o 29 pc.row;have HW:=hd hW;have HS:=hd hst;have HN:=hd hn;have HO:=hd ho;clear hW hst hn ho;go_enter Tryz.func4,Tryz.ntmps4
 go_upto_region 1 with fail
 rw[HW.o];exact kS5):P:=h
theorem kV4 {o:OC}(hn:kS w c n)(ho:OkA w o a)(h1:zI5 100 n=true)(h2:zT3 a=true)(h63:pc.n<=9223372036854775807)(h3:¬(pc.n<=50/\0<=pc.x/\pc.x<=100)):Calls Tryz.prog 4 #[.agg c.row,.agg o.row,.agg pc.row,.bool b] w (jW w):=by
 have H1:=hd h1;have H2:=hd h2;clear h1 h2;by_cases c1:pc.n<=50
 ·by_cases c2:0<=pc.x
  ·have c3:¬pc.x<=100:=fun h=>h3 ⟨c1,c2,h⟩;exact kPp
  ·exact kPp
 ·exact kPp
theorem kV5 {o:OC}{er:Int}{g:NT×Int}(hn:kS w c n)(ho:OkA w o a)(hp:kAw w pc p)(h1:zI5 100 n=true)(h2:zT3 a=true)(h3:pc.n<=50/\0<=pc.x/\pc.x<=100)(hg:zGm n p.1=g)(hap:jL n zeroS a=((zeroT,zeroS),er))(hne:(er !=0)=true):Calls Tryz.prog 4 #[.agg c.row,.agg o.row,.agg pc.row,.bool b] w (jW w):=by
 have ou:=hd (kN0 h1 h2 hn ho).1;have c1:pc.n<=50:=h3.1;have c2:0<=pc.x:=h3.2.1;have c3:pc.x<=100:=h3.2.2;obtain⟨L9,sP⟩:∃L9,g.1.lf=L9:=⟨_,rfl⟩;have vh:=hd (fun W9:World=>(show kS W9 (NC.mk false none 0 0 none 0 0 none 0 0) zeroT from⟨1,zEh _ _⟩));have ie:=hd (zD8 zeroT);exact kOm
theorem kV6 {o:OC}{er:Int}(hn:kS w c n)(ho:OkA w o a)(hp:kAw w pc p)(h1:zI5 100 n=true)(h2:zT3 a=true)(h3:pc.n<=50/\0<=pc.x/\pc.x<=100)(hg:zGm n p.1=(y,er))(hap:jL n zeroS a=((x,tl),0))(hne:(er !=0)=true):Calls Tryz.prog 4 #[.agg c.row,.agg o.row,.agg pc.row,.bool b] w (jW w):=by
 obtain⟨L9,sP⟩:∃L9,y.lf=L9:=⟨_,rfl⟩;have ou:=hd (kN0 h1 h2 hn ho).1;have c1:pc.n<=50:=h3.1;have c2:0<=pc.x:=h3.2.1;have c3:pc.x<=100:=h3.2.2;exact kOm
theorem kV7 {o:OC}(hn:kS w c n)(ho:OkA w o a)(hp:kAw w pc p)(h1:zI5 100 n=true)(h2:zT3 a=true)(h3:pc.n<=50/\0<=pc.x/\pc.x<=100)(hg:zGm n p.1=(y,0))(hap:jL n zeroS a=((x,tl),0))(hl:y.lf=false):Calls Tryz.prog 4 #[.agg c.row,.agg o.row,.agg pc.row,.bool b] w (jW w):=by
 have ou:=hd (kN0 h1 h2 hn ho).1;have c1:pc.n<=50:=h3.1;have c2:0<=pc.x:=h3.2.1;have c3:pc.x<=100:=h3.2.2;exact kOm
theorem kOy (h:P:=by
 go_wp2_with(first
  |(go_at_call 19;refine Calls.mono (HT.o▸kP0 _ _ _ _ _ Z Km iy.o ku.o) ?_;rintro e AZ ⟨rfl,b9⟩;have HS:=hd (HS.o.call b9);have qV:=hd b9;clear b9)
  |(go_at_call 19;refine Calls.mono (HT.o▸kP0 _ _ _ _ _ Z Km iy.o ku.o) ?_;rintro e AZ ⟨rfl,b9⟩;have HS:=hd (HS.o.call b9);clear b9)
  |((with_reducible refine zC (ty:=29) (x:=.tmp 6) ?_);refine zB zW HS.o.v6 rfl _ rfl rfl rfl ?_)
  |((with_reducible refine zC (ty:=35) (x:=.tmp 5) ?_);refine zG HS.o.v5 _ rfl rfl rfl ?_)
  |(go_at_call 20;refine Calls.mono (kUx (HP.o.later HS.o.below) (HO.o.later HS.o.below) ou.o.tiny vk.o HM.o) ?_;rintro e vo ⟨cq,rfl,k1,b9⟩;have vq:=hd k1;have HS:=hd (HS.o.call b9);have qW:=hd (qV.o.trans (b9.mono qV.o.size));clear b9 k1;dsimp only)
  |((with_reducible refine zF (ty:=29) (x:=.tmp 20) ?_);refine zA zW (r:=cq.row) (jT.new vo 29 _) rfl rfl cq.one _ _ rfl rfl rfl rfl rfl ?_;intro CK ar ah;have vr:=hd ar;have b9:=zN ((Below.refl vo.heap.size vo).alloc Km _) ah Km;have HS:=hd (HS.o.call b9);have vq:=hd (vq.o.later b9);have qX:=hd (qW.o.trans (b9.mono qW.o.size));clear b9 ar ah)
  |((with_reducible refine kH (ty:=29) (x:=.tmp 20) ?_);refine zK zW vr.o rfl _ rfl Ke rfl ?_)
  |(go_at_call 18;refine Calls.mono (kTu (iy.o.later ku.o qX.o) (fun q h=>Nat.lt_of_lt_of_le (ku.o q h) qX.o.size) vq.o xH.o vv.o) ?_;rintro e CL ⟨rfl,b9⟩;have HS:=hd (HS.o.call b9);clear b9)
  |fail)
 go_ret
 exact⟨rfl,HS.o.below⟩):P:=h
theorem kVk {o:OC}(hn:kS w c n)(ho:OkA w o a)(hp:kAw w pc p)(h1:zI5 100 n=true)(h2:zT3 a=true)(h3:pc.n<=50/\0<=pc.x/\pc.x<=100)(hg:zGm n p.1=(y,0))(hgo:kB n p.1=some y)(hap:jL n zeroS a=((x,tl),0))(hl:y.lf=true)
  (pK:zCx a=0) (h19:1<=a.k/\a.k<=8/\doO n a=(x,0)∨a.k=9/\x=n) (l6:sizeT n<=1000) (hcn:zAh n=0) (hsm:a.k=1->sizeT a.n<=1000):Calls Tryz.prog 4 #[.agg c.row,.agg o.row,.agg pc.row,.bool b] w (jW w):=by
 have dG:=hd hl;have xI:=hd hgo;have pY:=hd l6;have xJ:=hd (fun(w0 w:World)(v:Value)(F:Nat->Prop)(hG:Gh w v (kQ3 n 0) F)(hF:∀q,F q->w0.heap.size<=q/\q<w.heap.size)(ho':OkA w0 o a)(hw:Below w0.heap.size w0 w)=>kUw hG hF ho' hw (kN0 h1 h2 hn ho).1.tiny pK h19 (kRc n 0) l6 hcn hsm (kS0 n 0));clear hl hgo h19 l6 hcn hsm pK;have H1:=hd h1;have H2:=hd h2;have ou:=hd (kN0 h1 h2 hn ho).1;have HP:=hd hp;have oo:=hd hap;have HG:=hd hg;have c1:pc.n<=50:=h3.1;have c2:0<=pc.x:=h3.2.1;have c3:pc.x<=100:=h3.2.2;clear h1 h2 hp hap hg h3;obtain⟨W0,hW,hst⟩:=kRi w c o 29 pc.row;have HW:=hd hW;have HS:=hd hst;have HN:=hd hn;have HO:=hd ho;clear hW hst hn ho;go_enter Tryz.func4,Tryz.ntmps4
 go_upto_region 1 with fail
 rw[HW.o];go_upto_region 9 with(first
  |(go_at_call 6;refine Calls.mono (kO5 _) ?_;rintro e w1 ⟨rfl,b9⟩;have HS:=hd (HS.o.call b9);clear b9)
  |((with_reducible refine zC (ty:=26) (x:=.tmp 4) ?_);refine zB zD HS.o.v4 rfl _ rfl rfl rfl ?_)
  |(go_at_call 7;refine Calls.mono (zTe (HN.o.later HS.o.below) (by unfold zFf;omega) H1.o) ?_;rintro e w2 ⟨rfl,b9⟩;have HS:=hd (HS.o.call b9);clear b9)
  |((with_reducible refine kH (ty:=35) (x:=.tmp 5) ?_);refine zDq HS.o.v5 _ rfl Ke rfl ?_)
  |((with_reducible refine zC (ty:=35) (x:=.tmp 5) ?_);refine zG HS.o.v5 _ rfl rfl rfl ?_)
  |(go_at_call 8;refine Calls.mono (kJm (HO.o.later HS.o.below) H2.o) ?_;rintro e w3 ⟨rfl,b9⟩;have HS:=hd (HS.o.call b9);clear b9;obtain⟨y0,y1⟩:=kOc HS.o.v6)
  |(go_at_call 11;clear y0 y1;refine Calls.mono (zA4 (s:=⟨false,none,0,0,0,none,0,0,0⟩) (HN.o.later HS.o.below) (zIi.zero _) (HO.o.later HS.o.below) ou.o oo.o) ?_;rintro e w4 ⟨ca,ct,rfl,mN,hsa,b9⟩;have cM:=hd mN;have HS:=hd (HS.o.call b9);clear b9 mN hsa;dsimp only)
  |((with_reducible refine zF (ty:=26) (x:=.tmp 9) ?_);refine zA zD (r:=ca.row) (zDj w4) rfl rfl ca.one _ _ rfl rfl rfl rfl rfl ?_;intro W7 bJ aV;have bL:=hd bJ;have HT:=hd (zDk aV);clear bJ aV)
  |((with_reducible refine zF (ty:=33) (x:=.tmp 10) ?_);refine zA zP (r:=ct.row) HT.o.2 rfl rfl ct.one _ _ rfl rfl rfl rfl rfl ?_;intro W8 bM bg;have cL:=hd (zDl HT.o.1 bg);have bL:=hd (bL.o.off bg Kb);have HS:=hd (HS.o.call cL.o);have cM:=hd (cM.o.later cL.o);obtain⟨y0,y1⟩:=kOc HS.o.v6;clear bM bg HT cL)
  |(go_at_call 15;clear y0 y1;refine Calls.mono (kRj (HN.o.later HS.o.below) (HP.o.later HS.o.below) HG.o) ?_;rintro e w5 ⟨cg,rfl,mO,b9⟩;have gJ:=hd mO.now;have HS:=hd (HS.o.call b9);have bL:=hd (bL.o.keep b9);have cM:=hd (cM.o.later b9);clear b9 mO;dsimp only)
  |((with_reducible refine zF (ty:=26) (x:=.tmp 12) ?_);refine zA zD (r:=cg.row) (jT.new w5 26 _) rfl rfl cg.one _ _ rfl rfl rfl rfl rfl ?_;intro W9 ar ah;have cA:=hd ar;have aN:=hd (zN ((Below.refl w5.heap.size w5).alloc Km _) ah Km);have bL:=hd (bL.o.keep aN.o);have HS:=hd (HS.o.call aN.o);have cM:=hd (cM.o.later aN.o);have gJ:=hd (gJ.o.later aN.o);have aZ:=gJ.o.leaf14.trans dG.o;have l0:=ar.cell 0 (.bool cg.lf) rfl;rw[aZ]at l0;clear ar ah aZ)
  |((with_reducible refine kH (ty:=26) (x:=.tmp 9) ?_);refine zK zD bL.o rfl _ rfl Ke rfl ?_)
  |(go_at_call 12;refine Calls.mono (zHo (c':=(NC.mk false none 0 0 none 0 0 none 0 0)) cM.o (vh.o _) ie.o) ?_;rintro e w9 ⟨rfl,b9⟩;have HS:=hd (HS.o.call b9);clear b9))
 clear l0 cA bL cM gJ;go_upto_region 10 with(first
  |((with_reducible refine zC (ty:=26) (x:=.tmp 4) ?_);refine zB zD HS.o.v4 rfl _ rfl rfl rfl ?_)
  |(go_at_call 16;refine Calls.mono (kPi (HN.o.later HS.o.below) (Int.le_refl 0) (by have:=pY.o;omega)) ?_;rintro e g9 ⟨pg,rfl,k1,k2⟩;have qY:=hd k1;have HS:=hd (HS.o.call k2);clear k1 k2))
 have dP:=hd (HO.o.later HS.o.below);have sQ:=HS;go_upto_region 11 with(first
  |((with_reducible refine zC (ty:=26) (x:=.tmp 4) ?_);refine zB zD HS.o.v4 rfl _ rfl rfl rfl ?_)
  |(go_at_call 16;refine Calls.mono (kPi (HN.o.later HS.o.below) (Int.le_refl 0) (by have:=pY.o;omega)) ?_;rintro e g10 ⟨ph,rfl,k1,k2⟩;have xK:=hd k1;have jz:=hd k2;have HS:=hd (HS.o.call k2);clear k1 k2))
 have qY:=hd (qY.o.later (fun q h=>h.2) jz.o);obtain⟨g2,hg2,hc2⟩:=xJ.o g9 g10 ph _ xK.o (fun q h=>h) dP.o jz.o;have Ba:=hd hg2;have xL:=hd hc2;clear hg2 hc2;go_upto_region 12 with(first
  |((with_reducible refine zC (ty:=35) (x:=.tmp 5) ?_);refine zG HS.o.v5 _ rfl rfl rfl ?_)
  |(go_at_call 17;refine xL.o.mono ?_;rintro e g11 ⟨F2,rfl,h1,h2,h3⟩;have h5:=h3.size;have h4:=h3.below (B:=g9.heap.size) jz.o.size (fun q _ h=>h.1);have iy:=hd h1;have fJ:=hd (fun q(h:F2 q)=>(show q<g11.heap.size from(h2 q h).elim (fun h=>by omega) (fun h=>h.2)));have cv:=hd (jz.o.trans h4);clear h1 h2 h3 h5;have dH:=hd h4;clear h4))
 have qY:=hd (qY.o.frame (w':=g11) fun q hq=>dH.o.block q hq.2);have HS:=hd (sQ.o.call cv.o);have xM:=cv.o.size;obtain⟨y1,hy1,_⟩:=kN7 p.1 (kQ3 n 0) n y (kRc n 0) xI.o;obtain⟨Z,hZ⟩:∃Z,kPv (kQ3 n 0) p b=Z:=⟨_,rfl⟩;have HZ:=hd hZ;have vw:=hd hy1;clear hZ hy1 xL xK xJ dP sQ dH cv jz oo HG;have HX:=hd HP.o.hx;go_upto_region 13 with(first
  |((with_reducible refine zC (ty:=29) (x:=.tmp 6) ?_);refine zB zW HS.o.v6 rfl _ rfl rfl rfl ?_)
  |(go_at_call 18;refine Calls.mono (kS4 qY.o (fun q h=>by have:=h.2;omega) (HP.o.later HS.o.below) vw.o (by rw[HX.o];exact c2) (by rw[HX.o];omega) HZ.o) ?_;rintro e CM ⟨rfl,b9⟩;have fh:=hd b9;have HS:=hd (HS.o.call b9);clear b9))
 have iy:=hd (iy.o.later fJ.o fh.o);have ku:=hd (fun q(h:F2 q)=>Nat.lt_of_lt_of_le (fJ.o q h) fh.o.size);by_cases hz:Z<0
 ·clear c1 c2 c3;exact kOy
 have xH:=hd (show 0<=Z by omega);obtain⟨T,hT⟩:∃T,decide (Z ∈ allR g2)=T:=⟨_,rfl⟩;have HT:=hd hT;clear hT;cases T
 ·clear c1 c2 c3;exact kOy
 obtain⟨yy,i,e1,e2,e3,e4⟩:=kRq (g:=kQ3 n 0) (p:=p) (b:=b) (by rw[HZ.o];exact xH.o);have ey:y1=yy:=by
  have h9:=vw.o;rw[e1]at h9;injection h9 with h9;exact h9.symm
 subst ey;have hrun:=Ba.o p b y1 y i xI.o dG.o vw.o e2 e3 (by rw[HX.o];exact c2) (by rw[HX.o];omega) (by rw[<-e4,HZ.o];exact of_decide_eq_true HT.o);rw[<-e4,HZ.o]at hrun;obtain⟨q,hm,hb⟩:=hrun;have HM:=hd hm;have vv:=hd hb;have vk:=hd (show p.1.length<=60 by rw[HP.o.hn];omega);clear hm hb e1 e2 e3 e4 c1 c2 c3;have hzz:(Z==Z)=true:=by simp
 have e1:(Z<0)=False:=by simp;omega
 cases b
 ·exact kOy
 ·exact kOy
theorem kTw {o:OC}(hn:kS w c n)(ho:OkA w o a)(hl:p.1.length=pc.n)(hx:p.2=pc.x)(hc:pc.n<=pc.c)(hm:pc.n<=9223372036854775807)(hA:IL w w.heap.size pc.A p.1):Calls Tryz.prog 4 #[.agg c.row,.agg o.row,.agg pc.row,.bool b] w (jW w):=by
 cases h1:zI5 100 n
 ·exact kV2 hn ho h1
 cases h2:zT3 a
 ·exact kV3 hn ho h1 h2
 by_cases h3:pc.n<=50/\0<=pc.x/\pc.x<=100
 case neg=>exact kV4 hn ho h1 h2 hm h3
 have hp:kAw w pc p:=⟨hx,hl,hc,by omega,hA⟩;obtain⟨⟨⟨x,tl⟩,er⟩,hap⟩:∃r,jL n zeroS a=r:=⟨_,rfl⟩;obtain⟨⟨y,eg⟩,hg⟩:∃r,zGm n p.1=r:=⟨_,rfl⟩;by_cases h0:er=0
 ·subst h0;obtain⟨f1,f2,f3,f4,f5⟩:=kTv h1 h2 hn ho hap;by_cases hg0:eg=0
  ·subst hg0;have hgo:kB n p.1=some y:=by
    unfold zGm at hg;cases h:kB n p.1 with
    |none=>rw[h]at hg;exact absurd (zO hg).2 Kd
    |some m=>rw[h]at hg;exact congrArg some (zO hg).1
   cases aZ:y.lf
   ·exact kV7 hn ho hp h1 h2 h3 hg hap aZ
   ·exact kVk hn ho hp h1 h2 h3 hg hgo hap aZ f1 f2 Kb f4 (fun e=>Nat.le_trans (f5 e) Kb)
  ·exact kV6 hn ho hp h1 h2 h3 hg hap (by simpa using hg0)
 ·have hz:=zJk (n:=n) (s:=zeroS) (o:=a) (by rw[hap];exact h0);rw[hap]at hz;dsimp only at hz;rw[hz]at hap;exact kV5 hn ho hp h1 h2 h3 hg hap (by simpa using h0)
