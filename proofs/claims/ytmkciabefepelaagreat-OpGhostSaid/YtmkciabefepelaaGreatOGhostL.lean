import Derived.Test.YtmkciabefepelaaGreatJUDo
import Derived.Test.YtmkciabefepelaaGreatTPaths
set_option maxRecDepth 100000
set_option maxHeartbeats 8000000
namespace Go.Proofs.YtmkciabefepelaaGreat
open Go.RowKit
variable {l p:List Int}{w:World}{n x:NT}{a:OpP}{c:NC}{s:SC}{sl:Sl}
theorem kOu (h:jI l=true):InI l:=fun j hj=>by
 have:=(zDf l).1 h j hj;omega
mutual
theorem kPv :∀(n R:NT)(q p:List Int),kB R q=some n->p ∈ kN9 false n q->∃y,kB R p=some y
 |.mk lf ps tx ks,R,q,p=>fun h hp=>by
  rw[kN9,List.mem_append]at hp;rcases hp with hp|hp
  ·simp at hp;subst hp;exact⟨_,h⟩
  ·exact kPw ks R (.mk lf ps tx ks) q p 0 h (fun j m hm=>by rw[Nat.zero_add];exact hm) hp
theorem kPw :∀(l:List NT)(R x:NT)(q p:List Int)(i:Nat),kB R q=some x->(∀(j:Nat)(m:NT),l[j]? =some m->x.ks[i+j]? =some m)->p ∈ pathsK false l i q->∃y,kB R p=some y
 |[],R,x,q,p,i=>fun h hk hp=>by simp[pathsK]at hp
 | k::r,R,x,q,p,i=>fun h hk hp=>by
  rw[pathsK,List.mem_append]at hp;rcases hp with hp|hp
  ·exact kPv k R (q++[(i:Int)]) p (kN2 h (hk 0 k rfl)) hp
  ·exact kPw r R x q p (i+1) h (fun j m hm=>by
    have h9:=hk (j+1) m (by simpa using hm);rwa[show i+(j+1)=i+1+j by omega]at h9) hp
end
theorem kSc (n:NT)(p:List Int)(h:p ∈ kN9 false n []):∃y,kB n p=some y:=kPv n n [] p rfl h
theorem kS4 {u v:Value}{m:List Int}{r:Bool}(hp:XA w u l)(hq:XA w v m)(hr:zBu l m=r):Calls Tryz.prog 29 #[u,v] w (jA (.bool r) w):=by
 obtain⟨A,n,c,rfl,rfl,h2,_,h3⟩:=hp;obtain⟨B,k,d,rfl,rfl,g2,_,g3⟩:=hq;subst hr;exact zLw (zYe A B l m c d w Kb Kb h3 g3)
theorem kRi {u:List Int}{i:Nat}(h:jI p=true)(hp:p=u++[((i+1:Nat):Int)]):jI (u++[(i:Int)])=true:=by
 subst hp;unfold jI at h⊢;rw[List.all_append,Bool.and_eq_true]at h⊢;refine⟨h.1,?_⟩;have h2:=h.2;rw[List.all_cons,List.all_nil,Bool.and_true,Bool.and_eq_true,decide_eq_true_iff,decide_eq_true_iff]at h2⊢;omega
theorem kSp (iR:sizeT n<=1000)(h19:1<=a.k/\a.k<=8/\doO n a=(x,0)∨a.k=9/\x=n)(e:a.k=3):∃u i,a.q=u++[((i+1:Nat):Int)]/\i<=1000:=by
 rcases h19 with⟨h1,h8,hd⟩|⟨h9,_⟩
 ·rcases zC7 h1 h8 hd with⟨e2,h⟩|⟨e2,h⟩|⟨e2,h⟩|⟨e2,h⟩|⟨e2,h⟩|⟨e2,h⟩|⟨e2,h⟩|⟨e2,h⟩
  case inr.inr.inl=>
   obtain⟨u,i,y,b,k,hf⟩:=zC5 h;have:=kNr iR hf.at_;have:=(List.getElem?_eq_some_iff.1 hf.k_).1;exact⟨u,i,hf.path,by omega⟩
  all_goals omega
 ·omega
theorem kS5 {W:World}{c:OC}{u:Value}{r:List Int×Bool}(ha:OkA W c a)(ta:zAf a)(hp:XA W u p)(hr:jF a.k a.q a.t a.z p=r):Calls Tryz.prog 26 #[u,.agg c.row] W (kBb W r):=by
 rw[ha.hk,ha.hz]at hr;exact kIh (K:=c.k) (pos:=c.z) hp (ha.xq12 ta) (ha.xt12 ta) hr
theorem kSq {o:OC}(hn:kS w c n)(hs:zB1 w s sl)(ho:OkA w o a)(hf:zB8 n sl a=false):Calls Tryz.prog 6 #[.agg c.row,.agg s.row,.agg o.row] w (jW w):=by
 have HN:=hd hn;have dv:=hd hs;have HO:=hd ho;have HF:=hd hf;clear hn hs ho hf;obtain⟨W0,hW,hst⟩:=kN w c s o;have HW:=hd hW;have HS:=hd hst;clear hW hst;go_enter Tryz.func6,Tryz.ntmps6
 go_upto_region 1 with fail
 rw[HW.o];go_wp2_with(first
  |((with_reducible refine zC (ty:=26) (x:=.tmp 3) ?_);refine zB zD HS.o.v3 rfl _ rfl rfl rfl ?_)
  |((with_reducible refine zC (ty:=33) (x:=.tmp 4) ?_);refine zB zP HS.o.v4 rfl _ rfl rfl rfl ?_)
  |((with_reducible refine zC (ty:=35) (x:=.tmp 5) ?_);refine zG HS.o.v5 _ rfl rfl rfl ?_)
  |(go_at_call 10;refine Calls.mono (jG _) ?_;rintro e w1 ⟨rfl,b9⟩;have HS:=hd (HS.o.call b9);clear b9)
  |(go_at_call 11;refine Calls.mono (zAq (HN.o.later HS.o.below) (dv.o.later HS.o.below) (HO.o.later HS.o.below) HF.o) ?_;rintro e w2 ⟨rfl,b9⟩;have HS:=hd (HS.o.call b9);clear b9))
 go_ret
 exact⟨rfl,HS.o.below⟩
theorem kSr {o:OC}{er:Int}(hn:kS w c n)(hs:zB1 w s sl)(ho:OkA w o a)(hf:zB8 n sl a=true)(hap:jL n sl a=((zeroT,zeroS),er))(hne:(er !=0)=true):Calls Tryz.prog 6 #[.agg c.row,.agg s.row,.agg o.row] w (jW w):=by
 have tz:=hd hap;clear hap;have HN:=hd hn;have dv:=hd hs;have HO:=hd ho;have HF:=hd hf;have uI:=hd (jE hf hn ho).1;clear hn hs ho hf;obtain⟨W0,hW,hst⟩:=kN w c s o;have HW:=hd hW;have HS:=hd hst;clear hW hst;go_enter Tryz.func6,Tryz.ntmps6
 go_upto_region 1 with fail
 rw[HW.o];go_upto_region 6 with(first
  |((with_reducible refine zC (ty:=26) (x:=.tmp 3) ?_);refine zB zD HS.o.v3 rfl _ rfl rfl rfl ?_)
  |((with_reducible refine zC (ty:=33) (x:=.tmp 4) ?_);refine zB zP HS.o.v4 rfl _ rfl rfl rfl ?_)
  |((with_reducible refine zC (ty:=35) (x:=.tmp 5) ?_);refine zG HS.o.v5 _ rfl rfl rfl ?_)
  |(go_at_call 10;refine Calls.mono (jG _) ?_;rintro e w1 ⟨rfl,b9⟩;have HS:=hd (HS.o.call b9);clear b9)
  |(go_at_call 11;refine Calls.mono (zAq (HN.o.later HS.o.below) (dv.o.later HS.o.below) (HO.o.later HS.o.below) HF.o) ?_;rintro e w2 ⟨rfl,b9⟩;have HS:=hd (HS.o.call b9);clear b9)
  |(go_at_call 13;refine Calls.mono (zA4 (HN.o.later HS.o.below) (dv.o.later HS.o.below) (HO.o.later HS.o.below) uI.o tz.o) ?_;rintro e w3 ⟨ca,ct,rfl,nL,hsa,b9⟩;have nM:=hd nL;have tA:=hd hsa;have HS:=hd (HS.o.call b9);clear b9 nL hsa;dsimp only)
  |((with_reducible refine zF (ty:=26) (x:=.tmp 7) ?_);refine zA zD (r:=ca.row) (zDj w3) rfl rfl ca.one _ _ rfl rfl rfl rfl rfl ?_;intro W7 bT bw;have cT:=hd bT;have HT:=hd (zDk bw);clear bT bw)
  |((with_reducible refine zF (ty:=33) (x:=.tmp 8) ?_);refine zA zP (r:=ct.row) HT.o.2 rfl rfl ct.one _ _ rfl rfl rfl rfl rfl ?_;intro W8 bU bE;have bh:=hd bU;have cU:=hd (zDl HT.o.1 bE);have cT:=hd (cT.o.off bE Kb);clear bU bE))
 have bv:=hd (show St5 w c s o w3.heap.size (w3.heap.size+1) ca ct W8 from⟨HS.o.call cU.o,cT.o,bh.o⟩);have pR:=hd (nM.o.later cU.o);have xB:=hd (tA.o.later cU.o);clear HS nM tA cT bh HT cU;obtain⟨g7,pS⟩:∃g,w3.heap.size=g:=⟨_,rfl⟩;rw[pS]at bv;try rw[pS]
 clear pS;have Dt:=hd (fun W9:World=>(show kS W9 (NC.mk false none 0 0 none 0 0 none 0 0) zeroT from⟨1,zEh _ _⟩));have ky:=hd (zD8 zeroT);go_wp2_with(first
  |((with_reducible refine zC (ty:=26) (x:=.tmp 7) ?_);refine zB zD bv.o.v7 rfl _ rfl rfl rfl ?_)
  |(go_at_call 15;refine Calls.mono (zHo (c':=(NC.mk false none 0 0 none 0 0 none 0 0)) pR.o (Dt.o _) ky.o) ?_;rintro e w9 ⟨rfl,b9⟩;have bv:=hd (bv.o.call b9);clear b9))
 go_ret
 exact⟨rfl,bv.o.st.below⟩
theorem kO2 {P:Prop}(h:P:=by
 have xC:=hd mM;have Du:=hd (kP e4);have mL:=hd (pR.o.later (tB.o.trans (bc.o.mono tB.o.size)));clear mM qW dO e2 e3 e4;go_wp2_with(first
  |(go_at_call 27;refine Calls.mono (kN5 xC.o uJ.o) ?_;rintro e Dv ⟨rfl,hwf⟩;have hwf:=hwf.symm;subst hwf)
  |((with_reducible refine zC (ty:=26) (x:=.tmp 7) ?_);refine zB zD bD.o.v7 rfl _ rfl rfl rfl ?_)
  |(go_at_call 30;refine Calls.mono (kFp mL.o uJ.o Du.o) ?_;rintro e Dw ⟨cm,rfl,hst,b9⟩;have bc:=hd (bc.o.trans (b9.mono bc.o.size));clear hst b9)
  |((with_reducible refine zF (ty:=26) (x:=.tmp 20) ?_);refine zA zD (r:=cm.row) (jT.new Dw _ _) rfl rfl cm.one _ _ rfl rfl rfl rfl rfl ?_;intro EG hv ho;have bc:=hd (zN (bc.o.alloc bc.o.size _) ho bc.o.size);clear hv ho)
  |fail)
 go_roundw
 case rel=>exact⟨k+1,by go_num,by omega,hd (aH.o.trans (bc.o.mono aH.o.size))⟩
 case measure=>simp[intOf];omega):P:=h
theorem kSd {o:OC}{tl:Sl}(hn:kS w c n)(hs:zB1 w s sl)(ho:OkA w o a)(hf:zB8 n sl a=true)(hap:jL n sl a=((x,tl),0))(z6:zCx a=0)(h19:1<=a.k/\a.k<=8/\doO n a=(x,0)∨a.k=9/\x=n)(iR:sizeT n<=1000)(hcn:zAh n=0)(hsm:a.k=1->sizeT a.n<=1000)(rf:sizeT x<=1000):Calls Tryz.prog 6 #[.agg c.row,.agg s.row,.agg o.row] w (jW w):=by
 have tz:=hd hap;have l9:=hd iR;have qX:=hd rf;have za:=hd hcn;have z7:=hd (fun(w0 w:World)(v:Value)(F:Nat->Prop)(hG:Gh w v (kR9 n 0) F)(hF:∀q,F q->w0.heap.size<=q/\q<w.heap.size)(ho':OkA w0 o a)(hw:Below w0.heap.size w0 w)=>kSy hG hF ho' hw (jE hf hn ho).1.tiny z6 h19 (kQv n 0) iR hcn hsm);have Dx:=hd (fun(e3:a.k=3)=>kSp iR h19 e3);clear hap h19 iR hsm hcn rf z6;have HN:=hd hn;have dv:=hd hs;have HO:=hd ho;have HF:=hd hf;have uI:=hd (jE hf hn ho).1;clear hn hs ho hf;obtain⟨W0,hW,hst⟩:=kN w c s o;have HW:=hd hW;have HS:=hd hst;clear hW hst;go_enter Tryz.func6,Tryz.ntmps6
 go_upto_region 1 with fail
 rw[HW.o];go_upto_region 6 with(first
  |((with_reducible refine zC (ty:=26) (x:=.tmp 3) ?_);refine zB zD HS.o.v3 rfl _ rfl rfl rfl ?_)
  |((with_reducible refine zC (ty:=33) (x:=.tmp 4) ?_);refine zB zP HS.o.v4 rfl _ rfl rfl rfl ?_)
  |((with_reducible refine zC (ty:=35) (x:=.tmp 5) ?_);refine zG HS.o.v5 _ rfl rfl rfl ?_)
  |(go_at_call 10;refine Calls.mono (jG _) ?_;rintro e w1 ⟨rfl,b9⟩;have HS:=hd (HS.o.call b9);clear b9)
  |(go_at_call 11;refine Calls.mono (zAq (HN.o.later HS.o.below) (dv.o.later HS.o.below) (HO.o.later HS.o.below) HF.o) ?_;rintro e w2 ⟨rfl,b9⟩;have HS:=hd (HS.o.call b9);clear b9)
  |(go_at_call 13;refine Calls.mono (zA4 (HN.o.later HS.o.below) (dv.o.later HS.o.below) (HO.o.later HS.o.below) uI.o tz.o) ?_;rintro e w3 ⟨ca,ct,rfl,nL,hsa,b9⟩;have nM:=hd nL;have tA:=hd hsa;have HS:=hd (HS.o.call b9);clear b9 nL hsa;dsimp only)
  |((with_reducible refine zF (ty:=26) (x:=.tmp 7) ?_);refine zA zD (r:=ca.row) (zDj w3) rfl rfl ca.one _ _ rfl rfl rfl rfl rfl ?_;intro W7 bT bw;have cT:=hd bT;have HT:=hd (zDk bw);clear bT bw)
  |((with_reducible refine zF (ty:=33) (x:=.tmp 8) ?_);refine zA zP (r:=ct.row) HT.o.2 rfl rfl ct.one _ _ rfl rfl rfl rfl rfl ?_;intro W8 bU bE;have bh:=hd bU;have cU:=hd (zDl HT.o.1 bE);have cT:=hd (cT.o.off bE Kb);clear bU bE))
 have bv:=hd (show St5 w c s o w3.heap.size (w3.heap.size+1) ca ct W8 from⟨HS.o.call cU.o,cT.o,bh.o⟩);have pR:=hd (nM.o.later cU.o);have xB:=hd (tA.o.later cU.o);clear HS nM tA cT bh HT cU;obtain⟨g7,pS⟩:∃g,w3.heap.size=g:=⟨_,rfl⟩;rw[pS]at bv;try rw[pS]
 clear pS;go_upto_region 9 with(first
  |((with_reducible refine zC (ty:=26) (x:=.tmp 3) ?_);refine zB zD bv.o.st.v3 rfl _ rfl rfl rfl ?_)
  |(go_at_call 23;refine Calls.mono (kPc (HN.o.later bv.o.st.below) (Int.le_refl 0) (by have:=l9.o;omega)) ?_;rintro e w9 ⟨pg,rfl,h1,h2⟩;have nP:=hd h1;have z8:=hd h2;have bv:=hd (bv.o.call h2);clear h1 h2)
  |fail)
 have ej:=hd (HO.o.later bv.o.st.below);have qP:=bv;go_upto_region 10 with(first
  |((with_reducible refine zC (ty:=26) (x:=.tmp 3) ?_);refine zB zD bv.o.st.v3 rfl _ rfl rfl rfl ?_)
  |(go_at_call 23;refine Calls.mono (kPc (HN.o.later bv.o.st.below) (Int.le_refl 0) (by have:=l9.o;omega)) ?_;rintro e Dy ⟨ph,rfl,h1,h2⟩;have Aa:=hd h1;have kz:=hd h2;have bv:=hd (bv.o.call h2);clear h1 h2)
  |fail)
 have nP:=hd (nP.o.later (fun q h=>h.2) kz.o);obtain⟨g2,hg2,hc2⟩:=z7.o w9 Dy ph _ Aa.o (fun q h=>h) ej.o kz.o;have qI:=hd hg2;have Ab:=hd hc2;clear hg2 hc2;have au:=hd uI.o.tiny;go_upto_region 11 with(first
  |((with_reducible refine zC (ty:=35) (x:=.tmp 5) ?_);refine zG bv.o.st.v5 _ rfl rfl rfl ?_)
  |(go_at_call 24;refine Ab.o.mono ?_;rintro e xD ⟨F2,rfl,h1,h2,h3⟩;have h5:=h3.size;have h4:=h3.below (B:=w9.heap.size) kz.o.size (fun q _ h=>h.1);have iX:=hd h1;have ki:=hd (fun q(h:F2 q)=>(show q<xD.heap.size from(h2 q h).elim (fun h=>by omega) (fun h=>h.2)));have cR:=hd (kz.o.trans h4);clear h1 h2 h3 h5;have bc:=hd h4;clear h4)
  |fail)
 have nP:=hd (nP.o.frame (w':=xD) fun q hq=>bc.o.block q hq.2);have bv:=hd (qP.o.call cR.o);obtain⟨dn,Ac⟩:=HN.o;have yN:=hd Ac;have Ad:=cR.o.size;have cQ:=hd (z8.o.trans (cR.o.mono z8.o.size));clear Ac Ab Aa z7 ej qP bc cR kz;go_wp2_with(first
  |((with_reducible refine zC (ty:=26) (x:=.tmp 3) ?_);refine zB zD bv.o.st.v3 rfl _ rfl rfl rfl ?_)
  |(go_at_call 25;refine Calls.mono (kRl dn xD _ n (yN.o.later bv.o.st.below) (by have:=l9.o;omega)) ?_;rintro e Ae ⟨A5,c5,rfl,tC,b5⟩;have qE:=hd tC.rl;have cX:=hd b5;have cQ:=hd (cQ.o.trans (b5.mono cQ.o.size));have bv:=hd (bv.o.call b5);clear tC b5)
  |fail)
 obtain⟨L,hL⟩:∃L,kN9 false n []=L:=⟨_,rfl⟩;have Ai:∀p,p ∈ L->(∃y,kB n p=some y)/\p.length<=1000:=fun p hp=>⟨kSc n p (by rw[hL];exact hp),by
  have h9:=kPg false n [] p (by rw[hL];exact hp);have:=l9.o;rw[List.length_nil]at h9;omega⟩
 rw[hL]at qE⊢;obtain⟨N,hN⟩:∃N,L.length=N:=⟨_,rfl⟩;have EH:N<=1000:=by have:=kPt false n [];have:=l9.o;rw[hL,hN]at*;omega
 rw[hN];have uK:=hd Ai;have xE:=hd hN;have nP:=hd (nP.o.later (fun q h=>by have:=h.2;omega) cX.o);have iX:=hd (iX.o.later ki.o cX.o);clear hL Ai hN;go_loopw [58] (fun i wr=>∃k:Nat,i=.int .i64 k/\k<=N/\Kr (Below Ae.heap.size Ae wr)) (fun i _=>N-(intOf i).toNat)
 case atStart=>exact⟨0,rfl,Nat.zero_le _,hd Kl⟩
 case round=>
  obtain⟨k,rfl,EI,aH⟩:=hrel;by_cases hkl:k<N
  ·have uL:k<L.length:=by rw[xE.o];exact hkl
   obtain⟨p,hp⟩:∃p,lAt L k=p:=⟨_,rfl⟩;have qK:L[k]? =some p:=by rw[List.getElem?_eq_getElem uL,<-kR2 L k uL,hp]
   obtain⟨gb,go,Ak,ck,rfl,hgb,hcell,nD,uM⟩:=(qE.o.later aH.o).at_ uL;rw[hp]at hcell nD uM;obtain⟨⟨yn,uN⟩,hpl⟩:=uK.o p (List.mem_of_getElem? qK);obtain⟨lp,aV⟩:∃lp,p.length=lp:=⟨_,rfl⟩;rw[aV]at hcell nD hpl;have tD:=hd (qI.o p yn uN);have Aj:=hd (show XA wr (.slice Ak lp ck) p from⟨Ak,lp,ck,rfl,aV,hpl,nD,uM⟩);have bD:=hd (bv.o.call aH.o);have Dz:(k:Int)<(N:Int):=Kb;have xG:=nD;have tE:=uM;clear qK hp uL nD uM hgb;obtain⟨⟨q,tb⟩,hmv⟩:∃r,jF a.k a.q a.t a.z p=r:=⟨_,rfl⟩;have xH:=hd hmv;clear hmv;go_upto_region 15 with(first
    |((with_reducible refine zC (ty:=35) (x:=.tmp 5) ?_);refine zG bD.o.st.v5 _ rfl rfl rfl ?_)
    |(go_at_call 26;refine Calls.mono (kS5 (HO.o.later bD.o.st.below) au.o Aj.o xH.o) ?_;rintro e Al ⟨qv,rfl,hown,b9⟩;have HOWN:=hd hown;have eW:=hd b9;clear hown b9)
    |fail)
   have xI:=kNt p n yn 1000 uN l9.o Kb;obtain⟨y1,hy1,_⟩:=kN6 p (kR9 n 0) n yn (kQv n 0) uN;have mN:=eW.o;have xJ:=hd (nP.o.later (fun q h=>by have:=h.2;have:=cX.o.size;omega) (aH.o.trans (mN.mono aH.o.size)));obtain⟨u1,F1,tF,Am,_,_⟩:=Gh.sub p xJ.o hy1;obtain⟨b1,pT,EJ,Cl,EK,EL,bY,bZ,lO,EM,rfl,rfl,D3⟩:=Am.opened;have x1:=D3.hb.cell 0 (.int .i64 pT) rfl;have bD:=hd (bD.o.call mN);have D4:=hd (show zKt Al Ak lp ck p from⟨aV,hpl,xG,tE.later mN,kOu (kNt p n yn 1000 uN l9.o Kb)⟩);have xK:=hd tF;clear tF Am mN;go_upto_region 16 with(first
    |(go_at_call 27;refine Calls.mono (kN5 xK.o D4.o) ?_;rintro e EN ⟨rfl,hwf⟩;have hwf:=hwf.symm;subst hwf)
    |fail)
   have eX:=hd (Aj.o.later eW.o);cases tb
   ·obtain⟨hk2,hgo⟩:=tD.o.gone q xH.o;have k2:(o.k !=2)=false:=by rw[<-HO.o.hk,hk2];rfl
    by_cases e:p=a.q
    ·have gW:zEd p a.q=true:=by rw[e];simp[zEd]
     have pU:=hd gW;clear gW;go_wp2_with(first
      |((with_reducible refine zC (ty:=3) (x:=.tmp 76) ?_);refine zE bD.o.st.v5 (j:=0) (v:=.int .i64 o.k) _ rfl rfl rfl rfl Tryz.underlying3 rfl ?_)
      |((with_reducible refine kH (ty:=27) ?_);refine zE5 bD.o.st.v5 (j:=1) (v:=.slice o.Q o.lq o.cq) _ rfl Ka rfl rfl Tryz.underlying27 rfl ?_)
      |(go_at_call 28;refine Calls.mono (kEp eX.o ((HO.o.later bD.o.st.below).xq12 au.o) pU.o) ?_;rintro e pV ⟨rfl,b9⟩;have bD:=hd (bD.o.call b9);have mO:=hd b9;have eX:=hd (eX.o.later b9);clear b9)
      |fail)
     go_roundw
     case rel=>exact⟨k+1,by go_num,by omega,hd (aH.o.trans ((eW.o.trans (mO.o.mono eW.o.size)).mono aH.o.size))⟩
     case measure=>simp[intOf];omega
    ·have gW:zEd p a.q=false:=by simp[zEd,e]
     have pU:=hd gW;have rW:=hd (hgo.resolve_left e);clear gW;go_wp2_with(first
      |((with_reducible refine zC (ty:=3) (x:=.tmp 76) ?_);refine zE bD.o.st.v5 (j:=0) (v:=.int .i64 o.k) _ rfl rfl rfl rfl Tryz.underlying3 rfl ?_)
      |((with_reducible refine kH (ty:=27) ?_);refine zE5 bD.o.st.v5 (j:=1) (v:=.slice o.Q o.lq o.cq) _ rfl Ka rfl rfl Tryz.underlying27 rfl ?_)
      |(go_at_call 28;refine Calls.mono (kEp eX.o ((HO.o.later bD.o.st.below).xq12 au.o) pU.o) ?_;rintro e pV ⟨rfl,b9⟩;have bD:=hd (bD.o.call b9);have mO:=hd b9;have eX:=hd (eX.o.later b9);clear b9)
      |(go_at_call 29;refine Calls.mono (kS4 ((HO.o.later bD.o.st.below).xq12 au.o) eX.o rW.o) ?_;rintro e Dv ⟨rfl,b9⟩;have bD:=hd (bD.o.call b9);have xL:=hd b9;clear b9)
      |fail)
     go_roundw
     case rel=>exact⟨k+1,by go_num,by omega,hd (aH.o.trans (((eW.o.trans (mO.o.mono eW.o.size)).trans (xL.o.mono (by have:=eW.o.size;have:=mO.o.size;omega))).mono aH.o.size))⟩
     case measure=>simp[intOf];omega
   ·obtain⟨y2,y3,m,e1,e2,e3,e4⟩:=tD.o.told q xH.o;obtain⟨Aq,cq,vG,hcq,_,pW⟩:=HOWN.o.open_;subst vG;have bc:=hd eW.o;have tB:=hd (cQ.o.trans (aH.o.mono cQ.o.size));by_cases h3:a.k=3
    ·have k3:(o.k==3)=true:=by rw[<-HO.o.hk,h3];rfl
     by_cases bn:p=a.q
     ·have gW:zEd p a.q=true:=by rw[bn];simp[zEd]
      have pU:=hd gW;clear gW;obtain⟨uu,ii,Ar,EO⟩:=Dx.o h3;rw[if_pos ⟨h3,bn⟩,bn,Ar,zFy]at e1;have im:=bn.trans Ar;obtain⟨lu,fg⟩:∃l,uu.length=l:=⟨_,rfl⟩;have xM:=hd (show lp=lu+1 by rw[<-aV,im];simp[fg]);have fe:=hd aV;have uz:=hd hpl;go_upto_region 20 with(first
       |((with_reducible refine zC (ty:=3) (x:=.tmp 93) ?_);refine zE bD.o.st.v5 (j:=0) (v:=.int .i64 o.k) _ rfl rfl rfl rfl Tryz.underlying3 rfl ?_)
       |((with_reducible refine kH (ty:=27) ?_);refine zE5 bD.o.st.v5 (j:=1) (v:=.slice o.Q o.lq o.cq) _ rfl Ka rfl rfl Tryz.underlying27 rfl ?_)
       |(go_at_call 28;refine Calls.mono (kEp eX.o ((HO.o.later bD.o.st.below).xq12 au.o) pU.o) ?_;rintro e pV ⟨rfl,b9⟩;have bD:=hd (bD.o.call b9);have bc:=hd (bc.o.trans (b9.mono bc.o.size));have nQ:=hd b9;clear b9)
       |fail)
      have gP:=hd ((tE.later eW.o).later nQ.o);go_upto_region 21 with(first
       |(at_builtin;refine kNs giG pV rfl (.const (.slice none 0 0)) (.tmp 102) rfl pV.heap.size rfl Ak lp ck pV.heap.size (p.map (Value.int .i64)) rfl (by simp[fe.o]) (kQy gP.o) (kN3 _) (by have:=uz.o;unfold maxLen;omega) (by have:=uz.o;omega) Km ?_;intro yH c10 D5 hown fL hat;have bO:=hd hown;have fM:=hd fL;clear hown fL hat)
       |fail)
      have xN:=xM.o;subst xN;obtain⟨rH,rI,eA,gF,ni,bl⟩:=zC9 bO.o;injection eA with nY _ nZ;subst nY nZ;have bP:(p.map (Value.int .i64))[lu]? =some (.int .i64 ((ii+1:Nat):Int)):=by rw[im,List.map_append,List.getElem?_append_right (by simp[fg]),List.length_map,fg,Nat.sub_self];rfl
      obtain⟨g3,rfl,oa,od,bH,gz⟩:=bl lu _ bP;obtain⟨bI,cA⟩:=bO.o.stored lu (.int .i64 (ii:Int));obtain⟨Au,pX⟩:∃W,D5.setCell ⟨g3,lu,none⟩ (.int .i64 (ii:Int))=W:=⟨_,rfl⟩;rw[pX]at bI cA;have xO:=hd pX;have hi1:(((ii+1:Nat):Int))=(ii:Int)+1:=Kb;rw[hi1]at bH;have og:(ii:Int)<=500000:=Kb;have pY:=hd (fM.o.grown cA fM.o.size (fun j hj=>by injection hj with hj;omega));have dH:(p.map (Value.int .i64)).set lu (.int .i64 (ii:Int))=(uu++[(ii:Int)]).map (Value.int .i64):=by rw[im,List.map_append,List.set_append_right _ _ (by simp[fg]),List.length_map,fg,Nat.sub_self,List.map_append];rfl
      rw[dH]at bI;have tG:=kOo bI;clear pX dH bI cA bP bl hi1;go_upto_region 22 with fail
      rw[xO.o];clear bH gz;have bc:=hd (bc.o.trans (pY.o.mono bc.o.size));have nQ:=hd (nQ.o.trans (pY.o.mono nQ.o.size));have bD:=hd (bD.o.call pY.o);have xP:=hd (nP.o.later (fun q h=>by have:=h.2;have:=cX.o.size;omega) (aH.o.trans (bc.o.mono aH.o.size)));obtain⟨u2,EP,tH,Av,_,_⟩:=Gh.sub _ xP.o e1;obtain⟨b2,tI,EQ,ER,ES,ET,ie,ig,EU,EW,rfl,rfl,mo⟩:=Av.opened;clear x1;have x1:=mo.hb.cell 0 (.int .i64 tI) rfl;have xQ:=hd tH;have om:=hd (show zKt Au (some ⟨g3,0,none⟩) (lu+1) c10 (uu++[(ii:Int)])from⟨by simp[fg],by omega,gF,tG,kOu (kRi xI im)⟩);clear tH Av mo e1;go_upto_region 23 with(first
       |(go_at_call 27;refine Calls.mono (kN5 xQ.o om.o) ?_;rintro e EX ⟨rfl,hwf⟩;have hwf:=hwf.symm;subst hwf)
       |fail)
      have fO:=hd (iX.o.later (fun q h=>Nat.lt_of_lt_of_le (ki.o q h) cX.o.size) (aH.o.trans (bc.o.mono aH.o.size)));obtain⟨u3,F3,mM,qW,_,_⟩:=Gh.sub q fO.o e2;obtain⟨b3,fY,Ay,Az,A4,A7,AA,AB,AC,AE,rfl,rfl,dO⟩:=qW.opened;have x3:=dO.hb.cell 0 (.int .i64 fY) rfl;have hne:(fY !=tI)=false:=by
       have h9:=e3;simp only[kO3,NT.tx,List.head?_cons,Option.some.injEq]at h9;rw[h9];simp
      have uJ:=hd (show zKt Au Aq q.length cq q from⟨rfl,by have:=zGh q x m e4;have:=qX.o;omega,hcq,pW.later (by first|exact nQ.o|exact Below.refl _ _),kOu (kNt q x m 1000 e4 qX.o Kb)⟩);exact kO2
     ·have gW:zEd p a.q=false:=by simp[zEd,bn]
      have pU:=hd gW;clear gW;rw[if_neg (fun h=>bn h.2),hy1]at e1;injection e1 with e1;subst e1;go_upto_region 23 with(first
       |((with_reducible refine zC (ty:=3) (x:=.tmp 93) ?_);refine zE bD.o.st.v5 (j:=0) (v:=.int .i64 o.k) _ rfl rfl rfl rfl Tryz.underlying3 rfl ?_)
       |((with_reducible refine kH (ty:=27) ?_);refine zE5 bD.o.st.v5 (j:=1) (v:=.slice o.Q o.lq o.cq) _ rfl Ka rfl rfl Tryz.underlying27 rfl ?_)
       |(go_at_call 28;refine Calls.mono (kEp eX.o ((HO.o.later bD.o.st.below).xq12 au.o) pU.o) ?_;rintro e pV ⟨rfl,b9⟩;have bD:=hd (bD.o.call b9);have bc:=hd (bc.o.trans (b9.mono bc.o.size));have nQ:=hd b9;clear b9)
       |fail)
      clear x1;have x1:=True.intro;have fO:=hd (iX.o.later (fun q h=>Nat.lt_of_lt_of_le (ki.o q h) cX.o.size) (aH.o.trans (bc.o.mono aH.o.size)));obtain⟨u3,F3,mM,qW,_,_⟩:=Gh.sub q fO.o e2;obtain⟨b3,fY,Ay,Az,A4,A7,AA,AB,AC,AE,rfl,rfl,dO⟩:=qW.opened;have x3:=dO.hb.cell 0 (.int .i64 fY) rfl;have hne:(fY !=pT)=false:=by
       have h9:=e3;simp only[kO3,NT.tx,List.head?_cons,Option.some.injEq]at h9;rw[h9];simp
      have uJ:=hd (show zKt pV Aq q.length cq q from⟨rfl,by have:=zGh q x m e4;have:=qX.o;omega,hcq,pW.later (by first|exact nQ.o|exact Below.refl _ _),kOu (kNt q x m 1000 e4 qX.o Kb)⟩);exact kO2
    ·have k3:(o.k==3)=false:=by rw[<-HO.o.hk];simpa using h3
     rw[if_neg (fun h=>h3 h.1),hy1]at e1;injection e1 with e1;subst e1;go_upto_region 23 with(first
      |((with_reducible refine zC (ty:=3) (x:=.tmp 93) ?_);refine zE bD.o.st.v5 (j:=0) (v:=.int .i64 o.k) _ rfl rfl rfl rfl Tryz.underlying3 rfl ?_)
      |fail)
     clear x1;have fO:=hd (iX.o.later (fun q h=>Nat.lt_of_lt_of_le (ki.o q h) cX.o.size) (aH.o.trans (bc.o.mono aH.o.size)));obtain⟨u3,F3,mM,qW,_,_⟩:=Gh.sub q fO.o e2;obtain⟨b3,fY,Ay,Az,A4,A7,AA,AB,AC,AE,rfl,rfl,dO⟩:=qW.opened;have x3:=dO.hb.cell 0 (.int .i64 fY) rfl;have hne:(fY !=pT)=false:=by
      have h9:=e3;simp only[kO3,NT.tx,List.head?_cons,Option.some.injEq]at h9;rw[h9];simp
     have uJ:=hd (show zKt Al Aq q.length cq q from⟨rfl,by have:=zGh q x m e4;have:=qX.o;omega,hcq,pW.later (by first|exact nQ.o|exact Below.refl _ _),kOu (kNt q x m 1000 e4 qX.o Kb)⟩);exact kO2
  ·go_wp2
   go_ret
   exact⟨rfl,(bv.o.call aH.o).st.below⟩
theorem kRj {o:OC}(hn:kS w c n)(hs:zB1 w s sl)(ho:OkA w o a):Calls Tryz.prog 6 #[.agg c.row,.agg s.row,.agg o.row] w (jW w):=by
 cases hf:zB8 n sl a
 ·exact kSq hn hs ho hf
 obtain⟨hr,e1,e2⟩:=jE hf hn ho;obtain⟨⟨⟨x,tl⟩,er⟩,hap⟩:∃r,jL n sl a=r:=⟨_,rfl⟩;by_cases h0:er=0
 ·subst h0;have hm:=zPs hap hr e1 e2;have hx:=hr.tiny.hx;obtain⟨g1,g2,g3,g4,g5⟩:=zH8 hap;have hc:=e1 (zC1 g1);have g6:(1<=a.k/\a.k<=8/\doO n a=(x,0)∨a.k=9/\x=n)/\sizeT x<=1000:=by
   rcases g5 with⟨e9,_,_,hx⟩|⟨k1,k8,hd,_,_⟩
   ·have e:=congrArg Prod.fst hx;exact⟨.inr ⟨e9,e⟩,by rw[show x=n from e];omega⟩
   ·refine⟨.inl ⟨k1,k8,hd⟩,?_⟩;have hb:(sizeT x:Int)=sizeT n+byO a:=zMm hm.len k1 k8 hd;have h3:=hm.node;unfold byO at hb;split at hb
    ·have:=h3 (by assumption);omega
    ·(repeat' split at hb)<;>omega
  exact kSd hn hs ho hf hap g4 g6.1 Kb (zC1 g1) (fun e=>Nat.le_trans (hm.node e) Kb) g6.2
 ·have hz:=zJk (n:=n) (s:=sl) (o:=a) (by rw[hap];exact h0);rw[hap]at hz;dsimp only at hz;rw[hz]at hap;exact kSr hn hs ho hf hap (by simpa using h0)
