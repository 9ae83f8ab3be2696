import Derived.Test.YtmglnjmnabjjgaaGreatJTPaths
set_option maxRecDepth 100000
set_option maxHeartbeats 8000000
namespace Go.Proofs.YtmglnjmnabjjgaaGreat
open Go.RowKit
variable {w:World}{c:NC}{A:Option Addr}{cp i lp:Nat}{n x yn:NT}{a:OpP}{p qs u:List Int}
theorem kV9 {o:OC}{tl:Sl}{ec:Int}(hn:kS w c n)(ho:OkA w o a)(hp:kNz w A lp cp p)(h1:zI5 100 n=true)(h2:zT3 a=true)(h3:lp<=50)(bQ:(zGm n p).2=ec)(i6:ec=0)(hgo:kB n p=some yn)(hap:jL n zeroS a=((x,tl),0))(gJ:sizeT n<=1000)(gI:sizeT x<=1000)
  (hlat:∀(w0 w:World)(v:Value)(F:Nat->Prop),Gh w v (kQe n 0) F->(∀q,F q->w0.heap.size<=q/\q<w.heap.size)->OkA w0 o a->Below w0.heap.size w0 w->∃g',(∀p yn l y,kB n p=some yn->kB (kQe n 0) p=some y->kOo y=some l->0<=l->kVe x a g' p l)/\Calls Tryz.prog 17 #[v,.agg o.row] w (kSo F v g' w)) (hm:jF a.k a.q a.t a.z p=(qs,false)) (hk2:a.k=2):Calls Tryz.prog 5 #[.agg c.row,.agg o.row,.slice A lp cp] w (jW w):=by
 have iM:(ec !=0)=false:=by simp[i6]
 have sy:=hd hm;have E8:=hd hk2;have jy:=hd (.inl ⟨qs,hm⟩:(∃q,jF a.k a.q a.t a.z p=(q,false))∨(a.k=3/\p=a.q));clear i6 hm hk2;have lI:=hd gJ;have lW:=hd gI;have fY:=hd hlat;have px:=hd hgo;have lX:=hd (kOi (p:=p) (by rw[hp.len];exact h3));clear hlat hgo gJ gI;have H1:=hd h1;have H2:=hd h2;have jb:=hd (kNy h1 h2 hn ho).1;have HP:=hd hp;have jv:=hd hap;have oH:=hd (kOi (p:=p) (by rw[hp.len];exact h3));have lF:=hd (kPm n p▸bQ:chkR n (pathR p)=ec);clear h1 h2 hp hap bQ;obtain⟨W0,hW,hst⟩:=kRg w c o;have HW:=hd hW;have HS:=hd hst;have HN:=hd hn;have HO:=hd ho;clear hW hst hn ho;go_enter Tryz.func5,Tryz.ntmps5
 go_upto_region 1 with fail
 rw[HW.o];go_upto_region 9 with(first
  |(go_at_call 6;refine Calls.mono (kPc _) ?_;rintro e w1 ⟨rfl,b9⟩;have HS:=hd (HS.o.call b9);clear b9)
  |((with_reducible refine zC (ty:=26) (x:=.tmp 3) ?_);refine zB zD HS.o.v3 rfl _ rfl rfl rfl ?_)
  |(go_at_call 7;refine Calls.mono (zTe (HN.o.later HS.o.below) (by unfold zFf;omega) H1.o) ?_;rintro e w2 ⟨rfl,b9⟩;have HS:=hd (HS.o.call b9);clear b9)
  |((with_reducible refine kH (ty:=35) (x:=.tmp 4) ?_);refine zDq HS.o.v4 _ rfl Ke rfl ?_)
  |((with_reducible refine zC (ty:=35) (x:=.tmp 4) ?_);refine zG HS.o.v4 _ rfl rfl rfl ?_)
  |(go_at_call 8;refine Calls.mono (kJm (HO.o.later HS.o.below) H2.o) ?_;rintro e w3 ⟨rfl,b9⟩;have HS:=hd (HS.o.call b9);clear b9)
  |((with_reducible refine zF (ty:=37) (x:=.tmp 7) ?_);refine kN1 (c:=kN4 A lp cp) _ _ rfl rfl rfl rfl rfl rfl rfl ?_;have aJ:=hd (kN3 w3 (kN4 A lp cp)).1;have HS:=hd (HS.o.call (kN3 w3 (kN4 A lp cp)).2);have xu:=hd (show w3.alloc (.cells (kN4 A lp cp).row 37)=w3.alloc (.cells (kN4 A lp cp).row 37)from rfl))
  |(go_at_call 11;refine Calls.mono (zA4 (s:=⟨false,none,0,0,0,none,0,0,0⟩) (HN.o.later HS.o.below) (zIi.zero _) (HO.o.later HS.o.below) jb.o jv.o) ?_;rintro e w4 ⟨ca,ct,rfl,jc,hsa,b9⟩;have aM:=hd jc;have aJ:=hd (aJ.o.keep b9);have HS:=hd (HS.o.call b9);clear b9 jc hsa;dsimp only)
  |((with_reducible refine zF (ty:=26) (x:=.tmp 8) ?_);refine zA zD (r:=ca.row) (zDj w4) rfl rfl ca.one _ _ rfl rfl rfl rfl rfl ?_;intro W7 bJ aU;have ar:=hd bJ;have HT:=hd (zDk aU);clear bJ aU)
  |((with_reducible refine zF (ty:=33) (x:=.tmp 9) ?_);refine zA kYr (r:=ct.row) HT.o.2 rfl rfl ct.one _ _ rfl rfl rfl rfl rfl ?_;intro W8 bS bb;have bR:=hd (zDl HT.o.1 bb);have ar:=hd (ar.o.off bb Kb);have aJ:=hd (aJ.o.keep bR.o);have HS:=hd (HS.o.call bR.o);have aM:=hd (aM.o.later bR.o);clear bS bb HT bR)
  |((with_reducible refine kH (ty:=26) (x:=.tmp 3) ?_);refine zK zD HS.o.v3 rfl _ rfl Ke rfl ?_)
  |((with_reducible refine kH (ty:=37) (x:=.tmp 7) ?_);refine zK kOb aJ.o rfl _ rfl Ke rfl ?_)
  |(go_at_call 10;refine Calls.mono (kQh (HN.o.later HS.o.below) (kPh (HP.o.later HS.o.below)) oH.o lF.o) ?_;rintro e w5 ⟨rfl,b9⟩;have aJ:=hd (aJ.o.keep b9);have ar:=hd (ar.o.keep b9);have aM:=hd (aM.o.later b9);have HS:=hd (HS.o.call b9);clear b9)
  |((with_reducible refine kH (ty:=26) (x:=.tmp 8) ?_);refine zK zD ar.o rfl _ rfl Ke rfl ?_)
  |(go_at_call 12;refine Calls.mono (zHo (c':=(NC.mk false none 0 0 none 0 0 none 0 0)) aM.o (vw.o _) gQ.o) ?_;rintro e w9 ⟨rfl,b9⟩;have HS:=hd (HS.o.call b9);clear b9))
 clear lF jv;go_upto_region 10 with(first
  |((with_reducible refine zC (ty:=26) (x:=.tmp 3) ?_);refine zB zD HS.o.v3 rfl _ rfl rfl rfl ?_)
  |(go_at_call 16;refine Calls.mono (kOh (HN.o.later HS.o.below) (Int.le_refl 0) (by have:=lI.o;omega)) ?_;rintro e g9 ⟨pg,rfl,k1,k2⟩;have cv:=hd k1;have aJ:=hd (aJ.o.keep k2);have ar:=hd (ar.o.keep k2);have aM:=hd (aM.o.later k2);have HS:=hd (HS.o.call k2);clear k1 k2))
 have di:=hd (HO.o.later HS.o.below);have mD:=HS;have fZ:=aJ;have gf:=ar;have gj:=aM;clear aJ ar aM;go_upto_region 11 with(first
  |((with_reducible refine zC (ty:=26) (x:=.tmp 3) ?_);refine zB zD HS.o.v3 rfl _ rfl rfl rfl ?_)
  |(go_at_call 16;refine Calls.mono (kOh (HN.o.later HS.o.below) (Int.le_refl 0) (by have:=lI.o;omega)) ?_;rintro e g10 ⟨ph,rfl,k1,k2⟩;have py:=hd k1;have bP:=hd k2;have HS:=hd (HS.o.call k2);clear k1 k2))
 have cv:=hd (cv.o.later (fun q h=>h.2) bP.o);obtain⟨g2,hg2,hc2⟩:=fY.o g9 g10 ph _ py.o (fun q h=>h) di.o bP.o;have pz:=hd hg2;have pA:=hd hc2;clear hg2 hc2;go_upto_region 12 with(first
  |((with_reducible refine zC (ty:=35) (x:=.tmp 4) ?_);refine zG HS.o.v4 _ rfl rfl rfl ?_)
  |(go_at_call 17;refine pA.o.mono ?_;rintro e g11 ⟨F2,rfl,h1,h2,h3⟩;have h5:=h3.size;have h4:=h3.below (B:=g9.heap.size) bP.o.size (fun q _ h=>h.1);have cF:=hd h1;have dw:=hd (fun q(h:F2 q)=>(show q<g11.heap.size from(h2 q h).elim (fun h=>by omega) (fun h=>h.2)));have aN:=hd (bP.o.trans h4);clear h1 h2 h3 h5;have cj:=hd h4;clear h4))
 have cv:=hd (cv.o.frame (w':=g11) fun q hq=>cj.o.block q hq.2);have HS:=hd (mD.o.call aN.o);have aJ:=hd (fZ.o.keep aN.o);have ar:=hd (gf.o.keep aN.o);have aM:=hd (gj.o.later aN.o);have gm:=aN.o.size;obtain⟨y1,hy1,_⟩:=kOd p (kQe n 0) n yn (kQp n 0) px.o;have iN:=hd hy1;clear hy1 pA py fY di mD cj aN bP fZ gf gj;go_upto_region 13 with(first
  |(go_at_call 21;refine Calls.mono (kOf cv.o HP.o.len Kb (HP.o.later HS.o.below).il) ?_;rintro e pB ⟨bF,lab,RF,KF,rfl,gu,b9,ju⟩;have x0:=gu.cell 0 (.int .i64 lab) rfl;have jy:=hd ju;have cD:=hd b9;have aJ:=hd (aJ.o.keep b9);have ar:=hd (ar.o.keep b9);have aM:=hd (aM.o.later b9);have HS:=hd (HS.o.call b9);clear b9 gu ju))
 have hlb:kOo y1=some lab:=by
  rcases jy.o with⟨y,h1,h2⟩|⟨h1,_⟩
  ·rw[iN.o]at h1;injection h1 with h1;subst h1;exact h2
  ·rw[iN.o]at h1;cases h1
 have hl0:0<=lab:=((kPy lab n 0).2 (Nat.le_trans (kOn hlb) (kOu iN.o))).1;have jd:=hd (pz.o p yn lab y1 px.o iN.o hlb hl0);have cF:=hd (cF.o.later dw.o cD.o);have fQ:=hd (fun q(h:F2 q)=>Nat.lt_of_lt_of_le (dw.o q h) cD.o.size);obtain⟨r16,gy⟩:∃r,kRo a (pathR p)=r:=⟨_,rfl⟩;have gz:=hd gy;clear gy jy pz cv hlb x0 dw gm;go_upto_region 16 with(first
  |((with_reducible refine zC (ty:=37) (x:=.tmp 7) ?_);refine zB kOb aJ.o rfl _ rfl rfl rfl ?_)
  |((with_reducible refine kQw (ty:=42) (k:=1) ?_);refine kN0 (c:=kN4 A lp cp) _ rfl rfl rfl ?_;have b9:=(kN3 pB (kN4 A lp cp)).2;have fA:=hd (((RkL.one (kPh (HP.o.later HS.o.below))).later b9).lr (kRq pB (kN4 A lp cp)));have mE:=hd b9;have ar:=hd (ar.o.keep b9);have aM:=hd (aM.o.later b9);have HS:=hd (HS.o.call b9);clear b9)
  |((with_reducible refine zC (ty:=35) (x:=.tmp 4) ?_);refine zG HS.o.v4 _ rfl rfl rfl ?_)
  |(go_at_call 13;refine Calls.mono (gz.o▸kSq fA.o Km lX.o (HO.o.later HS.o.below) jb.o.tiny rfl rfl rfl) ?_;rintro e uH ⟨A6,n6,c6,Bu,rfl,k0,k1,k2,b9⟩;have k0:1=n6:=k0;subst k0;have iO:=hd k2;have gA:=hd (mE.o.trans (b9.mono mE.o.size));have ar:=hd (ar.o.keep b9);have aM:=hd (aM.o.later b9);have HS:=hd (HS.o.call b9);clear b9 k2))
 have cF:=hd (cF.o.later fQ.o gA.o);have lY:=hd (fun q(h:F2 q)=>Nat.lt_of_lt_of_le (fQ.o q h) gA.o.size);obtain⟨dn,pC⟩:=aM.o;have ny:=hd pC;clear pC fQ fA aJ;go_upto_region 18 with(first
  |((with_reducible refine zC (ty:=26) (x:=.tmp 8) ?_);refine zB zD ar.o rfl _ rfl rfl rfl ?_)
  |(go_at_call 22;refine Calls.mono (kP5 dn uH _ x ny.o (by have:=lW.o;omega)) ?_;rintro e gS ⟨A5,c5,rfl,lV,b5⟩;have ku:=hd lV.rl;have gB:=hd b5;have HS:=hd (HS.o.call b5);have iO:=hd (iO.o.later b5);clear lV b5))
 have hst:r16.live=false/\r16.p=[]:=by
  rw[<-gz.o];unfold kRo;rw[if_neg (by simp[pathR]),if_pos (show(pathR p).kind=1 from rfl)];show(if(jF a.k a.q a.t a.z p).2=true then _ else _:kNx).live=false/\_
  rw[show(pathR p).p=p from rfl,sy.o];exact⟨rfl,rfl⟩
 have HST:=hd hst;clear hst;obtain⟨L,hL⟩:∃L,pathsN false x []=L:=⟨_,rfl⟩;have pD:∀p,p ∈ L->p.length<=1000:=fun p hp=>by
  have h9:=kOz false x [] p (by rw[hL];exact hp);have:=lW.o;rw[List.length_nil]at h9;omega
 have gD:=jd.o.gone jy.o;rw[hL]at ku⊢;obtain⟨N,hN⟩:∃N,L.length=N:=⟨_,rfl⟩;have Bw:N<=1000:=by have:=kPd false x [];have:=lW.o;rw[hL,hN]at*;omega
 rw[hN];have qN:=hd pD;have pp:=hd hN;have vR:=hd gD;have cF:=hd (cF.o.later lY.o gB.o);have sw:=hd (fun q(h:F2 q)=>Nat.lt_of_lt_of_le (lY.o q h) gB.o.size);obtain⟨b6,o6,d6,r6,rfl,ey,mP,pE,nY,dN⟩:=iO.o.at_ (k:=0) Kc;have er:r6=r16:=by simpa using pE.symm
 subst er;have ry:=hd nY;have oK:=hd (show gS.cell? ⟨b6,o6+3,none⟩=some (.bool d6.live) by have h9:=dN 3 (.bool d6.live) rfl;rw[Nat.zero_mul,Nat.add_zero]at h9;exact h9);have oM:=hd (show gS.cell? ⟨b6,o6+4,none⟩=some (.slice d6.P d6.np d6.cp) by have h9:=dN 4 (.slice d6.P d6.np d6.cp) rfl;rw[Nat.zero_mul,Nat.add_zero]at h9;exact h9);have ay:=hd ey;clear hL pD hN gD ey mP pE nY dN iO lY ny jd ar aM;go_loopw [17,91] (fun v i wr=>∃k:Nat,i=.int .i64 k/\k<=N/\v=.int .i64 (-1)/\Kr (Below gS.heap.size gS wr)) (fun _ i _=>N-(intOf i).toNat)
 case atStart=>exact⟨0,rfl,Nat.zero_le _,rfl,hd Kl⟩
 case' round=>
  obtain⟨k,rfl,yB,rfl,aK⟩:=hrel;by_cases hkl:k<N
  case pos=>
   have nZ:k<L.length:=by rw[pp.o];exact hkl
   obtain⟨p9,pF⟩:∃p,lAt L k=p:=⟨_,rfl⟩;have nu:L[k]? =some p9:=by rw[List.getElem?_eq_getElem nZ,<-kSa L k nZ,pF]
   obtain⟨gb,go,Ak,ck,rfl,hgb,hcell,bQ,pG⟩:=(ku.o.later aK.o).at_ nZ;rw[pF]at hcell bQ pG;have hpl:=qN.o p9 (List.mem_of_getElem? nu);obtain⟨l9,oa⟩:∃l9,p9.length=l9:=⟨_,rfl⟩;rw[oa]at hcell bQ hpl;have jg:=hd pG;have uI:=hd oa;have yD:(k:Int)<(N:Int):=Kb;have jn:=hd (cF.o.later sw.o aK.o);clear nu pF nZ bQ pG hgb oa;have e2:(kSl g2 p9==lab)=false:=by
    rw[beq_eq_false_iff_ne];intro e;obtain⟨zz,h8,h9⟩:=kU1 jn.o hl0 e;exact vR.o p9 zz h8 h9
   obtain⟨lf,bW⟩:∃lf,kSl g2 p9=lf:=⟨_,rfl⟩;have E2:=hd bW;rw[bW]at e2;clear bW;go_wp2_with(first
    |(go_at_call 21;refine Calls.mono (kOf jn.o uI.o hpl jg.o) ?_;rintro e yF hfo;obtain⟨bF,RF,KF,rfl,gu,b9⟩:=kQx hfo;clear hfo;have x0:=gu.cell 0 (.int .i64 (kSl g2 p9)) rfl;rw[E2.o]at x0;have aK:=hd (zI aK.o b9);clear b9 gu))
   go_roundw
   case rel=>exact⟨k+1,by go_num,by omega,rfl,aK⟩
   case measure=>simp[intOf];omega
  case' neg=>
   have E7:k=N:=Kb;subst E7;have fC:=hd (HS.o.call aK.o);have c0:=fC.o.v4.cell 0 (.int .i64 o.k) rfl;have c1:=fC.o.v4.cell 1 (.slice o.Q o.lq o.cq) rfl;have x3:=(aK.o.cell (p:=⟨b6,o6+3,none⟩) ay.o).trans oK.o;have x4:=(aK.o.cell (p:=⟨b6,o6+4,none⟩) ay.o).trans oM.o
 have k3:(o.k==3)=false:=by rw[<-HO.o.hk,E8.o];rfl
 have hlv:d6.live=false:=by rw[<-ry.o.hlv];exact HST.o.1
 have vk:d6.np=0:=by rw[<-ry.o.hp.len,HST.o.2];rfl
 rw[hlv]at x3;rw[vk]at x4;clear hlv vk;go_wp2_with fail
 go_ret
 exact⟨rfl,fC.o.below⟩
theorem kWa (e:a.k=3)(hq:a.q=u++[((i+1:Nat):Int)])(hm:jF a.k a.q a.t a.z a.q=(qs,true)):qs=u++[(i:Int)]:=by
 have hb:=jD hm Kb;rw[e]at hb;unfold jH at hb;rw[hq,if_neg Kc,if_neg Kd,if_neg Kd,if_pos rfl,zC0,if_neg Kb,zGa,if_neg Kd,if_neg Kd]at hb;have h1:=(zO hb).1;rw[<-h1,show(u++[((i+1:Nat):Int)]).length-1=u.length by simp];show addL _ _ _=_
 rw[zAv];congr 2
 omega
theorem kWb {o:OC}{tl:Sl}{ec:Int}(hn:kS w c n)(ho:OkA w o a)(hp:kNz w A lp cp p)(h1:zI5 100 n=true)(h2:zT3 a=true)(h3:lp<=50)(bQ:(zGm n p).2=ec)(i6:ec=0)(hgo:kB n p=some yn)(hap:jL n zeroS a=((x,tl),0))(gJ:sizeT n<=1000)(gI:sizeT x<=1000)
  (hlat:∀(w0 w:World)(v:Value)(F:Nat->Prop),Gh w v (kQe n 0) F->(∀q,F q->w0.heap.size<=q/\q<w.heap.size)->OkA w0 o a->Below w0.heap.size w0 w->∃g',(∀p yn l y,kB n p=some yn->kB (kQe n 0) p=some y->kOo y=some l->0<=l->kVe x a g' p l)/\Calls Tryz.prog 17 #[v,.agg o.row] w (kSo F v g' w)) (hm:jF a.k a.q a.t a.z p=(u++[(i:Int)],true)) (hk3:a.k=3) (bg:p=a.q) (nz:a.q=u++[((i+1:Nat):Int)]):Calls Tryz.prog 5 #[.agg c.row,.agg o.row,.slice A lp cp] w (jW w):=by
 have iM:(ec !=0)=false:=by simp[i6]
 have sy:=hd hm;have ze:=hd hk3;have eI:=hd bg;have eJ:=hd (show jV a.q=(u++[(i:Int)],0) by rw[nz];exact zFy u i);have jy:=hd (.inr ⟨hk3,bg⟩:(∃q,jF a.k a.q a.t a.z p=(q,false))∨(a.k=3/\p=a.q));have hll:u.length+1<=1000:=by
  have h8:=hp.len;rw[bg,nz]at h8;simp at h8;omega
 clear i6 hm hk3 bg nz;have lI:=hd gJ;have lW:=hd gI;have fY:=hd hlat;have px:=hd hgo;have lX:=hd (kOi (p:=p) (by rw[hp.len];exact h3));clear hlat hgo gJ gI;have H1:=hd h1;have H2:=hd h2;have jb:=hd (kNy h1 h2 hn ho).1;have HP:=hd hp;have jv:=hd hap;have oH:=hd (kOi (p:=p) (by rw[hp.len];exact h3));have lF:=hd (kPm n p▸bQ:chkR n (pathR p)=ec);clear h1 h2 hp hap bQ;obtain⟨W0,hW,hst⟩:=kRg w c o;have HW:=hd hW;have HS:=hd hst;have HN:=hd hn;have HO:=hd ho;clear hW hst hn ho;go_enter Tryz.func5,Tryz.ntmps5
 go_upto_region 1 with fail
 rw[HW.o];go_upto_region 9 with(first
  |(go_at_call 6;refine Calls.mono (kPc _) ?_;rintro e w1 ⟨rfl,b9⟩;have HS:=hd (HS.o.call b9);clear b9)
  |((with_reducible refine zC (ty:=26) (x:=.tmp 3) ?_);refine zB zD HS.o.v3 rfl _ rfl rfl rfl ?_)
  |(go_at_call 7;refine Calls.mono (zTe (HN.o.later HS.o.below) (by unfold zFf;omega) H1.o) ?_;rintro e w2 ⟨rfl,b9⟩;have HS:=hd (HS.o.call b9);clear b9)
  |((with_reducible refine kH (ty:=35) (x:=.tmp 4) ?_);refine zDq HS.o.v4 _ rfl Ke rfl ?_)
  |((with_reducible refine zC (ty:=35) (x:=.tmp 4) ?_);refine zG HS.o.v4 _ rfl rfl rfl ?_)
  |(go_at_call 8;refine Calls.mono (kJm (HO.o.later HS.o.below) H2.o) ?_;rintro e w3 ⟨rfl,b9⟩;have HS:=hd (HS.o.call b9);clear b9)
  |((with_reducible refine zF (ty:=37) (x:=.tmp 7) ?_);refine kN1 (c:=kN4 A lp cp) _ _ rfl rfl rfl rfl rfl rfl rfl ?_;have aJ:=hd (kN3 w3 (kN4 A lp cp)).1;have HS:=hd (HS.o.call (kN3 w3 (kN4 A lp cp)).2);have xu:=hd (show w3.alloc (.cells (kN4 A lp cp).row 37)=w3.alloc (.cells (kN4 A lp cp).row 37)from rfl))
  |(go_at_call 11;refine Calls.mono (zA4 (s:=⟨false,none,0,0,0,none,0,0,0⟩) (HN.o.later HS.o.below) (zIi.zero _) (HO.o.later HS.o.below) jb.o jv.o) ?_;rintro e w4 ⟨ca,ct,rfl,jc,hsa,b9⟩;have aM:=hd jc;have aJ:=hd (aJ.o.keep b9);have HS:=hd (HS.o.call b9);clear b9 jc hsa;dsimp only)
  |((with_reducible refine zF (ty:=26) (x:=.tmp 8) ?_);refine zA zD (r:=ca.row) (zDj w4) rfl rfl ca.one _ _ rfl rfl rfl rfl rfl ?_;intro W7 bJ aU;have ar:=hd bJ;have HT:=hd (zDk aU);clear bJ aU)
  |((with_reducible refine zF (ty:=33) (x:=.tmp 9) ?_);refine zA kYr (r:=ct.row) HT.o.2 rfl rfl ct.one _ _ rfl rfl rfl rfl rfl ?_;intro W8 bS bb;have bR:=hd (zDl HT.o.1 bb);have ar:=hd (ar.o.off bb Kb);have aJ:=hd (aJ.o.keep bR.o);have HS:=hd (HS.o.call bR.o);have aM:=hd (aM.o.later bR.o);clear bS bb HT bR)
  |((with_reducible refine kH (ty:=26) (x:=.tmp 3) ?_);refine zK zD HS.o.v3 rfl _ rfl Ke rfl ?_)
  |((with_reducible refine kH (ty:=37) (x:=.tmp 7) ?_);refine zK kOb aJ.o rfl _ rfl Ke rfl ?_)
  |(go_at_call 10;refine Calls.mono (kQh (HN.o.later HS.o.below) (kPh (HP.o.later HS.o.below)) oH.o lF.o) ?_;rintro e w5 ⟨rfl,b9⟩;have aJ:=hd (aJ.o.keep b9);have ar:=hd (ar.o.keep b9);have aM:=hd (aM.o.later b9);have HS:=hd (HS.o.call b9);clear b9)
  |((with_reducible refine kH (ty:=26) (x:=.tmp 8) ?_);refine zK zD ar.o rfl _ rfl Ke rfl ?_)
  |(go_at_call 12;refine Calls.mono (zHo (c':=(NC.mk false none 0 0 none 0 0 none 0 0)) aM.o (vw.o _) gQ.o) ?_;rintro e w9 ⟨rfl,b9⟩;have HS:=hd (HS.o.call b9);clear b9))
 clear lF jv;go_upto_region 10 with(first
  |((with_reducible refine zC (ty:=26) (x:=.tmp 3) ?_);refine zB zD HS.o.v3 rfl _ rfl rfl rfl ?_)
  |(go_at_call 16;refine Calls.mono (kOh (HN.o.later HS.o.below) (Int.le_refl 0) (by have:=lI.o;omega)) ?_;rintro e g9 ⟨pg,rfl,k1,k2⟩;have cv:=hd k1;have aJ:=hd (aJ.o.keep k2);have ar:=hd (ar.o.keep k2);have aM:=hd (aM.o.later k2);have HS:=hd (HS.o.call k2);clear k1 k2))
 have di:=hd (HO.o.later HS.o.below);have mD:=HS;have fZ:=aJ;have gf:=ar;have gj:=aM;clear aJ ar aM;go_upto_region 11 with(first
  |((with_reducible refine zC (ty:=26) (x:=.tmp 3) ?_);refine zB zD HS.o.v3 rfl _ rfl rfl rfl ?_)
  |(go_at_call 16;refine Calls.mono (kOh (HN.o.later HS.o.below) (Int.le_refl 0) (by have:=lI.o;omega)) ?_;rintro e g10 ⟨ph,rfl,k1,k2⟩;have py:=hd k1;have bP:=hd k2;have HS:=hd (HS.o.call k2);clear k1 k2))
 have cv:=hd (cv.o.later (fun q h=>h.2) bP.o);obtain⟨g2,hg2,hc2⟩:=fY.o g9 g10 ph _ py.o (fun q h=>h) di.o bP.o;have pz:=hd hg2;have pA:=hd hc2;clear hg2 hc2;go_upto_region 12 with(first
  |((with_reducible refine zC (ty:=35) (x:=.tmp 4) ?_);refine zG HS.o.v4 _ rfl rfl rfl ?_)
  |(go_at_call 17;refine pA.o.mono ?_;rintro e g11 ⟨F2,rfl,h1,h2,h3⟩;have h5:=h3.size;have h4:=h3.below (B:=g9.heap.size) bP.o.size (fun q _ h=>h.1);have cF:=hd h1;have dw:=hd (fun q(h:F2 q)=>(show q<g11.heap.size from(h2 q h).elim (fun h=>by omega) (fun h=>h.2)));have aN:=hd (bP.o.trans h4);clear h1 h2 h3 h5;have cj:=hd h4;clear h4))
 have cv:=hd (cv.o.frame (w':=g11) fun q hq=>cj.o.block q hq.2);have HS:=hd (mD.o.call aN.o);have aJ:=hd (fZ.o.keep aN.o);have ar:=hd (gf.o.keep aN.o);have aM:=hd (gj.o.later aN.o);have gm:=aN.o.size;obtain⟨y1,hy1,_⟩:=kOd p (kQe n 0) n yn (kQp n 0) px.o;have iN:=hd hy1;clear hy1 pA py fY di mD cj aN bP fZ gf gj;go_upto_region 13 with(first
  |(go_at_call 21;refine Calls.mono (kOf cv.o HP.o.len Kb (HP.o.later HS.o.below).il) ?_;rintro e pB ⟨bF,lab,RF,KF,rfl,gu,b9,ju⟩;have x0:=gu.cell 0 (.int .i64 lab) rfl;have jy:=hd ju;have cD:=hd b9;have aJ:=hd (aJ.o.keep b9);have ar:=hd (ar.o.keep b9);have aM:=hd (aM.o.later b9);have HS:=hd (HS.o.call b9);clear b9 gu ju))
 have hlb:kOo y1=some lab:=by
  rcases jy.o with⟨y,h1,h2⟩|⟨h1,_⟩
  ·rw[iN.o]at h1;injection h1 with h1;subst h1;exact h2
  ·rw[iN.o]at h1;cases h1
 have hl0:0<=lab:=((kPy lab n 0).2 (Nat.le_trans (kOn hlb) (kOu iN.o))).1;have jd:=hd (pz.o p yn lab y1 px.o iN.o hlb hl0);have cF:=hd (cF.o.later dw.o cD.o);have fQ:=hd (fun q(h:F2 q)=>Nat.lt_of_lt_of_le (dw.o q h) cD.o.size);obtain⟨r16,gy⟩:∃r,kRo a (pathR p)=r:=⟨_,rfl⟩;have gz:=hd gy;clear gy jy pz cv hlb x0 dw gm;go_upto_region 16 with(first
  |((with_reducible refine zC (ty:=37) (x:=.tmp 7) ?_);refine zB kOb aJ.o rfl _ rfl rfl rfl ?_)
  |((with_reducible refine kQw (ty:=42) (k:=1) ?_);refine kN0 (c:=kN4 A lp cp) _ rfl rfl rfl ?_;have b9:=(kN3 pB (kN4 A lp cp)).2;have fA:=hd (((RkL.one (kPh (HP.o.later HS.o.below))).later b9).lr (kRq pB (kN4 A lp cp)));have mE:=hd b9;have ar:=hd (ar.o.keep b9);have aM:=hd (aM.o.later b9);have HS:=hd (HS.o.call b9);clear b9)
  |((with_reducible refine zC (ty:=35) (x:=.tmp 4) ?_);refine zG HS.o.v4 _ rfl rfl rfl ?_)
  |(go_at_call 13;refine Calls.mono (gz.o▸kSq fA.o Km lX.o (HO.o.later HS.o.below) jb.o.tiny rfl rfl rfl) ?_;rintro e uH ⟨A6,n6,c6,Bu,rfl,k0,k1,k2,b9⟩;have k0:1=n6:=k0;subst k0;have iO:=hd k2;have gA:=hd (mE.o.trans (b9.mono mE.o.size));have ar:=hd (ar.o.keep b9);have aM:=hd (aM.o.later b9);have HS:=hd (HS.o.call b9);clear b9 k2))
 have cF:=hd (cF.o.later fQ.o gA.o);have lY:=hd (fun q(h:F2 q)=>Nat.lt_of_lt_of_le (fQ.o q h) gA.o.size);obtain⟨dn,pC⟩:=aM.o;have ny:=hd pC;clear pC fQ fA aJ;go_upto_region 18 with(first
  |((with_reducible refine zC (ty:=26) (x:=.tmp 8) ?_);refine zB zD ar.o rfl _ rfl rfl rfl ?_)
  |(go_at_call 22;refine Calls.mono (kP5 dn uH _ x ny.o (by have:=lW.o;omega)) ?_;rintro e gS ⟨A5,c5,rfl,lV,b5⟩;have ku:=hd lV.rl;have gB:=hd b5;have HS:=hd (HS.o.call b5);have iO:=hd (iO.o.later b5);clear lV b5))
 have hst:r16.live=true/\r16.p=u++[(i:Int)]:=by
  rw[<-gz.o];unfold kRo;rw[if_neg (by simp[pathR]),if_pos (show(pathR p).kind=1 from rfl)];show(if(jF a.k a.q a.t a.z p).2=true then _ else _:kNx).live=true/\_
  rw[show(pathR p).p=p from rfl,sy.o];exact⟨rfl,rfl⟩
 have HST:=hd hst;clear hst;obtain⟨L,hL⟩:∃L,pathsN false x []=L:=⟨_,rfl⟩;have pD:∀p,p ∈ L->p.length<=1000:=fun p hp=>by
  have h9:=kOz false x [] p (by rw[hL];exact hp);have:=lW.o;rw[List.length_nil]at h9;omega
 have gD:=jd.o.gone jy.o;rw[hL]at ku⊢;obtain⟨N,hN⟩:∃N,L.length=N:=⟨_,rfl⟩;have Bw:N<=1000:=by have:=kPd false x [];have:=lW.o;rw[hL,hN]at*;omega
 rw[hN];have qN:=hd pD;have pp:=hd hN;have vR:=hd gD;have cF:=hd (cF.o.later lY.o gB.o);have sw:=hd (fun q(h:F2 q)=>Nat.lt_of_lt_of_le (lY.o q h) gB.o.size);obtain⟨b6,o6,d6,r6,rfl,ey,mP,pE,nY,dN⟩:=iO.o.at_ (k:=0) Kc;have er:r6=r16:=by simpa using pE.symm
 subst er;have ry:=hd nY;have oK:=hd (show gS.cell? ⟨b6,o6+3,none⟩=some (.bool d6.live) by have h9:=dN 3 (.bool d6.live) rfl;rw[Nat.zero_mul,Nat.add_zero]at h9;exact h9);have oM:=hd (show gS.cell? ⟨b6,o6+4,none⟩=some (.slice d6.P d6.np d6.cp) by have h9:=dN 4 (.slice d6.P d6.np d6.cp) rfl;rw[Nat.zero_mul,Nat.add_zero]at h9;exact h9);have ay:=hd ey;clear hL pD hN gD ey mP pE nY dN iO lY ny jd ar aM;go_loopw [17,91] (fun v i wr=>∃k:Nat,i=.int .i64 k/\k<=N/\v=.int .i64 (-1)/\Kr (Below gS.heap.size gS wr)) (fun _ i _=>N-(intOf i).toNat)
 case atStart=>exact⟨0,rfl,Nat.zero_le _,rfl,hd Kl⟩
 case' round=>
  obtain⟨k,rfl,yB,rfl,aK⟩:=hrel;by_cases hkl:k<N
  case pos=>
   have nZ:k<L.length:=by rw[pp.o];exact hkl
   obtain⟨p9,pF⟩:∃p,lAt L k=p:=⟨_,rfl⟩;have nu:L[k]? =some p9:=by rw[List.getElem?_eq_getElem nZ,<-kSa L k nZ,pF]
   obtain⟨gb,go,Ak,ck,rfl,hgb,hcell,bQ,pG⟩:=(ku.o.later aK.o).at_ nZ;rw[pF]at hcell bQ pG;have hpl:=qN.o p9 (List.mem_of_getElem? nu);obtain⟨l9,oa⟩:∃l9,p9.length=l9:=⟨_,rfl⟩;rw[oa]at hcell bQ hpl;have jg:=hd pG;have uI:=hd oa;have yD:(k:Int)<(N:Int):=Kb;have jn:=hd (cF.o.later sw.o aK.o);clear nu pF nZ bQ pG hgb oa;have e2:(kSl g2 p9==lab)=false:=by
    rw[beq_eq_false_iff_ne];intro e;obtain⟨zz,h8,h9⟩:=kU1 jn.o hl0 e;exact vR.o p9 zz h8 h9
   obtain⟨lf,bW⟩:∃lf,kSl g2 p9=lf:=⟨_,rfl⟩;have E2:=hd bW;rw[bW]at e2;clear bW;go_wp2_with(first
    |(go_at_call 21;refine Calls.mono (kOf jn.o uI.o hpl jg.o) ?_;rintro e yF hfo;obtain⟨bF,RF,KF,rfl,gu,b9⟩:=kQx hfo;clear hfo;have x0:=gu.cell 0 (.int .i64 (kSl g2 p9)) rfl;rw[E2.o]at x0;have aK:=hd (zI aK.o b9);clear b9 gu))
   go_roundw
   case rel=>exact⟨k+1,by go_num,by omega,rfl,aK⟩
   case measure=>simp[intOf];omega
  case' neg=>
   have E7:k=N:=Kb;subst E7;have fC:=hd (HS.o.call aK.o);have c0:=fC.o.v4.cell 0 (.int .i64 o.k) rfl;have c1:=fC.o.v4.cell 1 (.slice o.Q o.lq o.cq) rfl;have x3:=(aK.o.cell (p:=⟨b6,o6+3,none⟩) ay.o).trans oK.o;have x4:=(aK.o.cell (p:=⟨b6,o6+4,none⟩) ay.o).trans oM.o
 have k3:(o.k==3)=true:=by rw[<-HO.o.hk,ze.o];rfl
 have hlv:d6.live=true:=by rw[<-ry.o.hlv];exact HST.o.1
 have aI:=hd (HST.o.2▸ry.o.hp:kNz gS d6.P d6.np d6.cp (u++[(i:Int)]));have zf:=hd (show zEd p a.q=true by rw[eI.o];simp[zEd]);have oZ:=hd (show zEd (u++[(i:Int)]) (u++[(i:Int)])=true by simp[zEd]);have yE:d6.np<=1000:=by have h1:=aI.o.len;simp at h1;omega
 rw[hlv]at x3;clear hlv hkl;go_wp2_with(first
  |(go_at_call 24;refine Calls.mono (zI7 (HO.o.later fC.o.below) jb.o.tiny eJ.o) ?_;rintro e v1 ⟨Ab,lb,cb,rfl,hbl,hbc,hbs,b9⟩;have zg:=hd (show XA v1 (.slice Ab lb cb) (u++[(i:Int)])from⟨Ab,lb,cb,rfl,hbl,by have h1:=hbl;simp at h1;omega,hbc,hbs.now⟩);have fC:=hd (fC.o.call b9);have aO:=hd (zI aK.o b9);have c1:=fC.o.v4.cell 1 (.slice o.Q o.lq o.cq) rfl;have x3:=(aO.o.cell (p:=⟨b6,o6+3,none⟩) ay.o).trans (oK.o.trans (by rw[<-ry.o.hlv,HST.o.1]):_=some (.bool true));have x4:=(aO.o.cell (p:=⟨b6,o6+4,none⟩) ay.o).trans oM.o;clear b9 hbs hbl hbc;dsimp only)
  |(go_at_call 23;have _g:=zf;refine Calls.mono (kEp (⟨A,lp,cp,rfl,HP.o.len,by omega,HP.o.cap,(HP.o.later fC.o.below).il⟩:XA v1 (.slice A lp cp) p) ((HO.o.later fC.o.below).xq12 jb.o.tiny) zf.o) ?_;clear zf;rintro e v2 ⟨rfl,b9⟩;have zg:=hd (zg.o.later b9);have fC:=hd (fC.o.call b9);have aL:=hd (zI aO.o b9);have x3:=(aL.o.cell (p:=⟨b6,o6+3,none⟩) ay.o).trans (oK.o.trans (by rw[<-ry.o.hlv,HST.o.1]):_=some (.bool true));have x4:=(aL.o.cell (p:=⟨b6,o6+4,none⟩) ay.o).trans oM.o;clear b9)
  |(go_at_call 23;have _g:=oZ;refine Calls.mono (kEp (⟨d6.P,d6.np,d6.cp,rfl,aI.o.len,yE,aI.o.cap,(aI.o.later aL.o).il⟩:XA v2 (.slice d6.P d6.np d6.cp) (u++[(i:Int)])) zg.o oZ.o) ?_;clear oZ;rintro e v3 ⟨rfl,b9⟩;have fC:=hd (fC.o.call b9);clear b9))
 go_ret
 exact⟨rfl,fC.o.below⟩
theorem kTz {o:OC}{tl:Sl}(h1:zI5 100 n=true)(h2:zT3 a=true)(hn:kS w c n)(ho:OkA w o a)(hap:jL n zeroS a=((x,tl),0)):sizeT x<=1000:=by
 obtain⟨hr,e1,e2⟩:=kNy h1 h2 hn ho;obtain⟨f1,f2,f3,f4,f5⟩:=kS6 h1 h2 hn ho hap;rcases f2 with⟨k1,k8,hd⟩|⟨h9,rfl⟩
 ·have hb:(sizeT x:Int)=sizeT n+byO a:=zMm (fun u y hy=>by have:=(kNp (m:=1000) Kb hy).1;omega) k1 k8 hd;have hx:=hr.tiny.hx;unfold byO at hb;split at hb
  ·have:=f5 (by assumption);omega
  ·(repeat' split at hb)<;>omega
 ·omega
theorem kU7 {o:OC}(hn:kS w c n)(ho:OkA w o a)(hp:kNz w A lp cp p):Calls Tryz.prog 5 #[.agg c.row,.agg o.row,.slice A lp cp] w (jW w):=by
 cases h1:zI5 100 n
 ·exact kWk hn ho h1
 cases h2:zT3 a
 ·exact kWl hn ho h1 h2
 by_cases h3:lp<=50
 case neg=>exact kWm hn ho h1 h2 hp.max h3
 obtain⟨⟨⟨x,tl⟩,er⟩,hap⟩:∃r,jL n zeroS a=r:=⟨_,rfl⟩;obtain⟨ec,bQ⟩:∃ec,(zGm n p).2=ec:=⟨_,rfl⟩;by_cases h0:er=0
 case neg=>
  have hz:=zJk (n:=n) (s:=zeroS) (o:=a) (by rw[hap];exact h0);rw[hap]at hz;dsimp only at hz;rw[hz]at hap;exact kWn hn ho hp h1 h2 h3 bQ hap (by simpa using h0)
 subst h0;by_cases i6:ec=0
 case neg=>exact kWo hn ho hp h1 h2 h3 bQ hap (by simpa using i6)
 obtain⟨f1,f2,f3,f4,f5⟩:=kS6 h1 h2 hn ho hap;have gI:=kTz h1 h2 hn ho hap;obtain⟨yn,hgo⟩:∃yn,kB n p=some yn:=by
  cases h:kB n p with
  |none=>rw[zB2 h]at bQ;subst i6;exact absurd bQ Kd
  |some m=>exact⟨m,rfl⟩
 have hlat:=fun(w0 w:World)(v:Value)(F:Nat->Prop)(hG:Gh w v (kQe n 0) F)(hF:∀q,F q->w0.heap.size<=q/\q<w.heap.size)(ho':OkA w0 o a)(hw:Below w0.heap.size w0 w)=>kXg hG hF ho' hw (kNy h1 h2 hn ho).1.tiny f1 f2 Kb f4 (fun e=>Nat.le_trans (f5 e) Kb);rcases f2 with⟨k1,k8,hd⟩|⟨h9,hx⟩
 ·cases hm:(jF a.k a.q a.t a.z p).2
  ·have hm2:jF a.k a.q a.t a.z p=((jF a.k a.q a.t a.z p).1,false):=Prod.ext rfl hm;exact kV9 hn ho hp h1 h2 h3 bQ i6 hgo hap Kb gI hlat hm2 (kR1 f1 k1 k8 hd Kb hgo hm2).1
  ·have hm2:jF a.k a.q a.t a.z p=((jF a.k a.q a.t a.z p).1,true):=Prod.ext rfl hm;by_cases h9:a.k=3/\p=a.q
   ·obtain⟨u,i,hq,_⟩:=kV5 (n:=n) (x:=x) (a:=a) Kb (.inl ⟨k1,k8,hd⟩) h9.1;have hs:=kWa h9.1 hq (qs:=(jF a.k a.q a.t a.z p).1) ((congrArg (jF a.k a.q a.t a.z) h9.2).symm.trans hm2);rw[hs]at hm2;exact kWb hn ho hp h1 h2 h3 bQ i6 hgo hap Kb gI hlat hm2 h9.1 h9.2 hq
   ·exact kU2 hn ho hp h1 h2 h3 bQ i6 hgo hap Kb gI hlat hm2 h9
 ·exact kU2 hn ho hp h1 h2 h3 bQ i6 hgo hap Kb gI hlat (kUj f1 h9 Kb hgo) (fun h=>by omega)
