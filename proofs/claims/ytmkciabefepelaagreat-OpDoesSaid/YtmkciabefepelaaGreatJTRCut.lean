import Derived.Test.YtmkciabefepelaaGreatTRAdd
import Derived.Test.YtmkciabefepelaaGreatJOStand
set_option maxRecDepth 100000
set_option maxHeartbeats 8000000
namespace Go.Proofs.YtmkciabefepelaaGreat
open Go.RowKit
open Go.WideShapes (add_plain)
variable {aff er pos:Int}{m n:NT}{A:Option Addr}{l p:List Int}
theorem kRb {w W:World}{g1 g2:Nat}{a b c d a' b' c' d':Value}(h1:w.heap.size<=g1)(h2:w.heap.size<=g2)(hW:Below w.heap.size w W):
  kFo zeroT zeroT er w (.returned (.tuple #[.agg #[.bool false,.slice none 0 0,.slice none 0 0,.slice none 0 0],.agg #[.bool false,.slice none 0 0,.slice none 0 0,.slice none 0 0],.int .i64 er])) ((((((((W.setCell ⟨g1,0,none⟩ a).setCell ⟨g1,1,none⟩ b).setCell ⟨g1,2,none⟩ c).setCell ⟨g1,3,none⟩ d).setCell ⟨g2,0,none⟩ a').setCell ⟨g2,1,none⟩ b').setCell ⟨g2,2,none⟩ c').setCell ⟨g2,3,none⟩ d'):=
 zU7 (zBs _ 0 _) (zBs _ 0 _) (Below.set4 (Below.set4 hW h1) h2)
theorem kTx (w:World)(v:Value)(n:NT)(A:Option Addr)(p:List Int)(lp c:Nat)(ay:p.length=lp)(hl:lp<=1000)(hc1:lp<=c)(hn:At w v n)(hp:IL w w.heap.size A p)(aJ:zGq p=([],6))(lu:Nat)(eA:(([]:List Int)).length=lu)(_hlu5:lu<=1000):
  Calls Tryz.prog 95 #[v,.slice A lp c] w (kFo zeroT zeroT 6 w):=by
 obtain⟨lf,PA,np,pc,TA,nt,tc,KA,nk,kc,rfl⟩:=hn.val;obtain⟨wb,hwb⟩:∃wb,wb=((w.alloc (.cells #[.bool lf,.slice PA np pc,.slice TA nt tc,.slice KA nk kc] 26)).alloc (.cells #[.bool false,.slice none 0 0,.slice none 0 0,.slice none 0 0] 26)).alloc (.cells #[.bool false,.slice none 0 0,.slice none 0 0,.slice none 0 0] 26):=⟨_,rfl⟩;have hb0:Below w.heap.size w wb:=hwb▸(kM Kk Kl).alloc Kf _;have aO:wb.heap.size=w.heap.size+3:=by rw[hwb];simp
 have HX:=hd (show kN8 [(w.heap.size+2,.cells #[.bool false,.slice none 0 0,.slice none 0 0,.slice none 0 0] 26),(w.heap.size+1,.cells #[.bool false,.slice none 0 0,.slice none 0 0,.slice none 0 0] 26),(w.heap.size,.cells #[.bool lf,.slice PA np pc,.slice TA nt tc,.slice KA nk kc] 26)] wb from hwb▸kPq w _ _ _);have HB:=hd hb0;have HS:=hd aO;have cJ:=hd ay;have HA:=hd (((Ats.nil w).add hn).keep hb0);have HI:=hd (((Ils.nil w).add hp).keep hb0);have dI:=hd aJ;have fE:=hd eA;clear hn hp hb0 ay aJ eA aO;go_enter Tryz.func95,Tryz.ntmps95
 subst hwb;go_wp2_with(first
  |(go_at_call 141;refine Calls.mono (kPr dI.o cJ.o Kb hc1 (HI.o.hd)) ?_;intro e w1 dJ;obtain⟨Au,cu,rfl,iH,fy,hb1⟩:=dJ.opnL fE.o;have aD:=hd (HB.o.trans (hb1.mono HB.o.size));have eH:=hd (HX.o.keep hb1);have gh:=hd (HA.o.keep hb1);have gN:=hd ((HI.o.keep hb1).add fy);have hz1:=hb1.size;rw[HS.o]at hz1;clear fy hb1;obtain⟨r0,r1,r2,r3,r4,r5,r6,r7⟩:=zJ (eH.o.tl.hd);obtain⟨s0,s1,s2,s3,s4,s5,s6,s7⟩:=zJ (eH.o.hd)))
 have h7:=kD (a:=.bool false) (b:=.slice none 0 0) (c:=.slice none 0 0) (d:=.slice none 0 0) (eH.o.tl.hd);have h8:=(zT (g:=w.heap.size+1) (k:=w.heap.size+2) (a:=.bool false) (b:=.slice none 0 0) (c:=.slice none 0 0) (d:=.slice none 0 0) Kb).trans (eH.o.hd);have h9:=kD (a:=.bool false) (b:=.slice none 0 0) (c:=.slice none 0 0) (d:=.slice none 0 0) h8;have h10:=(zT (g:=w.heap.size+2) (k:=w.heap.size+1) (a:=.bool false) (b:=.slice none 0 0) (c:=.slice none 0 0) (d:=.slice none 0 0) Kb).trans h7;obtain⟨t0,t1,t2,t3,-⟩:=zJ h9;obtain⟨q0,q1,q2,q3,-⟩:=zJ h10;exact bodyPost_ret (v:=.tuple #[.agg #[.bool false,.slice none 0 0,.slice none 0 0,.slice none 0 0],.agg #[.bool false,.slice none 0 0,.slice none 0 0,.slice none 0 0],.int .i64 6]) (by simp[results,Tryz.results95,go_sem,t0,t1,t2,t3,q0,q1,q2,q3]) rfl (kRb Kb Kb aD.o)
theorem kRc (w:World)(v:Value)(n:NT)(A:Option Addr)(p:List Int)(lp c:Nat)(ay:p.length=lp)(hl:lp<=1000)(hc1:lp<=c)(hn:At w v n)(hp:IL w w.heap.size A p)(aJ:zGq p=(upP p,0))(lu:Nat)(eA:(upP p).length=lu)(_hlu5:lu<=1000)(sO:zGm n p=(zeroT,5)):
  Calls Tryz.prog 95 #[v,.slice A lp c] w (kFo zeroT zeroT 5 w):=by
 obtain⟨lf,PA,np,pc,TA,nt,tc,KA,nk,kc,rfl⟩:=hn.val;obtain⟨wb,hwb⟩:∃wb,wb=((w.alloc (.cells #[.bool lf,.slice PA np pc,.slice TA nt tc,.slice KA nk kc] 26)).alloc (.cells #[.bool false,.slice none 0 0,.slice none 0 0,.slice none 0 0] 26)).alloc (.cells #[.bool false,.slice none 0 0,.slice none 0 0,.slice none 0 0] 26):=⟨_,rfl⟩;have hb0:Below w.heap.size w wb:=hwb▸(kM Kk Kl).alloc Kf _;have aO:wb.heap.size=w.heap.size+3:=by rw[hwb];simp
 have HX:=hd (show kN8 [(w.heap.size+2,.cells #[.bool false,.slice none 0 0,.slice none 0 0,.slice none 0 0] 26),(w.heap.size+1,.cells #[.bool false,.slice none 0 0,.slice none 0 0,.slice none 0 0] 26),(w.heap.size,.cells #[.bool lf,.slice PA np pc,.slice TA nt tc,.slice KA nk kc] 26)] wb from hwb▸kPq w _ _ _);have HB:=hd hb0;have HS:=hd aO;have cJ:=hd ay;have HA:=hd (((Ats.nil w).add hn).keep hb0);have HI:=hd (((Ils.nil w).add hp).keep hb0);have dI:=hd aJ;have fE:=hd eA;have vH:=hd sO;clear hn hp hb0 ay aJ eA aO sO;go_enter Tryz.func95,Tryz.ntmps95
 subst hwb;go_wp2_with(first
  |(go_at_call 97;have _g:=aD;clear _g;refine Calls.mono (kPs vH.o cJ.o Kb (gh.o.hd) (gN.o.tl.hd)) ?_;intro e w2 h2;obtain⟨v2,d2,rfl,ht2,hb2⟩:=h2;obtain⟨lf2,bV,cE,bW,bX,cF,bY,bP,dE,bF,rfl⟩:=(ht2.at_ (B:=w2.heap.size) (fun b hb=>hb.2)).val;have hz2:=hb2.size;have gD:=aD.o.trans (hb2.mono aD.o.size);have bq:=hd (gD.alloc gD.size (.cells #[.bool lf2,.slice bV cE bW,.slice bX cF bY,.slice bP dE bF] 26));have f4:=hd ((eH.o.keep hb2).add (.cells #[.bool lf2,.slice bV cE bW,.slice bX cF bY,.slice bP dE bF] 26));have gT:=hd ((gh.o.keep hb2).keep (kNo _ (.cells #[.bool lf2,.slice bV cE bW,.slice bX cF bY,.slice bP dE bF] 26)));have aK:=hd ((gN.o.keep hb2).keep (kNo _ (.cells #[.bool lf2,.slice bV cE bW,.slice bX cF bY,.slice bP dE bF] 26)));have iY:=hd ht2;clear ht2 hb2 gD n0 n1 n2 n3;obtain⟨r0,r1,r2,r3,r4,r5,r6,r7⟩:=zJ (f4.o.tl.tl.hd);obtain⟨s0,s1,s2,s3,s4,s5,s6,s7⟩:=zJ (f4.o.tl.hd))
  |(go_at_call 141;refine Calls.mono (kPr dI.o cJ.o Kb hc1 (HI.o.hd)) ?_;intro e w1 dJ;obtain⟨Au,cu,rfl,iH,fy,hb1⟩:=dJ.opnL fE.o;have aD:=hd (HB.o.trans (hb1.mono HB.o.size));have eH:=hd (HX.o.keep hb1);have gh:=hd (HA.o.keep hb1);have gN:=hd ((HI.o.keep hb1).add fy);have hz1:=hb1.size;rw[HS.o]at hz1;clear fy hb1;obtain⟨n0,n1,n2,n3,-⟩:=zJ (eH.o.tl.tl.hd)))
 have h7:=kD (a:=.bool false) (b:=.slice none 0 0) (c:=.slice none 0 0) (d:=.slice none 0 0) (f4.o.tl.tl.hd);have h8:=(zT (g:=w.heap.size+1) (k:=w.heap.size+2) (a:=.bool false) (b:=.slice none 0 0) (c:=.slice none 0 0) (d:=.slice none 0 0) Kb).trans (f4.o.tl.hd);have h9:=kD (a:=.bool false) (b:=.slice none 0 0) (c:=.slice none 0 0) (d:=.slice none 0 0) h8;have h10:=(zT (g:=w.heap.size+2) (k:=w.heap.size+1) (a:=.bool false) (b:=.slice none 0 0) (c:=.slice none 0 0) (d:=.slice none 0 0) Kb).trans h7;obtain⟨t0,t1,t2,t3,-⟩:=zJ h9;obtain⟨q0,q1,q2,q3,-⟩:=zJ h10;exact bodyPost_ret (v:=.tuple #[.agg #[.bool false,.slice none 0 0,.slice none 0 0,.slice none 0 0],.agg #[.bool false,.slice none 0 0,.slice none 0 0,.slice none 0 0],.int .i64 5]) (by simp[results,Tryz.results95,go_sem,t0,t1,t2,t3,q0,q1,q2,q3]) rfl (kRb Kb Kb bq.o)
theorem kWh (w:World)(v:Value)(n:NT)(A:Option Addr)(p:List Int)(lp c:Nat)(ay:p.length=lp)(hl:lp<=1000)(hc1:lp<=c)(hn:At w v n)(hp:IL w w.heap.size A p)(aJ:zGq p=(upP p,0))(lu:Nat)(eA:(upP p).length=lu)(l5:lu<=1000)(x y:NT)(k kx j:Nat)(hk:lp=k+1)(sO:zGm n p=(y,0))(hg:zGm n (upP p)=(x,0))(iZ:x.ks.length=kx)(hi:iAt p k=(j:Int))(hjk:j<kx)(z:NT)(hput:zSe n (upP p) (jS x j 1 [])=(z,0)):
  Calls Tryz.prog 95 #[v,.slice A lp c] w (kFo z y 0 w):=by
 obtain⟨lf,PA,np,pc,TA,nt,tc,KA,nk,kc,rfl⟩:=hn.val;obtain⟨wb,hwb⟩:∃wb,wb=((w.alloc (.cells #[.bool lf,.slice PA np pc,.slice TA nt tc,.slice KA nk kc] 26)).alloc (.cells #[.bool false,.slice none 0 0,.slice none 0 0,.slice none 0 0] 26)).alloc (.cells #[.bool false,.slice none 0 0,.slice none 0 0,.slice none 0 0] 26):=⟨_,rfl⟩;have hb0:Below w.heap.size w wb:=hwb▸(kM Kk Kl).alloc Kf _;have aO:wb.heap.size=w.heap.size+3:=by rw[hwb];simp
 have HX:=hd (show kN8 [(w.heap.size+2,.cells #[.bool false,.slice none 0 0,.slice none 0 0,.slice none 0 0] 26),(w.heap.size+1,.cells #[.bool false,.slice none 0 0,.slice none 0 0,.slice none 0 0] 26),(w.heap.size,.cells #[.bool lf,.slice PA np pc,.slice TA nt tc,.slice KA nk kc] 26)] wb from hwb▸kPq w _ _ _);have HB:=hd hb0;have HS:=hd aO;have cJ:=hd ay;have HA:=hd (((Ats.nil w).add hn).keep hb0);have HI:=hd (((Ils.nil w).add hp).keep hb0);subst hk;have dI:=hd aJ;have fE:=hd eA;have HG:=hd hg;have vH:=hd sO;have li:=hd iZ;have HJ:=hd hi;have bp:=hd hput;have bQ:=hd (show k<p.length by omega);obtain⟨b,o,rfl,hbl,-⟩:=hp.at_ (k:=k) bQ.o;clear hn hp hb0 ay aJ eA aO hg sO iZ hi hput;go_enter Tryz.func95,Tryz.ntmps95
 subst hwb;go_upto_region 9 with(first
  |(go_at_call 97;have _g:=bq;clear _g;refine Calls.mono (kPs HG.o fE.o Kb (gT.o.hd) (aK.o.hd)) ?_;intro e w3 hc3;obtain⟨lf3,tY,BV,tZ,ua,BW,ub,pD,yi,nr,rfl,gL,hb3⟩:=hc3.opn;have hz3:=hb3.size;have cV:=hd (bq.o.trans (hb3.mono bq.o.size));have yj:=hd (f4.o.keep hb3);have BX:=hd (gT.o.keep hb3);have ng:=hd gL;have tV:=hd (aK.o.keep hb3);have sP:=hd hb3;have sQ:=kNo w3 (.cells #[.bool lf3,.slice tY BV tZ,.slice ua BW ub,.slice pD yi nr] 26);have hpl:=(kQv ((tV.o.tl.hd).later sQ) bQ.o).2;rw[HJ.o]at hpl;clear hb3 sQ gL n0 n1 n2 n3)
  |(go_at_call 97;have _g:=aD;clear _g;refine Calls.mono (kPs vH.o cJ.o Kb (gh.o.hd) (gN.o.tl.hd)) ?_;intro e w2 h2;obtain⟨v2,d2,rfl,ht2,hb2⟩:=h2;obtain⟨lf2,bV,cE,bW,bX,cF,bY,bP,dE,bF,rfl⟩:=(ht2.at_ (B:=w2.heap.size) (fun b hb=>hb.2)).val;have hz2:=hb2.size;have gD:=aD.o.trans (hb2.mono aD.o.size);have bq:=hd (gD.alloc gD.size (.cells #[.bool lf2,.slice bV cE bW,.slice bX cF bY,.slice bP dE bF] 26));have f4:=hd ((eH.o.keep hb2).add (.cells #[.bool lf2,.slice bV cE bW,.slice bX cF bY,.slice bP dE bF] 26));have gT:=hd ((gh.o.keep hb2).keep (kNo _ (.cells #[.bool lf2,.slice bV cE bW,.slice bX cF bY,.slice bP dE bF] 26)));have aK:=hd ((gN.o.keep hb2).keep (kNo _ (.cells #[.bool lf2,.slice bV cE bW,.slice bX cF bY,.slice bP dE bF] 26)));have iY:=hd ht2;clear ht2 hb2 gD n0 n1 n2 n3;obtain⟨n0,n1,n2,n3,-⟩:=zJ (f4.o.tl.tl.tl.hd))
  |(go_at_call 141;refine Calls.mono (kPr dI.o cJ.o Kb hc1 (HI.o.hd)) ?_;intro e w1 dJ;obtain⟨Au,cu,rfl,iH,fy,hb1⟩:=dJ.opnL fE.o;have aD:=hd (HB.o.trans (hb1.mono HB.o.size));have eH:=hd (HX.o.keep hb1);have gh:=hd (HA.o.keep hb1);have gN:=hd ((HI.o.keep hb1).add fy);have hz1:=hb1.size;rw[HS.o]at hz1;clear fy hb1;obtain⟨n0,n1,n2,n3,-⟩:=zJ (eH.o.tl.tl.hd)))
 obtain⟨dx,hx⟩:=ng.o;obtain⟨d',lfx,ps,tx,ks,PAx,pcx,TAx,tcx,KAx,kcx,yl,rfl,ev,hps,htx,hf,hks⟩:=hx.open_;simp only[Value.agg.injEq,Array.mk.injEq,List.cons.injEq,Value.bool.injEq,Value.slice.injEq,and_true]at ev;obtain⟨rfl,⟨rfl,rfl,rfl⟩,⟨rfl,rfl,rfl⟩,rfl,l6,rfl⟩:=ev;have vI:kx=yi:=by rw[l6];exact li.o.symm
 subst vI;have hkc:kx<=nr:=by have:=hf.2.2.2.2.2.2;omega
 have hkl:kx<=1759218604441:=by have:=hf.2.2.2.1;omega
 obtain⟨D,hD,aR⟩:=zVa pD kx nr (j+1) Kb hkc;have bu:∀W:World,(Instr.slice 24 (.slice pD kx nr) (some (.int .i64 ((j:Int)+1))) none none).run Tryz.prog W=.ok (.slice D (kx-(j+1)) (nr-(j+1))) W:=fun W=>by
  have:=aR W;rwa[Int.natCast_add]at this
 have bD:=zRw pD kx nr j Kb;have hwr:IntKind.i64.wrap ((j:Int)+1)=(j:Int)+1:=IntWalk.i64_in _ Kb;obtain⟨eK,hv1,bo⟩:=zKn.vals (show zKn d' w3 w3.heap.size pD (ks.take j)from fun q z hz=>hks q z (by rw[List.getElem?_take]at hz;split at hz<;>first|exact hz|cases hz));obtain⟨l7,hv2,hl2⟩:=(hD d' w3 w3.heap.size ks hks l6.symm).vals;have ax:=hd bo;have ar:=hd hl2;have sS:=hd (show(zGg eK).length=j*4/\∀c ∈ zGg eK,c.oneCell'=true from⟨by rw[hv1.flat.1,List.length_take];congr 1;omega,hv1.flat.2⟩);have jx:=hd (show(zGg l7).length=(kx-(j+1))*4/\∀c ∈ zGg l7,c.oneCell'=true from⟨by rw[hv2.flat.1,List.length_drop,<-l6],hv2.flat.2⟩);have pE:=hd hv1;have pF:=hd hv2;have pG:=hd hps;have mB:=hd htx;have qo:=hd hf;have dL:=hd l6;have bE:=hd (heap_alloc_new w3 (.cells #[.bool lf3,.slice tY ps.length tZ,.slice ua tx.length ub,.slice pD kx nr] 26));clear hx hps htx hf hks hD aR hv1 bo hv2 hl2 hpl l6 yl;obtain⟨a0,a1,a2,a3,a4,a5,a6,a7⟩:=zJ bE.o;go_region_law(first
  |(refine zIq zWg _ rfl (.tmp 52) (.tmp 57) rfl w3.heap.size (.slice A5 j c5) j (zGg eK) rfl vJ.o D (kx-(j+1)) (nr-(j+1)) w3.heap.size (zGg l7) rfl jx.o.1 (ar.o.below ip.o) jx.o.2 Kg Kb Kb ?_;intro A6 c6 w6 aQ aw bR;have aH:=hd (ip.o.grown aw Kb pj.o);have vL:=hd aQ;have pH:=(aw.block w3.heap.size Kb (fun e=>sU.o e.symm)).trans vM.o;have vN:=hd pH;have vO:=hd (kOo sU.o Kb bR);have uh:=aw.size;obtain⟨e0,e1,e2,e3,e4,e5,e6,e7⟩:=zJ pH;clear aQ aw bR pH)
  |(refine kQb zWg _ rfl (.const (.slice none 0 0)) (.tmp 51) rfl w3.heap.size rfl pD j nr w3.heap.size (zGg eK) rfl sS.o.1 (ax.o.below (kNo w3 _).drew) sS.o.2 Kg Kb Kc ?_;intro A5 c5 w5 f5 cP jr;have cR:Below w3.heap.size w3 w5:=(kNo w3 _).drew.trans (cP.mono Kc);have ip:=hd cR;have vJ:=hd f5;have nu:=kI (W:=(w3.alloc _).drew) bE.o cP;have ui:=lt_of_block nu;have vM:=hd nu;have sU:=hd (kOo (g:=w3.heap.size) Kc Kc jr);have pj:=hd (fun b e=>(f5.lt b e).1);have ju:=cR.size;obtain⟨b0,b1,b2,b3,b4,b5,b6,b7⟩:=zJ nu;clear cR f5 cP jr nu))
 all_goals
  generalize jq:World.setCell w6 _ _=w7
  have cZ:Below w3.heap.size w3 w7:=jq▸aH.o.setCell Kl _
  have ie:w7.heap[w3.heap.size]? =some (.cells #[.bool lf3,.slice tY ps.length tZ,.slice ua tx.length ub,.slice A6 (j+(kx-(j+1))) c6] 26 (0,0)):=by rw[<-jq,zG4 vN.o];rfl
  have dR:=ownsRow_setCell_other (a:=⟨w3.heap.size,3,none⟩) vL.o vO.o (.slice A6 (j+(kx-(j+1))) c6)
  rw[jq]at dR
  clear a0 a1 a2 a3 a4 a5 a6 a7 b0 b1 b2 b3 b4 b5 b6 b7 e0 e1 e2 e3 e4 e5 e6 e7 jq bD bu hwr
  obtain⟨a0,a1,a2,a3,-⟩:=zJ ie
  obtain⟨n0,n1,n2,n3,-⟩:=zJ (kI (yj.o.tl.tl.tl.hd) cZ)
  have BZ:=hd (yj.o.keep cZ)
  have hkk:=dL.o
  have hvs:zM1 d' w7 w7.heap.size (eK++l7) (spl ks j 1 []):=by
   have:=((pE.o.below cZ).more cZ.size).append ((pF.o.below cZ).more cZ.size);unfold spl;rw[List.append_nil];exact this
  have eZ:=kDy (ks:=spl ks j 1 []) (d:=d') (us:=eK++l7) (by rw[zRu];exact dR) hvs
  have hsl:(spl ks j 1 []).length=j+(kx-(j+1)):=by
   have h9:=zM4 (ks:=ks) (i:=j) (many:=1) (o:=[]) Kb;simp at h9;omega
  have sV:zV (d'+1) w7 w7.heap.size (.agg #[.bool lf3,.slice tY ps.length tZ,.slice ua tx.length ub,.slice A6 (j+(kx-(j+1))) c6]) (jS (.mk lf3 ps tx ks) j 1 []):=
   kSb ((pG.o.below cZ).more cZ.size) (mB.o.later cZ) qo.o hsl Kb (zPm dR) eZ
  obtain⟨dn,sW⟩:=BX.o.hd
  have sX:=hd (kQz (upP p) dn (d'+1) w7 _ _ n _ Au lu cu fE.o Kb iH (sW.later cZ) sV ((tV.o.hd).later cZ))
  rw[bp.o]at sX
  have qm:=hd (cV.o.trans (cZ.mono cV.o.size))
  have ym:=hd (sP.o.trans (cZ.mono sP.o.size))
  have Ca:=cZ.size
  have Cb:=cV.o.size
  clear ie dR hvs eZ hsl sV sW hkk cZ
  go_upto_region 11 with(first
   |(go_at_call 99;refine Calls.mono sX.o ?_;intro e w8 h8;obtain⟨v8,d8,rfl,iu,fA⟩:=h8;obtain⟨lf8,fL,fM,fN,fO,nt8,fP,fQ,fR,fS,rfl⟩:=(iu.at_ (B:=w8.heap.size) (fun b hb=>hb.2)).val;have og:=hd iu;have vP:=hd fA;have cS:=hd (qm.o.trans (fA.mono qm.o.size));have Cc:=hd (BZ.o.keep fA);have vQ:=fA.size;clear iu fA n0 n1 n2 n3 a0 a1 a2 a3))
  generalize aC:World.alloc w8 _=w9
  have br:Below w8.heap.size w8 w9:=aC▸kNo w8 _
  have oh:w9.heap[w8.heap.size]? =some (.cells #[.bool lf8,.slice fL fM fN,.slice fO nt8 fP,.slice fQ fR fS] 26 (0,0)):=aC▸heap_alloc_new w8 _
  have nv:=hd (Cc.o.keep br)
  have qA:=br.size
  have bj:=hd (cS.o.trans (br.mono cS.o.size))
  have vR:=fun(b:Nat)(h:b<w8.heap.size)=>br.block b h
  have vS:=ym.o.size
  rw[sz1]at vS
  have tW:zAx (fun b=>w.heap.size+3<=b/\b<w9.heap.size) d2 w9 (.agg #[.bool lf2,.slice bV cE bW,.slice bX cF bY,.slice bP dE bF]) y:=
   iY.o.block_keep (fun b h1 h2=>⟨by omega,by omega⟩) (fun b h1 h2=>(vR b Kb).trans ((vP.o.block b Kb).trans ((ym.o.block b (by rw[sz1];omega)).trans (Below.heap_alloc _ _ _ h2))))
  have yn:zAx (fun b=>w.heap.size+3<=b/\b<w9.heap.size) d8 w9 (.agg #[.bool lf8,.slice fL fM fN,.slice fO nt8 fP,.slice fQ fR fS]) z:=
   og.o.block_keep (fun b h1 h2=>⟨by omega,by omega⟩) (fun b h1 h2=>vR b h2)
  have vT:=hd tW
  have vU:=hd yn
  clear aC br vR tW yn
  obtain⟨g0,g1,g2,g3,-⟩:=zJ oh
  obtain⟨m0,m1,m2,m3,-⟩:=zJ (nv.o.hd)
  obtain⟨r0,r1,r2,r3,r4,r5,r6,r7⟩:=zJ (nv.o.tl.tl.hd)
  obtain⟨s0,s1,s2,s3,s4,s5,s6,s7⟩:=zJ (nv.o.tl.hd)
  clear oh
  go_region
  go_wp2
  have h9:=kD (a:=.bool lf8) (b:=.slice fL fM fN) (c:=.slice fO nt8 fP) (d:=.slice fQ fR fS) (nv.o.tl.tl.hd)
  have h10:=(zT (w:=w9) (g:=w.heap.size+1) (k:=w.heap.size+2) (a:=.bool lf8) (b:=.slice fL fM fN) (c:=.slice fO nt8 fP) (d:=.slice fQ fR fS) Kb).trans (nv.o.tl.hd)
  have h11:=kD (a:=.bool lf2) (b:=.slice bV cE bW) (c:=.slice bX cF bY) (d:=.slice bP dE bF) h10
  have h12:=(zT (g:=w.heap.size+2) (k:=w.heap.size+1) (a:=.bool lf2) (b:=.slice bV cE bW) (c:=.slice bX cF bY) (d:=.slice bP dE bF) Kb).trans h9
  obtain⟨t0,t1,t2,t3,-⟩:=zJ h11
  obtain⟨q0,q1,q2,q3,-⟩:=zJ h12
  exact bodyPost_ret (v:=.tuple #[.agg #[.bool lf8,.slice fL fM fN,.slice fO nt8 fP,.slice fQ fR fS],.agg #[.bool lf2,.slice bV cE bW,.slice bX cF bY,.slice bP dE bF],.int .i64 0]) (by simp[results,Tryz.results95,go_sem,t0,t1,t2,t3,q0,q1,q2,q3]) rfl
   (kHs (lo:=w.heap.size+3) (g1:=w.heap.size+1) (g2:=w.heap.size+1+1) Kb Kb Kb Kb rfl (fun q h1 h2=>rfl) vU.o vT.o bj.o)
theorem kX3 {w:World}{v u:Value}{x:NT}{lp c:Nat}(hr:zSe n p m=(x,er))(ay:p.length=lp)(hl:lp<=1000)(hc:lp<=c)(hn:At w v n)(hm:At w u m)(hp:IL w w.heap.size A p):Calls Tryz.prog 99 #[v,.slice A lp c,u] w (zP2 (x,er) w):=by
 obtain⟨d,hn⟩:=hn;obtain⟨dm,hm⟩:=hm;rw[<-hr];exact kQz p d dm w v u n m A lp c ay Kb hc hn hm hp
theorem kR5 {k:Nat}(h:p.length=k+1):lastL p=iAt p k:=by unfold lastL;rw[h];rfl
theorem kVe {k:Nat}(h:p.length=k+1):(upP p).length=k:=by unfold upP;rw[List.length_take];omega
theorem kX4 {w:World}{v u:Value}{x:NT}{lp c:Nat}(hr:zGo n p m=(x,er))(ay:p.length=lp)(hl:lp<=1000)(hc:lp<=c)(hn:At w v n)(hm:At w u m)(hp:IL w w.heap.size A p)(ey:∀x,kB n (upP p)=some x->x.ks.length<1759218604441):Calls Tryz.prog 94 #[v,.slice A lp c,u] w (zP2 (x,er) w):=by
 rw[<-hr];rcases lp with _|k
 ·rw[show zGo n p m=(zeroT,6) by unfold zGo;rw[if_pos ay]];exact kUd w v u n m A p 0 c ay hl hc hn hm hp (zOe ay) 0 rfl Kb
 ·obtain⟨hp1,hp2,_⟩:=zM3 ay;have aJ:zGq p=(upP p,0):=by rw[hp1,hp2]
  have ny:=kVe ay;have heq:zGo n p m=zIf (zGn (iAt p k) m) n (upP p):=by unfold zGo;rw[if_neg Kb,kR5 ay]
  cases hx:kB n (upP p)with
  |none=>
   rw[heq,zFq (zBa _ _) hx];exact kUe w v u n m A p _ c ay hl hc hn hm hp aJ k ny Kb (zB2 hx)
  | some x=>
   have hg:=kP hx;have iZ:=ey x hx;cases aI:x.lf
   ·rcases Classical.em (iAt p k<0)with h1|h1
    ·have h9:zGn (iAt p k) m x=(zeroT,8):=by unfold zGn;rw[if_neg (by rw[aI];simp),if_pos (.inl h1)]
     rw[heq,zHu (zBa _ _) hx (by rw[h9];decide),h9];exact kU4 w v u n m A p _ c ay hl hc hn hm hp aJ k ny Kb x k _ _ rfl hg aI rfl rfl h1
    ·rcases Classical.em ((x.ks.length:Int)<iAt p k)with h2|h2
     ·have h9:zGn (iAt p k) m x=(zeroT,8):=by unfold zGn;rw[if_neg (by rw[aI];simp),if_pos (.inr h2)]
      rw[heq,zHu (zBa _ _) hx (by rw[h9];decide),h9];exact kU5 w v u n m A p _ c ay hl hc hn hm hp aJ k ny Kb x k _ _ rfl hg aI rfl rfl Kb h2
     ·obtain⟨j,hj⟩:∃j:Nat,iAt p k=(j:Int):=⟨(iAt p k).toNat,by omega⟩;have h9:zGn (iAt p k) m x=(jS x j 0 [m],0):=by unfold zGn;rw[if_neg (by rw[aI];simp),if_neg Kb,hj];rfl
      rw[heq,zCe (zBa _ _) hx (by rw[h9]),h9];exact kWj w v u n m A p _ c ay hl hc hn hm hp aJ k ny Kb x k _ _ rfl hg aI rfl hj j rfl Kb iZ _ (by rw[kHz,hx])
   ·have h9:zGn (iAt p k) m x=(zeroT,7):=by unfold zGn;rw[if_pos aI]
    rw[heq,zHu (zBa _ _) hx (by rw[h9];decide),h9];exact kUf w v u n m A p _ c ay hl hc hn hm hp aJ k ny Kb x k _ _ rfl hg aI rfl rfl
theorem kX5 {w:World}{v:Value}{x y:NT}{lp c:Nat}(hr:zBw n p=(x,er))(hy:zE3 n p=y)(ay:p.length=lp)(hl:lp<=1000)(hc:lp<=c)(hn:At w v n)(hp:IL w w.heap.size A p):Calls Tryz.prog 95 #[v,.slice A lp c] w (kFo x y er w):=by
 have h1:x=(zBw n p).1:=by rw[hr]
 have h2:er=(zBw n p).2:=by rw[hr]
 rw[h1,h2,<-hy];clear h1 h2 hr hy;rcases lp with _|k
 ·rw[show zBw n p=(zeroT,6) by unfold zBw;rw[if_pos ay],show zE3 n p=zeroT by unfold zE3;rw[if_pos ay]];exact kTx w v n A p 0 c ay hl hc hn hp (zOe ay) 0 rfl Kb
 ·obtain⟨hp1,hp2,_⟩:=zM3 ay;have aJ:zGq p=(upP p,0):=by rw[hp1,hp2]
  have ny:=kVe ay;have heq:zBw n p=zIf (zJy (iAt p k)) n (upP p):=by unfold zBw;rw[if_neg Kb,kR5 ay]
  have hcm:zE3 n p=(zGm n p).1:=by unfold zE3;rw[if_neg Kb]
  have hup:=zHv (n:=n) (p:=p) Kb;rw[kR5 ay]at hup;cases hx:kB n (upP p)with
  |none=>
   have lQ:kB n p=none:=by rw[hup,hx];rfl
   rw[heq,hcm,zFq (zG2 _) hx,zB2 lQ];exact kRc w v n A p _ c ay hl hc hn hp aJ k ny Kb (zB2 lQ)
  |some x=>
   rw[hx]at hup;have sY:kB n p=zBh x (iAt p k):=hup;cases hb:zOf x (iAt p k)
   ·have lQ:kB n p=none:=by rw[sY,zJx hb]
    have h9:zJy (iAt p k) x=(zeroT,5):=by unfold zJy;rw[if_neg (by rw[hb];simp)]
    rw[heq,hcm,zHu (zG2 _) hx (by rw[h9];decide),h9,zB2 lQ];exact kRc w v n A p _ c ay hl hc hn hp aJ k ny Kb (zB2 lQ)
   ·obtain⟨y,hy⟩:=zJw hb;have lQ:kB n p=some y:=by rw[sY,hy]
    obtain⟨h1,h2⟩:=zEx.1 hb;obtain⟨j,hj⟩:∃j:Nat,iAt p k=(j:Int):=⟨(iAt p k).toNat,by omega⟩;have h9:zJy (iAt p k) x=(jS x j 1 [],0):=by unfold zJy;rw[if_pos hb,hj];rfl
    rw[heq,hcm,zCe (zG2 _) hx (by rw[h9]),h9,kP lQ];exact kWh w v n A p _ c ay hl hc hn hp aJ k ny Kb x y k _ j rfl (kP lQ) (kP hx) rfl hj Kb _ (by rw[kHz,hx])
def kYy (w:World)(n:NT)(e:Ending)(w':World):Prop:=∃c:NC,e=.returned (.agg c.row)/\kS w' c n/\Below w.heap.size w w'
theorem kTy {w:World}{c:NC}(h:kS w c n):Calls Tryz.prog 12 #[.agg c.row] w (kYy w n):=by
 obtain⟨d,h⟩:=h;refine(kOn d w _ n h).mono fun e w' h1=>?_;obtain⟨v,rfl,h2,h3⟩:=h1.copied;obtain⟨c',rfl,h4⟩:=zFo (h2.at_ fun b hb=>hb.2);exact⟨c',rfl,h4,h3⟩
def OC.into (o:OC):SC:=⟨o.gi,o.G1,o.g1,o.e1,o.go,o.G2,o.g2,o.e2,o.gp⟩
theorem zLl {w:World}{o:OC}{a:OpP}(h:OkA w o a):zB1 w o.into a.g:=h.hg
section
variable {w w':World}{g:Nat}{a b x y:Value}{t:TypeId}
theorem yb2 (h:w.heap[g]? =some (.cells #[a,b] t (0,0))):w.cell? ⟨g,0,none⟩=some a/\w.cell? ⟨g,1,none⟩=some b/\w.frozen? ⟨g,0,none⟩=false/\w.frozen? ⟨g,1,none⟩=false:=by
 refine⟨?_,?_,?_,?_⟩<;>simp[World.cell?,World.frozen?,h]
theorem yset (w:World)(g:Nat)(t:TypeId)(cs:Array Value)(k:Nat)(x:Value)(h:w.heap[g]? =some (.cells cs t (0,0))):(w.setCell ⟨g,k,none⟩ x).heap[g]? =some (.cells (cs.setIfInBounds k x) t (0,0)):=by
 have hlt:=xlt h;have h':w.heap[g]=.cells cs t (0,0):=by simpa[Array.getElem?_eq_getElem hlt]using h
 show(w.heap.modify g _)[g]? =_
 rw[Array.getElem?_eq_getElem (by simpa using hlt),Array.getElem_modify_self,h'];rfl
theorem kMq (h:w.heap[g]? =some (.cells #[a,b] t (0,0)))(x:Value):(w.setCell ⟨g,0,none⟩ x).heap[g]? =some (.cells #[x,b] t (0,0)):=yset w g t _ 0 x h
theorem zCr (h:w.heap[g]? =some (.cells #[a,b] t (0,0)))(x y:Value):((w.setCell ⟨g,0,none⟩ x).setCell ⟨g,1,none⟩ y).heap[g]? =some (.cells #[x,y] t (0,0)):=yset _ g t _ 1 y (yset w g t _ 0 x h)
theorem kFq {cs:Array Value}{g' k:Nat}(h:w.heap[g]? =some (.cells cs t (0,0)))(hne:g≠g')(x:Value):(w.setCell ⟨g',k,none⟩ x).heap[g]? =some (.cells cs t (0,0)):=(Below.heap_setCell _ _ _ _ hne).trans h
end
theorem kK3 (w:World)(o o' o2:Obj):(((w.alloc o).alloc o').alloc o2).heap[w.heap.size]? =some o/\(((w.alloc o).alloc o').alloc o2).heap[w.heap.size+1]? =some o'/\(((w.alloc o).alloc o').alloc o2).heap[w.heap.size+1+1]? =some o2:=by
 refine⟨?_,?_,?_⟩
 ·rw[Below.heap_alloc _ _ _ Kf,Below.heap_alloc _ _ _ Kc];exact heap_alloc_new _ _
 ·rw[Below.heap_alloc _ _ _ Kc,show w.heap.size+1=(w.alloc o).heap.size by simp];exact heap_alloc_new _ _
 ·rw[show w.heap.size+1+1=((w.alloc o).alloc o').heap.size by simp];exact heap_alloc_new _ _
theorem kMr (w:World)(o o':Obj):((w.alloc o).alloc o').heap[w.heap.size]? =some o/\((w.alloc o).alloc o').heap[w.heap.size+1]? =some o':=by
 refine⟨?_,?_⟩
 ·rw[Below.heap_alloc _ _ _ Kc];exact heap_alloc_new _ _
 ·rw[show w.heap.size+1=(w.alloc o).heap.size by simp];exact heap_alloc_new _ _
theorem zPp (w:World)(o o':Obj):Below w.heap.size w ((w.alloc o).alloc o'):=(Kk.alloc Kl _).alloc Kc _
theorem kH7 (w:World)(o o' o2:Obj):Below w.heap.size w (((w.alloc o).alloc o').alloc o2):=(zPp w o o').alloc Kf _
theorem zBt.yset {w:World}{B g k:Nat}{u x:Value}{cs:Array Value}{t:TypeId}{fr:Nat×Nat}(h:zBt w B u l)(hg:w.heap[g]? =some (.cells cs t fr))(ht:t≠3):zBt (w.setCell ⟨g,k,none⟩ x) B u l:=by
 refine zBt.of_own (ownsRow_setCell_other h.own (a:=⟨g,k,none⟩) (fun e=>?_) _) rfl;rcases h.own.2 with⟨e1,_⟩|⟨g',cap,cur,e1,_,hg',_⟩
 ·rw[e1]at e;cases e
 ·rw[e1]at e;injection e with e;have e:g'=g:=e;subst e;rw[hg]at hg';injection hg' with hg';injection hg' with _ h2;exact ht h2
theorem zBt.ypt {w:World}{B g:Nat}{u a b x y:Value}(h:zBt w B u l)(hg:w.heap[g]? =some (.cells #[a,b] 29 (0,0))):zBt ((w.setCell ⟨g,0,none⟩ x).setCell ⟨g,1,none⟩ y) B u l:=
 (h.yset hg Kd).yset (kMq hg x) Kd
def zC3 (w:World)(r:(List Int×Int)×Bool)(e:Ending)(w':World):Prop:=∃v,e=.returned (.tuple #[.agg #[v,.int .i64 r.1.2],.bool r.2])/\zBt w' w.heap.size v r.1.1/\Below w.heap.size w w'
theorem zBi {w w':World}{r:(List Int×Int)×Bool}{z:Int}{b:Bool}{v:Value}(h:r=((l,z),b))(ho:zBt w' w.heap.size v l)(hb:Below w.heap.size w w'):zC3 w r (.returned (.tuple #[.agg #[v,.int .i64 z],.bool b])) w':=by
 subst h;exact⟨v,rfl,ho,hb⟩
def PA (w:World)(v:Value)(p:List Int×Int):Prop:=∃u,v=.agg #[u,.int .i64 p.2]/\XA w u p.1
theorem kK4 {W:World}{b:Bool}(h:decide (zDx aff)=b):Calls Tryz.prog 137 #[.int .i64 aff] W (jA (.bool b) W):=by
 subst h;by_cases h0:aff=0
 ·subst h0;go_enter Tryz.func137,Tryz.ntmps137
  go_wp2
  go_ret
  exact⟨rfl,Below.refl _ _⟩
 by_cases h1:aff=1
 ·subst h1;go_enter Tryz.func137,Tryz.ntmps137
  go_wp2
  go_ret
  exact⟨rfl,Below.refl _ _⟩
 by_cases h2:aff=2
 ·subst h2;go_enter Tryz.func137,Tryz.ntmps137
  go_wp2
  go_ret
  exact⟨rfl,Below.refl _ _⟩
 have HF:=hd (show decide (zDx aff)=false from decide_eq_false (fun h=>by unfold zDx at h;omega));have e0:(aff==0)=false:=by simp[h0]
 have e1:(aff==1)=false:=by simp[h1]
 have e2:(aff==2)=false:=by simp[h2]
 clear h0 h1 h2;go_enter Tryz.func137,Tryz.ntmps137
 go_wp2
 go_ret
 exact⟨kC HF.o.symm,Below.refl _ _⟩
theorem zH0 {W:World}{off:Int}{b:Bool}(h:zEl off pos aff=b):Calls Tryz.prog 138 #[.int .i64 off,.int .i64 pos,.int .i64 aff] W (jA (.bool b) W):=by
 subst h;by_cases h0:pos<off
 ·have HF:=hd (show zEl off pos aff=true by unfold zEl;simp[h0]);have e0:decide (pos<off)=true:=decide_eq_true h0;clear h0;go_enter Tryz.func138,Tryz.ntmps138
  go_wp2
  go_ret
  exact⟨kC HF.o.symm,Below.refl _ _⟩
 have e0:decide (pos<off)=false:=decide_eq_false h0;by_cases h1:pos=off
 ·by_cases h2:aff=1
  ·have HF:=hd (show zEl off pos aff=true by unfold zEl;simp[h1,h2]);have e1:(pos==off)=true:=by simp[h1]
   have e2:(aff==1)=true:=by simp[h2]
   clear h0 h1 h2;go_enter Tryz.func138,Tryz.ntmps138
   go_wp2
   go_ret
   exact⟨kC HF.o.symm,Below.refl _ _⟩
  ·have HF:=hd (show zEl off pos aff=false by unfold zEl;simp[h0,h2]);have e1:(pos==off)=true:=by simp[h1]
   have e2:(aff==1)=false:=by simp[h2]
   clear h0 h1 h2;go_enter Tryz.func138,Tryz.ntmps138
   go_wp2
   go_ret
   exact⟨kC HF.o.symm,Below.refl _ _⟩
 ·have HF:=hd (show zEl off pos aff=false by unfold zEl;simp[h0,h1]);have e1:(pos==off)=false:=by simp[h1]
  clear h0 h1;go_enter Tryz.func138,Tryz.ntmps138
  go_wp2
  go_ret
  exact⟨kC HF.o.symm,Below.refl _ _⟩
theorem zW6 {W:World}{u:Value}{off:Int}(hp:XA W u p)(h:pos=off/\aff=0):Calls Tryz.prog 139 #[.agg #[u,.int .i64 off],.int .i64 pos,.int .i64 aff] W (zC3 W noP):=by
 have e1:(pos==off)=true:=by simp[h.1]
 have e2:(aff==0)=true:=by simp[h.2]
 clear h;obtain⟨A,n,c,rfl,hn,hl,hc,hp⟩:=hp;obtain⟨W0,hW⟩:∃W0,W0=(W.alloc (.cells #[.slice A n c,.int .i64 off] 29)).alloc (.cells #[.slice none 0 0,.int .i64 0] 29):=⟨_,rfl⟩;have hb0:Below W.heap.size W W0:=hW▸zPp _ _ _;have e0:=kMr W (Obj.cells #[Value.slice A n c,Value.int .i64 off] 29) (Obj.cells #[Value.slice none 0 0,Value.int .i64 0] 29);rw[<-hW]at e0;have bQ:=hd (fun w(h:Below W0.heap.size W0 w)=>zI1 e0.1 h);have aP:=hd (fun w(h:Below W0.heap.size W0 w)=>zI1 e0.2 h);have eI:=hd (fun w(h:Below W0.heap.size W0 w)=>hp.later (hb0.trans (h.mono hb0.size)));have HP:=hd (show∀w,Below W0.heap.size W0 w->XA w (.slice A n c) p from fun w h=>⟨A,n,c,rfl,hn,hl,hc,eI.o w h⟩);have aa:=hd (Below.refl W0.heap.size W0);have HW:=hd hW;have aj:=hd hb0;have HN:=hd hn;obtain⟨x0,x1,_,f1⟩:=yb2 (bQ.o W0 aa.o);obtain⟨z0,z1,g0,g1⟩:=yb2 (aP.o W0 aa.o);clear hp hn hW hb0 e0;go_enter Tryz.func139,Tryz.ntmps139
 go_wp2
 rw[<-HW.o];refine bodyPost_ret (v:=.tuple #[.agg #[.slice none 0 0,.int .i64 0],.bool false]) (by simp[results,Tryz.results139,go_sem,z0,z1]) rfl (zBi rfl (zBt.nil _ _) aj.o)
theorem kRd {P:Prop}(h:P:=by
 clear h;go_enter Tryz.func139,Tryz.ntmps139
 go_wp2_with(go_at_call 138;(try rw[<-HW.o]);refine Calls.mono (zH0 HS.o) ?_;rintro e w9 ⟨rfl,b9⟩;have bj:=hd b9;clear b9 x0 x1 z0 z1 f1 g0 g1;obtain⟨x0,x1,f0,f1⟩:=yb2 (bQ.o _ bj.o);obtain⟨z0,z1,g0,g1⟩:=yb2 (aP.o _ bj.o))
 have hr:=zCr (aP.o _ bj.o) (.slice A n c) (.int .i64 off);obtain⟨y0,y1,_,_⟩:=yb2 hr;refine bodyPost_ret (v:=.tuple #[.agg #[.slice A n c,.int .i64 off],.bool true]) (by simp[results,Tryz.results139,go_sem,y0,y1]) rfl ⟨rfl,?_⟩;exact((aj.o.trans (bj.o.mono aj.o.size)).setCell (by show _<=W.heap.size+1;omega) _).setCell (by show _<=W.heap.size+1;omega) _):P:=h
theorem zW7 {W:World}{u:Value}{off:Int}(hp:XA W u p)(h:¬(pos=off/\aff=0))(hs:zEl off pos aff=false):Calls Tryz.prog 139 #[.agg #[u,.int .i64 off],.int .i64 pos,.int .i64 aff] W (fun e w'=>e=.returned (.tuple #[.agg #[u,.int .i64 off],.bool true])/\Below W.heap.size W w'):=by
 have HS:=hd hs;clear hs;obtain⟨A,n,c,rfl,hn,hl,hc,hp⟩:=hp;obtain⟨W0,hW⟩:∃W0,W0=(W.alloc (.cells #[.slice A n c,.int .i64 off] 29)).alloc (.cells #[.slice none 0 0,.int .i64 0] 29):=⟨_,rfl⟩;have hb0:Below W.heap.size W W0:=hW▸zPp _ _ _;have e0:=kMr W (Obj.cells #[Value.slice A n c,Value.int .i64 off] 29) (Obj.cells #[Value.slice none 0 0,Value.int .i64 0] 29);rw[<-hW]at e0;have bQ:=hd (fun w(h:Below W0.heap.size W0 w)=>zI1 e0.1 h);have aP:=hd (fun w(h:Below W0.heap.size W0 w)=>zI1 e0.2 h);have eI:=hd (fun w(h:Below W0.heap.size W0 w)=>hp.later (hb0.trans (h.mono hb0.size)));have HP:=hd (show∀w,Below W0.heap.size W0 w->XA w (.slice A n c) p from fun w h=>⟨A,n,c,rfl,hn,hl,hc,eI.o w h⟩);have aa:=hd (Below.refl W0.heap.size W0);have HW:=hd hW;have aj:=hd hb0;have HN:=hd hn;obtain⟨x0,x1,_,f1⟩:=yb2 (bQ.o W0 aa.o);obtain⟨z0,z1,g0,g1⟩:=yb2 (aP.o W0 aa.o);clear hp hn hW hb0 e0;cases e1:(pos==off)
 ·exact kRd
 ·have e2:(aff==0)=false:=by simp at e1;simp;exact fun h2=>h ⟨e1,h2⟩
  exact kRd
theorem kRe {P:Prop}(h:P:=by
 clear h;go_enter Tryz.func139,Tryz.ntmps139
 go_wp2_with(first|(go_at_call 138;(try rw[<-HW.o]);refine Calls.mono (zH0 HS.o) ?_;rintro e w9 ⟨rfl,b9⟩;have bj:=hd b9;clear b9 x0 x1 z0 z1 f1 g0 g1;obtain⟨x0,x1,f0,f1⟩:=yb2 (bQ.o _ bj.o);obtain⟨z0,z1,g0,g1⟩:=yb2 (aP.o _ bj.o))|(go_at_call 118;refine Calls.mono (kBe (HP.o _ bj.o) pz.o dQ.o) ?_;rintro e w8 ⟨v8,rfl,ho,b8⟩;obtain⟨A8,c8,rfl,_,_⟩:=ho.open_at (k+1) nz.o;have cS:=hd (zI bj.o b8);have HO:=hd (ho.weaken (Nat.le_trans aj.o.size bj.o.size));clear b8 ho x0 x1 z0 z1 f0 f1 g0 g1;obtain⟨x0,x1,f0,f1⟩:=yb2 (bQ.o _ cS.o);obtain⟨z0,z1,g0,g1⟩:=yb2 (aP.o _ cS.o)))
 have hr1:=kFq (k:=1) (kFq (k:=0) (aP.o _ cS.o) (g':=W.heap.size) Kb (.slice A8 (k+1) c8)) (g':=W.heap.size) Kb (.int .i64 (off-pos));have hr:=zCr hr1 (.slice A8 (k+1) c8) (.int .i64 (off-pos));obtain⟨y0,y1,_,_⟩:=yb2 hr;have ho:=((HO.o.ypt (x:=.slice A8 (k+1) c8) (y:=.int .i64 (off-pos)) (bQ.o _ cS.o)).ypt (x:=.slice A8 (k+1) c8) (y:=.int .i64 (off-pos)) hr1);clear x0 x1 f0 f1 z0 z1 g0 g1;refine bodyPost_ret (v:=.tuple #[.agg #[.slice A8 (k+1) c8,.int .i64 (off-pos)],.bool true]) (by simp[results,Tryz.results139,go_sem,y0,y1]) rfl (zBi rfl ho ?_);exact((((aj.o.trans (cS.o.mono aj.o.size)).setCell Kl _).setCell Kl _).setCell (by show _<=W.heap.size+1;omega) _).setCell (by show _<=W.heap.size+1;omega) _):P:=h
theorem zW8 {W:World}{u:Value}{off:Int}{k:Nat}(hp:XA W u p)(hk:p.length=k+1)(hsm:jI p=true)(h:¬(pos=off/\aff=0))(hs:zEl off pos aff=true)(h1:0<=off)(h2:off<=1048576)(h3:0<=pos)(h4:pos<=1048576):Calls Tryz.prog 139 #[.agg #[u,.int .i64 off],.int .i64 pos,.int .i64 aff] W (zC3 W ((addL p k 1,off-pos),true)):=by
 have HS:=hd hs;have dQ:=hd (kCp hk hsm);have pz:=hd ((zDf p).1 hsm);have nz:=hd (show(addL p k 1).length=k+1 by rw[zJe];exact hk);have HK:=hd hk;clear hs hk hsm;obtain⟨A,n,c,rfl,hn,hl,hc,hp⟩:=hp;obtain⟨W0,hW⟩:∃W0,W0=(W.alloc (.cells #[.slice A n c,.int .i64 off] 29)).alloc (.cells #[.slice none 0 0,.int .i64 0] 29):=⟨_,rfl⟩;have hb0:Below W.heap.size W W0:=hW▸zPp _ _ _;have e0:=kMr W (Obj.cells #[Value.slice A n c,Value.int .i64 off] 29) (Obj.cells #[Value.slice none 0 0,Value.int .i64 0] 29);rw[<-hW]at e0;have bQ:=hd (fun w(h:Below W0.heap.size W0 w)=>zI1 e0.1 h);have aP:=hd (fun w(h:Below W0.heap.size W0 w)=>zI1 e0.2 h);have eI:=hd (fun w(h:Below W0.heap.size W0 w)=>hp.later (hb0.trans (h.mono hb0.size)));have HP:=hd (show∀w,Below W0.heap.size W0 w->XA w (.slice A n c) p from fun w h=>⟨A,n,c,rfl,hn,hl,hc,eI.o w h⟩);have aa:=hd (Below.refl W0.heap.size W0);have HW:=hd hW;have aj:=hd hb0;have HN:=hd hn;obtain⟨x0,x1,_,f1⟩:=yb2 (bQ.o W0 aa.o);obtain⟨z0,z1,g0,g1⟩:=yb2 (aP.o W0 aa.o);clear hp hn hW hb0 e0;cases e1:(pos==off)
 ·exact kRe
 ·have e2:(aff==0)=false:=by simp at e1;simp;exact fun h2=>h ⟨e1,h2⟩
  exact kRe
theorem kD8 {a b c:Nat}(h:a+3<=b)(h2:b<=c):a<c/\a+1<c/\a+1+1<c:=Kb
