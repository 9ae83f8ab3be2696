import Derived.Test.YtmkciabefepelaaGreatJXMove
set_option maxRecDepth 100000
set_option maxHeartbeats 8000000
namespace Go.Proofs.YtmkciabefepelaaGreat
open Go.RowKit
variable {P:Prop}
theorem kSm (p:List Int)(k:Nat)(x y:Int):plusL p k [x,y]=(plusL p k [x]).set (k+1) (iAt p (k+1)+y):=by
 simp only[plusL];rw[addL,zYu _ _ _ _ Kb]
theorem kNv (h:P:=by
 go_wp2_with(first
  |(go_at_call 171;refine Calls.mono (kQn (HP.o _ aa.o) (HQ.o _ aa.o) aG.o ig.o cU.o Kb) ?_;rintro e w9 ⟨v9,rfl,ho,b9⟩;have HO:=hd (ho.weaken (b':=w.heap.size) (Nat.le_trans aj.o.size aa.o.size));have bj:=hd (zI aa.o b9);clear b9 ho)
  |(go_at_call 168;(try rw[<-HW.o]);refine Calls.mono (kPd (by first|exact HP.o _ aa.o|exact HQ.o _ aa.o|exact HT.o _ aa.o) (by first|exact H1.o|exact H2.o|exact H3.o)) ?_;rintro e w9 ⟨rfl,b9⟩;have aa:=hd (zI aa.o b9);clear b9 x0 x1 x2 x3;obtain⟨x0,x1,x2,x3⟩:=HK.o _ aa.o)
  |(go_at_call 142;refine Calls.mono (kOp (HP.o _ aa.o)) ?_;rintro e w9 ⟨v9,rfl,ho,b9⟩;have HO:=hd (ho.weaken (b':=w.heap.size) (Nat.le_trans aj.o.size aa.o.size));have bj:=hd (zI aa.o b9);clear b9 ho)
  |(go_at_call 107;refine Calls.mono (kN0 (HQ.o _ aa.o) (HP.o _ aa.o) ac.o) ?_;rintro e w9 ⟨rfl,b9⟩;have aa:=hd (zI aa.o b9);clear b9 x0 x1 x2 x3;obtain⟨x0,x1,x2,x3⟩:=HK.o _ aa.o)
  |(go_at_call 169;refine Calls.mono (kO5 (HQ.o _ aa.o) (HP.o _ aa.o) tF.o) ?_;rintro e w9 ⟨rfl,b9⟩;have aa:=hd (zI aa.o b9);clear b9 x0 x1 x2 x3;obtain⟨x0,x1,x2,x3⟩:=HK.o _ aa.o)
  |(go_at_call 170;refine Calls.mono (kPe (HQ.o _ aa.o) (HP.o _ aa.o) bn.o) ?_;rintro e w9 ⟨rfl,b9⟩;have aa:=hd (zI aa.o b9);clear b9 x0 x1 x2 x3;obtain⟨x0,x1,x2,x3⟩:=HK.o _ aa.o)
  |fail)
 go_ret2
 first
  |exact kT HF.o (zBt.nil _ _) (aj.o.trans (aa.o.mono aj.o.size))
  |exact kT HF.o HO.o (aj.o.trans (bj.o.mono aj.o.size))
  |fail):P:=h
theorem kPf (h:P:=by
 have ig:=hd (show k+1<=p.length by have h:=zDw HS.o Kd;have h2:=aG.o;omega);have HF:=hd (show jF _ q t pos p=(plusL p k [1],true) by rw[HL.o];simp[jH,HS.o,aG.o]);exact kNv):P:=h
theorem kRl (h:P:=by
 go_upto_region 30 with fail
 go_quiet(fail)
 generalize dH:World.drewN _ _=w5
 have aa:=hd (show Below W0.heap.size W0 w5 from dH▸zZ aa.o _);clear dH x0 x1 x2 x3;obtain⟨x0,x1,x2,x3⟩:=HK.o _ aa.o;have HF:=hd (show jF _ q t pos p=(p,true) by rw[HL.o];simp[jH,HS.o,aG.o]);exact kNv):P:=h
theorem kRm (h:P:=by
 have ig:=hd (show k+1<=p.length by have h:=zDw HS.o Kd;have h2:=aG.o;omega);have HF:=hd (show jF _ q t pos p=(plusL p k [-1],true) by rw[HL.o];simp[jH,HS.o,aG.o,lastL,HZ.o]);exact kNv):P:=h
theorem kRn (h:P:=by
 have HF:=hd (zEj (K:=K) (q:=q) (t:=t) (pos:=pos) (p:=p) (by rw[show zE9 pos=false by simp[zE9];omega];simp));clear h1 h2 h3;go_enter Tryz.func148,Tryz.ntmps148
 exact kNv):P:=h
theorem kU7 (A Q T:Option Addr)(p q t:List Int)(n lq lt c cq ct:Nat)(K pos:Int)(r4 r5 r6 r7 r8 r9 r10 r11 r12 r13 r14 r15 r16 r17 r18 r19 r20:Value)(w:World)(hn:p.length=n)(hlq:q.length=lq)(hlt:t.length=lt)(hl:n<=1000)(hl2:lq<=1000)(cC:lt<=1000)(hc:n<=c)(hc2:lq<=cq)(hc3:lt<=ct)(iQ:K≠5)(hp:IL w w.heap.size A p)(hq:IL w w.heap.size Q q)(ht:IL w w.heap.size T t):
  Calls Tryz.prog 148 #[.slice A n c,.agg #[.int .i64 K,.slice Q lq cq,.slice T lt ct,.int .i64 pos,r4,r5,r6,r7,r8,r9,r10,r11,r12,r13,r14,r15,r16,r17,r18,r19,r20]] w (kBb w (jF K q t pos p)):=by
 obtain⟨W0,hW⟩:∃W0,W0=w.alloc (.cells #[Value.int .i64 K,.slice Q lq cq,.slice T lt ct,.int .i64 pos,r4,r5,r6,r7,r8,r9,r10,r11,r12,r13,r14,r15,r16,r17,r18,r19,r20] 35):=⟨_,rfl⟩;have hb0:Below w.heap.size w W0:=hW▸zQ w _;have e0:W0.heap[w.heap.size]? =some (.cells #[Value.int .i64 K,.slice Q lq cq,.slice T lt ct,.int .i64 pos,r4,r5,r6,r7,r8,r9,r10,r11,r12,r13,r14,r15,r16,r17,r18,r19,r20] 35 (0,0)):=hW▸heap_alloc_new _ _;have HK:=hd (show∀W,Below W0.heap.size W0 W->(W.cell? ⟨w.heap.size,0,none⟩=some (.int .i64 K)/\W.cell? ⟨w.heap.size,1,none⟩=some (.slice Q lq cq)/\W.cell? ⟨w.heap.size,2,none⟩=some (.slice T lt ct)/\W.cell? ⟨w.heap.size,3,none⟩=some (.int .i64 pos))from fun W h=>zD9 (zI1 e0 h));have eI:=hd (fun W(h:Below W0.heap.size W0 W)=>hp.later (hb0.trans (h.mono hb0.size)));have ij:=hd (fun W(h:Below W0.heap.size W0 W)=>hq.later (hb0.trans (h.mono hb0.size)));have HIT:=hd (fun W(h:Below W0.heap.size W0 W)=>ht.later (hb0.trans (h.mono hb0.size)));have HP:=hd (show∀W,Below W0.heap.size W0 W->XA W (.slice A n c) p from fun W h=>⟨A,n,c,rfl,hn,hl,hc,eI.o W h⟩);have HQ:=hd (show∀W,Below W0.heap.size W0 W->XA W (.slice Q lq cq) q from fun W h=>⟨Q,lq,cq,rfl,hlq,hl2,hc2,ij.o W h⟩);have HT:=hd (show∀W,Below W0.heap.size W0 W->XA W (.slice T lt ct) t from fun W h=>⟨T,lt,ct,rfl,hlt,cC,hc3,HIT.o W h⟩);have aa:=hd (Below.refl W0.heap.size W0);have HW:=hd hW;have aj:=hd hb0;have HN:=hd hn;have aG:=hd hlq;have eN:=hd hlt;obtain⟨x0,x1,x2,x3⟩:=HK.o W0 aa.o;clear hp hq ht hW hb0 e0 hn hlq hlt;cases h1:jI p
 ·have HF:=hd (zEj (K:=K) (q:=q) (t:=t) (pos:=pos) (p:=p) (by rw[h1];rfl));have H1:=hd h1;clear h1;go_enter Tryz.func148,Tryz.ntmps148
  exact kNv
 have H1:=hd h1;cases h2:jI q
 ·have H2:=hd h2;have HF:=hd (zEj (K:=K) (q:=q) (t:=t) (pos:=pos) (p:=p) (by rw[h2];simp));clear h1 h2;go_enter Tryz.func148,Tryz.ntmps148
  exact kNv
 have H2:=hd h2;cases h3:jI t
 ·have H3:=hd h3;have HF:=hd (zEj (K:=K) (q:=q) (t:=t) (pos:=pos) (p:=p) (by rw[h3];simp));clear h1 h2 h3;go_enter Tryz.func148,Tryz.ntmps148
  exact kNv
 have H3:=hd h3;by_cases g0:pos<0
 ·exact kRn
 by_cases g1:1048576<pos
 ·exact kRn
 have h4:zE9 pos=true:=by simp[zE9];omega
 have g2:0<=pos:=Kb;have g3:pos<=1048576:=Kb;have HL:=hd (zJ9 (K:=K) (q:=q) (t:=t) (pos:=pos) (p:=p) (by rw[h1,h2,h3,h4];rfl) iQ);have cU:=hd (zOk h1);clear h1 h2 h3 h4;rcases lq with _|k
 ·have HF:=hd (show jF K q t pos p=(p,true) by rw[HL.o,kBn aG.o]);go_enter Tryz.func148,Tryz.ntmps148
  exact kNv
 have hs:=zAt q p;obtain⟨s,hs0⟩:∃s,zX q p=s:=⟨_,rfl⟩;obtain⟨bl,hs1⟩:∃b,zFg q p=b:=⟨_,rfl⟩;obtain⟨bs,hs2⟩:∃b,zEd q p=b:=⟨_,rfl⟩;obtain⟨ba,hs3⟩:∃b,zBu q p=b:=⟨_,rfl⟩;rw[hs0,hs1,hs2,hs3]at hs;have HS:=hd hs0;have bn:=hd hs1;have ac:=hd hs2;have tF:=hd hs3;have qD:=hd hs;clear hs hs0 hs1 hs2 hs3;go_enter Tryz.func148,Tryz.ntmps148
 go_upto_region 10 with(first
   |(go_at_call 168;(try rw[<-HW.o]);refine Calls.mono (kPd (by first|exact HP.o _ aa.o|exact HQ.o _ aa.o|exact HT.o _ aa.o) (by first|exact H1.o|exact H2.o|exact H3.o)) ?_;rintro e w9 ⟨rfl,b9⟩;have aa:=hd (zI aa.o b9);clear b9 x0 x1 x2 x3;obtain⟨x0,x1,x2,x3⟩:=HK.o _ aa.o)
   |(go_at_call 107;refine Calls.mono (kN0 (HQ.o _ aa.o) (HP.o _ aa.o) ac.o) ?_;rintro e w9 ⟨rfl,b9⟩;have aa:=hd (zI aa.o b9);clear b9 x0 x1 x2 x3;obtain⟨x0,x1,x2,x3⟩:=HK.o _ aa.o)
   |(go_at_call 169;refine Calls.mono (kO5 (HQ.o _ aa.o) (HP.o _ aa.o) tF.o) ?_;rintro e w9 ⟨rfl,b9⟩;have aa:=hd (zI aa.o b9);clear b9 x0 x1 x2 x3;obtain⟨x0,x1,x2,x3⟩:=HK.o _ aa.o)
   |(go_at_call 170;refine Calls.mono (kPe (HQ.o _ aa.o) (HP.o _ aa.o) bn.o) ?_;rintro e w9 ⟨rfl,b9⟩;have aa:=hd (zI aa.o b9);clear b9 x0 x1 x2 x3;obtain⟨x0,x1,x2,x3⟩:=HK.o _ aa.o))
 by_cases nA:K=1
 ·subst nA;rcases qD.o with⟨rfl,rfl,rfl,rfl⟩|⟨rfl,rfl,rfl,rfl⟩|⟨rfl,rfl,rfl,rfl⟩|⟨rfl,rfl,rfl,rfl⟩
  ·exact kPf
  ·exact kPf
  ·exact kPf
  ·have HF:=hd (show jF _ q t pos p=(p,true) by rw[HL.o];simp[jH,HS.o,aG.o]);exact kNv
 by_cases hK2:K=2
 ·subst hK2;rcases qD.o with⟨rfl,rfl,rfl,rfl⟩|⟨rfl,rfl,rfl,rfl⟩|⟨rfl,rfl,rfl,rfl⟩|⟨rfl,rfl,rfl,rfl⟩
  ·have ig:=hd (show k+1<=p.length by have h:=zDw HS.o Kd;have h2:=aG.o;omega);have HF:=hd (show jF _ q t pos p=(plusL p k [-1],true) by rw[HL.o];simp[jH,HS.o,aG.o]);exact kNv
  ·have HF:=hd (show jF 2 q t pos p=noR by rw[HL.o];simp[jH,HS.o,aG.o]);go_wp2
   go_ret2
   exact kT HF.o (zBt.nil _ _) (aj.o.trans (aa.o.mono aj.o.size))
  ·have HF:=hd (show jF 2 q t pos p=noR by rw[HL.o];simp[jH,HS.o,aG.o]);go_wp2
   go_ret2
   exact kT HF.o (zBt.nil _ _) (aj.o.trans (aa.o.mono aj.o.size))
  ·have HF:=hd (show jF _ q t pos p=(p,true) by rw[HL.o];simp[jH,HS.o,aG.o]);exact kNv
 by_cases hK3:K=3
 ·subst hK3;obtain⟨b1,o1,rfl,hb1,e1⟩:=(ij.o _ aa.o).at_ (show k<q.length by have:=aG.o;omega);by_cases hz:iAt q k=0
  ·have hz':(iAt q k==0)=true:=by simp[hz]
   have HF:=hd (show jF 3 q t pos p=noR by rw[HL.o];simp[jH,lastL,aG.o,hz]);clear hz;go_wp2
   go_ret2
   exact kT HF.o (zBt.nil _ _) (aj.o.trans (aa.o.mono aj.o.size))
  have hz':(iAt q k==0)=false:=by simp[hz]
  have HZ:=hd hz;clear hz;rcases qD.o with⟨rfl,rfl,rfl,rfl⟩|⟨rfl,rfl,rfl,rfl⟩|⟨rfl,rfl,rfl,rfl⟩|⟨rfl,rfl,rfl,rfl⟩
  ·exact kRm
  ·exact kRm
  ·have ig:=hd (show k+1<=p.length by have h:=zDw HS.o Kd;have h2:=aG.o;omega);have cG:=hd (show k+2<=p.length by have h:=zNg HS.o;have h2:=aG.o;omega);have hkn:k+1<n:=by have h:=cG.o;have h2:=HN.o;omega
   have HF:=hd (show jF 3 q t pos p=((plusL p k [-1]).set (k+1) (iAt p (k+1)+pos),true) by
    rw[HL.o,<-kSm];simp[jH,HS.o,aG.o,lastL,HZ.o])
   go_upto_region 25 with(first
    |(go_at_call 171;refine Calls.mono (kQn (HP.o _ aa.o) (HQ.o _ aa.o) aG.o ig.o cU.o Kb) ?_;rintro e w9 ⟨v9,rfl,ho,b9⟩;have HO:=hd (ho.weaken (b':=W0.heap.size) aa.o.size);have bj:=hd (zI aa.o b9);clear b9 ho)
    |(go_at_call 142;refine Calls.mono (kOp (HP.o _ aa.o)) ?_;rintro e w9 ⟨v9,rfl,ho,b9⟩;have HO:=hd (ho.weaken (b':=W0.heap.size) aa.o.size);have bj:=hd (zI aa.o b9);clear b9 ho))
   obtain⟨g,c9,r0,r1,r2,r3,CM,r5,r6,r7⟩:=HO.o.form (by rw[zJf];have h:=cG.o;omega);have e9:=r5 (k+1) (by rw[zJf];exact cG.o);rw[zN3 _ _ _ _ Kc]at e9;rw[zJf,HN.o]at r0;subst r0;have f9:=r6 (k+1);have H7:=hd (r7 (k+1) (iAt p (k+1)+pos));have CN:=cU.o (k+1) cG.o;have lI:=hd ((zI bj.o (zZ Kk 1:Below w9.heap.size w9 w9.drew)).setCell (p:=⟨g,k+1,none⟩) r3 (.int .i64 (iAt p (k+1)+pos)));obtain⟨y0,y1,y2,y3⟩:=HK.o _ bj.o;clear x0 x1 x2 x3 r1 r5 r6 r7;have i0:(0:Int)<=(k:Int)+1:=Kb;have i1:(k:Int)+1<(n:Int):=Kb;have i2:((k:Int)+1).toNat=k+1:=Kb;have i3:IntKind.i64.wrap (iAt p (k+1)+pos)=iAt p (k+1)+pos:=IntWalk.i64_in _ Kb;go_still_tail 9,Ka
   show wpList _ _ _ _ _ w9.drew
   go_wp2
   go_ret2
   exact kT HF.o (H7.o.weaken aj.o.size) (aj.o.trans (lI.o.mono aj.o.size))
  ·have HF:=hd (show jF _ q t pos p=(p,true) by rw[HL.o];simp[jH,HS.o,aG.o,lastL,HZ.o]);exact kNv
 by_cases hK4:K=4
 ·subst hK4;rcases qD.o with⟨rfl,rfl,rfl,rfl⟩|⟨rfl,rfl,rfl,rfl⟩|⟨rfl,rfl,rfl,rfl⟩|⟨rfl,rfl,rfl,rfl⟩
  ·exact kPf
  ·exact kRl
  ·have ig:=hd (show k+1<=p.length by have h:=zDw HS.o Kd;have h2:=aG.o;omega);have cG:=hd (show k+2<=p.length by have h:=zNg HS.o;have h2:=aG.o;omega);have hkn:k+1<n:=by have h:=cG.o;have h2:=HN.o;omega
   obtain⟨b1,o1,rfl,hb1,e1⟩:=(eI.o _ aa.o).at_ (show k+1<p.length from cG.o);by_cases gQ:pos<=iAt p (k+1)
   ·go_upto_region 30 with fail
    go_quiet(fail)
    generalize dH:World.drewN _ _=w5
    have aa:=hd (show Below W0.heap.size W0 w5 from dH▸zZ aa.o _);clear dH x0 x1 x2 x3;obtain⟨x0,x1,x2,x3⟩:=HK.o _ aa.o;have HF:=hd (show jF 4 q t pos p=((plusL p k [1]).set (k+1) (iAt p (k+1)-pos),true) by
     rw[HL.o,Int.sub_eq_add_neg,<-kSm];simp[jH,HS.o,aG.o,gQ])
    go_upto_region 32 with(first
     |(go_at_call 171;refine Calls.mono (kQn (HP.o _ aa.o) (HQ.o _ aa.o) aG.o ig.o cU.o Kb) ?_;rintro e w9 ⟨v9,rfl,ho,b9⟩;have HO:=hd (ho.weaken (b':=W0.heap.size) aa.o.size);have bj:=hd (zI aa.o b9);clear b9 ho)
     |(go_at_call 142;refine Calls.mono (kOp (HP.o _ aa.o)) ?_;rintro e w9 ⟨v9,rfl,ho,b9⟩;have HO:=hd (ho.weaken (b':=W0.heap.size) aa.o.size);have bj:=hd (zI aa.o b9);clear b9 ho))
    obtain⟨g,c9,r0,r1,r2,r3,CM,r5,r6,r7⟩:=HO.o.form (by rw[zJf];have h:=cG.o;omega);have e9:=r5 (k+1) (by rw[zJf];exact cG.o);rw[zN3 _ _ _ _ Kc]at e9;rw[zJf,HN.o]at r0;subst r0;have f9:=r6 (k+1);have H7:=hd (r7 (k+1) (iAt p (k+1)-pos));have CN:=cU.o (k+1) cG.o;have lI:=hd ((zI bj.o (zZ Kk 1:Below w9.heap.size w9 w9.drew)).setCell (p:=⟨g,k+1,none⟩) r3 (.int .i64 (iAt p (k+1)-pos)));obtain⟨y0,y1,y2,y3⟩:=HK.o _ bj.o;clear x0 x1 x2 x3 r1 r5 r6 r7;have i0:(0:Int)<=(k:Int)+1:=Kb;have i1:(k:Int)+1<(n:Int):=Kb;have i2:((k:Int)+1).toNat=k+1:=Kb;have i3:IntKind.i64.wrap (iAt p (k+1)-pos)=iAt p (k+1)-pos:=IntWalk.i64_in _ Kb;go_still_tail 9,Ka
    show wpList _ _ _ _ _ w9.drew
    go_wp2
    go_ret2
    exact kT HF.o (H7.o.weaken aj.o.size) (aj.o.trans (lI.o.mono aj.o.size))
   ·have vZ:decide (pos<=iAt p (k+1))=false:=decide_eq_false gQ;have bc:=hd gQ;clear gQ;go_upto_region 30 with fail
    go_quiet(fail)
    generalize dH:World.drewN _ _=w5
    have aa:=hd (show Below W0.heap.size W0 w5 from dH▸zZ aa.o _);clear dH x0 x1 x2 x3;obtain⟨x0,x1,x2,x3⟩:=HK.o _ aa.o;have HF:=hd (show jF _ q t pos p=(p,true) by rw[HL.o];simp[jH,HS.o,aG.o,bc.o]);exact kNv
  ·exact kRl
 have k1:(K==1)=false:=by simp[nA]
 have k2:(K==2)=false:=by simp[hK2]
 have k3:(K==3)=false:=by simp[hK3]
 have k4:(K==4)=false:=by simp[hK4]
 have k5:(K==5)=false:=by simp[iQ]
 have HF:=hd (show jF K q t pos p=(p,true) by rw[HL.o];simp[jH,nA,hK2,hK3,hK4]);clear nA hK2 hK3 hK4 iQ;go_wp2_with(first
  |(go_at_call 171;refine Calls.mono (kQn (HP.o _ aa.o) (HQ.o _ aa.o) aG.o ig.o cU.o Kb) ?_;rintro e w9 ⟨v9,rfl,ho,b9⟩;have HO:=hd (ho.weaken (b':=w.heap.size) (Nat.le_trans aj.o.size aa.o.size));have bj:=hd (zI aa.o b9);clear b9 ho)
  |(go_at_call 142;refine Calls.mono (kOp (HP.o _ aa.o)) ?_;rintro e w9 ⟨v9,rfl,ho,b9⟩;have HO:=hd (ho.weaken (b':=w.heap.size) (Nat.le_trans aj.o.size aa.o.size));have bj:=hd (zI aa.o b9);clear b9 ho))
 go_ret2
 exact kT HF.o HO.o (aj.o.trans (bj.o.mono aj.o.size))
theorem kNw (h:P:=by
 go_wp2_with(first
  |(go_at_call 172;refine Calls.mono (kU2 T D t (p.drop (k+1)) lt (n-(k+1)) ct (c-(k+1)) w9.drew eN.o wh.o cC Kb (HIT.o w9 aa.o) HD.o) ?_;rintro e w9 ⟨v9,rfl,ho,b9⟩;have HO:=hd (ho.weaken (b':=w.heap.size) (Nat.le_trans aj.o.size aa.o.size));have bj:=hd (zI aa.o ((zZ Kk 1).trans b9));clear ho b9)
  |(go_at_call 168;(try rw[<-HW.o]);refine Calls.mono (kPd (by first|exact HP.o _ aa.o|exact HQ.o _ aa.o|exact HT.o _ aa.o) (by first|exact H1.o|exact H2.o|exact H3.o)) ?_;rintro e w9 ⟨rfl,b9⟩;have aa:=hd (zI aa.o b9);clear b9 x0 x1 x2 x3;obtain⟨x0,x1,x2,x3⟩:=HK.o _ aa.o)
  |(go_at_call 142;refine Calls.mono (kOp (HP.o _ aa.o)) ?_;rintro e w9 ⟨v9,rfl,ho,b9⟩;have HO:=hd (ho.weaken (b':=w.heap.size) (Nat.le_trans aj.o.size aa.o.size));have bj:=hd (zI aa.o b9);clear b9 ho)
  |(go_at_call 142;refine Calls.mono (kOp (HX.o _ ed.o)) ?_;rintro e w9 ⟨v9,rfl,ho,b9⟩;have HO:=hd (ho.weaken (b':=w.heap.size) (Nat.le_trans dW.o.size ed.o.size));have bj:=hd (zI ed.o b9);clear b9 ho)
  |(go_at_call 107;refine Calls.mono (kN0 (HQ.o _ aa.o) (HP.o _ aa.o) ac.o) ?_;rintro e w9 ⟨rfl,b9⟩;have aa:=hd (zI aa.o b9);clear b9 x0 x1 x2 x3;obtain⟨x0,x1,x2,x3⟩:=HK.o _ aa.o)
  |(go_at_call 107;refine Calls.mono (kN0 (iY.o _ ed.o) (HX.o _ ed.o) gS.o) ?_;rintro e w9 ⟨rfl,b9⟩;have ed:=hd (zI ed.o b9);clear b9)
  |(go_at_call 169;refine Calls.mono (kO5 (HQ.o _ aa.o) (HP.o _ aa.o) tF.o) ?_;rintro e w9 ⟨rfl,b9⟩;have aa:=hd (zI aa.o b9);clear b9 x0 x1 x2 x3;obtain⟨x0,x1,x2,x3⟩:=HK.o _ aa.o)
  |(go_at_call 169;refine Calls.mono (kO5 (iY.o _ ed.o) (HX.o _ ed.o) gT.o) ?_;rintro e w9 ⟨rfl,b9⟩;have ed:=hd (zI ed.o b9);clear b9)
  |(go_at_call 170;refine Calls.mono (kPe (HQ.o _ aa.o) (HP.o _ aa.o) bn.o) ?_;rintro e w9 ⟨rfl,b9⟩;have aa:=hd (zI aa.o b9);clear b9 x0 x1 x2 x3;obtain⟨x0,x1,x2,x3⟩:=HK.o _ aa.o)
  |(go_at_call 170;refine Calls.mono (kPe (iY.o _ ed.o) (HX.o _ ed.o) lw.o) ?_;rintro e w9 ⟨rfl,b9⟩;have ed:=hd (zI ed.o b9);clear b9)
  |(go_at_call 171;refine Calls.mono (kQn (HX.o _ ed.o) (iY.o _ ed.o) eN.o cG.o tG.o Kb) ?_;rintro e w9 ⟨v9,rfl,ho,b9⟩;have HO:=hd (ho.weaken (b':=w.heap.size) (Nat.le_trans dW.o.size ed.o.size));have bj:=hd (zI ed.o b9);clear b9 ho)
  |fail)
 go_ret2
 first
  |exact kT HF.o (zBt.nil _ _) (aj.o.trans (aa.o.mono aj.o.size))
  |exact kT HF.o HO.o (aj.o.trans (bj.o.mono aj.o.size))
  |exact kT HF.o HO.o (dW.o.trans (bj.o.mono dW.o.size))
  |fail):P:=h
theorem kP8 (h:P:=by
 have mi:=hd h0;have lw:=hd h1;have gS:=hd h2;have gT:=hd h3;clear h0 h1 h2 h3;have cG:=hd (show k2+1<=_ by have h:=zDw mi.o Kd;have h2:=eN.o;rw[h2]at h;exact h);have HF:=hd (show jF 5 q t pos p=(plusL (plusL p k [-1]) k2 [1],true) by
  rw[HL.o,if_pos (by rw[aG.o];omega),if_neg (by rw[HS.o];decide)];simp[jH,HS.o,aG.o,eN.o,mi.o])
 exact kNw):P:=h
theorem kP9 (h:P:=by
 have mi:=hd h0;have lw:=hd h1;have gS:=hd h2;have gT:=hd h3;clear h0 h1 h2 h3;have cG:=hd (show k2+1<=_ by have h:=zDw mi.o Kd;have h2:=eN.o;rw[h2]at h;exact h);have HF:=hd (show jF 5 q t pos p=(plusL (p) k2 [1],true) by
  rw[HL.o,if_pos (by rw[aG.o];omega),if_neg (by rw[HS.o];decide)];simp[jH,HS.o,aG.o,eN.o,mi.o])
 exact kNw):P:=h
theorem kRo (h:P:=by
 have hkn:k+1<=n:=by have h:=zDw HS.o Kd;have h2:=aG.o;have h3:=HN.o;omega
 obtain⟨D,hD,hrun⟩:=kBd A n c (k+1) hkn hc;simp only[Int.natCast_add,Int.cast_ofNat_Int]at hrun;have HD:=hd (hD w9.drew w9.heap.size p (eI.o w9 aa.o) HN.o);have HF:=hd (show jF 5 q t pos p=(t++p.drop (k+1),true) by rw[HL.o,if_pos (by rw[aG.o];omega),if_pos (by rw[HS.o];decide),aG.o]);have wh:=hd (show(p.drop (k+1)).length=n-(k+1) by rw[List.length_drop,HN.o]);clear hD;go_upto_region 36 with fail
 go_still_tail 6,Ka
 show wpList _ _ _ _ _ w9.drew
 exact kNw):P:=h
theorem kRp (h:P:=by
 have HF:=hd (zEj (K:=5) (q:=q) (t:=t) (pos:=pos) (p:=p) (by rw[show zE9 pos=false by simp[zE9];omega];simp));clear h1 h2 h3;go_enter Tryz.func148,Tryz.ntmps148
 exact kNw):P:=h
theorem kU8 (A Q T:Option Addr)(p q t:List Int)(n lq lt c cq ct:Nat)(pos:Int)(r4 r5 r6 r7 r8 r9 r10 r11 r12 r13 r14 r15 r16 r17 r18 r19 r20:Value)(w:World)(hn:p.length=n)(hlq:q.length=lq)(hlt:t.length=lt)(hl:n<=1000)(hl2:lq<=1000)(cC:lt<=1000)(hc:n<=c)(hc2:lq<=cq)(hc3:lt<=ct)(hp:IL w w.heap.size A p)(hq:IL w w.heap.size Q q)(ht:IL w w.heap.size T t):
  Calls Tryz.prog 148 #[.slice A n c,.agg #[.int .i64 5,.slice Q lq cq,.slice T lt ct,.int .i64 pos,r4,r5,r6,r7,r8,r9,r10,r11,r12,r13,r14,r15,r16,r17,r18,r19,r20]] w (kBb w (jF 5 q t pos p)):=by
 obtain⟨W0,hW⟩:∃W0,W0=w.alloc (.cells #[Value.int .i64 5,.slice Q lq cq,.slice T lt ct,.int .i64 pos,r4,r5,r6,r7,r8,r9,r10,r11,r12,r13,r14,r15,r16,r17,r18,r19,r20] 35):=⟨_,rfl⟩;have hb0:Below w.heap.size w W0:=hW▸zQ w _;have e0:W0.heap[w.heap.size]? =some (.cells #[Value.int .i64 5,.slice Q lq cq,.slice T lt ct,.int .i64 pos,r4,r5,r6,r7,r8,r9,r10,r11,r12,r13,r14,r15,r16,r17,r18,r19,r20] 35 (0,0)):=hW▸heap_alloc_new _ _;have HK:=hd (show∀W,Below W0.heap.size W0 W->(W.cell? ⟨w.heap.size,0,none⟩=some (.int .i64 5)/\W.cell? ⟨w.heap.size,1,none⟩=some (.slice Q lq cq)/\W.cell? ⟨w.heap.size,2,none⟩=some (.slice T lt ct)/\W.cell? ⟨w.heap.size,3,none⟩=some (.int .i64 pos))from fun W h=>zD9 (zI1 e0 h));have eI:=hd (fun W(h:Below W0.heap.size W0 W)=>hp.later (hb0.trans (h.mono hb0.size)));have ij:=hd (fun W(h:Below W0.heap.size W0 W)=>hq.later (hb0.trans (h.mono hb0.size)));have HIT:=hd (fun W(h:Below W0.heap.size W0 W)=>ht.later (hb0.trans (h.mono hb0.size)));have HP:=hd (show∀W,Below W0.heap.size W0 W->XA W (.slice A n c) p from fun W h=>⟨A,n,c,rfl,hn,hl,hc,eI.o W h⟩);have HQ:=hd (show∀W,Below W0.heap.size W0 W->XA W (.slice Q lq cq) q from fun W h=>⟨Q,lq,cq,rfl,hlq,hl2,hc2,ij.o W h⟩);have HT:=hd (show∀W,Below W0.heap.size W0 W->XA W (.slice T lt ct) t from fun W h=>⟨T,lt,ct,rfl,hlt,cC,hc3,HIT.o W h⟩);have aa:=hd (Below.refl W0.heap.size W0);have HW:=hd hW;have aj:=hd hb0;have HN:=hd hn;have aG:=hd hlq;have eN:=hd hlt;obtain⟨x0,x1,x2,x3⟩:=HK.o W0 aa.o;clear hp hq ht hW hb0 e0 hn hlq hlt;cases h1:jI p
 ·have HF:=hd (zEj (K:=5) (q:=q) (t:=t) (pos:=pos) (p:=p) (by rw[h1];rfl));have H1:=hd h1;clear h1;go_enter Tryz.func148,Tryz.ntmps148
  exact kNw
 have H1:=hd h1;cases h2:jI q
 ·have H2:=hd h2;have HF:=hd (zEj (K:=5) (q:=q) (t:=t) (pos:=pos) (p:=p) (by rw[h2];simp));clear h1 h2;go_enter Tryz.func148,Tryz.ntmps148
  exact kNw
 have H2:=hd h2;cases h3:jI t
 ·have H3:=hd h3;have HF:=hd (zEj (K:=5) (q:=q) (t:=t) (pos:=pos) (p:=p) (by rw[h3];simp));clear h1 h2 h3;go_enter Tryz.func148,Tryz.ntmps148
  exact kNw
 have H3:=hd h3;by_cases g0:pos<0
 ·exact kRp
 by_cases g1:1048576<pos
 ·exact kRp
 have h4:zE9 pos=true:=by simp[zE9];omega
 have g2:0<=pos:=Kb;have g3:pos<=1048576:=Kb;have HL:=hd (kIf (q:=q) (t:=t) (pos:=pos) (p:=p) (by rw[h1,h2,h3,h4];rfl));have gX:=hd (And.intro h1 (And.intro h2 h3));have cU:=hd (zOk h1);clear h1 h2 h3 h4;rcases lq with _|k
 ·have HF:=hd (show jF 5 q t pos p=(p,true) by rw[HL.o,if_neg (fun h=>h aG.o),kBn aG.o]);go_enter Tryz.func148,Tryz.ntmps148
  exact kNw
 have hs:=zAt q p;obtain⟨s,hs0⟩:∃s,zX q p=s:=⟨_,rfl⟩;obtain⟨bl,hs1⟩:∃b,zFg q p=b:=⟨_,rfl⟩;obtain⟨bs,hs2⟩:∃b,zEd q p=b:=⟨_,rfl⟩;obtain⟨ba,hs3⟩:∃b,zBu q p=b:=⟨_,rfl⟩;rw[hs0,hs1,hs2,hs3]at hs;have HS:=hd hs0;have bn:=hd hs1;have ac:=hd hs2;have tF:=hd hs3;have qD:=hd hs;clear hs hs0 hs1 hs2 hs3;go_enter Tryz.func148,Tryz.ntmps148
 go_upto_region 10 with(first
   |(go_at_call 168;(try rw[<-HW.o]);refine Calls.mono (kPd (by first|exact HP.o _ aa.o|exact HQ.o _ aa.o|exact HT.o _ aa.o) (by first|exact H1.o|exact H2.o|exact H3.o)) ?_;rintro e w9 ⟨rfl,b9⟩;have aa:=hd (zI aa.o b9);clear b9 x0 x1 x2 x3;obtain⟨x0,x1,x2,x3⟩:=HK.o _ aa.o)
   |(go_at_call 107;refine Calls.mono (kN0 (HQ.o _ aa.o) (HP.o _ aa.o) ac.o) ?_;rintro e w9 ⟨rfl,b9⟩;have aa:=hd (zI aa.o b9);clear b9 x0 x1 x2 x3;obtain⟨x0,x1,x2,x3⟩:=HK.o _ aa.o)
   |(go_at_call 169;refine Calls.mono (kO5 (HQ.o _ aa.o) (HP.o _ aa.o) tF.o) ?_;rintro e w9 ⟨rfl,b9⟩;have aa:=hd (zI aa.o b9);clear b9 x0 x1 x2 x3;obtain⟨x0,x1,x2,x3⟩:=HK.o _ aa.o)
   |(go_at_call 170;refine Calls.mono (kPe (HQ.o _ aa.o) (HP.o _ aa.o) bn.o) ?_;rintro e w9 ⟨rfl,b9⟩;have aa:=hd (zI aa.o b9);clear b9 x0 x1 x2 x3;obtain⟨x0,x1,x2,x3⟩:=HK.o _ aa.o))
 rcases qD.o with⟨rfl,rfl,rfl,rfl⟩|⟨rfl,rfl,rfl,rfl⟩|⟨rfl,rfl,rfl,rfl⟩|⟨rfl,rfl,rfl,rfl⟩
 ·have ig:=hd (show k+1<=p.length by have h:=zDw HS.o Kd;have h2:=aG.o;omega);go_upto_region 39 with(go_at_call 171;refine Calls.mono (kQn (HP.o _ aa.o) (HQ.o _ aa.o) aG.o ig.o cU.o Kb) ?_;rintro e w9 ⟨v9,rfl,ho,b9⟩;have bj:=hd (zI aa.o b9);have nv:=hd (XA.own ho (by rw[zJf];have:=HN.o;omega));clear b9 ho x0 x1 x2 x3;obtain⟨x0,x1,x2,x3⟩:=HK.o _ bj.o)
  have HX:=hd (fun W(h:Below w9.heap.size w9 W)=>nv.o.later h);have iY:=hd (fun W(h:Below w9.heap.size w9 W)=>HT.o W (zI bj.o h));have ed:=hd (Below.refl w9.heap.size w9);have dW:=hd (aj.o.trans (bj.o.mono aj.o.size));have tG:=hd (show kI4 (plusL p k [-1]) by
   have hx:=zXj gX.o.1 gX.o.2.1 HS.o;rw[aG.o,Nat.add_sub_cancel]at hx;exact zOk hx)
  have pI:=hd (zJf [-1] p k);rcases lt with _|k2
  ·have HF:=hd (show jF 5 q t pos p=(plusL p k [-1],true) by
    rw[HL.o,if_pos (by rw[aG.o];omega),if_neg (by rw[HS.o];decide)];simp[jH,HS.o,aG.o,eN.o])
   exact kNw
  rcases zAt t (plusL p k [-1])with⟨h0,h1,h2,h3⟩|⟨h0,h1,h2,h3⟩|⟨h0,h1,h2,h3⟩|⟨h0,h1,h2,h3⟩
  ·exact kP8
  ·exact kP8
  ·exact kP8
  ·have mi:=hd h0;have lw:=hd h1;have gS:=hd h2;have gT:=hd h3;clear h0 h1 h2 h3;have HF:=hd (show jF 5 q t pos p=(plusL p k [-1],true) by
    rw[HL.o,if_pos (by rw[aG.o];omega),if_neg (by rw[HS.o];decide)];simp[jH,HS.o,aG.o,eN.o,mi.o])
   exact kNw
 ·exact kRo
 ·exact kRo
 ·go_upto_region 39 with fail
  have HX:=HP;have iY:=HT;have ed:=aa;have dW:=aj;have tG:=cU;have pI:=hd (rfl:p.length=p.length);rcases lt with _|k2
  ·have HF:=hd (show jF 5 q t pos p=(p,true) by
    rw[HL.o,if_pos (by rw[aG.o];omega),if_neg (by rw[HS.o];decide)];simp[jH,HS.o,aG.o,eN.o])
   exact kNw
  rcases zAt t (p)with⟨h0,h1,h2,h3⟩|⟨h0,h1,h2,h3⟩|⟨h0,h1,h2,h3⟩|⟨h0,h1,h2,h3⟩
  ·exact kP9
  ·exact kP9
  ·exact kP9
  ·have mi:=hd h0;have lw:=hd h1;have gS:=hd h2;have gT:=hd h3;clear h0 h1 h2 h3;have HF:=hd (show jF 5 q t pos p=(p,true) by
    rw[HL.o,if_pos (by rw[aG.o];omega),if_neg (by rw[HS.o];decide)];simp[jH,HS.o,aG.o,eN.o,mi.o])
   exact kNw
theorem kOw {W:World}{u qv tv r4 r5 r6 r7 r8 r9 r10 r11 r12 r13 r14 r15 r16 r17 r18 r19 r20:Value}{p q t:List Int}{K pos:Int}{r:List Int×Bool}(hp:XA W u p)(hq:XA W qv q)(ht:XA W tv t)(hr:jF K q t pos p=r):
  Calls Tryz.prog 148 #[u,.agg #[.int .i64 K,qv,tv,.int .i64 pos,r4,r5,r6,r7,r8,r9,r10,r11,r12,r13,r14,r15,r16,r17,r18,r19,r20]] W (kBb W r):=by
 obtain⟨A,n,c,rfl,h1,h2,h3,h4⟩:=hp;obtain⟨Q,lq,cq,rfl,g1,g2,g3,g4⟩:=hq;obtain⟨T,lt,ct,rfl,i1,i2,i3,i4⟩:=ht;subst hr;by_cases iQ:K=5
 ·subst iQ;exact kU8 A Q T p q t n lq lt c cq ct pos r4 r5 r6 r7 r8 r9 r10 r11 r12 r13 r14 r15 r16 r17 r18 r19 r20 W h1 g1 i1 h2 g2 i2 h3 g3 i3 h4 g4 i4
 ·exact kU7 A Q T p q t n lq lt c cq ct K pos r4 r5 r6 r7 r8 r9 r10 r11 r12 r13 r14 r15 r16 r17 r18 r19 r20 W h1 g1 i1 h2 g2 i2 h3 g3 i3 iQ h4 g4 i4
