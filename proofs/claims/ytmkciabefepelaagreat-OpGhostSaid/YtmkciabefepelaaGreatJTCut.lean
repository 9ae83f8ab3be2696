import Derived.Test.YtmkciabefepelaaGreatJTPut
set_option maxRecDepth 100000
set_option maxHeartbeats 8000000
namespace Go.Proofs.YtmkciabefepelaaGreat
open Go.RowKit
variable {er:Int}{w w':World}{b c d2 lp:Nat}{u v:Value}{m n x y:NT}{L:List (Nat×Obj)}{A:Option Addr}{p:List Int}
def kFn (g:Nat)(w:World):Prop:=∃u0 u1 u2 u3,w.heap[g]? =some (.cells #[u0,u1,u2,u3] 26 (0,0))
theorem zTn (ib g:Nat)(i:Int)(d:Nat)(w:World)(v:Value)(n:NT)(hn:zV d w g v n)(hg:g<w.heap.size)(hG:kFn g w)(hI:zW1 ib i w)(zi:ib≠g):
  Calls Tryz.prog 131 #[v,.pointer (some ⟨ib,0,none⟩),.pointer (some ⟨g,0,none⟩)] w (kEz g (zJy i n) (zBh n i) w):=by
 obtain⟨d',lf,ps,tx,ks,PA,pc,TA,tc,KA,kc,hd',hn',rfl,hps,htx,hf,hks⟩:=hn.open_;obtain⟨z0,z1,z2,z3,hG⟩:=hG;obtain⟨wb,hwb⟩:∃wb,wb=(w.alloc (.cells #[.bool lf,.slice PA ps.length pc,.slice TA tx.length tc,.slice KA ks.length kc] 26)).alloc (.cells #[.bool false,.slice none 0 0,.slice none 0 0,.slice none 0 0] 26):=⟨_,rfl⟩;have hb0:Below w.heap.size w wb:=hwb▸kM Kl Km;have bR:wb.heap.size=w.heap.size+2:=by rw[hwb];simp
 have eI:wb.heap[w.heap.size]? =some (.cells #[.bool lf,.slice PA ps.length pc,.slice TA tx.length tc,.slice KA ks.length kc] 26 (0,0))/\wb.heap[w.heap.size+1]? =some (.cells #[.bool false,.slice none 0 0,.slice none 0 0,.slice none 0 0] 26 (0,0)):=hwb▸zBj w _ _ _ _ _ _ _ _ _ _;have hib:wb.cell? ⟨ib,0,none⟩=some (.int .i64 i):=zLk (kI hI hb0);have wT:=lt_of_block hI;obtain⟨x0,x1,x2,x3,_,_,_,_⟩:=zJ eI.1;have cM:=hf.2.2.2.1;have HB:=hd hb0;have HS:=hd bR;have eJ:=hd eI;have HN:=hd hn;have gK:=hd hn';have CM:=hd (show zW1 ib i wb from kI hI hb0);have kr:=hd (kI hG hb0);have bK:=hd hks;obtain⟨hb,pp⟩:∃hb,zOf n i=hb:=⟨_,rfl⟩;have HK:=hd (zD6 n i hb pp d wb _ ((hn.below (hb0.mono Kb)).more Kb));have pq:=hd pp;clear hn hb0 bR eI hps htx hf hks hd' hn' hI hG pp;have hS:=HS.o;cases hb
 ·have HF:=hd (show zJy i n=(zeroT,5) by unfold zJy;rw[pq.o];rfl);have HE:=hd (zJx pq.o);go_enter Tryz.func131,Tryz.ntmps131
  subst hwb;go_wp2_with(first|(go_at_call 74;refine HK.o.mono ?_;rintro e w2 ⟨rfl,b2⟩;have hz2:=b2.size;have aT:=hd b2;have dU:=hd (kI eJ.o.2 b2);obtain⟨r0,r1,r2,r3,r4,r5,r6,r7⟩:=zJ dU.o;clear b2))
  have h7:=kD (a:=.bool false) (b:=.slice none 0 0) (c:=.slice none 0 0) (d:=.slice none 0 0) dU.o;obtain⟨t0,t1,t2,t3,_,_,_,_⟩:=zJ h7;rw[hS]at hz2;have hW:Below w.heap.size w w2:=HB.o.trans (aT.o.mono Kb);refine bodyPost_ret (v:=.tuple #[.agg #[.bool false,.slice none 0 0,.slice none 0 0,.slice none 0 0],.int .i64 5]) (by simp[results,Tryz.results131,go_sem,t0,t1,t2,t3]) rfl (zB0 HF.o (zBs _ 0 _) ((Off.of_below hW).set4 (.inl Kb)) ?_);rw[HE.o];exact(zT Kb).trans (hW.block g hg)
 ·obtain⟨kid,eN⟩:=zJw pq.o;obtain⟨hk1,hk2,hk3⟩:=zA1 eN;have HF:=hd (show zJy i n=(jS n i.toNat 1 [],0) by unfold zJy;rw[pq.o];rfl);have HE:=hd eN;obtain⟨j,hj⟩:∃j:Nat,i=(j:Int):=⟨i.toNat,by omega⟩;subst hj;have mh:j<ks.length:=by have:=hk2;rw[gK.o]at this;simp only[NT.ks]at this;omega
  obtain⟨m2,b',o',lf2,iA,iB,iC,iD,iE,iF,ie,iG,ig,hm2,rfl,oQ,dJ,c0,c1,c2,c3⟩:=(bK.o.below (HB.o.mono Kb)).at_ mh;have hmk:m2=kid:=by have:=hk3;rw[gK.o]at this;simp only[NT.ks,Int.toNat_natCast]at this;rw[hm2]at this;injection this
  subst hmk;have jz:=hd dJ;clear eN hk1 hk2 hk3 hm2 dJ;go_enter Tryz.func131,Tryz.ntmps131
  subst hwb;go_wp2_with(first
   |(go_at_call 74;refine HK.o.mono ?_;rintro e w2 ⟨rfl,b2⟩;have hz2:=b2.size;rw[hS]at hz2;have aT:=hd b2;have dU:=hd (kI eJ.o.2 b2);have HG2:=hd (kI kr.o b2);have bL:=hd (kI CM.o b2);have ah:=hd (kI eJ.o.1 b2);clear x0 x1 x2 x3;obtain⟨x0,x1,x2,x3,_,_,_,_⟩:=zJ ah.o;clear hib;have hib:=zLk bL.o;have e0:=(b2.cell (kQ c0)).trans c0;have e1:=(b2.cell (kQ c1)).trans c1;have e2:=(b2.cell (kQ c2)).trans c2;have e3:=(b2.cell (kQ c3)).trans c3;clear c0 c1 c2 c3;have qJ:=jz.o.below (b2.mono Kb);have wU:=hd (show zV d' w2 w2.heap.size _ m2 from qJ.more Kb);clear b2 qJ)
   |(go_at_call 75;refine Calls.mono (zEy d' w2 _ m2 wU.o) ?_;intro e w3 h3;obtain⟨v3,rfl,ku,hb3⟩:=h3;obtain⟨lf4,aO,aZ,aK,aP,ba,aL,aX,bb,aY,rfl⟩:=(ku.at_ (B:=w3.heap.size) (fun b hb=>hb.2)).val;have dx:=hd hb3;have nz:=hd ku;have hz3:=hb3.size;have CN:=hd (kI dU.o hb3);have j0:=hd (kI HG2.o hb3);have CO:=hd (kI bL.o hb3);have gf:=hd (kI ah.o hb3);obtain⟨g0,g1,g2,g3,g4,g5,g6,g7⟩:=zJ j0.o;clear x0 x1 x2 x3 hib e0 e1 e2 e3;obtain⟨x0,x1,x2,x3,_,_,_,_⟩:=zJ gf.o;have hib:=zLk CO.o;have zj:=(HN.o.below (HB.o.mono Kb)).below ((aT.o.mono Kb).trans (dx.o.mono Kb));have nH:((((w3.setCell ⟨g,0,none⟩ (.bool lf4)).setCell ⟨g,1,none⟩ (.slice aO aZ aK)).setCell ⟨g,2,none⟩ (.slice aP ba aL)).setCell ⟨g,3,none⟩ (.slice aX bb aY)).heap.size=w3.heap.size:=jK;have zk:zV d ((((w3.setCell ⟨g,0,none⟩ (.bool lf4)).setCell ⟨g,1,none⟩ (.slice aO aZ aK)).setCell ⟨g,2,none⟩ (.slice aP ba aL)).setCell ⟨g,3,none⟩ (.slice aX bb aY)) ((((w3.setCell ⟨g,0,none⟩ (.bool lf4)).setCell ⟨g,1,none⟩ (.slice aO aZ aK)).setCell ⟨g,2,none⟩ (.slice aP ba aL)).setCell ⟨g,3,none⟩ (.slice aX bb aY)).heap.size _ n:=(zj.below (Below.set4 Kl (Nat.le_refl g))).more (by rw[nH];omega);have iM:=hd (zIe (fun _=>False) d _ (fun _ h=>h.elim) _ n j 1 0 0 (j:Int) 1 rfl rfl none [] [] zk (zGi.nil _ _ _ _) rfl (by rw[gK.o];exact mh) (by have:=cM;rw[gK.o];show ks.length+0<=_;omega));have wV:=hd nH;clear ku hb3 zj zk nH)
   |(go_at_call 132;refine iM.o.mono ?_;intro e w9 h9;obtain⟨v9,rfl,kv,bG⟩:=h9;obtain⟨lf9,lB,lC,lD,lF,lG,lH,lI,lJ,lK,rfl⟩:=(kv.at_ (B:=w9.heap.size) (fun b hb=>hb.2)).val;have uA:=bG.size;rw[wV.o]at uA;have nI:=hd (show w9.heap[w.heap.size+1]? =some (.cells #[.bool false,.slice none 0 0,.slice none 0 0,.slice none 0 0] 26 (0,0))from(bG.block _ (by rw[wV.o];omega)).trans ((zT Kb).trans CN.o));obtain⟨q0,q1,q2,q3,q4,q5,q6,q7⟩:=zJ nI.o;have l6:=hd kv;have bN:=hd bG;clear kv bG))
  have h7:=kD (a:=.bool lf9) (b:=.slice lB lC lD) (c:=.slice lF lG lH) (d:=.slice lI lJ lK) nI.o;obtain⟨t0,t1,t2,t3,_,_,_,_⟩:=zJ h7;have nH:=wV.o;have hW3:Below w.heap.size w w3:=HB.o.trans ((aT.o.mono Kb).trans (dx.o.mono Kb));have hO:Off g w w9:=((Off.of_below hW3).set4 (.inr rfl)).trans (Off.of_below bN.o);refine bodyPost_ret (v:=.tuple #[.agg #[.bool lf9,.slice lB lC lD,.slice lF lG lH,.slice lI lJ lK],.int .i64 0]) (by simp[results,Tryz.results131,go_sem,t0,t1,t2,t3]) rfl (zB0 HF.o (l6.o.keep (fun b hb=>?_) (fun p hp=>?_)) (hO.set4 (.inl Kb)) ?_)
  ·rw[jK];rcases hb.1 with h|h
   ·exact h.elim
   ·rw[nH]at h;exact⟨by omega,hb.2⟩
  ·have hne:p.block≠w.heap.size+1:=by
    rcases hp.1 with h|h
    ·exact h.elim
    ·rw[nH]at h;omega
   exact⟨World.cell?_of_block (zT hne),World.frozen?_of_block (zT hne)⟩
  ·rw[HE.o];refine⟨.bool lf4,.slice aO aZ aK,.slice aP ba aL,.slice aX bb aY,d',?_,nz.o.block_keep (fun b h1 h2=>by rw[jK];omega) (fun b h1 h2=>(zT Kb).trans ((bN.o.block b (by rw[nH];omega)).trans (zT Kb)))⟩;exact(zT Kb).trans ((bN.o.block g (by rw[nH];omega)).trans (kD j0.o))
theorem kHr (ib g:Nat)(i:Int)(zi:ib≠g):zT1 131 (.pointer (some ⟨ib,0,none⟩)) (.pointer (some ⟨g,0,none⟩)) g (zJy i) (fun n=>zBh n i) (fun w=>kFn g w/\zW1 ib i w) (fun _=>True):=
 ⟨enters_of Tryz.func131 Ka rfl,fun w w' h hb=>⟨(by obtain⟨u0,u1,u2,u3,e⟩:=h.1;exact⟨u0,u1,u2,u3,kI e hb⟩),kI h.2 hb⟩,fun d w v n hn hg hC _=>zTn ib g i d w v n hn hg hC.1 hC.2 zi⟩
def kFo (r1 r2:NT)(er:Int)(w:World)(e:Ending)(w':World):Prop:=
 ∃v1 v2 d,e=.returned (.tuple #[v1,v2,.int .i64 er])/\zAx (fun b=>w.heap.size<=b/\b<w'.heap.size) d w' v1 r1/\zAx (fun b=>w.heap.size<=b/\b<w'.heap.size) d w' v2 r2/\Below w.heap.size w w'
theorem zU7 {r1 r2:NT}{v1 v2:Value}{d1:Nat}(h1:zAx (fun b=>w.heap.size<=b/\b<w'.heap.size) d1 w' v1 r1)(h2:zAx (fun b=>w.heap.size<=b/\b<w'.heap.size) d2 w' v2 r2)(hb:Below w.heap.size w w'):kFo r1 r2 er w (.returned (.tuple #[v1,v2,.int .i64 er])) w':=
 ⟨v1,v2,max d1 d2,rfl,h1.deep (Nat.le_max_left _ _),h2.deep (Nat.le_max_right _ _),hb⟩
theorem zAx.drew' {P:Nat->Prop}{d:Nat}(h:zAx P d w v n):zAx P d w.drew v n:=zAx.keep (w:=w) (w':=w.drew) (fun _ h=>h) (fun _ _=>⟨rfl,rfl⟩) h
theorem kHs {w2 W7:World}{lo g1 g2:Nat}{F1 M:NT}{F2:Int}{d5:Nat}{v4 v5 a b c d a' b' c' d':Value}(h1:w.heap.size<=g1)(h2:w.heap.size<=g2)(bi:g1<lo)(hl2:g2<lo)(hs:W7.heap.size=w2.heap.size)(hk:∀q,lo<=q->q<w2.heap.size->W7.heap[q]? =w2.heap[q]?)
  (CP:zAx (fun b=>lo<=b/\b<w2.heap.size) d2 w2 v4 F1) (CQ:zAx (fun b=>lo<=b/\b<w2.heap.size) d5 w2 v5 M) (hW:Below w.heap.size w W7):
  kFo F1 M F2 w (.returned (.tuple #[v4,v5,.int .i64 F2])) (((((((((W7.setCell ⟨g1,0,none⟩ a).setCell ⟨g1,1,none⟩ b).setCell ⟨g1,2,none⟩ c).setCell ⟨g1,3,none⟩ d).setCell ⟨g2,0,none⟩ a').setCell ⟨g2,1,none⟩ b').setCell ⟨g2,2,none⟩ c').setCell ⟨g2,3,none⟩ d').drew):=by
 obtain⟨W8,ia⟩:∃W8,W8=((((W7.setCell ⟨g1,0,none⟩ a).setCell ⟨g1,1,none⟩ b).setCell ⟨g1,2,none⟩ c).setCell ⟨g1,3,none⟩ d):=⟨_,rfl⟩;obtain⟨W9,ag⟩:∃W9,W9=((((W8.setCell ⟨g2,0,none⟩ a').setCell ⟨g2,1,none⟩ b').setCell ⟨g2,2,none⟩ c').setCell ⟨g2,3,none⟩ d'):=⟨_,rfl⟩;rw[<-ia,<-ag];have s8:W8.heap.size=w2.heap.size:=by rw[ia,jK,hs]
 have s9:W9.heap.size=w2.heap.size:=by rw[ag,jK,s8]
 have k9:∀q,lo<=q->q<w2.heap.size->W9.heap[q]? =w2.heap[q]? :=fun q q1 q2=>by
  rw[ag,zT Kb,ia,zT Kb];exact hk q q1 q2
 have b8:Below w.heap.size w W8:=ia▸Below.set4 hW h1;have b9:Below w.heap.size w W9:=ag▸Below.set4 b8 h2;have t:∀{dd:Nat}{v:Value}{n:NT},zAx (fun b=>lo<=b/\b<w2.heap.size) dd w2 v n->zAx (fun b=>w.heap.size<=b/\b<W9.drew.heap.size) dd W9.drew v n:=fun{dd v n} h=>
  (h.block_keep (w':=W9) (Q:=fun b=>w.heap.size<=b/\b<W9.drew.heap.size) (fun b q1 q2=>⟨by omega,by show b<W9.heap.size;omega⟩) k9).drew'
 exact zU7 (t CP) (t CQ) b9.drew
theorem kDw {g:Nat}{s:Option NT}(h:zJ6 g s w w')(hz:w.heap[g]? =some (.cells #[.bool false,.slice none 0 0,.slice none 0 0,.slice none 0 0] 26 (0,0))):
  ∃lf PA np pc TA nt tc KA nk kc d,w'.heap[g]? =some (.cells #[.bool lf,.slice PA np pc,.slice TA nt tc,.slice KA nk kc] 26 (0,0))/\zAx (fun b=>w.heap.size<=b/\b<w'.heap.size) d w' (.agg #[.bool lf,.slice PA np pc,.slice TA nt tc,.slice KA nk kc]) (s.getD zeroT):=by
 cases s with
 |none=>exact⟨_,_,_,_,_,_,_,_,_,_,1,Eq.trans h hz,zBs _ 0 _⟩
 |some t=>
  obtain⟨u0,u1,u2,u3,d,h1,h2⟩:=h;obtain⟨lf,PA,np,pc,TA,nt,tc,KA,nk,kc,e⟩:=(h2.at_ (B:=w'.heap.size) (fun b hb=>hb.2)).val;simp only[Value.agg.injEq,Array.mk.injEq,List.cons.injEq,and_true]at e;obtain⟨rfl,rfl,rfl,rfl⟩:=e;exact⟨_,_,_,_,_,_,_,_,_,_,d,h1,h2⟩
theorem kDx (d:Nat)(w:World)(v:Value)(n:NT)(A:Option Addr)(p:List Int)(lp c:Nat)(aV:p.length=lp)(hl:lp<=1000)(hc:lp<=c)(hn:zV d w w.heap.size v n)(hp:IL w w.heap.size A p):
  Calls Tryz.prog 83 #[v,.slice A lp c] w (kFo (zBw n p).1 (zE3 n p) (zBw n p).2 w):=by
 obtain⟨lf,PA,np,pc,TA,nt,tc,KA,nk,kc,rfl⟩:=hn.val;obtain⟨wb,hwb⟩:∃wb,wb=((w.alloc (.cells #[.bool lf,.slice PA np pc,.slice TA nt tc,.slice KA nk kc] 26)).alloc (.cells #[.bool false,.slice none 0 0,.slice none 0 0,.slice none 0 0] 26)).alloc (.cells #[.bool false,.slice none 0 0,.slice none 0 0,.slice none 0 0] 26):=⟨_,rfl⟩;have hb0:Below w.heap.size w wb:=hwb▸(kM Kl Km).alloc Kf _;have bR:wb.heap.size=w.heap.size+3:=by rw[hwb];simp
 have hnb:wb.heap[w.heap.size]? =some (.cells #[.bool lf,.slice PA np pc,.slice TA nt tc,.slice KA nk kc] 26 (0,0)):=by
  rw[hwb,Below.heap_alloc _ _ _ Kf];exact(zBj w _ _ _ _ _ _ _ _ _ _).1
 have hmb:wb.heap[w.heap.size+1]? =some (.cells #[.bool false,.slice none 0 0,.slice none 0 0,.slice none 0 0] 26 (0,0)):=by
  rw[hwb,Below.heap_alloc _ _ _ Kc];exact(zBj w _ _ _ _ _ _ _ _ _ _).2
 have iN:wb.heap[w.heap.size+2]? =some (.cells #[.bool false,.slice none 0 0,.slice none 0 0,.slice none 0 0] 26 (0,0)):=by
  rw[hwb];have e:∀(A B:Obj),w.heap.size+2=((w.alloc A).alloc B).heap.size:=fun A B=>by simp
  rw[e];exact heap_alloc_new _ _
 have kg:=hd (zNx A p lp c wb aV hl hc ((hp.below hb0).more Kb));have HB:=hd hb0;have HS:=hd bR;have dR:=hd iN;have wW:=hd hmb;have wX:=hd hnb;rcases lp with _|k
 ·have HF:=hd (show(zBw n p).1=zeroT/\zE3 n p=zeroT/\(zBw n p).2=6 by unfold zBw zE3;rw[if_pos aV,if_pos aV];exact⟨rfl,rfl,rfl⟩);rw[zOe aV]at kg;clear hn hp hb0 bR hmb iN hnb aV;go_enter Tryz.func83,Tryz.ntmps83
  subst hwb;go_wp2_with(first|(go_at_call 129;refine kg.o.mono ?_;intro e w1 h1;obtain⟨v1,rfl,aN,hb1⟩:=h1;have f5:=hd (kI dR.o hb1);have oU:=hd (kI wW.o hb1);obtain⟨r0,r1,r2,r3,r4,r5,r6,r7⟩:=zJ f5.o;obtain⟨m0,m1,m2,m3,m4,m5,m6,m7⟩:=zJ oU.o;have bf:=hd hb1;have hz1:=hb1.size;rw[HS.o]at hz1;clear aN hb1))
  have h7:=kD (a:=.bool false) (b:=.slice none 0 0) (c:=.slice none 0 0) (d:=.slice none 0 0) oU.o;have h8:=(zT (w:=w1) (g:=w.heap.size+1) (k:=w.heap.size+2) (a:=.bool false) (b:=.slice none 0 0) (c:=.slice none 0 0) (d:=.slice none 0 0) Kb).trans f5.o;have h9:=kD (a:=.bool false) (b:=.slice none 0 0) (c:=.slice none 0 0) (d:=.slice none 0 0) h8;have h10:=(zT (g:=w.heap.size+2) (k:=w.heap.size+1) (a:=.bool false) (b:=.slice none 0 0) (c:=.slice none 0 0) (d:=.slice none 0 0) Kb).trans h7;obtain⟨t0,t1,t2,t3,_,_,_,_⟩:=zJ h9;obtain⟨s0,s1,s2,s3,_,_,_,_⟩:=zJ h10;have hS:=HS.o;have hW:Below w.heap.size w w1:=HB.o.trans (bf.o.mono Kb);rw[HF.o.1,HF.o.2.1,HF.o.2.2];exact bodyPost_ret (v:=.tuple #[.agg #[.bool false,.slice none 0 0,.slice none 0 0,.slice none 0 0],.agg #[.bool false,.slice none 0 0,.slice none 0 0,.slice none 0 0],.int .i64 6]) (by simp[results,Tryz.results83,go_sem,t0,t1,t2,t3,s0,s1,s2,s3]) rfl (zU7 (zBs _ 0 _) (zBs _ 0 _) (Below.set4 (Below.set4 hW Kb) Kb))
 ·obtain⟨kw,hup,hlast⟩:=zM3 aV;rw[kw]at kg;obtain⟨b,o,rfl,hbl,hc0⟩:=hp.at_ (k:=k) Kb;obtain⟨i,hi⟩:∃i,i=iAt p k:=⟨_,rfl⟩;rw[<-hi]at hc0;have HF:=hd (show zBw n p=zIf (zJy i) n (p.take k) by unfold zBw;rw[if_neg Kb,hup,hlast,hi]);have HM:=hd (show((kB n (p.take k)).bind fun a=>zBh a i)=kB n p by rw[zHv (p:=p) Kb,hup,hlast,hi]);have lL:=hd (show zE3 n p=(kB n p).getD zeroT by
   unfold zE3;rw[if_neg Kb];unfold zGm;cases kB n p<;>rfl)
  have uB:=hd hc0;have dP:=hd (fun(w1:World)(v1:Value)(aN:zBt w1 wb.heap.size v1 (p.take k))(hb1:Below wb.heap.size wb w1)(A1:Option Addr)(c1:Nat)(hv:v1=.slice A1 k c1)(hc1:k<=c1)(hI:IL w1 w1.heap.size A1 (p.take k))=>
   zNf (kHr w1.heap.size (w.heap.size+2) i (by have:=hb1.size;omega)) (p.take k) d (w1.alloc (.cells #[.int .i64 i] 3)) (.agg #[.bool lf,.slice PA np pc,.slice TA nt tc,.slice KA nk kc]) n A1 k c1 Kf Kb hc1 (by have:=hb1.size;simp;omega)
    (by
     have hz:=hb1.size;have bX:Below w1.heap.size w1 (w1.alloc (.cells #[.int .i64 i] 3)):=Kl.alloc Km _;exact⟨⟨_,_,_,_,kI (kI iN hb1) bX⟩,heap_alloc_new _ _⟩)
    (by
     have hz:=hb1.size;have bX:Below w1.heap.size w1 (w1.alloc (.cells #[.int .i64 i] 3)):=Kl.alloc Km _;exact(((hn.below hb0).below (hb1.mono Kb)).more (show w.heap.size<=w.heap.size+2 by omega)).below (bX.mono Kb))
    (hI.later (Kl.alloc Km _)) (fun _ a ha=>by
     subst hv ha;have:=(aN.lt (j:=a.block) rfl).1;omega) (fun _ _=>trivial))
  have px:=hd (show(p.take k).length=k by simp;omega);obtain⟨FR,eP⟩:∃FR,FR=zIf (zJy i) n (p.take k):=⟨_,rfl⟩;simp only[<-eP]at dP;rw[<-eP]at HF;obtain⟨F1,F2⟩:=FR;clear hn hp hb0 bR hmb iN hnb aV kw hup hlast hi hc0 eP;go_enter Tryz.func83,Tryz.ntmps83
  subst hwb;go_wp2_with(first
   |(go_at_call 129;refine kg.o.mono ?_;intro e w1 h1;obtain⟨v1,rfl,aN,hb1⟩:=h1;obtain⟨A1,c1,rfl,hc1,sK⟩:=aN.open_at k px.o;have f5:=hd (kI dR.o hb1);have oU:=hd (kI wW.o hb1);obtain⟨x0,x1,x2,x3,_,_,_,_⟩:=zJ (kI wX.o hb1);have hcc:=(hb1.cell (p:=⟨b,o+k,none⟩) (by rw[HS.o];show b<_;omega)).trans ((HB.o.cell (p:=⟨b,o+k,none⟩) hbl).trans uB.o);have py:=hd (dP.o w1 _ aN hb1 A1 c1 rfl hc1 sK);have bf:=hd hb1;have hz1:=hb1.size;rw[HS.o]at hz1;have bi:w.heap.size<w1.heap.size:=Kb;clear aN hb1 sK)
   |(go_at_call 130;refine py.o.mono ?_;intro e w2 h2;obtain⟨v2,d2,rfl,ht2,aG,hl2⟩:=h2;obtain⟨lf4,aO,aZ,aK,aP,ba,aL,aX,bb,aY,rfl⟩:=(ht2.at_ (B:=w2.heap.size) (fun b hb=>hb.2)).val;have ja:(w1.alloc (.cells #[.int .i64 i] 3)).heap.size=w1.heap.size+1:=Kc;have hz2:=aG.size;rw[ja]at hz2;have bX:Below w1.heap.size w1 (w1.alloc (.cells #[.int .i64 i] 3)):=Kl.alloc Km _;have uj:=hd ((aG.block _ (by rw[ja];omega) Kb).trans (kI oU.o bX));obtain⟨m0,m1,m2,m3,m4,m5,m6,m7⟩:=zJ uj.o;have l5:=hd (kDw hl2 (kI f5.o bX));obtain⟨lf5,m8,m9,mA,mB,mC,mD,mE,mF,mG,d5,pz,lM⟩:=l5.o;obtain⟨r0,r1,r2,r3,r4,r5,r6,r7⟩:=zJ pz;have CR:=hd pz;have p9:=hd lM;have iw:=hd ht2;have oI:=hd ((Off.of_below (g:=w.heap.size+2) bX).trans aG);have sL:=hd ja;have CS:w.heap.size+2<w2.heap.size:=Kb;clear pz lM ht2 aG hl2 bX ja l5))
  have h7:=kD (a:=.bool lf4) (b:=.slice aO aZ aK) (c:=.slice aP ba aL) (d:=.slice aX bb aY) uj.o;have h8:=(zT (w:=w2) (g:=w.heap.size+1) (k:=w.heap.size+2) (a:=.bool lf4) (b:=.slice aO aZ aK) (c:=.slice aP ba aL) (d:=.slice aX bb aY) Kb).trans CR.o;have hS:=HS.o;have ja:=sL.o;have zl:=(((Off.of_below (g:=w.heap.size+2) HB.o).trans (Off.of_below bf.o)).trans oI.o).set4 (k:=w.heap.size+1) (a:=.bool lf4) (b:=.slice aO aZ aK) (c:=.slice aP ba aL) (d:=.slice aX bb aY) (.inl Kb);have sM:∀q,w1.heap.size+1<=q->q<w2.heap.size->((((w2.setCell ⟨w.heap.size+1,0,none⟩ (.bool lf4)).setCell ⟨w.heap.size+1,1,none⟩ (.slice aO aZ aK)).setCell ⟨w.heap.size+1,2,none⟩ (.slice aP ba aL)).setCell ⟨w.heap.size+1,3,none⟩ (.slice aX bb aY)).heap[q]? =w2.heap[q]? :=fun q h1 _=>zT Kb;have iz:((((w2.setCell ⟨w.heap.size+1,0,none⟩ (.bool lf4)).setCell ⟨w.heap.size+1,1,none⟩ (.slice aO aZ aK)).setCell ⟨w.heap.size+1,2,none⟩ (.slice aP ba aL)).setCell ⟨w.heap.size+1,3,none⟩ (.slice aX bb aY)).heap.size=w2.heap.size:=jK;clear m0 m1 m2 m3 m4 m5 m6 m7 r0 r1 r2 r3 r4 r5 r6 r7;generalize fJ:((((w2.setCell ⟨w.heap.size+1,0,none⟩ (.bool lf4)).setCell ⟨w.heap.size+1,1,none⟩ (.slice aO aZ aK)).setCell ⟨w.heap.size+1,2,none⟩ (.slice aP ba aL)).setCell ⟨w.heap.size+1,3,none⟩ (.slice aX bb aY))=W7 at*
  clear fJ;have H7:=hd h7;have H8:=hd h8;have jp:=hd zl;have CU:=hd sM;have wY:=hd iz;obtain⟨m0,m1,m2,m3,m4,m5,m6,m7⟩:=zJ h7;obtain⟨r0,r1,r2,r3,r4,r5,r6,r7⟩:=zJ h8;clear h7 h8 zl sM iz ja;go_region
  go_wp2
  have h9:=kD (a:=.bool lf4) (b:=.slice aO aZ aK) (c:=.slice aP ba aL) (d:=.slice aX bb aY) H7.o;have h10:=(zT (w:=W7) (g:=w.heap.size+1) (k:=w.heap.size+2) (a:=.bool lf4) (b:=.slice aO aZ aK) (c:=.slice aP ba aL) (d:=.slice aX bb aY) Kb).trans H8.o;have h11:=kD (a:=.bool lf5) (b:=.slice m8 m9 mA) (c:=.slice mB mC mD) (d:=.slice mE mF mG) h10;have h12:=(zT (g:=w.heap.size+2) (k:=w.heap.size+1) (a:=.bool lf5) (b:=.slice m8 m9 mA) (c:=.slice mB mC mD) (d:=.slice mE mF mG) Kb).trans h9;obtain⟨t0,t1,t2,t3,_,_,_,_⟩:=zJ h11;obtain⟨s0,s1,s2,s3,_,_,_,_⟩:=zJ h12;have ja:=sL.o;have iz:=wY.o;rw[lL.o,<-HM.o,HF.o];have hW:Below w.heap.size w W7:=jp.o.below Kb Km;exact bodyPost_ret (v:=.tuple #[.agg #[.bool lf4,.slice aO aZ aK,.slice aP ba aL,.slice aX bb aY],.agg #[.bool lf5,.slice m8 m9 mA,.slice mB mC mD,.slice mE mF mG],.int .i64 F2]) (by simp[results,Tryz.results83,go_sem,t0,t1,t2,t3,s0,s1,s2,s3]) rfl
   (kHs (lo:=(w1.alloc (.cells #[.int .i64 i] 3)).heap.size) (g1:=w.heap.size+1) (g2:=w.heap.size+1+1) Kb Kb Kb Kb iz (fun q h1 h2=>CU.o q (by rw[<-ja];exact h1) h2) iw.o p9.o hW)
def lfT (l:List Int):NT:=.mk true [] l []
def elT (ks:List NT):NT:=.mk false [(tyKey,{data:=#[112]})] [] ks
theorem kKs {cp kc nk:Nat}(dt:1<=cp)(hk:nk<=10)(hkc:nk<=kc):zU0 [((tyKey,{data:=#[112]}):Pr)] 0 nk cp 0 kc:=⟨⟨by simp,zZd⟩,by simp,by omega,by omega,by simpa using dt,by omega,hkc⟩
theorem kHt (hb : b < w.heap.size)(hc:w.cell? ⟨b,0,none⟩=some (.int .i64 0)):IL w w.heap.size (some ⟨b,0,none⟩) [0]:=fun _=>
 ⟨b, 0, rfl, hb, fun k hk => by obtain rfl:k=0:=by simp at hk;omega
                                exact hc⟩
def At (w:World)(v:Value)(n:NT):Prop:=∃d,zV d w w.heap.size v n
def kOd (L:List (Nat×Obj))(w:World):Prop:=∀x ∈ L,w.heap[x.1]? =some x.2
theorem kOd.keep (h:kOd L w)(hb:Below w.heap.size w w'):kOd L w':=fun x hx=>kI (h x hx) hb
theorem kOd.add (h:kOd L w)(o:Obj):kOd ((w.heap.size,o)::L) (w.alloc o):=fun x hx=>by
 rcases List.mem_cons.1 hx with rfl|hx
 ·exact heap_alloc_new _ _
 ·exact kI (h x hx) (Kl.alloc Km _)
theorem kOd.nil (w:World):kOd [] w:=fun x hx=>by cases hx
theorem kOd.hd {o:Obj}(h:kOd ((b,o)::L) w):w.heap[b]? =some o:=h _ (List.mem_cons_self ..)
theorem kOd.tl {x:Nat×Obj}(h:kOd (x::L) w):kOd L w:=fun y hy=>h y (List.mem_cons_of_mem _ hy)
theorem kKt (hl:p.length<=1000)(hn:At w v n)(hp:IL w w.heap.size A p):Calls Tryz.prog 30 #[v,.slice A p.length c] w (zP2 (zGm n p) w):=by
 obtain⟨d,hn⟩:=hn;exact zU9 d w v n A p p.length c rfl Kb hn hp
theorem kKu (hl:p.length<=1000)(hc:p.length<=c)(hn:At w v n)(hm:At w u m)(hp:IL w w.heap.size A p):Calls Tryz.prog 128 #[v,.slice A p.length c,u] w (zP2 (zSe n p m) w):=by
 obtain⟨d,hn⟩:=hn;obtain⟨dm,hm⟩:=hm;exact kDz d dm w v u n m A p p.length c rfl Kb hc hn hm hp
theorem kKv (hl:p.length<=1000)(hc:p.length<=c)(hn:At w v n)(hm:At w u m)(hp:IL w w.heap.size A p)(eQ:∀x,kB n (upP p)=some x->x.ks.length<1759218604441):Calls Tryz.prog 84 #[v,.slice A p.length c,u] w (zP2 (zGo n p m) w):=by
 obtain⟨d,hn⟩:=hn;obtain⟨dm,hm⟩:=hm;exact kD0 d dm w v u n m A p p.length c rfl hl hc hn hm hp eQ
theorem kKw (hl:p.length<=1000)(hc:p.length<=c)(hn:At w v n)(hp:IL w w.heap.size A p):Calls Tryz.prog 83 #[v,.slice A p.length c] w (kFo (zBw n p).1 (zE3 n p) (zBw n p).2 w):=by
 obtain⟨d,hn⟩:=hn;exact kDx d w v n A p p.length c rfl hl hc hn hp
theorem kKx (hr:zGm n p=(x,er))(hl:p.length<=1000)(hn:At w v n)(hp:IL w w.heap.size A p):Calls Tryz.prog 30 #[v,.slice A p.length c] w (zP2 (x,er) w):=hr▸kKt hl hn hp
theorem kKy (hr:zSe n p m=(x,er))(hl:p.length<=1000)(hc:p.length<=c)(hn:At w v n)(hm:At w u m)(hp:IL w w.heap.size A p):Calls Tryz.prog 128 #[v,.slice A p.length c,u] w (zP2 (x,er) w):=hr▸kKu hl hc hn hm hp
theorem kKz (hr:zGo n p m=(x,er))(hl:p.length<=1000)(hc:p.length<=c)(hn:At w v n)(hm:At w u m)(hp:IL w w.heap.size A p)(eQ:∀x,kB n (upP p)=some x->x.ks.length<1759218604441):Calls Tryz.prog 84 #[v,.slice A p.length c,u] w (zP2 (x,er) w):=hr▸kKv hl hc hn hm hp eQ
theorem kK0 (hr:zBw n p=(x,er))(hy:zE3 n p=y)(hl:p.length<=1000)(hc:p.length<=c)(hn:At w v n)(hp:IL w w.heap.size A p):Calls Tryz.prog 83 #[v,.slice A p.length c] w (kFo x y er w):=by
 have h:=kKw (c:=c) hl hc hn hp;rw[hr,hy]at h;exact h
theorem kOd.add2 (h:kOd L w)(o o':Obj):kOd ((w.heap.size+1,o')::(w.heap.size,o)::L) ((w.alloc o).alloc o'):=by
 have:=(h.add o).add o';rwa[show(w.alloc o).heap.size=w.heap.size+1 by simp]at this
theorem kNn (w:World)(o:Obj):Below w.heap.size w (w.alloc o):=Kl.alloc Km o
theorem kOi (w:World)(o o':Obj):Below w.heap.size w ((w.alloc o).alloc o'):=kM Kl Km
theorem kQh (A:Option Addr)(n c k:Nat)(hk:k<=c):∀W:World,(Instr.slice 27 (.slice A n c) none (some (.int .i64 (k:Int))) none).run Tryz.prog W=.ok (.slice A k c) W:=fun W=>by
 have he:Tryz.prog.elem 27=3:=Ka;have hs:∀W,(sizeOf 3).run Tryz.prog W=.ok 1 W:=fun _=>by kernel_rfl
 rw[run_slice_h W 27 A n c (by rw[he];exact Tryz.underlying27) .i64 _ Kb Kb,he,hs];have e:(A.map fun x=>x.add 0)=A:=by
  cases A
  ·rfl
  ·simp[Addr.add]
 simp[Result.andThen,sliced,e]
theorem kMl (hr:zGo n p m=(x,er))(aV:p.length=lp)(hl:lp<=1000)(hc:lp<=c)(hn:At w v n)(hm:At w u m)(hp:IL w w.heap.size A p)(eQ:∀x,kB n (upP p)=some x->x.ks.length<1759218604441):Calls Tryz.prog 84 #[v,.slice A lp c,u] w (zP2 (x,er) w):=by
 subst aV;exact kKz hr hl hc hn hm hp eQ
theorem kMm (hr:zBw n p=(x,er))(hy:zE3 n p=y)(aV:p.length=lp)(hl:lp<=1000)(hc:lp<=c)(hn:At w v n)(hp:IL w w.heap.size A p):Calls Tryz.prog 83 #[v,.slice A lp c] w (kFo x y er w):=by
 subst aV;exact kK0 hr hy hl hc hn hp
theorem kMn (hr:zGm n p=(x,er))(aV:p.length=lp)(hl:lp<=1000)(hn:At w v n)(hp:IL w w.heap.size A p):Calls Tryz.prog 30 #[v,.slice A lp c] w (zP2 (x,er) w):=by
 subst aV;exact kKx hr hl hn hp
