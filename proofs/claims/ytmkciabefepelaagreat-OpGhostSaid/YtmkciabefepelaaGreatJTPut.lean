import Derived.Test.YtmkciabefepelaaGreatTChange
set_option maxRecDepth 100000
set_option maxHeartbeats 8000000
namespace Go.Proofs.YtmkciabefepelaaGreat
open Go.RowKit
variable {b d g:Nat}{w w':World}{Q:Nat->Prop}{p:List Int}
theorem zP2.of_newO {r:NT×Int}{e:Ending}(h:kEz g r none w e w'):zP2 r w e w':=by
 obtain⟨v,d,h1,h2,h3,h4⟩:=h;exact⟨v,d,h1,h2,h3.drop h4⟩
def zTo (b g d:Nat)(n:NT)(w:World):Prop:=∃lf PA np pc TA nt tc KA nk kc,w.heap[b]? =some (.cells #[.bool lf,.slice PA np pc,.slice TA nt tc,.slice KA nk kc] 26 (0,0))/\zV d w g (.agg #[.bool lf,.slice PA np pc,.slice TA nt tc,.slice KA nk kc]) n
theorem zTo.later {n:NT}(h:zTo b g d n w)(hg:g<=w.heap.size)(hb:Below w.heap.size w w'):zTo b g d n w':=by
 obtain⟨lf,PA,np,pc,TA,nt,tc,KA,nk,kc,h1,h2⟩:=h;exact⟨lf,PA,np,pc,TA,nt,tc,KA,nk,kc,kI h1 hb,h2.below (hb.mono hg)⟩
theorem zTp (mb g dm:Nat)(m:NT)(d:Nat)(w:World)(v:Value)(n:NT)(hn:zV d w g v n)(hg:g<w.heap.size)(hC:zTo mb g dm m w):
  Calls Tryz.prog 158 #[v,.pointer (some ⟨mb,0,none⟩)] w (kEz g (kHx m n) none w):=by
 obtain⟨lf,PA,np,pc,TA,nt,tc,KA,nk,kc,rfl⟩:=hn.val;obtain⟨lf1,cD,cI,cE,cF,cJ,cG,bY,cK,bZ,iH,hm2⟩:=hC;obtain⟨wb,hwb⟩:∃wb,wb=(w.alloc (.cells #[.bool lf,.slice PA np pc,.slice TA nt tc,.slice KA nk kc] 26)).alloc (.cells #[.bool false,.slice none 0 0,.slice none 0 0,.slice none 0 0] 26):=⟨_,rfl⟩;have hb0:Below w.heap.size w wb:=hwb▸kM Kl Km;have bR:wb.heap.size=w.heap.size+2:=by rw[hwb];simp
 have eI:wb.heap[w.heap.size+1]? =some (.cells #[.bool false,.slice none 0 0,.slice none 0 0,.slice none 0 0] 26 (0,0)):=hwb▸(zBj w _ _ _ _ _ _ _ _ _ _).2;obtain⟨y0,y1,y2,y3,_,_,_,_⟩:=zJ (kI iH hb0);have qN:=hd (zEy dm wb _ m ((hm2.below (hb0.mono Kb)).more Kb));have HB:=hd hb0;have HS:=hd bR;have eJ:=hd eI;have hmb:=lt_of_block iH;clear hn iH hm2 hb0 bR eI;go_enter Tryz.func158,Tryz.ntmps158
 subst hwb;go_wp2_with(first|(go_at_call 75;refine qN.o.mono ?_;intro e w1 h1;obtain⟨v1,rfl,ht1,hb1⟩:=h1;obtain⟨lf4,aO,aZ,aK,aP,ba,aL,aX,bb,aY,rfl⟩:=(ht1.at_ (B:=w1.heap.size) (fun b hb=>hb.2)).val;have f5:=hd (kI eJ.o hb1);obtain⟨r0,r1,r2,r3,r4,r5,r6,r7⟩:=zJ f5.o;have l8:=hd ht1;have bf:=hd hb1;have hz1:=hb1.size;rw[HS.o]at hz1;clear ht1 hb1))
 have h7:=kD (a:=.bool lf4) (b:=.slice aO aZ aK) (c:=.slice aP ba aL) (d:=.slice aX bb aY) f5.o;obtain⟨t0,t1,t2,t3,_,_,_,_⟩:=zJ h7;have hS:=HS.o;have hW:Below w.heap.size w w1:=HB.o.trans (bf.o.mono Kb);refine bodyPost_ret (v:=.tuple #[.agg #[.bool lf4,.slice aO aZ aK,.slice aP ba aL,.slice aX bb aY],.int .i64 0]) (by simp[results,Tryz.results158,go_sem,t0,t1,t2,t3]) rfl (zB0 (r:=kHx m n) rfl (l8.o.block_keep (fun b h1 h2=>by rw[jK];omega) (fun b h1 h2=>zT Kb)) ((Off.of_below hW).set4 (.inl Kb)) ?_);exact(zT Kb).trans (hW.block g hg)
theorem kHv (mb g dm:Nat)(m:NT):kBk 158 (.pointer (some ⟨mb,0,none⟩)) g (kHx m) (fun _=>none) (fun w=>zTo mb g dm m w/\g<=w.heap.size) (fun _=>True):=
 ⟨enters_of Tryz.func158 Ka rfl,fun w w' h hb=>⟨h.1.later h.2 hb,Nat.le_trans h.2 hb.size⟩,fun d w v n hn hg hC _=>zTp mb g dm m d w v n hn hg hC.1⟩
theorem zRx {α β:Type}(o:Option α):o.bind (fun _=>(none:Option β))=none:=by cases o<;>rfl
theorem kDz (d dm:Nat)(w:World)(v u:Value)(n m:NT)(A:Option Addr)(p:List Int)(lp c:Nat)(aV:p.length=lp)(hl:lp<=1000000)(hc:lp<=c)(hn:zV d w w.heap.size v n)(hm:zV dm w w.heap.size u m)(hp:IL w w.heap.size A p):
  Calls Tryz.prog 128 #[v,.slice A lp c,u] w (zP2 (zSe n p m) w):=by
 obtain⟨lf,PA,np,pc,TA,nt,tc,KA,nk,kc,rfl⟩:=hn.val;obtain⟨lf1,cD,cI,cE,cF,cJ,cG,bY,cK,bZ,rfl⟩:=hm.val;obtain⟨wb,hwb⟩:∃wb,wb=((w.alloc (.cells #[.bool lf,.slice PA np pc,.slice TA nt tc,.slice KA nk kc] 26)).alloc (.cells #[.bool lf1,.slice cD cI cE,.slice cF cJ cG,.slice bY cK bZ] 26)).alloc (.cells #[.bool false,.slice none 0 0,.slice none 0 0,.slice none 0 0] 26):=⟨_,rfl⟩;have hb0:Below w.heap.size w wb:=hwb▸(kM Kl Km).alloc Kf _;have bR:wb.heap.size=w.heap.size+3:=by rw[hwb];simp
 have hmb:wb.heap[w.heap.size+1]? =some (.cells #[.bool lf1,.slice cD cI cE,.slice cF cJ cG,.slice bY cK bZ] 26 (0,0)):=by
  rw[hwb,Below.heap_alloc _ _ _ Kc];exact(zBj w _ _ _ _ _ _ _ _ _ _).2
 have iN:wb.heap[w.heap.size+2]? =some (.cells #[.bool false,.slice none 0 0,.slice none 0 0,.slice none 0 0] 26 (0,0)):=by
  rw[hwb];have e:∀(A B:Obj),w.heap.size+2=((w.alloc A).alloc B).heap.size:=fun A B=>by simp
  rw[e];exact heap_alloc_new _ _
 have HC:=hd (zT2 (kHv (w.heap.size+1) w.heap.size dm m) p d wb _ n A lp c aV hl hc Kb ⟨⟨_,_,_,_,_,_,_,_,_,_,hmb,hm.below hb0⟩,by omega⟩ (hn.below hb0) ((hp.below hb0).more Kb) (zVg hp Km) (fun _ _=>trivial));rw[zRx]at HC;have HB:=hd hb0;have HS:=hd bR;have dR:=hd iN;obtain⟨FR,eP⟩:∃FR,FR=zIf (kHx m) n p:=⟨_,rfl⟩;rw[<-eP]at HC;have HF:=hd (show zSe n p m=FR from eP.symm);obtain⟨F1,F2⟩:=FR;clear hn hm hp hb0 bR hmb iN eP aV;go_enter Tryz.func128,Tryz.ntmps128
 subst hwb;go_wp2_with(first|(go_at_call 130;refine HC.o.mono ?_;intro e w1 h1;obtain⟨v1,d1,rfl,ht1,hb1⟩:=zP2.of_newO h1;obtain⟨lf4,aO,aZ,aK,aP,ba,aL,aX,bb,aY,rfl⟩:=(ht1.at_ (B:=w1.heap.size) (fun b hb=>hb.2)).val;have f5:=hd (kI dR.o hb1);obtain⟨r0,r1,r2,r3,r4,r5,r6,r7⟩:=zJ f5.o;have l8:=hd ht1;have bf:=hd hb1;have hz1:=hb1.size;rw[HS.o]at hz1;clear ht1 hb1 h1))
 have h7:=kD (a:=.bool lf4) (b:=.slice aO aZ aK) (c:=.slice aP ba aL) (d:=.slice aX bb aY) f5.o;obtain⟨t0,t1,t2,t3,_,_,_,_⟩:=zJ h7;have hS:=HS.o;have hW:Below w.heap.size w w1:=HB.o.trans (bf.o.mono Kb);refine bodyPost_ret (v:=.tuple #[.agg #[.bool lf4,.slice aO aZ aK,.slice aP ba aL,.slice aX bb aY],.int .i64 F2]) (by simp[results,Tryz.results128,go_sem,t0,t1,t2,t3]) rfl (zJv HF.o (l8.o.block_keep (fun b h1 h2=>by rw[jK];omega) (fun b h1 h2=>zT Kb)) (Below.set4 hW Kb))
def zW1 (b:Nat)(i:Int)(w:World):Prop:=w.heap[b]? =some (.cells #[.int .i64 i] 3 (0,0))
theorem zLk {i:Int}(h:zW1 b i w):w.cell? ⟨b,0,none⟩=some (.int .i64 i):=by simp[World.cell?,show w.heap[b]? =_ from h]
theorem zW2 {w3:World}{c0 c1 c2 c3:Value}{m:NT}(t:TypeId)(ht:zAx Q d w3 (.agg #[c0,c1,c2,c3]) m)(hQ:∀b,Q b->b<w3.heap.size):zGi Q d (w3.alloc (.cells #[c0,c1,c2,c3] t)) (some ⟨w3.heap.size,0,none⟩) [.agg #[c0,c1,c2,c3]] [m]:=by
 have hb:Below w3.heap.size w3 (w3.alloc (.cells #[c0,c1,c2,c3] t)):=Kl.alloc Km _;refine⟨rfl,?_,fun q x hx=>?_⟩
 ·have:=zYo w3 t [c0,c1,c2,c3];rw[<-show(w3.alloc (.cells #[c0,c1,c2,c3] t)).heap.size=w3.heap.size+1 by simp]at this;simpa[Value.cells]using this
 ·cases q with
  |zero=>
   simp only[List.getElem?_cons_zero,Option.some.injEq]at hx;subst hx;exact⟨_,rfl,ht.keep (fun _ h=>h) (fun p hp=>⟨hb.cell (hQ _ hp),hb.frozen (hQ _ hp)⟩)⟩
  |succ q=>simp at hx
theorem zGi.deep {d':Nat}{OA:Option Addr}{us:List Value}{os:List NT}(h:zGi Q d w OA us os)(hd:d<=d'):zGi Q d' w OA us os:=
 ⟨h.len,h.cells,fun j m hm=>by
  obtain⟨u,h1,h2⟩:=h.trees j m hm;exact⟨u,h1,h2.deep hd⟩⟩
theorem kQ3 {P:Prop}(h:P:=by
 go_enter Tryz.func133,Tryz.ntmps133
 subst hwb;go_wp2
 exact bodyPost_ret (v:=.tuple #[.agg #[.bool false,.slice none 0 0,.slice none 0 0,.slice none 0 0],.int .i64 8]) (by simp[results,Tryz.results133,go_sem,r0,r1,r2,r3]) rfl (zB0 HF.o (zBs _ 0 _) (Off.of_below HB.o) (HB.o.block g hg))):P:=h
theorem zTq (ib mb g dm:Nat)(i:Int)(m:NT)(d:Nat)(w:World)(v:Value)(n:NT)(hn:zV d w g v n)(hg:g<w.heap.size)(hC:zTo mb g dm m w)(hI:zW1 ib i w)(eQ:n.ks.length<1759218604441):
  Calls Tryz.prog 133 #[v,.pointer (some ⟨ib,0,none⟩),.pointer (some ⟨mb,0,none⟩)] w (kEz g (zGn i m n) none w):=by
 obtain⟨d',lf,ps,tx,ks,PA,pc,TA,tc,KA,kc,hd',hn',rfl,hps,htx,hf,hks⟩:=hn.open_;obtain⟨lf1,cD,cI,cE,cF,cJ,cG,bY,cK,bZ,iH,hm2⟩:=hC;obtain⟨wb,hwb⟩:∃wb,wb=(w.alloc (.cells #[.bool lf,.slice PA ps.length pc,.slice TA tx.length tc,.slice KA ks.length kc] 26)).alloc (.cells #[.bool false,.slice none 0 0,.slice none 0 0,.slice none 0 0] 26):=⟨_,rfl⟩;have hb0:Below w.heap.size w wb:=hwb▸kM Kl Km;have bR:wb.heap.size=w.heap.size+2:=by rw[hwb];simp
 have eI:wb.heap[w.heap.size]? =some (.cells #[.bool lf,.slice PA ps.length pc,.slice TA tx.length tc,.slice KA ks.length kc] 26 (0,0))/\wb.heap[w.heap.size+1]? =some (.cells #[.bool false,.slice none 0 0,.slice none 0 0,.slice none 0 0] 26 (0,0)):=hwb▸zBj w _ _ _ _ _ _ _ _ _ _;have hib:wb.cell? ⟨ib,0,none⟩=some (.int .i64 i):=zLk (kI hI hb0);have wT:=lt_of_block hI;have hmb:=lt_of_block iH;have sN:=kI iH hb0;obtain⟨y0,y1,y2,y3,_,_,_,_⟩:=zJ sN;obtain⟨x0,x1,x2,x3,_,_,_,_⟩:=zJ eI.1;obtain⟨r0,r1,r2,r3,r4,r5,r6,r7⟩:=zJ eI.2;have cM:=hf.2.2.2.1;have HB:=hd hb0;have HS:=hd bR;have eJ:=hd eI;have HN:=hd hn;have HM:=hd hm2;have gK:=hd hn';have wZ:=hd eQ;clear hn iH hm2 sN hb0 bR eI hps htx hf hks hd' hn' hI eQ;have hS:=HS.o;have pA:lf=true∨lf=false/\(i<0∨0<=i/\(ks.length:Int)<i∨0<=i/\i<=ks.length):=by
  cases lf
  ·exact .inr ⟨rfl,by omega⟩
  ·exact .inl rfl
 rcases pA with rfl|⟨rfl,h1|⟨h1,h2⟩|⟨h1,h2⟩⟩
 ·have HF:=hd (show zGn i m n=(zeroT,7) by unfold zGn;rw[gK.o];rfl);go_enter Tryz.func133,Tryz.ntmps133
  subst hwb;go_wp2
  exact bodyPost_ret (v:=.tuple #[.agg #[.bool false,.slice none 0 0,.slice none 0 0,.slice none 0 0],.int .i64 7]) (by simp[results,Tryz.results133,go_sem,r0,r1,r2,r3]) rfl (zB0 HF.o (zBs _ 0 _) (Off.of_below HB.o) (HB.o.block g hg))
 ·have HF:=hd (show zGn i m n=(zeroT,8) by unfold zGn;rw[gK.o];show(if(false=true)then _ else _)=_;rw[if_neg Kc,if_pos (.inl h1)]);exact kQ3
 ·have HF:=hd (show zGn i m n=(zeroT,8) by unfold zGn;rw[gK.o];show(if(false=true)then _ else _)=_;rw[if_neg Kc,if_pos (.inr h2)]);have h3:decide (i<0)=false:=decide_eq_false Kb;exact kQ3
 ·obtain⟨j,hj⟩:∃j:Nat,i=(j:Int):=⟨i.toNat,by omega⟩;subst hj;have qO:j<=ks.length:=Kb;have h3:decide ((j:Int)<0)=false:=decide_eq_false Kb;have h4:decide (ks.length<j)=false:=decide_eq_false Kb;have HF:=hd (show zGn (j:Int) m n=(jS n j 0 [m],0) by unfold zGn;rw[gK.o];show(if(false=true)then _ else _)=_;rw[if_neg Kc,if_neg (by show¬((j:Int)<0∨(ks.length:Int)<j);omega)];rfl);have qN:=fun(W:World)(hb:Below wb.heap.size wb W)=>hd (zEy dm W _ m (((HM.o.below (HB.o.mono Kb)).below (hb.mono Kb)).more (by have:=hb.size;omega)));have dB:=hd (show∀W,Below (w.heap.size+1) wb W->(Below (w.heap.size+1) wb W/\W.cell? ⟨w.heap.size,0,none⟩=some (.bool false)/\W.cell? ⟨w.heap.size,1,none⟩=some (.slice PA ps.length pc)/\W.cell? ⟨w.heap.size,2,none⟩=some (.slice TA tx.length tc)/\W.cell? ⟨w.heap.size,3,none⟩=some (.slice KA ks.length kc)/\W.cell? ⟨ib,0,none⟩=some (.int .i64 j)/\W.cell? ⟨mb,0,none⟩=some (.bool lf1)/\W.cell? ⟨mb,1,none⟩=some (.slice cD cI cE)/\W.cell? ⟨mb,2,none⟩=some (.slice cF cJ cG)/\W.cell? ⟨mb,3,none⟩=some (.slice bY cK bZ))from fun W h=>
   ⟨h,(h.cell (p:=⟨w.heap.size,0,none⟩) (by show w.heap.size<_;omega)).trans x0,(h.cell (p:=⟨w.heap.size,1,none⟩) (by show w.heap.size<_;omega)).trans x1,(h.cell (p:=⟨w.heap.size,2,none⟩) (by show w.heap.size<_;omega)).trans x2,(h.cell (p:=⟨w.heap.size,3,none⟩) (by show w.heap.size<_;omega)).trans x3,(h.cell (p:=⟨ib,0,none⟩) (by show ib<_;omega)).trans hib,(h.cell (p:=⟨mb,0,none⟩) (by show mb<_;omega)).trans y0,(h.cell (p:=⟨mb,1,none⟩) (by show mb<_;omega)).trans y1,(h.cell (p:=⟨mb,2,none⟩) (by show mb<_;omega)).trans y2,(h.cell (p:=⟨mb,3,none⟩) (by show mb<_;omega)).trans y3⟩)
  have iM:=fun(dc:Nat)(Q:Nat->Prop)(W:World)(hb:Below wb.heap.size wb W)(hQ:∀b,Q b->b<W.heap.size)(OA:Option Addr)(us:List Value)(hO:zGi Q (max d dc) W OA us [m])=>hd (zIe Q (max d dc) W hQ _ n j 0 1 1 (j:Int) 0 rfl rfl OA us [m] ((((HN.o.below (HB.o.mono Kb)).below (hb.mono Kb)).more (by have:=hb.size;omega)).deep (Nat.le_max_left _ _)) hO rfl (by rw[gK.o];show j+0<=ks.length;omega) (by have:=wZ.o;omega));go_enter Tryz.func133,Tryz.ntmps133
  subst hwb;have oO:=hd (dB.o (World.drew _) Kl.drew);obtain⟨pB,pC⟩:∃pB,pB=((w.alloc (.cells #[.bool false,.slice PA ps.length pc,.slice TA tx.length tc,.slice KA ks.length kc] 26)).alloc (.cells #[.bool false,.slice none 0 0,.slice none 0 0,.slice none 0 0] 26)):=⟨_,rfl⟩;have CV:pB.heap.size=w.heap.size+2:=by rw[pC];exact hS
  have eT:=hd pC;clear pC;go_wp2_with fail
  go_region_held3(fun W=>Below (w.heap.size+1) ((w.alloc (.cells #[.bool false,.slice PA ps.length pc,.slice TA tx.length tc,.slice KA ks.length kc] 26)).alloc (.cells #[.bool false,.slice none 0 0,.slice none 0 0,.slice none 0 0] 26)) W/\W.cell? ⟨w.heap.size,0,none⟩=some (.bool false)/\W.cell? ⟨w.heap.size,1,none⟩=some (.slice PA ps.length pc)/\W.cell? ⟨w.heap.size,2,none⟩=some (.slice TA tx.length tc)/\W.cell? ⟨w.heap.size,3,none⟩=some (.slice KA ks.length kc)/\W.cell? ⟨ib,0,none⟩=some (.int .i64 j)/\W.cell? ⟨mb,0,none⟩=some (.bool lf1)/\W.cell? ⟨mb,1,none⟩=some (.slice cD cI cE)/\W.cell? ⟨mb,2,none⟩=some (.slice cF cJ cG)/\W.cell? ⟨mb,3,none⟩=some (.slice bY cK bZ))
   (first
    |(with_reducible exact pD)
    |(with_reducible exact qP)
    |(with_reducible exact xa)
    |(with_reducible exact CW)
    |(with_reducible exact oO.o))
   (first
    |(go_at_call 75;refine Calls.mono (qN _ ?hh).o ?_;(case hh=>exact Kl.drew);intro e w3 h3;obtain⟨v3,rfl,ku,hb3⟩:=h3;obtain⟨lf4,aO,aZ,aK,aP,ba,aL,aX,bb,aY,rfl⟩:=(ku.at_ (B:=w3.heap.size) (fun b hb=>hb.2)).val;have hbc:Below pB.heap.size pB w3:=(by rw[eT.o];exact Kl.drew.trans hb3);have hz3:=hbc.size;have CW:=dB.o w3 (eT.o▸hbc.mono Kb);have hbr:=hbc.alloc hbc.size (.cells #[.bool lf4,.slice aO aZ aK,.slice aP ba aL,.slice aX bb aY] 26);have xa:=dB.o (w3.alloc (.cells #[.bool lf4,.slice aO aZ aK,.slice aP ba aL,.slice aX bb aY] 26)) (eT.o▸hbr.mono Kb);have xb:=iM dm _ _ (eT.o▸hbr) (fun b hb=>by simp;exact Nat.lt_succ_of_lt hb.2) _ _ ((zW2 26 ku (fun b hb=>hb.2)).deep (Nat.le_max_right _ _));have aH:=hd hbr;clear ku hb3 hbc hbr)
    |(go_at_call 132;refine xb.o.mono ?_;intro e w9 h9;obtain⟨v9,rfl,kv,bG⟩:=h9;obtain⟨lf9,lB,lC,lD,lF,lG,lH,lI,lJ,lK,rfl⟩:=(kv.at_ (B:=w9.heap.size) (fun b hb=>hb.2)).val;have iO:Below pB.heap.size pB w9:=aH.o.trans (bG.mono aH.o.size);have uA:=iO.size;have nI:=hd (show w9.heap[w.heap.size+1]? =some (.cells #[.bool false,.slice none 0 0,.slice none 0 0,.slice none 0 0] 26 (0,0))from(iO.block _ Kb).trans (eT.o▸eJ.o.2));obtain⟨q0,q1,q2,q3,q4,q5,q6,q7⟩:=zJ nI.o;have qP:=dB.o w9 (eT.o▸iO.mono Kb);have pD:=dB.o _ (eT.o▸Below.set4 (k:=w.heap.size+1) (a:=.bool lf9) (b:=.slice lB lC lD) (c:=.slice lF lG lH) (d:=.slice lI lJ lK) (iO.mono (B':=w.heap.size+1) Kb) Km);have l6:=hd kv;have bN:=hd iO;clear kv bG iO))
  go_wp2
  have h7:=kD (a:=.bool lf9) (b:=.slice lB lC lD) (c:=.slice lF lG lH) (d:=.slice lI lJ lK) nI.o;obtain⟨t0,t1,t2,t3,_,_,_,_⟩:=zJ h7;have hW:Below w.heap.size w w9:=HB.o.trans (eT.o▸bN.o.mono Kb);refine bodyPost_ret (v:=.tuple #[.agg #[.bool lf9,.slice lB lC lD,.slice lF lG lH,.slice lI lJ lK],.int .i64 0]) (by simp[results,Tryz.results133,go_sem,t0,t1,t2,t3]) rfl (zB0 HF.o (l6.o.keep (fun b hb=>?_) (fun p hp=>?_)) ((Off.of_below hW).set4 (.inl Kb)) ?_)
  ·rw[jK];refine⟨?_,hb.2⟩;rcases hb.1 with h|h
   ·have:=h.1;have e:=eT.o▸CV;show w.heap.size<=b;simp at h;omega
   ·simp at h;omega
  ·have hne:p.block≠w.heap.size+1:=by
    rcases hp.1 with h|h
    ·simp at h;omega
    ·simp at h;omega
   exact⟨World.cell?_of_block (zT hne),World.frozen?_of_block (zT hne)⟩
  ·exact(zT Kb).trans (hW.block g hg)
theorem kHw (ib mb g dm:Nat)(i:Int)(m:NT):zT1 133 (.pointer (some ⟨ib,0,none⟩)) (.pointer (some ⟨mb,0,none⟩)) g (zGn i m) (fun _=>none) (fun w=>zTo mb g dm m w/\g<=w.heap.size/\zW1 ib i w) (fun n=>n.ks.length<1759218604441):=
 ⟨enters_of Tryz.func133 Ka rfl,fun w w' h hb=>⟨h.1.later h.2.1 hb,Nat.le_trans h.2.1 hb.size,kI h.2.2 hb⟩,fun d w v n hn hg hC hp=>zTq ib mb g dm i m d w v n hn hg hC.1 hC.2.2 hp⟩
theorem zOe (h:p.length=0):zGq p=([],6):=by unfold zGq;rw[if_pos h]
theorem zM3 {k:Nat}(h:p.length=k+1):zGq p=(p.take k,0)/\upP p=p.take k/\lastL p=iAt p k:=by
 refine⟨by unfold zGq;rw[if_neg Kb,h];rfl,by unfold upP;rw[h];rfl,by unfold lastL;rw[h];rfl⟩
theorem kD0 (d dm:Nat)(w:World)(v u:Value)(n m:NT)(A:Option Addr)(p:List Int)(lp c:Nat)(aV:p.length=lp)(hl:lp<=1000)(hc:lp<=c)(hn:zV d w w.heap.size v n)(hm:zV dm w w.heap.size u m)(hp:IL w w.heap.size A p)(eQ:∀x,kB n (upP p)=some x->x.ks.length<1759218604441):
  Calls Tryz.prog 84 #[v,.slice A lp c,u] w (zP2 (zGo n p m) w):=by
 obtain⟨lf,PA,np,pc,TA,nt,tc,KA,nk,kc,rfl⟩:=hn.val;obtain⟨lf1,cD,cI,cE,cF,cJ,cG,bY,cK,bZ,rfl⟩:=hm.val;obtain⟨wb,hwb⟩:∃wb,wb=((w.alloc (.cells #[.bool lf,.slice PA np pc,.slice TA nt tc,.slice KA nk kc] 26)).alloc (.cells #[.bool lf1,.slice cD cI cE,.slice cF cJ cG,.slice bY cK bZ] 26)).alloc (.cells #[.bool false,.slice none 0 0,.slice none 0 0,.slice none 0 0] 26):=⟨_,rfl⟩;have hb0:Below w.heap.size w wb:=hwb▸(kM Kl Km).alloc Kf _;have bR:wb.heap.size=w.heap.size+3:=by rw[hwb];simp
 have hnb:wb.heap[w.heap.size]? =some (.cells #[.bool lf,.slice PA np pc,.slice TA nt tc,.slice KA nk kc] 26 (0,0)):=by
  rw[hwb,Below.heap_alloc _ _ _ Kf];exact(zBj w _ _ _ _ _ _ _ _ _ _).1
 have hmb:wb.heap[w.heap.size+1]? =some (.cells #[.bool lf1,.slice cD cI cE,.slice cF cJ cG,.slice bY cK bZ] 26 (0,0)):=by
  rw[hwb,Below.heap_alloc _ _ _ Kc];exact(zBj w _ _ _ _ _ _ _ _ _ _).2
 have iN:wb.heap[w.heap.size+2]? =some (.cells #[.bool false,.slice none 0 0,.slice none 0 0,.slice none 0 0] 26 (0,0)):=by
  rw[hwb];have e:∀(A B:Obj),w.heap.size+2=((w.alloc A).alloc B).heap.size:=fun A B=>by simp
  rw[e];exact heap_alloc_new _ _
 have kg:=hd (zNx A p lp c wb aV hl hc ((hp.below hb0).more Kb));have HB:=hd hb0;have HS:=hd bR;have dR:=hd iN;have wW:=hd hmb;have wX:=hd hnb;rcases lp with _|k
 ·have HF:=hd (show zGo n p m=(zeroT,6) by unfold zGo;rw[if_pos aV]);rw[zOe aV]at kg;clear hn hm hp hb0 bR hmb iN hnb aV eQ;go_enter Tryz.func84,Tryz.ntmps84
  subst hwb;go_wp2_with(first|(go_at_call 129;refine kg.o.mono ?_;intro e w1 h1;obtain⟨v1,rfl,aN,hb1⟩:=h1;have f5:=hd (kI dR.o hb1);obtain⟨r0,r1,r2,r3,r4,r5,r6,r7⟩:=zJ f5.o;have bf:=hd hb1;have hz1:=hb1.size;rw[HS.o]at hz1;clear aN hb1))
  have h7:=kD (a:=.bool false) (b:=.slice none 0 0) (c:=.slice none 0 0) (d:=.slice none 0 0) f5.o;obtain⟨t0,t1,t2,t3,_,_,_,_⟩:=zJ h7;have hS:=HS.o;have hW:Below w.heap.size w w1:=HB.o.trans (bf.o.mono Kb);exact bodyPost_ret (v:=.tuple #[.agg #[.bool false,.slice none 0 0,.slice none 0 0,.slice none 0 0],.int .i64 6]) (by simp[results,Tryz.results84,go_sem,t0,t1,t2,t3]) rfl (zJv HF.o (zBs _ 0 _) (Below.set4 hW Kb))
 ·obtain⟨kw,hup,hlast⟩:=zM3 aV;rw[kw]at kg;obtain⟨b,o,rfl,hbl,hc0⟩:=hp.at_ (k:=k) Kb;have uB:=hd hc0;have HF:=hd (show zGo n p m=zIf (zGn (iAt p k) m) n (p.take k) by unfold zGo;rw[if_neg Kb,hup,hlast]);obtain⟨i,hi⟩:∃i,i=iAt p k:=⟨_,rfl⟩;rw[<-hi]at hc0 HF;have uB:=hd hc0;have dP:=hd (fun(w1:World)(v1:Value)(aN:zBt w1 wb.heap.size v1 (p.take k))(hb1:Below wb.heap.size wb w1)(A1:Option Addr)(c1:Nat)(hv:v1=.slice A1 k c1)(hc1:k<=c1)(hI:IL w1 w1.heap.size A1 (p.take k))=>
   zNf (kHw w1.heap.size (w.heap.size+1) w1.heap.size dm i m) (p.take k) d (w1.alloc (.cells #[.int .i64 i] 3)) (.agg #[.bool lf,.slice PA np pc,.slice TA nt tc,.slice KA nk kc]) n A1 k c1 Kf Kb hc1 Kc
    (by
     have hz:=hb1.size;have bX:Below w1.heap.size w1 (w1.alloc (.cells #[.int .i64 i] 3)):=Kl.alloc Km _;refine⟨⟨_,_,_,_,_,_,_,_,_,_,kI (kI hmb hb1) bX,?_⟩,by simp,heap_alloc_new _ _⟩;exact(((hm.below hb0).below (hb1.mono Kb)).more Kb).below bX)
    (by
     have hz:=hb1.size;have bX:Below w1.heap.size w1 (w1.alloc (.cells #[.int .i64 i] 3)):=Kl.alloc Km _;exact(((hn.below hb0).below (hb1.mono Kb)).more Kb).below bX)
    (hI.later (Kl.alloc Km _)) (zVg hI Km) (by rw[<-hup];exact eQ))
  rw[show(fun(_:NT)=>(none:Option NT))=fun _=>none from rfl]at dP;have px:=hd (show(p.take k).length=k by simp;omega);obtain⟨FR,eP⟩:∃FR,FR=zIf (zGn i m) n (p.take k):=⟨_,rfl⟩;simp only[zRx,<-eP]at dP;rw[<-eP]at HF;obtain⟨F1,F2⟩:=FR;clear hn hm hp hb0 bR hmb iN hnb aV eQ kw hup hlast hi hc0 eP;go_enter Tryz.func84,Tryz.ntmps84
  subst hwb;go_wp2_with(first
   |(go_at_call 129;refine kg.o.mono ?_;intro e w1 h1;obtain⟨v1,rfl,aN,hb1⟩:=h1;obtain⟨A1,c1,rfl,hc1,sK⟩:=aN.open_at k px.o;have f5:=hd (kI dR.o hb1);obtain⟨x0,x1,x2,x3,_,_,_,_⟩:=zJ (kI wX.o hb1);have hcc:=(hb1.cell (p:=⟨b,o+k,none⟩) (by rw[HS.o];show b<_;omega)).trans ((HB.o.cell (p:=⟨b,o+k,none⟩) hbl).trans uB.o);have py:=hd (dP.o w1 _ aN hb1 A1 c1 rfl hc1 sK);have bf:=hd hb1;have hz1:=hb1.size;rw[HS.o]at hz1;have bi:w.heap.size<w1.heap.size:=Kb;clear aN hb1 sK)
   |(go_at_call 130;refine py.o.mono ?_;intro e w2 h2;obtain⟨v2,d2,rfl,ht2,hb2⟩:=zP2.of_newO h2;obtain⟨lf4,aO,aZ,aK,aP,ba,aL,aX,bb,aY,rfl⟩:=(ht2.at_ (B:=w2.heap.size) (fun b hb=>hb.2)).val;have pE:=zEu hb2;have hz2:=hb2.size;have ja:(w1.alloc (.cells #[.int .i64 i] 3)).heap.size=w1.heap.size+1:=Kc;rw[ja]at hz2;have dU:=hd (kI f5.o pE);obtain⟨r0,r1,r2,r3,r4,r5,r6,r7⟩:=zJ dU.o;have iw:=hd ht2;have aT:=hd pE;have sL:=hd ja;clear ht2 hb2 pE ja h2))
  have h7:=kD (a:=.bool lf4) (b:=.slice aO aZ aK) (c:=.slice aP ba aL) (d:=.slice aX bb aY) dU.o;obtain⟨t0,t1,t2,t3,_,_,_,_⟩:=zJ h7;have hS:=HS.o;have hW:Below w.heap.size w w2:=(HB.o.trans (bf.o.mono Kb)).trans (aT.o.mono Kb);exact bodyPost_ret (v:=.tuple #[.agg #[.bool lf4,.slice aO aZ aK,.slice aP ba aL,.slice aX bb aY],.int .i64 F2]) (by simp[results,Tryz.results84,go_sem,t0,t1,t2,t3]) rfl (zJv HF.o (iw.o.block_keep (fun b h1 h2=>by rw[sL.o]at h1;rw[jK];omega) (fun b h1 h2=>zT (by rw[sL.o]at h1;omega))) (Below.set4 hW Kb))
