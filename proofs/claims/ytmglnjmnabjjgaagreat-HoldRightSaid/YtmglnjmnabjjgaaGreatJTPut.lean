import Derived.Test.YtmglnjmnabjjgaaGreatTChange
set_option maxRecDepth 100000
set_option maxHeartbeats 8000000
namespace Go.Proofs.YtmglnjmnabjjgaaGreat
open Go.RowKit
variable {b d d2 g:Nat}{w w':World}{Q:Nat->Prop}{p:List Int}
theorem zP2.of_newO {r:NT×Int}{e:Ending}(h:kEz g r none w e w'):zP2 r w e w':=by
 obtain⟨v,d,h1,h2,h3,h4⟩:=h;exact⟨v,d,h1,h2,h3.drop h4⟩
def zTo (b g d:Nat)(n:NT)(w:World):Prop:=∃lf PA np pc TA nt tc KA nk kc,w.heap[b]? =some (.cells #[.bool lf,.slice PA np pc,.slice TA nt tc,.slice KA nk kc] 26 (0,0))/\zV d w g (.agg #[.bool lf,.slice PA np pc,.slice TA nt tc,.slice KA nk kc]) n
theorem zTo.later {n:NT}(h:zTo b g d n w)(hg:g<=w.heap.size)(hb:Below w.heap.size w w'):zTo b g d n w':=by
 obtain⟨lf,PA,np,pc,TA,nt,tc,KA,nk,kc,h1,h2⟩:=h;exact⟨lf,PA,np,pc,TA,nt,tc,KA,nk,kc,kI h1 hb,h2.below (hb.mono hg)⟩
theorem zTp (mb g dm:Nat)(m:NT)(d:Nat)(w:World)(v:Value)(n:NT)(hn:zV d w g v n)(hg:g<w.heap.size)(hC:zTo mb g dm m w):
  Calls Tryz.prog 130 #[v,.pointer (some ⟨mb,0,none⟩)] w (kEz g (kHx m n) none w):=by
 obtain⟨lf,PA,np,pc,TA,nt,tc,KA,nk,kc,rfl⟩:=hn.val;obtain⟨lf1,cY,dC,cZ,dh,dD,di,dt,dE,kc1,eI,hm2⟩:=hC;obtain⟨wb,hwb⟩:∃wb,wb=(w.alloc (.cells #[.bool lf,.slice PA np pc,.slice TA nt tc,.slice KA nk kc] 26)).alloc (.cells #[.bool false,.slice none 0 0,.slice none 0 0,.slice none 0 0] 26):=⟨_,rfl⟩;have hb0:Below w.heap.size w wb:=hwb▸kM Kk Kl;have bn:wb.heap.size=w.heap.size+2:=by rw[hwb];simp
 have dG:wb.heap[w.heap.size+1]? =some (.cells #[.bool false,.slice none 0 0,.slice none 0 0,.slice none 0 0] 26 (0,0)):=hwb▸(zBj w _ _ _ _ _ _ _ _ _ _).2;obtain⟨y0,y1,y2,y3,_,_,_,_⟩:=zJ (kI eI hb0);have gb:=hd (zEy dm wb _ m ((hm2.below (hb0.mono Kb)).more Kb));have HB:=hd hb0;have HS:=hd bn;have dH:=hd dG;have hmb:=lt_of_block eI;clear hn eI hm2 hb0 bn dG;go_enter Tryz.func130,Tryz.ntmps130
 subst hwb;go_wp2_with(first|(go_at_call 41;refine gb.o.mono ?_;intro e w1 h1;obtain⟨v1,rfl,ht1,hb1⟩:=h1;obtain⟨lf4,aM,bf,aK,aN,bg,aL,aU,bh,aV,rfl⟩:=(ht1.at_ (B:=w1.heap.size) (fun b hb=>hb.2)).val;have bo:=hd (kI dH.o hb1);obtain⟨r0,r1,r2,r3,r4,r5,r6,r7⟩:=zJ bo.o;have oQ:=hd ht1;have aA:=hd hb1;have hz1:=hb1.size;rw[HS.o]at hz1;clear ht1 hb1))
 have h7:=kD (a:=.bool lf4) (b:=.slice aM bf aK) (c:=.slice aN bg aL) (d:=.slice aU bh aV) bo.o;obtain⟨t0,t1,t2,t3,_,_,_,_⟩:=zJ h7;have hS:=HS.o;have hW:Below w.heap.size w w1:=HB.o.trans (aA.o.mono Kb);refine bodyPost_ret (v:=.tuple #[.agg #[.bool lf4,.slice aM bf aK,.slice aN bg aL,.slice aU bh aV],.int .i64 0]) (by simp[results,Tryz.results130,go_sem,t0,t1,t2,t3]) rfl (zB0 (r:=kHx m n) rfl (oQ.o.block_keep (fun b h1 h2=>by rw[jK];omega) (fun b h1 h2=>zT Kb)) ((Off.of_below hW).set4 (.inl Kb)) ?_);exact(zT Kb).trans (hW.block g hg)
theorem kHv (mb g dm:Nat)(m:NT):kBk 130 (.pointer (some ⟨mb,0,none⟩)) g (kHx m) (fun _=>none) (fun w=>zTo mb g dm m w/\g<=w.heap.size) (fun _=>True):=
 ⟨enters_of Tryz.func130 Ka rfl,fun w w' h hb=>⟨h.1.later h.2 hb,Nat.le_trans h.2 hb.size⟩,fun d w v n hn hg hC _=>zTp mb g dm m d w v n hn hg hC.1⟩
theorem zRx {α β:Type}(o:Option α):o.bind (fun _=>(none:Option β))=none:=by cases o<;>rfl
theorem kDz (d dm:Nat)(w:World)(v u:Value)(n m:NT)(A:Option Addr)(p:List Int)(lp c:Nat)(aO:p.length=lp)(hl:lp<=1000000)(hc:lp<=c)(hn:zV d w w.heap.size v n)(hm:zV dm w w.heap.size u m)(hp:IL w w.heap.size A p):
  Calls Tryz.prog 104 #[v,.slice A lp c,u] w (zP2 (zSe n p m) w):=by
 obtain⟨lf,PA,np,pc,TA,nt,tc,KA,nk,kc,rfl⟩:=hn.val;obtain⟨lf1,cY,dC,cZ,dh,dD,di,dt,dE,kc1,rfl⟩:=hm.val;obtain⟨wb,hwb⟩:∃wb,wb=((w.alloc (.cells #[.bool lf,.slice PA np pc,.slice TA nt tc,.slice KA nk kc] 26)).alloc (.cells #[.bool lf1,.slice cY dC cZ,.slice dh dD di,.slice dt dE kc1] 26)).alloc (.cells #[.bool false,.slice none 0 0,.slice none 0 0,.slice none 0 0] 26):=⟨_,rfl⟩;have hb0:Below w.heap.size w wb:=hwb▸(kM Kk Kl).alloc Kf _;have bn:wb.heap.size=w.heap.size+3:=by rw[hwb];simp
 have hmb:wb.heap[w.heap.size+1]? =some (.cells #[.bool lf1,.slice cY dC cZ,.slice dh dD di,.slice dt dE kc1] 26 (0,0)):=by
  rw[hwb,Below.heap_alloc _ _ _ Kc];exact(zBj w _ _ _ _ _ _ _ _ _ _).2
 have fQ:wb.heap[w.heap.size+2]? =some (.cells #[.bool false,.slice none 0 0,.slice none 0 0,.slice none 0 0] 26 (0,0)):=by
  rw[hwb];have e:∀(A B:Obj),w.heap.size+2=((w.alloc A).alloc B).heap.size:=fun A B=>by simp
  rw[e];exact heap_alloc_new _ _
 have HC:=hd (zT2 (kHv (w.heap.size+1) w.heap.size dm m) p d wb _ n A lp c aO hl hc Kb ⟨⟨_,_,_,_,_,_,_,_,_,_,hmb,hm.below hb0⟩,by omega⟩ (hn.below hb0) ((hp.below hb0).more Kb) (zVg hp Kl) (fun _ _=>trivial));rw[zRx]at HC;have HB:=hd hb0;have HS:=hd bn;have fR:=hd fQ;obtain⟨FR,dI⟩:∃FR,FR=zIf (kHx m) n p:=⟨_,rfl⟩;rw[<-dI]at HC;have HF:=hd (show zSe n p m=FR from dI.symm);obtain⟨F1,F2⟩:=FR;clear hn hm hp hb0 bn hmb fQ dI aO;go_enter Tryz.func104,Tryz.ntmps104
 subst hwb;go_wp2_with(first|(go_at_call 106;refine HC.o.mono ?_;intro e w1 h1;obtain⟨v1,d1,rfl,ht1,hb1⟩:=zP2.of_newO h1;obtain⟨lf4,aM,bf,aK,aN,bg,aL,aU,bh,aV,rfl⟩:=(ht1.at_ (B:=w1.heap.size) (fun b hb=>hb.2)).val;have bo:=hd (kI fR.o hb1);obtain⟨r0,r1,r2,r3,r4,r5,r6,r7⟩:=zJ bo.o;have oQ:=hd ht1;have aA:=hd hb1;have hz1:=hb1.size;rw[HS.o]at hz1;clear ht1 hb1 h1))
 have h7:=kD (a:=.bool lf4) (b:=.slice aM bf aK) (c:=.slice aN bg aL) (d:=.slice aU bh aV) bo.o;obtain⟨t0,t1,t2,t3,_,_,_,_⟩:=zJ h7;have hS:=HS.o;have hW:Below w.heap.size w w1:=HB.o.trans (aA.o.mono Kb);refine bodyPost_ret (v:=.tuple #[.agg #[.bool lf4,.slice aM bf aK,.slice aN bg aL,.slice aU bh aV],.int .i64 F2]) (by simp[results,Tryz.results104,go_sem,t0,t1,t2,t3]) rfl (zJv HF.o (oQ.o.block_keep (fun b h1 h2=>by rw[jK];omega) (fun b h1 h2=>zT Kb)) (Below.set4 hW Kb))
def zW1 (b:Nat)(i:Int)(w:World):Prop:=w.heap[b]? =some (.cells #[.int .i64 i] 3 (0,0))
theorem zLk {i:Int}(h:zW1 b i w):w.cell? ⟨b,0,none⟩=some (.int .i64 i):=by simp[World.cell?,show w.heap[b]? =_ from h]
theorem zW2 {w3:World}{c0 c1 c2 c3:Value}{m:NT}(t:TypeId)(ht:zAx Q d w3 (.agg #[c0,c1,c2,c3]) m)(hQ:∀b,Q b->b<w3.heap.size):zGi Q d (w3.alloc (.cells #[c0,c1,c2,c3] t)) (some ⟨w3.heap.size,0,none⟩) [.agg #[c0,c1,c2,c3]] [m]:=by
 have hb:Below w3.heap.size w3 (w3.alloc (.cells #[c0,c1,c2,c3] t)):=Kk.alloc Kl _;refine⟨rfl,?_,fun q x hx=>?_⟩
 ·have:=zYo w3 t [c0,c1,c2,c3];rw[<-show(w3.alloc (.cells #[c0,c1,c2,c3] t)).heap.size=w3.heap.size+1 by simp]at this;simpa[Value.cells]using this
 ·cases q with
  |zero=>
   simp only[List.getElem?_cons_zero,Option.some.injEq]at hx;subst hx;exact⟨_,rfl,ht.keep (fun _ h=>h) (fun p hp=>⟨hb.cell (hQ _ hp),hb.frozen (hQ _ hp)⟩)⟩
  |succ q=>simp at hx
theorem zGi.deep {d':Nat}{OA:Option Addr}{us:List Value}{os:List NT}(h:zGi Q d w OA us os)(hd:d<=d'):zGi Q d' w OA us os:=
 ⟨h.len,h.cells,fun j m hm=>by
  obtain⟨u,h1,h2⟩:=h.trees j m hm;exact⟨u,h1,h2.deep hd⟩⟩
theorem kRv {P:Prop}(h:P:=by
 go_enter Tryz.func109,Tryz.ntmps109
 subst hwb;go_wp2
 exact bodyPost_ret (v:=.tuple #[.agg #[.bool false,.slice none 0 0,.slice none 0 0,.slice none 0 0],.int .i64 8]) (by simp[results,Tryz.results109,go_sem,r0,r1,r2,r3]) rfl (zB0 HF.o (zBs _ 0 _) (Off.of_below HB.o) (HB.o.block g hg))):P:=h
theorem zTq (ib mb g dm:Nat)(i:Int)(m:NT)(d:Nat)(w:World)(v:Value)(n:NT)(hn:zV d w g v n)(hg:g<w.heap.size)(hC:zTo mb g dm m w)(hI:zW1 ib i w)(bc:n.ks.length<1759218604441):
  Calls Tryz.prog 109 #[v,.pointer (some ⟨ib,0,none⟩),.pointer (some ⟨mb,0,none⟩)] w (kEz g (zGn i m n) none w):=by
 obtain⟨d',lf,ps,tx,ks,PA,pc,TA,tc,KA,kc,hd',hn',rfl,hps,htx,hf,hks⟩:=hn.open_;obtain⟨lf1,cY,dC,cZ,dh,dD,di,dt,dE,kc1,eI,hm2⟩:=hC;obtain⟨wb,hwb⟩:∃wb,wb=(w.alloc (.cells #[.bool lf,.slice PA ps.length pc,.slice TA tx.length tc,.slice KA ks.length kc] 26)).alloc (.cells #[.bool false,.slice none 0 0,.slice none 0 0,.slice none 0 0] 26):=⟨_,rfl⟩;have hb0:Below w.heap.size w wb:=hwb▸kM Kk Kl;have bn:wb.heap.size=w.heap.size+2:=by rw[hwb];simp
 have dG:wb.heap[w.heap.size]? =some (.cells #[.bool lf,.slice PA ps.length pc,.slice TA tx.length tc,.slice KA ks.length kc] 26 (0,0))/\wb.heap[w.heap.size+1]? =some (.cells #[.bool false,.slice none 0 0,.slice none 0 0,.slice none 0 0] 26 (0,0)):=hwb▸zBj w _ _ _ _ _ _ _ _ _ _;have hib:wb.cell? ⟨ib,0,none⟩=some (.int .i64 i):=zLk (kI hI hb0);have sB:=lt_of_block hI;have hmb:=lt_of_block eI;have oU:=kI eI hb0;obtain⟨y0,y1,y2,y3,_,_,_,_⟩:=zJ oU;obtain⟨x0,x1,x2,x3,_,_,_,_⟩:=zJ dG.1;obtain⟨r0,r1,r2,r3,r4,r5,r6,r7⟩:=zJ dG.2;have cj:=hf.2.2.2.1;have HB:=hd hb0;have HS:=hd bn;have dH:=hd dG;have HN:=hd hn;have HM:=hd hm2;have fk:=hd hn';have sD:=hd bc;clear hn eI hm2 oU hb0 bn dG hps htx hf hks hd' hn' hI bc;have hS:=HS.o;have lS:lf=true∨lf=false/\(i<0∨0<=i/\(ks.length:Int)<i∨0<=i/\i<=ks.length):=by
  cases lf
  ·exact .inr ⟨rfl,by omega⟩
  ·exact .inl rfl
 rcases lS with rfl|⟨rfl,h1|⟨h1,h2⟩|⟨h1,h2⟩⟩
 ·have HF:=hd (show zGn i m n=(zeroT,7) by unfold zGn;rw[fk.o];rfl);go_enter Tryz.func109,Tryz.ntmps109
  subst hwb;go_wp2
  exact bodyPost_ret (v:=.tuple #[.agg #[.bool false,.slice none 0 0,.slice none 0 0,.slice none 0 0],.int .i64 7]) (by simp[results,Tryz.results109,go_sem,r0,r1,r2,r3]) rfl (zB0 HF.o (zBs _ 0 _) (Off.of_below HB.o) (HB.o.block g hg))
 ·have HF:=hd (show zGn i m n=(zeroT,8) by unfold zGn;rw[fk.o];show(if(false=true)then _ else _)=_;rw[if_neg Kc,if_pos (.inl h1)]);exact kRv
 ·have HF:=hd (show zGn i m n=(zeroT,8) by unfold zGn;rw[fk.o];show(if(false=true)then _ else _)=_;rw[if_neg Kc,if_pos (.inr h2)]);have h3:decide (i<0)=false:=decide_eq_false Kb;exact kRv
 ·obtain⟨j,hj⟩:∃j:Nat,i=(j:Int):=⟨i.toNat,by omega⟩;subst hj;have nu:j<=ks.length:=Kb;have h3:decide ((j:Int)<0)=false:=decide_eq_false Kb;have h4:decide (ks.length<j)=false:=decide_eq_false Kb;have HF:=hd (show zGn (j:Int) m n=(jS n j 0 [m],0) by unfold zGn;rw[fk.o];show(if(false=true)then _ else _)=_;rw[if_neg Kc,if_neg (by show¬((j:Int)<0∨(ks.length:Int)<j);omega)];rfl);have gb:=fun(W:World)(hb:Below wb.heap.size wb W)=>hd (zEy dm W _ m (((HM.o.below (HB.o.mono Kb)).below (hb.mono Kb)).more (by have:=hb.size;omega)));have eG:=hd (show∀W,Below (w.heap.size+1) wb W->(Below (w.heap.size+1) wb W/\W.cell? ⟨w.heap.size,0,none⟩=some (.bool false)/\W.cell? ⟨w.heap.size,1,none⟩=some (.slice PA ps.length pc)/\W.cell? ⟨w.heap.size,2,none⟩=some (.slice TA tx.length tc)/\W.cell? ⟨w.heap.size,3,none⟩=some (.slice KA ks.length kc)/\W.cell? ⟨ib,0,none⟩=some (.int .i64 j)/\W.cell? ⟨mb,0,none⟩=some (.bool lf1)/\W.cell? ⟨mb,1,none⟩=some (.slice cY dC cZ)/\W.cell? ⟨mb,2,none⟩=some (.slice dh dD di)/\W.cell? ⟨mb,3,none⟩=some (.slice dt dE kc1))from fun W h=>
   ⟨h,(h.cell (p:=⟨w.heap.size,0,none⟩) (by show w.heap.size<_;omega)).trans x0,(h.cell (p:=⟨w.heap.size,1,none⟩) (by show w.heap.size<_;omega)).trans x1,(h.cell (p:=⟨w.heap.size,2,none⟩) (by show w.heap.size<_;omega)).trans x2,(h.cell (p:=⟨w.heap.size,3,none⟩) (by show w.heap.size<_;omega)).trans x3,(h.cell (p:=⟨ib,0,none⟩) (by show ib<_;omega)).trans hib,(h.cell (p:=⟨mb,0,none⟩) (by show mb<_;omega)).trans y0,(h.cell (p:=⟨mb,1,none⟩) (by show mb<_;omega)).trans y1,(h.cell (p:=⟨mb,2,none⟩) (by show mb<_;omega)).trans y2,(h.cell (p:=⟨mb,3,none⟩) (by show mb<_;omega)).trans y3⟩)
  have bV:=fun(dc:Nat)(Q:Nat->Prop)(W:World)(hb:Below wb.heap.size wb W)(hQ:∀b,Q b->b<W.heap.size)(OA:Option Addr)(us:List Value)(hO:zGi Q (max d dc) W OA us [m])=>hd (zIe Q (max d dc) W hQ _ n j 0 1 1 (j:Int) 0 rfl rfl OA us [m] ((((HN.o.below (HB.o.mono Kb)).below (hb.mono Kb)).more (by have:=hb.size;omega)).deep (Nat.le_max_left _ _)) hO rfl (by rw[fk.o];show j+0<=ks.length;omega) (by have:=sD.o;omega));go_enter Tryz.func109,Tryz.ntmps109
  subst hwb;have gG:=hd (eG.o (World.drew _) Kk.drew);obtain⟨lT,lU⟩:∃lT,lT=((w.alloc (.cells #[.bool false,.slice PA ps.length pc,.slice TA tx.length tc,.slice KA ks.length kc] 26)).alloc (.cells #[.bool false,.slice none 0 0,.slice none 0 0,.slice none 0 0] 26)):=⟨_,rfl⟩;have xO:lT.heap.size=w.heap.size+2:=by rw[lU];exact hS
  have dJ:=hd lU;clear lU;go_wp2_with fail
  go_region_held3(fun W=>Below (w.heap.size+1) ((w.alloc (.cells #[.bool false,.slice PA ps.length pc,.slice TA tx.length tc,.slice KA ks.length kc] 26)).alloc (.cells #[.bool false,.slice none 0 0,.slice none 0 0,.slice none 0 0] 26)) W/\W.cell? ⟨w.heap.size,0,none⟩=some (.bool false)/\W.cell? ⟨w.heap.size,1,none⟩=some (.slice PA ps.length pc)/\W.cell? ⟨w.heap.size,2,none⟩=some (.slice TA tx.length tc)/\W.cell? ⟨w.heap.size,3,none⟩=some (.slice KA ks.length kc)/\W.cell? ⟨ib,0,none⟩=some (.int .i64 j)/\W.cell? ⟨mb,0,none⟩=some (.bool lf1)/\W.cell? ⟨mb,1,none⟩=some (.slice cY dC cZ)/\W.cell? ⟨mb,2,none⟩=some (.slice dh dD di)/\W.cell? ⟨mb,3,none⟩=some (.slice dt dE kc1))
   (first
    |(with_reducible exact lV)
    |(with_reducible exact xP)
    |(with_reducible exact xQ)
    |(with_reducible exact xR)
    |(with_reducible exact gG.o))
   (first
    |(go_at_call 41;refine Calls.mono (gb _ ?hh).o ?_;(case hh=>exact Kk.drew);intro e w3 h3;obtain⟨v3,rfl,gS,hb3⟩:=h3;obtain⟨lf4,aM,bf,aK,aN,bg,aL,aU,bh,aV,rfl⟩:=(gS.at_ (B:=w3.heap.size) (fun b hb=>hb.2)).val;have hbc:Below lT.heap.size lT w3:=(by rw[dJ.o];exact Kk.drew.trans hb3);have hz3:=hbc.size;have xR:=eG.o w3 (dJ.o▸hbc.mono Kb);have hbr:=hbc.alloc hbc.size (.cells #[.bool lf4,.slice aM bf aK,.slice aN bg aL,.slice aU bh aV] 26);have xQ:=eG.o (w3.alloc (.cells #[.bool lf4,.slice aM bf aK,.slice aN bg aL,.slice aU bh aV] 26)) (dJ.o▸hbr.mono Kb);have sF:=bV dm _ _ (dJ.o▸hbr) (fun b hb=>by simp;exact Nat.lt_succ_of_lt hb.2) _ _ ((zW2 26 gS (fun b hb=>hb.2)).deep (Nat.le_max_right _ _));have cu:=hd hbr;clear gS hb3 hbc hbr)
    |(go_at_call 108;refine sF.o.mono ?_;intro e w9 h9;obtain⟨v9,rfl,gT,aZ⟩:=h9;obtain⟨lf9,iy,iz,i6,iA,iB,iC,iD,iE,iF,rfl⟩:=(gT.at_ (B:=w9.heap.size) (fun b hb=>hb.2)).val;have fS:Below lT.heap.size lT w9:=cu.o.trans (aZ.mono cu.o.size);have qa:=fS.size;have kw:=hd (show w9.heap[w.heap.size+1]? =some (.cells #[.bool false,.slice none 0 0,.slice none 0 0,.slice none 0 0] 26 (0,0))from(fS.block _ Kb).trans (dJ.o▸dH.o.2));obtain⟨q0,q1,q2,q3,q4,q5,q6,q7⟩:=zJ kw.o;have xP:=eG.o w9 (dJ.o▸fS.mono Kb);have lV:=eG.o _ (dJ.o▸Below.set4 (k:=w.heap.size+1) (a:=.bool lf9) (b:=.slice iy iz i6) (c:=.slice iA iB iC) (d:=.slice iD iE iF) (fS.mono (B':=w.heap.size+1) Kb) Kl);have nC:=hd gT;have aH:=hd fS;clear gT aZ fS))
  go_wp2
  have h7:=kD (a:=.bool lf9) (b:=.slice iy iz i6) (c:=.slice iA iB iC) (d:=.slice iD iE iF) kw.o;obtain⟨t0,t1,t2,t3,_,_,_,_⟩:=zJ h7;have hW:Below w.heap.size w w9:=HB.o.trans (dJ.o▸aH.o.mono Kb);refine bodyPost_ret (v:=.tuple #[.agg #[.bool lf9,.slice iy iz i6,.slice iA iB iC,.slice iD iE iF],.int .i64 0]) (by simp[results,Tryz.results109,go_sem,t0,t1,t2,t3]) rfl (zB0 HF.o (nC.o.keep (fun b hb=>?_) (fun p hp=>?_)) ((Off.of_below hW).set4 (.inl Kb)) ?_)
  ·rw[jK];refine⟨?_,hb.2⟩;rcases hb.1 with h|h
   ·have:=h.1;have e:=dJ.o▸xO;show w.heap.size<=b;simp at h;omega
   ·simp at h;omega
  ·have hne:p.block≠w.heap.size+1:=by
    rcases hp.1 with h|h
    ·simp at h;omega
    ·simp at h;omega
   exact⟨World.cell?_of_block (zT hne),World.frozen?_of_block (zT hne)⟩
  ·exact(zT Kb).trans (hW.block g hg)
theorem kHw (ib mb g dm:Nat)(i:Int)(m:NT):zT1 109 (.pointer (some ⟨ib,0,none⟩)) (.pointer (some ⟨mb,0,none⟩)) g (zGn i m) (fun _=>none) (fun w=>zTo mb g dm m w/\g<=w.heap.size/\zW1 ib i w) (fun n=>n.ks.length<1759218604441):=
 ⟨enters_of Tryz.func109 Ka rfl,fun w w' h hb=>⟨h.1.later h.2.1 hb,Nat.le_trans h.2.1 hb.size,kI h.2.2 hb⟩,fun d w v n hn hg hC hp=>zTq ib mb g dm i m d w v n hn hg hC.1 hC.2.2 hp⟩
theorem zOe (h:p.length=0):zGq p=([],6):=by unfold zGq;rw[if_pos h]
theorem zM3 {k:Nat}(h:p.length=k+1):zGq p=(p.take k,0)/\upP p=p.take k/\lastL p=iAt p k:=by
 refine⟨by unfold zGq;rw[if_neg Kb,h];rfl,by unfold upP;rw[h];rfl,by unfold lastL;rw[h];rfl⟩
theorem kD0 (d dm:Nat)(w:World)(v u:Value)(n m:NT)(A:Option Addr)(p:List Int)(lp c:Nat)(aO:p.length=lp)(hl:lp<=1000)(hc:lp<=c)(hn:zV d w w.heap.size v n)(hm:zV dm w w.heap.size u m)(hp:IL w w.heap.size A p)(bc:∀x,kB n (upP p)=some x->x.ks.length<1759218604441):
  Calls Tryz.prog 73 #[v,.slice A lp c,u] w (zP2 (zGo n p m) w):=by
 obtain⟨lf,PA,np,pc,TA,nt,tc,KA,nk,kc,rfl⟩:=hn.val;obtain⟨lf1,cY,dC,cZ,dh,dD,di,dt,dE,kc1,rfl⟩:=hm.val;obtain⟨wb,hwb⟩:∃wb,wb=((w.alloc (.cells #[.bool lf,.slice PA np pc,.slice TA nt tc,.slice KA nk kc] 26)).alloc (.cells #[.bool lf1,.slice cY dC cZ,.slice dh dD di,.slice dt dE kc1] 26)).alloc (.cells #[.bool false,.slice none 0 0,.slice none 0 0,.slice none 0 0] 26):=⟨_,rfl⟩;have hb0:Below w.heap.size w wb:=hwb▸(kM Kk Kl).alloc Kf _;have bn:wb.heap.size=w.heap.size+3:=by rw[hwb];simp
 have hnb:wb.heap[w.heap.size]? =some (.cells #[.bool lf,.slice PA np pc,.slice TA nt tc,.slice KA nk kc] 26 (0,0)):=by
  rw[hwb,Below.heap_alloc _ _ _ Kf];exact(zBj w _ _ _ _ _ _ _ _ _ _).1
 have hmb:wb.heap[w.heap.size+1]? =some (.cells #[.bool lf1,.slice cY dC cZ,.slice dh dD di,.slice dt dE kc1] 26 (0,0)):=by
  rw[hwb,Below.heap_alloc _ _ _ Kc];exact(zBj w _ _ _ _ _ _ _ _ _ _).2
 have fQ:wb.heap[w.heap.size+2]? =some (.cells #[.bool false,.slice none 0 0,.slice none 0 0,.slice none 0 0] 26 (0,0)):=by
  rw[hwb];have e:∀(A B:Obj),w.heap.size+2=((w.alloc A).alloc B).heap.size:=fun A B=>by simp
  rw[e];exact heap_alloc_new _ _
 have gF:=hd (zNx A p lp c wb aO hl hc ((hp.below hb0).more Kb));have HB:=hd hb0;have HS:=hd bn;have fR:=hd fQ;have sG:=hd hmb;have sH:=hd hnb;rcases lp with _|k
 ·have HF:=hd (show zGo n p m=(zeroT,6) by unfold zGo;rw[if_pos aO]);rw[zOe aO]at gF;clear hn hm hp hb0 bn hmb fQ hnb aO bc;go_enter Tryz.func73,Tryz.ntmps73
  subst hwb;go_wp2_with(first|(go_at_call 105;refine gF.o.mono ?_;intro e w1 h1;obtain⟨v1,rfl,aB,hb1⟩:=h1;have bo:=hd (kI fR.o hb1);obtain⟨r0,r1,r2,r3,r4,r5,r6,r7⟩:=zJ bo.o;have aA:=hd hb1;have hz1:=hb1.size;rw[HS.o]at hz1;clear aB hb1))
  have h7:=kD (a:=.bool false) (b:=.slice none 0 0) (c:=.slice none 0 0) (d:=.slice none 0 0) bo.o;obtain⟨t0,t1,t2,t3,_,_,_,_⟩:=zJ h7;have hS:=HS.o;have hW:Below w.heap.size w w1:=HB.o.trans (aA.o.mono Kb);exact bodyPost_ret (v:=.tuple #[.agg #[.bool false,.slice none 0 0,.slice none 0 0,.slice none 0 0],.int .i64 6]) (by simp[results,Tryz.results73,go_sem,t0,t1,t2,t3]) rfl (zJv HF.o (zBs _ 0 _) (Below.set4 hW Kb))
 ·obtain⟨gU,hup,hlast⟩:=zM3 aO;rw[gU]at gF;obtain⟨b,o,rfl,hbl,hc0⟩:=hp.at_ (k:=k) Kb;have qb:=hd hc0;have HF:=hd (show zGo n p m=zIf (zGn (iAt p k) m) n (p.take k) by unfold zGo;rw[if_neg Kb,hup,hlast]);obtain⟨i,hi⟩:∃i,i=iAt p k:=⟨_,rfl⟩;rw[<-hi]at hc0 HF;have qb:=hd hc0;have dw:=hd (fun(w1:World)(v1:Value)(aB:zBt w1 wb.heap.size v1 (p.take k))(hb1:Below wb.heap.size wb w1)(A1:Option Addr)(c1:Nat)(hv:v1=.slice A1 k c1)(hc1:k<=c1)(hI:IL w1 w1.heap.size A1 (p.take k))=>
   zNf (kHw w1.heap.size (w.heap.size+1) w1.heap.size dm i m) (p.take k) d (w1.alloc (.cells #[.int .i64 i] 3)) (.agg #[.bool lf,.slice PA np pc,.slice TA nt tc,.slice KA nk kc]) n A1 k c1 Kf Kb hc1 Kc
    (by
     have hz:=hb1.size;have bK:Below w1.heap.size w1 (w1.alloc (.cells #[.int .i64 i] 3)):=Kk.alloc Kl _;refine⟨⟨_,_,_,_,_,_,_,_,_,_,kI (kI hmb hb1) bK,?_⟩,by simp,heap_alloc_new _ _⟩;exact(((hm.below hb0).below (hb1.mono Kb)).more Kb).below bK)
    (by
     have hz:=hb1.size;have bK:Below w1.heap.size w1 (w1.alloc (.cells #[.int .i64 i] 3)):=Kk.alloc Kl _;exact(((hn.below hb0).below (hb1.mono Kb)).more Kb).below bK)
    (hI.later (Kk.alloc Kl _)) (zVg hI Kl) (by rw[<-hup];exact bc))
  rw[show(fun(_:NT)=>(none:Option NT))=fun _=>none from rfl]at dw;have lW:=hd (show(p.take k).length=k by simp;omega);obtain⟨FR,dI⟩:∃FR,FR=zIf (zGn i m) n (p.take k):=⟨_,rfl⟩;simp only[zRx,<-dI]at dw;rw[<-dI]at HF;obtain⟨F1,F2⟩:=FR;clear hn hm hp hb0 bn hmb fQ hnb aO bc gU hup hlast hi hc0 dI;go_enter Tryz.func73,Tryz.ntmps73
  subst hwb;go_wp2_with(first
   |(go_at_call 105;refine gF.o.mono ?_;intro e w1 h1;obtain⟨v1,rfl,aB,hb1⟩:=h1;obtain⟨A1,c1,rfl,hc1,oV⟩:=aB.open_at k lW.o;have bo:=hd (kI fR.o hb1);obtain⟨x0,x1,x2,x3,_,_,_,_⟩:=zJ (kI sH.o hb1);have hcc:=(hb1.cell (p:=⟨b,o+k,none⟩) (by rw[HS.o];show b<_;omega)).trans ((HB.o.cell (p:=⟨b,o+k,none⟩) hbl).trans qb.o);have lX:=hd (dw.o w1 _ aB hb1 A1 c1 rfl hc1 oV);have aA:=hd hb1;have hz1:=hb1.size;rw[HS.o]at hz1;have aY:w.heap.size<w1.heap.size:=Kb;clear aB hb1 oV)
   |(go_at_call 106;refine lX.o.mono ?_;intro e w2 h2;obtain⟨v2,d2,rfl,ht2,hb2⟩:=zP2.of_newO h2;obtain⟨lf4,aM,bf,aK,aN,bg,aL,aU,bh,aV,rfl⟩:=(ht2.at_ (B:=w2.heap.size) (fun b hb=>hb.2)).val;have lY:=zEu hb2;have hz2:=hb2.size;have gj:(w1.alloc (.cells #[.int .i64 i] 3)).heap.size=w1.heap.size+1:=Kc;rw[gj]at hz2;have bN:=hd (kI bo.o lY);obtain⟨r0,r1,r2,r3,r4,r5,r6,r7⟩:=zJ bN.o;have sI:=hd ht2;have aX:=hd lY;have oW:=hd gj;clear ht2 hb2 lY gj h2))
  have h7:=kD (a:=.bool lf4) (b:=.slice aM bf aK) (c:=.slice aN bg aL) (d:=.slice aU bh aV) bN.o;obtain⟨t0,t1,t2,t3,_,_,_,_⟩:=zJ h7;have hS:=HS.o;have hW:Below w.heap.size w w2:=(HB.o.trans (aA.o.mono Kb)).trans (aX.o.mono Kb);exact bodyPost_ret (v:=.tuple #[.agg #[.bool lf4,.slice aM bf aK,.slice aN bg aL,.slice aU bh aV],.int .i64 F2]) (by simp[results,Tryz.results73,go_sem,t0,t1,t2,t3]) rfl (zJv HF.o (sI.o.block_keep (fun b h1 h2=>by rw[oW.o]at h1;rw[jK];omega) (fun b h1 h2=>zT (by rw[oW.o]at h1;omega))) (Below.set4 hW Kb))
def kFn (g:Nat)(w:World):Prop:=∃u0 u1 u2 u3,w.heap[g]? =some (.cells #[u0,u1,u2,u3] 26 (0,0))
theorem zTn (ib g:Nat)(i:Int)(d:Nat)(w:World)(v:Value)(n:NT)(hn:zV d w g v n)(hg:g<w.heap.size)(hG:kFn g w)(hI:zW1 ib i w)(uN:ib≠g):
  Calls Tryz.prog 107 #[v,.pointer (some ⟨ib,0,none⟩),.pointer (some ⟨g,0,none⟩)] w (kEz g (zJy i n) (zBh n i) w):=by
 obtain⟨d',lf,ps,tx,ks,PA,pc,TA,tc,KA,kc,hd',hn',rfl,hps,htx,hf,hks⟩:=hn.open_;obtain⟨z0,z1,z2,z3,hG⟩:=hG;obtain⟨wb,hwb⟩:∃wb,wb=(w.alloc (.cells #[.bool lf,.slice PA ps.length pc,.slice TA tx.length tc,.slice KA ks.length kc] 26)).alloc (.cells #[.bool false,.slice none 0 0,.slice none 0 0,.slice none 0 0] 26):=⟨_,rfl⟩;have hb0:Below w.heap.size w wb:=hwb▸kM Kk Kl;have bn:wb.heap.size=w.heap.size+2:=by rw[hwb];simp
 have dG:wb.heap[w.heap.size]? =some (.cells #[.bool lf,.slice PA ps.length pc,.slice TA tx.length tc,.slice KA ks.length kc] 26 (0,0))/\wb.heap[w.heap.size+1]? =some (.cells #[.bool false,.slice none 0 0,.slice none 0 0,.slice none 0 0] 26 (0,0)):=hwb▸zBj w _ _ _ _ _ _ _ _ _ _;have hib:wb.cell? ⟨ib,0,none⟩=some (.int .i64 i):=zLk (kI hI hb0);have sB:=lt_of_block hI;obtain⟨x0,x1,x2,x3,_,_,_,_⟩:=zJ dG.1;have cj:=hf.2.2.2.1;have HB:=hd hb0;have HS:=hd bn;have dH:=hd dG;have HN:=hd hn;have fk:=hd hn';have xS:=hd (show zW1 ib i wb from kI hI hb0);have gV:=hd (kI hG hb0);have bJ:=hd hks;obtain⟨hb,lZ⟩:∃hb,zOf n i=hb:=⟨_,rfl⟩;have HK:=hd (zD6 n i hb lZ d wb _ ((hn.below (hb0.mono Kb)).more Kb));have ma:=hd lZ;clear hn hb0 bn dG hps htx hf hks hd' hn' hI hG lZ;have hS:=HS.o;cases hb
 ·have HF:=hd (show zJy i n=(zeroT,5) by unfold zJy;rw[ma.o];rfl);have HE:=hd (zJx ma.o);go_enter Tryz.func107,Tryz.ntmps107
  subst hwb;go_wp2_with(first|(go_at_call 40;refine HK.o.mono ?_;rintro e w2 ⟨rfl,b2⟩;have hz2:=b2.size;have aX:=hd b2;have bN:=hd (kI dH.o.2 b2);obtain⟨r0,r1,r2,r3,r4,r5,r6,r7⟩:=zJ bN.o;clear b2))
  have h7:=kD (a:=.bool false) (b:=.slice none 0 0) (c:=.slice none 0 0) (d:=.slice none 0 0) bN.o;obtain⟨t0,t1,t2,t3,_,_,_,_⟩:=zJ h7;rw[hS]at hz2;have hW:Below w.heap.size w w2:=HB.o.trans (aX.o.mono Kb);refine bodyPost_ret (v:=.tuple #[.agg #[.bool false,.slice none 0 0,.slice none 0 0,.slice none 0 0],.int .i64 5]) (by simp[results,Tryz.results107,go_sem,t0,t1,t2,t3]) rfl (zB0 HF.o (zBs _ 0 _) ((Off.of_below hW).set4 (.inl Kb)) ?_);rw[HE.o];exact(zT Kb).trans (hW.block g hg)
 ·obtain⟨kid,fu⟩:=zJw ma.o;obtain⟨hk1,hk2,hk3⟩:=zA1 fu;have HF:=hd (show zJy i n=(jS n i.toNat 1 [],0) by unfold zJy;rw[ma.o];rfl);have HE:=hd fu;obtain⟨j,hj⟩:∃j:Nat,i=(j:Int):=⟨i.toNat,by omega⟩;subst hj;have lM:j<ks.length:=by have:=hk2;rw[fk.o]at this;simp only[NT.ks]at this;omega
  obtain⟨m2,b',o',lf2,eJ,eK,eN,eP,eQ,eT,eU,eV,kc2,hm2,rfl,oD,dW,c0,c1,c2,c3⟩:=(bJ.o.below (HB.o.mono Kb)).at_ lM;have hmk:m2=kid:=by have:=hk3;rw[fk.o]at this;simp only[NT.ks,Int.toNat_natCast]at this;rw[hm2]at this;injection this
  subst hmk;have nz:=hd dW;clear fu hk1 hk2 hk3 hm2 dW;go_enter Tryz.func107,Tryz.ntmps107
  subst hwb;go_wp2_with(first
   |(go_at_call 40;refine HK.o.mono ?_;rintro e w2 ⟨rfl,b2⟩;have hz2:=b2.size;rw[hS]at hz2;have aX:=hd b2;have bN:=hd (kI dH.o.2 b2);have HG2:=hd (kI gV.o b2);have bC:=hd (kI xS.o b2);have ah:=hd (kI dH.o.1 b2);clear x0 x1 x2 x3;obtain⟨x0,x1,x2,x3,_,_,_,_⟩:=zJ ah.o;clear hib;have hib:=zLk bC.o;have e0:=(b2.cell (kQ c0)).trans c0;have e1:=(b2.cell (kQ c1)).trans c1;have e2:=(b2.cell (kQ c2)).trans c2;have e3:=(b2.cell (kQ c3)).trans c3;clear c0 c1 c2 c3;have iL:=nz.o.below (b2.mono Kb);have sJ:=hd (show zV d' w2 w2.heap.size _ m2 from iL.more Kb);clear b2 iL)
   |(go_at_call 41;refine Calls.mono (zEy d' w2 _ m2 sJ.o) ?_;intro e w3 h3;obtain⟨v3,rfl,gS,hb3⟩:=h3;obtain⟨lf4,aM,bf,aK,aN,bg,aL,aU,bh,aV,rfl⟩:=(gS.at_ (B:=w3.heap.size) (fun b hb=>hb.2)).val;have eD:=hd hb3;have qc:=hd gS;have hz3:=hb3.size;have xU:=hd (kI bN.o hb3);have uO:=hd (kI HG2.o hb3);have nU:=hd (kI bC.o hb3);have iw:=hd (kI ah.o hb3);obtain⟨g0,g1,g2,g3,g4,g5,g6,g7⟩:=zJ uO.o;clear x0 x1 x2 x3 hib e0 e1 e2 e3;obtain⟨x0,x1,x2,x3,_,_,_,_⟩:=zJ iw.o;have hib:=zLk nU.o;have uP:=(HN.o.below (HB.o.mono Kb)).below ((aX.o.mono Kb).trans (eD.o.mono Kb));have kx:((((w3.setCell ⟨g,0,none⟩ (.bool lf4)).setCell ⟨g,1,none⟩ (.slice aM bf aK)).setCell ⟨g,2,none⟩ (.slice aN bg aL)).setCell ⟨g,3,none⟩ (.slice aU bh aV)).heap.size=w3.heap.size:=jK;have nV:zV d ((((w3.setCell ⟨g,0,none⟩ (.bool lf4)).setCell ⟨g,1,none⟩ (.slice aM bf aK)).setCell ⟨g,2,none⟩ (.slice aN bg aL)).setCell ⟨g,3,none⟩ (.slice aU bh aV)) ((((w3.setCell ⟨g,0,none⟩ (.bool lf4)).setCell ⟨g,1,none⟩ (.slice aM bf aK)).setCell ⟨g,2,none⟩ (.slice aN bg aL)).setCell ⟨g,3,none⟩ (.slice aU bh aV)).heap.size _ n:=(uP.below (Below.set4 Kk (Nat.le_refl g))).more (by rw[kx];omega);have bV:=hd (zIe (fun _=>False) d _ (fun _ h=>h.elim) _ n j 1 0 0 (j:Int) 1 rfl rfl none [] [] nV (zGi.nil _ _ _ _) rfl (by rw[fk.o];exact lM) (by have:=cj;rw[fk.o];show ks.length+0<=_;omega));have sK:=hd kx;clear gS hb3 uP nV kx)
   |(go_at_call 108;refine bV.o.mono ?_;intro e w9 h9;obtain⟨v9,rfl,gT,aZ⟩:=h9;obtain⟨lf9,iy,iz,i6,iA,iB,iC,iD,iE,iF,rfl⟩:=(gT.at_ (B:=w9.heap.size) (fun b hb=>hb.2)).val;have qa:=aZ.size;rw[sK.o]at qa;have kw:=hd (show w9.heap[w.heap.size+1]? =some (.cells #[.bool false,.slice none 0 0,.slice none 0 0,.slice none 0 0] 26 (0,0))from(aZ.block _ (by rw[sK.o];omega)).trans ((zT Kb).trans xU.o));obtain⟨q0,q1,q2,q3,q4,q5,q6,q7⟩:=zJ kw.o;have nC:=hd gT;have aH:=hd aZ;clear gT aZ))
  have h7:=kD (a:=.bool lf9) (b:=.slice iy iz i6) (c:=.slice iA iB iC) (d:=.slice iD iE iF) kw.o;obtain⟨t0,t1,t2,t3,_,_,_,_⟩:=zJ h7;have kx:=sK.o;have hW3:Below w.heap.size w w3:=HB.o.trans ((aX.o.mono Kb).trans (eD.o.mono Kb));have hO:Off g w w9:=((Off.of_below hW3).set4 (.inr rfl)).trans (Off.of_below aH.o);refine bodyPost_ret (v:=.tuple #[.agg #[.bool lf9,.slice iy iz i6,.slice iA iB iC,.slice iD iE iF],.int .i64 0]) (by simp[results,Tryz.results107,go_sem,t0,t1,t2,t3]) rfl (zB0 HF.o (nC.o.keep (fun b hb=>?_) (fun p hp=>?_)) (hO.set4 (.inl Kb)) ?_)
  ·rw[jK];rcases hb.1 with h|h
   ·exact h.elim
   ·rw[kx]at h;exact⟨by omega,hb.2⟩
  ·have hne:p.block≠w.heap.size+1:=by
    rcases hp.1 with h|h
    ·exact h.elim
    ·rw[kx]at h;omega
   exact⟨World.cell?_of_block (zT hne),World.frozen?_of_block (zT hne)⟩
  ·rw[HE.o];refine⟨.bool lf4,.slice aM bf aK,.slice aN bg aL,.slice aU bh aV,d',?_,qc.o.block_keep (fun b h1 h2=>by rw[jK];omega) (fun b h1 h2=>(zT Kb).trans ((aH.o.block b (by rw[kx];omega)).trans (zT Kb)))⟩;exact(zT Kb).trans ((aH.o.block g (by rw[kx];omega)).trans (kD uO.o))
theorem kHr (ib g:Nat)(i:Int)(uN:ib≠g):zT1 107 (.pointer (some ⟨ib,0,none⟩)) (.pointer (some ⟨g,0,none⟩)) g (zJy i) (fun n=>zBh n i) (fun w=>kFn g w/\zW1 ib i w) (fun _=>True):=
 ⟨enters_of Tryz.func107 Ka rfl,fun w w' h hb=>⟨(by obtain⟨u0,u1,u2,u3,e⟩:=h.1;exact⟨u0,u1,u2,u3,kI e hb⟩),kI h.2 hb⟩,fun d w v n hn hg hC _=>zTn ib g i d w v n hn hg hC.1 hC.2 uN⟩
def kFo (r1 r2:NT)(er:Int)(w:World)(e:Ending)(w':World):Prop:=
 ∃v1 v2 d,e=.returned (.tuple #[v1,v2,.int .i64 er])/\zAx (fun b=>w.heap.size<=b/\b<w'.heap.size) d w' v1 r1/\zAx (fun b=>w.heap.size<=b/\b<w'.heap.size) d w' v2 r2/\Below w.heap.size w w'
theorem zU7 {r1 r2:NT}{er:Int}{v1 v2:Value}{d1:Nat}(h1:zAx (fun b=>w.heap.size<=b/\b<w'.heap.size) d1 w' v1 r1)(h2:zAx (fun b=>w.heap.size<=b/\b<w'.heap.size) d2 w' v2 r2)(hb:Below w.heap.size w w'):kFo r1 r2 er w (.returned (.tuple #[v1,v2,.int .i64 er])) w':=
 ⟨v1,v2,max d1 d2,rfl,h1.deep (Nat.le_max_left _ _),h2.deep (Nat.le_max_right _ _),hb⟩
theorem zAx.drew' {P:Nat->Prop}{v:Value}{n:NT}(h:zAx P d w v n):zAx P d w.drew v n:=zAx.keep (w:=w) (w':=w.drew) (fun _ h=>h) (fun _ _=>⟨rfl,rfl⟩) h
theorem kHs {w2 W7:World}{lo g1 g2:Nat}{F1 M:NT}{F2:Int}{d5:Nat}{v4 v5 a b c d a' b' c' d':Value}(h1:w.heap.size<=g1)(h2:w.heap.size<=g2)(aY:g1<lo)(hl2:g2<lo)(hs:W7.heap.size=w2.heap.size)(hk:∀q,lo<=q->q<w2.heap.size->W7.heap[q]? =w2.heap[q]?)
  (xV:zAx (fun b=>lo<=b/\b<w2.heap.size) d2 w2 v4 F1) (xW:zAx (fun b=>lo<=b/\b<w2.heap.size) d5 w2 v5 M) (hW:Below w.heap.size w W7):
  kFo F1 M F2 w (.returned (.tuple #[v4,v5,.int .i64 F2])) (((((((((W7.setCell ⟨g1,0,none⟩ a).setCell ⟨g1,1,none⟩ b).setCell ⟨g1,2,none⟩ c).setCell ⟨g1,3,none⟩ d).setCell ⟨g2,0,none⟩ a').setCell ⟨g2,1,none⟩ b').setCell ⟨g2,2,none⟩ c').setCell ⟨g2,3,none⟩ d').drew):=by
 obtain⟨W8,jg⟩:∃W8,W8=((((W7.setCell ⟨g1,0,none⟩ a).setCell ⟨g1,1,none⟩ b).setCell ⟨g1,2,none⟩ c).setCell ⟨g1,3,none⟩ d):=⟨_,rfl⟩;obtain⟨W9,aj⟩:∃W9,W9=((((W8.setCell ⟨g2,0,none⟩ a').setCell ⟨g2,1,none⟩ b').setCell ⟨g2,2,none⟩ c').setCell ⟨g2,3,none⟩ d'):=⟨_,rfl⟩;rw[<-jg,<-aj];have s8:W8.heap.size=w2.heap.size:=by rw[jg,jK,hs]
 have s9:W9.heap.size=w2.heap.size:=by rw[aj,jK,s8]
 have k9:∀q,lo<=q->q<w2.heap.size->W9.heap[q]? =w2.heap[q]? :=fun q q1 q2=>by
  rw[aj,zT Kb,jg,zT Kb];exact hk q q1 q2
 have b8:Below w.heap.size w W8:=jg▸Below.set4 hW h1;have b9:Below w.heap.size w W9:=aj▸Below.set4 b8 h2;have t:∀{dd:Nat}{v:Value}{n:NT},zAx (fun b=>lo<=b/\b<w2.heap.size) dd w2 v n->zAx (fun b=>w.heap.size<=b/\b<W9.drew.heap.size) dd W9.drew v n:=fun{dd v n} h=>
  (h.block_keep (w':=W9) (Q:=fun b=>w.heap.size<=b/\b<W9.drew.heap.size) (fun b q1 q2=>⟨by omega,by show b<W9.heap.size;omega⟩) k9).drew'
 exact zU7 (t xV) (t xW) b9.drew
theorem kDw {s:Option NT}(h:zJ6 g s w w')(hz:w.heap[g]? =some (.cells #[.bool false,.slice none 0 0,.slice none 0 0,.slice none 0 0] 26 (0,0))):
  ∃lf PA np pc TA nt tc KA nk kc d,w'.heap[g]? =some (.cells #[.bool lf,.slice PA np pc,.slice TA nt tc,.slice KA nk kc] 26 (0,0))/\zAx (fun b=>w.heap.size<=b/\b<w'.heap.size) d w' (.agg #[.bool lf,.slice PA np pc,.slice TA nt tc,.slice KA nk kc]) (s.getD zeroT):=by
 cases s with
 |none=>exact⟨_,_,_,_,_,_,_,_,_,_,1,Eq.trans h hz,zBs _ 0 _⟩
 |some t=>
  obtain⟨u0,u1,u2,u3,d,h1,h2⟩:=h;obtain⟨lf,PA,np,pc,TA,nt,tc,KA,nk,kc,e⟩:=(h2.at_ (B:=w'.heap.size) (fun b hb=>hb.2)).val;simp only[Value.agg.injEq,Array.mk.injEq,List.cons.injEq,and_true]at e;obtain⟨rfl,rfl,rfl,rfl⟩:=e;exact⟨_,_,_,_,_,_,_,_,_,_,d,h1,h2⟩
theorem kDx (d:Nat)(w:World)(v:Value)(n:NT)(A:Option Addr)(p:List Int)(lp c:Nat)(aO:p.length=lp)(hl:lp<=1000)(hc:lp<=c)(hn:zV d w w.heap.size v n)(hp:IL w w.heap.size A p):
  Calls Tryz.prog 72 #[v,.slice A lp c] w (kFo (zBw n p).1 (zE3 n p) (zBw n p).2 w):=by
 obtain⟨lf,PA,np,pc,TA,nt,tc,KA,nk,kc,rfl⟩:=hn.val;obtain⟨wb,hwb⟩:∃wb,wb=((w.alloc (.cells #[.bool lf,.slice PA np pc,.slice TA nt tc,.slice KA nk kc] 26)).alloc (.cells #[.bool false,.slice none 0 0,.slice none 0 0,.slice none 0 0] 26)).alloc (.cells #[.bool false,.slice none 0 0,.slice none 0 0,.slice none 0 0] 26):=⟨_,rfl⟩;have hb0:Below w.heap.size w wb:=hwb▸(kM Kk Kl).alloc Kf _;have bn:wb.heap.size=w.heap.size+3:=by rw[hwb];simp
 have hnb:wb.heap[w.heap.size]? =some (.cells #[.bool lf,.slice PA np pc,.slice TA nt tc,.slice KA nk kc] 26 (0,0)):=by
  rw[hwb,Below.heap_alloc _ _ _ Kf];exact(zBj w _ _ _ _ _ _ _ _ _ _).1
 have hmb:wb.heap[w.heap.size+1]? =some (.cells #[.bool false,.slice none 0 0,.slice none 0 0,.slice none 0 0] 26 (0,0)):=by
  rw[hwb,Below.heap_alloc _ _ _ Kc];exact(zBj w _ _ _ _ _ _ _ _ _ _).2
 have fQ:wb.heap[w.heap.size+2]? =some (.cells #[.bool false,.slice none 0 0,.slice none 0 0,.slice none 0 0] 26 (0,0)):=by
  rw[hwb];have e:∀(A B:Obj),w.heap.size+2=((w.alloc A).alloc B).heap.size:=fun A B=>by simp
  rw[e];exact heap_alloc_new _ _
 have gF:=hd (zNx A p lp c wb aO hl hc ((hp.below hb0).more Kb));have HB:=hd hb0;have HS:=hd bn;have fR:=hd fQ;have sG:=hd hmb;have sH:=hd hnb;rcases lp with _|k
 ·have HF:=hd (show(zBw n p).1=zeroT/\zE3 n p=zeroT/\(zBw n p).2=6 by unfold zBw zE3;rw[if_pos aO,if_pos aO];exact⟨rfl,rfl,rfl⟩);rw[zOe aO]at gF;clear hn hp hb0 bn hmb fQ hnb aO;go_enter Tryz.func72,Tryz.ntmps72
  subst hwb;go_wp2_with(first|(go_at_call 105;refine gF.o.mono ?_;intro e w1 h1;obtain⟨v1,rfl,aB,hb1⟩:=h1;have bo:=hd (kI fR.o hb1);have gI:=hd (kI sG.o hb1);obtain⟨r0,r1,r2,r3,r4,r5,r6,r7⟩:=zJ bo.o;obtain⟨m0,m1,m2,m3,m4,m5,m6,m7⟩:=zJ gI.o;have aA:=hd hb1;have hz1:=hb1.size;rw[HS.o]at hz1;clear aB hb1))
  have h7:=kD (a:=.bool false) (b:=.slice none 0 0) (c:=.slice none 0 0) (d:=.slice none 0 0) gI.o;have h8:=(zT (w:=w1) (g:=w.heap.size+1) (k:=w.heap.size+2) (a:=.bool false) (b:=.slice none 0 0) (c:=.slice none 0 0) (d:=.slice none 0 0) Kb).trans bo.o;have h9:=kD (a:=.bool false) (b:=.slice none 0 0) (c:=.slice none 0 0) (d:=.slice none 0 0) h8;have h10:=(zT (g:=w.heap.size+2) (k:=w.heap.size+1) (a:=.bool false) (b:=.slice none 0 0) (c:=.slice none 0 0) (d:=.slice none 0 0) Kb).trans h7;obtain⟨t0,t1,t2,t3,_,_,_,_⟩:=zJ h9;obtain⟨s0,s1,s2,s3,_,_,_,_⟩:=zJ h10;have hS:=HS.o;have hW:Below w.heap.size w w1:=HB.o.trans (aA.o.mono Kb);rw[HF.o.1,HF.o.2.1,HF.o.2.2];exact bodyPost_ret (v:=.tuple #[.agg #[.bool false,.slice none 0 0,.slice none 0 0,.slice none 0 0],.agg #[.bool false,.slice none 0 0,.slice none 0 0,.slice none 0 0],.int .i64 6]) (by simp[results,Tryz.results72,go_sem,t0,t1,t2,t3,s0,s1,s2,s3]) rfl (zU7 (zBs _ 0 _) (zBs _ 0 _) (Below.set4 (Below.set4 hW Kb) Kb))
 ·obtain⟨gU,hup,hlast⟩:=zM3 aO;rw[gU]at gF;obtain⟨b,o,rfl,hbl,hc0⟩:=hp.at_ (k:=k) Kb;obtain⟨i,hi⟩:∃i,i=iAt p k:=⟨_,rfl⟩;rw[<-hi]at hc0;have HF:=hd (show zBw n p=zIf (zJy i) n (p.take k) by unfold zBw;rw[if_neg Kb,hup,hlast,hi]);have HM:=hd (show((kB n (p.take k)).bind fun a=>zBh a i)=kB n p by rw[zHv (p:=p) Kb,hup,hlast,hi]);have fL:=hd (show zE3 n p=(kB n p).getD zeroT by
   unfold zE3;rw[if_neg Kb];unfold zGm;cases kB n p<;>rfl)
  have qb:=hd hc0;have dw:=hd (fun(w1:World)(v1:Value)(aB:zBt w1 wb.heap.size v1 (p.take k))(hb1:Below wb.heap.size wb w1)(A1:Option Addr)(c1:Nat)(hv:v1=.slice A1 k c1)(hc1:k<=c1)(hI:IL w1 w1.heap.size A1 (p.take k))=>
   zNf (kHr w1.heap.size (w.heap.size+2) i (by have:=hb1.size;omega)) (p.take k) d (w1.alloc (.cells #[.int .i64 i] 3)) (.agg #[.bool lf,.slice PA np pc,.slice TA nt tc,.slice KA nk kc]) n A1 k c1 Kf Kb hc1 (by have:=hb1.size;simp;omega)
    (by
     have hz:=hb1.size;have bK:Below w1.heap.size w1 (w1.alloc (.cells #[.int .i64 i] 3)):=Kk.alloc Kl _;exact⟨⟨_,_,_,_,kI (kI fQ hb1) bK⟩,heap_alloc_new _ _⟩)
    (by
     have hz:=hb1.size;have bK:Below w1.heap.size w1 (w1.alloc (.cells #[.int .i64 i] 3)):=Kk.alloc Kl _;exact(((hn.below hb0).below (hb1.mono Kb)).more (show w.heap.size<=w.heap.size+2 by omega)).below (bK.mono Kb))
    (hI.later (Kk.alloc Kl _)) (fun _ a ha=>by
     subst hv ha;have:=(aB.lt (j:=a.block) rfl).1;omega) (fun _ _=>trivial))
  have lW:=hd (show(p.take k).length=k by simp;omega);obtain⟨FR,dI⟩:∃FR,FR=zIf (zJy i) n (p.take k):=⟨_,rfl⟩;simp only[<-dI]at dw;rw[<-dI]at HF;obtain⟨F1,F2⟩:=FR;clear hn hp hb0 bn hmb fQ hnb aO gU hup hlast hi hc0 dI;go_enter Tryz.func72,Tryz.ntmps72
  subst hwb;go_wp2_with(first
   |(go_at_call 105;refine gF.o.mono ?_;intro e w1 h1;obtain⟨v1,rfl,aB,hb1⟩:=h1;obtain⟨A1,c1,rfl,hc1,oV⟩:=aB.open_at k lW.o;have bo:=hd (kI fR.o hb1);have gI:=hd (kI sG.o hb1);obtain⟨x0,x1,x2,x3,_,_,_,_⟩:=zJ (kI sH.o hb1);have hcc:=(hb1.cell (p:=⟨b,o+k,none⟩) (by rw[HS.o];show b<_;omega)).trans ((HB.o.cell (p:=⟨b,o+k,none⟩) hbl).trans qb.o);have lX:=hd (dw.o w1 _ aB hb1 A1 c1 rfl hc1 oV);have aA:=hd hb1;have hz1:=hb1.size;rw[HS.o]at hz1;have aY:w.heap.size<w1.heap.size:=Kb;clear aB hb1 oV)
   |(go_at_call 106;refine lX.o.mono ?_;intro e w2 h2;obtain⟨v2,d2,rfl,ht2,ay,hl2⟩:=h2;obtain⟨lf4,aM,bf,aK,aN,bg,aL,aU,bh,aV,rfl⟩:=(ht2.at_ (B:=w2.heap.size) (fun b hb=>hb.2)).val;have gj:(w1.alloc (.cells #[.int .i64 i] 3)).heap.size=w1.heap.size+1:=Kc;have hz2:=ay.size;rw[gj]at hz2;have bK:Below w1.heap.size w1 (w1.alloc (.cells #[.int .i64 i] 3)):=Kk.alloc Kl _;have lF:=hd ((ay.block _ (by rw[gj];omega) Kb).trans (kI gI.o bK));obtain⟨m0,m1,m2,m3,m4,m5,m6,m7⟩:=zJ lF.o;have nD:=hd (kDw hl2 (kI bo.o bK));obtain⟨lf5,jh,ji,jk,jl,jm,jn,jo,jp,jq,d5,mf,iG⟩:=nD.o;obtain⟨r0,r1,r2,r3,r4,r5,r6,r7⟩:=zJ mf;have xX:=hd mf;have mg:=hd iG;have sI:=hd ht2;have iN:=hd ((Off.of_below (g:=w.heap.size+2) bK).trans ay);have oW:=hd gj;have xY:w.heap.size+2<w2.heap.size:=Kb;clear mf iG ht2 ay hl2 bK gj nD))
  have h7:=kD (a:=.bool lf4) (b:=.slice aM bf aK) (c:=.slice aN bg aL) (d:=.slice aU bh aV) lF.o;have h8:=(zT (w:=w2) (g:=w.heap.size+1) (k:=w.heap.size+2) (a:=.bool lf4) (b:=.slice aM bf aK) (c:=.slice aN bg aL) (d:=.slice aU bh aV) Kb).trans xX.o;have hS:=HS.o;have gj:=oW.o;have uQ:=(((Off.of_below (g:=w.heap.size+2) HB.o).trans (Off.of_below aA.o)).trans iN.o).set4 (k:=w.heap.size+1) (a:=.bool lf4) (b:=.slice aM bf aK) (c:=.slice aN bg aL) (d:=.slice aU bh aV) (.inl Kb);have uR:∀q,w1.heap.size+1<=q->q<w2.heap.size->((((w2.setCell ⟨w.heap.size+1,0,none⟩ (.bool lf4)).setCell ⟨w.heap.size+1,1,none⟩ (.slice aM bf aK)).setCell ⟨w.heap.size+1,2,none⟩ (.slice aN bg aL)).setCell ⟨w.heap.size+1,3,none⟩ (.slice aU bh aV)).heap[q]? =w2.heap[q]? :=fun q h1 _=>zT Kb;have qd:((((w2.setCell ⟨w.heap.size+1,0,none⟩ (.bool lf4)).setCell ⟨w.heap.size+1,1,none⟩ (.slice aM bf aK)).setCell ⟨w.heap.size+1,2,none⟩ (.slice aN bg aL)).setCell ⟨w.heap.size+1,3,none⟩ (.slice aU bh aV)).heap.size=w2.heap.size:=jK;clear m0 m1 m2 m3 m4 m5 m6 m7 r0 r1 r2 r3 r4 r5 r6 r7;generalize xZ:((((w2.setCell ⟨w.heap.size+1,0,none⟩ (.bool lf4)).setCell ⟨w.heap.size+1,1,none⟩ (.slice aM bf aK)).setCell ⟨w.heap.size+1,2,none⟩ (.slice aN bg aL)).setCell ⟨w.heap.size+1,3,none⟩ (.slice aU bh aV))=W7 at*
  clear xZ;have H7:=hd h7;have H8:=hd h8;have oX:=hd uQ;have ya:=hd uR;have yb:=hd qd;obtain⟨m0,m1,m2,m3,m4,m5,m6,m7⟩:=zJ h7;obtain⟨r0,r1,r2,r3,r4,r5,r6,r7⟩:=zJ h8;clear h7 h8 uQ uR qd gj;go_region
  go_wp2
  have h9:=kD (a:=.bool lf4) (b:=.slice aM bf aK) (c:=.slice aN bg aL) (d:=.slice aU bh aV) H7.o;have h10:=(zT (w:=W7) (g:=w.heap.size+1) (k:=w.heap.size+2) (a:=.bool lf4) (b:=.slice aM bf aK) (c:=.slice aN bg aL) (d:=.slice aU bh aV) Kb).trans H8.o;have h11:=kD (a:=.bool lf5) (b:=.slice jh ji jk) (c:=.slice jl jm jn) (d:=.slice jo jp jq) h10;have h12:=(zT (g:=w.heap.size+2) (k:=w.heap.size+1) (a:=.bool lf5) (b:=.slice jh ji jk) (c:=.slice jl jm jn) (d:=.slice jo jp jq) Kb).trans h9;obtain⟨t0,t1,t2,t3,_,_,_,_⟩:=zJ h11;obtain⟨s0,s1,s2,s3,_,_,_,_⟩:=zJ h12;have gj:=oW.o;have qd:=yb.o;rw[fL.o,<-HM.o,HF.o];have hW:Below w.heap.size w W7:=oX.o.below Kb Kl;exact bodyPost_ret (v:=.tuple #[.agg #[.bool lf4,.slice aM bf aK,.slice aN bg aL,.slice aU bh aV],.agg #[.bool lf5,.slice jh ji jk,.slice jl jm jn,.slice jo jp jq],.int .i64 F2]) (by simp[results,Tryz.results72,go_sem,t0,t1,t2,t3,s0,s1,s2,s3]) rfl
   (kHs (lo:=(w1.alloc (.cells #[.int .i64 i] 3)).heap.size) (g1:=w.heap.size+1) (g2:=w.heap.size+1+1) Kb Kb Kb Kb qd (fun q h1 h2=>ya.o q (by rw[<-gj];exact h1) h2) sI.o mg.o hW)
