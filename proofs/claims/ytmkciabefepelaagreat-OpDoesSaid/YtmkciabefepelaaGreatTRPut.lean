import Derived.Test.YtmkciabefepelaaGreatJTLive
set_option maxRecDepth 100000
namespace Go.Proofs.YtmkciabefepelaaGreat
open Go.RowKit
variable {c0 c1 c2 c3:Value}
theorem Below.row4 {B gk q:Nat}{w0 w:World}(h:Below B w0 w)(hg:B<=gk):Below B w0 ((((w.setCell ⟨gk,q,none⟩ c0).setCell ⟨gk,q+1,none⟩ c1).setCell ⟨gk,q+2,none⟩ c2).setCell ⟨gk,q+3,none⟩ c3):=
 (((h.setCell (by show B<=gk;exact hg) _).setCell (by show B<=gk;exact hg) _).setCell (by show B<=gk;exact hg) _).setCell (by show B<=gk;exact hg) _
theorem kUg {w:World}{gk q:Nat}:((((w.setCell ⟨gk,q,none⟩ c0).setCell ⟨gk,q+1,none⟩ c1).setCell ⟨gk,q+2,none⟩ c2).setCell ⟨gk,q+3,none⟩ c3).heap.size=w.heap.size:=by simp
theorem kSk {P:Prop}(h:P:=by
 have HF:=hd (show zSe n (i::r) m=(zeroT,5)from(zJ7 (f:=kHx m) (r:=r) (zJx (n:=n) (i:=i) (Bool.eq_false_iff.2 fun hb=>by have:=zEx.1 hb;omega))).1);have nI:=hd (Below.refl wb.heap.size wb);clear hn hm hps htx hf hks hd' hb0 aO hnb hmb fK hp ay hD oo hn' ih hc0 fG;go_enter Tryz.func99,Tryz.ntmps99
 subst hwb;go_wp2_with fail
 go_quiet(fail)
 go_wp2
 have h7:=kD (a:=.bool false) (b:=.slice none 0 0) (c:=.slice none 0 0) (d:=.slice none 0 0) (kI gA.o (zZ nI.o nq));obtain⟨t0,t1,t2,t3,-⟩:=zJ h7;exact bodyPost_ret (v:=.tuple #[.agg #[.bool false,.slice none 0 0,.slice none 0 0,.slice none 0 0],.int .i64 5]) (by simp[results,Tryz.results99,go_sem,t0,t1,t2,t3]) rfl (zJv HF.o (zBs _ 0 _) (Below.set4 (zZ HB.o nq) Kb))):P:=h
set_option maxHeartbeats 8000000 in
theorem kQz :
  ∀(p:List Int)(d dm:Nat)(w:World)(v u:Value)(n m:NT)(A:Option Addr)(lp c:Nat),p.length=lp->lp<=1000000->lp<=c->zV d w w.heap.size v n->zV dm w w.heap.size u m->IL w w.heap.size A p->
   Calls Tryz.prog 99 #[v,.slice A lp c,u] w (zP2 (zSe n p m) w):=by
 intro p;induction p with
 |nil=>
  intro d dm w v u n m A lp c ay hl hc hn hm hp;obtain rfl:lp=0:=ay.symm;obtain⟨lf,PA,np,pc,TA,nt,tc,KA,nk,kc,rfl⟩:=hn.val;obtain⟨lf1,bJ,bS,bK,bL,bT,bM,bN,bU,bO,rfl⟩:=hm.val;obtain⟨wb,hwb⟩:∃wb,wb=((w.alloc (.cells #[.bool lf,.slice PA np pc,.slice TA nt tc,.slice KA nk kc] 26)).alloc (.cells #[.bool lf1,.slice bJ bS bK,.slice bL bT bM,.slice bN bU bO] 26)).alloc (.cells #[.bool false,.slice none 0 0,.slice none 0 0,.slice none 0 0] 26):=⟨_,rfl⟩;have hb0:Below w.heap.size w wb:=hwb▸(kM Kk Kl).alloc Kf _;have aO:wb.heap.size=w.heap.size+3:=by rw[hwb];simp
  have hmb:wb.heap[w.heap.size+1]? =some (.cells #[.bool lf1,.slice bJ bS bK,.slice bL bT bM,.slice bN bU bO] 26 (0,0)):=by
   rw[hwb,Below.heap_alloc _ _ _ Kc];exact(zBj w _ _ _ _ _ _ _ _ _ _).2
  have fK:wb.heap[w.heap.size+2]? =some (.cells #[.bool false,.slice none 0 0,.slice none 0 0,.slice none 0 0] 26 (0,0)):=by
   rw[hwb];have e:∀(A B:Obj),w.heap.size+2=((w.alloc A).alloc B).heap.size:=fun A B=>by simp
   rw[e];exact heap_alloc_new _ _
  have HC:=hd (kOn dm wb _ m (hm.later hb0));have HB:=hd hb0;have HS:=hd aO;have gA:=hd fK;obtain⟨y0,y1,y2,y3,-⟩:=zJ hmb;clear hn hm hp hb0 aO hmb fK ay;go_enter Tryz.func99,Tryz.ntmps99
  subst hwb;go_wp2_with(first|(go_at_call 12;refine HC.o.mono ?_;intro e w1 h1;obtain⟨v1,rfl,ht1,hb1⟩:=h1.copied;obtain⟨lf4,aU,bg,aS,aV,bh,aT,aZ,bi,bb,rfl⟩:=(ht1.at_ (B:=w1.heap.size) (fun b hb=>hb.2)).val;have eW:=hd (kI gA.o hb1);obtain⟨r0,r1,r2,r3,r4,r5,r6,r7⟩:=zJ eW.o;have mD:=hd ht1;have aD:=hd hb1;have hz1:=hb1.size;rw[HS.o]at hz1;clear ht1 hb1 h1))
  have h7:=kD (a:=.bool lf4) (b:=.slice aU bg aS) (c:=.slice aV bh aT) (d:=.slice aZ bi bb) eW.o;obtain⟨t0,t1,t2,t3,-⟩:=zJ h7;have hS:=HS.o;have hW:Below w.heap.size w w1:=HB.o.trans (aD.o.mono Kb);exact bodyPost_ret (v:=.tuple #[.agg #[.bool lf4,.slice aU bg aS,.slice aV bh aT,.slice aZ bi bb],.int .i64 0]) (by simp[results,Tryz.results99,go_sem,t0,t1,t2,t3]) rfl (zJv (r:=zSe n [] m) rfl (mD.o.block_keep (fun b h1 h2=>by rw[jK];omega) (fun b h1 h2=>zT Kb)) (Below.set4 hW Kb))
 | cons i r ih=>
  intro d dm w v u n m A lp c ay hl hc hn hm hp;obtain⟨k,rfl⟩:∃k,lp=k+1:=⟨r.length,by rw[<-ay];simp⟩;have oo:r.length=k:=by simpa using ay
  obtain⟨d',lf,ps,tx,ks,PA,pc,TA,tc,KA,kc,hd',hn',rfl,hps,htx,hf,hks⟩:=hn.open_;obtain⟨lf1,bJ,bS,bK,bL,bT,bM,bN,bU,bO,rfl⟩:=hm.val;obtain⟨wb,hwb⟩:∃wb,wb=((w.alloc (.cells #[.bool lf,.slice PA ps.length pc,.slice TA tx.length tc,.slice KA ks.length kc] 26)).alloc (.cells #[.bool lf1,.slice bJ bS bK,.slice bL bT bM,.slice bN bU bO] 26)).alloc (.cells #[.bool false,.slice none 0 0,.slice none 0 0,.slice none 0 0] 26):=⟨_,rfl⟩;have hb0:Below w.heap.size w wb:=hwb▸(kM Kk Kl).alloc Kf _;have aO:wb.heap.size=w.heap.size+3:=by rw[hwb];simp
  have hnb:wb.heap[w.heap.size]? =some (.cells #[.bool lf,.slice PA ps.length pc,.slice TA tx.length tc,.slice KA ks.length kc] 26 (0,0)):=by
   rw[hwb,Below.heap_alloc _ _ _ Kf];exact(zBj w _ _ _ _ _ _ _ _ _ _).1
  have hmb:wb.heap[w.heap.size+1]? =some (.cells #[.bool lf1,.slice bJ bS bK,.slice bL bT bM,.slice bN bU bO] 26 (0,0)):=by
   rw[hwb,Below.heap_alloc _ _ _ Kc];exact(zBj w _ _ _ _ _ _ _ _ _ _).2
  have fK:wb.heap[w.heap.size+2]? =some (.cells #[.bool false,.slice none 0 0,.slice none 0 0,.slice none 0 0] 26 (0,0)):=by
   rw[hwb];have e:∀(A B:Obj),w.heap.size+2=((w.alloc A).alloc B).heap.size:=fun A B=>by simp
   rw[e];exact heap_alloc_new _ _
  have hz:((k:Int)+1==0)=false:=by simp;omega
  obtain⟨b,o,rfl,hbl,hc0⟩:=hp.at_ (k:=0) Kc;have e0:iAt (i::r) 0=i:=rfl;rw[e0,Nat.add_zero]at hc0;obtain⟨D,hD,_,hrun⟩:=zSd (some ⟨b,o,none⟩) k c hc;have HD:=hd (hD w _ i r hp oo);have cC:=hf.2.2.2.1;have hpc:=(hb0.cell (p:=⟨b,o,none⟩) hbl).trans hc0;have HN:=hd hn;have HM:=hd hm;have cv:=hd hks;have HB:=hd hb0;have HS:=hd aO;have qC:=hd hnb;have qB:=hd hmb;have gA:=hd fK;have ww:=hd oo;have ir:=hd hn';have wy:=hd ih;obtain⟨x0,x1,x2,x3,-⟩:=zJ hnb;obtain⟨y0,y1,y2,y3,-⟩:=zJ hmb;obtain⟨r0,r1,r2,r3,r4,r5,r6,r7⟩:=zJ fK;have fG:n.ks.length=ks.length:=by rw[hn'];rfl
  have iI:i<0∨0<=i/\(ks.length:Int)<=i∨0<=i/\i<ks.length:=Kb;have hS:=aO;rcases iI with h1|⟨h1,h2⟩|⟨h1,h2⟩
  case inl=>
   exact kSk
  case inr.inl=>
   exact kSk
  case inr.inr=>
   have hb1:zOf n i=true:=zEx.2 ⟨h1,by rw[fG];exact h2⟩;obtain⟨kid,fu⟩:=zJw hb1;obtain⟨hk1,hk2,hk3⟩:=zA1 fu;have HF:=hd (show zSe n (i::r) m=_ from(zJ8 (f:=kHx m) (r:=r) fu).1);obtain⟨j,hj⟩:∃j:Nat,i=(j:Int):=⟨i.toNat,by omega⟩;subst hj;have mO:j<ks.length:=Kb;have yD:=hd (show j<n.ks.length by omega);have rh:=hd fG;have wz:=hd (show ks[j]? =some kid by have:=hk3;rw[hn']at this;simpa[NT.ks]using this);have nI:=hd (Below.refl wb.heap.size wb);have wG:=hd hpc;clear hn hm hps htx hf hks hd' hb0 aO hnb hmb fK hp ay hD oo hn' ih hc0 fG fu hk1 hk2 hk3 hb1;go_enter Tryz.func99,Tryz.ntmps99
   subst hwb;go_wp2_with fail
   go_quiet(fail)
   generalize hw2:World.drewN _ nq=w2
   have pR:=zZ HB.o nq;have ik:=zZ nI.o nq;rw[hw2]at pR ik;have bq:=hd pR;have mi:=hd ik.size;have hz2:=ik.size;rw[hS]at hz2;have tA:=hd (kI qC.o ik);have wH:=hd (kI qB.o ik);have wI:=hd (kI gA.o ik);have pS:=(ik.cell (kQ wG.o)).trans wG.o;clear hw2 pR ik qC qB gA HB x0 x1 x2 x3 y0 y1 y2 y3 r0 r1 r2 r3 r4 r5 r6 r7 hpc wG nI HS hS;obtain⟨m2,b',o',lf2,bV,cE,bW,bX,cF,bY,bP,dE,bF,hm2,rfl,pk,fh,c0,c1,c2,c3⟩:=(cv.o.below bq.o).at_ mO;have hmk:m2=kid:=by have:=wz.o;rw[hm2]at this;injection this
   subst hmk;have nY:=hd fh;obtain⟨x0,x1,x2,x3,-⟩:=zJ tA.o;obtain⟨y0,y1,y2,y3,-⟩:=zJ wH.o;clear hm2 fh;have dG:=fun(w':World)(hb:Below w2.heap.size w2 w')=>hd (Calls.mono (wy.o d' dm w' _ _ m2 m D k (c-1) ww.o Kb Kb ((nY.o.below (hb.mono Kb)).more (by have:=hb.size;omega)) (HM.o.later (bq.o.trans (hb.mono Kb))) ((HD.o.below (bq.o.trans (hb.mono Kb))).more (by have:=hb.size;omega))) (fun e w3 h=>zP2.newO h (g:=w.heap.size+2) (by have:=hb.size;omega)));obtain⟨FR,fk⟩:∃FR,FR=zSe m2 r m:=⟨_,rfl⟩;have nU:=hd fk;rw[<-fk]at dG;clear fk;have dS:=hd (show∀W,Off (w.heap.size+2) w2 W->(Off (w.heap.size+2) w2 W/\W.cell? ⟨w.heap.size,3,none⟩=some (.slice (some ⟨b',o',none⟩) ks.length kc)/\W.cell? ⟨b,o,none⟩=some (.int .i64 j)/\W.cell? ⟨b',o'+j*4,none⟩=some (.bool lf2)/\W.cell? ⟨b',o'+j*4+1,none⟩=some (.slice bV cE bW)/\W.cell? ⟨b',o'+j*4+2,none⟩=some (.slice bX cF bY)/\W.cell? ⟨b',o'+j*4+3,none⟩=some (.slice bP dE bF)/\W.cell? ⟨w.heap.size+1,0,none⟩=some (.bool lf1)/\W.cell? ⟨w.heap.size+1,1,none⟩=some (.slice bJ bS bK)/\W.cell? ⟨w.heap.size+1,2,none⟩=some (.slice bL bT bM)/\W.cell? ⟨w.heap.size+1,3,none⟩=some (.slice bN bU bO))from fun W h=>
    ⟨h,(h.cell (p:=⟨w.heap.size,3,none⟩) (by show w.heap.size<_;omega) (by show w.heap.size≠w.heap.size+2;omega)).trans x3,(h.cell (p:=⟨b,o,none⟩) (by show b<_;omega) (by show b≠w.heap.size+2;omega)).trans pS,(h.cell (kQ c0) (by show b'≠w.heap.size+2;omega)).trans c0,(h.cell (kQ c1) (by show b'≠w.heap.size+2;omega)).trans c1,(h.cell (kQ c2) (by show b'≠w.heap.size+2;omega)).trans c2,(h.cell (kQ c3) (by show b'≠w.heap.size+2;omega)).trans c3,
     (h.cell (kQ y0) (by show w.heap.size+1≠w.heap.size+2;omega)).trans y0,(h.cell (kQ y1) (by show w.heap.size+1≠w.heap.size+2;omega)).trans y1,(h.cell (kQ y2) (by show w.heap.size+1≠w.heap.size+2;omega)).trans y2,(h.cell (kQ y3) (by show w.heap.size+1≠w.heap.size+2;omega)).trans y3⟩)
   go_upto_region 5 with fail
   go_cut [8,9] (fun s8 s9 wx=>kE0 (w.heap.size+2) w2 FR none s8 s9 wx)
   case first=>
    go_region_held3(fun W=>Off (w.heap.size+2) w2 W/\W.cell? ⟨w.heap.size,3,none⟩=some (.slice (some ⟨b',o',none⟩) ks.length kc)/\W.cell? ⟨b,o,none⟩=some (.int .i64 j)/\W.cell? ⟨b',o'+j*4,none⟩=some (.bool lf2)/\W.cell? ⟨b',o'+j*4+1,none⟩=some (.slice bV cE bW)/\W.cell? ⟨b',o'+j*4+2,none⟩=some (.slice bX cF bY)/\W.cell? ⟨b',o'+j*4+3,none⟩=some (.slice bP dE bF)/\W.cell? ⟨w.heap.size+1,0,none⟩=some (.bool lf1)/\W.cell? ⟨w.heap.size+1,1,none⟩=some (.slice bJ bS bK)/\W.cell? ⟨w.heap.size+1,2,none⟩=some (.slice bL bT bM)/\W.cell? ⟨w.heap.size+1,3,none⟩=some (.slice bN bU bO))
     (first
      |assumption
      |exact dS.o _ (Off.refl _ _).drew
      |(go_split_ands;exact dS.o _ (Off.alloc (by assumption) _))
      |(go_split_ands;exact dS.o _ (Off.set4 (by assumption) (.inl (by first|exact Nat.le_refl _|omega)))))
     (first
      |(go_at_call 99;refine Calls.mono (dG _ ?hh).o ?_;(case hh=>first|exact Kk.drew|exact(Kk.drew.alloc Kl _));intro e w3 h3;obtain⟨v3,d3,rfl,gL,d7,i7⟩:=h3;obtain⟨lf4,aU,bg,aS,aV,bh,aT,aZ,bi,bb,rfl⟩:=(gL.at_ (B:=w3.heap.size) (fun b hb=>hb.2)).val;have jg:=dS.o w3 (Off.trans (by go_split_ands;assumption) d7);have ng:=hd gL;have oq:=hd d7;have tj:=hd i7;(first|(have fg:=hd ((d7.block w2.heap.size (by show w2.heap.size<(World.heap _).size;simp) Kb).trans (heap_alloc_new (World.drew w2) _));obtain⟨q0,q1,q2,q3,q4,q5,q6,q7⟩:=zJ fg.o)|skip);have hz3:=d7.size;clear gL d7 i7))
    ·go_wp2_with fail
     go_meet
     exact kBi Kk.drew Kb ng.o oq.o tj.o
    ·go_wp2_with fail
     go_meet
     exact kBj (Kk.drew.alloc Kl _) Kb Kl Kc fg.o ng.o oq.o tj.o
   case rest=>
    obtain⟨g8,lf8,fL,fM,fN,fO,nt8,fP,fQ,fR,fS,d8,rfl,rfl,gW,eU,iu,cB,tq⟩:=hcut;obtain⟨F1,F2⟩:=FR;have fA:=cB.drop tq;have vQ:=fA.size;have og:=hd iu;have ja:=hd eU;have cH:=hd (kI tA.o fA);have nG:=hd (kI wI.o fA);have tu:=(fA.cell (p:=⟨b,o,none⟩) (by show b<_;omega)).trans pS;have cS:=hd (show Below w.heap.size w wc from bq.o.trans (fA.mono Kb));have wA:=lt_of_block eU;clear x0 x1 x2 x3 y0 y1 y2 y3 c0 c1 c2 c3 pS eU iu cB tq fA dS dG hrun;obtain⟨x0,x1,x2,x3,-⟩:=zJ cH.o;obtain⟨r0,r1,r2,r3,r4,r5,r6,r7⟩:=zJ nG.o;obtain⟨k0,k1,k2,k3,-⟩:=zJ ja.o;rcases Classical.em (F2=0)with h0|h0
    ·subst h0;have HE:=hd (show zSe n ((j:Int)::r) m=(setK n j F1,0) by rw[HF.o,show zIf (kHx m) m2 r=(F1,0)from nU.o.symm];rfl);have HC:=hd (kOn d wc _ n (HN.o.later cS.o));go_wp2_with(first|(go_at_call 12;refine HC.o.mono ?_;intro e w9 h9;obtain⟨v9,rfl,gM,br⟩:=h9;obtain⟨gk,iJ,iK,iL,iM,iN,z0,z1,z2,z3,e9,iC,a0,a1,a2,a3,hfz⟩:=gM.row yD.o;rw[rh.o]at e9;subst e9;have mZ:=hd gM;have bj:=hd br;have qA:=br.size;have yE:=hd (kI ja.o br);have mf:=hd (kI nG.o br);have wJ:=(br.cell (kQ tu)).trans tu;obtain⟨q0,q1,q2,q3,-⟩:=zJ yE.o;have C6:=hd iC;have ue:=hd hfz;clear gM br iC hfz))
     generalize nJ:World.alloc w9 _=w10
     have fT:Below w9.heap.size w9 w10:=nJ▸Kk.alloc Kl _;have pT:w10.heap[w9.heap.size]? =some (.cells #[.bool n.lf,.slice iJ n.ps.length iK,.slice iL n.tx.length iM,.slice (some ⟨gk,0,none⟩) ks.length iN] 26 (0,0)):=nJ▸heap_alloc_new w9 _;have C7:w10.heap.size=w9.heap.size+1:=by rw[<-nJ];simp
     have iC:=C6.o;have hgl:gk<w9.heap.size:=iC.2;have tB:=kI yE.o fT;have js:=kI mf.o fT;have wK:=(fT.cell (kQ wJ)).trans wJ;have wL:=hd pT;have wM:=hd js;have lI:=hd (show Below w.heap.size w w10 from cS.o.trans ((bj.o.mono Kb).trans (fT.mono Kb)));have C8:gk≠w.heap.size+2:=Kb;have gM:kMo (fun b=>w2.heap.size<=b/\b<w9.heap.size) d w10.drew (.agg #[.bool n.lf,.slice iJ n.ps.length iK,.slice iL n.tx.length iM,.slice (some ⟨gk,0,none⟩) ks.length iN]) n:=mZ.o.keep (fun b hb=>⟨by omega,hb.2⟩) (fun p hp=>⟨fT.drew.cell hp.2,fT.drew.frozen hp.2⟩);have iu:zAx (fun b=>w2.heap.size<=b/\b<w9.heap.size/\b≠gk) d8 w10.drew (.agg #[.bool lf8,.slice fL fM fN,.slice fO nt8 fP,.slice fQ fR fS]) F1:=og.o.keep (fun b hb=>⟨hb.1,by omega,by omega⟩) (fun p hp=>⟨(fT.drew.cell (show p.block<w9.heap.size by omega)).trans (bj.o.cell hp.2.1),(fT.drew.frozen (show p.block<w9.heap.size by omega)).trans (bj.o.frozen hp.2.1)⟩);obtain⟨D,yF⟩:=kWg gM yD.o iu;clear gM iu;have C9:=hd yF;clear yF q0 q1 q2 q3 wJ x0 x1 x2 x3 r0 r1 r2 r3 r4 r5 r6 r7 k0 k1 k2 k3 tu nJ mZ og;obtain⟨x0,x1,x2,x3,-⟩:=zJ pT;obtain⟨k0,k1,k2,k3,-⟩:=zJ tB;clear pT tB js;go_still_tail 7,Ka
     show wpList _ _ _ _ _ w10.drew
     have ey:=fT.drew;have htd:=C9.o;generalize hwd:w10.drew=wd at ey htd
     have aN:Below w10.heap.size w10 wd:=hwd▸Kk.drew;have De:wd.heap.size=w10.heap.size:=by rw[<-hwd];rfl
     have yG:=(kP5 (w:=wd) (gk:=gk) (q:=j*4) (b:=w9.heap.size) (c0:=.bool lf8) (c1:=.slice fL fM fN) (c2:=.slice fO nt8 fP) (c3:=.slice fQ fR fS) Kb).trans (kI wL.o aN);have wN:=(kP5 (w:=wd) (gk:=gk) (q:=j*4) (b:=w.heap.size+2) (c0:=.bool lf8) (c1:=.slice fL fM fN) (c2:=.slice fO nt8 fP) (c3:=.slice fQ fR fS) Kb).trans (kI wM.o aN);have yH:Below w.heap.size w _:=Below.row4 (gk:=gk) (q:=j*4) (c0:=.bool lf8) (c1:=.slice fL fM fN) (c2:=.slice fO nt8 fP) (c3:=.slice fQ fR fS) (lI.o.trans (aN.mono Kb)) Kb;clear x0 x1 x2 x3 k0 k1 k2 k3 wK;have b0:=(ey.cell (p:=⟨gk,j*4,none⟩) hgl).trans a0;have b1:=(ey.cell (p:=⟨gk,j*4+1,none⟩) hgl).trans a1;have b2:=(ey.cell (p:=⟨gk,j*4+2,none⟩) hgl).trans a2;have b3:=(ey.cell (p:=⟨gk,j*4+3,none⟩) hgl).trans a3;have f0:=(ey.frozen (p:=⟨gk,j*4,none⟩) hgl).trans (ue.o 0 Kb);have f1:=(ey.frozen (p:=⟨gk,j*4+1,none⟩) hgl).trans (ue.o 1 Kb);have f2:=(ey.frozen (p:=⟨gk,j*4+2,none⟩) hgl).trans (ue.o 2 Kb);have f3:=(ey.frozen (p:=⟨gk,j*4+3,none⟩) hgl).trans (ue.o 3 Kb);clear a0 a1 a2 a3;obtain⟨x0,x1,x2,x3,-⟩:=zJ yG;obtain⟨r0,r1,r2,r3,r4,r5,r6,r7⟩:=zJ wN;have CB:=hd wN;have bE:=hd yH;have mB:=hd htd;clear hwd yG wN yH htd aN ey fT;go_wp2
     have h7:=kD (a:=.bool n.lf) (b:=.slice iJ n.ps.length iK) (c:=.slice iL n.tx.length iM) (d:=.slice (some ⟨gk,0,none⟩) ks.length iN) CB.o;obtain⟨t0,t1,t2,t3,-⟩:=zJ h7;exact bodyPost_ret (v:=.tuple #[.agg #[.bool n.lf,.slice iJ n.ps.length iK,.slice iL n.tx.length iM,.slice (some ⟨gk,0,none⟩) ks.length iN],.int .i64 0]) (by simp[results,Tryz.results99,go_sem,t0,t1,t2,t3]) rfl (zJv HE.o (mB.o.block_keep (fun b h1 h2=>by rw[jK,kUg];omega) (fun b h1 h2=>zT Kb)) (Below.set4 bE.o Kb))
    ·have g1:(F2==0)=false:=by simp[h0]
     have g2:(F2 !=0)=true:=by simp[h0]
     have HE:=hd (show zSe n ((j:Int)::r) m=(zeroT,F2) by rw[HF.o,show zIf (kHx m) m2 r=(F1,F2)from nU.o.symm];simp[h0]);clear h0;go_wp2
     have h7:=kD (a:=.bool false) (b:=.slice none 0 0) (c:=.slice none 0 0) (d:=.slice none 0 0) nG.o;obtain⟨t0,t1,t2,t3,-⟩:=zJ h7;exact bodyPost_ret (v:=.tuple #[.agg #[.bool false,.slice none 0 0,.slice none 0 0,.slice none 0 0],.int .i64 F2]) (by simp[results,Tryz.results99,go_sem,t0,t1,t2,t3]) rfl (zJv HE.o (zBs _ 0 _) (Below.set4 cS.o Kb))
