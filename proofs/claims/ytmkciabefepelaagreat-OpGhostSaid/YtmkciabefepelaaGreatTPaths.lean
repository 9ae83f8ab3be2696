import Derived.Test.YtmkciabefepelaaGreatJTRow
set_option maxRecDepth 100000
set_option maxHeartbeats 8000000
namespace Go.Proofs.YtmkciabefepelaaGreat
open Go.RowKit
open Go.WideShapes (add_plain)
variable {B go gq gw:Nat}{fid:FuncId}{lv:Bool}{L:List (List Int)}
theorem kQp {P:Prop}(h:P:=by
 rw[nJ]at iz;have kf:Below B w w7:=nJ▸(((gN.o.alloc Kb _).grown tK.o Kf (fun j hj=>(HST.o.own.lt hj).1)).setCell bx.h _);have sM:w7.heap[wr.heap.size]? =some (.cells #[.bool lf1,.slice cD cI cE,.slice cF cJ cG,.slice bY cK bZ] 26 (0,0)):=by
  rw[<-nJ,Below.heap_setCell _ _ _ _ (by show wr.heap.size≠gh;omega)];exact(tK.o.block _ Kf (fun e=>by have:=DL.o _ e.symm;omega)).trans ((Below.heap_alloc _ _ _ Kb).trans lN.o)
 clear k0 k1 k2 k3 g0 g1 hw0 e0 e1 nJ;obtain⟨k0,k1,k2,k3,-⟩:=zJ sM;have hw0:=iz.walk;have dP:=hd (xU.o w7 _ m _ _ L1 (h++[(k:Int)]) (DN.o.below kf) iz (by have:=kf.size;omega) Kb (by rw[List.length_append,iL.o];simp;omega));have xo:=hd kf;have hrun:=kQh (.none) 0 0 0 Km;clear iz kf sM hrun;go_upto_region 8 with(first
  |(go_at_call 121;refine dP.o.mono ?_;rintro e w8 ⟨rfl,⟨DR,EZ,jq⟩,dM⟩;obtain⟨A8,c8,rfl,Fa,_⟩:=jq.own.open_at (bF+1) (by rw[List.length_append,iL.o];rfl);obtain⟨g0,g1⟩:=kNp jq.here;have mH:=hd jq;have cU:=hd (xo.o.trans (dM.mono Km));clear jq dM k0 k1 k2 k3 hw0))
 have hrun:=kQh A8 (bF+1) c8 bF Kb;have hwk:IntKind.i64.wrap (bF:Int)=(bF:Int):=IntWalk.i64_in _ Kb;have ng:(0:Int)<=(bF:Int):=Kb;have hkc:(bF:Int)<=(c8:Int):=Kb;go_wp2_with fail
 go_roundw
 case rel=>
  have tJ:=mH.o.less bx iL.o;rw[qG.o]at tJ;exact⟨k+1,DR,_,by omega,by go_num,hd tJ,hd (cU.o.setCell bx.h _)⟩
 case measure=>simp[intOf];omega):P:=h
theorem kQq {gh:Nat}(bx:Bx B gq go gh gw)(K:Ask fid lv):
  ∀(d:Nat)(w:World)(v:Value)(n:NT)(vo vh:Value)(L:List (List Int))(h:List Int),zV d w B v n->St B gq go gh gw fid w vo vh L h->B<=w.heap.size->L.length+sizeT n<=1900000->h.length+sizeT n<=1900000->
   Calls Tryz.prog 121 #[v,.pointer (some ⟨gq,0,none⟩),.pointer (some ⟨go,0,none⟩),.pointer (some ⟨gh,0,none⟩),.pointer (some ⟨gw,0,none⟩)] w (kTe B gq go gh gw fid (L++pathsK lv n.ks 0 h) h w):=by
 intro d0;induction d0 with
 |zero=>intro w v n vo vh L h hn;exact hn.elim
 | succ d ih=>
  intro w v n vo vh L h hn hst hB hL hH;obtain⟨d',lf,ps,tx,ks,PA,pc,TA,tc,KA,kc,hd',rfl,rfl,hp,ht,hf,hks⟩:=hn.open_;obtain rfl:d=d':=Kb;have hsL:L.length+1+sizeK ks<=1900000:=by rw[sizeT]at hL;omega
  have Fb:h.length+1+sizeK ks<=1900000:=by rw[sizeT]at hH;omega
  have cM:=hf.2.2.2.1;have bK:=hd hks;have xU:=hd ih;have DT:=K.enters;have DU:=enters_of Tryz.func121 Ka rfl;have nU:=hd (hst.below (kNn w (.cells #[.bool lf,.slice PA ps.length pc,.slice TA tx.length tc,.slice KA ks.length kc] 26)));have ay:=hd (show Below B w _ from(kNn w (.cells #[.bool lf,.slice PA ps.length pc,.slice TA tx.length tc,.slice KA ks.length kc] 26)).mono hB);clear hn hp ht hf hks hd' ih hst hL hH;go_enter Tryz.func121,Tryz.ntmps121
  go_wp2_with fail
  go_loopw [11] (fun i wr=>∃(k:Nat)(vo vh:Value),k<=ks.length/\i=.int .i64 k/\Kr (St B gq go gh gw fid wr vo vh (L++pathsK lv (ks.take k) 0 h) h)/\Kr (Below B w wr)) (fun i _=>ks.length-(intOf i).toNat)
  case atStart=>exact⟨0,vo,vh,Nat.zero_le _,rfl,by simpa[pathsK]using nU,ay⟩
  case round=>
   obtain⟨k,vo,vh,hk,rfl,bD,aH⟩:=hrel;clear nU ay;have hsz:=aH.o.size;by_cases hlt:k<ks.length
   ·obtain⟨m,b,o,lf1,cD,cI,cE,cF,cJ,cG,bY,cK,bZ,hm,rfl,hbg,cL,x0,x1,x2,x3⟩:=(bK.o.below aH.o).at_ hlt;have hsm:=kAj hm;have htk:sizeK (ks.take k)+sizeT m<=sizeK ks:=by
     have e1:sizeK ks=sizeK (ks.take k)+sizeK (ks.drop k):=by rw[<-kZ,List.take_append_drop]
     rw[zCo hm]at e1;simp only[sizeK]at e1;omega
    have hpl:=kOy lv (ks.take k) 0 h;obtain⟨Ah,ch,AQ,hch,_⟩:=bD.o.own.open_at h.length rfl;obtain⟨bF,xX⟩:∃bF,h.length=bF:=⟨_,rfl⟩;rw[xX]at AQ hch;subst AQ;have iL:=hd xX;have DL:=hd (fun j e=>(bD.o.own.lt (j:=j) e).2);obtain⟨vs,hv1,hv2,hv3⟩:=bD.o.row;obtain⟨Ao,co,AR,_,_,_⟩:=zC9 hv2;obtain⟨nl,hnl⟩:∃nl,nl=(L++pathsK lv (ks.take k) 0 h).length:=⟨_,rfl⟩;rw[<-hnl]at hv1 hv2 AR;subst AR;have DV:nl<=L.length+sizeK (ks.take k):=by rw[hnl,List.length_append];omega
    have DW:=hd (fun j e=>(hv2.lt j e).2);obtain⟨W0,hW0⟩:∃W0,W0=wr.alloc (.cells #[.bool lf1,.slice cD cI cE,.slice cF cJ cG,.slice bY cK bZ] 26):=⟨_,rfl⟩;have hb0:Below wr.heap.size wr W0:=hW0▸kNn wr _;have hs0:W0.heap.size=wr.heap.size+1:=by rw[hW0];simp
    have bc:=hd (show W0.heap[wr.heap.size]? =some (.cells #[.bool lf1,.slice cD cI cE,.slice cF cJ cG,.slice bY cK bZ] 26 (0,0))from hW0▸heap_alloc_new wr _);have nU:=hd (bD.o.below hb0);have tL:=hd (show Below B w W0 from aH.o.trans (hb0.mono Kb));have DN:=hd (show zV d w B (.agg #[.bool lf1,.slice cD cI cE,.slice cF cJ cG,.slice bY cK bZ]) m from by
     obtain⟨b',o',u',e',_,hn',c0,c1,c2,c3,eu,h0,h1,h2,h3⟩:=bK.o k m hm;injection e' with e';injection e' with e1 e2;subst e1 e2;have z0:=x0.symm.trans (Eq.trans (aH.o.cell (by exact hbg)) h0);have z1:=x1.symm.trans (Eq.trans (aH.o.cell (by exact hbg)) h1);have z2:=x2.symm.trans (Eq.trans (aH.o.cell (by exact hbg)) h2);have z3:=x3.symm.trans (Eq.trans (aH.o.cell (by exact hbg)) h3);injection z0 with z0;injection z1 with z1;injection z2 with z2;injection z3 with z3;rw[z0,z1,z2,z3,<-eu];exact hn')
    have HC:=hd (K.does d W0 _ m ((cL.below (hb0.mono Kb)).more Kb));have mQ:=hd hs0;have hq0:=nU.o.asked;obtain⟨y0,y1,y2,y3,-⟩:=zJ bc.o;have lgo:=lt_of_block bD.o.o;have lgh:=lt_of_block bD.o.here;have hge:go≠gh:=bx.oh;have hstep:=kQw lv hm h;rw[kPs]at hstep;obtain⟨ab,hab⟩:∃ab,(m.lf|| !lv)=ab:=⟨_,rfl⟩;rw[hab]at HC hstep;have DX:bF+1+sizeK ks<=1900000:=Kb;clear hb0 hm cL hs0 xX hab;cases ab
    ·obtain⟨L1,mR⟩:∃L1,L1=L++pathsK lv (ks.take k) 0 h:=⟨_,rfl⟩;have qG:=hd (show L1++pathsK lv m.ks 0 (h++[(k:Int)])=L++pathsK lv (ks.take (k+1)) 0 h by rw[hstep,mR,List.append_assoc];rfl);have bi:L1.length=nl:=by rw[mR,hnl]
     rw[<-mR]at nU;clear hstep mR hnl hv1 hv2 hv3 bD;subst hW0;go_upto_region 6 with(first
      |(refine HC.o.mono ?_;rintro e ws ⟨rfl,hb1⟩;have HST:=hd (nU.o.below hb1);have gN:=hd (tL.o.trans (hb1.mono (by have:=mQ.o;omega)));have lN:=hd (kI bc.o hb1);have hz1:=hb1.size;rw[mQ.o]at hz1;clear hb1 hq0 y0 y1 y2 y3))
     obtain⟨k0,k1,k2,k3,-⟩:=zJ lN.o;obtain⟨g0,g1⟩:=kNp HST.o.here;have hw0:=HST.o.walk;have lh:=lt_of_block HST.o.here;have HOW:=hd (show ws.ownsRow B 3 1 (.slice Ah bF ch) bF (h.map (Value.int .i64)) by have:=HST.o.own.own;rwa[iL.o]at this);have hbs:=gN.o.size;go_upto_region 7 with(first
      |(at_builtin;refine zK7 kTn _ rfl (.tmp 31) (.tmp 33) rfl B (.slice Ah bF ch) bF (h.map (Value.int .i64)) rfl (HOW.o.alloc _) (some ⟨ws.heap.size,0,none⟩) 1 1 (ws.heap.size+1) [.int .i64 k] rfl rfl (zYo ws _ [.int .i64 k]) (by simp[Value.oneCell']) Kg Kb Kf ?_;intro A6 c6 w6 aI ak bB;have tM:=(ak.block gh Kf (fun e=>HST.o.aph.2.2.1 e.symm)).trans ((Below.heap_alloc _ _ _ lh).trans HST.o.here);obtain⟨e0,e1⟩:=kNp tM;have xY:=hd aI;have tK:=hd ak;have xZ:=hd bB;clear aI ak bB tM))
     generalize nJ:World.setCell w6 _ _=w7
     have iz:=St.more bx HST.o (kNn ws _) iL.o.symm xY.o tK.o xZ.o;exact kQp
    ·obtain⟨L0,uO⟩:∃L0,L0=L++pathsK lv (ks.take k) 0 h:=⟨_,rfl⟩;obtain⟨L1,mR⟩:∃L1,L1=L0++[h++[(k:Int)]]:=⟨_,rfl⟩;have qG:=hd (show L1++pathsK lv m.ks 0 (h++[(k:Int)])=L++pathsK lv (ks.take (k+1)) 0 h by rw[hstep,mR,uO,List.append_assoc,List.append_assoc];rfl);rw[<-uO]at nU hnl;have bi:L1.length=nl+1:=by rw[mR,hnl,List.length_append];rfl
     have qQ:=hd mR;have xE:=hd hnl;have aB:=hd (hv1.trans hnl);have ah:=hd (show W0.ownsRow B 27 1 (.slice Ao nl co) nl vs from kNu hv2 (hW0▸kNn wr _));have gf:=hd (show∀k u,vs[k]? =some u->zBt W0 B u (lAt L0 k)/\∀j,u.ownBlock=some j->(Value.slice Ah bF ch).ownBlock≠some j from fun q u hu=>⟨((hv3 q u hu).1.below (hW0▸kNn wr _))|>(by rw[uO];exact ·),(hv3 q u hu).2⟩);clear hstep mR uO hnl hv1 hv2 hv3 bD;subst hW0;go_upto_region 5 with(first
      |(refine HC.o.mono ?_;rintro e w0 ⟨rfl,hb1⟩;have AU:=hd (nU.o.below hb1);have qi:=hd (tL.o.trans (hb1.mono (by have:=mQ.o;omega)));have tN:=hd (kI bc.o hb1);have tO:=hd (kNu ah.o hb1);have qj:=hd (fun q u hu=>(⟨((gf.o q u hu).1).below hb1,(gf.o q u hu).2⟩:zBt w0 B u (lAt L0 q)/\∀j,u.ownBlock=some j->(Value.slice Ah bF ch).ownBlock≠some j));have hz1:=hb1.size;rw[mQ.o]at hz1;clear hb1 hq0 y0 y1 y2 y3))
     go_cut [6] (fun s6 wx=>s6=.int .i64 k/\∃(A6:Option Addr)(c6:Nat),Kr (St B gq go gh gw fid wx (.slice A6 (nl+1) c6) (.slice Ah bF ch) L1 h)/\Kr (Below B w wx)/\Kr (wx.heap[wr.heap.size]? =some (.cells #[.bool lf1,.slice cD cI cE,.slice cF cJ cG,.slice bY cK bZ] 26 (0,0)))/\wr.heap.size+1<=wx.heap.size)
     case first=>
      refine kS1 (S:=fun W=>W.cell? ⟨gh,0,none⟩=some (.slice Ah bF ch)/\W.cell? ⟨go,0,none⟩=some (.slice Ao nl co)) (z:=12) Ka ?_;obtain⟨w1,hw1⟩:∃w1,w1=w0.drew:=⟨_,rfl⟩;rw[<-hw1];have eQ:Below w0.heap.size w0 w1:=hw1▸Kl.drew;have ww:w1.heap.size=w0.heap.size:=by rw[hw1];rfl
      have fS:=hd (AU.o.below eQ);have tP:=hd (qi.o.trans (eQ.mono (by have:=qi.o.size;omega)));have ya:=hd (kI tN.o eQ);have ny:=hd (kNu tO.o eQ);have DY:=hd (fun q u hu=>(⟨((qj.o q u hu).1).below eQ,(qj.o q u hu).2⟩:zBt w1 B u (lAt L0 q)/\∀j,u.ownBlock=some j->(Value.slice Ah bF ch).ownBlock≠some j));have DZ:wr.heap.size+1<=w1.heap.size:=Kb;clear hw1 eQ AU qi tN tO qj ww hz1;have aa:=hd (show w1.cell? ⟨gh,0,none⟩=some (.slice Ah bF ch)/\w1.cell? ⟨go,0,none⟩=some (.slice Ao nl co)from⟨(kNp fS.o.here).1,(kNp fS.o.o).1⟩);have Fe:=lt_of_block fS.o.o;have Ff:=lt_of_block fS.o.here;have hbz:=tP.o.size;have yb:=hd (kSm fS.o.own iL.o);have hi0:(0:Int)<=(bF:Int):=Kb;have hi1:(bF:Int)<=(ch:Int):=Kb;refine kO5 (i:=0) (n:=12) (.slice Ao nl co) rfl Ka Ka Ka Ka (fun _ _ _ h=>h) Ke (fun W hW=>?_) aa.o ?_
      ·obtain⟨hW1,hW2⟩:=hW;go_simp
      simp only[Act.put,List.setIfInBounds_toArray];refine kO5 (i:=1) (n:=11) (.slice Ah bF ch) rfl Ka Ka Ka Ka (fun _ _ _ h=>h) Ke (fun W hW=>?_) aa.o ?_
      ·obtain⟨hW1,hW2⟩:=hW;go_simp
      simp only[Act.put];refine kO5 (i:=2) (n:=10) (.slice Ah bF ch) rfl Ka Ka Ka Ka (fun _ _ _ h=>h) Ke (fun W hW=>?_) aa.o ?_
      ·obtain⟨hW1,hW2⟩:=hW;go_simp
      simp only[Act.put];refine kO5 (i:=3) (n:=9) (.int .i64 bF) rfl Ka Ka Ka Ka (fun _ _ _ h=>h) Ke (fun W hW=>?_) aa.o ?_
      ·obtain⟨hW1,hW2⟩:=hW;go_simp
      simp only[Act.put];refine kO5 (i:=4) (n:=8) (.slice Ah bF ch) rfl Ka Ka Ka Ka (fun _ _ _ h=>h) Ke (fun W hW=>?_) aa.o ?_
      ·obtain⟨hW1,hW2⟩:=hW;go_simp
      simp only[Act.put];refine kO5 (i:=5) (n:=7) (.int .i64 bF) rfl Ka Ka Ka Ka (fun _ _ _ h=>h) Ke (fun W hW=>?_) aa.o ?_
      ·obtain⟨hW1,hW2⟩:=hW;go_simp
      simp only[Act.put];refine kO5 (i:=6) (n:=6) (.slice Ah bF bF) rfl Ka Ka Ka Ka (fun _ _ _ h=>h) Ke (fun W hW=>?_) aa.o ?_
      ·obtain⟨hW1,hW2⟩:=hW;go_simp
      simp only[Act.put];refine kO5 (i:=7) (n:=5) (.int .i64 k) rfl Ka Ka Ka Ka (fun _ _ _ h=>h) Ke (fun W hW=>?_) aa.o ?_
      ·obtain⟨hW1,hW2⟩:=hW;go_simp
      simp only[Act.put];refine kR7 (i:=8) (n:=4) Ka rfl (fun K hK=>?_);rw[if_pos Ke];go_simp;refine hK _ _ (fun _=>⟨(kNp (kI fS.o.here (kNn w1 _))).1,(kNp (kI fS.o.o (kNn w1 _))).1⟩) ?_;clear hK K;refine kR7 (i:=9) (n:=3) Ka rfl (fun K hK=>?_);refine kOz kTn _ rfl (.tmp 25) (.tmp 27) rfl Ah bF bF (h.map (Value.int .i64)) rfl (yb.o.1 w1 Kl) yb.o.2.1 (yb.o.2.2 _ (kNn w1 _)) ⟨w1.heap.size,0,none⟩ 1 1 [.int .i64 k] rfl rfl (kR5 w1 _ _) (by simp[Value.oneCell']) Kb Kg Kb ?_;intro v5 w2 hown2 hgrow2;obtain⟨A5,c5,rfl,_,_,_⟩:=zC9 hown2;have hb2:Below w1.heap.size w1 w2:=(kNn w1 _).trans ((kO0 hgrow2).mono Kc);have aT:=hd hb2;have jQ:=hd (show zBt w2 B (.slice A5 (bF+1) c5) (h++[(k:Int)])from(zBt.of_own (n:=bF+1) (by rw[List.map_append];exact hown2) (by rw[List.length_append,iL.o];rfl)).weaken Kf);have Ea:=hd (fun j e=>(show w1.heap.size<=j from by have:=(hown2.lt j e).1;simp at this;omega));have hz2:=hb2.size;refine hK _ _ (fun _=>⟨(kNp (kI fS.o.here hb2)).1,(kNp (kI fS.o.o hb2)).1⟩) ?_;clear hK K hown2 hgrow2 hb2;refine kR7 (i:=10) (n:=2) Ka rfl (fun K hK=>?_);rw[if_pos Ke];go_simp;refine hK _ _ (fun _=>⟨(kNp (kI (kI fS.o.here aT.o) (kNn w2 _))).1,(kNp (kI (kI fS.o.o aT.o) (kNn w2 _))).1⟩) ?_;clear hK K;refine kR7 (i:=11) (n:=1) Ka rfl (fun K hK=>?_);refine zIq kTp _ rfl (.tmp 19) (.tmp 29) rfl B (.slice Ao nl co) nl vs rfl (((kNu ny.o aT.o)).alloc _) (some ⟨w2.heap.size,0,none⟩) 1 1 (w2.heap.size+1) [.slice A5 (bF+1) c5] rfl rfl (zYo w2 _ [.slice A5 (bF+1) c5]) (by simp[Value.oneCell']) Kg Kb Kf ?_;intro A6 c6 w3 dZ eY tQ;have nS:=(eY.block go Kf (fun e=>fS.o.apo.2.1 e.symm)).trans ((Below.heap_alloc _ _ _ Kb).trans (kI fS.o.o aT.o));have AV:=(eY.block gh Kf (fun e=>fS.o.apo.2.2.1 e.symm)).trans ((Below.heap_alloc _ _ _ Kb).trans (kI fS.o.here aT.o));obtain⟨e0,e1⟩:=kNp nS;refine hK _ _ (fun _=>⟨(kNp AV).1,e0⟩) ?_;have Eb:=hd dZ;have j0:=hd eY;have Ec:=hd tQ;clear hK K dZ eY tQ nS AV;refine kR7 (i:=12) (n:=0) Ka rfl (fun K hK=>?_);rw[if_pos Ke];go_simp;refine hK _ _ (fun e=>absurd rfl e) (kTf Ka ?_);clear hK K;generalize hws:World.setCell w3 _ _=ws
      have hst:=St.push bx fS.o (aT.o.trans ((kNn w2 (.cells #[.slice A5 (bF+1) c5] 27)).mono aT.o.size)) xE.o aB.o ny.o DY.o (jQ.o.below (kNn w2 _)) Ea.o Eb.o j0.o Ec.o;rw[hws,<-qQ.o]at hst;have hbb:Below B w ws:=hws▸(((tP.o.trans (aT.o.mono Kb)).alloc Kb _).grown j0.o Kf (fun j hj=>(ny.o.lt j hj).1)).setCell bx.o _;have hkb:ws.heap[wr.heap.size]? =some (.cells #[.bool lf1,.slice cD cI cE,.slice cF cJ cG,.slice bY cK bZ] 26 (0,0)):=by
       rw[<-hws,Below.heap_setCell _ _ _ _ (by show wr.heap.size≠go;omega)];exact(j0.o.block _ Kf (fun e=>by have:=DW.o _ e.symm;omega)).trans ((Below.heap_alloc _ _ _ Kb).trans (kI ya.o aT.o))
      have HST:=hd hst;have gN:=hd hbb;have lN:=hd hkb;have AW:wr.heap.size+1<=ws.heap.size:=by
       have h1:=j0.o.size;have h2:ws.heap.size=w3.heap.size:=by rw[<-hws];simp
       simp at h1;omega
      clear hst hbb hkb hws e0 e1;go_wp2_with fail
      go_meet
      exact⟨rfl,A6,c6,HST,gN,lN,AW⟩
     case rest=>
      obtain⟨rfl,A9,c9,HST,gN,lN,AW⟩:=hcut;obtain⟨k0,k1,k2,k3,-⟩:=zJ lN.o;obtain⟨g0,g1⟩:=kNp HST.o.here;have hw0:=HST.o.walk;have lh:=lt_of_block HST.o.here;have HOW:=hd (show wc.ownsRow B 3 1 (.slice Ah bF ch) bF (h.map (Value.int .i64)) by have:=HST.o.own.own;rwa[iL.o]at this);have hbs:=gN.o.size;go_upto_region 7 with(first
       |(at_builtin;refine zK7 kTn _ rfl (.tmp 31) (.tmp 33) rfl B (.slice Ah bF ch) bF (h.map (Value.int .i64)) rfl (HOW.o.alloc _) (some ⟨wc.heap.size,0,none⟩) 1 1 (wc.heap.size+1) [.int .i64 k] rfl rfl (zYo wc _ [.int .i64 k]) (by simp[Value.oneCell']) Kg Kb Kf ?_;intro A6 c6 w6 aI ak bB;have tM:=(ak.block gh Kf (fun e=>HST.o.aph.2.2.1 e.symm)).trans ((Below.heap_alloc _ _ _ lh).trans HST.o.here);obtain⟨e0,e1⟩:=kNp tM;have xY:=hd aI;have tK:=hd ak;have xZ:=hd bB;clear aI ak bB tM))
      generalize nJ:World.setCell w6 _ _=w7
      have iz:=St.more bx HST.o (kNn wc _) iL.o.symm xY.o tK.o xZ.o;exact kQp
   ·obtain rfl:k=ks.length:=Kb;have hs:=bD.o;rw[List.take_length]at hs;have Ed:=hd hs;clear hs;go_wp2
    go_end0
    exact⟨rfl,⟨_,_,Ed.o⟩,aH.o⟩
theorem St.quit {gh:Nat}{w:World}{vo vh:Value}{h:List Int}(s:St B gq go gh gw fid w vo vh L h):kSl w B B vo L:=by
 obtain⟨vs,h1,h2,h3⟩:=s.row;exact⟨vs,h1,h2,fun k u hu=>(h3 k u hu).1⟩
theorem kRd {gh:Nat}{w w':World}{vo:Value}{vs:List Value}{tw:TypeId}(bq:B<=gq)(bo:B<=go)(hgo:go≠gq)(lA:gw=w.heap.size+1)(Ee:gh=w.heap.size)(lq:gq<w.heap.size)(lo:go<w.heap.size)
  (ha:w.cell? ⟨gq,0,none⟩=some (.func (.func fid) #[] #[])) (ho:w.heap[go]? =some (.cells #[vo] 53 (0,0))) (h1:vs.length=L.length) (h2:w.ownsRow B 27 1 vo L.length vs) (h3:∀k u,vs[k]? =some u->zBt w B u (lAt L k)) (ap:vo.ownBlock≠some gq/\vo.ownBlock≠some go)
  (hw':w'=(w.alloc (.cells #[.slice none 0 0] 27)).alloc (.cells #[.func (.func 121) #[] #[.pointer (some ⟨gq,0,none⟩),.pointer (some ⟨go,0,none⟩),.pointer (some ⟨gh,0,none⟩),.pointer (some ⟨gw,0,none⟩)]] tw)):
  Bx B gq go gh gw/\St B gq go gh gw fid w' vo (.slice none 0 0) L []:=by
 have hb:Below w.heap.size w w':=hw'▸kOi w _ _;refine⟨⟨bq,bo,by omega,by omega,hgo,by omega,by omega,by omega,by omega⟩,⟨?_,?_,kI ho hb,?_,⟨vs,h1,kNu h2 hb,fun k u hu=>⟨(h3 k u hu).below hb,fun j _=>by simp[Value.ownBlock]⟩⟩,zBt.nil _ _,⟨ap.1,ap.2,fun e=>?_,fun e=>?_⟩,⟨by simp[Value.ownBlock],by simp[Value.ownBlock],by simp[Value.ownBlock],by simp[Value.ownBlock]⟩⟩⟩
 ·exact(hb.cell (p:=⟨gq,0,none⟩) lq).trans ha
 ·have e:w'.heap[gw]? =some (.cells #[.func (.func 121) #[] #[.pointer (some ⟨gq,0,none⟩),.pointer (some ⟨go,0,none⟩),.pointer (some ⟨gh,0,none⟩),.pointer (some ⟨gw,0,none⟩)]] tw):=by
   have:=heap_alloc_new (w.alloc (.cells #[.slice none 0 0] 27)) (.cells #[.func (.func 121) #[] #[.pointer (some ⟨gq,0,none⟩),.pointer (some ⟨go,0,none⟩),.pointer (some ⟨gh,0,none⟩),.pointer (some ⟨gw,0,none⟩)]] tw);rw[<-hw',sz1,<-lA]at this;exact this
  simp[World.cell?,e]
 ·rw[hw',Below.heap_alloc _ _ _ (by rw[sz1];omega),Ee];exact heap_alloc_new _ _
 ·have:=(h2.lt _ e).2;omega
 ·have:=(h2.lt _ e).2;omega
theorem three_holds (w:World)(o o' o'':Obj):kOd [(w.heap.size+2,o''),(w.heap.size+1,o'),(w.heap.size,o)] (((w.alloc o).alloc o').alloc o''):=by
 have:=((kOd.nil w).add2 o o').add o'';rwa[show((w.alloc o).alloc o').heap.size=w.heap.size+2 by simp]at this
theorem kQr {P:Prop}(h:P:=by
 go_wp2_with(first
  |(refine HC.o.mono ?_;rintro e w9 ⟨rfl,⟨Fg,Fh,iW⟩,bG⟩;have uE:=iW.quit;obtain⟨A9,c9,rfl,_⟩:=uE.form;have Ef:=hd uE;have bN:=hd (gj.o.trans bG);obtain⟨g0,g1⟩:=kNp iW.o;clear uE iW bG dz n0 n1 n2 n3)
  |fail)
 go_ret
 exact⟨A9,c9,by rw[AX.o];rfl,by rw[AX.o];exact Ef.o,bN.o⟩):P:=h
theorem kRk (K:Ask fid lv)(d:Nat)(w:World)(v:Value)(n:NT)(hn:zV d w w.heap.size v n)(hsz:sizeT n<=1800000):
  Calls Tryz.prog 67 #[v,.func (.func fid) #[] #[]] w (kTq w.heap.size (kN9 lv n []) w):=by
 obtain⟨lf,PA,np,pc,TA,nt,tc,KA,nk,kc,rfl⟩:=hn.val;have DT:=K.enters;have DU:=enters_of Tryz.func121 Ka rfl;have yc:=kPs lv n [];obtain⟨ab,hab⟩:∃ab,(n.lf|| !lv)=ab:=⟨_,rfl⟩;rw[hab]at yc;have HK:=fun(X:World)(hb:Below w.heap.size w X)=>hd (show Calls Tryz.prog fid #[_] X (jA (.bool ab) X)from hab▸K.does d X _ n (hn.later hb));have HN:=hd hn;have AX:=hd yc;clear hn yc hab;go_enter Tryz.func67,Tryz.ntmps67
 go_wp2_with fail
 generalize hW:World.alloc (World.alloc (World.alloc w _) _) _=W3
 have hb3:Below w.heap.size w W3:=hW▸((Kl.alloc Km _).alloc Kc _).alloc (by simp<;>omega) _;have hx3:kOd _ W3:=hW▸three_holds w _ _ _;have hs3:W3.heap.size=w.heap.size+3:=by rw[<-hW];simp
 have dx:=hd hb3;have AY:=hd hx3;have ui:=hd hs3;clear hW hb3 hx3 hs3;cases ab
 ·go_upto_region 7 with(first
   |(refine(HK _ dx.o).o.mono ?_;rintro e w1 ⟨rfl,hb1⟩;have bf:=hd (dx.o.trans (hb1.mono dx.o.size));have ql:=hd (AY.o.keep hb1);have hz1:=hb1.size;rw[ui.o]at hz1;obtain⟨o0,o1⟩:=kNp (ql.o.hd);clear hb1))
  generalize dI:World.alloc (World.alloc w1 _) _=W5
  have gS:Below w1.heap.size w1 W5:=dI▸kOi w1 _ _;obtain⟨bx,gT⟩:=kRd (B:=w.heap.size) (gq:=w.heap.size+1) (go:=w.heap.size+1+1) (fid:=fid) (vo:=.slice none 0 0) (L:=[]) (vs:=[]) Kb Kb Kb rfl rfl Kb Kb (kNp (ql.o.tl.hd)).1 (ql.o.hd) rfl (World.ownsRow_nil _ _ _ _) Kc (by simp[Value.ownBlock]) dI.symm;have gj:=hd (bf.o.trans (gS.mono bf.o.size));have Eg:=hd (ql.o.keep gS);clear dI gS o0 o1;have HC:=hd (kQq bx K d W5 _ n _ _ _ [] ((HN.o.below (gj.o))) gT gj.o.size Kf Kf);have dz:=gT.walk;obtain⟨n0,n1,n2,n3,-⟩:=zJ (Eg.o.tl.tl.hd);clear gT;exact kQr
 ·go_upto_region 7 with(first
   |(refine(HK _ dx.o).o.mono ?_;rintro e w1 ⟨rfl,hb1⟩;have bf:=hd (dx.o.trans (hb1.mono dx.o.size));have ql:=hd (AY.o.keep hb1);have hz1:=hb1.size;rw[ui.o]at hz1;obtain⟨o0,o1⟩:=kNp (ql.o.hd);clear hb1)
   |(at_builtin;refine kNs kTp _ rfl (.tmp 11) (.tmp 12) rfl w.heap.size rfl (some ⟨w1.heap.size,0,none⟩) 1 1 (w1.heap.size+1) [.slice none 0 0] rfl rfl (zYo w1 _ [.slice none 0 0]) (by simp[Value.oneCell']) Kg Kb (by simp<;>omega) ?_;intro A2 c2 w2 hown2 hgrow2 tR;have hb2:Below w1.heap.size w1 w2:=(kNn w1 _).trans (hgrow2.mono Kc);have aT:=hd (bf.o.trans (hb2.mono bf.o.size));have nj:=hd (ql.o.keep hb2);have oI:=hd hown2;have oX:=hd tR;have hz2:=hb2.size;obtain⟨p0,p1⟩:=kNp (nj.o.hd);clear hb2 hown2 hgrow2 tR))
  generalize dI:World.alloc (World.alloc (World.setCell w2 _ _) _) _=W5
  obtain⟨ws,hws⟩:∃ws,ws=w2.setCell ⟨w.heap.size+1+1,0,none⟩ (.slice A2 1 c2):=⟨_,rfl⟩;rw[<-hws]at dI;have Eh:ws.heap.size=w2.heap.size:=by rw[hws];simp
  have hap:∀g,g<w1.heap.size->(Value.slice A2 1 c2).ownBlock≠some g:=fun g hg e=>by
   rcases oX.o with h|⟨g',h,hg'⟩
   ·rw[h]at e;cases e
   ·rw[h]at e;injection e with e;simp at hg';omega
  have hbs:Below w.heap.size w ws:=hws▸aT.o.setCell (by show _<=w.heap.size+1+1;omega) _;have tC:ws.heap[w.heap.size+1]? =_:=hws▸(Below.heap_setCell _ _ _ _ (by show w.heap.size+1≠w.heap.size+1+1;omega)).trans (nj.o.tl.hd);have AZ:ws.heap[w.heap.size]? =_:=hws▸(Below.heap_setCell _ _ _ _ (by show w.heap.size≠w.heap.size+1+1;omega)).trans (nj.o.tl.tl.hd);have ru:ws.heap[w.heap.size+1+1]? =some (.cells #[.slice A2 1 c2] 53 (0,0)):=by rw[hws,zG4 (nj.o.hd)];rfl
  have Ba:ws.ownsRow w.heap.size 27 1 (.slice A2 1 c2) 1 [.slice none 0 0]:=hws▸ownsRow_setCell_other oI.o (a:=⟨w.heap.size+1+1,0,none⟩) (hap _ (by show w.heap.size+1+1<_;omega)) _;have gS:Below ws.heap.size ws W5:=dI▸kOi ws _ _;obtain⟨bx,gT⟩:=kRd (B:=w.heap.size) (gq:=w.heap.size+1) (go:=w.heap.size+1+1) (gh:=w2.heap.size) (gw:=w2.heap.size+1) (fid:=fid) (vo:=.slice A2 1 c2) (L:=[[]]) (vs:=[.slice none 0 0]) Kb Kb Kb Kb Kb Kb Kb (kNp tC).1 ru rfl Ba (fun k u hu=>by
   match k,hu with
   |0,hu=>simp at hu;subst hu;exact zBt.nil _ _
   |k+1,hu=>simp at hu) ⟨hap _ Kb,hap _ Kb⟩ dI.symm
  have gj:=hd (hbs.trans (gS.mono hbs.size));have Bb:=kI AZ gS;clear dI gS o0 o1 p0 p1 hws Eh hap hbs tC AZ ru Ba;have HC:=hd (kQq bx K d W5 _ n _ _ _ [] ((HN.o.below (gj.o))) gT gj.o.size Kf Kf);have dz:=gT.walk;obtain⟨n0,n1,n2,n3,-⟩:=zJ Bb;clear Bb;clear gT;exact kQr
theorem kRl (d:Nat)(w:World)(v:Value)(n:NT)(hn:zV d w w.heap.size v n)(hsz:sizeT n<=1800000):Calls Tryz.prog 25 #[v] w (kTq w.heap.size (kN9 false n []) w):=by
 obtain⟨lf,PA,np,pc,TA,nt,tc,KA,nk,kc,rfl⟩:=hn.val;have hb:=kNn w (.cells #[.bool lf,.slice PA np pc,.slice TA nt tc,.slice KA nk kc] 26);have HC:=hd (kRk kTt d _ _ n (hn.later hb) hsz);have HB:=hd hb;clear hn;go_enter Tryz.func25,Tryz.ntmps25
 go_wp2_with(first
  |(refine HC.o.mono ?_;rintro e w1 ⟨A1,c1,rfl,hq1,hb1⟩;have ut:=hd hq1;have bf:=hd (HB.o.trans (hb1.mono HB.o.size));clear hq1 hb1))
 go_ret
 exact⟨A1,c1,rfl,ut.o.weaken HB.o.size HB.o.size,bf.o⟩
