import Derived.Test.YtmglnjmnabjjgaaGreatJHCnt2
set_option maxRecDepth 100000
set_option maxHeartbeats 8000000
namespace Go.Proofs.YtmglnjmnabjjgaaGreat
open Go.RowKit
open Go.WideShapes (add_plain)
variable {B go gq gw:Nat}{fid:FuncId}{lv:Bool}{w w':World}{L:List (List Int)}{g n x:NT}{q:List Int}
theorem kRc {P:Prop}(h:P:=by
 rw[pj]at iX;have oU:Below B w w7:=pj▸(((iy.o.alloc Kb _).grown ux.o Kf (fun j hj=>(HST.o.own.lt hj).1)).setCell bx.h _);have uy:w7.heap[wr.heap.size]? =some (.cells #[.bool lf1,.slice cI cP cJ,.slice cK cQ cL,.slice cM cR kc1] 26 (0,0)):=by
  rw[<-pj,Below.heap_setCell _ _ _ _ (by show wr.heap.size≠gh;omega)];exact(ux.o.block _ Kf (fun e=>by have:=DG.o _ e.symm;omega)).trans ((Below.heap_alloc _ _ _ Kb).trans mC.o)
 clear k0 k1 k2 k3 g0 g1 hw0 e0 e1 pj;obtain⟨k0,k1,k2,k3,-⟩:=zJ uy;have hw0:=iX.walk;have dS:=hd (yx.o w7 _ m _ _ L1 (h++[(k:Int)]) (DI.o.below oU) iX (by have:=oU.size;omega) Kb (by rw[List.length_append,jl.o];simp;omega));have DJ:=hd oU;have hrun:=kSb (.none) 0 0 0 Km;clear iX oU uy hrun;go_upto_region 8 with(first
  |(go_at_call 87;refine dS.o.mono ?_;rintro e w8 ⟨rfl,⟨DK,Fg,kw⟩,dR⟩;obtain⟨A8,c8,rfl,Fh,_⟩:=kw.own.open_at (bD+1) (by rw[List.length_append,jl.o];rfl);obtain⟨g0,g1⟩:=kNr kw.here;have qJ:=hd kw;have bR:=hd (DJ.o.trans (dR.mono Km));clear kw dR k0 k1 k2 k3 hw0))
 have hrun:=kSb A8 (bD+1) c8 bD Kb;have hwk:IntKind.i64.wrap (bD:Int)=(bD:Int):=IntWalk.i64_in _ Kb;have oC:(0:Int)<=(bD:Int):=Kb;have hkc:(bD:Int)<=(c8:Int):=Kb;go_wp2_with fail
 go_roundw
 case rel=>
  have uz:=qJ.o.less bx jl.o;rw[rS.o]at uz;exact⟨k+1,DK,_,by omega,by go_num,hd uz,hd (bR.o.setCell bx.h _)⟩
 case measure=>simp[intOf];omega):P:=h
theorem kSc {gh:Nat}(bx:Bx B gq go gh gw)(K:Ask fid lv):
  ∀(d:Nat)(w:World)(v:Value)(n:NT)(vo vh:Value)(L:List (List Int))(h:List Int),zV d w B v n->St B gq go gh gw fid w vo vh L h->B<=w.heap.size->L.length+sizeT n<=1900000->h.length+sizeT n<=1900000->
   Calls Tryz.prog 87 #[v,.pointer (some ⟨gq,0,none⟩),.pointer (some ⟨go,0,none⟩),.pointer (some ⟨gh,0,none⟩),.pointer (some ⟨gw,0,none⟩)] w (kXy B gq go gh gw fid (L++pathsK lv n.ks 0 h) h w):=by
 intro d0;induction d0 with
 |zero=>intro w v n vo vh L h hn;exact hn.elim
 | succ d ih=>
  intro w v n vo vh L h hn hst hB hL hH;obtain⟨d',lf,ps,tx,ks,PA,pc,TA,tc,KA,kc,hd',rfl,rfl,hp,ht,hf,hks⟩:=hn.open_;obtain rfl:d=d':=Kb;have hsL:L.length+1+sizeK ks<=1900000:=by rw[sizeT]at hL;omega
  have Fi:h.length+1+sizeK ks<=1900000:=by rw[sizeT]at hH;omega
  have cY:=hf.2.2.2.1;have bU:=hd hks;have yx:=hd ih;have DL:=K.enters;have xE:=enters_of Tryz.func87 Ka rfl;have pn:=hd (hst.below (kNn w (.cells #[.bool lf,.slice PA ps.length pc,.slice TA tx.length tc,.slice KA ks.length kc] 26)));have aB:=hd (show Below B w _ from(kNn w (.cells #[.bool lf,.slice PA ps.length pc,.slice TA tx.length tc,.slice KA ks.length kc] 26)).mono hB);clear hn hp ht hf hks hd' ih hst hL hH;go_enter Tryz.func87,Tryz.ntmps87
  go_wp2_with fail
  go_loopw [11] (fun i wr=>∃(k:Nat)(vo vh:Value),k<=ks.length/\i=.int .i64 k/\Kr (St B gq go gh gw fid wr vo vh (L++pathsK lv (ks.take k) 0 h) h)/\Kr (Below B w wr)) (fun i _=>ks.length-(intOf i).toNat)
  case atStart=>exact⟨0,vo,vh,Nat.zero_le _,rfl,by simpa[pathsK]using pn,aB⟩
  case round=>
   obtain⟨k,vo,vh,hk,rfl,nV,aK⟩:=hrel;clear pn aB;have hsz:=aK.o.size;by_cases hlt:k<ks.length
   ·obtain⟨m,b,o,lf1,cI,cP,cJ,cK,cQ,cL,cM,cR,kc1,hm,rfl,hbg,cV,x0,x1,x2,x3⟩:=(bU.o.below aK.o).at_ hlt;have hsm:=kAj hm;have htk:sizeK (ks.take k)+sizeT m<=sizeK ks:=by
     have e1:sizeK ks=sizeK (ks.take k)+sizeK (ks.drop k):=by rw[<-kZ,List.take_append_drop]
     rw[zCo hm]at e1;simp only[sizeK]at e1;omega
    have hpl:=kP2 lv (ks.take k) 0 h;obtain⟨Ah,ch,Bi,hch,_⟩:=nV.o.own.open_at h.length rfl;obtain⟨bD,yz⟩:∃bD,h.length=bD:=⟨_,rfl⟩;rw[yz]at Bi hch;subst Bi;have jl:=hd yz;have DG:=hd (fun j e=>(nV.o.own.lt (j:=j) e).2);obtain⟨vs,hv1,hv2,hv3⟩:=nV.o.row;obtain⟨Ao,co,Bj,_,_,_⟩:=zC9 hv2;obtain⟨nl,hnl⟩:∃nl,nl=(L++pathsK lv (ks.take k) 0 h).length:=⟨_,rfl⟩;rw[<-hnl]at hv1 hv2 Bj;subst Bj;have DN:nl<=L.length+sizeK (ks.take k):=by rw[hnl,List.length_append];omega
    have DR:=hd (fun j e=>(hv2.lt j e).2);obtain⟨W0,hW0⟩:∃W0,W0=wr.alloc (.cells #[.bool lf1,.slice cI cP cJ,.slice cK cQ cL,.slice cM cR kc1] 26):=⟨_,rfl⟩;have hb0:Below wr.heap.size wr W0:=hW0▸kNn wr _;have hs0:W0.heap.size=wr.heap.size+1:=by rw[hW0];simp
    have cj:=hd (show W0.heap[wr.heap.size]? =some (.cells #[.bool lf1,.slice cI cP cJ,.slice cK cQ cL,.slice cM cR kc1] 26 (0,0))from hW0▸heap_alloc_new wr _);have pn:=hd (nV.o.below hb0);have uA:=hd (show Below B w W0 from aK.o.trans (hb0.mono Kb));have DI:=hd (show zV d w B (.agg #[.bool lf1,.slice cI cP cJ,.slice cK cQ cL,.slice cM cR kc1]) m from by
     obtain⟨b',o',u',e',_,hn',c0,c1,c2,c3,eu,h0,h1,h2,h3⟩:=bU.o k m hm;injection e' with e';injection e' with e1 e2;subst e1 e2;have z0:=x0.symm.trans (Eq.trans (aK.o.cell (by exact hbg)) h0);have z1:=x1.symm.trans (Eq.trans (aK.o.cell (by exact hbg)) h1);have z2:=x2.symm.trans (Eq.trans (aK.o.cell (by exact hbg)) h2);have z3:=x3.symm.trans (Eq.trans (aK.o.cell (by exact hbg)) h3);injection z0 with z0;injection z1 with z1;injection z2 with z2;injection z3 with z3;rw[z0,z1,z2,z3,<-eu];exact hn')
    have HC:=hd (K.does d W0 _ m ((cV.below (hb0.mono Kb)).more Kb));have nW:=hd hs0;have hq0:=pn.o.asked;obtain⟨y0,y1,y2,y3,-⟩:=zJ cj.o;have lgo:=lt_of_block nV.o.o;have lgh:=lt_of_block nV.o.here;have hge:go≠gh:=bx.oh;have hstep:=kSu lv hm h;rw[kRb]at hstep;obtain⟨ab,hab⟩:∃ab,(m.lf|| !lv)=ab:=⟨_,rfl⟩;rw[hab]at HC hstep;have DT:bD+1+sizeK ks<=1900000:=Kb;clear hb0 hm cV hs0 yz hab;cases ab
    ·obtain⟨L1,nX⟩:∃L1,L1=L++pathsK lv (ks.take k) 0 h:=⟨_,rfl⟩;have rS:=hd (show L1++pathsK lv m.ks 0 (h++[(k:Int)])=L++pathsK lv (ks.take (k+1)) 0 h by rw[hstep,nX,List.append_assoc];rfl);have bl:L1.length=nl:=by rw[nX,hnl]
     rw[<-nX]at pn;clear hstep nX hnl hv1 hv2 hv3 nV;subst hW0;go_upto_region 6 with(first
      |(refine HC.o.mono ?_;rintro e ws ⟨rfl,hb1⟩;have HST:=hd (pn.o.below hb1);have iy:=hd (uA.o.trans (hb1.mono (by have:=nW.o;omega)));have mC:=hd (kI cj.o hb1);have hz1:=hb1.size;rw[nW.o]at hz1;clear hb1 hq0 y0 y1 y2 y3))
     obtain⟨k0,k1,k2,k3,-⟩:=zJ mC.o;obtain⟨g0,g1⟩:=kNr HST.o.here;have hw0:=HST.o.walk;have lh:=lt_of_block HST.o.here;have HOW:=hd (show ws.ownsRow B 3 1 (.slice Ah bD ch) bD (h.map (Value.int .i64)) by have:=HST.o.own.own;rwa[jl.o]at this);have hbs:=iy.o.size;go_upto_region 7 with(first
      |(at_builtin;refine zK7 kYj _ rfl (.tmp 31) (.tmp 33) rfl B (.slice Ah bD ch) bD (h.map (Value.int .i64)) rfl (HOW.o.alloc _) (some ⟨ws.heap.size,0,none⟩) 1 1 (ws.heap.size+1) [.int .i64 k] rfl rfl (zYo ws _ [.int .i64 k]) (by simp[Value.oneCell']) Kg Kb Kf ?_;intro A6 c6 w6 aT au bO;have uB:=(au.block gh Kf (fun e=>HST.o.aph.2.2.1 e.symm)).trans ((Below.heap_alloc _ _ _ lh).trans HST.o.here);obtain⟨e0,e1⟩:=kNr uB;have y7:=hd aT;have ux:=hd au;have y8:=hd bO;clear aT au bO uB))
     generalize pj:World.setCell w6 _ _=w7
     have iX:=St.more bx HST.o (kNn ws _) jl.o.symm y7.o ux.o y8.o;exact kRc
    ·obtain⟨L0,vP⟩:∃L0,L0=L++pathsK lv (ks.take k) 0 h:=⟨_,rfl⟩;obtain⟨L1,nX⟩:∃L1,L1=L0++[h++[(k:Int)]]:=⟨_,rfl⟩;have rS:=hd (show L1++pathsK lv m.ks 0 (h++[(k:Int)])=L++pathsK lv (ks.take (k+1)) 0 h by rw[hstep,nX,vP,List.append_assoc,List.append_assoc];rfl);rw[<-vP]at pn hnl;have bl:L1.length=nl+1:=by rw[nX,hnl,List.length_append];rfl
     have su:=hd nX;have pp:=hd hnl;have aD:=hd (hv1.trans hnl);have ah:=hd (show W0.ownsRow B 27 1 (.slice Ao nl co) nl vs from kNv hv2 (hW0▸kNn wr _));have gL:=hd (show∀k u,vs[k]? =some u->zBt W0 B u (lAt L0 k)/\∀j,u.ownBlock=some j->(Value.slice Ah bD ch).ownBlock≠some j from fun q u hu=>⟨((hv3 q u hu).1.below (hW0▸kNn wr _))|>(by rw[vP];exact ·),(hv3 q u hu).2⟩);clear hstep nX vP hnl hv1 hv2 hv3 nV;subst hW0;go_upto_region 5 with(first
      |(refine HC.o.mono ?_;rintro e w0 ⟨rfl,hb1⟩;have Bl:=hd (pn.o.below hb1);have qK:=hd (uA.o.trans (hb1.mono (by have:=nW.o;omega)));have uC:=hd (kI cj.o hb1);have uD:=hd (kNv ah.o hb1);have qL:=hd (fun q u hu=>(⟨((gL.o q u hu).1).below hb1,(gL.o q u hu).2⟩:zBt w0 B u (lAt L0 q)/\∀j,u.ownBlock=some j->(Value.slice Ah bD ch).ownBlock≠some j));have hz1:=hb1.size;rw[nW.o]at hz1;clear hb1 hq0 y0 y1 y2 y3))
     go_cut [6] (fun s6 wx=>s6=.int .i64 k/\∃(A6:Option Addr)(c6:Nat),Kr (St B gq go gh gw fid wx (.slice A6 (nl+1) c6) (.slice Ah bD ch) L1 h)/\Kr (Below B w wx)/\Kr (wx.heap[wr.heap.size]? =some (.cells #[.bool lf1,.slice cI cP cJ,.slice cK cQ cL,.slice cM cR kc1] 26 (0,0)))/\wr.heap.size+1<=wx.heap.size)
     case first=>
      refine kW8 (S:=fun W=>W.cell? ⟨gh,0,none⟩=some (.slice Ah bD ch)/\W.cell? ⟨go,0,none⟩=some (.slice Ao nl co)) (z:=12) Ka ?_;obtain⟨w1,hw1⟩:∃w1,w1=w0.drew:=⟨_,rfl⟩;rw[<-hw1];have eW:Below w0.heap.size w0 w1:=hw1▸Kl.drew;have xx:w1.heap.size=w0.heap.size:=by rw[hw1];rfl
      have fT:=hd (Bl.o.below eW);have uE:=hd (qK.o.trans (eW.mono (by have:=qK.o.size;omega)));have y9:=hd (kI uC.o eW);have m9:=hd (kNv uD.o eW);have xL:=hd (fun q u hu=>(⟨((qL.o q u hu).1).below eW,(qL.o q u hu).2⟩:zBt w1 B u (lAt L0 q)/\∀j,u.ownBlock=some j->(Value.slice Ah bD ch).ownBlock≠some j));have DU:wr.heap.size+1<=w1.heap.size:=Kb;clear hw1 eW Bl qK uC uD qL xx hz1;have aa:=hd (show w1.cell? ⟨gh,0,none⟩=some (.slice Ah bD ch)/\w1.cell? ⟨go,0,none⟩=some (.slice Ao nl co)from⟨(kNr fT.o.here).1,(kNr fT.o.o).1⟩);have Fj:=lt_of_block fT.o.o;have Fl:=lt_of_block fT.o.here;have hbz:=uE.o.size;have jg:=hd (kV3 fT.o.own jl.o);have hi0:(0:Int)<=(bD:Int):=Kb;have hi1:(bD:Int)<=(ch:Int):=Kb;refine kQa (i:=0) (n:=12) (.slice Ao nl co) rfl Ka Ka Ka Ka (fun _ _ _ h=>h) Ke (fun W hW=>?_) aa.o ?_
      ·obtain⟨hW1,hW2⟩:=hW;go_simp
      simp only[Act.put,List.setIfInBounds_toArray];refine kQa (i:=1) (n:=11) (.slice Ah bD ch) rfl Ka Ka Ka Ka (fun _ _ _ h=>h) Ke (fun W hW=>?_) aa.o ?_
      ·obtain⟨hW1,hW2⟩:=hW;go_simp
      simp only[Act.put];refine kQa (i:=2) (n:=10) (.slice Ah bD ch) rfl Ka Ka Ka Ka (fun _ _ _ h=>h) Ke (fun W hW=>?_) aa.o ?_
      ·obtain⟨hW1,hW2⟩:=hW;go_simp
      simp only[Act.put];refine kQa (i:=3) (n:=9) (.int .i64 bD) rfl Ka Ka Ka Ka (fun _ _ _ h=>h) Ke (fun W hW=>?_) aa.o ?_
      ·obtain⟨hW1,hW2⟩:=hW;go_simp
      simp only[Act.put];refine kQa (i:=4) (n:=8) (.slice Ah bD ch) rfl Ka Ka Ka Ka (fun _ _ _ h=>h) Ke (fun W hW=>?_) aa.o ?_
      ·obtain⟨hW1,hW2⟩:=hW;go_simp
      simp only[Act.put];refine kQa (i:=5) (n:=7) (.int .i64 bD) rfl Ka Ka Ka Ka (fun _ _ _ h=>h) Ke (fun W hW=>?_) aa.o ?_
      ·obtain⟨hW1,hW2⟩:=hW;go_simp
      simp only[Act.put];refine kQa (i:=6) (n:=6) (.slice Ah bD bD) rfl Ka Ka Ka Ka (fun _ _ _ h=>h) Ke (fun W hW=>?_) aa.o ?_
      ·obtain⟨hW1,hW2⟩:=hW;go_simp
      simp only[Act.put];refine kQa (i:=7) (n:=5) (.int .i64 k) rfl Ka Ka Ka Ka (fun _ _ _ h=>h) Ke (fun W hW=>?_) aa.o ?_
      ·obtain⟨hW1,hW2⟩:=hW;go_simp
      simp only[Act.put];refine kUz (i:=8) (n:=4) Ka rfl (fun K hK=>?_);rw[if_pos Ke];go_simp;refine hK _ _ (fun _=>⟨(kNr (kI fT.o.here (kNn w1 _))).1,(kNr (kI fT.o.o (kNn w1 _))).1⟩) ?_;clear hK K;refine kUz (i:=9) (n:=3) Ka rfl (fun K hK=>?_);refine kP3 kYj _ rfl (.tmp 25) (.tmp 27) rfl Ah bD bD (h.map (Value.int .i64)) rfl (jg.o.1 w1 Kl) jg.o.2.1 (jg.o.2.2 _ (kNn w1 _)) ⟨w1.heap.size,0,none⟩ 1 1 [.int .i64 k] rfl rfl (kUx w1 _ _) (by simp[Value.oneCell']) Kb Kg Kb ?_;intro v5 w2 hown2 hgrow2;obtain⟨A5,c5,rfl,_,_,_⟩:=zC9 hown2;have hb2:Below w1.heap.size w1 w2:=(kNn w1 _).trans ((kP6 hgrow2).mono Kc);have aL:=hd hb2;have lL:=hd (show zBt w2 B (.slice A5 (bD+1) c5) (h++[(k:Int)])from(zBt.of_own (n:=bD+1) (by rw[List.map_append];exact hown2) (by rw[List.length_append,jl.o];rfl)).weaken Kf);have sw:=hd (fun j e=>(show w1.heap.size<=j from by have:=(hown2.lt j e).1;simp at this;omega));have hz2:=hb2.size;refine hK _ _ (fun _=>⟨(kNr (kI fT.o.here hb2)).1,(kNr (kI fT.o.o hb2)).1⟩) ?_;clear hK K hown2 hgrow2 hb2;refine kUz (i:=10) (n:=2) Ka rfl (fun K hK=>?_);rw[if_pos Ke];go_simp;refine hK _ _ (fun _=>⟨(kNr (kI (kI fT.o.here aL.o) (kNn w2 _))).1,(kNr (kI (kI fT.o.o aL.o) (kNn w2 _))).1⟩) ?_;clear hK K;refine kUz (i:=11) (n:=1) Ka rfl (fun K hK=>?_);refine zIq kYl _ rfl (.tmp 19) (.tmp 29) rfl B (.slice Ao nl co) nl vs rfl (((kNv m9.o aL.o)).alloc _) (some ⟨w2.heap.size,0,none⟩) 1 1 (w2.heap.size+1) [.slice A5 (bD+1) c5] rfl rfl (zYo w2 _ [.slice A5 (bD+1) c5]) (by simp[Value.oneCell']) Kg Kb Kf ?_;intro A6 c6 w3 eB eZ uF;have pq:=(eZ.block go Kf (fun e=>fT.o.apo.2.1 e.symm)).trans ((Below.heap_alloc _ _ _ Kb).trans (kI fT.o.o aL.o));have Bn:=(eZ.block gh Kf (fun e=>fT.o.apo.2.2.1 e.symm)).trans ((Below.heap_alloc _ _ _ Kb).trans (kI fT.o.here aL.o));obtain⟨e0,e1⟩:=kNr pq;refine hK _ _ (fun _=>⟨(kNr Bn).1,e0⟩) ?_;have DV:=hd eB;have lH:=hd eZ;have DW:=hd uF;clear hK K eB eZ uF pq Bn;refine kUz (i:=12) (n:=0) Ka rfl (fun K hK=>?_);rw[if_pos Ke];go_simp;refine hK _ _ (fun e=>absurd rfl e) (kXz Ka ?_);clear hK K;generalize hws:World.setCell w3 _ _=ws
      have hst:=St.push bx fT.o (aL.o.trans ((kNn w2 (.cells #[.slice A5 (bD+1) c5] 27)).mono aL.o.size)) pp.o aD.o m9.o xL.o (lL.o.below (kNn w2 _)) sw.o DV.o lH.o DW.o;rw[hws,<-su.o]at hst;have hbb:Below B w ws:=hws▸(((uE.o.trans (aL.o.mono Kb)).alloc Kb _).grown lH.o Kf (fun j hj=>(m9.o.lt j hj).1)).setCell bx.o _;have hkb:ws.heap[wr.heap.size]? =some (.cells #[.bool lf1,.slice cI cP cJ,.slice cK cQ cL,.slice cM cR kc1] 26 (0,0)):=by
       rw[<-hws,Below.heap_setCell _ _ _ _ (by show wr.heap.size≠go;omega)];exact(lH.o.block _ Kf (fun e=>by have:=DR.o _ e.symm;omega)).trans ((Below.heap_alloc _ _ _ Kb).trans (kI y9.o aL.o))
      have HST:=hd hst;have iy:=hd hbb;have mC:=hd hkb;have Bo:wr.heap.size+1<=ws.heap.size:=by
       have h1:=lH.o.size;have h2:ws.heap.size=w3.heap.size:=by rw[<-hws];simp
       simp at h1;omega
      clear hst hbb hkb hws e0 e1;go_wp2_with fail
      go_meet
      exact⟨rfl,A6,c6,HST,iy,mC,Bo⟩
     case rest=>
      obtain⟨rfl,A9,c9,HST,iy,mC,Bo⟩:=hcut;obtain⟨k0,k1,k2,k3,-⟩:=zJ mC.o;obtain⟨g0,g1⟩:=kNr HST.o.here;have hw0:=HST.o.walk;have lh:=lt_of_block HST.o.here;have HOW:=hd (show wc.ownsRow B 3 1 (.slice Ah bD ch) bD (h.map (Value.int .i64)) by have:=HST.o.own.own;rwa[jl.o]at this);have hbs:=iy.o.size;go_upto_region 7 with(first
       |(at_builtin;refine zK7 kYj _ rfl (.tmp 31) (.tmp 33) rfl B (.slice Ah bD ch) bD (h.map (Value.int .i64)) rfl (HOW.o.alloc _) (some ⟨wc.heap.size,0,none⟩) 1 1 (wc.heap.size+1) [.int .i64 k] rfl rfl (zYo wc _ [.int .i64 k]) (by simp[Value.oneCell']) Kg Kb Kf ?_;intro A6 c6 w6 aT au bO;have uB:=(au.block gh Kf (fun e=>HST.o.aph.2.2.1 e.symm)).trans ((Below.heap_alloc _ _ _ lh).trans HST.o.here);obtain⟨e0,e1⟩:=kNr uB;have y7:=hd aT;have ux:=hd au;have y8:=hd bO;clear aT au bO uB))
      generalize pj:World.setCell w6 _ _=w7
      have iX:=St.more bx HST.o (kNn wc _) jl.o.symm y7.o ux.o y8.o;exact kRc
   ·obtain rfl:k=ks.length:=Kb;have hs:=nV.o;rw[List.take_length]at hs;have DX:=hd hs;clear hs;go_wp2
    go_end0
    exact⟨rfl,⟨_,_,DX.o⟩,aK.o⟩
theorem St.quit {gh:Nat}{vo vh:Value}{h:List Int}(s:St B gq go gh gw fid w vo vh L h):kV2 w B B vo L:=by
 obtain⟨vs,h1,h2,h3⟩:=s.row;exact⟨vs,h1,h2,fun k u hu=>(h3 k u hu).1⟩
theorem kTf {gh:Nat}{vo:Value}{vs:List Value}{tw:TypeId}(bq:B<=gq)(bo:B<=go)(hgo:go≠gq)(lB:gw=w.heap.size+1)(DY:gh=w.heap.size)(lq:gq<w.heap.size)(lo:go<w.heap.size)
  (ha:w.cell? ⟨gq,0,none⟩=some (.func (.func fid) #[] #[])) (ho:w.heap[go]? =some (.cells #[vo] 66 (0,0))) (h1:vs.length=L.length) (h2:w.ownsRow B 27 1 vo L.length vs) (h3:∀k u,vs[k]? =some u->zBt w B u (lAt L k)) (ap:vo.ownBlock≠some gq/\vo.ownBlock≠some go)
  (hw':w'=(w.alloc (.cells #[.slice none 0 0] 27)).alloc (.cells #[.func (.func 87) #[] #[.pointer (some ⟨gq,0,none⟩),.pointer (some ⟨go,0,none⟩),.pointer (some ⟨gh,0,none⟩),.pointer (some ⟨gw,0,none⟩)]] tw)):
  Bx B gq go gh gw/\St B gq go gh gw fid w' vo (.slice none 0 0) L []:=by
 have hb:Below w.heap.size w w':=hw'▸kO9 w _ _;refine⟨⟨bq,bo,by omega,by omega,hgo,by omega,by omega,by omega,by omega⟩,⟨?_,?_,kI ho hb,?_,⟨vs,h1,kNv h2 hb,fun k u hu=>⟨(h3 k u hu).below hb,fun j _=>by simp[Value.ownBlock]⟩⟩,zBt.nil _ _,⟨ap.1,ap.2,fun e=>?_,fun e=>?_⟩,⟨by simp[Value.ownBlock],by simp[Value.ownBlock],by simp[Value.ownBlock],by simp[Value.ownBlock]⟩⟩⟩
 ·exact(hb.cell (p:=⟨gq,0,none⟩) lq).trans ha
 ·have e:w'.heap[gw]? =some (.cells #[.func (.func 87) #[] #[.pointer (some ⟨gq,0,none⟩),.pointer (some ⟨go,0,none⟩),.pointer (some ⟨gh,0,none⟩),.pointer (some ⟨gw,0,none⟩)]] tw):=by
   have:=heap_alloc_new (w.alloc (.cells #[.slice none 0 0] 27)) (.cells #[.func (.func 87) #[] #[.pointer (some ⟨gq,0,none⟩),.pointer (some ⟨go,0,none⟩),.pointer (some ⟨gh,0,none⟩),.pointer (some ⟨gw,0,none⟩)]] tw);rw[<-hw',sz1,<-lB]at this;exact this
  simp[World.cell?,e]
 ·rw[hw',Below.heap_alloc _ _ _ (by rw[sz1];omega),DY];exact heap_alloc_new _ _
 ·have:=(h2.lt _ e).2;omega
 ·have:=(h2.lt _ e).2;omega
theorem three_holds (w:World)(o o' o'':Obj):kOy [(w.heap.size+2,o''),(w.heap.size+1,o'),(w.heap.size,o)] (((w.alloc o).alloc o').alloc o''):=by
 have:=((kOy.nil w).add2 o o').add o'';rwa[show((w.alloc o).alloc o').heap.size=w.heap.size+2 by simp]at this
theorem kRd {P:Prop}(h:P:=by
 go_wp2_with(first
  |(refine HC.o.mono ?_;rintro e w9 ⟨rfl,⟨Fp,Fq,gN⟩,bu⟩;have vQ:=gN.quit;obtain⟨A9,c9,rfl,_⟩:=vQ.form;have DZ:=hd vQ;have bw:=hd (gV.o.trans bu);obtain⟨g0,g1⟩:=kNr gN.o;clear vQ gN bu d7 n0 n1 n2 n3)
  |fail)
 go_ret
 exact⟨A9,c9,by rw[Bp.o];rfl,by rw[Bp.o];exact DZ.o,bw.o⟩):P:=h
theorem kTw (K:Ask fid lv)(d:Nat)(w:World)(v:Value)(n:NT)(hn:zV d w w.heap.size v n)(hsz:sizeT n<=1800000):
  Calls Tryz.prog 49 #[v,.func (.func fid) #[] #[]] w (kYm w.heap.size (pathsN lv n []) w):=by
 obtain⟨lf,PA,np,pc,TA,nt,tc,KA,nk,kc,rfl⟩:=hn.val;have DL:=K.enters;have xE:=enters_of Tryz.func87 Ka rfl;have yA:=kRb lv n [];obtain⟨ab,hab⟩:∃ab,(n.lf|| !lv)=ab:=⟨_,rfl⟩;rw[hab]at yA;have HK:=fun(X:World)(hb:Below w.heap.size w X)=>hd (show Calls Tryz.prog fid #[_] X (jA (.bool ab) X)from hab▸K.does d X _ n (hn.later hb));have HN:=hd hn;have Bp:=hd yA;clear hn yA hab;go_enter Tryz.func49,Tryz.ntmps49
 go_wp2_with fail
 generalize hW:World.alloc (World.alloc (World.alloc w _) _) _=W3
 have hb3:Below w.heap.size w W3:=hW▸((Kl.alloc Km _).alloc Kc _).alloc (by simp<;>omega) _;have hx3:kOy _ W3:=hW▸three_holds w _ _ _;have hs3:W3.heap.size=w.heap.size+3:=by rw[<-hW];simp
 have bT:=hd hb3;have Bq:=hd hx3;have vD:=hd hs3;clear hW hb3 hx3 hs3;cases ab
 ·go_upto_region 7 with(first
   |(refine(HK _ bT.o).o.mono ?_;rintro e w1 ⟨rfl,hb1⟩;have aO:=hd (bT.o.trans (hb1.mono bT.o.size));have qM:=hd (Bq.o.keep hb1);have hz1:=hb1.size;rw[vD.o]at hz1;obtain⟨o0,o1⟩:=kNr (qM.o.hd);clear hb1))
  generalize dJ:World.alloc (World.alloc w1 _) _=W5
  have iz:Below w1.heap.size w1 W5:=dJ▸kO9 w1 _ _;obtain⟨bx,i5⟩:=kTf (B:=w.heap.size) (gq:=w.heap.size+1) (go:=w.heap.size+1+1) (fid:=fid) (vo:=.slice none 0 0) (L:=[]) (vs:=[]) Kb Kb Kb rfl rfl Kb Kb (kNr (qM.o.tl.hd)).1 (qM.o.hd) rfl (World.ownsRow_nil _ _ _ _) Kc (by simp[Value.ownBlock]) dJ.symm;have gV:=hd (aO.o.trans (iz.mono aO.o.size));have Ea:=hd (qM.o.keep iz);clear dJ iz o0 o1;have HC:=hd (kSc bx K d W5 _ n _ _ _ [] ((HN.o.below (gV.o))) i5 gV.o.size Kf Kf);have d7:=i5.walk;obtain⟨n0,n1,n2,n3,-⟩:=zJ (Ea.o.tl.tl.hd);clear i5;exact kRd
 ·go_upto_region 7 with(first
   |(refine(HK _ bT.o).o.mono ?_;rintro e w1 ⟨rfl,hb1⟩;have aO:=hd (bT.o.trans (hb1.mono bT.o.size));have qM:=hd (Bq.o.keep hb1);have hz1:=hb1.size;rw[vD.o]at hz1;obtain⟨o0,o1⟩:=kNr (qM.o.hd);clear hb1)
   |(at_builtin;refine kNu kYl _ rfl (.tmp 11) (.tmp 12) rfl w.heap.size rfl (some ⟨w1.heap.size,0,none⟩) 1 1 (w1.heap.size+1) [.slice none 0 0] rfl rfl (zYo w1 _ [.slice none 0 0]) (by simp[Value.oneCell']) Kg Kb (by simp<;>omega) ?_;intro A2 c2 w2 hown2 hgrow2 uG;have hb2:Below w1.heap.size w1 w2:=(kNn w1 _).trans (hgrow2.mono Kc);have aL:=hd (aO.o.trans (hb2.mono aO.o.size));have oD:=hd (qM.o.keep hb2);have qz:=hd hown2;have nr:=hd uG;have hz2:=hb2.size;obtain⟨p0,p1⟩:=kNr (oD.o.hd);clear hb2 hown2 hgrow2 uG))
  generalize dJ:World.alloc (World.alloc (World.setCell w2 _ _) _) _=W5
  obtain⟨ws,hws⟩:∃ws,ws=w2.setCell ⟨w.heap.size+1+1,0,none⟩ (.slice A2 1 c2):=⟨_,rfl⟩;rw[<-hws]at dJ;have Eb:ws.heap.size=w2.heap.size:=by rw[hws];simp
  have hap:∀g,g<w1.heap.size->(Value.slice A2 1 c2).ownBlock≠some g:=fun g hg e=>by
   rcases nr.o with h|⟨g',h,hg'⟩
   ·rw[h]at e;cases e
   ·rw[h]at e;injection e with e;simp at hg';omega
  have hbs:Below w.heap.size w ws:=hws▸aL.o.setCell (by show _<=w.heap.size+1+1;omega) _;have lV:ws.heap[w.heap.size+1]? =_:=hws▸(Below.heap_setCell _ _ _ _ (by show w.heap.size+1≠w.heap.size+1+1;omega)).trans (oD.o.tl.hd);have Br:ws.heap[w.heap.size]? =_:=hws▸(Below.heap_setCell _ _ _ _ (by show w.heap.size≠w.heap.size+1+1;omega)).trans (oD.o.tl.tl.hd);have eD:ws.heap[w.heap.size+1+1]? =some (.cells #[.slice A2 1 c2] 66 (0,0)):=by rw[hws,zG4 (oD.o.hd)];rfl
  have tL:ws.ownsRow w.heap.size 27 1 (.slice A2 1 c2) 1 [.slice none 0 0]:=hws▸ownsRow_setCell_other qz.o (a:=⟨w.heap.size+1+1,0,none⟩) (hap _ (by show w.heap.size+1+1<_;omega)) _;have iz:Below ws.heap.size ws W5:=dJ▸kO9 ws _ _;obtain⟨bx,i5⟩:=kTf (B:=w.heap.size) (gq:=w.heap.size+1) (go:=w.heap.size+1+1) (gh:=w2.heap.size) (gw:=w2.heap.size+1) (fid:=fid) (vo:=.slice A2 1 c2) (L:=[[]]) (vs:=[.slice none 0 0]) Kb Kb Kb Kb Kb Kb Kb (kNr lV).1 eD rfl tL (fun k u hu=>by
   match k,hu with
   |0,hu=>simp at hu;subst hu;exact zBt.nil _ _
   |k+1,hu=>simp at hu) ⟨hap _ Kb,hap _ Kb⟩ dJ.symm
  have gV:=hd (hbs.trans (iz.mono hbs.size));have Bt:=kI Br iz;clear dJ iz o0 o1 p0 p1 hws Eb hap hbs lV Br eD tL;have HC:=hd (kSc bx K d W5 _ n _ _ _ [] ((HN.o.below (gV.o))) i5 gV.o.size Kf Kf);have d7:=i5.walk;obtain⟨n0,n1,n2,n3,-⟩:=zJ Bt;clear Bt;clear i5;exact kRd
theorem kP5 (d:Nat)(w:World)(v:Value)(n:NT)(hn:zV d w w.heap.size v n)(hsz:sizeT n<=1800000):Calls Tryz.prog 22 #[v] w (kYm w.heap.size (pathsN false n []) w):=by
 obtain⟨lf,PA,np,pc,TA,nt,tc,KA,nk,kc,rfl⟩:=hn.val;have hb:=kNn w (.cells #[.bool lf,.slice PA np pc,.slice TA nt tc,.slice KA nk kc] 26);have HC:=hd (kTw kYp d _ _ n (hn.later hb) hsz);have HB:=hd hb;clear hn;go_enter Tryz.func22,Tryz.ntmps22
 go_wp2_with(first
  |(refine HC.o.mono ?_;rintro e w1 ⟨A1,c1,rfl,hq1,hb1⟩;have vq:=hd hq1;have aO:=hd (HB.o.trans (hb1.mono HB.o.size));clear hq1 hb1))
 go_ret
 exact⟨A1,c1,rfl,vq.o.weaken HB.o.size HB.o.size,aO.o⟩
theorem kV5 {a:OpP}(gJ:sizeT n<=1000)(h19:1<=a.k/\a.k<=8/\doO n a=(x,0)∨a.k=9/\x=n)(e:a.k=3):∃u i,a.q=u++[((i+1:Nat):Int)]/\i<=1000:=by
 rcases h19 with⟨h1,h8,hd⟩|⟨h9,_⟩
 ·rcases zC7 h1 h8 hd with⟨e2,h⟩|⟨e2,h⟩|⟨e2,h⟩|⟨e2,h⟩|⟨e2,h⟩|⟨e2,h⟩|⟨e2,h⟩|⟨e2,h⟩
  case inr.inr.inl=>
   obtain⟨u,i,y,b,k,hf⟩:=zC5 h;have:=kNp gJ hf.at_;have:=(List.getElem?_eq_some_iff.1 hf.k_).1;exact⟨u,i,hf.path,by omega⟩
  all_goals omega
 ·omega
theorem kQw {P:Program}{ops:Array Oper}{Q:Exit->Act->World->Prop}{dst:Option Nat}{ty:TypeId}{k:Nat}{ps:Array (Nat×Operand)}{t:TypeId}{pos:String}{af:Array Edge}{rest:List Oper}{a:Act}(h:wpList P ops Q ({dst:=dst,op:=.buildSlice ty k ps,type:=t,pos:=pos,after:=af,guard:=none}::rest) a w):wpList P ops Q ({dst:=dst,op:=.buildSlice ty k ps,type:=t,pos:=pos,after:=af,guard:=none}::rest) a w:=h
def kSl (g:NT)(q:List Int):Int:=match kB g q with
 |some y=>y.tx.head?.getD (-1)
 |none=> -1
theorem kSd {y:NT}{l:Int}(h:kB g q=some y)(hl:kOo y=some l):kSl g q=l:=by
 unfold kSl kOo at*;rw[h];simp only[hl,Option.getD_some]
theorem kQx {e:Ending}(h:kWc w g q e w'):∃b R K,e=.returned (.pointer (some ⟨b,0,none⟩))/\jT 64 w' b #[.int .i64 (kSl g q),R,K]/\Below w.heap.size w w':=by
 obtain⟨b,lab,R,K,h1,h2,h3,h4⟩:=h;refine⟨b,R,K,h1,?_,h3⟩;rcases h4 with⟨y,h5,h6⟩|⟨h5,h6⟩
 ·rw[kSd h5 h6];exact h2
 ·have e:kSl g q= -1:=by unfold kSl;rw[h5]
  rw[e,<-h6];exact h2
theorem kU1 {v:Value}{F:Nat->Prop}{l:Int}(hG:Gh w v g F)(h0:0<=l)(h:kSl g q=l):∃z,kB g q=some z/\kOo z=some l:=by
 cases hz:kB g q with
 |none=>unfold kSl at h;rw[hz]at h;simp only at h;omega
 |some z=>
  obtain⟨lab,rs,ks,rfl⟩:=hG.form hz;refine⟨_,rfl,?_⟩;unfold kSl at h;rw[hz]at h;simp at h;subst h;rfl
theorem kU2 {c:NC}{o:OC}{A:Option Addr}{lp cp:Nat}{yn:NT}{tl:Sl}{a:OpP}{p qs:List Int}{ec:Int}(hn:kS w c n)(ho:OkA w o a)(hp:kNz w A lp cp p)(h1:zI5 100 n=true)(h2:zT3 a=true)(h3:lp<=50)(bQ:(zGm n p).2=ec)(i6:ec=0)(hgo:kB n p=some yn)(hap:jL n zeroS a=((x,tl),0))(gJ:sizeT n<=1000)(gI:sizeT x<=1000)
  (hlat:∀(w0 w:World)(v:Value)(F:Nat->Prop),Gh w v (kQe n 0) F->(∀q,F q->w0.heap.size<=q/\q<w.heap.size)->OkA w0 o a->Below w0.heap.size w0 w->∃g',(∀p yn l y,kB n p=some yn->kB (kQe n 0) p=some y->kOo y=some l->0<=l->kVe x a g' p l)/\Calls Tryz.prog 17 #[v,.agg o.row] w (kSo F v g' w))
  (hm:jF a.k a.q a.t a.z p=(qs,true)) (hne:¬(a.k=3/\p=a.q)):Calls Tryz.prog 5 #[.agg c.row,.agg o.row,.slice A lp cp] w (jW w):=by
 have iM:(ec !=0)=false:=by simp[i6]
 clear i6;have sy:=hd hm;have lN:=hd hne;clear hm hne;have lI:=hd gJ;have lW:=hd gI;have fY:=hd hlat;have px:=hd hgo;have lX:=hd (kOi (p:=p) (by rw[hp.len];exact h3));clear hlat hgo gJ gI;have H1:=hd h1;have H2:=hd h2;have jb:=hd (kNy h1 h2 hn ho).1;have HP:=hd hp;have jv:=hd hap;have oH:=hd (kOi (p:=p) (by rw[hp.len];exact h3));have lF:=hd (kPm n p▸bQ:chkR n (pathR p)=ec);clear h1 h2 hp hap bQ;obtain⟨W0,hW,hst⟩:=kRg w c o;have HW:=hd hW;have HS:=hd hst;have HN:=hd hn;have HO:=hd ho;clear hW hst hn ho;go_enter Tryz.func5,Tryz.ntmps5
 go_upto_region 1 with fail
 rw[HW.o];go_upto_region 9 with(first
  |(go_at_call 6;refine Calls.mono (kPc _) ?_;rintro e w1 ⟨rfl,b9⟩;have HS:=hd (HS.o.call b9);clear b9)
  |((with_reducible refine zC (ty:=26) (x:=.tmp 3) ?_);refine zB zD HS.o.v3 rfl _ rfl rfl rfl ?_)
  |(go_at_call 7;refine Calls.mono (zTe (HN.o.later HS.o.below) (by unfold zFf;omega) H1.o) ?_;rintro e w2 ⟨rfl,b9⟩;have HS:=hd (HS.o.call b9);clear b9)
  |((with_reducible refine kH (ty:=35) (x:=.tmp 4) ?_);refine zDq HS.o.v4 _ rfl Ke rfl ?_)
  |((with_reducible refine zC (ty:=35) (x:=.tmp 4) ?_);refine zG HS.o.v4 _ rfl rfl rfl ?_)
  |(go_at_call 8;refine Calls.mono (kJm (HO.o.later HS.o.below) H2.o) ?_;rintro e w3 ⟨rfl,b9⟩;have HS:=hd (HS.o.call b9);clear b9)
  |((with_reducible refine zF (ty:=37) (x:=.tmp 7) ?_);refine kN1 (c:=kN4 A lp cp) _ _ rfl rfl rfl rfl rfl rfl rfl ?_;have aJ:=hd (kN3 w3 (kN4 A lp cp)).1;have HS:=hd (HS.o.call (kN3 w3 (kN4 A lp cp)).2);have xu:=hd (show w3.alloc (.cells (kN4 A lp cp).row 37)=w3.alloc (.cells (kN4 A lp cp).row 37)from rfl))
  |(go_at_call 11;refine Calls.mono (zA4 (s:=⟨false,none,0,0,0,none,0,0,0⟩) (HN.o.later HS.o.below) (zIi.zero _) (HO.o.later HS.o.below) jb.o jv.o) ?_;rintro e w4 ⟨ca,ct,rfl,jc,hsa,b9⟩;have aM:=hd jc;have aJ:=hd (aJ.o.keep b9);have HS:=hd (HS.o.call b9);clear b9 jc hsa;dsimp only)
  |((with_reducible refine zF (ty:=26) (x:=.tmp 8) ?_);refine zA zD (r:=ca.row) (zDj w4) rfl rfl ca.one _ _ rfl rfl rfl rfl rfl ?_;intro W7 bJ aU;have ar:=hd bJ;have HT:=hd (zDk aU);clear bJ aU)
  |((with_reducible refine zF (ty:=33) (x:=.tmp 9) ?_);refine zA kYr (r:=ct.row) HT.o.2 rfl rfl ct.one _ _ rfl rfl rfl rfl rfl ?_;intro W8 bS bb;have bR:=hd (zDl HT.o.1 bb);have ar:=hd (ar.o.off bb Kb);have aJ:=hd (aJ.o.keep bR.o);have HS:=hd (HS.o.call bR.o);have aM:=hd (aM.o.later bR.o);clear bS bb HT bR)
  |((with_reducible refine kH (ty:=26) (x:=.tmp 3) ?_);refine zK zD HS.o.v3 rfl _ rfl Ke rfl ?_)
  |((with_reducible refine kH (ty:=37) (x:=.tmp 7) ?_);refine zK kOb aJ.o rfl _ rfl Ke rfl ?_)
  |(go_at_call 10;refine Calls.mono (kQh (HN.o.later HS.o.below) (kPh (HP.o.later HS.o.below)) oH.o lF.o) ?_;rintro e w5 ⟨rfl,b9⟩;have aJ:=hd (aJ.o.keep b9);have ar:=hd (ar.o.keep b9);have aM:=hd (aM.o.later b9);have HS:=hd (HS.o.call b9);clear b9)
  |((with_reducible refine kH (ty:=26) (x:=.tmp 8) ?_);refine zK zD ar.o rfl _ rfl Ke rfl ?_)
  |(go_at_call 12;refine Calls.mono (zHo (c':=(NC.mk false none 0 0 none 0 0 none 0 0)) aM.o (vw.o _) gQ.o) ?_;rintro e w9 ⟨rfl,b9⟩;have HS:=hd (HS.o.call b9);clear b9))
 clear lF jv;go_upto_region 10 with(first
  |((with_reducible refine zC (ty:=26) (x:=.tmp 3) ?_);refine zB zD HS.o.v3 rfl _ rfl rfl rfl ?_)
  |(go_at_call 16;refine Calls.mono (kOh (HN.o.later HS.o.below) (Int.le_refl 0) (by have:=lI.o;omega)) ?_;rintro e g9 ⟨pg,rfl,k1,k2⟩;have cv:=hd k1;have aJ:=hd (aJ.o.keep k2);have ar:=hd (ar.o.keep k2);have aM:=hd (aM.o.later k2);have HS:=hd (HS.o.call k2);clear k1 k2))
 have di:=hd (HO.o.later HS.o.below);have mD:=HS;have fZ:=aJ;have gf:=ar;have gj:=aM;clear aJ ar aM;go_upto_region 11 with(first
  |((with_reducible refine zC (ty:=26) (x:=.tmp 3) ?_);refine zB zD HS.o.v3 rfl _ rfl rfl rfl ?_)
  |(go_at_call 16;refine Calls.mono (kOh (HN.o.later HS.o.below) (Int.le_refl 0) (by have:=lI.o;omega)) ?_;rintro e g10 ⟨ph,rfl,k1,k2⟩;have py:=hd k1;have bP:=hd k2;have HS:=hd (HS.o.call k2);clear k1 k2))
 have cv:=hd (cv.o.later (fun q h=>h.2) bP.o);obtain⟨g2,hg2,hc2⟩:=fY.o g9 g10 ph _ py.o (fun q h=>h) di.o bP.o;have pz:=hd hg2;have pA:=hd hc2;clear hg2 hc2;go_upto_region 12 with(first
  |((with_reducible refine zC (ty:=35) (x:=.tmp 4) ?_);refine zG HS.o.v4 _ rfl rfl rfl ?_)
  |(go_at_call 17;refine pA.o.mono ?_;rintro e g11 ⟨F2,rfl,h1,h2,h3⟩;have h5:=h3.size;have h4:=h3.below (B:=g9.heap.size) bP.o.size (fun q _ h=>h.1);have cF:=hd h1;have dw:=hd (fun q(h:F2 q)=>(show q<g11.heap.size from(h2 q h).elim (fun h=>by omega) (fun h=>h.2)));have aN:=hd (bP.o.trans h4);clear h1 h2 h3 h5;have cj:=hd h4;clear h4))
 have cv:=hd (cv.o.frame (w':=g11) fun q hq=>cj.o.block q hq.2);have HS:=hd (mD.o.call aN.o);have aJ:=hd (fZ.o.keep aN.o);have ar:=hd (gf.o.keep aN.o);have aM:=hd (gj.o.later aN.o);have gm:=aN.o.size;obtain⟨y1,hy1,_⟩:=kOd p (kQe n 0) n yn (kQp n 0) px.o;have iN:=hd hy1;clear hy1 pA py fY di mD cj aN bP fZ gf gj;go_upto_region 13 with(first
  |(go_at_call 21;refine Calls.mono (kOf cv.o HP.o.len Kb (HP.o.later HS.o.below).il) ?_;rintro e pB ⟨bF,lab,RF,KF,rfl,gu,b9,ju⟩;have x0:=gu.cell 0 (.int .i64 lab) rfl;have jy:=hd ju;have cD:=hd b9;have aJ:=hd (aJ.o.keep b9);have ar:=hd (ar.o.keep b9);have aM:=hd (aM.o.later b9);have HS:=hd (HS.o.call b9);clear b9 gu ju))
 have hlb:kOo y1=some lab:=by
  rcases jy.o with⟨y,h1,h2⟩|⟨h1,_⟩
  ·rw[iN.o]at h1;injection h1 with h1;subst h1;exact h2
  ·rw[iN.o]at h1;cases h1
 have hl0:0<=lab:=((kPy lab n 0).2 (Nat.le_trans (kOn hlb) (kOu iN.o))).1;have jd:=hd (pz.o p yn lab y1 px.o iN.o hlb hl0);have cF:=hd (cF.o.later dw.o cD.o);have fQ:=hd (fun q(h:F2 q)=>Nat.lt_of_lt_of_le (dw.o q h) cD.o.size);obtain⟨r16,gy⟩:∃r,kRo a (pathR p)=r:=⟨_,rfl⟩;have gz:=hd gy;clear gy jy pz cv hlb x0 dw gm;go_upto_region 16 with(first
  |((with_reducible refine zC (ty:=37) (x:=.tmp 7) ?_);refine zB kOb aJ.o rfl _ rfl rfl rfl ?_)
  |((with_reducible refine kQw (ty:=42) (k:=1) ?_);refine kN0 (c:=kN4 A lp cp) _ rfl rfl rfl ?_;have b9:=(kN3 pB (kN4 A lp cp)).2;have fA:=hd (((RkL.one (kPh (HP.o.later HS.o.below))).later b9).lr (kRq pB (kN4 A lp cp)));have mE:=hd b9;have ar:=hd (ar.o.keep b9);have aM:=hd (aM.o.later b9);have HS:=hd (HS.o.call b9);clear b9)
  |((with_reducible refine zC (ty:=35) (x:=.tmp 4) ?_);refine zG HS.o.v4 _ rfl rfl rfl ?_)
  |(go_at_call 13;refine Calls.mono (gz.o▸kSq fA.o Km lX.o (HO.o.later HS.o.below) jb.o.tiny rfl rfl rfl) ?_;rintro e uH ⟨A6,n6,c6,Bu,rfl,k0,k1,k2,b9⟩;have k0:1=n6:=k0;subst k0;have iO:=hd k2;have gA:=hd (mE.o.trans (b9.mono mE.o.size));have ar:=hd (ar.o.keep b9);have aM:=hd (aM.o.later b9);have HS:=hd (HS.o.call b9);clear b9 k2))
 have cF:=hd (cF.o.later fQ.o gA.o);have lY:=hd (fun q(h:F2 q)=>Nat.lt_of_lt_of_le (fQ.o q h) gA.o.size);obtain⟨dn,pC⟩:=aM.o;have ny:=hd pC;clear pC fQ fA aJ;go_upto_region 18 with(first
  |((with_reducible refine zC (ty:=26) (x:=.tmp 8) ?_);refine zB zD ar.o rfl _ rfl rfl rfl ?_)
  |(go_at_call 22;refine Calls.mono (kP5 dn uH _ x ny.o (by have:=lW.o;omega)) ?_;rintro e gS ⟨A5,c5,rfl,lV,b5⟩;have ku:=hd lV.rl;have gB:=hd b5;have HS:=hd (HS.o.call b5);have iO:=hd (iO.o.later b5);clear lV b5))
 obtain⟨L,hL⟩:∃L,pathsN false x []=L:=⟨_,rfl⟩;have pD:∀p,p ∈ L->p.length<=1000:=fun p hp=>by
  have h9:=kOz false x [] p (by rw[hL];exact hp);have:=lW.o;rw[List.length_nil]at h9;omega
 obtain⟨⟨yq,mq,e1,e2,e3⟩,gD⟩:=jd.o.told qs sy.o lN.o;have Bv:qs ∈ L:=by rw[<-hL];exact(kP4 x qs).2 (by rw[e3];rfl)
 rw[hL]at ku⊢;obtain⟨N,hN⟩:∃N,L.length=N:=⟨_,rfl⟩;have Bw:N<=1000:=by have:=kPd false x [];have:=lW.o;rw[hL,hN]at*;omega
 rw[hN];have qN:=hd pD;have pp:=hd hN;have gM:=hd Bv;have vR:=hd gD;have aP:=hd (kSd e1 e2);have hst:r16.live=true/\r16.p=qs:=by
  rw[<-gz.o];unfold kRo;rw[if_neg (by simp[pathR]),if_pos (show(pathR p).kind=1 from rfl)];show(if(jF a.k a.q a.t a.z p).2=true then _ else _:kNx).live=true/\_
  rw[show(pathR p).p=p from rfl,sy.o];exact⟨rfl,rfl⟩
 have yB:=pp.o;have cF:=hd (cF.o.later lY.o gB.o);have sw:=hd (fun q(h:F2 q)=>Nat.lt_of_lt_of_le (lY.o q h) gB.o.size);obtain⟨b6,o6,d6,r6,rfl,ey,mP,pE,nY,dN⟩:=iO.o.at_ (k:=0) Kc;have er:r6=r16:=by simpa using pE.symm
 subst er;have hlv:d6.live=true:=by rw[<-nY.hlv];exact hst.1
 have aI:=hd (hst.2▸nY.hp:kNz gS d6.P d6.np d6.cp qs);have oK:=hd (show gS.cell? ⟨b6,o6+3,none⟩=some (.bool true) by have h9:=dN 3 (.bool d6.live) rfl;rw[hlv,Nat.zero_mul,Nat.add_zero]at h9;exact h9);have oM:=hd (show gS.cell? ⟨b6,o6+4,none⟩=some (.slice d6.P d6.np d6.cp) by have h9:=dN 4 (.slice d6.P d6.np d6.cp) rfl;rw[Nat.zero_mul,Nat.add_zero]at h9;exact h9);have ay:=hd ey;clear hL pD hN Bv gD e1 e2 e3 hst ey mP pE nY dN hlv iO lY ny jd ar aM yB;go_loopw [17,91] (fun v i wr=>∃(k:Nat)(z:Int),i=.int .i64 k/\k<=N/\v=.int .i64 z/\Kr (0<=z∨∀j,j<k->lAt L j≠qs)/\Kr (Below gS.heap.size gS wr)) (fun _ i _=>N-(intOf i).toNat)
 case atStart=>exact⟨0,-1,rfl,Nat.zero_le _,rfl,hd (.inr (fun j hj=>absurd hj (Nat.not_lt_zero _))),hd Kl⟩
 case round=>
  obtain⟨k,z,rfl,yB,rfl,HI,aK⟩:=hrel;by_cases hkl:k<N
  ·have nZ:k<L.length:=by rw[pp.o];exact hkl
   obtain⟨p9,pF⟩:∃p,lAt L k=p:=⟨_,rfl⟩;have nu:L[k]? =some p9:=by rw[List.getElem?_eq_getElem nZ,<-kSa L k nZ,pF]
   obtain⟨gb,go,Ak,ck,rfl,hgb,hcell,bQ,pG⟩:=(ku.o.later aK.o).at_ nZ;rw[pF]at hcell bQ pG;have hpl:=qN.o p9 (List.mem_of_getElem? nu);obtain⟨l9,oa⟩:∃l9,p9.length=l9:=⟨_,rfl⟩;rw[oa]at hcell bQ hpl;have yC:=hd (show XA wr (.slice Ak l9 ck) p9 from⟨Ak,l9,ck,rfl,oa,hpl,bQ,pG⟩);have jg:=hd pG;have uI:=hd oa;have Ec:=hd pF;have yD:(k:Int)<(N:Int):=Kb;have jn:=hd (cF.o.later sw.o aK.o);have x3:=(aK.o.cell (p:=⟨b6,o6+3,none⟩) ay.o).trans oK.o;have x4:=(aK.o.cell (p:=⟨b6,o6+4,none⟩) ay.o).trans oM.o;clear nu pF nZ bQ pG hgb oa;by_cases hq:p9=qs
   ·have E2:=hd (show kSl g2 p9=lab by rw[hq];exact aP.o);have gQ:=hd (show zEd qs p9=true by rw[hq];simp[zEd]);have hll:(lab==lab)=true:=by simp
    have yE:d6.np<=1000:=by have h1:=aI.o.len;have h2:=uI.o;rw[hq]at h2;omega
    clear hq;go_wp2_with(first
     |(go_at_call 21;refine Calls.mono (kOf jn.o uI.o hpl jg.o) ?_;rintro e yF hfo;obtain⟨bF,RF,KF,rfl,gu,b9⟩:=kQx hfo;clear hfo;have x0:=gu.cell 0 (.int .i64 (kSl g2 p9)) rfl;rw[E2.o]at x0;have gN:=aK.o.size;rw[<-b9.cell (p:=⟨b6,o6+3,none⟩) (Nat.lt_of_lt_of_le ay.o gN)]at x3;rw[<-b9.cell (p:=⟨b6,o6+4,none⟩) (Nat.lt_of_lt_of_le ay.o gN)]at x4;have yC:=hd (yC.o.later b9);have aK:=hd (zI aK.o b9);clear b9 gu gN)
     |(go_at_call 23;refine Calls.mono (kEp (⟨d6.P,d6.np,d6.cp,rfl,aI.o.len,yE,aI.o.cap,(aI.o.later aK.o).il⟩:XA yF (.slice d6.P d6.np d6.cp) qs) yC.o gQ.o) ?_;rintro e Fu ⟨rfl,b9⟩;have aK:=hd (zI aK.o b9);clear b9))
    go_roundw
    case rel=>exact⟨k+1,(k:Int),by go_num,by omega,rfl,hd (.inl Kb),aK⟩
    case measure=>simp[intOf];omega
   ·have e2:(kSl g2 p9==lab)=false:=by
     rw[beq_eq_false_iff_ne];intro e;obtain⟨zz,h8,h9⟩:=kU1 jn.o hl0 e;exact hq (vR.o p9 zz h8 h9)
    have bI:=hd (show 0<=z∨∀j,j<k+1->lAt L j≠qs by
     rcases HI.o with h|h
     ·exact .inl h
     ·refine .inr fun j hj=>?_;rcases(show j<k∨j=k by omega)with h9|rfl
      ·exact h j h9
      ·rw[Ec.o];exact hq)
    obtain⟨lf,bW⟩:∃lf,kSl g2 p9=lf:=⟨_,rfl⟩;have E2:=hd bW;rw[bW]at e2;clear hq bW HI;go_wp2_with(first
     |(go_at_call 21;refine Calls.mono (kOf jn.o uI.o hpl jg.o) ?_;rintro e yF hfo;obtain⟨bF,RF,KF,rfl,gu,b9⟩:=kQx hfo;clear hfo;have x0:=gu.cell 0 (.int .i64 (kSl g2 p9)) rfl;rw[E2.o]at x0;have aK:=hd (zI aK.o b9);clear b9 gu))
    go_roundw
    case rel=>exact⟨k+1,z,by go_num,by omega,rfl,bI,aK⟩
    case measure=>simp[intOf];omega
  ·obtain rfl:k=N:=Kb;have hz:0<=z:=by
    rcases HI.o with h|h
    ·exact h
    ·obtain⟨j,hj⟩:=List.getElem?_of_mem gM.o;have hjl:=(List.getElem?_eq_some_iff.1 hj).1;exact absurd (by rw[kSa L j hjl];exact(List.getElem?_eq_some_iff.1 hj).2) (h j (by rw[<-pp.o];exact hjl))
   have fC:=hd (HS.o.call aK.o);clear HI;go_wp2_with fail
   go_ret
   exact⟨rfl,fC.o.below⟩
