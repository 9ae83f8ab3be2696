import Derived.Test.YtmkciabefepelaaGreatHDo2
set_option maxRecDepth 100000
namespace Go.Proofs.YtmkciabefepelaaGreat
open Go.RowKit
variable {w:World}{A:Option Addr}{l rs rsk:List Int}
theorem kNm {P Q:Prop}(k:Q)(h:Q->P:=by
 intro kk;simp only[Act.put,List.getElem_toArray,List.getElem_cons_succ,List.getElem_cons_zero,List.setIfInBounds_toArray,List.set_cons_succ,List.set_cons_zero];exact kk):P:=h k
theorem kQy {B:Nat}(h:IL w B A l):VL w B A (l.map (Value.int .i64)):=fun hn=>by
 obtain⟨b,o,e,hb,hc⟩:=h (fun e=>hn (by rw[e];rfl));refine⟨b,o,e,hb,fun k v hk=>?_⟩;rw[List.getElem?_map]at hk;have hl:k<l.length:=Nat.lt_of_not_le fun h=>by rw[List.getElem?_eq_none h]at hk;cases hk
 rw[List.getElem?_eq_getElem hl]at hk;simp only[Option.map_some,Option.some.injEq]at hk;rw[hc k hl,<-hk];unfold iAt;simp[List.getD_eq_getElem?_getD,hl]
theorem kOo {base n c:Nat}(h:w.ownsRow base 3 1 (.slice A n c) n (l.map (Value.int .i64))):IL w w.heap.size A l:=fun hn=>by
 obtain⟨A',c',e,_,_,hf⟩:=zC9 h;injection e with e1 _ _;subst e1;have hc:∀k,k<l.length->(l.map (Value.int .i64))[k]? =some (.int .i64 (iAt l k)):=fun k hk=>by
  rw[List.getElem?_map,List.getElem?_eq_getElem hk];unfold iAt;simp[List.getD_eq_getElem?_getD,hk]
 obtain⟨g,rfl,_,hg,_,_⟩:=hf 0 _ (hc 0 (List.length_pos_iff.2 hn));refine⟨g,0,rfl,hg,fun k hk=>?_⟩;obtain⟨g',e,_,_,h4,_⟩:=hf k _ (hc k hk);injection e with e;injection e with e;subst e;rw[Nat.zero_add];exact h4
theorem GhO.join {w':World}{b bk:Nat}{lab labk:Int}{ks ksk:List NT}{R K Rk Kk R' K':Value}{us usk:List Value}{Fs Fsk:Nat->Nat->Prop}{F Fk:Nat->Prop}(h:GhO w b lab rs ks R K us Fs F)(hk:GhO w bk labk rsk ksk Rk Kk usk Fsk Fk)(hF:∀q,F q->q<w.heap.size)(ir:∀q,Fk q->q<w.heap.size/\¬F q)
  (hv:jT 59 w' b #[.int .i64 lab,R',K']) (hr:w'.ownsRow 0 3 1 R' (rs.length+rsk.length) (rs.map (Value.int .i64)++rsk.map (Value.int .i64))) (hK:w'.ownsRow 0 49 1 K' (ks.length+ksk.length) (us++usk))
  (iU:∀q,R'.ownBlock=some q->R.ownBlock=some q∨w.heap.size<=q) (hka:∀q,K'.ownBlock=some q->R'.ownBlock≠some q/\(K.ownBlock=some q∨w.heap.size<=q)) (keep:∀q,q<w.heap.size->q≠b->R.ownBlock≠some q->K.ownBlock≠some q->w'.heap[q]? =w.heap[q]?):
  Gh w' (.pointer (some ⟨b,0,none⟩)) (.mk false [] (lab::(rs++rsk)) (ks++ksk)) (fun q=>F q∨Fk q∨(w.heap.size<=q/\q<w'.heap.size)):=by
 have hbl:=h.hb.lt;have yD:∀j q,Fs j q->q<w.heap.size/\q≠b/\R'.ownBlock≠some q/\K'.ownBlock≠some q:=fun j q hq=>by
  have hs:=h.sub j q hq;have hl:=hF q hs.1;refine⟨hl,hs.2.1,fun e=>?_,fun e=>?_⟩
  ·rcases iU q e with e|e
   ·exact hs.2.2.1 e
   ·omega
  ·rcases(hka q e).2 with e|e
   ·exact hs.2.2.2 e
   ·omega
 have yE:∀j q,Fsk j q->q<w.heap.size/\q≠b/\R'.ownBlock≠some q/\K'.ownBlock≠some q:=fun j q hq=>by
  have hs:=ir q (hk.sub j q hq).1;refine⟨hs.1,fun e=>hs.2 (e▸h.hF),fun e=>?_,fun e=>?_⟩
  ·rcases iU q e with e|e
   ·exact hs.2 (h.fr q e).1
   ·omega
  ·rcases(hka q e).2 with e|e
   ·exact hs.2 (h.fk q e).1
   ·omega
 refine .mk _ b lab (rs++rsk) (ks++ksk) R' K' (us++usk) (fun j=>if j<ks.length then Fs j else Fsk (j-ks.length)) hv (.inl h.hF) (by rw[List.length_append,List.map_append];exact hr) (by rw[List.length_append];exact hK) (by rw[List.length_append,List.length_append,h.hl,hk.hl])
  (fun q hq=>?_) (fun q hq=>?_) (fun j m u e1 e2=>?_) (fun j q hq=>?_) (fun i j q hne h1 h2=>?_)
 ·rcases iU q hq with e|e
  ·exact⟨.inl (h.fr q e).1,(h.fr q e).2⟩
  ·exact⟨.inr (.inr ⟨e,(hr.lt q hq).2⟩),by omega⟩
 ·rcases(hka q hq).2 with e|e
  ·exact⟨.inl (h.fk q e).1,(h.fk q e).2.1,(hka q hq).1⟩
  ·exact⟨.inr (.inr ⟨e,(hK.lt q hq).2⟩),by omega,(hka q hq).1⟩
 ·by_cases hj:j<ks.length
  ·rw[List.getElem?_append_left hj]at e1;rw[List.getElem?_append_left (by rw[h.hl];exact hj)]at e2;rw[if_pos hj];exact(h.kids j m u e1 e2).frame fun q hq=>keep q (yD j q hq).1 (h.sub j q hq).2.1 (h.sub j q hq).2.2.1 (h.sub j q hq).2.2.2
  ·rw[List.getElem?_append_right Kb]at e1;rw[List.getElem?_append_right (by rw[h.hl];omega),h.hl]at e2;rw[if_neg hj];exact(hk.kids _ m u e1 e2).frame fun q hq=>by
    have hs:=ir q (hk.sub _ q hq).1;exact keep q hs.1 (yE _ q hq).2.1 (fun e=>hs.2 (h.fr q e).1) (fun e=>hs.2 (h.fk q e).1)
 ·by_cases hj:j<ks.length
  ·rw[if_pos hj]at hq;exact⟨.inl (h.sub j q hq).1,(yD j q hq).2⟩
  ·rw[if_neg hj]at hq;exact⟨.inr (.inl (hk.sub _ q hq).1),(yE _ q hq).2⟩
 ·by_cases h3:i<ks.length
  ·rw[if_pos h3]at h1;by_cases h4:j<ks.length
   ·rw[if_pos h4]at h2;exact h.dis i j q hne h1 h2
   ·rw[if_neg h4]at h2;exact(ir q (hk.sub _ q h2).1).2 (h.sub i q h1).1
  ·rw[if_neg h3]at h1;by_cases h4:j<ks.length
   ·rw[if_pos h4]at h2;exact(ir q (hk.sub _ q h1).1).2 (h.sub j q h2).1
   ·rw[if_neg h4]at h2;exact hk.dis _ _ q Kb h1 h2
set_option maxHeartbeats 8000000 in
theorem kTj {w0:World}{v:Value}{g:NT}{F:Nat->Prop}{o:OC}{a:OpP}{u:List Int}{i:Nat}{x _k:NT}{lab labk:Int}{ks ksk:List NT}(hG:Gh w v g F)(hF:∀q,F q->w0.heap.size<=q/\q<w.heap.size)(ho:OkA w0 o a)(hw:Below w0.heap.size w0 w)(ta:zAf a)(hk:o.k=3)(bn:a.q=u++[((i+1:Nat):Int)])(hx:kB g u=some x)(hi:x.ks[i+1]? =some (.mk false [] (labk::rsk) ksk))(hs:x.ks.length<=500000)(hbk:kB (putT g u (jS x (i+1) 1 [])) (u++[(i:Int)])=some (.mk false [] (lab::rs) ks))(hsz:rs.length+rsk.length<=500000/\ks.length+ksk.length<=500000):Calls Tryz.prog 24 #[v,.agg o.row] w (kRn F v (putT (putT g u (jS x (i+1) 1 [])) (u++[(i:Int)]) (.mk false [] (lab::(rs++rsk)) (ks++ksk))) w):=by
 first|have k1:(o.k==1)=true:=by simp[hk]|have k1:(o.k==1)=false:=by simp[hk]
 first|have k2:(o.k==2)=true:=by simp[hk]|have k2:(o.k==2)=false:=by simp[hk]
 first|have k3:(o.k==3)=true:=by simp[hk]|have k3:(o.k==3)=false:=by simp[hk]
 first|have k4:(o.k==4)=true:=by simp[hk]|have k4:(o.k==4)=false:=by simp[hk]
 first|have k5:(o.k==5)=true:=by simp[hk]|have k5:(o.k==5)=false:=by simp[hk]
 first|have k7:(o.k==7)=true:=by simp[hk]|have k7:(o.k==7)=false:=by simp[hk]
 first|have k8:(o.k==8)=true:=by simp[hk]|have k8:(o.k==8)=false:=by simp[hk]
 clear hk;have hlq:o.lq=u.length+1:=by have:=ho.hlq;rw[bn]at this;simp at this;omega
 have br:=ta.hq;have iu:u.length+1<=60:=by rw[bn]at br;simpa using br
 have hin:=ho.hiq;rw[bn]at hin;obtain⟨lu,fg⟩:∃l,u.length=l:=⟨_,rfl⟩;rw[fg]at hlq iu;have fF:=hd bn;have HX:=hd hx;have HI:=hd hi;have HS:=hd hs;have fh:=hd hbk;have dC:=hd hsz;have dS:=hd hin;have aQ:=hd hlq;have fG:=hd fg;have gZ:=hd br;clear bn hx hi hs hbk hsz hin hlq fg br;obtain⟨W1,hW1⟩:∃W,w.alloc (.cells o.row 35)=W:=⟨_,rfl⟩;have hv:jR W1 w.heap.size o:=hW1▸jR.new w o;have aw:Below w.heap.size w W1:=hW1▸Kl.alloc Km _;have fC:=hw.size;have HV:=hd hv;have HB:=hd (hw.trans (aw.mono fC));have HG:=hd (hG.later (fun q h=>(hF q h).2) aw);have HF:=hd (fun q(h:F q)=>(⟨(hF q h).1,(hF q h).2,Nat.lt_of_lt_of_le (hF q h).2 aw.size⟩:w0.heap.size<=q/\q<w.heap.size/\q<W1.heap.size));have HT:=hd (Tch.of_below (F:=F) aw);have HO:=hd ho;have au:=hd ta;have HW:=hd hW1;have hs1:W1.heap.size=w.heap.size+1:=by rw[<-hW1];simp
 clear hG hF ho hw ta hv aw hW1;go_enter Tryz.func24,Tryz.ntmps24
 go_upto_region 1 with fail
 rw[HW.o];clear HW;go_upto_region 10 with(first
  |((with_reducible refine zC (ty:=3) (x:=.tmp 17) ?_);refine zE HV.o (j:=0) (v:=.int .i64 o.k) _ rfl rfl rfl rfl Tryz.underlying3 rfl ?_)
  |((with_reducible refine zC (ty:=27) (x:=.tmp 43) ?_);refine zE HV.o (j:=1) (v:=.slice o.Q o.lq o.cq) _ rfl rfl rfl rfl Tryz.underlying27 rfl ?_)
  |(go_at_call 66;refine Calls.mono (kP2 HG.o (fun q h=>(HF.o q h).2.2) (by rw[<-fF.o];exact(HO.o.later HB.o).hasq au.o) HX.o HI.o HS.o) ?_;rintro e w2 ⟨p,Fk,F2,rfl,h1,h2,h3,h4,h5⟩;have hs2:=h5.size;have jm:=hd h1;have HG2:=hd h2;have jn:=hd h3;have iV:=hd h4;have iw:=hd h5;have aT:=hd (HB.o.trans (h5.below Kb (fun q _ h=>(HF.o q h).1)));have ah:=hd (show jR w2 w.heap.size o from(h5.block _ HV.o.lt (fun e=>by have:=(HF.o _ e).2.1;omega)).trans HV.o);clear h1 h2 h3 h4 h5)
  |fail)
 obtain⟨bk,hpk⟩:=jm.o.ptr;subst hpk;have vF:=(HO.o.later aT.o).hasq au.o;have vG:=vF.il;have mV:=hd vF;clear vF vG;go_upto_region 11 with(first
  |((with_reducible refine zC (ty:=27) (x:=.tmp 46) ?_);refine zE ah.o (j:=1) (v:=.slice o.Q o.lq o.cq) _ rfl rfl rfl rfl Tryz.underlying27 rfl ?_)
  |(at_builtin;refine kNs giG w2 rfl (.const (.slice none 0 0)) (.tmp 47) rfl w2.heap.size rfl o.Q o.lq o.cq w2.heap.size (a.q.map (Value.int .i64)) rfl (by have:=mV.o.len;simp;omega) (kQy mV.o.il) (kN3 _) (by have:=aQ.o;unfold maxLen;omega) (by have:=aQ.o;omega) Km ?_;intro A3 c3 w3 hown hb3 hat;have HOWN:=hd hown;have dx:=hd hb3;clear hown hb3 hat)
  |fail)
 rw[aQ.o];obtain⟨Ew,qD,eA,hc3,BN,jo⟩:=zC9 HOWN.o;injection eA with nY _ nZ;subst nY nZ;rw[aQ.o]at hc3;have mW:(a.q.map (Value.int .i64))[lu]? =some (.int .i64 ((i+1:Nat):Int)):=by rw[fF.o,List.map_append,List.getElem?_append_right (by simp[fG.o]),List.length_map,fG.o,Nat.sub_self];rfl
 obtain⟨g3,rfl,oa,od,bH,gz⟩:=jo lu _ mW;have dZ:=HOWN.o;rw[aQ.o]at dZ;obtain⟨bI,cA⟩:=dZ.stored lu (.int .i64 (i:Int));obtain⟨W4,cN⟩:∃W,w3.setCell ⟨g3,lu,none⟩ (.int .i64 (i:Int))=W:=⟨_,rfl⟩;rw[cN]at bI cA;have tY:=hd cN;have hi1:(((i+1:Nat):Int))=(i:Int)+1:=Kb;rw[hi1]at bH;have og:(i:Int)<=500000:=by have h1:=(List.getElem?_eq_some_iff.1 HI.o).1;have h2:=HS.o;omega
 have aJ:=hd (dx.o.grown cA dx.o.size (fun j hj=>by injection hj with hj;omega));have dH:(a.q.map (Value.int .i64)).set lu (.int .i64 (i:Int))=(u++[(i:Int)]).map (Value.int .i64):=by rw[fF.o,List.map_append,List.set_append_right _ _ (by simp[fG.o]),List.length_map,fG.o,Nat.sub_self,List.map_append];rfl
 rw[dH]at bI;have mX:zKt W4 (some ⟨g3,0,none⟩) (lu+1) c3 (u++[(i:Int)]):=⟨by simp[fG.o],by omega,hc3,kOo bI,fun j hj=>by
  rw[List.length_append,List.length_singleton]at hj;by_cases h:j<u.length
  ·have h9:=dS.o j Kf;rw[kOp h]at h9⊢;exact h9
  ·obtain rfl:j=u.length:=Kb;rw[kPf];omega⟩
 have om:=hd mX;clear mX dH bI cA dZ mW jo cN hi1;go_upto_region 12 with fail
 rw[tY.o];clear bH gz;have bu:∀q,F2 q->q<w2.heap.size:=fun q h=>by
  rcases iV.o q (.inr h)with h|h
  ·have:=(HF.o q h).2.2;omega
  ·exact h.2
 have hlk2:∀q,Fk q->q<w2.heap.size:=fun q h=>by
  rcases iV.o q (.inl h)with h|h
  ·have:=(HF.o q h).2.2;omega
  ·exact h.2
 have hs4:=aJ.o.size;have hK4:=jm.o.later hlk2 aJ.o;obtain⟨pu,Fm,hpt,dY,hsub,bA⟩:=Gh.sub _ (HG2.o.later bu aJ.o) fh.o;obtain⟨b,lab',rs',ks',RA,rc,KA,kc,us,Fs,rfl,e0,hO⟩:=dY.opened;simp only[NT.mk.injEq,List.cons.injEq,true_and]at e0;obtain⟨⟨rfl,rfl⟩,rfl⟩:=e0;obtain⟨bk',labk',rsk',ksk',RAk,rck,KAk,kck,usk,Fsk,eV,e0,mY⟩:=hK4.opened;simp only[NT.mk.injEq,List.cons.injEq,true_and]at e0;obtain⟨⟨rfl,rfl⟩,rfl⟩:=e0;injection eV with eV;injection eV with eV;injection eV with eV _ _;subst eV;have di:=hd hpt;have d9:=hd hO;have bg:=hd mY;have dw:=hd bA;have aF:=hd hsub;have l5:=hd bu;have BO:=hd hlk2;have BP:=dC.o;clear hK4 dY hpt hO mY bA hsub bu hlk2;go_upto_region 13 with(first
  |(go_at_call 27;refine Calls.mono (kN5 di.o om.o) ?_;rintro e wf ⟨rfl,hwf⟩;have hwf:=hwf.symm;subst hwf)
  |fail)
 have oo:F2 b:=aF.o b d9.o.hF;have ou:=bg.o.hF;have hbk:bk≠b:=fun e=>jn.o bk ou (e▸oo);have yF:∀q,(Value.slice RA rs.length rc).ownBlock=some q->¬Fk q:=fun q h e=>jn.o q e (aF.o q (d9.o.fr q h).1);have yG:∀q,(Value.slice KA ks.length kc).ownBlock=some q->¬Fk q:=fun q h e=>jn.o q e (aF.o q (d9.o.fk q h).1);have tZ:=hd yF;have gm:=hd yG;clear yF yG;obtain⟨W5,dI⟩:∃W,W4.drew=W:=⟨_,rfl⟩;have rq:W5.heap=W4.heap:=by rw[<-dI];rfl
 have qE:=hd rq;have ru:W5.os=W4.os/\W5.tape=W4.tape/\W5.output=W4.output:=by rw[<-dI];exact⟨rfl,rfl,rfl⟩
 have ov:=hd ru;have hs5:W5.heap.size=W4.heap.size:=by rw[rq]
 have cO:=hd (show jT 59 W5 b #[.int .i64 lab,.slice RA rs.length rc,.slice KA ks.length kc]from by unfold jT;rw[rq];exact d9.o.hb);have rx:=hd (show jT 59 W5 bk #[.int .i64 labk,.slice RAk rsk.length rck,.slice KAk ksk.length kck]from by unfold jT;rw[rq];exact bg.o.hb);clear rq ru;refine jO (S:=fun W'=>jT 59 W' b #[.int .i64 lab,.slice RA rs.length rc,.slice KA ks.length kc]/\jT 59 W' bk #[.int .i64 labk,.slice RAk rsk.length rck,.slice KAk ksk.length kck]) (z:=fun j=>j==12) Ka ?_;rw[dI];clear dI;have aa:=hd (And.intro cO.o rx.o);refine Kp 0 12 (.pointer (some ⟨b,0,none⟩)) aa.o ?_;simp only[Act.put,List.getElem_toArray,List.getElem_cons_zero,List.setIfInBounds_toArray,List.set_cons_succ,List.set_cons_zero];refine Kp 1 11 (.pointer (some ⟨b,0,none⟩)) aa.o ?_;refine kNm ?_;refine Kp 2 10 (.pointer (some ⟨b,0,none⟩)) aa.o ?_;refine kNm ?_;refine Kp 3 9 (.pointer (some ⟨b,1,none⟩)) aa.o ?_;refine kNm ?_;refine Ko 4 8 (.slice RA rs.length rc) (fun W9 ag=>?_) aa.o ?_
 ·exact kV (j:=1) ag.1 _ rfl rfl rfl Tryz.underlying27 rfl
 refine kNm ?_;refine Kp 5 7 (.pointer (some ⟨bk,0,none⟩)) aa.o ?_;refine kNm ?_;refine Kp 6 6 (.pointer (some ⟨bk,0,none⟩)) aa.o ?_;refine kNm ?_;refine Kp 7 5 (.pointer (some ⟨bk,1,none⟩)) aa.o ?_;refine kNm ?_;refine Ko 8 4 (.slice RAk rsk.length rck) (fun W9 ag=>?_) aa.o ?_
 ·exact kV (j:=1) ag.2 _ rfl rfl rfl Tryz.underlying27 rfl
 refine kNm ?_;refine Kq 9 3 (fun K hK=>?_);refine zIq giG W5 rfl _ _ rfl 0 (.slice RA rs.length rc) rs.length (rs.map (Value.int .i64)) rfl (kNl d9.o.hr fun q _=>by rw[qE.o]) RAk rsk.length rck W4.heap.size (rsk.map (Value.int .i64)) rfl Kc (hd (kRq bg.o|>fun h=>h.keep fun p hp=>by unfold World.cell?;rw[qE.o])).o (kN3 _) Kg Kb (Nat.zero_le _) ?_;intro A5 c5 W6 hown hgr hat;have cP:=hd hown;have lW:=hd hgr;have lX:=hd hat;have ln:=hgr.size;have iy:=hd (cO.o.grew hgr (fun e=>(d9.o.fr _ e).2 rfl));have ry:=hd (rx.o.grew hgr (fun e=>tZ.o _ e ou));clear hown hgr hat aa;have aa:=hd (And.intro iy.o ry.o);refine kNm ?_;refine hK _ _ (fun _=>aa.o) ?_;clear hK K;refine Kq 10 2 (fun K hK=>?_);rw[if_pos Ka];go_simp;refine hK _ _ (fun _=>aa.o) ?_;clear hK K;refine Kq 11 1 (fun K hK=>?_);rw[if_pos Ka];go_simp;refine hK _ _ (fun _=>aa.o) ?_;clear hK K;refine Kq 12 0 (fun K hK=>?_);rw[if_pos Ka];refine zY zCa iy.o _ _ rfl rfl 1 _ [.slice A5 (rs.length+rsk.length) c5] rfl rfl rfl rfl (zHt rfl) Kn ?_;intro W7 hv ho;have gA:=hd (show jT 59 W7 b #[.int .i64 lab,.slice A5 (rs.length+rsk.length) c5,.slice KA ks.length kc]from hv);have vH:=hd (ry.o.off ho hbk);have jp:=hd ho;have iz:=ho.size;clear hv ho;refine hK _ _ (fun h=>absurd h Kd) (zAl Ka ?_);clear hK K aa;go_upto_region 14 with fail
 obtain⟨W8,ia⟩:∃W,W7.drew=W:=⟨_,rfl⟩;have mZ:W8.heap=W7.heap:=by rw[<-ia];rfl
 have BQ:=hd mZ;have bE:W8.os=W7.os/\W8.tape=W7.tape/\W8.output=W7.output:=by rw[<-ia];exact⟨rfl,rfl,rfl⟩
 have ow:=hd bE;have jq:W8.heap.size=W7.heap.size:=by rw[mZ]
 have fH:=hd (show jT 59 W8 b #[.int .i64 lab,.slice A5 (rs.length+rsk.length) c5,.slice KA ks.length kc]from by unfold jT;rw[mZ];exact gA.o);have rz:=hd (show jT 59 W8 bk #[.int .i64 labk,.slice RAk rsk.length rck,.slice KAk ksk.length kck]from by unfold jT;rw[mZ];exact vH.o);--what lay there,but this one's block and its runes' row
 have lY:∀q,q<W4.heap.size->q≠b->(Value.slice RA rs.length rc).ownBlock≠some q->W8.heap[q]? =W4.heap[q]? :=fun q h1 h2 h3=>by
  rw[mZ,jp.o.block q Kb h2,lW.o.block q Kb (fun e=>h3 e.symm),qE.o]
 have vI:=hd lY;have vJ:=hd (kNl d9.o.hk fun q hq=>lY q (d9.o.hk.lt q hq).2 (d9.o.fk q hq).2.1 (d9.o.fk q hq).2.2);have rA:=hd (kNl bg.o.hk fun q hq=>lY q (bg.o.hk.lt q hq).2 (fun e=>jn.o q (bg.o.fk q hq).1 (e▸oo)) (fun e=>tZ.o q e (bg.o.fk q hq).1));clear mZ bE lY;refine jO (S:=fun W'=>jT 59 W' b #[.int .i64 lab,.slice A5 (rs.length+rsk.length) c5,.slice KA ks.length kc]/\jT 59 W' bk #[.int .i64 labk,.slice RAk rsk.length rck,.slice KAk ksk.length kck]) (z:=fun j=>j==12) Ka ?_;rw[ia];clear ia;have aa:=hd (And.intro fH.o rz.o);refine Kp 0 12 (.pointer (some ⟨b,0,none⟩)) aa.o ?_;simp only[Act.put,List.getElem_toArray,List.getElem_cons_zero,List.setIfInBounds_toArray,List.set_cons_succ,List.set_cons_zero];refine Kp 1 11 (.pointer (some ⟨b,0,none⟩)) aa.o ?_;refine kNm ?_;refine Kp 2 10 (.pointer (some ⟨b,0,none⟩)) aa.o ?_;refine kNm ?_;refine Kp 3 9 (.pointer (some ⟨b,2,none⟩)) aa.o ?_;refine kNm ?_;refine Ko 4 8 (.slice KA ks.length kc) (fun W9 ag=>?_) aa.o ?_
 ·exact kV (j:=2) ag.1 _ rfl rfl rfl Tryz.underlying57 rfl
 refine kNm ?_;refine Kp 5 7 (.pointer (some ⟨bk,0,none⟩)) aa.o ?_;refine kNm ?_;refine Kp 6 6 (.pointer (some ⟨bk,0,none⟩)) aa.o ?_;refine kNm ?_;refine Kp 7 5 (.pointer (some ⟨bk,2,none⟩)) aa.o ?_;refine kNm ?_;refine Ko 8 4 (.slice KAk ksk.length kck) (fun W9 ag=>?_) aa.o ?_
 ·exact kV (j:=2) ag.2 _ rfl rfl rfl Tryz.underlying57 rfl
 refine kNm ?_;refine Kq 9 3 (fun K hK=>?_);refine zIq gpG W8 rfl _ _ rfl 0 (.slice KA ks.length kc) ks.length us rfl vJ.o KAk ksk.length kck W8.heap.size usk rfl (by have:=bg.o.hl;omega) (VP.vl (kS3 rA.o fun g hg=>(rA.o.lt g hg).2) (fun _ h=>h)) (kPe bg.o) Kg Kb (Nat.zero_le _) ?_;intro A9 c9 W9 hown hgr hat;have fI:=hd hown;have jr:=hd hgr;have vL:=hd hat;have iW:=hgr.size;have i5:=hd (fH.o.grew hgr (fun e=>(d9.o.fk _ e).2.1 rfl));have vM:=hd (rz.o.grew hgr (fun e=>gm.o _ e ou));clear hown hgr hat aa;have aa:=hd (And.intro i5.o vM.o);refine kNm ?_;refine hK _ _ (fun _=>aa.o) ?_;clear hK K;refine Kq 10 2 (fun K hK=>?_);rw[if_pos Ka];go_simp;refine hK _ _ (fun _=>aa.o) ?_;clear hK K;refine Kq 11 1 (fun K hK=>?_);rw[if_pos Ka];go_simp;refine hK _ _ (fun _=>aa.o) ?_;clear hK K;refine Kq 12 0 (fun K hK=>?_);rw[if_pos Ka];refine zY kPn i5.o _ _ rfl rfl 2 _ [.slice A9 (ks.length+ksk.length) c9] rfl rfl rfl rfl (zHt rfl) Kn ?_;intro js hv ho;have rB:=hd (show jT 59 js b #[.int .i64 lab,.slice A5 (rs.length+rsk.length) c5,.slice A9 (ks.length+ksk.length) c9]from hv);have i6:=hd ho;have BR:=ho.size;clear hv ho;refine hK _ _ (fun h=>absurd h Kd) (zAl Ka ?_);clear hK K aa;go_wp2_with fail
 go_end0
 have Ex:=d9.o.hr.lt;have BS:=d9.o.hk.lt;have ua:=cP.o.lt;have keep:∀q,q<W4.heap.size->q≠b->(Value.slice RA rs.length rc).ownBlock≠some q->(Value.slice KA ks.length kc).ownBlock≠some q->js.heap[q]? =W4.heap[q]? :=fun q h1 h2 h3 h4=>by
  rw[i6.o.block q Kb h2,jr.o.block q Kb (fun e=>h4 e.symm),vI.o q h1 h2 h3]
 have iU:∀q,(Value.slice A5 (rs.length+rsk.length) c5).ownBlock=some q->(Value.slice RA rs.length rc).ownBlock=some q∨W4.heap.size<=q:=fun q hq=>by
  rcases lX.o with e|⟨q',e,h⟩
  ·exact .inl (e▸hq)
  ·rw[e]at hq;injection hq with hq;exact .inr Kb
 have ub:∀q,(Value.slice A5 (rs.length+rsk.length) c5).ownBlock=some q->q≠b/\(Value.slice KA ks.length kc).ownBlock≠some q:=fun q hq=>by
  rcases iU q hq with e|e
  ·exact⟨(d9.o.fr q e).2,fun h=>(d9.o.fk q h).2.2 e⟩
  ·exact⟨by have:=d9.o.hb.lt;omega,fun h=>by have:=(BS q h).2;omega⟩
 have jt:js.ownsRow 0 3 1 (.slice A5 (rs.length+rsk.length) c5) (rs.length+rsk.length) (rs.map (Value.int .i64)++rsk.map (Value.int .i64)):=kNl cP.o fun q hq=>by
  rw[i6.o.block q (by have:=(ua q hq).2;omega) (ub q hq).1,jr.o.block q (by have:=(ua q hq).2;omega) (fun e=>(ub q hq).2 e.symm),BQ.o,jp.o.block q (ua q hq).2 (ub q hq).1]
 have hka:∀q,(Value.slice A9 (ks.length+ksk.length) c9).ownBlock=some q->(Value.slice A5 (rs.length+rsk.length) c5).ownBlock≠some q/\((Value.slice KA ks.length kc).ownBlock=some q∨W4.heap.size<=q):=fun q hq=>by
  rcases vL.o with e|⟨q',e,h⟩
  ·rw[e]at hq;exact⟨fun h=>(ub q h).2 hq,.inl hq⟩
  ·rw[e]at hq;injection hq with hq;exact⟨fun h=>by have:=(ua q h).2;omega,.inr Kb⟩
 have vN:=kN4 fI.o i6.o (fun e=>by
  rcases(hka _ e).2 with h|h
  ·exact(d9.o.fk _ h).2.1 rfl
  ·have:=d9.o.hb.lt;omega)
 have G1:=d9.o.join bg.o (fun q h=>Nat.lt_of_lt_of_le (l5.o q (aF.o q h)) hs4) (fun q h=>⟨Nat.lt_of_lt_of_le (BO.o q h) hs4,fun e=>jn.o q h (aF.o q e)⟩) rB.o jt vN iU hka keep;have G2:=dw.o js _ _ G1 (fun q h1 h2=>keep q (Nat.lt_of_lt_of_le (l5.o q h1) hs4) (fun e=>h2 (e▸d9.o.hF)) (fun e=>h2 (d9.o.fr q e).1) (fun e=>h2 (d9.o.fk q e).1)) (fun q h1 h2 h3=>by
  rcases h1 with h1|h1|h1
  ·exact h2 h1
  ·exact jn.o q h1 h3
  ·have:=l5.o q h3;omega)
 have hcv:∀q,Fk q∨F2 q->F q∨(w.heap.size<=q/\q<js.heap.size):=fun q h=>by
  rcases iV.o q h with h|h
  ·exact .inl h
  ·exact .inr Kb
 have T4:Tch F2 W4 js:=⟨by rw[i6.o.os,jr.o.os,ow.o.1,jp.o.os,lW.o.os,ov.o.1],by rw[i6.o.tape,jr.o.tape,ow.o.2.1,jp.o.tape,lW.o.tape,ov.o.2.1],by rw[i6.o.output,jr.o.output,ow.o.2.2,jp.o.output,lW.o.output,ov.o.2.2],by omega,
  fun q h1 h2=>keep q h1 (fun e=>h2 (e▸oo)) (fun e=>h2 (aF.o q (d9.o.fr q e).1)) (fun e=>h2 (aF.o q (d9.o.fk q e).1))⟩
 refine⟨_,rfl,G2,fun q h=>?_,((HT.o.trans iw.o fun q _ h=>h).trans (Tch.of_below (F:=F) aJ.o) fun q _ h=>h).trans T4 fun q hq h=>?_⟩
 ·rcases h with h|h|h|h
  ·exact hcv q (.inr h.1)
  ·exact hcv q (.inr (aF.o q h))
  ·exact hcv q (.inl h)
  ·exact .inr Kb
 ·rcases iV.o q (.inr h)with h|h
  ·exact h
  ·omega
