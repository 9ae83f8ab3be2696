import Derived.Test.YtmglnjmnabjjgaaGreatHDo2
set_option maxRecDepth 100000
namespace Go.Proofs.YtmglnjmnabjjgaaGreat
open Go.RowKit
variable {w:World}{A:Option Addr}{l rs rsk:List Int}
theorem kNm {P Q:Prop}(k:Q)(h:Q->P:=by
 intro kk;simp only[Act.put,List.getElem_toArray,List.getElem_cons_succ,List.getElem_cons_zero,List.setIfInBounds_toArray,List.set_cons_succ,List.set_cons_zero];exact kk):P:=h k
theorem kT5 {B:Nat}(h:IL w B A l):VL w B A (l.map (Value.int .i64)):=fun hn=>by
 obtain⟨b,o,e,hb,hc⟩:=h (fun e=>hn (by rw[e];rfl));refine⟨b,o,e,hb,fun k v hk=>?_⟩;rw[List.getElem?_map]at hk;have hl:k<l.length:=Nat.lt_of_not_le fun h=>by rw[List.getElem?_eq_none h]at hk;cases hk
 rw[List.getElem?_eq_getElem hl]at hk;simp only[Option.map_some,Option.some.injEq]at hk;rw[hc k hl,<-hk];unfold iAt;simp[List.getD_eq_getElem?_getD,hl]
theorem kQk {base n c:Nat}(h:w.ownsRow base 3 1 (.slice A n c) n (l.map (Value.int .i64))):IL w w.heap.size A l:=fun hn=>by
 obtain⟨A',c',e,_,_,hf⟩:=zC9 h;injection e with e1 _ _;subst e1;have hc:∀k,k<l.length->(l.map (Value.int .i64))[k]? =some (.int .i64 (iAt l k)):=fun k hk=>by
  rw[List.getElem?_map,List.getElem?_eq_getElem hk];unfold iAt;simp[List.getD_eq_getElem?_getD,hk]
 obtain⟨g,rfl,_,hg,_,_⟩:=hf 0 _ (hc 0 (List.length_pos_iff.2 hn));refine⟨g,0,rfl,hg,fun k hk=>?_⟩;obtain⟨g',e,_,_,h4,_⟩:=hf k _ (hc k hk);injection e with e;injection e with e;subst e;rw[Nat.zero_add];exact h4
theorem GhO.join {w':World}{b bk:Nat}{lab labk:Int}{ks ksk:List NT}{R K Rk Kk R' K':Value}{us usk:List Value}{Fs Fsk:Nat->Nat->Prop}{F Fk:Nat->Prop}(h:GhO w b lab rs ks R K us Fs F)(hk:GhO w bk labk rsk ksk Rk Kk usk Fsk Fk)(hF:∀q,F q->q<w.heap.size)(iT:∀q,Fk q->q<w.heap.size/\¬F q)
  (hv:jT 64 w' b #[.int .i64 lab,R',K']) (hr:w'.ownsRow 0 3 1 R' (rs.length+rsk.length) (rs.map (Value.int .i64)++rsk.map (Value.int .i64))) (hK:w'.ownsRow 0 53 1 K' (ks.length+ksk.length) (us++usk))
  (mW:∀q,R'.ownBlock=some q->R.ownBlock=some q∨w.heap.size<=q) (hka:∀q,K'.ownBlock=some q->R'.ownBlock≠some q/\(K.ownBlock=some q∨w.heap.size<=q)) (keep:∀q,q<w.heap.size->q≠b->R.ownBlock≠some q->K.ownBlock≠some q->w'.heap[q]? =w.heap[q]?):
  Gh w' (.pointer (some ⟨b,0,none⟩)) (.mk false [] (lab::(rs++rsk)) (ks++ksk)) (fun q=>F q∨Fk q∨(w.heap.size<=q/\q<w'.heap.size)):=by
 have hbl:=h.hb.lt;have Ad:∀j q,Fs j q->q<w.heap.size/\q≠b/\R'.ownBlock≠some q/\K'.ownBlock≠some q:=fun j q hq=>by
  have hs:=h.sub j q hq;have hl:=hF q hs.1;refine⟨hl,hs.2.1,fun e=>?_,fun e=>?_⟩
  ·rcases mW q e with e|e
   ·exact hs.2.2.1 e
   ·omega
  ·rcases(hka q e).2 with e|e
   ·exact hs.2.2.2 e
   ·omega
 have Ae:∀j q,Fsk j q->q<w.heap.size/\q≠b/\R'.ownBlock≠some q/\K'.ownBlock≠some q:=fun j q hq=>by
  have hs:=iT q (hk.sub j q hq).1;refine⟨hs.1,fun e=>hs.2 (e▸h.hF),fun e=>?_,fun e=>?_⟩
  ·rcases mW q e with e|e
   ·exact hs.2 (h.fr q e).1
   ·omega
  ·rcases(hka q e).2 with e|e
   ·exact hs.2 (h.fk q e).1
   ·omega
 refine .mk _ b lab (rs++rsk) (ks++ksk) R' K' (us++usk) (fun j=>if j<ks.length then Fs j else Fsk (j-ks.length)) hv (.inl h.hF) (by rw[List.length_append,List.map_append];exact hr) (by rw[List.length_append];exact hK) (by rw[List.length_append,List.length_append,h.hl,hk.hl])
  (fun q hq=>?_) (fun q hq=>?_) (fun j m u e1 e2=>?_) (fun j q hq=>?_) (fun i j q hne h1 h2=>?_)
 ·rcases mW q hq with e|e
  ·exact⟨.inl (h.fr q e).1,(h.fr q e).2⟩
  ·exact⟨.inr (.inr ⟨e,(hr.lt q hq).2⟩),by omega⟩
 ·rcases(hka q hq).2 with e|e
  ·exact⟨.inl (h.fk q e).1,(h.fk q e).2.1,(hka q hq).1⟩
  ·exact⟨.inr (.inr ⟨e,(hK.lt q hq).2⟩),by omega,(hka q hq).1⟩
 ·by_cases hj:j<ks.length
  ·rw[List.getElem?_append_left hj]at e1;rw[List.getElem?_append_left (by rw[h.hl];exact hj)]at e2;rw[if_pos hj];exact(h.kids j m u e1 e2).frame fun q hq=>keep q (Ad j q hq).1 (h.sub j q hq).2.1 (h.sub j q hq).2.2.1 (h.sub j q hq).2.2.2
  ·rw[List.getElem?_append_right Kb]at e1;rw[List.getElem?_append_right (by rw[h.hl];omega),h.hl]at e2;rw[if_neg hj];exact(hk.kids _ m u e1 e2).frame fun q hq=>by
    have hs:=iT q (hk.sub _ q hq).1;exact keep q hs.1 (Ae _ q hq).2.1 (fun e=>hs.2 (h.fr q e).1) (fun e=>hs.2 (h.fk q e).1)
 ·by_cases hj:j<ks.length
  ·rw[if_pos hj]at hq;exact⟨.inl (h.sub j q hq).1,(Ad j q hq).2⟩
  ·rw[if_neg hj]at hq;exact⟨.inr (.inl (hk.sub _ q hq).1),(Ae _ q hq).2⟩
 ·by_cases h3:i<ks.length
  ·rw[if_pos h3]at h1;by_cases h4:j<ks.length
   ·rw[if_pos h4]at h2;exact h.dis i j q hne h1 h2
   ·rw[if_neg h4]at h2;exact(iT q (hk.sub _ q h2).1).2 (h.sub i q h1).1
  ·rw[if_neg h3]at h1;by_cases h4:j<ks.length
   ·rw[if_pos h4]at h2;exact(iT q (hk.sub _ q h1).1).2 (h.sub j q h2).1
   ·rw[if_neg h4]at h2;exact hk.dis _ _ q Kb h1 h2
set_option maxHeartbeats 8000000 in
theorem kX6 {w0:World}{v:Value}{g:NT}{F:Nat->Prop}{o:OC}{a:OpP}{u:List Int}{i:Nat}{x _k:NT}{lab labk:Int}{ks ksk:List NT}(hG:Gh w v g F)(hF:∀q,F q->w0.heap.size<=q/\q<w.heap.size)(ho:OkA w0 o a)(hw:Below w0.heap.size w0 w)(ta:zAf a)(hk:o.k=3)(bg:a.q=u++[((i+1:Nat):Int)])(hx:kB g u=some x)(hi:x.ks[i+1]? =some (.mk false [] (labk::rsk) ksk))(hs:x.ks.length<=500000)(hbk:kB (putT g u (jS x (i+1) 1 [])) (u++[(i:Int)])=some (.mk false [] (lab::rs) ks))(hsz:rs.length+rsk.length<=500000/\ks.length+ksk.length<=500000):Calls Tryz.prog 17 #[v,.agg o.row] w (kSo F v (putT (putT g u (jS x (i+1) 1 [])) (u++[(i:Int)]) (.mk false [] (lab::(rs++rsk)) (ks++ksk))) w):=by
 first|have k1:(o.k==1)=true:=by simp[hk]|have k1:(o.k==1)=false:=by simp[hk]
 first|have k2:(o.k==2)=true:=by simp[hk]|have k2:(o.k==2)=false:=by simp[hk]
 first|have k3:(o.k==3)=true:=by simp[hk]|have k3:(o.k==3)=false:=by simp[hk]
 first|have k4:(o.k==4)=true:=by simp[hk]|have k4:(o.k==4)=false:=by simp[hk]
 first|have k5:(o.k==5)=true:=by simp[hk]|have k5:(o.k==5)=false:=by simp[hk]
 first|have k7:(o.k==7)=true:=by simp[hk]|have k7:(o.k==7)=false:=by simp[hk]
 first|have k8:(o.k==8)=true:=by simp[hk]|have k8:(o.k==8)=false:=by simp[hk]
 clear hk;have hlq:o.lq=u.length+1:=by have:=ho.hlq;rw[bg]at this;simp at this;omega
 have bn:=ta.hq;have iU:u.length+1<=60:=by rw[bg]at bn;simpa using bn
 have hin:=ho.hiq;rw[bg]at hin;obtain⟨lu,kj⟩:∃l,u.length=l:=⟨_,rfl⟩;rw[kj]at hlq iU;have eI:=hd bg;have HX:=hd hx;have HI:=hd hi;have HS:=hd hs;have eJ:=hd hbk;have dC:=hd hsz;have dW:=hd hin;have aP:=hd hlq;have fJ:=hd kj;have gM:=hd bn;clear bg hx hi hs hbk hsz hin hlq kj bn;obtain⟨W1,hW1⟩:∃W,w.alloc (.cells o.row 35)=W:=⟨_,rfl⟩;have hv:jR W1 w.heap.size o:=hW1▸jR.new w o;have aw:Below w.heap.size w W1:=hW1▸Kl.alloc Km _;have fG:=hw.size;have HV:=hd hv;have HB:=hd (hw.trans (aw.mono fG));have HG:=hd (hG.later (fun q h=>(hF q h).2) aw);have HF:=hd (fun q(h:F q)=>(⟨(hF q h).1,(hF q h).2,Nat.lt_of_lt_of_le (hF q h).2 aw.size⟩:w0.heap.size<=q/\q<w.heap.size/\q<W1.heap.size));have HT:=hd (Tch.of_below (F:=F) aw);have HO:=hd ho;have az:=hd ta;have HW:=hd hW1;have hs1:W1.heap.size=w.heap.size+1:=by rw[<-hW1];simp
 clear hG hF ho hw ta hv aw hW1;go_enter Tryz.func17,Tryz.ntmps17
 go_upto_region 1 with fail
 rw[HW.o];clear HW;go_upto_region 10 with(first
  |((with_reducible refine zC (ty:=3) (x:=.tmp 17) ?_);refine zE HV.o (j:=0) (v:=.int .i64 o.k) _ rfl rfl rfl rfl Tryz.underlying3 rfl ?_)
  |((with_reducible refine zC (ty:=27) (x:=.tmp 43) ?_);refine zE HV.o (j:=1) (v:=.slice o.Q o.lq o.cq) _ rfl rfl rfl rfl Tryz.underlying27 rfl ?_)
  |(go_at_call 44;refine Calls.mono (kRk HG.o (fun q h=>(HF.o q h).2.2) (by rw[<-eI.o];exact(HO.o.later HB.o).hasq az.o) HX.o HI.o HS.o) ?_;rintro e w2 ⟨p,Fk,F2,rfl,h1,h2,h3,h4,h5⟩;have hs2:=h5.size;have km:=hd h1;have HG2:=hd h2;have kp:=hd h3;have jt:=hd h4;have iV:=hd h5;have aL:=hd (HB.o.trans (h5.below Kb (fun q _ h=>(HF.o q h).1)));have ah:=hd (show jR w2 w.heap.size o from(h5.block _ HV.o.lt (fun e=>by have:=(HF.o _ e).2.1;omega)).trans HV.o);clear h1 h2 h3 h4 h5)
  |fail)
 obtain⟨bk,hpk⟩:=km.o.ptr;subst hpk;have hqo:=(HO.o.later aL.o).hasq az.o;have Co:=hqo.il;have oz:=hd hqo;clear hqo Co;go_upto_region 11 with(first
  |((with_reducible refine zC (ty:=27) (x:=.tmp 46) ?_);refine zE ah.o (j:=1) (v:=.slice o.Q o.lq o.cq) _ rfl rfl rfl rfl Tryz.underlying27 rfl ?_)
  |(at_builtin;refine kNu giG w2 rfl (.const (.slice none 0 0)) (.tmp 47) rfl w2.heap.size rfl o.Q o.lq o.cq w2.heap.size (a.q.map (Value.int .i64)) rfl (by have:=oz.o.len;simp;omega) (kT5 oz.o.il) (kOa _) (by have:=aP.o;unfold maxLen;omega) (by have:=aP.o;omega) Km ?_;intro A3 c3 w3 hown hb3 hat;have HOWN:=hd hown;have bT:=hd hb3;clear hown hb3 hat)
  |fail)
 rw[aP.o];obtain⟨EN,rQ,eA,hc3,Cq,kq⟩:=zC9 HOWN.o;injection eA with sI _ sJ;subst sI sJ;rw[aP.o]at hc3;have o5:(a.q.map (Value.int .i64))[lu]? =some (.int .i64 ((i+1:Nat):Int)):=by rw[eI.o,List.map_append,List.getElem?_append_right (by simp[fJ.o]),List.length_map,fJ.o,Nat.sub_self];rfl
 obtain⟨g3,rfl,sK,sL,cU,kr⟩:=kq lu _ o5;have eB:=HOWN.o;rw[aP.o]at eB;obtain⟨cB,dI⟩:=eB.stored lu (.int .i64 (i:Int));obtain⟨W4,bh⟩:∃W,w3.setCell ⟨g3,lu,none⟩ (.int .i64 (i:Int))=W:=⟨_,rfl⟩;rw[bh]at cB dI;have uY:=hd bh;have hi1:(((i+1:Nat):Int))=(i:Int)+1:=Kb;rw[hi1]at cU;have sM:(i:Int)<=500000:=by have h1:=(List.getElem?_eq_some_iff.1 HI.o).1;have h2:=HS.o;omega
 have bf:=hd (bT.o.grown dI bT.o.size (fun j hj=>by injection hj with hj;omega));have fK:(a.q.map (Value.int .i64)).set lu (.int .i64 (i:Int))=(u++[(i:Int)]).map (Value.int .i64):=by rw[eI.o,List.map_append,List.set_append_right _ _ (by simp[fJ.o]),List.length_map,fJ.o,Nat.sub_self,List.map_append];rfl
 rw[fK]at cB;have o7:zKt W4 (some ⟨g3,0,none⟩) (lu+1) c3 (u++[(i:Int)]):=⟨by simp[fJ.o],by omega,hc3,kQk cB,fun j hj=>by
  rw[List.length_append,List.length_singleton]at hj;by_cases h:j<u.length
  ·have h9:=dW.o j Kf;rw[kPn h]at h9⊢;exact h9
  ·obtain rfl:j=u.length:=Kb;rw[kQo];omega⟩
 have sN:=hd o7;clear o7 fK cB dI eB o5 kq bh hi1;go_upto_region 12 with fail
 rw[uY.o];clear cU kr;have br:∀q,F2 q->q<w2.heap.size:=fun q h=>by
  rcases jt.o q (.inr h)with h|h
  ·have:=(HF.o q h).2.2;omega
  ·exact h.2
 have hlk2:∀q,Fk q->q<w2.heap.size:=fun q h=>by
  rcases jt.o q (.inl h)with h|h
  ·have:=(HF.o q h).2.2;omega
  ·exact h.2
 have hs4:=bf.o.size;have hK4:=km.o.later hlk2 bf.o;obtain⟨pu,Fm,hpt,d9,hsub,bv⟩:=Gh.sub _ (HG2.o.later br bf.o) eJ.o;obtain⟨b,lab',rs',ks',RA,rc,KA,kc,us,Fs,rfl,e0,hO⟩:=d9.opened;simp only[NT.mk.injEq,List.cons.injEq,true_and]at e0;obtain⟨⟨rfl,rfl⟩,rfl⟩:=e0;obtain⟨bk',labk',rsk',ksk',RAk,rck,KAk,kck,usk,Fsk,eV,e0,sO⟩:=hK4.opened;simp only[NT.mk.injEq,List.cons.injEq,true_and]at e0;obtain⟨⟨rfl,rfl⟩,rfl⟩:=e0;injection eV with eV;injection eV with eV;injection eV with eV _ _;subst eV;have cZ:=hd hpt;have dA:=hd hO;have bi:=hd sO;have dt:=hd bv;have aG:=hd hsub;have mz:=hd br;have Cr:=hd hlk2;have Cs:=dC.o;clear hK4 d9 hpt hO sO bv hsub br hlk2;go_upto_region 13 with(first
  |(go_at_call 21;refine Calls.mono (kOx cZ.o sN.o) ?_;rintro e wf ⟨rfl,hwf⟩;have hwf:=hwf.symm;subst hwf)
  |fail)
 have pQ:F2 b:=aG.o b dA.o.hF;have pR:=bi.o.hF;have hbk:bk≠b:=fun e=>kp.o bk pR (e▸pQ);have Ai:∀q,(Value.slice RA rs.length rc).ownBlock=some q->¬Fk q:=fun q h e=>kp.o q e (aG.o q (dA.o.fr q h).1);have Aj:∀q,(Value.slice KA ks.length kc).ownBlock=some q->¬Fk q:=fun q h e=>kp.o q e (aG.o q (dA.o.fk q h).1);have o8:=hd Ai;have dF:=hd Aj;clear Ai Aj;obtain⟨W5,dJ⟩:∃W,W4.drew=W:=⟨_,rfl⟩;have sP:W5.heap=W4.heap:=by rw[<-dJ];rfl
 have ku:=hd sP;have eD:W5.os=W4.os/\W5.tape=W4.tape/\W5.output=W4.output:=by rw[<-dJ];exact⟨rfl,rfl,rfl⟩
 have pS:=hd eD;have hs5:W5.heap.size=W4.heap.size:=by rw[sP]
 have cA:=hd (show jT 64 W5 b #[.int .i64 lab,.slice RA rs.length rc,.slice KA ks.length kc]from by unfold jT;rw[sP];exact dA.o.hb);have sQ:=hd (show jT 64 W5 bk #[.int .i64 labk,.slice RAk rsk.length rck,.slice KAk ksk.length kck]from by unfold jT;rw[sP];exact bi.o.hb);clear sP eD;refine jO (S:=fun W'=>jT 64 W' b #[.int .i64 lab,.slice RA rs.length rc,.slice KA ks.length kc]/\jT 64 W' bk #[.int .i64 labk,.slice RAk rsk.length rck,.slice KAk ksk.length kck]) (z:=fun j=>j==12) Ka ?_;rw[dJ];clear dJ;have aa:=hd (And.intro cA.o sQ.o);refine Kp 0 12 (.pointer (some ⟨b,0,none⟩)) aa.o ?_;simp only[Act.put,List.getElem_toArray,List.getElem_cons_zero,List.setIfInBounds_toArray,List.set_cons_succ,List.set_cons_zero];refine Kp 1 11 (.pointer (some ⟨b,0,none⟩)) aa.o ?_;refine kNm ?_;refine Kp 2 10 (.pointer (some ⟨b,0,none⟩)) aa.o ?_;refine kNm ?_;refine Kp 3 9 (.pointer (some ⟨b,1,none⟩)) aa.o ?_;refine kNm ?_;refine Ko 4 8 (.slice RA rs.length rc) (fun W9 ag=>?_) aa.o ?_
 ·exact kV (j:=1) ag.1 _ rfl rfl rfl Tryz.underlying27 rfl
 refine kNm ?_;refine Kp 5 7 (.pointer (some ⟨bk,0,none⟩)) aa.o ?_;refine kNm ?_;refine Kp 6 6 (.pointer (some ⟨bk,0,none⟩)) aa.o ?_;refine kNm ?_;refine Kp 7 5 (.pointer (some ⟨bk,1,none⟩)) aa.o ?_;refine kNm ?_;refine Ko 8 4 (.slice RAk rsk.length rck) (fun W9 ag=>?_) aa.o ?_
 ·exact kV (j:=1) ag.2 _ rfl rfl rfl Tryz.underlying27 rfl
 refine kNm ?_;refine Kq 9 3 (fun K hK=>?_);refine zIq giG W5 rfl _ _ rfl 0 (.slice RA rs.length rc) rs.length (rs.map (Value.int .i64)) rfl (kNl dA.o.hr fun q _=>by rw[ku.o]) RAk rsk.length rck W4.heap.size (rsk.map (Value.int .i64)) rfl Kc (hd (kT3 bi.o|>fun h=>h.keep fun p hp=>by unfold World.cell?;rw[ku.o])).o (kOa _) Kg Kb (Nat.zero_le _) ?_;intro A5 c5 W6 hown hgr hat;have cC:=hd hown;have mX:=hd hgr;have mY:=hd hat;have mo:=hgr.size;have iW:=hd (cA.o.grew hgr (fun e=>(dA.o.fr _ e).2 rfl));have sS:=hd (sQ.o.grew hgr (fun e=>o8.o _ e pR));clear hown hgr hat aa;have aa:=hd (And.intro iW.o sS.o);refine kNm ?_;refine hK _ _ (fun _=>aa.o) ?_;clear hK K;refine Kq 10 2 (fun K hK=>?_);rw[if_pos Ka];go_simp;refine hK _ _ (fun _=>aa.o) ?_;clear hK K;refine Kq 11 1 (fun K hK=>?_);rw[if_pos Ka];go_simp;refine hK _ _ (fun _=>aa.o) ?_;clear hK K;refine Kq 12 0 (fun K hK=>?_);rw[if_pos Ka];refine zY zCa iW.o _ _ rfl rfl 1 _ [.slice A5 (rs.length+rsk.length) c5] rfl rfl rfl rfl (zHt rfl) Kn ?_;intro W7 hv ho;have gX:=hd (show jT 64 W7 b #[.int .i64 lab,.slice A5 (rs.length+rsk.length) c5,.slice KA ks.length kc]from hv);have wO:=hd (sS.o.off ho hbk);have kv:=hd ho;have iX:=ho.size;clear hv ho;refine hK _ _ (fun h=>absurd h Kd) (zAl Ka ?_);clear hK K aa;go_upto_region 14 with fail
 obtain⟨W8,iG⟩:∃W,W7.drew=W:=⟨_,rfl⟩;have o9:W8.heap=W7.heap:=by rw[<-iG];rfl
 have Ct:=hd o9;have bb:W8.os=W7.os/\W8.tape=W7.tape/\W8.output=W7.output:=by rw[<-iG];exact⟨rfl,rfl,rfl⟩
 have pT:=hd bb;have kw:W8.heap.size=W7.heap.size:=by rw[o9]
 have fL:=hd (show jT 64 W8 b #[.int .i64 lab,.slice A5 (rs.length+rsk.length) c5,.slice KA ks.length kc]from by unfold jT;rw[o9];exact gX.o);have sU:=hd (show jT 64 W8 bk #[.int .i64 labk,.slice RAk rsk.length rck,.slice KAk ksk.length kck]from by unfold jT;rw[o9];exact wO.o);--what lay there,but this one's block and its runes' row
 have mZ:∀q,q<W4.heap.size->q≠b->(Value.slice RA rs.length rc).ownBlock≠some q->W8.heap[q]? =W4.heap[q]? :=fun q h1 h2 h3=>by
  rw[o9,kv.o.block q Kb h2,mX.o.block q Kb (fun e=>h3 e.symm),ku.o]
 have wP:=hd mZ;have wQ:=hd (kNl dA.o.hk fun q hq=>mZ q (dA.o.hk.lt q hq).2 (dA.o.fk q hq).2.1 (dA.o.fk q hq).2.2);have sV:=hd (kNl bi.o.hk fun q hq=>mZ q (bi.o.hk.lt q hq).2 (fun e=>kp.o q (bi.o.fk q hq).1 (e▸pQ)) (fun e=>o8.o q e (bi.o.fk q hq).1));clear o9 bb mZ;refine jO (S:=fun W'=>jT 64 W' b #[.int .i64 lab,.slice A5 (rs.length+rsk.length) c5,.slice KA ks.length kc]/\jT 64 W' bk #[.int .i64 labk,.slice RAk rsk.length rck,.slice KAk ksk.length kck]) (z:=fun j=>j==12) Ka ?_;rw[iG];clear iG;have aa:=hd (And.intro fL.o sU.o);refine Kp 0 12 (.pointer (some ⟨b,0,none⟩)) aa.o ?_;simp only[Act.put,List.getElem_toArray,List.getElem_cons_zero,List.setIfInBounds_toArray,List.set_cons_succ,List.set_cons_zero];refine Kp 1 11 (.pointer (some ⟨b,0,none⟩)) aa.o ?_;refine kNm ?_;refine Kp 2 10 (.pointer (some ⟨b,0,none⟩)) aa.o ?_;refine kNm ?_;refine Kp 3 9 (.pointer (some ⟨b,2,none⟩)) aa.o ?_;refine kNm ?_;refine Ko 4 8 (.slice KA ks.length kc) (fun W9 ag=>?_) aa.o ?_
 ·exact kV (j:=2) ag.1 _ rfl rfl rfl Tryz.underlying62 rfl
 refine kNm ?_;refine Kp 5 7 (.pointer (some ⟨bk,0,none⟩)) aa.o ?_;refine kNm ?_;refine Kp 6 6 (.pointer (some ⟨bk,0,none⟩)) aa.o ?_;refine kNm ?_;refine Kp 7 5 (.pointer (some ⟨bk,2,none⟩)) aa.o ?_;refine kNm ?_;refine Ko 8 4 (.slice KAk ksk.length kck) (fun W9 ag=>?_) aa.o ?_
 ·exact kV (j:=2) ag.2 _ rfl rfl rfl Tryz.underlying62 rfl
 refine kNm ?_;refine Kq 9 3 (fun K hK=>?_);refine zIq gpG W8 rfl _ _ rfl 0 (.slice KA ks.length kc) ks.length us rfl wQ.o KAk ksk.length kck W8.heap.size usk rfl (by have:=bi.o.hl;omega) (VP.vl (kW6 sV.o fun g hg=>(sV.o.lt g hg).2) (fun _ h=>h)) (kQn bi.o) Kg Kb (Nat.zero_le _) ?_;intro A9 c9 W9 hown hgr hat;have fM:=hd hown;have kx:=hd hgr;have wR:=hd hat;have gN:=hgr.size;have iY:=hd (fL.o.grew hgr (fun e=>(dA.o.fk _ e).2.1 rfl));have wS:=hd (sU.o.grew hgr (fun e=>dF.o _ e pR));clear hown hgr hat aa;have aa:=hd (And.intro iY.o wS.o);refine kNm ?_;refine hK _ _ (fun _=>aa.o) ?_;clear hK K;refine Kq 10 2 (fun K hK=>?_);rw[if_pos Ka];go_simp;refine hK _ _ (fun _=>aa.o) ?_;clear hK K;refine Kq 11 1 (fun K hK=>?_);rw[if_pos Ka];go_simp;refine hK _ _ (fun _=>aa.o) ?_;clear hK K;refine Kq 12 0 (fun K hK=>?_);rw[if_pos Ka];refine zY kQ5 iY.o _ _ rfl rfl 2 _ [.slice A9 (ks.length+ksk.length) c9] rfl rfl rfl rfl (zHt rfl) Kn ?_;intro ky hv ho;have sW:=hd (show jT 64 ky b #[.int .i64 lab,.slice A5 (rs.length+rsk.length) c5,.slice A9 (ks.length+ksk.length) c9]from hv);have iZ:=hd ho;have Cu:=ho.size;clear hv ho;refine hK _ _ (fun h=>absurd h Kd) (zAl Ka ?_);clear hK K aa;go_wp2_with fail
 go_end0
 have EO:=dA.o.hr.lt;have Cv:=dA.o.hk.lt;have uZ:=cC.o.lt;have keep:∀q,q<W4.heap.size->q≠b->(Value.slice RA rs.length rc).ownBlock≠some q->(Value.slice KA ks.length kc).ownBlock≠some q->ky.heap[q]? =W4.heap[q]? :=fun q h1 h2 h3 h4=>by
  rw[iZ.o.block q Kb h2,kx.o.block q Kb (fun e=>h4 e.symm),wP.o q h1 h2 h3]
 have mW:∀q,(Value.slice A5 (rs.length+rsk.length) c5).ownBlock=some q->(Value.slice RA rs.length rc).ownBlock=some q∨W4.heap.size<=q:=fun q hq=>by
  rcases mY.o with e|⟨q',e,h⟩
  ·exact .inl (e▸hq)
  ·rw[e]at hq;injection hq with hq;exact .inr Kb
 have vd:∀q,(Value.slice A5 (rs.length+rsk.length) c5).ownBlock=some q->q≠b/\(Value.slice KA ks.length kc).ownBlock≠some q:=fun q hq=>by
  rcases mW q hq with e|e
  ·exact⟨(dA.o.fr q e).2,fun h=>(dA.o.fk q h).2.2 e⟩
  ·exact⟨by have:=dA.o.hb.lt;omega,fun h=>by have:=(Cv q h).2;omega⟩
 have kz:ky.ownsRow 0 3 1 (.slice A5 (rs.length+rsk.length) c5) (rs.length+rsk.length) (rs.map (Value.int .i64)++rsk.map (Value.int .i64)):=kNl cC.o fun q hq=>by
  rw[iZ.o.block q (by have:=(uZ q hq).2;omega) (vd q hq).1,kx.o.block q (by have:=(uZ q hq).2;omega) (fun e=>(vd q hq).2 e.symm),Ct.o,kv.o.block q (uZ q hq).2 (vd q hq).1]
 have hka:∀q,(Value.slice A9 (ks.length+ksk.length) c9).ownBlock=some q->(Value.slice A5 (rs.length+rsk.length) c5).ownBlock≠some q/\((Value.slice KA ks.length kc).ownBlock=some q∨W4.heap.size<=q):=fun q hq=>by
  rcases wR.o with e|⟨q',e,h⟩
  ·rw[e]at hq;exact⟨fun h=>(vd q h).2 hq,.inl hq⟩
  ·rw[e]at hq;injection hq with hq;exact⟨fun h=>by have:=(uZ q h).2;omega,.inr Kb⟩
 have wT:=kN9 fM.o iZ.o (fun e=>by
  rcases(hka _ e).2 with h|h
  ·exact(dA.o.fk _ h).2.1 rfl
  ·have:=dA.o.hb.lt;omega)
 have G1:=dA.o.join bi.o (fun q h=>Nat.lt_of_lt_of_le (mz.o q (aG.o q h)) hs4) (fun q h=>⟨Nat.lt_of_lt_of_le (Cr.o q h) hs4,fun e=>kp.o q h (aG.o q e)⟩) sW.o kz wT mW hka keep;have G2:=dt.o ky _ _ G1 (fun q h1 h2=>keep q (Nat.lt_of_lt_of_le (mz.o q h1) hs4) (fun e=>h2 (e▸dA.o.hF)) (fun e=>h2 (dA.o.fr q e).1) (fun e=>h2 (dA.o.fk q e).1)) (fun q h1 h2 h3=>by
  rcases h1 with h1|h1|h1
  ·exact h2 h1
  ·exact kp.o q h1 h3
  ·have:=mz.o q h3;omega)
 have hcv:∀q,Fk q∨F2 q->F q∨(w.heap.size<=q/\q<ky.heap.size):=fun q h=>by
  rcases jt.o q h with h|h
  ·exact .inl h
  ·exact .inr Kb
 have T4:Tch F2 W4 ky:=⟨by rw[iZ.o.os,kx.o.os,pT.o.1,kv.o.os,mX.o.os,pS.o.1],by rw[iZ.o.tape,kx.o.tape,pT.o.2.1,kv.o.tape,mX.o.tape,pS.o.2.1],by rw[iZ.o.output,kx.o.output,pT.o.2.2,kv.o.output,mX.o.output,pS.o.2.2],by omega,
  fun q h1 h2=>keep q h1 (fun e=>h2 (e▸pQ)) (fun e=>h2 (aG.o q (dA.o.fr q e).1)) (fun e=>h2 (aG.o q (dA.o.fk q e).1))⟩
 refine⟨_,rfl,G2,fun q h=>?_,((HT.o.trans iV.o fun q _ h=>h).trans (Tch.of_below (F:=F) bf.o) fun q _ h=>h).trans T4 fun q hq h=>?_⟩
 ·rcases h with h|h|h|h
  ·exact hcv q (.inr h.1)
  ·exact hcv q (.inr (aG.o q h))
  ·exact hcv q (.inl h)
  ·exact .inr Kb
 ·rcases jt.o q (.inr h)with h|h
  ·exact h
  ·omega
