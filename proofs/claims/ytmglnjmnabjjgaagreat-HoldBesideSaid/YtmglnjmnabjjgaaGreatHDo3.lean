import Derived.Test.YtmglnjmnabjjgaaGreatHDo2
set_option maxRecDepth 100000
namespace Go.Proofs.YtmglnjmnabjjgaaGreat
open Go.RowKit
variable {w:World}{A:Option Addr}{l rs rsk:List Int}{lab labk:Int}
theorem kNm {P Q:Prop}(k:Q)(h:Q->P:=by
 intro kk;simp only[Act.put,List.getElem_toArray,List.getElem_cons_succ,List.getElem_cons_zero,List.setIfInBounds_toArray,List.set_cons_succ,List.set_cons_zero];exact kk):P:=h k
theorem kSo {B:Nat}(h:IL w B A l):VL w B A (l.map (Value.int .i64)):=fun hn=>by
 obtain⟨b,o,e,hb,hc⟩:=h (fun e=>hn (by rw[e];rfl));refine⟨b,o,e,hb,fun k v hk=>?_⟩;rw[List.getElem?_map]at hk;have hl:k<l.length:=Nat.lt_of_not_le fun h=>by rw[List.getElem?_eq_none h]at hk;cases hk
 rw[List.getElem?_eq_getElem hl]at hk;simp only[Option.map_some,Option.some.injEq]at hk;rw[hc k hl,<-hk];unfold iAt;simp[List.getD_eq_getElem?_getD,hl]
theorem kPk {base n c:Nat}(h:w.ownsRow base 3 1 (.slice A n c) n (l.map (Value.int .i64))):IL w w.heap.size A l:=fun hn=>by
 obtain⟨A',c',e,_,_,hf⟩:=zC9 h;injection e with e1 _ _;subst e1;have hc:∀k,k<l.length->(l.map (Value.int .i64))[k]? =some (.int .i64 (iAt l k)):=fun k hk=>by
  rw[List.getElem?_map,List.getElem?_eq_getElem hk];unfold iAt;simp[List.getD_eq_getElem?_getD,hk]
 obtain⟨g,rfl,_,hg,_,_⟩:=hf 0 _ (hc 0 (List.length_pos_iff.2 hn));refine⟨g,0,rfl,hg,fun k hk=>?_⟩;obtain⟨g',e,_,_,h4,_⟩:=hf k _ (hc k hk);injection e with e;injection e with e;subst e;rw[Nat.zero_add];exact h4
theorem GhO.join {w':World}{b bk:Nat}{ks ksk:List NT}{R K Rk Kk R' K':Value}{us usk:List Value}{Fs Fsk:Nat->Nat->Prop}{F Fk:Nat->Prop}(h:GhO w b lab rs ks R K us Fs F)(hk:GhO w bk labk rsk ksk Rk Kk usk Fsk Fk)(hF:∀q,F q->q<w.heap.size)(gT:∀q,Fk q->q<w.heap.size/\¬F q)
  (hv:jT 64 w' b #[.int .i64 lab,R',K']) (hr:w'.ownsRow 0 3 1 R' (rs.length+rsk.length) (rs.map (Value.int .i64)++rsk.map (Value.int .i64))) (hK:w'.ownsRow 0 53 1 K' (ks.length+ksk.length) (us++usk))
  (l8:∀q,R'.ownBlock=some q->R.ownBlock=some q∨w.heap.size<=q) (hka:∀q,K'.ownBlock=some q->R'.ownBlock≠some q/\(K.ownBlock=some q∨w.heap.size<=q)) (keep:∀q,q<w.heap.size->q≠b->R.ownBlock≠some q->K.ownBlock≠some q->w'.heap[q]? =w.heap[q]?):
  Gh w' (.pointer (some ⟨b,0,none⟩)) (.mk false [] (lab::(rs++rsk)) (ks++ksk)) (fun q=>F q∨Fk q∨(w.heap.size<=q/\q<w'.heap.size)):=by
 have hbl:=h.hb.lt;have xf:∀j q,Fs j q->q<w.heap.size/\q≠b/\R'.ownBlock≠some q/\K'.ownBlock≠some q:=fun j q hq=>by
  have hs:=h.sub j q hq;have hl:=hF q hs.1;refine⟨hl,hs.2.1,fun e=>?_,fun e=>?_⟩
  ·rcases l8 q e with e|e
   ·exact hs.2.2.1 e
   ·omega
  ·rcases(hka q e).2 with e|e
   ·exact hs.2.2.2 e
   ·omega
 have xg:∀j q,Fsk j q->q<w.heap.size/\q≠b/\R'.ownBlock≠some q/\K'.ownBlock≠some q:=fun j q hq=>by
  have hs:=gT q (hk.sub j q hq).1;refine⟨hs.1,fun e=>hs.2 (e▸h.hF),fun e=>?_,fun e=>?_⟩
  ·rcases l8 q e with e|e
   ·exact hs.2 (h.fr q e).1
   ·omega
  ·rcases(hka q e).2 with e|e
   ·exact hs.2 (h.fk q e).1
   ·omega
 refine .mk _ b lab (rs++rsk) (ks++ksk) R' K' (us++usk) (fun j=>if j<ks.length then Fs j else Fsk (j-ks.length)) hv (.inl h.hF) (by rw[List.length_append,List.map_append];exact hr) (by rw[List.length_append];exact hK) (by rw[List.length_append,List.length_append,h.hl,hk.hl])
  (fun q hq=>?_) (fun q hq=>?_) (fun j m u e1 e2=>?_) (fun j q hq=>?_) (fun i j q hne h1 h2=>?_)
 ·rcases l8 q hq with e|e
  ·exact⟨.inl (h.fr q e).1,(h.fr q e).2⟩
  ·exact⟨.inr (.inr ⟨e,(hr.lt q hq).2⟩),by omega⟩
 ·rcases(hka q hq).2 with e|e
  ·exact⟨.inl (h.fk q e).1,(h.fk q e).2.1,(hka q hq).1⟩
  ·exact⟨.inr (.inr ⟨e,(hK.lt q hq).2⟩),by omega,(hka q hq).1⟩
 ·by_cases hj:j<ks.length
  ·rw[List.getElem?_append_left hj]at e1;rw[List.getElem?_append_left (by rw[h.hl];exact hj)]at e2;rw[if_pos hj];exact(h.kids j m u e1 e2).frame fun q hq=>keep q (xf j q hq).1 (h.sub j q hq).2.1 (h.sub j q hq).2.2.1 (h.sub j q hq).2.2.2
  ·rw[List.getElem?_append_right Kb]at e1;rw[List.getElem?_append_right (by rw[h.hl];omega),h.hl]at e2;rw[if_neg hj];exact(hk.kids _ m u e1 e2).frame fun q hq=>by
    have hs:=gT q (hk.sub _ q hq).1;exact keep q hs.1 (xg _ q hq).2.1 (fun e=>hs.2 (h.fr q e).1) (fun e=>hs.2 (h.fk q e).1)
 ·by_cases hj:j<ks.length
  ·rw[if_pos hj]at hq;exact⟨.inl (h.sub j q hq).1,(xf j q hq).2⟩
  ·rw[if_neg hj]at hq;exact⟨.inr (.inl (hk.sub _ q hq).1),(xg _ q hq).2⟩
 ·by_cases h3:i<ks.length
  ·rw[if_pos h3]at h1;by_cases h4:j<ks.length
   ·rw[if_pos h4]at h2;exact h.dis i j q hne h1 h2
   ·rw[if_neg h4]at h2;exact(gT q (hk.sub _ q h2).1).2 (h.sub i q h1).1
  ·rw[if_neg h3]at h1;by_cases h4:j<ks.length
   ·rw[if_pos h4]at h2;exact(gT q (hk.sub _ q h1).1).2 (h.sub j q h2).1
   ·rw[if_neg h4]at h2;exact hk.dis _ _ q Kb h1 h2
set_option maxHeartbeats 8000000 in
theorem kV1 {w0:World}{v:Value}{g:NT}{F:Nat->Prop}{o:OC}{a:OpP}{u:List Int}{i:Nat}{x _k:NT}{ks ksk:List NT}(hG:Gh w v g F)(hF:∀q,F q->w0.heap.size<=q/\q<w.heap.size)(ho:OkA w0 o a)(hw:Below w0.heap.size w0 w)(ta:zAf a)(hk:o.k=3)(bA:a.q=u++[((i+1:Nat):Int)])(hx:kB g u=some x)(hi:x.ks[i+1]? =some (.mk false [] (labk::rsk) ksk))(hs:x.ks.length<=500000)(hbk:kB (putT g u (jS x (i+1) 1 [])) (u++[(i:Int)])=some (.mk false [] (lab::rs) ks))(hsz:rs.length+rsk.length<=500000/\ks.length+ksk.length<=500000):Calls Tryz.prog 17 #[v,.agg o.row] w (kSl F v (putT (putT g u (jS x (i+1) 1 [])) (u++[(i:Int)]) (.mk false [] (lab::(rs++rsk)) (ks++ksk))) w):=by
 first|have k1:(o.k==1)=true:=by simp[hk]|have k1:(o.k==1)=false:=by simp[hk]
 first|have k2:(o.k==2)=true:=by simp[hk]|have k2:(o.k==2)=false:=by simp[hk]
 first|have k3:(o.k==3)=true:=by simp[hk]|have k3:(o.k==3)=false:=by simp[hk]
 first|have k4:(o.k==4)=true:=by simp[hk]|have k4:(o.k==4)=false:=by simp[hk]
 first|have k5:(o.k==5)=true:=by simp[hk]|have k5:(o.k==5)=false:=by simp[hk]
 first|have k7:(o.k==7)=true:=by simp[hk]|have k7:(o.k==7)=false:=by simp[hk]
 first|have k8:(o.k==8)=true:=by simp[hk]|have k8:(o.k==8)=false:=by simp[hk]
 clear hk;have hlq:o.lq=u.length+1:=by have:=ho.hlq;rw[bA]at this;simp at this;omega
 have bj:=ta.hq;have gU:u.length+1<=60:=by rw[bA]at bj;simpa using bj
 have hin:=ho.hiq;rw[bA]at hin;obtain⟨lu,iW⟩:∃l,u.length=l:=⟨_,rfl⟩;rw[iW]at hlq gU;have eQ:=hd bA;have HX:=hd hx;have HI:=hd hi;have HS:=hd hs;have eX:=hd hbk;have cF:=hd hsz;have d9:=hd hin;have aJ:=hd hlq;have eY:=hd iW;have gD:=hd bj;clear bA hx hi hs hbk hsz hin hlq iW bj;obtain⟨W1,hW1⟩:∃W,w.alloc (.cells o.row 35)=W:=⟨_,rfl⟩;have hv:jR W1 w.heap.size o:=hW1▸jR.new w o;have au:Below w.heap.size w W1:=hW1▸Kl.alloc Km _;have eP:=hw.size;have HV:=hd hv;have HB:=hd (hw.trans (au.mono eP));have HG:=hd (hG.later (fun q h=>(hF q h).2) au);have HF:=hd (fun q(h:F q)=>(⟨(hF q h).1,(hF q h).2,Nat.lt_of_lt_of_le (hF q h).2 au.size⟩:w0.heap.size<=q/\q<w.heap.size/\q<W1.heap.size));have HT:=hd (Tch.of_below (F:=F) au);have HO:=hd ho;have ax:=hd ta;have HW:=hd hW1;have hs1:W1.heap.size=w.heap.size+1:=by rw[<-hW1];simp
 clear hG hF ho hw ta hv au hW1;go_enter Tryz.func17,Tryz.ntmps17
 go_upto_region 1 with fail
 rw[HW.o];clear HW;go_upto_region 10 with(first
  |((with_reducible refine zC (ty:=3) (x:=.tmp 17) ?_);refine zE HV.o (j:=0) (v:=.int .i64 o.k) _ rfl rfl rfl rfl Tryz.underlying3 rfl ?_)
  |((with_reducible refine zC (ty:=27) (x:=.tmp 43) ?_);refine zE HV.o (j:=1) (v:=.slice o.Q o.lq o.cq) _ rfl rfl rfl rfl Tryz.underlying27 rfl ?_)
  |(go_at_call 44;refine Calls.mono (kQa HG.o (fun q h=>(HF.o q h).2.2) (by rw[<-eQ.o];exact(HO.o.later HB.o).hasq ax.o) HX.o HI.o HS.o) ?_;rintro e w2 ⟨p,Fk,F2,rfl,h1,h2,h3,h4,h5⟩;have hs2:=h5.size;have iP:=hd h1;have HG2:=hd h2;have iQ:=hd h3;have iw:=hd h4;have gM:=hd h5;have aL:=hd (HB.o.trans (h5.below Kb (fun q _ h=>(HF.o q h).1)));have aj:=hd (show jR w2 w.heap.size o from(h5.block _ HV.o.lt (fun e=>by have:=(HF.o _ e).2.1;omega)).trans HV.o);clear h1 h2 h3 h4 h5)
  |fail)
 obtain⟨bk,hpk⟩:=iP.o.ptr;subst hpk;have hqo:=(HO.o.later aL.o).hasq ax.o;have zg:=hqo.il;have m9:=hd hqo;clear hqo zg;go_upto_region 11 with(first
  |((with_reducible refine zC (ty:=27) (x:=.tmp 46) ?_);refine zE aj.o (j:=1) (v:=.slice o.Q o.lq o.cq) _ rfl rfl rfl rfl Tryz.underlying27 rfl ?_)
  |(at_builtin;refine kNs giG w2 rfl (.const (.slice none 0 0)) (.tmp 47) rfl w2.heap.size rfl o.Q o.lq o.cq w2.heap.size (a.q.map (Value.int .i64)) rfl (by have:=m9.o.len;simp;omega) (kSo m9.o.il) (kN2 _) (by have:=aJ.o;unfold maxLen;omega) (by have:=aJ.o;omega) Km ?_;intro A3 c3 w3 hown hb3 hat;have HOWN:=hd hown;have cE:=hd hb3;clear hown hb3 hat)
  |fail)
 rw[aJ.o];obtain⟨C7,pF,eA,hc3,zh,iX⟩:=zC9 HOWN.o;injection eA with qa _ qb;subst qa qb;rw[aJ.o]at hc3;have mA:(a.q.map (Value.int .i64))[lu]? =some (.int .i64 ((i+1:Nat):Int)):=by rw[eQ.o,List.map_append,List.getElem?_append_right (by simp[eY.o]),List.length_map,eY.o,Nat.sub_self];rfl
 obtain⟨g3,rfl,qc,qd,cu,iY⟩:=iX lu _ mA;have iZ:=HOWN.o;rw[aJ.o]at iZ;obtain⟨bU,cR⟩:=iZ.stored lu (.int .i64 (i:Int));obtain⟨W4,bS⟩:∃W,w3.setCell ⟨g3,lu,none⟩ (.int .i64 (i:Int))=W:=⟨_,rfl⟩;rw[bS]at bU cR;have sy:=hd bS;have hi1:(((i+1:Nat):Int))=(i:Int)+1:=Kb;rw[hi1]at cu;have qf:(i:Int)<=500000:=by have h1:=(List.getElem?_eq_some_iff.1 HI.o).1;have h2:=HS.o;omega
 have aO:=hd (cE.o.grown cR cE.o.size (fun j hj=>by injection hj with hj;omega));have eZ:(a.q.map (Value.int .i64)).set lu (.int .i64 (i:Int))=(u++[(i:Int)]).map (Value.int .i64):=by rw[eQ.o,List.map_append,List.set_append_right _ _ (by simp[eY.o]),List.length_map,eY.o,Nat.sub_self,List.map_append];rfl
 rw[eZ]at bU;have mB:zKt W4 (some ⟨g3,0,none⟩) (lu+1) c3 (u++[(i:Int)]):=⟨by simp[eY.o],by omega,hc3,kPk bU,fun j hj=>by
  rw[List.length_append,List.length_singleton]at hj;by_cases h:j<u.length
  ·have h9:=d9.o j Kf;rw[kO0 h]at h9⊢;exact h9
  ·obtain rfl:j=u.length:=Kb;rw[kPn];omega⟩
 have qg:=hd mB;clear mB eZ bU cR iZ mA iX bS hi1;go_upto_region 12 with fail
 rw[sy.o];clear cu iY;have aS:∀q,F2 q->q<w2.heap.size:=fun q h=>by
  rcases iw.o q (.inr h)with h|h
  ·have:=(HF.o q h).2.2;omega
  ·exact h.2
 have hlk2:∀q,Fk q->q<w2.heap.size:=fun q h=>by
  rcases iw.o q (.inl h)with h|h
  ·have:=(HF.o q h).2.2;omega
  ·exact h.2
 have hs4:=aO.o.size;have hK4:=iP.o.later hlk2 aO.o;obtain⟨pu,Fm,hpt,dL,hsub,bi⟩:=Gh.sub _ (HG2.o.later aS aO.o) eX.o;obtain⟨b,lab',rs',ks',RA,rc,KA,kc,us,Fs,rfl,e0,hO⟩:=dL.opened;simp only[NT.mk.injEq,List.cons.injEq,true_and]at e0;obtain⟨⟨rfl,rfl⟩,rfl⟩:=e0;obtain⟨bk',labk',rsk',ksk',RAk,rck,KAk,kck,usk,Fsk,eV,e0,qh⟩:=hK4.opened;simp only[NT.mk.injEq,List.cons.injEq,true_and]at e0;obtain⟨⟨rfl,rfl⟩,rfl⟩:=e0;injection eV with eV;injection eV with eV;injection eV with eV _ _;subst eV;have cD:=hd hpt;have cI:=hd hO;have ba:=hd qh;have cG:=hd bi;have aD:=hd hsub;have kp:=hd aS;have zi:=hd hlk2;have zj:=cF.o;clear hK4 dL hpt hO qh bi hsub aS hlk2;go_upto_region 13 with(first
  |(go_at_call 21;refine Calls.mono (kN8 cD.o qg.o) ?_;rintro e wf ⟨rfl,hwf⟩;have hwf:=hwf.symm;subst hwf)
  |fail)
 have ny:F2 b:=aD.o b cI.o.hF;have nz:=ba.o.hF;have hbk:bk≠b:=fun e=>iQ.o bk nz (e▸ny);have xh:∀q,(Value.slice RA rs.length rc).ownBlock=some q->¬Fk q:=fun q h e=>iQ.o q e (aD.o q (cI.o.fr q h).1);have xj:∀q,(Value.slice KA ks.length kc).ownBlock=some q->¬Fk q:=fun q h e=>iQ.o q e (aD.o q (cI.o.fk q h).1);have mC:=hd xh;have eN:=hd xj;clear xh xj;obtain⟨W5,gF⟩:∃W,W4.drew=W:=⟨_,rfl⟩;have qi:W5.heap=W4.heap:=by rw[<-gF];rfl
 have ue:=hd qi;have l9:W5.os=W4.os/\W5.tape=W4.tape/\W5.output=W4.output:=by rw[<-gF];exact⟨rfl,rfl,rfl⟩
 have nA:=hd l9;have hs5:W5.heap.size=W4.heap.size:=by rw[qi]
 have bT:=hd (show jT 64 W5 b #[.int .i64 lab,.slice RA rs.length rc,.slice KA ks.length kc]from by unfold jT;rw[qi];exact cI.o.hb);have qj:=hd (show jT 64 W5 bk #[.int .i64 labk,.slice RAk rsk.length rck,.slice KAk ksk.length kck]from by unfold jT;rw[qi];exact ba.o.hb);clear qi l9;refine jO (S:=fun W'=>jT 64 W' b #[.int .i64 lab,.slice RA rs.length rc,.slice KA ks.length kc]/\jT 64 W' bk #[.int .i64 labk,.slice RAk rsk.length rck,.slice KAk ksk.length kck]) (z:=fun j=>j==12) Ka ?_;rw[gF];clear gF;have aa:=hd (And.intro bT.o qj.o);refine Kp 0 12 (.pointer (some ⟨b,0,none⟩)) aa.o ?_;simp only[Act.put,List.getElem_toArray,List.getElem_cons_zero,List.setIfInBounds_toArray,List.set_cons_succ,List.set_cons_zero];refine Kp 1 11 (.pointer (some ⟨b,0,none⟩)) aa.o ?_;refine kNm ?_;refine Kp 2 10 (.pointer (some ⟨b,0,none⟩)) aa.o ?_;refine kNm ?_;refine Kp 3 9 (.pointer (some ⟨b,1,none⟩)) aa.o ?_;refine kNm ?_;refine Ko 4 8 (.slice RA rs.length rc) (fun W9 ag=>?_) aa.o ?_
 ·exact kV (j:=1) ag.1 _ rfl rfl rfl Tryz.underlying27 rfl
 refine kNm ?_;refine Kp 5 7 (.pointer (some ⟨bk,0,none⟩)) aa.o ?_;refine kNm ?_;refine Kp 6 6 (.pointer (some ⟨bk,0,none⟩)) aa.o ?_;refine kNm ?_;refine Kp 7 5 (.pointer (some ⟨bk,1,none⟩)) aa.o ?_;refine kNm ?_;refine Ko 8 4 (.slice RAk rsk.length rck) (fun W9 ag=>?_) aa.o ?_
 ·exact kV (j:=1) ag.2 _ rfl rfl rfl Tryz.underlying27 rfl
 refine kNm ?_;refine Kq 9 3 (fun K hK=>?_);refine zIq giG W5 rfl _ _ rfl 0 (.slice RA rs.length rc) rs.length (rs.map (Value.int .i64)) rfl (kNl cI.o.hr fun q _=>by rw[ue.o]) RAk rsk.length rck W4.heap.size (rsk.map (Value.int .i64)) rfl Kc (hd (kSm ba.o|>fun h=>h.keep fun p hp=>by unfold World.cell?;rw[ue.o])).o (kN2 _) Kg Kb (Nat.zero_le _) ?_;intro A5 c5 W6 hown hgr hat;have bV:=hd hown;have lA:=hd hgr;have lB:=hd hat;have kj:=hgr.size;have gV:=hd (bT.o.grew hgr (fun e=>(cI.o.fr _ e).2 rfl));have ql:=hd (qj.o.grew hgr (fun e=>mC.o _ e nz));clear hown hgr hat aa;have aa:=hd (And.intro gV.o ql.o);refine kNm ?_;refine hK _ _ (fun _=>aa.o) ?_;clear hK K;refine Kq 10 2 (fun K hK=>?_);rw[if_pos Ka];go_simp;refine hK _ _ (fun _=>aa.o) ?_;clear hK K;refine Kq 11 1 (fun K hK=>?_);rw[if_pos Ka];go_simp;refine hK _ _ (fun _=>aa.o) ?_;clear hK K;refine Kq 12 0 (fun K hK=>?_);rw[if_pos Ka];refine zY zCa gV.o _ _ rfl rfl 1 _ [.slice A5 (rs.length+rsk.length) c5] rfl rfl rfl rfl (zHt rfl) Kn ?_;intro W7 hv ho;have fO:=hd (show jT 64 W7 b #[.int .i64 lab,.slice A5 (rs.length+rsk.length) c5,.slice KA ks.length kc]from hv);have uf:=hd (ql.o.off ho hbk);have ja:=hd ho;have nB:=ho.size;clear hv ho;refine hK _ _ (fun h=>absurd h Kd) (zAl Ka ?_);clear hK K aa;go_upto_region 14 with fail
 obtain⟨W8,gG⟩:∃W,W7.drew=W:=⟨_,rfl⟩;have mD:W8.heap=W7.heap:=by rw[<-gG];rfl
 have zk:=hd mD;have bg:W8.os=W7.os/\W8.tape=W7.tape/\W8.output=W7.output:=by rw[<-gG];exact⟨rfl,rfl,rfl⟩
 have nC:=hd bg;have pG:W8.heap.size=W7.heap.size:=by rw[mD]
 have fe:=hd (show jT 64 W8 b #[.int .i64 lab,.slice A5 (rs.length+rsk.length) c5,.slice KA ks.length kc]from by unfold jT;rw[mD];exact fO.o);have qm:=hd (show jT 64 W8 bk #[.int .i64 labk,.slice RAk rsk.length rck,.slice KAk ksk.length kck]from by unfold jT;rw[mD];exact uf.o);--what lay there,but this one's block and its runes' row
 have lC:∀q,q<W4.heap.size->q≠b->(Value.slice RA rs.length rc).ownBlock≠some q->W8.heap[q]? =W4.heap[q]? :=fun q h1 h2 h3=>by
  rw[mD,ja.o.block q Kb h2,lA.o.block q Kb (fun e=>h3 e.symm),ue.o]
 have ug:=hd lC;have uh:=hd (kNl cI.o.hk fun q hq=>lC q (cI.o.hk.lt q hq).2 (cI.o.fk q hq).2.1 (cI.o.fk q hq).2.2);have qp:=hd (kNl ba.o.hk fun q hq=>lC q (ba.o.hk.lt q hq).2 (fun e=>iQ.o q (ba.o.fk q hq).1 (e▸ny)) (fun e=>mC.o q e (ba.o.fk q hq).1));clear mD bg lC;refine jO (S:=fun W'=>jT 64 W' b #[.int .i64 lab,.slice A5 (rs.length+rsk.length) c5,.slice KA ks.length kc]/\jT 64 W' bk #[.int .i64 labk,.slice RAk rsk.length rck,.slice KAk ksk.length kck]) (z:=fun j=>j==12) Ka ?_;rw[gG];clear gG;have aa:=hd (And.intro fe.o qm.o);refine Kp 0 12 (.pointer (some ⟨b,0,none⟩)) aa.o ?_;simp only[Act.put,List.getElem_toArray,List.getElem_cons_zero,List.setIfInBounds_toArray,List.set_cons_succ,List.set_cons_zero];refine Kp 1 11 (.pointer (some ⟨b,0,none⟩)) aa.o ?_;refine kNm ?_;refine Kp 2 10 (.pointer (some ⟨b,0,none⟩)) aa.o ?_;refine kNm ?_;refine Kp 3 9 (.pointer (some ⟨b,2,none⟩)) aa.o ?_;refine kNm ?_;refine Ko 4 8 (.slice KA ks.length kc) (fun W9 ag=>?_) aa.o ?_
 ·exact kV (j:=2) ag.1 _ rfl rfl rfl Tryz.underlying62 rfl
 refine kNm ?_;refine Kp 5 7 (.pointer (some ⟨bk,0,none⟩)) aa.o ?_;refine kNm ?_;refine Kp 6 6 (.pointer (some ⟨bk,0,none⟩)) aa.o ?_;refine kNm ?_;refine Kp 7 5 (.pointer (some ⟨bk,2,none⟩)) aa.o ?_;refine kNm ?_;refine Ko 8 4 (.slice KAk ksk.length kck) (fun W9 ag=>?_) aa.o ?_
 ·exact kV (j:=2) ag.2 _ rfl rfl rfl Tryz.underlying62 rfl
 refine kNm ?_;refine Kq 9 3 (fun K hK=>?_);refine zIq gpG W8 rfl _ _ rfl 0 (.slice KA ks.length kc) ks.length us rfl uh.o KAk ksk.length kck W8.heap.size usk rfl (by have:=ba.o.hl;omega) (VP.vl (kU5 qp.o fun g hg=>(qp.o.lt g hg).2) (fun _ h=>h)) (kPm ba.o) Kg Kb (Nat.zero_le _) ?_;intro A9 c9 W9 hown hgr hat;have fg:=hd hown;have jb:=hd hgr;have ui:=hd hat;have mE:=hgr.size;have gW:=hd (fe.o.grew hgr (fun e=>(cI.o.fk _ e).2.1 rfl));have uj:=hd (qm.o.grew hgr (fun e=>eN.o _ e nz));clear hown hgr hat aa;have aa:=hd (And.intro gW.o uj.o);refine kNm ?_;refine hK _ _ (fun _=>aa.o) ?_;clear hK K;refine Kq 10 2 (fun K hK=>?_);rw[if_pos Ka];go_simp;refine hK _ _ (fun _=>aa.o) ?_;clear hK K;refine Kq 11 1 (fun K hK=>?_);rw[if_pos Ka];go_simp;refine hK _ _ (fun _=>aa.o) ?_;clear hK K;refine Kq 12 0 (fun K hK=>?_);rw[if_pos Ka];refine zY kPz gW.o _ _ rfl rfl 2 _ [.slice A9 (ks.length+ksk.length) c9] rfl rfl rfl rfl (zHt rfl) Kn ?_;intro jc hv ho;have qq:=hd (show jT 64 jc b #[.int .i64 lab,.slice A5 (rs.length+rsk.length) c5,.slice A9 (ks.length+ksk.length) c9]from hv);have gX:=hd ho;have zl:=ho.size;clear hv ho;refine hK _ _ (fun h=>absurd h Kd) (zAl Ka ?_);clear hK K aa;go_wp2_with fail
 go_end0
 have C8:=cI.o.hr.lt;have zm:=cI.o.hk.lt;have sA:=bV.o.lt;have keep:∀q,q<W4.heap.size->q≠b->(Value.slice RA rs.length rc).ownBlock≠some q->(Value.slice KA ks.length kc).ownBlock≠some q->jc.heap[q]? =W4.heap[q]? :=fun q h1 h2 h3 h4=>by
  rw[gX.o.block q Kb h2,jb.o.block q Kb (fun e=>h4 e.symm),ug.o q h1 h2 h3]
 have l8:∀q,(Value.slice A5 (rs.length+rsk.length) c5).ownBlock=some q->(Value.slice RA rs.length rc).ownBlock=some q∨W4.heap.size<=q:=fun q hq=>by
  rcases lB.o with e|⟨q',e,h⟩
  ·exact .inl (e▸hq)
  ·rw[e]at hq;injection hq with hq;exact .inr Kb
 have sB:∀q,(Value.slice A5 (rs.length+rsk.length) c5).ownBlock=some q->q≠b/\(Value.slice KA ks.length kc).ownBlock≠some q:=fun q hq=>by
  rcases l8 q hq with e|e
  ·exact⟨(cI.o.fr q e).2,fun h=>(cI.o.fk q h).2.2 e⟩
  ·exact⟨by have:=cI.o.hb.lt;omega,fun h=>by have:=(zm q h).2;omega⟩
 have jd:jc.ownsRow 0 3 1 (.slice A5 (rs.length+rsk.length) c5) (rs.length+rsk.length) (rs.map (Value.int .i64)++rsk.map (Value.int .i64)):=kNl bV.o fun q hq=>by
  rw[gX.o.block q (by have:=(sA q hq).2;omega) (sB q hq).1,jb.o.block q (by have:=(sA q hq).2;omega) (fun e=>(sB q hq).2 e.symm),zk.o,ja.o.block q (sA q hq).2 (sB q hq).1]
 have hka:∀q,(Value.slice A9 (ks.length+ksk.length) c9).ownBlock=some q->(Value.slice A5 (rs.length+rsk.length) c5).ownBlock≠some q/\((Value.slice KA ks.length kc).ownBlock=some q∨W4.heap.size<=q):=fun q hq=>by
  rcases ui.o with e|⟨q',e,h⟩
  ·rw[e]at hq;exact⟨fun h=>(sB q h).2 hq,.inl hq⟩
  ·rw[e]at hq;injection hq with hq;exact⟨fun h=>by have:=(sA q h).2;omega,.inr Kb⟩
 have um:=kN1 fg.o gX.o (fun e=>by
  rcases(hka _ e).2 with h|h
  ·exact(cI.o.fk _ h).2.1 rfl
  ·have:=cI.o.hb.lt;omega)
 have G1:=cI.o.join ba.o (fun q h=>Nat.lt_of_lt_of_le (kp.o q (aD.o q h)) hs4) (fun q h=>⟨Nat.lt_of_lt_of_le (zi.o q h) hs4,fun e=>iQ.o q h (aD.o q e)⟩) qq.o jd um l8 hka keep;have G2:=cG.o jc _ _ G1 (fun q h1 h2=>keep q (Nat.lt_of_lt_of_le (kp.o q h1) hs4) (fun e=>h2 (e▸cI.o.hF)) (fun e=>h2 (cI.o.fr q e).1) (fun e=>h2 (cI.o.fk q e).1)) (fun q h1 h2 h3=>by
  rcases h1 with h1|h1|h1
  ·exact h2 h1
  ·exact iQ.o q h1 h3
  ·have:=kp.o q h3;omega)
 have hcv:∀q,Fk q∨F2 q->F q∨(w.heap.size<=q/\q<jc.heap.size):=fun q h=>by
  rcases iw.o q h with h|h
  ·exact .inl h
  ·exact .inr Kb
 have T4:Tch F2 W4 jc:=⟨by rw[gX.o.os,jb.o.os,nC.o.1,ja.o.os,lA.o.os,nA.o.1],by rw[gX.o.tape,jb.o.tape,nC.o.2.1,ja.o.tape,lA.o.tape,nA.o.2.1],by rw[gX.o.output,jb.o.output,nC.o.2.2,ja.o.output,lA.o.output,nA.o.2.2],by omega,
  fun q h1 h2=>keep q h1 (fun e=>h2 (e▸ny)) (fun e=>h2 (aD.o q (cI.o.fr q e).1)) (fun e=>h2 (aD.o q (cI.o.fk q e).1))⟩
 refine⟨_,rfl,G2,fun q h=>?_,((HT.o.trans gM.o fun q _ h=>h).trans (Tch.of_below (F:=F) aO.o) fun q _ h=>h).trans T4 fun q hq h=>?_⟩
 ·rcases h with h|h|h|h
  ·exact hcv q (.inr h.1)
  ·exact hcv q (.inr (aD.o q h))
  ·exact hcv q (.inl h)
  ·exact .inr Kb
 ·rcases iw.o q (.inr h)with h|h
  ·exact h
  ·omega
