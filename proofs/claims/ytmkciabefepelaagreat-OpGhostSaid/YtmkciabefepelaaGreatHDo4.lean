import Derived.Test.YtmkciabefepelaaGreatHDo3
set_option maxRecDepth 100000
set_option maxHeartbeats 8000000
namespace Go.Proofs.YtmkciabefepelaaGreat
open Go.RowKit
variable {w w' w0:World}{b i k:Nat}{rs u:List Int}{K K' R v:Value}{us:List Value}{Fs:Nat->Nat->Prop}{F:Nat->Prop}{g x:NT}{a:OpP}
theorem kNj {P Q:Prop}(k:Q)(h:Q->P:=by
 intro kk;simp only[Act.put,List.getElem_toArray,List.getElem_cons_succ,List.getElem_cons_zero,List.setIfInBounds_toArray,List.set_cons_succ,List.set_cons_zero];exact kk):P:=h k
theorem GhO.frame {lab:Int}{ks:List NT}(h:GhO w b lab rs ks R K us Fs F)(hs:∀q,F q->w'.heap[q]? =w.heap[q]?):GhO w' b lab rs ks R K us Fs F:=
 ⟨(hs b h.hF).trans h.hb,h.hF,kNl h.hr fun q hq=>hs q (h.fr q hq).1,kNl h.hk fun q hq=>hs q (h.fk q hq).1,h.hl,h.fr,h.fk,fun j m u e1 e2=>(h.kids j m u e1 e2).frame fun q hq=>hs q (h.sub j q hq).1,h.sub,h.dis⟩
theorem Gh.bare {base:Nat}{lab:Int}{P:Nat->Prop}(hv:jT 59 w b #[.int .i64 lab,R,.slice none 0 0])(hb:P b)(hr:w.ownsRow base 3 1 R rs.length (rs.map (Value.int .i64)))(hl:b<base)(hP:∀q,base<=q->q<w.heap.size->P q):Gh w (.pointer (some ⟨b,0,none⟩)) (.mk false [] (lab::rs) []) P:=
 .mk _ b lab rs [] R (.slice none 0 0) [] (fun _ _=>False) hv hb (kNq hr fun _ _=>Nat.zero_le _) (World.ownsRow_nil _ _ _ _) rfl (fun q hq=>⟨hP q (hr.lt q hq).1 (hr.lt q hq).2,by have:=(hr.lt q hq).1;omega⟩) (fun q hq=>by cases hq) (fun j m u h=>by simp at h) (fun _ _ h=>h.elim) (fun _ _ _ _ h=>h.elim)
theorem GhO.headk {lab:Int}{ks:List NT}(h:GhO w b lab rs ks R K us Fs F)(hF:∀q,F q->q<w.heap.size)(hv:jT 59 w' b #[.int .i64 lab,R,K'])(hK:w'.ownsRow w.heap.size 49 1 K' (ks.take k).length (us.take k))
  (keep:∀q,q<w.heap.size->q≠b->w'.heap[q]? =w.heap[q]?):Gh w' (.pointer (some ⟨b,0,none⟩)) (.mk false [] (lab::rs) (ks.take k)) (fun q=>(F q/\∀j,k<=j->¬Fs j q)∨(w.heap.size<=q/\q<w'.heap.size)):=by
 have hbl:=h.hb.lt;refine .mk _ b lab rs (ks.take k) R K' (us.take k) (fun j q=>j<k/\Fs j q) hv (.inl ⟨h.hF,fun j _ e=>(h.sub j b e).2.1 rfl⟩) (kNl h.hr fun q hq=>keep q (h.hr.lt q hq).2 (h.fr q hq).2) (kNq hK fun _ _=>Nat.zero_le _) (by rw[List.length_take,List.length_take,h.hl])
  (fun q hq=>⟨.inl ⟨(h.fr q hq).1,fun j _ e=>(h.sub j q e).2.2.1 hq⟩,(h.fr q hq).2⟩) (fun q hq=>⟨.inr (hK.lt q hq),by have:=(hK.lt q hq).1;omega,fun e=>by have:=(hK.lt q hq).1;have:=hF q (h.fr q e).1;omega⟩)
  (fun j m u e1 e2=>?_) (fun j q hq=>?_) (fun i j q hne h1 h2=>h.dis i j q hne h1.2 h2.2)
 ·have hj:j<k:=by
   have:=(List.getElem?_eq_some_iff.1 e1).1;rw[List.length_take]at this;omega
  rw[List.getElem?_take_of_lt hj]at e1 e2;exact((h.kids j m u e1 e2).mono fun q hq=>⟨hj,hq⟩).frame fun q hq=>keep q (hF q (h.sub j q hq.2).1) (h.sub j q hq.2).2.1
 ·have hs:=h.sub j q hq.2;exact⟨.inl ⟨hs.1,fun i hi e=>h.dis j i q Kb hq.2 e⟩,hs.2.1,hs.2.2.1,fun e=>by have:=(hK.lt q e).1;have:=hF q hs.1;omega⟩
theorem GhO.tailk {bm base:Nat}{lab l':Int}{ks:List NT}(h:GhO w b lab rs ks R K us Fs F)(hF:∀q,F q->q<bm)(hv:jT 59 w bm #[.int .i64 l',.slice none 0 0,K'])(hK:w.ownsRow base 49 1 K' (ks.drop k).length (us.drop k))(hl:bm<base):
  Gh w (.pointer (some ⟨bm,0,none⟩)) (.mk false [] [l'] (ks.drop k)) (fun q=>(∃j,k<=j/\Fs j q)∨(bm<=q/\q<w.heap.size)):=by
 have hbl:=hv.lt;refine .mk _ bm l' [] (ks.drop k) (.slice none 0 0) K' (us.drop k) (fun j q=>Fs (k+j) q) hv (.inr ⟨Nat.le_refl _,hbl⟩) (World.ownsRow_nil _ _ _ _) (kNq hK fun _ _=>Nat.zero_le _) (by rw[List.length_drop,List.length_drop,h.hl])
  (fun q hq=>by cases hq) (fun q hq=>⟨.inr ⟨by have:=(hK.lt q hq).1;omega,(hK.lt q hq).2⟩,by have:=(hK.lt q hq).1;omega,fun e=>by cases e⟩)
  (fun j m u e1 e2=>?_) (fun j q hq=>?_) (fun i j q hne h1 h2=>h.dis _ _ q Kb h1 h2)
 ·rw[List.getElem?_drop]at e1 e2;exact h.kids _ m u e1 e2
 ·have hs:=hF q (h.sub _ q hq).1;exact⟨.inl ⟨k+j,by omega,hq⟩,by omega,fun e=>by(cases e),fun e=>by have:=(hK.lt q e).1;omega⟩
theorem kS6 {o:OC}{lab:Int}{ks:List NT}(hG:Gh w v g F)(hF:∀q,F q->w0.heap.size<=q/\q<w.heap.size)(ho:OkA w0 o a)(hw:Below w0.heap.size w0 w)(ta:zAf a)(hk:o.k=4)(bn:a.q=u++[(i:Int)])(qF:kB g u=some x)(hi:i<x.ks.length)(hs:x.ks.length<=500000)(hx:kB g a.q=some (.mk false [] (lab::rs) ks))(hz:o.z=(k:Int))(hkr:k<=rs.length)(hrl:rs.length<=500000)(ng:ks.length=0):Calls Tryz.prog 24 #[v,.agg o.row] w (kRn F v (putT (putT g a.q (.mk false [] (lab::rs.take k) ks)) u (jS (setK x i (.mk false [] (lab::rs.take k) ks)) (i+1) 0 [.mk false [] (-2::rs.drop k) []])) w):=by
 first|have k1:(o.k==1)=true:=by simp[hk]|have k1:(o.k==1)=false:=by simp[hk]
 first|have k2:(o.k==2)=true:=by simp[hk]|have k2:(o.k==2)=false:=by simp[hk]
 first|have k3:(o.k==3)=true:=by simp[hk]|have k3:(o.k==3)=false:=by simp[hk]
 first|have k4:(o.k==4)=true:=by simp[hk]|have k4:(o.k==4)=false:=by simp[hk]
 first|have k5:(o.k==5)=true:=by simp[hk]|have k5:(o.k==5)=false:=by simp[hk]
 first|have k7:(o.k==7)=true:=by simp[hk]|have k7:(o.k==7)=false:=by simp[hk]
 first|have k8:(o.k==8)=true:=by simp[hk]|have k8:(o.k==8)=false:=by simp[hk]
 clear hk;have hlq:o.lq=u.length+1:=by have:=ho.hlq;rw[bn]at this;simp at this;omega
 have br:=ta.hq;have iu:u.length+1<=60:=by rw[bn]at br;simpa using br
 have hin:=ho.hiq;rw[bn]at hin;obtain⟨lu,fg⟩:∃l,u.length=l:=⟨_,rfl⟩;rw[fg]at hlq iu;obtain⟨pu,Fm,hpt,dY,hsub,bA⟩:=Gh.sub a.q hG hx;obtain⟨b,lab',rs',ks',RA,rc,KA,kc,us,Fs,rfl,e0,hO⟩:=dY.opened;simp only[NT.mk.injEq,List.cons.injEq,true_and]at e0;obtain⟨⟨rfl,rfl⟩,rfl⟩:=e0;obtain⟨RA',rc',eR,hrc,vE,_⟩:=zC9 hO.hr;injection eR with lU _ lV;subst lU lV;obtain⟨KA',kc',eK,hkc,oz,_⟩:=zC9 hO.hk;injection eK with lZ _ ma;subst lZ ma;have aA:∀W:World,(Instr.slice 27 (.slice RA rs.length rc) none (some (.int .i64 o.z)) none).run Tryz.prog W=.ok (.slice RA k rc) W:=by rw[hz];exact kOv RA rs.length rc k Kb
 obtain⟨D,hD,ax⟩:=kPa RA rs.length rc k Kb hrc;have az:∀W:World,(Instr.slice 27 (.slice RA rs.length rc) (some (.int .i64 o.z)) none none).run Tryz.prog W=.ok (.slice D (rs.length-k) (rc-k)) W:=by rw[hz];exact ax
 have hle:decide (o.z<=(rs.length:Int))=true:=by rw[hz];simpa using hkr
 have rC:((ks.length:Int)==0)=true:=by rw[ng];rfl
 clear ax;have hzb:0<=o.z/\o.z<=500000:=Kb;have gu:b<w.heap.size:=hO.hb.lt;have hg0:=hG;have rp:=hd hzb;have qG:=hd hle;have vO:=hd rC;have ip:=hd aA;have dR:=hd az;have HD:=hd hD;have bW:=hd hO;have dw:=hd bA;have aF:=hd hsub;have di:=hd hpt;have fB:=hd (kRq hO);have vP:=hd (kSk hO);have vQ:=hd qF;have fF:=hd bn;have HI:=hd hi;have HS:=hd hs;have dS:=hd hin;have aQ:=hd hlq;have fG:=hd fg;have BU:=hd hx;have rD:=hd hw;clear hO bA hsub hpt dY hx hD aA az hz hzb qF bn hi hs hin hlq fg hle rC hg0 br;obtain⟨W1,hW1⟩:∃W,w.alloc (.cells o.row 35)=W:=⟨_,rfl⟩;have hv:jR W1 w.heap.size o:=hW1▸jR.new w o;have aw:Below w.heap.size w W1:=hW1▸Kl.alloc Km _;have fC:=hw.size;have HV:=hd hv;have HB:=hd (hw.trans (aw.mono fC));clear hG;have HF:=hd (fun q(h:F q)=>(⟨(hF q h).1,(hF q h).2,Nat.lt_of_lt_of_le (hF q h).2 aw.size⟩:w0.heap.size<=q/\q<w.heap.size/\q<W1.heap.size));have di:=hd (show kPl W1 _ a.q _ from kN8 _ di.o aw);have iq:=hd (show jT 59 W1 b #[.int .i64 lab,.slice RA rs.length rc,.slice KA ks.length kc]from(aw.block b gu).trans bW.o.hb);have jk:=hd aw;have HT:=hd (Tch.of_below (F:=F) aw);have HO:=hd ho;have au:=hd ta;have HW:=hd hW1;have hs1:W1.heap.size=w.heap.size+1:=by rw[<-hW1];simp
 clear hF ho hw ta hv aw hW1;go_enter Tryz.func24,Tryz.ntmps24
 go_upto_region 1 with fail
 rw[HW.o];clear HW;go_upto_region 18 with(first
  |((with_reducible refine zC (ty:=3) (x:=.tmp 17) ?_);refine zE HV.o (j:=0) (v:=.int .i64 o.k) _ rfl rfl rfl rfl Tryz.underlying3 rfl ?_)
  |((with_reducible refine zC (ty:=27) (x:=.tmp 87) ?_);refine zE HV.o (j:=1) (v:=.slice o.Q o.lq o.cq) _ rfl rfl rfl rfl Tryz.underlying27 rfl ?_)
  |(go_at_call 27;refine Calls.mono (kN5 di.o ((HO.o.later HB.o).hasq au.o)) ?_;rintro e w1 ⟨rfl,hw1⟩;have hw1:=hw1.symm;subst hw1)
  |fail)
 obtain⟨W2,hW2⟩:∃W,W1.alloc (.cells #[.int .i64 (-2),.slice none 0 0,.slice none 0 0] 59)=W:=⟨_,rfl⟩;rw[hW2];obtain⟨bm,rE⟩:∃m,w.heap.size+1=m:=⟨_,rfl⟩;rw[rE];have hs2:W2.heap.size=bm+1:=by rw[<-hW2];simp;omega
 have rF:jT 59 W2 bm #[.int .i64 (-2),.slice none 0 0,.slice none 0 0]:=by rw[<-rE,<-hs1,<-hW2];exact jT.new W1 _ _
 have eD:Below W1.heap.size W1 W2:=hW2▸Kl.alloc Km _;have cX:=hd eD;have rG:=hd rF;have ah:=hd (show jR W2 w.heap.size o from(eD.block _ HV.o.lt).trans HV.o);have cu:=hd (iq.o.keep eD);have c1:=ah.o.cell 3 (.int .i64 o.z) rfl;have c2:=cu.o.cell 1 (.slice RA rs.length rc) rfl;have c3:=cu.o.cell 2 (.slice KA ks.length kc) rfl;have d1:=qG.o;have d2:=vO.o;clear hW2 rF eD;go_quiet(fail)
 obtain⟨W3,hW3⟩:∃W,W2.drewN nq=W:=⟨_,rfl⟩;rw[hW3];have hs3:W3.heap.size=W2.heap.size:=by rw[<-hW3];rfl
 have ju:=hd (jk.o.trans ((cX.o.trans ((hW3▸zZ (Below.refl W2.heap.size W2) nq:Below W2.heap.size W2 W3).mono cX.o.size)).mono Kb));have gf:=hd (hW3▸(show jR (W2.drewN nq) w.heap.size o from ah.o):jR W3 w.heap.size o);have fD:=hd (hW3▸(show jT 59 (W2.drewN nq) b _ from cu.o):jT 59 W3 b #[.int .i64 lab,.slice RA rs.length rc,.slice KA ks.length kc]);have o5:=hd (hW3▸(show jT 59 (W2.drewN nq) bm _ from rG.o):jT 59 W3 bm #[.int .i64 (-2),.slice none 0 0,.slice none 0 0]);clear hW3 c1 c2 c3 d1 d2 ah cu rG;go_upto_region 19 with fail
 obtain⟨W4,cN⟩:∃W,W3.drew=W:=⟨_,rfl⟩;have hs4:W4.heap.size=W3.heap.size:=by rw[<-cN];rfl
 have gB:=hd (ju.o.trans (cN▸(Kl.drew.mono ju.o.size):Below w.heap.size W3 W4));have gy:=hd (cN▸(show jR W3.drew w.heap.size o from gf.o):jR W4 w.heap.size o);have dF:=hd (cN▸(show jT 59 W3.drew b _ from fD.o):jT 59 W4 b #[.int .i64 lab,.slice RA rs.length rc,.slice KA ks.length kc]);have jv:=hd (cN▸(show jT 59 W3.drew bm _ from o5.o):jT 59 W4 bm #[.int .i64 (-2),.slice none 0 0,.slice none 0 0]);refine jO (S:=fun W'=>(jT 59 W' b #[.int .i64 lab,.slice RA rs.length rc,.slice KA ks.length kc]/\jT 59 W' bm #[.int .i64 (-2),.slice none 0 0,.slice none 0 0])/\jR W' w.heap.size o) (z:=fun j=>j==15) Ka ?_;rw[cN];clear cN;have aa:=hd (And.intro (And.intro dF.o jv.o) gy.o);refine Kp 0 15 (.pointer (some ⟨bm,0,none⟩)) aa.o ?_;simp only[Act.put,List.getElem_toArray,List.getElem_cons_zero,List.setIfInBounds_toArray,List.set_cons_succ,List.set_cons_zero];refine Kp 1 14 (.pointer (some ⟨bm,0,none⟩)) aa.o ?_;refine kNj ?_;refine Kp 2 13 (.pointer (some ⟨bm,0,none⟩)) aa.o ?_;refine kNj ?_;refine Kp 3 12 (.pointer (some ⟨bm,1,none⟩)) aa.o ?_;refine kNj ?_;refine Ko 4 11 (.slice none 0 0) (fun W9 ag=>?_) aa.o ?_
 ·exact kV (j:=1) ag.1.2 _ rfl rfl rfl Tryz.underlying27 rfl
 refine kNj ?_;refine Kp 5 10 (.pointer (some ⟨b,0,none⟩)) aa.o ?_;refine kNj ?_;refine Kp 6 9 (.pointer (some ⟨b,0,none⟩)) aa.o ?_;refine kNj ?_;refine Kp 7 8 (.pointer (some ⟨b,1,none⟩)) aa.o ?_;refine kNj ?_;refine Ko 8 7 (.slice RA rs.length rc) (fun W9 ag=>?_) aa.o ?_
 ·exact kV (j:=1) ag.1.1 _ rfl rfl rfl Tryz.underlying27 rfl
 refine kNj ?_;refine Kp 9 6 (.pointer (some ⟨w.heap.size,3,none⟩)) aa.o ?_;refine kNj ?_;refine Ko 10 5 (.int .i64 o.z) (fun W9 ag=>?_) aa.o ?_
 ·exact kV (j:=3) ag.2.toR _ rfl rfl rfl Tryz.underlying3 rfl
 refine kNj ?_;refine Ko 11 4 (.slice D (rs.length-k) (rc-k)) (fun W9 ag=>?_) aa.o ?_
 ·have az:=dR.o;go_simp
 refine kNj ?_;refine Kq 12 3 (fun K hK=>?_);refine kNw giG W4 rfl _ _ rfl W4.heap.size rfl D (rs.length-k) (rc-k) w.heap.size ((rs.drop k).map (Value.int .i64)) rfl Kc (by rw[List.map_drop];exact(HD.o _ _ _ fB.o Kc).below gB.o) (kN3 _) Kg Kb Km ?_;intro A5 c5 W5 hown bz hat;have bM:=hd hown;have hs5:=bz.size;have o6:=hd (gB.o.trans (bz.mono gB.o.size));have dG:=hd (show jR W5 w.heap.size o from(bz.block _ gy.o.lt).trans gy.o);have cO:=hd (dF.o.keep bz);have jw:=hd (jv.o.keep bz);clear hown bz hat aa;have aa:=hd (And.intro (And.intro cO.o jw.o) dG.o);refine kNj ?_;refine hK _ _ (fun _=>aa.o) ?_;clear hK K;refine Kq 13 2 (fun K hK=>?_);rw[if_pos Ka];go_simp;refine hK _ _ (fun _=>aa.o) ?_;clear hK K;refine Kq 14 1 (fun K hK=>?_);rw[if_pos Ka];go_simp;refine hK _ _ (fun _=>aa.o) ?_;clear hK K;refine Kq 15 0 (fun K hK=>?_);rw[if_pos Ka];refine zY zCa jw.o _ _ rfl rfl 1 _ [.slice A5 (rs.length-k) c5] rfl rfl rfl rfl (zHt rfl) Kn ?_;intro W6 hv ho;have o7:=hd (show jT 59 W6 bm #[.int .i64 (-2),.slice A5 (rs.length-k) c5,.slice none 0 0]from hv);have ln:=ho.size;have o8:b≠bm:=Kb;have cv:=hd (show jR W6 w.heap.size o from(ho.block _ dG.o.lt Kb).trans dG.o);have iy:=hd (cO.o.off ho o8);have cY:=hd (zN o6.o ho Kb);have cP:=hd (kN4 bM.o ho (fun e=>by have:=(bM.o.lt _ e).1;omega));clear hv ho;refine hK _ _ (fun h=>absurd h Kd) (zAl Ka ?_);clear hK K aa;go_upto_region 20 with fail
 obtain⟨W7,fJ⟩:∃W,W6.drew=W:=⟨_,rfl⟩;have iz:W7.heap.size=W6.heap.size:=by rw[<-fJ];rfl
 have gD:=hd (cY.o.trans (fJ▸(Kl.drew.mono cY.o.size):Below w.heap.size W6 W7));have o9:=hd (fJ▸Kl.drew:Below W6.heap.size W6 W7);have cT:=hd (fJ▸(show jR W6.drew w.heap.size o from cv.o):jR W7 w.heap.size o);have gA:=hd (fJ▸(show jT 59 W6.drew b _ from iy.o):jT 59 W7 b #[.int .i64 lab,.slice RA rs.length rc,.slice KA ks.length kc]);refine jO (S:=fun W'=>jT 59 W' b #[.int .i64 lab,.slice RA rs.length rc,.slice KA ks.length kc]/\jR W' w.heap.size o) (z:=fun j=>j==11) Ka ?_;rw[fJ];clear fJ;have aa:=hd (And.intro gA.o cT.o);refine Kp 0 11 (.pointer (some ⟨b,0,none⟩)) aa.o ?_;simp only[Act.put,List.getElem_toArray,List.getElem_cons_zero,List.setIfInBounds_toArray,List.set_cons_succ,List.set_cons_zero];refine Kp 1 10 (.pointer (some ⟨b,0,none⟩)) aa.o ?_;refine kNj ?_;refine Kp 2 9 (.pointer (some ⟨b,0,none⟩)) aa.o ?_;refine kNj ?_;refine Kp 3 8 (.pointer (some ⟨b,1,none⟩)) aa.o ?_;refine kNj ?_;refine Ko 4 7 (.slice RA rs.length rc) (fun W9 ag=>?_) aa.o ?_
 ·exact kV (j:=1) ag.1 _ rfl rfl rfl Tryz.underlying27 rfl
 refine kNj ?_;refine Kp 5 6 (.pointer (some ⟨w.heap.size,3,none⟩)) aa.o ?_;refine kNj ?_;refine Ko 6 5 (.int .i64 o.z) (fun W9 ag=>?_) aa.o ?_
 ·exact kV (j:=3) ag.2.toR _ rfl rfl rfl Tryz.underlying3 rfl
 refine kNj ?_;refine Ko 7 4 (.slice RA k rc) (fun W9 ag=>?_) aa.o ?_
 ·have aA:=ip.o;go_simp
 refine kNj ?_;refine Kq 8 3 (fun K hK=>?_);refine kNw giG W7 rfl _ _ rfl W6.heap.size rfl RA k rc w.heap.size ((rs.take k).map (Value.int .i64)) rfl Kf (by rw[List.map_take];exact(fB.o.take k).below gD.o) (kN3 _) Kg Kb Kb ?_;intro A8 c8 W8 hown dM hat;have fK:=hd hown;have jq:=dM.size;have oC:=hd (o9.o.trans (dM.mono Kb));have cQ:=hd (gD.o.trans (dM.mono gD.o.size));have bh:=hd (show jR W8 w.heap.size o from(dM.block _ cT.o.lt).trans cT.o);have fH:=hd (gA.o.keep dM);clear hown dM hat aa;have aa:=hd (And.intro fH.o bh.o);refine kNj ?_;refine hK _ _ (fun _=>aa.o) ?_;clear hK K;refine Kq 9 2 (fun K hK=>?_);rw[if_pos Ka];go_simp;refine hK _ _ (fun _=>aa.o) ?_;clear hK K;refine Kq 10 1 (fun K hK=>?_);rw[if_pos Ka];go_simp;refine hK _ _ (fun _=>aa.o) ?_;clear hK K;refine Kq 11 0 (fun K hK=>?_);rw[if_pos Ka];refine zY zCa fH.o _ _ rfl rfl 1 _ [.slice A8 k c8] rfl rfl rfl rfl (zHt rfl) Kn ?_;intro W9 hv ho;have i5:=hd (show jT 59 W9 b #[.int .i64 lab,.slice A8 k c8,.slice KA ks.length kc]from hv);have ej:=hd ho;have iW:=ho.size;have qH:=hd (show jR W9 w.heap.size o from(ho.block _ bh.o.lt Kb).trans bh.o);have fI:=hd (kN4 fK.o ho (fun e=>by have:=(fK.o.lt _ e).1;omega));clear hv ho;refine hK _ _ (fun h=>absurd h Kd) (zAl Ka ?_);clear hK K aa;have gY:F b:=aF.o b bW.o.hF;have T9:Tch F w W9:=(Tch.of_below (F:=F) cQ.o).trans (Tch.of_off ej.o (F:=F) gY) (fun q _ h=>h);have l6:=hd T9;have bN:=hd (rD.o.trans (T9.below rD.o.size (fun q _ h=>(HF.o q h).1)));have mV:=hd ((HO.o.later bN.o).hasq au.o);clear T9;go_upto_region 24 with(first
  |((with_reducible refine zC (ty:=27) (x:=.tmp 160) ?_);refine zE qH.o (j:=1) (v:=.slice o.Q o.lq o.cq) _ rfl rfl rfl rfl Tryz.underlying27 rfl ?_)
  |(at_builtin;refine kNs giG W9 rfl (.const (.slice none 0 0)) (.tmp 161) rfl W9.heap.size rfl o.Q o.lq o.cq W9.heap.size (a.q.map (Value.int .i64)) rfl (by have:=mV.o.len;simp;omega) (kQy mV.o.il) (kN3 _) (by have:=aQ.o;unfold maxLen;omega) (by have:=aQ.o;omega) Km ?_;intro yH c10 js hown fL hat;have bO:=hd hown;have fM:=hd fL;clear hown fL hat)
  |fail)
 rw[aQ.o];obtain⟨rH,rI,eA,gF,ni,bl⟩:=zC9 bO.o;injection eA with nY _ nZ;subst nY nZ;rw[aQ.o]at gF;have bP:(a.q.map (Value.int .i64))[lu]? =some (.int .i64 (i:Int)):=by rw[fF.o,List.map_append,List.getElem?_append_right (by simp[fG.o]),List.length_map,fG.o,Nat.sub_self];rfl
 obtain⟨g3,rfl,oa,od,bH,gz⟩:=bl lu _ bP;have cB:=bO.o;rw[aQ.o]at cB;obtain⟨bI,cA⟩:=cB.stored lu (.int .i64 ((i:Int)+1));obtain⟨oD,gG⟩:∃W,js.setCell ⟨g3,lu,none⟩ (.int .i64 ((i:Int)+1))=W:=⟨_,rfl⟩;rw[gG]at bI cA;have oF:=hd gG;have og:(i:Int)<=500000:=by have h1:=HI.o;have h2:=HS.o;omega
 have cR:=hd (fM.o.grown cA fM.o.size (fun j hj=>by injection hj with hj;omega));have dH:(a.q.map (Value.int .i64)).set lu (.int .i64 ((i:Int)+1))=(u++[((i+1:Nat):Int)]).map (Value.int .i64):=by rw[fF.o,List.map_append,List.set_append_right _ _ (by simp[fG.o]),List.length_map,fG.o,Nat.sub_self,List.map_append];rfl
 rw[dH]at bI;have mX:zKt oD (some ⟨g3,0,none⟩) (lu+1) c10 (u++[((i+1:Nat):Int)]):=⟨by simp[fG.o],by omega,gF,kOo bI,fun j hj=>by
  rw[List.length_append,List.length_singleton]at hj;by_cases h:j<u.length
  ·have h9:=dS.o j Kf;rw[kOp h]at h9⊢;exact h9
  ·obtain rfl:j=u.length:=Kb;rw[kPf];omega⟩
 have om:=hd mX;clear mX dH bI cA cB bP bl gG;go_upto_region 25 with fail
 rw[oF.o];clear bH gz;have hlt:∀q,F q->q<w.heap.size:=fun q h=>(HF.o q h).2.1;have hbW:=hlt b gY;have fN:∀q,q<W6.heap.size->q≠b->W9.heap[q]? =W6.heap[q]? :=fun q h1 h2=>by rw[ej.o.block q Kb h2,oC.o.block q h1]
 have e1:(rs.take k).length=k:=by rw[List.length_take];omega
 have i7:GhO W6 b lab rs ks (.slice RA rs.length rc) (.slice KA ks.length kc) us Fs Fm:=bW.o.frame fun q hq=>cY.o.block q (hlt q (aF.o q hq));have G1:=i7.rerune (rs':=rs.take k) (fun q h=>Nat.lt_of_lt_of_le (hlt q (aF.o q h)) cY.o.size) i5.o (by rw[e1];exact fI.o) fN;have G2:=dw.o W9 _ _ G1 (fun q h1 h2=>by rw[ej.o.block q (by have:=hlt q h1;omega) (fun e=>h2 (e▸bW.o.hF)),cQ.o.block q (hlt q h1)]) (fun q h1 h2 h3=>by
  rcases h1 with h1|h1
  ·exact h2 h1
  ·have:=hlt q h3;omega)
 have e2:(rs.drop k).length=rs.length-k:=List.length_drop;have GM:Gh W6 (.pointer (some ⟨bm,0,none⟩)) (.mk false [] (-2::rs.drop k) []) (fun q=>bm<=q/\q<W6.heap.size):=Gh.bare o7.o ⟨Nat.le_refl _,by omega⟩ (by rw[e2];exact cP.o) Kb (fun q h1 h2=>⟨by omega,h2⟩);have rJ:=GM.frame (w':=W9) fun q hq=>fN q hq.2 Kb;have vR:=cR.o.size;have hd2:∀q,((F q/\¬Fm q)∨(Fm q∨(W6.heap.size<=q/\q<W9.heap.size)))->q<oD.heap.size/\(q<w.heap.size∨W6.heap.size<=q):=fun q h=>by
  rcases h with h|h|h
  ·have:=hlt q h.1;omega
  ·have:=hlt q (aF.o q h);omega
  ·omega
 have mf:=hd hd2;have ud:=hd (fun q(h:bm<=q/\q<W6.heap.size)=>(show q<oD.heap.size/\(w.heap.size<=q/\q<W6.heap.size) by omega));have HG2:=hd (G2.later (fun q h=>by
  rcases h with h|h|h
  ·have:=hlt q h.1;omega
  ·have:=hlt q (aF.o q h);omega
  ·omega) cR.o)
 have vS:=hd (rJ.later (fun q h=>by omega) cR.o);obtain⟨kk,hkk⟩:∃kk,x.ks[i]? =some kk:=⟨_,List.getElem?_eq_getElem HI.o⟩;have hx2:=(zZj (h:=.mk false [] (lab::rs.take k) ks) (t:=zeroT) vQ.o hkk).1;rw[<-fF.o]at hx2;have nj:=hd hx2;have hkl:(setK x i (.mk false [] (lab::rs.take k) ks)).ks.length=x.ks.length:=by rw[zM5 HI.o,List.length_set]
 have bL:=hd (show i+1<=(setK x i (.mk false [] (lab::rs.take k) ks)).ks.length by rw[hkl];exact HI.o);have rK:=hd (show(setK x i (.mk false [] (lab::rs.take k) ks)).ks.length<=500000 by rw[hkl];exact HS.o);clear G1 G2 GM rJ i7 fN hd2 hx2 hkk hkl;go_wp2_with(first
  |(go_at_call 65;refine Calls.mono (kP3 HG2.o (fun q h=>(mf.o q h).1) vS.o (fun q h=>⟨(ud.o q h).1,fun e=>by have h1:=(mf.o q e).2;have h2:=(ud.o q h).2;omega⟩) om.o nj.o bL.o rK.o) ?_;rintro e w9 ⟨F9,rfl,h1,h2,h3⟩;have vT:=hd h1;have iX:=hd h2;have fO:=hd h3;clear h1 h2 h3)
  |fail)
 go_end0
 refine⟨F9,rfl,vT.o,fun q h=>?_,(l6.o.trans (Tch.of_below (F:=F) (cR.o)) fun q _ h=>h).trans fO.o fun q hq h=>?_⟩
 ·rcases iX.o q h with h|h|h
  ·rcases h with h|h|h
   ·exact .inl h.1
   ·exact .inl (aF.o q h)
   ·have:=fO.o.size;exact .inr Kb
  ·have:=fO.o.size;exact .inr Kb
  ·exact .inr Kb
 ·rcases h with h|h|h
  ·exact h.1
  ·exact aF.o q h
  ·omega
theorem kRs {P:Prop}(h:P:=by
 first|have k1:(o.k==1)=true:=by simp[hk]|have k1:(o.k==1)=false:=by simp[hk]
 first|have k2:(o.k==2)=true:=by simp[hk]|have k2:(o.k==2)=false:=by simp[hk]
 first|have k3:(o.k==3)=true:=by simp[hk]|have k3:(o.k==3)=false:=by simp[hk]
 first|have k4:(o.k==4)=true:=by simp[hk]|have k4:(o.k==4)=false:=by simp[hk]
 first|have k5:(o.k==5)=true:=by simp[hk]|have k5:(o.k==5)=false:=by simp[hk]
 first|have k7:(o.k==7)=true:=by simp[hk]|have k7:(o.k==7)=false:=by simp[hk]
 first|have k8:(o.k==8)=true:=by simp[hk]|have k8:(o.k==8)=false:=by simp[hk]
 have hlq:o.lq=u.length+1:=by have:=ho.hlq;rw[bn]at this;simp at this;omega
 have br:=ta.hq;have iu:u.length+1<=60:=by rw[bn]at br;simpa using br
 have hin:=ho.hiq;rw[bn]at hin;obtain⟨lu,fg⟩:∃l,u.length=l:=⟨_,rfl⟩;rw[fg]at hlq iu;obtain⟨pu,Fm,hpt,dY,hsub,bA⟩:=Gh.sub a.q hG hx;obtain⟨b,lab',rs',ks',RA,rc,KA,kc,us,Fs,rfl,e0,hO⟩:=dY.opened;simp only[NT.mk.injEq,List.cons.injEq,true_and]at e0;obtain⟨⟨rfl,rfl⟩,rfl⟩:=e0;obtain⟨RA',rc',eR,hrc,vE,_⟩:=zC9 hO.hr;injection eR with lU _ lV;subst lU lV;obtain⟨KA',kc',eK,hkc,oz,_⟩:=zC9 hO.hk;injection eK with lZ _ ma;subst lZ ma;have aA:∀W:World,(Instr.slice 57 (.slice KA ks.length kc) none (some (.int .i64 o.z)) none).run Tryz.prog W=.ok (.slice KA k kc) W:=by rw[hz];exact kPd KA ks.length kc k Kb
 obtain⟨D,hD,ax⟩:=kP1 KA ks.length kc k Kb hkc;have az:∀W:World,(Instr.slice 57 (.slice KA ks.length kc) (some (.int .i64 o.z)) none none).run Tryz.prog W=.ok (.slice D (ks.length-k) (kc-k)) W:=by rw[hz];exact ax
 have rC:((ks.length:Int)==0)=false:=by rw[beq_eq_false_iff_ne];omega
 have hzb:0<=o.z/\o.z<=500000:=Kb;have gu:b<w.heap.size:=hO.hb.lt;have hg0:=hG;have rp:=hd hzb;have qG:=hd hle;have vO:=hd rC;have ip:=hd aA;have dR:=hd az;have HD:=hd hD;have bW:=hd hO;have dw:=hd bA;have aF:=hd hsub;have di:=hd hpt;have fB:=hd (kRq hO);have vP:=hd (kSk hO);have vQ:=hd qF;have fF:=hd bn;have HI:=hd hi;have HS:=hd hs;have dS:=hd hin;have aQ:=hd hlq;have fG:=hd fg;have BU:=hd hx;have rD:=hd hw;obtain⟨W1,hW1⟩:∃W,w.alloc (.cells o.row 35)=W:=⟨_,rfl⟩;have hv:jR W1 w.heap.size o:=hW1▸jR.new w o;have aw:Below w.heap.size w W1:=hW1▸Kl.alloc Km _;have fC:=hw.size;have HV:=hd hv;have HB:=hd (hw.trans (aw.mono fC));have HF:=hd (fun q(h:F q)=>(⟨(hF q h).1,(hF q h).2,Nat.lt_of_lt_of_le (hF q h).2 aw.size⟩:w0.heap.size<=q/\q<w.heap.size/\q<W1.heap.size));have di:=hd (show kPl W1 _ a.q _ from kN8 _ di.o aw);have iq:=hd (show jT 59 W1 b #[.int .i64 lab,.slice RA rs.length rc,.slice KA ks.length kc]from(aw.block b gu).trans bW.o.hb);have jk:=hd aw;have HT:=hd (Tch.of_below (F:=F) aw);have HO:=hd ho;have au:=hd ta;have HW:=hd hW1;have hs1:W1.heap.size=w.heap.size+1:=by rw[<-hW1];simp
 clear hk ax hO bA hsub hpt dY hx hD aA az hz hzb qF bn hi hs hin hlq fg hle rC hg0 br hG hF ho hw ta hv aw hW1;go_enter Tryz.func24,Tryz.ntmps24
 go_upto_region 1 with fail
 rw[HW.o];clear HW;go_upto_region 18 with(first
  |((with_reducible refine zC (ty:=3) (x:=.tmp 17) ?_);refine zE HV.o (j:=0) (v:=.int .i64 o.k) _ rfl rfl rfl rfl Tryz.underlying3 rfl ?_)
  |((with_reducible refine zC (ty:=27) (x:=.tmp 87) ?_);refine zE HV.o (j:=1) (v:=.slice o.Q o.lq o.cq) _ rfl rfl rfl rfl Tryz.underlying27 rfl ?_)
  |(go_at_call 27;refine Calls.mono (kN5 di.o ((HO.o.later HB.o).hasq au.o)) ?_;rintro e w1 ⟨rfl,hw1⟩;have hw1:=hw1.symm;subst hw1)
  |fail)
 obtain⟨W2,hW2⟩:∃W,W1.alloc (.cells #[.int .i64 (-2),.slice none 0 0,.slice none 0 0] 59)=W:=⟨_,rfl⟩;rw[hW2];obtain⟨bm,rE⟩:∃m,w.heap.size+1=m:=⟨_,rfl⟩;rw[rE];have hs2:W2.heap.size=bm+1:=by rw[<-hW2];simp;omega
 have rF:jT 59 W2 bm #[.int .i64 (-2),.slice none 0 0,.slice none 0 0]:=by rw[<-rE,<-hs1,<-hW2];exact jT.new W1 _ _
 have eD:Below W1.heap.size W1 W2:=hW2▸Kl.alloc Km _;have cX:=hd eD;have rG:=hd rF;have ah:=hd (show jR W2 w.heap.size o from(eD.block _ HV.o.lt).trans HV.o);have cu:=hd (iq.o.keep eD);have c1:=ah.o.cell 3 (.int .i64 o.z) rfl;have c2:=cu.o.cell 1 (.slice RA rs.length rc) rfl;have c3:=cu.o.cell 2 (.slice KA ks.length kc) rfl;have d1:=qG.o;have d2:=vO.o;clear hW2 rF eD;go_quiet(first
  |(fail)
  |fail)
 obtain⟨W3,hW3⟩:∃W,W2.drewN nq=W:=⟨_,rfl⟩;rw[hW3];have hs3:W3.heap.size=W2.heap.size:=by rw[<-hW3];rfl
 have ju:=hd (jk.o.trans ((cX.o.trans ((hW3▸zZ (Below.refl W2.heap.size W2) nq:Below W2.heap.size W2 W3).mono cX.o.size)).mono Kb));have gf:=hd (hW3▸(show jR (W2.drewN nq) w.heap.size o from ah.o):jR W3 w.heap.size o);have fD:=hd (hW3▸(show jT 59 (W2.drewN nq) b _ from cu.o):jT 59 W3 b #[.int .i64 lab,.slice RA rs.length rc,.slice KA ks.length kc]);have o5:=hd (hW3▸(show jT 59 (W2.drewN nq) bm _ from rG.o):jT 59 W3 bm #[.int .i64 (-2),.slice none 0 0,.slice none 0 0]);clear hW3 c1 c2 c3 d1 d2 ah cu rG;go_upto_region 21 with fail
 obtain⟨W4,cN⟩:∃W,W3.drew=W:=⟨_,rfl⟩;have hs4:W4.heap.size=W3.heap.size:=by rw[<-cN];rfl
 have gB:=hd (ju.o.trans (cN▸(Kl.drew.mono ju.o.size):Below w.heap.size W3 W4));have gy:=hd (cN▸(show jR W3.drew w.heap.size o from gf.o):jR W4 w.heap.size o);have dF:=hd (cN▸(show jT 59 W3.drew b _ from fD.o):jT 59 W4 b #[.int .i64 lab,.slice RA rs.length rc,.slice KA ks.length kc]);have jv:=hd (cN▸(show jT 59 W3.drew bm _ from o5.o):jT 59 W4 bm #[.int .i64 (-2),.slice none 0 0,.slice none 0 0]);refine jO (S:=fun W'=>(jT 59 W' b #[.int .i64 lab,.slice RA rs.length rc,.slice KA ks.length kc]/\jT 59 W' bm #[.int .i64 (-2),.slice none 0 0,.slice none 0 0])/\jR W' w.heap.size o) (z:=fun j=>j==15) Ka ?_;rw[cN];clear cN;have aa:=hd (And.intro (And.intro dF.o jv.o) gy.o);refine Kp 0 15 (.pointer (some ⟨bm,0,none⟩)) aa.o ?_;simp only[Act.put,List.getElem_toArray,List.getElem_cons_zero,List.setIfInBounds_toArray,List.set_cons_succ,List.set_cons_zero];refine Kp 1 14 (.pointer (some ⟨bm,0,none⟩)) aa.o ?_;refine kNj ?_;refine Kp 2 13 (.pointer (some ⟨bm,0,none⟩)) aa.o ?_;refine kNj ?_;refine Kp 3 12 (.pointer (some ⟨bm,2,none⟩)) aa.o ?_;refine kNj ?_;refine Ko 4 11 (.slice none 0 0) (fun W9 ag=>?_) aa.o ?_
 ·exact kV (j:=2) ag.1.2 _ rfl rfl rfl Tryz.underlying57 rfl
 refine kNj ?_;refine Kp 5 10 (.pointer (some ⟨b,0,none⟩)) aa.o ?_;refine kNj ?_;refine Kp 6 9 (.pointer (some ⟨b,0,none⟩)) aa.o ?_;refine kNj ?_;refine Kp 7 8 (.pointer (some ⟨b,2,none⟩)) aa.o ?_;refine kNj ?_;refine Ko 8 7 (.slice KA ks.length kc) (fun W9 ag=>?_) aa.o ?_
 ·exact kV (j:=2) ag.1.1 _ rfl rfl rfl Tryz.underlying57 rfl
 refine kNj ?_;refine Kp 9 6 (.pointer (some ⟨w.heap.size,3,none⟩)) aa.o ?_;refine kNj ?_;refine Ko 10 5 (.int .i64 o.z) (fun W9 ag=>?_) aa.o ?_
 ·exact kV (j:=3) ag.2.toR _ rfl rfl rfl Tryz.underlying3 rfl
 refine kNj ?_;refine Ko 11 4 (.slice D (ks.length-k) (kc-k)) (fun W9 ag=>?_) aa.o ?_
 ·have az:=dR.o;go_simp
 refine kNj ?_;refine Kq 12 3 (fun K hK=>?_);refine kNw gpG W4 rfl _ _ rfl W4.heap.size rfl D (ks.length-k) (kc-k) w.heap.size (us.drop k) rfl (by rw[List.length_drop,bW.o.hl,Nat.mul_one]) ((HD.o _ _ _ vP.o bW.o.hl).below gB.o) (fun u hu=>kPe bW.o u (List.mem_of_mem_drop hu)) Kg Kb Km ?_;intro A5 c5 W5 hown bz hat;have bM:=hd hown;have hs5:=bz.size;have o6:=hd (gB.o.trans (bz.mono gB.o.size));have dG:=hd (show jR W5 w.heap.size o from(bz.block _ gy.o.lt).trans gy.o);have cO:=hd (dF.o.keep bz);have jw:=hd (jv.o.keep bz);clear hown bz hat aa;have aa:=hd (And.intro (And.intro cO.o jw.o) dG.o);refine kNj ?_;refine hK _ _ (fun _=>aa.o) ?_;clear hK K;refine Kq 13 2 (fun K hK=>?_);rw[if_pos Ka];go_simp;refine hK _ _ (fun _=>aa.o) ?_;clear hK K;refine Kq 14 1 (fun K hK=>?_);rw[if_pos Ka];go_simp;refine hK _ _ (fun _=>aa.o) ?_;clear hK K;refine Kq 15 0 (fun K hK=>?_);rw[if_pos Ka];refine zY kPn jw.o _ _ rfl rfl 2 _ [.slice A5 (ks.length-k) c5] rfl rfl rfl rfl (zHt rfl) Kn ?_;intro W6 hv ho;have o7:=hd (show jT 59 W6 bm #[.int .i64 (-2),.slice none 0 0,.slice A5 (ks.length-k) c5]from hv);have ln:=ho.size;have o8:b≠bm:=Kb;have cv:=hd (show jR W6 w.heap.size o from(ho.block _ dG.o.lt Kb).trans dG.o);have iy:=hd (cO.o.off ho o8);have cY:=hd (zN o6.o ho Kb);have cP:=hd (kN4 bM.o ho (fun e=>by have:=(bM.o.lt _ e).1;omega));clear hv ho;refine hK _ _ (fun h=>absurd h Kd) (zAl Ka ?_);clear hK K aa;go_upto_region 22 with fail
 obtain⟨W7,fJ⟩:∃W,W6.drew=W:=⟨_,rfl⟩;have iz:W7.heap.size=W6.heap.size:=by rw[<-fJ];rfl
 have gD:=hd (cY.o.trans (fJ▸(Kl.drew.mono cY.o.size):Below w.heap.size W6 W7));have o9:=hd (fJ▸Kl.drew:Below W6.heap.size W6 W7);have cT:=hd (fJ▸(show jR W6.drew w.heap.size o from cv.o):jR W7 w.heap.size o);have gA:=hd (fJ▸(show jT 59 W6.drew b _ from iy.o):jT 59 W7 b #[.int .i64 lab,.slice RA rs.length rc,.slice KA ks.length kc]);refine jO (S:=fun W'=>jT 59 W' b #[.int .i64 lab,.slice RA rs.length rc,.slice KA ks.length kc]/\jR W' w.heap.size o) (z:=fun j=>j==11) Ka ?_;rw[fJ];clear fJ;have aa:=hd (And.intro gA.o cT.o);refine Kp 0 11 (.pointer (some ⟨b,0,none⟩)) aa.o ?_;simp only[Act.put,List.getElem_toArray,List.getElem_cons_zero,List.setIfInBounds_toArray,List.set_cons_succ,List.set_cons_zero];refine Kp 1 10 (.pointer (some ⟨b,0,none⟩)) aa.o ?_;refine kNj ?_;refine Kp 2 9 (.pointer (some ⟨b,0,none⟩)) aa.o ?_;refine kNj ?_;refine Kp 3 8 (.pointer (some ⟨b,2,none⟩)) aa.o ?_;refine kNj ?_;refine Ko 4 7 (.slice KA ks.length kc) (fun W9 ag=>?_) aa.o ?_
 ·exact kV (j:=2) ag.1 _ rfl rfl rfl Tryz.underlying57 rfl
 refine kNj ?_;refine Kp 5 6 (.pointer (some ⟨w.heap.size,3,none⟩)) aa.o ?_;refine kNj ?_;refine Ko 6 5 (.int .i64 o.z) (fun W9 ag=>?_) aa.o ?_
 ·exact kV (j:=3) ag.2.toR _ rfl rfl rfl Tryz.underlying3 rfl
 refine kNj ?_;refine Ko 7 4 (.slice KA k kc) (fun W9 ag=>?_) aa.o ?_
 ·have aA:=ip.o;go_simp
 refine kNj ?_;refine Kq 8 3 (fun K hK=>?_);refine kNw gpG W7 rfl _ _ rfl W6.heap.size rfl KA k kc w.heap.size (us.take k) rfl (by rw[List.length_take,bW.o.hl,Nat.mul_one];omega) ((vP.o.take k).below gD.o) (fun u hu=>kPe bW.o u (List.mem_of_mem_take hu)) Kg Kb Kb ?_;intro A8 c8 W8 hown dM hat;have fK:=hd hown;have jq:=dM.size;have oC:=hd (o9.o.trans (dM.mono Kb));have cQ:=hd (gD.o.trans (dM.mono gD.o.size));have bh:=hd (show jR W8 w.heap.size o from(dM.block _ cT.o.lt).trans cT.o);have fH:=hd (gA.o.keep dM);clear hown dM hat aa;have aa:=hd (And.intro fH.o bh.o);refine kNj ?_;refine hK _ _ (fun _=>aa.o) ?_;clear hK K;refine Kq 9 2 (fun K hK=>?_);rw[if_pos Ka];go_simp;refine hK _ _ (fun _=>aa.o) ?_;clear hK K;refine Kq 10 1 (fun K hK=>?_);rw[if_pos Ka];go_simp;refine hK _ _ (fun _=>aa.o) ?_;clear hK K;refine Kq 11 0 (fun K hK=>?_);rw[if_pos Ka];refine zY kPn fH.o _ _ rfl rfl 2 _ [.slice A8 k c8] rfl rfl rfl rfl (zHt rfl) Kn ?_;intro W9 hv ho;have i5:=hd (show jT 59 W9 b #[.int .i64 lab,.slice RA rs.length rc,.slice A8 k c8]from hv);have ej:=hd ho;have iW:=ho.size;have qH:=hd (show jR W9 w.heap.size o from(ho.block _ bh.o.lt Kb).trans bh.o);have fI:=hd (kN4 fK.o ho (fun e=>by have:=(fK.o.lt _ e).1;omega));clear hv ho;refine hK _ _ (fun h=>absurd h Kd) (zAl Ka ?_);clear hK K aa;have gY:F b:=aF.o b bW.o.hF;have T9:Tch F w W9:=(Tch.of_below (F:=F) cQ.o).trans (Tch.of_off ej.o (F:=F) gY) (fun q _ h=>h);have l6:=hd T9;have bN:=hd (rD.o.trans (T9.below rD.o.size (fun q _ h=>(HF.o q h).1)));have mV:=hd ((HO.o.later bN.o).hasq au.o);clear T9;go_upto_region 24 with(first
  |((with_reducible refine zC (ty:=27) (x:=.tmp 160) ?_);refine zE qH.o (j:=1) (v:=.slice o.Q o.lq o.cq) _ rfl rfl rfl rfl Tryz.underlying27 rfl ?_)
  |(at_builtin;refine kNs giG W9 rfl (.const (.slice none 0 0)) (.tmp 161) rfl W9.heap.size rfl o.Q o.lq o.cq W9.heap.size (a.q.map (Value.int .i64)) rfl (by have:=mV.o.len;simp;omega) (kQy mV.o.il) (kN3 _) (by have:=aQ.o;unfold maxLen;omega) (by have:=aQ.o;omega) Km ?_;intro yH c10 js hown fL hat;have bO:=hd hown;have fM:=hd fL;clear hown fL hat)
  |fail)
 rw[aQ.o];obtain⟨rH,rI,eA,gF,ni,bl⟩:=zC9 bO.o;injection eA with nY _ nZ;subst nY nZ;rw[aQ.o]at gF;have bP:(a.q.map (Value.int .i64))[lu]? =some (.int .i64 (i:Int)):=by rw[fF.o,List.map_append,List.getElem?_append_right (by simp[fG.o]),List.length_map,fG.o,Nat.sub_self];rfl
 obtain⟨g3,rfl,oa,od,bH,gz⟩:=bl lu _ bP;have cB:=bO.o;rw[aQ.o]at cB;obtain⟨bI,cA⟩:=cB.stored lu (.int .i64 ((i:Int)+1));obtain⟨oD,gG⟩:∃W,js.setCell ⟨g3,lu,none⟩ (.int .i64 ((i:Int)+1))=W:=⟨_,rfl⟩;rw[gG]at bI cA;have oF:=hd gG;have og:(i:Int)<=500000:=by have h1:=HI.o;have h2:=HS.o;omega
 have cR:=hd (fM.o.grown cA fM.o.size (fun j hj=>by injection hj with hj;omega));have dH:(a.q.map (Value.int .i64)).set lu (.int .i64 ((i:Int)+1))=(u++[((i+1:Nat):Int)]).map (Value.int .i64):=by rw[fF.o,List.map_append,List.set_append_right _ _ (by simp[fG.o]),List.length_map,fG.o,Nat.sub_self,List.map_append];rfl
 rw[dH]at bI;have mX:zKt oD (some ⟨g3,0,none⟩) (lu+1) c10 (u++[((i+1:Nat):Int)]):=⟨by simp[fG.o],by omega,gF,kOo bI,fun j hj=>by
  rw[List.length_append,List.length_singleton]at hj;by_cases h:j<u.length
  ·have h9:=dS.o j Kf;rw[kOp h]at h9⊢;exact h9
  ·obtain rfl:j=u.length:=Kb;rw[kPf];omega⟩
 have om:=hd mX;clear mX dH bI cA cB bP bl gG;go_upto_region 25 with fail
 rw[oF.o];clear bH gz;have hlt:∀q,F q->q<w.heap.size:=fun q h=>(HF.o q h).2.1;have hbW:=hlt b gY;have fN:∀q,q<W6.heap.size->q≠b->W9.heap[q]? =W6.heap[q]? :=fun q h1 h2=>by rw[ej.o.block q Kb h2,oC.o.block q h1]
 have e1:(ks.take k).length=k:=by rw[List.length_take];omega
 have i7:GhO W6 b lab rs ks (.slice RA rs.length rc) (.slice KA ks.length kc) us Fs Fm:=bW.o.frame fun q hq=>cY.o.block q (hlt q (aF.o q hq));have G1:=i7.headk (k:=k) (fun q h=>Nat.lt_of_lt_of_le (hlt q (aF.o q h)) cY.o.size) i5.o (by rw[e1];exact fI.o) fN;have G2:=dw.o W9 _ _ G1 (fun q h1 h2=>by rw[ej.o.block q (by have:=hlt q h1;omega) (fun e=>h2 (e▸bW.o.hF)),cQ.o.block q (hlt q h1)]) (fun q h1 h2 h3=>by
  rcases h1 with h1|h1
  ·exact h2 h1.1
  ·have:=hlt q h3;omega)
 have e2:(ks.drop k).length=ks.length-k:=List.length_drop;have GM:=i7.tailk (k:=k) (bm:=bm) (fun q h=>by have:=hlt q (aF.o q h);omega) o7.o (by rw[e2];exact cP.o) Kb;have rJ:=GM.frame (w':=W9) fun q hq=>by
  rcases hq with⟨j,hj,hq⟩|hq
  ·exact fN q (Nat.lt_of_lt_of_le (hlt q (aF.o q (i7.sub j q hq).1)) cY.o.size) (i7.sub j q hq).2.1
  ·exact fN q hq.2 Kb
 have vR:=cR.o.size;have hd2:∀q,((F q/\¬Fm q)∨((Fm q/\∀j,k<=j->¬Fs j q)∨(W6.heap.size<=q/\q<W9.heap.size)))->q<oD.heap.size/\((q<w.heap.size/\∀j,k<=j->¬Fs j q)∨W6.heap.size<=q):=fun q h=>by
  rcases h with h|h|h
  ·have:=hlt q h.1;exact⟨by omega,.inl ⟨this,fun j _ e=>h.2 (i7.sub j q e).1⟩⟩
  ·have:=hlt q (aF.o q h.1);exact⟨by omega,.inl ⟨this,h.2⟩⟩
  ·exact⟨by omega,.inr h.1⟩
 have oG:∀q,((∃j,k<=j/\Fs j q)∨(bm<=q/\q<W6.heap.size))->q<W9.heap.size/\((q<w.heap.size/\∃j,k<=j/\Fs j q)∨(w.heap.size<=q/\q<W6.heap.size)):=fun q h=>by
  rcases h with⟨j,hj,h⟩|h
  ·have:=hlt q (aF.o q (i7.sub j q h).1);exact⟨by omega,.inl ⟨this,j,hj,h⟩⟩
  ·exact⟨by omega,.inr Kb⟩
 have mf:=hd hd2;have ud:=hd oG;have HG2:=hd (G2.later (fun q h=>by
  rcases h with h|h|h
  ·have:=hlt q h.1;omega
  ·have:=hlt q (aF.o q h.1);omega
  ·omega) cR.o)
 have vS:=hd (rJ.later (fun q h=>(oG q h).1) cR.o);have jn:=hd (fun q(h1:(F q/\¬Fm q)∨((Fm q/\∀j,k<=j->¬Fs j q)∨(W6.heap.size<=q/\q<W9.heap.size)))(h2:(∃j,k<=j/\Fs j q)∨(bm<=q/\q<W6.heap.size))=>(show False from by
  rcases(hd2 q h1).2 with e1|e1
  ·rcases(oG q h2).2 with⟨_,j,e2,e3⟩|e2
   ·exact e1.2 j e2 e3
   ·have:=e1.1;omega
  ·rcases(oG q h2).2 with e2|e2
   ·have:=e2.1;have:=cY.o.size;omega
   ·omega))
 obtain⟨kk,hkk⟩:∃kk,x.ks[i]? =some kk:=⟨_,List.getElem?_eq_getElem HI.o⟩;have hx2:=(zZj (h:=.mk false [] (lab::rs) (ks.take k)) (t:=zeroT) vQ.o hkk).1;rw[<-fF.o]at hx2;have nj:=hd hx2;have hkl:(setK x i (.mk false [] (lab::rs) (ks.take k))).ks.length=x.ks.length:=by rw[zM5 HI.o,List.length_set]
 have bL:=hd (show i+1<=(setK x i (.mk false [] (lab::rs) (ks.take k))).ks.length by rw[hkl];exact HI.o);have rK:=hd (show(setK x i (.mk false [] (lab::rs) (ks.take k))).ks.length<=500000 by rw[hkl];exact HS.o);clear G1 G2 GM rJ i7 fN hd2 oG hx2 hkk hkl;go_wp2_with(first
  |(go_at_call 65;refine Calls.mono (kP3 HG2.o (fun q h=>(mf.o q h).1) vS.o (fun q h=>⟨by have:=(ud.o q h).1;omega,fun e=>jn.o q e h⟩) om.o nj.o bL.o rK.o) ?_;rintro e w9 ⟨F9,rfl,h1,h2,h3⟩;have vT:=hd h1;have iX:=hd h2;have fO:=hd h3;clear h1 h2 h3)
  |fail)
 go_end0
 refine⟨F9,rfl,vT.o,fun q h=>?_,(l6.o.trans (Tch.of_below (F:=F) (cR.o)) fun q _ h=>h).trans fO.o fun q hq h=>?_⟩
 ·rcases iX.o q h with h|h|h
  ·rcases h with h|h|h
   ·exact .inl h.1
   ·exact .inl (aF.o q h.1)
   ·have:=fO.o.size;exact .inr Kb
  ·rcases h with⟨j,_,h⟩|h
   ·exact .inl (aF.o q (bW.o.sub j q h).1)
   ·have:=fO.o.size;exact .inr Kb
  ·exact .inr Kb
 ·rcases h with h|h|h
  ·exact h.1
  ·exact aF.o q h.1
  ·omega):P:=h
theorem kS7 {o:OC}{lab:Int}{ks:List NT}(hG:Gh w v g F)(hF:∀q,F q->w0.heap.size<=q/\q<w.heap.size)(ho:OkA w0 o a)(hw:Below w0.heap.size w0 w)(ta:zAf a)(hk:o.k=4)(bn:a.q=u++[(i:Int)])(qF:kB g u=some x)(hi:i<x.ks.length)(hs:x.ks.length<=500000)(hx:kB g a.q=some (.mk false [] (lab::rs) ks))(hz:o.z=(k:Int))(l7:rs.length<k)(hkr:k<=ks.length)(hrl:ks.length<=500000):Calls Tryz.prog 24 #[v,.agg o.row] w (kRn F v (putT (putT g a.q (.mk false [] (lab::rs) (ks.take k))) u (jS (setK x i (.mk false [] (lab::rs) (ks.take k))) (i+1) 0 [.mk false [] [-2] (ks.drop k)])) w):=by
 have hle:decide (o.z<=(rs.length:Int))=false:=by rw[hz];simp;omega
 exact kRs
theorem kS8 {o:OC}{lab:Int}{ks:List NT}(hG:Gh w v g F)(hF:∀q,F q->w0.heap.size<=q/\q<w.heap.size)(ho:OkA w0 o a)(hw:Below w0.heap.size w0 w)(ta:zAf a)(hk:o.k=4)(bn:a.q=u++[(i:Int)])(qF:kB g u=some x)(hi:i<x.ks.length)(hs:x.ks.length<=500000)(hx:kB g a.q=some (.mk false [] (lab::rs) ks))(hz:o.z=(k:Int))(l7:k<=rs.length)(hk1:1<=ks.length)(hkr:k<=ks.length)(hrl:ks.length<=500000):Calls Tryz.prog 24 #[v,.agg o.row] w (kRn F v (putT (putT g a.q (.mk false [] (lab::rs) (ks.take k))) u (jS (setK x i (.mk false [] (lab::rs) (ks.take k))) (i+1) 0 [.mk false [] [-2] (ks.drop k)])) w):=by
 have hle:decide (o.z<=(rs.length:Int))=true:=by rw[hz];simpa using l7
 exact kRs
