import Derived.Test.YtmglnjmnabjjgaaGreatJHForget
set_option maxRecDepth 100000
set_option maxHeartbeats 8000000
namespace Go.Proofs.YtmglnjmnabjjgaaGreat
open Go.RowKit
variable {w w0:World}{b k:Nat}{rs:List Int}{K v:Value}{us:List Value}{Fs:Nat->Nat->Prop}{F:Nat->Prop}
theorem kNk {P Q:Prop}(k:Q)(h:Q->P:=by
 intro kk;simp only[Act.put,List.getElem_toArray,List.getElem_cons_succ,List.getElem_cons_zero,List.setIfInBounds_toArray,List.set_cons_succ,List.set_cons_zero];exact kk):P:=h k
theorem kPw (A:Option Addr)(n c k:Nat)(hk:k<=c):∀W:World,(Instr.slice 27 (.slice A n c) none (some (.int .i64 (k:Int))) none).run Tryz.prog W=.ok (.slice A k c) W:=fun W=>by
 have he:Tryz.prog.elem 27=3:=Ka;have hs:∀W,(sizeOf 3).run Tryz.prog W=.ok 1 W:=fun _=>by kernel_rfl
 rw[run_slice_h W 27 A n c (by rw[he];exact Tryz.underlying27) .i64 _ Kb Kb,he,hs];have e:(A.map fun x=>x.add 0)=A:=by
  cases A
  ·rfl
  ·simp[Addr.add]
 simp[Result.andThen,sliced,e]
theorem kQj (A:Option Addr)(n c k:Nat)(hk:k<=n)(hc:n<=c):∃D:Option Addr,(∀(w:World)(B:Nat)(xs:List Value),VL w B A xs->xs.length=n->VL w B D (xs.drop k))/\
  (∀W:World,(Instr.slice 27 (.slice A n c) (some (.int .i64 (k:Int))) none none).run Tryz.prog W=.ok (.slice D (n-k) (c-k)) W):=by
 refine⟨if c=k then A else A.map (·.add (k*1)),fun w B xs h hx=>h.drop k c n hx.symm hc,fun W=>?_⟩;have he:Tryz.prog.elem 27=3:=Ka;have hs:∀W,(sizeOf 3).run Tryz.prog W=.ok 1 W:=fun _=>by kernel_rfl
 rw[run_slice_l W 27 A n c (by rw[he];exact Tryz.underlying27) .i64 _ Kb Kb,he,hs];simp[Result.andThen,sliced]
theorem kOg :∀(p:List Int){w w':World}{v u:Value},kQ1 w v p u->Below w.heap.size w w'->kQ1 w' v p u
 |[],_,_,_,_,h,_=>h
 |_i::r,_,_,_,_,⟨b,lab,R,g,nk,c,j,x,h1,h2,h3,h4,h5,h6,h7,h8⟩,hb=>⟨b,lab,R,g,nk,c,j,x,h1,h2.keep hb,h3,h4,h5,h6,(hb.cell (p:=⟨g,j,none⟩) (kQ h7)).trans h7,kOg r h8 hb⟩
theorem kVc (l:List Int)(j:Nat):(l++List.replicate (j+1) (-2)).map (Value.int .i64)=(l++List.replicate j (-2)).map (Value.int .i64)++[Value.int .i64 (-2)]:=by
 rw[List.replicate_succ',<-List.append_assoc,List.map_append];rfl
theorem kT3 {lab:Int}{ks:List NT}{A:Option Addr}{c:Nat}(h:GhO w b lab rs ks (.slice A rs.length c) K us Fs F):VL w w.heap.size A (rs.map (Value.int .i64)):=VP.vl (kW6 h.hr fun g hg=>(h.hr.lt g hg).2) (fun _ h=>h)
theorem GhO.rerune {w':World}{lab:Int}{rs':List Int}{ks:List NT}{R R':Value}(h:GhO w b lab rs ks R K us Fs F)(hF:∀q,F q->q<w.heap.size)(hv:jT 64 w' b #[.int .i64 lab,R',K])(hr:w'.ownsRow w.heap.size 3 1 R' rs'.length (rs'.map (Value.int .i64)))
  (keep:∀q,q<w.heap.size->q≠b->w'.heap[q]? =w.heap[q]?):Gh w' (.pointer (some ⟨b,0,none⟩)) (.mk false [] (lab::rs') ks) (fun q=>F q∨(w.heap.size<=q/\q<w'.heap.size)):=by
 have hbl:=h.hb.lt;have hn:=hr.lt;exact .mk _ b lab rs' ks R' K us Fs hv (.inl h.hF) (kNq hr fun _ _=>Nat.zero_le _) (kNl h.hk fun q hq=>keep q (h.hk.lt q hq).2 (h.fk q hq).2.1) h.hl (fun q hq=>⟨.inr (hn q hq),by have:=hn q hq;omega⟩)
  (fun q hq=>⟨.inl (h.fk q hq).1,(h.fk q hq).2.1,fun e=>by have:=hn q e;have:=hF q (h.fk q hq).1;omega⟩) (fun j m u e1 e2=>(h.kids j m u e1 e2).frame fun q hq=>keep q (hF q (h.sub j q hq).1) (h.sub j q hq).2.1)
  (fun j q hq=>⟨.inl (h.sub j q hq).1,(h.sub j q hq).2.1,fun e=>by have:=hn q e;have:=hF q (h.sub j q hq).1;omega,(h.sub j q hq).2.2.2⟩) h.dis
theorem kT4 {P:Prop}(h:P:=by
 rw[e1,<-List.map_append]at hown;rw[e1]at wM;have G1:=bV.o.rerune (fun q h=>(iE q (hsub q h)).2.1) wM (kN9 hown pP.o fun e=>by have:=(hown.lt _ e).1;omega) keep;have iF:F b:=hsub b bV.o.hF;have G2:=dt.o W6 _ _ G1 (fun q h1 h2=>keep q (iE q h1).2.1 fun e=>h2 (e▸bV.o.hF)) (fun q h1 h2 h3=>by
  rcases h1 with h1|h1
  ·exact h2 h1
  ·have:=(iE q h3).2.1;omega)
 refine⟨_,rfl,G2,fun q h=>?_,HT.o.trans ((Tch.of_below (F:=F) (show Below W1.heap.size W1 W4 from bf.o)).trans (Tch.trans (F:=fun q=>W1.heap.size<=q∨F q) ⟨cu.o.os,cu.o.tape,cu.o.output,hs5,fun q hq hn=>cu.o.block q hq fun e=>hn (.inl (fy.o.lt _ e.symm).1)⟩ (Tch.of_off pP.o (F:=F) iF) (fun q _ h=>.inr h)) (fun q hq h=>by rcases h with h|h;(omega);exact h)) fun q _ h=>h⟩;rcases h with h|h|h
 ·exact .inl h.1
 ·exact .inl (hsub q h)
 ·exact .inr h):P:=h
theorem kX4 {g:NT}{o:OC}{a:OpP}{lab:Int}{ks:List NT}(hG:Gh w v g F)(hF:∀q,F q->w0.heap.size<=q/\q<w.heap.size)(ho:OkA w0 o a)(hw:Below w0.heap.size w0 w)(ta:zAf a)(hk:o.k=7)(hx:kB g a.q=some (.mk false [] (lab::rs) ks))(hz:o.z=(k:Int))(hkr:k<=rs.length)(hrl:rs.length<=500000):Calls Tryz.prog 17 #[v,.agg o.row] w (kSo F v (putT g a.q (.mk false [] (lab::(rs.take k++List.replicate o.nx (-2)++rs.drop k)) ks)) w):=by
 first|have k1:(o.k==1)=true:=by simp[hk]|have k1:(o.k==1)=false:=by simp[hk]
 first|have k2:(o.k==2)=true:=by simp[hk]|have k2:(o.k==2)=false:=by simp[hk]
 first|have k3:(o.k==3)=true:=by simp[hk]|have k3:(o.k==3)=false:=by simp[hk]
 first|have k4:(o.k==4)=true:=by simp[hk]|have k4:(o.k==4)=false:=by simp[hk]
 first|have k5:(o.k==5)=true:=by simp[hk]|have k5:(o.k==5)=false:=by simp[hk]
 first|have k7:(o.k==7)=true:=by simp[hk]|have k7:(o.k==7)=false:=by simp[hk]
 first|have k8:(o.k==8)=true:=by simp[hk]|have k8:(o.k==8)=false:=by simp[hk]
 clear hk;obtain⟨pu,Fm,hpt,d9,hsub,bv⟩:=Gh.sub a.q hG hx;obtain⟨b,lab',rs',ks',RA,rc,KA,kc,us,Fs,rfl,e0,hO⟩:=d9.opened;simp only[NT.mk.injEq,List.cons.injEq,true_and]at e0;obtain⟨⟨rfl,rfl⟩,rfl⟩:=e0;obtain⟨RA',rc',eR,hrc,wN,_⟩:=zC9 hO.hr;injection eR with mU _ mV;subst mU mV;have aC:∀W:World,(Instr.slice 27 (.slice RA rs.length rc) none (some (.int .i64 o.z)) none).run Tryz.prog W=.ok (.slice RA k rc) W:=by rw[hz];exact kPw RA rs.length rc k Kb
 obtain⟨D,hD,ax⟩:=kQj RA rs.length rc k Kb hrc;have aA:∀W:World,(Instr.slice 27 (.slice RA rs.length rc) (some (.int .i64 o.z)) none none).run Tryz.prog W=.ok (.slice D (rs.length-k) (rc-k)) W:=by rw[hz];exact ax
 have hzb:0<=o.z/\o.z<=500000:=Kb;have gU:b<w.heap.size:=hO.hb.lt;have hnx:o.nx<=1000:=by have:=ta.hx;have:=ho.hnx;omega
 have sH:=hd hzb;have iQ:=hd aC;have dV:=hd aA;have HD:=hd hD;have bV:=hd hO;have dt:=hd bv;have aG:=hd hsub;have cZ:=hd hpt;have fF:=hd (kT3 hO);clear hO bv hsub hpt d9 hx hD aC aA ax hz hzb;obtain⟨W1,hW1⟩:∃W,w.alloc (.cells o.row 35)=W:=⟨_,rfl⟩;have hv:jR W1 w.heap.size o:=hW1▸jR.new w o;have aw:Below w.heap.size w W1:=hW1▸Kl.alloc Km _;have fG:=hw.size;have HV:=hd hv;have HB:=hd (hw.trans (aw.mono fG));clear hG;have HF:=hd (fun q(h:F q)=>(⟨(hF q h).1,(hF q h).2,Nat.lt_of_lt_of_le (hF q h).2 aw.size⟩:w0.heap.size<=q/\q<w.heap.size/\q<W1.heap.size));have cZ:=hd (show kQ1 W1 _ a.q _ from kOg _ cZ.o aw);have iR:=hd (show jT 64 W1 b #[.int .i64 lab,.slice RA rs.length rc,.slice KA ks.length kc]from(aw.block b gU).trans bV.o.hb);have kf:=hd aw;have HT:=hd (Tch.of_below (F:=F) aw);have HO:=hd ho;have az:=hd ta;have HW:=hd hW1;have hs1:W1.heap.size=w.heap.size+1:=by rw[<-hW1];simp
 clear hF ho hw ta hv aw hW1;go_enter Tryz.func17,Tryz.ntmps17
 go_upto_region 1 with fail
 rw[HW.o];clear HW;go_upto_region 32 with(first
  |((with_reducible refine zC (ty:=3) (x:=.tmp 17) ?_);refine zE HV.o (j:=0) (v:=.int .i64 o.k) _ rfl rfl rfl rfl Tryz.underlying3 rfl ?_)
  |((with_reducible refine zC (ty:=27) (x:=.tmp 189) ?_);refine zE HV.o (j:=1) (v:=.slice o.Q o.lq o.cq) _ rfl rfl rfl rfl Tryz.underlying27 rfl ?_)
  |(go_at_call 21;refine Calls.mono (kOx cZ.o ((HO.o.later HB.o).hasq az.o)) ?_;rintro e w1 ⟨rfl,hw1⟩;have hw1:=hw1.symm;subst hw1)
  |fail)
 obtain⟨W2,hW2⟩:∃W,W1.drew=W:=⟨_,rfl⟩;have ah:=hd (hW2▸(show jR W1.drew w.heap.size o from HV.o):jR W2 w.heap.size o);have bX:=hd (hW2▸(show jT 64 W1.drew b _ from iR.o):jT 64 W2 b #[.int .i64 lab,.slice RA rs.length rc,.slice KA ks.length kc]);have kg:=hd (hW2▸(Kl.drew):Below W1.heap.size W1 W2);have hs2:W2.heap.size=W1.heap.size:=by rw[<-hW2];rfl
 refine jO (S:=fun W'=>jT 64 W' b #[.int .i64 lab,.slice RA rs.length rc,.slice KA ks.length kc]/\jR W' w.heap.size o) (z:=fun _=>false) Ka ?_;rw[hW2];clear hW2;have aa:=hd (And.intro bX.o ah.o);refine Kp 0 9 (.slice none 0 0) aa.o ?_;simp only[Act.put,List.getElem_toArray,List.getElem_cons_zero,List.setIfInBounds_toArray,List.set_cons_succ,List.set_cons_zero];refine Kp 1 8 (.pointer (some ⟨b,0,none⟩)) aa.o ?_;refine kNk ?_;refine Kp 2 7 (.pointer (some ⟨b,0,none⟩)) aa.o ?_;refine kNk ?_;refine Kp 3 6 (.pointer (some ⟨b,1,none⟩)) aa.o ?_;refine kNk ?_;refine Ko 4 5 (.slice RA rs.length rc) (fun W9 ag=>?_) aa.o ?_
 ·exact kV (j:=1) ag.1 _ rfl rfl rfl Tryz.underlying27 rfl
 refine kNk ?_;refine Kp 5 4 (.pointer (some ⟨w.heap.size,3,none⟩)) aa.o ?_;refine kNk ?_;refine Ko 6 3 (.int .i64 o.z) (fun W9 ag=>?_) aa.o ?_
 ·exact kV (j:=3) ag.2.toR _ rfl rfl rfl Tryz.underlying3 rfl
 refine kNk ?_;refine Ko 7 2 (.slice RA k rc) (fun W9 ag=>?_) aa.o ?_
 ·have aC:=iQ.o;go_simp
 refine kNk ?_;refine Kq 8 1 (fun K hK=>?_);refine kNw giG W2 rfl _ _ rfl W1.heap.size rfl RA k rc w.heap.size ((rs.take k).map (Value.int .i64)) rfl Kf (by rw[List.map_take];exact(fF.o.take k).below ((kf.o.trans (kg.o.mono Kb)))) (kOa _) Kg Kb Kb ?_;intro A1 c1 W3 hown hb3 hat;have HOWN:=hd hown;have hs3:=hb3.size;have bT:=hd (kg.o.trans (hb3.mono Kb));have gL:=hd (show jR W3 w.heap.size o from(hb3.block _ ah.o.lt).trans ah.o);have fH:=hd (bX.o.keep hb3);clear hown hb3 hat aa;have aa:=hd (And.intro fH.o gL.o);refine kNk ?_;refine hK _ _ (fun _=>aa.o) ?_;clear hK K;refine Kq 9 0 (fun K hK=>?_);rw[if_pos Ka];go_simp;refine hK _ _ (fun _=>aa.o) (zAl Ka ?_);clear hK K aa;go_wp2_with(first
  |((with_reducible refine zC (ty:=23) (x:=.tmp 201) ?_);refine zE gL.o (j:=10) (v:=.slice o.S o.nx o.cx) _ rfl rfl rfl rfl Tryz.underlying23 rfl ?_)
  |fail)
 go_loopw [14,204] (fun l i wr=>∃(j:Nat)(A:Option Addr)(c:Nat),j<=o.nx/\l=.slice A (k+j) c/\i=.int .i64 j/\Kr (wr.ownsRow W1.heap.size 3 1 (.slice A (k+j) c) (k+j) ((rs.take k++List.replicate j (-2)).map (Value.int .i64)))/\Kr (Below W1.heap.size W1 wr)) (fun _ i _=>o.nx-(intOf i).toNat)
 case atStart=>exact⟨0,A1,c1,Nat.zero_le _,rfl,rfl,hd (by simpa using HOWN.o),bT⟩
 case round=>
  obtain⟨j,A,c,hj,rfl,rfl,HR,aK⟩:=hrel;clear HOWN bT gL fH;by_cases hlt:j<o.nx
  ·go_wp2_with(at_builtin;refine kOw giG wr rfl (.tmp 206) (.tmp 207) rfl W1.heap.size (.slice A (k+j) c) (k+j) ((rs.take k++List.replicate j (-2)).map (Value.int .i64)) [.int .i64 (-2)] rfl HR.o rfl rfl (by simp[Value.oneCell']) Kb Kd aK.o.size ?_;intro A2 c2 w2 hown hgr hat;have fI:=hd hown;have gV:=hd ((aK.o.alloc aK.o.size _).grown hgr (by have:=aK.o.size;simp;omega) (fun j hj=>(HR.o.lt _ hj).1));clear hown hgr hat)
   go_roundw
   case rel=>exact⟨j+1,A2,c2,by omega,rfl,by go_num,hd (by have h:=fI.o;rw[<-kVc]at h;exact h),gV⟩
   case measure=>simp[intOf];omega
  ·obtain rfl:j=o.nx:=Kb;go_upto_region 37 with fail
   obtain⟨W4,bh⟩:∃W,wr.drew=W:=⟨_,rfl⟩;have bf:=hd (bh▸zZ aK.o 1:Below W1.heap.size W1 W4);have gW:=hd (show jR W4 w.heap.size o from(bf.o.block _ HV.o.lt).trans HV.o);have dG:=hd (show jT 64 W4 b #[.int .i64 lab,.slice RA rs.length rc,.slice KA ks.length kc]from(bf.o.block _ iR.o.lt).trans iR.o);have fy:=hd (bh▸HR.o:W4.ownsRow W1.heap.size 3 1 (.slice A (k+o.nx) c) (k+o.nx) ((rs.take k++List.replicate o.nx (-2)).map (Value.int .i64)));refine jO (S:=fun W'=>jT 64 W' b #[.int .i64 lab,.slice RA rs.length rc,.slice KA ks.length kc]/\jR W' w.heap.size o) (z:=fun j=>j==12) Ka ?_;rw[bh];clear bh;have aa:=hd (And.intro dG.o gW.o);refine Kp 0 12 (.pointer (some ⟨b,0,none⟩)) aa.o ?_;simp only[Act.put,List.getElem_toArray,List.getElem_cons_zero,List.setIfInBounds_toArray,List.set_cons_succ,List.set_cons_zero];refine Kp 1 11 (.slice A (k+o.nx) c) aa.o ?_;refine kNk ?_;refine Kp 2 10 (.pointer (some ⟨b,0,none⟩)) aa.o ?_;refine kNk ?_;refine Kp 3 9 (.pointer (some ⟨b,0,none⟩)) aa.o ?_;refine kNk ?_;refine Kp 4 8 (.pointer (some ⟨b,1,none⟩)) aa.o ?_;refine kNk ?_;refine Ko 5 7 (.slice RA rs.length rc) (fun W9 ag=>?_) aa.o ?_
   ·exact kV (j:=1) ag.1 _ rfl rfl rfl Tryz.underlying27 rfl
   refine kNk ?_;refine Kp 6 6 (.pointer (some ⟨w.heap.size,3,none⟩)) aa.o ?_;refine kNk ?_;refine Ko 7 5 (.int .i64 o.z) (fun W9 ag=>?_) aa.o ?_
   ·exact kV (j:=3) ag.2.toR _ rfl rfl rfl Tryz.underlying3 rfl
   refine kNk ?_;refine Ko 8 4 (.slice D (rs.length-k) (rc-k)) (fun W9 ag=>?_) aa.o ?_
   ·have aA:=dV.o;go_simp
   refine kNk ?_;refine Kq 9 3 (fun K hK=>?_);refine zIq giG W4 rfl _ _ rfl W1.heap.size (.slice A (k+o.nx) c) (k+o.nx) ((rs.take k++List.replicate o.nx (-2)).map (Value.int .i64)) rfl fy.o D (rs.length-k) (rc-k) w.heap.size ((rs.drop k).map (Value.int .i64)) rfl Kc (by rw[List.map_drop];exact(HD.o _ _ _ fF.o Kc).below (kf.o.trans (bf.o.mono Kb))) (kOa _) Kg Kb (bf.o.size) ?_;intro A2 c2 W5 hown hgr hat;have bK:=hd hown;have cu:=hd hgr;have hs5:=hgr.size;have cA:=hd (dG.o.grew hgr (fun e=>by have:=(fy.o.lt _ e).1;omega));have dH:=hd (show jR W5 w.heap.size o from(hgr.block _ gW.o.lt (fun e=>by have:=(fy.o.lt _ e.symm).1;omega)).trans gW.o);clear hown hgr hat aa;have aa:=hd (And.intro cA.o dH.o);refine kNk ?_;refine hK _ _ (fun _=>aa.o) ?_;clear hK K;refine Kq 10 2 (fun K hK=>?_);rw[if_pos Ka];go_simp;refine hK _ _ (fun _=>aa.o) ?_;clear hK K;refine Kq 11 1 (fun K hK=>?_);rw[if_pos Ka];go_simp;refine hK _ _ (fun _=>aa.o) ?_;clear hK K;refine Kq 12 0 (fun K hK=>?_);rw[if_pos Ka];refine zY zCa cA.o _ _ rfl rfl 1 _ [.slice A2 (k+o.nx+(rs.length-k)) c2] rfl rfl rfl rfl (zHt rfl) Kn ?_;intro W6 hv ho;have cN:=hd (show jT 64 W6 b #[.int .i64 lab,.slice A2 (k+o.nx+(rs.length-k)) c2,.slice KA ks.length kc]from hv);have pP:=hd ho;clear hv ho;refine hK _ _ (fun h=>absurd h Kd) (zAl Ka ?_);clear hK K aa;go_wp2_with fail
   go_end0
   have iE:=HF.o;have hsub:=aG.o;have hs4:=bf.o.size;have mo:=pP.o.size;have keep:∀q,q<w.heap.size->q≠b->W6.heap[q]? =w.heap[q]? :=fun q hq hne=>by
    rw[pP.o.block q Kb hne,cu.o.block q Kb (fun e=>by have:=(fy.o.lt _ e.symm).1;omega),bf.o.block q Kb,kf.o.block q hq]
   have hown:=kNq (base':=w.heap.size) bK.o (fun q hq=>by have:=(bK.o.lt q hq).1;omega);have wM:=cN.o;have e1:k+o.nx+(rs.length-k)=(rs.take k++List.replicate o.nx (-2)++rs.drop k).length:=by simp;omega
   exact kT4
theorem kX5 {g:NT}{o:OC}{a:OpP}{lab:Int}{ks:List NT}(hG:Gh w v g F)(hF:∀q,F q->w0.heap.size<=q/\q<w.heap.size)(ho:OkA w0 o a)(hw:Below w0.heap.size w0 w)(ta:zAf a)(hk:o.k=8)(hx:kB g a.q=some (.mk false [] (lab::rs) ks))(hz:o.z=(k:Int))(hkr:k+o.nx<=rs.length)(hrl:rs.length<=500000):Calls Tryz.prog 17 #[v,.agg o.row] w (kSo F v (putT g a.q (.mk false [] (lab::(rs.take k++rs.drop (k+o.nx))) ks)) w):=by
 first|have k1:(o.k==1)=true:=by simp[hk]|have k1:(o.k==1)=false:=by simp[hk]
 first|have k2:(o.k==2)=true:=by simp[hk]|have k2:(o.k==2)=false:=by simp[hk]
 first|have k3:(o.k==3)=true:=by simp[hk]|have k3:(o.k==3)=false:=by simp[hk]
 first|have k4:(o.k==4)=true:=by simp[hk]|have k4:(o.k==4)=false:=by simp[hk]
 first|have k5:(o.k==5)=true:=by simp[hk]|have k5:(o.k==5)=false:=by simp[hk]
 first|have k7:(o.k==7)=true:=by simp[hk]|have k7:(o.k==7)=false:=by simp[hk]
 first|have k8:(o.k==8)=true:=by simp[hk]|have k8:(o.k==8)=false:=by simp[hk]
 clear hk;obtain⟨pu,Fm,hpt,d9,hsub,bv⟩:=Gh.sub a.q hG hx;obtain⟨b,lab',rs',ks',RA,rc,KA,kc,us,Fs,rfl,e0,hO⟩:=d9.opened;simp only[NT.mk.injEq,List.cons.injEq,true_and]at e0;obtain⟨⟨rfl,rfl⟩,rfl⟩:=e0;obtain⟨RA',rc',eR,hrc,wN,_⟩:=zC9 hO.hr;injection eR with mU _ mV;subst mU mV;have aC:∀W:World,(Instr.slice 27 (.slice RA rs.length rc) none (some (.int .i64 o.z)) none).run Tryz.prog W=.ok (.slice RA k rc) W:=by rw[hz];exact kPw RA rs.length rc k Kb
 obtain⟨D,hD,ax⟩:=kQj RA rs.length rc (k+o.nx) Kb hrc;have aA:∀W:World,(Instr.slice 27 (.slice RA rs.length rc) (some (.int .i64 (o.z+(o.nx:Int)))) none none).run Tryz.prog W=.ok (.slice D (rs.length-(k+o.nx)) (rc-(k+o.nx))) W:=by rw[hz,show(k:Int)+(o.nx:Int)=((k+o.nx:Nat):Int) by omega];exact ax
 have hzb:0<=o.z/\o.z<=500000:=Kb;have gU:b<w.heap.size:=hO.hb.lt;have hnx:o.nx<=1000:=by have:=ta.hx;have:=ho.hnx;omega
 have sH:=hd hzb;have iQ:=hd aC;have dV:=hd aA;have HD:=hd hD;have bV:=hd hO;have dt:=hd bv;have aG:=hd hsub;have cZ:=hd hpt;have fF:=hd (kT3 hO);clear hO bv hsub hpt d9 hx hD aC aA ax hz hzb;obtain⟨W1,hW1⟩:∃W,w.alloc (.cells o.row 35)=W:=⟨_,rfl⟩;have hv:jR W1 w.heap.size o:=hW1▸jR.new w o;have aw:Below w.heap.size w W1:=hW1▸Kl.alloc Km _;have fG:=hw.size;have HV:=hd hv;have HB:=hd (hw.trans (aw.mono fG));clear hG;have HF:=hd (fun q(h:F q)=>(⟨(hF q h).1,(hF q h).2,Nat.lt_of_lt_of_le (hF q h).2 aw.size⟩:w0.heap.size<=q/\q<w.heap.size/\q<W1.heap.size));have cZ:=hd (show kQ1 W1 _ a.q _ from kOg _ cZ.o aw);have iR:=hd (show jT 64 W1 b #[.int .i64 lab,.slice RA rs.length rc,.slice KA ks.length kc]from(aw.block b gU).trans bV.o.hb);have kf:=hd aw;have HT:=hd (Tch.of_below (F:=F) aw);have HO:=hd ho;have az:=hd ta;have HW:=hd hW1;have hs1:W1.heap.size=w.heap.size+1:=by rw[<-hW1];simp
 clear hF ho hw ta hv aw hW1;go_enter Tryz.func17,Tryz.ntmps17
 go_upto_region 1 with fail
 rw[HW.o];clear HW;go_upto_region 41 with(first
  |((with_reducible refine zC (ty:=3) (x:=.tmp 17) ?_);refine zE HV.o (j:=0) (v:=.int .i64 o.k) _ rfl rfl rfl rfl Tryz.underlying3 rfl ?_)
  |((with_reducible refine zC (ty:=27) (x:=.tmp 225) ?_);refine zE HV.o (j:=1) (v:=.slice o.Q o.lq o.cq) _ rfl rfl rfl rfl Tryz.underlying27 rfl ?_)
  |(go_at_call 21;refine Calls.mono (kOx cZ.o ((HO.o.later HB.o).hasq az.o)) ?_;rintro e w1 ⟨rfl,hw1⟩;have hw1:=hw1.symm;subst hw1)
  |fail)
 obtain⟨W2,hW2⟩:∃W,W1.drew=W:=⟨_,rfl⟩;have ah:=hd (hW2▸(show jR W1.drew w.heap.size o from HV.o):jR W2 w.heap.size o);have bX:=hd (hW2▸(show jT 64 W1.drew b _ from iR.o):jT 64 W2 b #[.int .i64 lab,.slice RA rs.length rc,.slice KA ks.length kc]);have kg:=hd (hW2▸(Kl.drew):Below W1.heap.size W1 W2);have hs2:W2.heap.size=W1.heap.size:=by rw[<-hW2];rfl
 refine jO (S:=fun W'=>jT 64 W' b #[.int .i64 lab,.slice RA rs.length rc,.slice KA ks.length kc]/\jR W' w.heap.size o) (z:=fun _=>false) Ka ?_;rw[hW2];clear hW2;have aa:=hd (And.intro bX.o ah.o);refine Kp 0 9 (.slice none 0 0) aa.o ?_;simp only[Act.put,List.getElem_toArray,List.getElem_cons_zero,List.setIfInBounds_toArray,List.set_cons_succ,List.set_cons_zero];refine Kp 1 8 (.pointer (some ⟨b,0,none⟩)) aa.o ?_;refine kNk ?_;refine Kp 2 7 (.pointer (some ⟨b,0,none⟩)) aa.o ?_;refine kNk ?_;refine Kp 3 6 (.pointer (some ⟨b,1,none⟩)) aa.o ?_;refine kNk ?_;refine Ko 4 5 (.slice RA rs.length rc) (fun W9 ag=>?_) aa.o ?_
 ·exact kV (j:=1) ag.1 _ rfl rfl rfl Tryz.underlying27 rfl
 refine kNk ?_;refine Kp 5 4 (.pointer (some ⟨w.heap.size,3,none⟩)) aa.o ?_;refine kNk ?_;refine Ko 6 3 (.int .i64 o.z) (fun W9 ag=>?_) aa.o ?_
 ·exact kV (j:=3) ag.2.toR _ rfl rfl rfl Tryz.underlying3 rfl
 refine kNk ?_;refine Ko 7 2 (.slice RA k rc) (fun W9 ag=>?_) aa.o ?_
 ·have aC:=iQ.o;go_simp
 refine kNk ?_;refine Kq 8 1 (fun K hK=>?_);refine kNw giG W2 rfl _ _ rfl W1.heap.size rfl RA k rc w.heap.size ((rs.take k).map (Value.int .i64)) rfl Kf (by rw[List.map_take];exact(fF.o.take k).below ((kf.o.trans (kg.o.mono Kb)))) (kOa _) Kg Kb Kb ?_;intro A1 c1 W3 hown hb3 hat;have HOWN:=hd hown;have hs3:=hb3.size;have bT:=hd (kg.o.trans (hb3.mono Kb));have gL:=hd (show jR W3 w.heap.size o from(hb3.block _ ah.o.lt).trans ah.o);have fH:=hd (bX.o.keep hb3);clear hown hb3 hat aa;have aa:=hd (And.intro fH.o gL.o);refine kNk ?_;refine hK _ _ (fun _=>aa.o) ?_;clear hK K;refine Kq 9 0 (fun K hK=>?_);rw[if_pos Ka];go_simp;refine hK _ _ (fun _=>aa.o) (zAl Ka ?_);clear hK K aa;go_upto_region 42 with fail
 obtain⟨W4,bh⟩:∃W,W3.drew=W:=⟨_,rfl⟩;have bf:=hd (bh▸zZ bT.o 1:Below W1.heap.size W1 W4);have gW:=hd (show jR W4 w.heap.size o from(bf.o.block _ HV.o.lt).trans HV.o);have dG:=hd (show jT 64 W4 b #[.int .i64 lab,.slice RA rs.length rc,.slice KA ks.length kc]from(bf.o.block _ iR.o.lt).trans iR.o);have fy:=hd (bh▸HOWN.o:W4.ownsRow W1.heap.size 3 1 (.slice A1 k c1) k ((rs.take k).map (Value.int .i64)));refine jO (S:=fun W'=>jT 64 W' b #[.int .i64 lab,.slice RA rs.length rc,.slice KA ks.length kc]/\jR W' w.heap.size o) (z:=fun j=>j==16) Ka ?_;rw[bh];clear bh;have aa:=hd (And.intro dG.o gW.o);refine Kp 0 16 (.pointer (some ⟨b,0,none⟩)) aa.o ?_;simp only[Act.put,List.getElem_toArray,List.getElem_cons_zero,List.setIfInBounds_toArray,List.set_cons_succ,List.set_cons_zero];refine Kp 1 15 (.slice A1 k c1) aa.o ?_;refine kNk ?_;refine Kp 2 14 (.pointer (some ⟨b,0,none⟩)) aa.o ?_;refine kNk ?_;refine Kp 3 13 (.pointer (some ⟨b,0,none⟩)) aa.o ?_;refine kNk ?_;refine Kp 4 12 (.pointer (some ⟨b,1,none⟩)) aa.o ?_;refine kNk ?_;refine Ko 5 11 (.slice RA rs.length rc) (fun W9 ag=>?_) aa.o ?_
 ·exact kV (j:=1) ag.1 _ rfl rfl rfl Tryz.underlying27 rfl
 refine kNk ?_;refine Kp 6 10 (.pointer (some ⟨w.heap.size,3,none⟩)) aa.o ?_;refine kNk ?_;refine Ko 7 9 (.int .i64 o.z) (fun W9 ag=>?_) aa.o ?_
 ·exact kV (j:=3) ag.2.toR _ rfl rfl rfl Tryz.underlying3 rfl
 refine kNk ?_;refine Kp 8 8 (.pointer (some ⟨w.heap.size,10,none⟩)) aa.o ?_;refine kNk ?_;refine Ko 9 7 (.slice o.S o.nx o.cx) (fun W9 ag=>?_) aa.o ?_
 ·exact kV (j:=10) ag.2.toR _ rfl rfl rfl Tryz.underlying23 rfl
 refine kNk ?_;refine Kp 10 6 (.int .i64 (o.nx:Int)) aa.o ?_;refine kNk ?_;refine Ko 11 5 (.int .i64 (o.z+(o.nx:Int))) (fun W9 ag=>?_) aa.o ?_
 ·have hw:wrap64 (o.z+(o.nx:Int))=o.z+(o.nx:Int):=zGy _ (by have:=sH.o.1;omega) (by have:=sH.o.2;omega);go_simp;exact(IntWalk.i64_left _).trans hw
 refine kNk ?_;refine Ko 12 4 (.slice D (rs.length-(k+o.nx)) (rc-(k+o.nx))) (fun W9 ag=>?_) aa.o ?_
 ·have aA:=dV.o;go_simp
 refine kNk ?_;refine Kq 13 3 (fun K hK=>?_);refine zIq giG W4 rfl _ _ rfl W1.heap.size (.slice A1 k c1) k ((rs.take k).map (Value.int .i64)) rfl fy.o D (rs.length-(k+o.nx)) (rc-(k+o.nx)) w.heap.size ((rs.drop (k+o.nx)).map (Value.int .i64)) rfl Kc (by rw[List.map_drop];exact(HD.o _ _ _ fF.o Kc).below (kf.o.trans (bf.o.mono Kb))) (kOa _) Kg Kb (bf.o.size) ?_;intro A2 c2 W5 hown hgr hat;have bK:=hd hown;have cu:=hd hgr;have hs5:=hgr.size;have cA:=hd (dG.o.grew hgr (fun e=>by have:=(fy.o.lt _ e).1;omega));have dH:=hd (show jR W5 w.heap.size o from(hgr.block _ gW.o.lt (fun e=>by have:=(fy.o.lt _ e.symm).1;omega)).trans gW.o);clear hown hgr hat aa;have aa:=hd (And.intro cA.o dH.o);refine kNk ?_;refine hK _ _ (fun _=>aa.o) ?_;clear hK K;refine Kq 14 2 (fun K hK=>?_);rw[if_pos Ka];go_simp;refine hK _ _ (fun _=>aa.o) ?_;clear hK K;refine Kq 15 1 (fun K hK=>?_);rw[if_pos Ka];go_simp;refine hK _ _ (fun _=>aa.o) ?_;clear hK K;refine Kq 16 0 (fun K hK=>?_);rw[if_pos Ka];refine zY zCa cA.o _ _ rfl rfl 1 _ [.slice A2 (k+(rs.length-(k+o.nx))) c2] rfl rfl rfl rfl (zHt rfl) Kn ?_;intro W6 hv ho;have cN:=hd (show jT 64 W6 b #[.int .i64 lab,.slice A2 (k+(rs.length-(k+o.nx))) c2,.slice KA ks.length kc]from hv);have pP:=hd ho;clear hv ho;refine hK _ _ (fun h=>absurd h Kd) (zAl Ka ?_);clear hK K aa;go_wp2_with fail
 go_end0
 have iE:=HF.o;have hsub:=aG.o;have hs4:=bf.o.size;have mo:=pP.o.size;have keep:∀q,q<w.heap.size->q≠b->W6.heap[q]? =w.heap[q]? :=fun q hq hne=>by
  rw[pP.o.block q Kb hne,cu.o.block q Kb (fun e=>by have:=(fy.o.lt _ e.symm).1;omega),bf.o.block q Kb,kf.o.block q hq]
 have hown:=kNq (base':=w.heap.size) bK.o (fun q hq=>by have:=(bK.o.lt q hq).1;omega);have wM:=cN.o;have e1:k+(rs.length-(k+o.nx))=(rs.take k++rs.drop (k+o.nx)).length:=by simp;omega
 exact kT4
