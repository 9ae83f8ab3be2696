import Derived.Test.YtmglnjmnabjjgaaGreatJXCalls
set_option maxRecDepth 100000
set_option maxHeartbeats 8000000
namespace Go.Proofs.YtmglnjmnabjjgaaGreat
open Go.RowKit
variable {K pos:Int}{p q t:List Int}{P:Prop}{W w:World}{qv r10 r11 r12 r13 r14 r15 r16 r17 r18 r19 r20 r4 r5 r6 r7 r8 r9 tv u x0 x1 x2 x3:Value}{r:List Int×Bool}
theorem zEj (h:(jI p&&jI q&&jI t&&zE9 pos)=false):jF K q t pos p=noR:=by unfold jF;rw[h];rfl
theorem zJ9 (h:(jI p&&jI q&&jI t&&zE9 pos)=true)(hK:K≠5):jF K q t pos p=jH K q pos p:=by unfold jF;rw[h,if_pos rfl,if_neg (fun h=>hK h.1)]
theorem kBn (h:q.length=0):jH K q pos p=(p,true):=by unfold jH;rw[if_pos h]
theorem zDw {s:Int}(h:zX q p=s)(hs:s≠0):q.length<=p.length:=by
 subst h;rcases zAt q p with⟨h0,h1,_,_⟩|⟨h0,_,h2,_⟩|⟨h0,_,_,h3⟩|⟨h0,_⟩
 ·rw[zEe]at h1;omega
 ·unfold zEd at h2;rw[of_decide_eq_true h2];exact Nat.le_refl _
 ·rw[zE0]at h3;omega
 ·exact absurd h0 hs
theorem zNg (h:zX q p=3):q.length<p.length:=by
 rcases zAt q p with⟨h0,_⟩|⟨h0,_⟩|⟨_,_,_,h3⟩|⟨h0,_⟩
 ·omega
 ·omega
 ·rw[zE0]at h3;omega
 ·omega
theorem kNt (h:P:=by
 go_wp2_with(first
  |(go_at_call 83;refine Calls.mono (zCb (k:=k) rfl (by first|exact HP.o _ ae.o|exact HP.o _ (ae.o.alloc ae.o.size _)) (by first|exact zCv _ _|exact zBf _ _ _|exact zDy _ _ _ _) (by first|exact fun h=>absurd rfl h|exact fun _=>sB.o|exact fun _=>iB.o) (by exact fE.o) (by first|exact zBc|exact zBd Kb|exact zBe Kb Kb)) ?_;rintro e w9 ⟨v9,rfl,ho,b9⟩;have HO:=hd (ho.weaken (b':=w.heap.size) (by first|exact Nat.le_trans aB.o.size ae.o.size|exact Nat.le_trans aB.o.size (ae.o.alloc ae.o.size _).size));have bw:=hd (show Below W0.heap.size W0 w9 from by first|exact zI ae.o b9|exact zI (ae.o.alloc ae.o.size _) b9);clear b9 ho)
  |(go_at_call 83;refine Calls.mono (zCb (k:=0) rfl (by first|exact HP.o _ ae.o|exact HP.o _ (ae.o.alloc ae.o.size _)) (by first|exact zCv _ _|exact zBf _ _ _|exact zDy _ _ _ _) (by first|exact fun h=>absurd rfl h|exact fun _=>sB.o|exact fun _=>iB.o) (by exact fE.o) (by first|exact zBc|exact zBd Kb|exact zBe Kb Kb)) ?_;rintro e w9 ⟨v9,rfl,ho,b9⟩;have HO:=hd (ho.weaken (b':=w.heap.size) (by first|exact Nat.le_trans aB.o.size ae.o.size|exact Nat.le_trans aB.o.size (ae.o.alloc ae.o.size _).size));have bw:=hd (show Below W0.heap.size W0 w9 from by first|exact zI ae.o b9|exact zI (ae.o.alloc ae.o.size _) b9);clear b9 ho)
  |(go_at_call 82;(try rw[<-HW.o]);refine Calls.mono (zB3 (by first|exact HP.o _ ae.o|exact HQ.o _ ae.o|exact HT.o _ ae.o|exact zBf _ _ _) (by first|exact H1.o|exact H2.o|exact H3.o|exact H4.o)) ?_;rintro e w9 ⟨rfl,b9⟩;have ae:=hd (show Below W0.heap.size W0 w9 from by first|exact zI ae.o b9|exact zI (ae.o.alloc ae.o.size _) b9);clear b9 x0 x1 x2 x3;obtain⟨x0,x1,x2,x3⟩:=HK.o _ ae.o)
  |fail)
 go_ret2
 first
  |exact kT HF.o (zBt.nil _ _) (aB.o.trans (ae.o.mono aB.o.size))
  |exact kT HF.o HO.o (aB.o.trans (bw.o.mono aB.o.size))
  |fail):P:=h
theorem kPv (h:P:=by
 have sB:=hd (show k+1<=p.length by have h:=zDw HS.o Kd;have h2:=aP.o;omega);have HF:=hd (show jF _ q t pos p=(plusL p k [1],true) by rw[HL.o];simp[jH,HS.o,aP.o]);exact kNt):P:=h
theorem kSh (h:P:=by
 go_upto_region 12 with fail
 go_quiet(fail)
 generalize d7:World.drewN _ _=w5
 have ae:=hd (show Below W0.heap.size W0 w5 from d7▸zZ ae.o _);clear d7 x0 x1 x2 x3;obtain⟨x0,x1,x2,x3⟩:=HK.o _ ae.o;have HF:=hd (show jF _ q t pos p=(p,true) by rw[HL.o];simp[jH,HS.o,aP.o]);exact kNt):P:=h
theorem kSi (h:P:=by
 have sB:=hd (show k+1<=p.length by have h:=zDw HS.o Kd;have h2:=aP.o;omega);have HF:=hd (show jF _ q t pos p=(plusL p k [-1],true) by rw[HL.o];simp[jH,HS.o,aP.o,lastL,HZ.o]);exact kNt):P:=h
theorem kIz (A Q T:Option Addr)(p q t:List Int)(n lq lt c cq ct:Nat)(K pos:Int)(r4 r5 r6 r7 r8 r9 r10 r11 r12 r13 r14 r15 r16 r17 r18 r19 r20:Value)(w:World)(hn:p.length=n)(hlq:q.length=lq)(hlt:t.length=lt)(hl:n<=1000)(hl2:lq<=1000)(cY:lt<=1000)(hc:n<=c)(hc2:lq<=cq)(hc3:lt<=ct)(pL:K≠5)(hp:IL w w.heap.size A p)(hq:IL w w.heap.size Q q)(ht:IL w w.heap.size T t):
  Calls Tryz.prog 46 #[.slice A n c,.agg #[.int .i64 K,.slice Q lq cq,.slice T lt ct,.int .i64 pos,r4,r5,r6,r7,r8,r9,r10,r11,r12,r13,r14,r15,r16,r17,r18,r19,r20]] w (kBb w (jF K q t pos p)):=by
 obtain⟨W0,hW⟩:∃W0,W0=w.alloc (.cells #[Value.int .i64 K,.slice Q lq cq,.slice T lt ct,.int .i64 pos,r4,r5,r6,r7,r8,r9,r10,r11,r12,r13,r14,r15,r16,r17,r18,r19,r20] 35):=⟨_,rfl⟩;have hb0:Below w.heap.size w W0:=hW▸zQ w _;have e0:W0.heap[w.heap.size]? =some (.cells #[Value.int .i64 K,.slice Q lq cq,.slice T lt ct,.int .i64 pos,r4,r5,r6,r7,r8,r9,r10,r11,r12,r13,r14,r15,r16,r17,r18,r19,r20] 35 (0,0)):=hW▸heap_alloc_new _ _;have HK:=hd (show∀W,Below W0.heap.size W0 W->(W.cell? ⟨w.heap.size,0,none⟩=some (.int .i64 K)/\W.cell? ⟨w.heap.size,1,none⟩=some (.slice Q lq cq)/\W.cell? ⟨w.heap.size,2,none⟩=some (.slice T lt ct)/\W.cell? ⟨w.heap.size,3,none⟩=some (.int .i64 pos))from fun W h=>zD9 (zI1 e0 h));have je:=hd (fun W(h:Below W0.heap.size W0 W)=>hp.later (hb0.trans (h.mono hb0.size)));have sD:=hd (fun W(h:Below W0.heap.size W0 W)=>hq.later (hb0.trans (h.mono hb0.size)));have HIT:=hd (fun W(h:Below W0.heap.size W0 W)=>ht.later (hb0.trans (h.mono hb0.size)));have HP:=hd (show∀W,Below W0.heap.size W0 W->XA W (.slice A n c) p from fun W h=>⟨A,n,c,rfl,hn,hl,hc,je.o W h⟩);have HQ:=hd (show∀W,Below W0.heap.size W0 W->XA W (.slice Q lq cq) q from fun W h=>⟨Q,lq,cq,rfl,hlq,hl2,hc2,sD.o W h⟩);have HT:=hd (show∀W,Below W0.heap.size W0 W->XA W (.slice T lt ct) t from fun W h=>⟨T,lt,ct,rfl,hlt,cY,hc3,HIT.o W h⟩);have ae:=hd (Below.refl W0.heap.size W0);have HW:=hd hW;have aB:=hd hb0;have HN:=hd hn;have aP:=hd hlq;have lJ:=hd hlt;have H4:=hd (zN2 pos);obtain⟨x0,x1,x2,x3⟩:=HK.o W0 ae.o;clear hp hq ht hW hb0 e0 hn hlq hlt;cases h1:jI p
 ·have HF:=hd (zEj (K:=K) (q:=q) (t:=t) (pos:=pos) (p:=p) (by rw[h1];rfl));have H1:=hd h1;clear h1;go_enter Tryz.func46,Tryz.ntmps46
  exact kNt
 have H1:=hd h1;cases h2:jI q
 ·have H2:=hd h2;have HF:=hd (zEj (K:=K) (q:=q) (t:=t) (pos:=pos) (p:=p) (by rw[h2];simp));clear h1 h2;go_enter Tryz.func46,Tryz.ntmps46
  exact kNt
 have H2:=hd h2;cases h3:jI t
 ·have H3:=hd h3;have HF:=hd (zEj (K:=K) (q:=q) (t:=t) (pos:=pos) (p:=p) (by rw[h3];simp));clear h1 h2 h3;go_enter Tryz.func46,Tryz.ntmps46
  exact kNt
 have H3:=hd h3;cases h4:zE9 pos
 ·have HF:=hd (zEj (K:=K) (q:=q) (t:=t) (pos:=pos) (p:=p) (by rw[h4];simp));rw[h4]at H4;clear h1 h2 h3 h4;go_enter Tryz.func46,Tryz.ntmps46
  exact kNt
 have HL:=hd (zJ9 (K:=K) (q:=q) (t:=t) (pos:=pos) (p:=p) (by rw[h1,h2,h3,h4];rfl) pL);rw[h4]at H4;have fE:=hd (zOk h1);have mE:=hd ((zDf q).1 h2);obtain⟨g0,g1⟩:=(zKd pos).1 h4;clear h1 h2 h3 h4;rcases lq with _|k
 ·have HF:=hd (show jF K q t pos p=(p,true) by rw[HL.o,kBn aP.o]);go_enter Tryz.func46,Tryz.ntmps46
  go_wp2_with(first
   |(go_at_call 82;(try rw[<-HW.o]);refine Calls.mono (zB3 (by first|exact HP.o _ ae.o|exact HQ.o _ ae.o|exact HT.o _ ae.o|exact zBf _ _ _) (by first|exact H1.o|exact H2.o|exact H3.o|exact H4.o)) ?_;rintro e w9 ⟨rfl,b9⟩;have ae:=hd (show Below W0.heap.size W0 w9 from by first|exact zI ae.o b9|exact zI (ae.o.alloc ae.o.size _) b9);clear b9 x0 x1 x2 x3;obtain⟨x0,x1,x2,x3⟩:=HK.o _ ae.o))
  exact kNt
 obtain⟨s,hs⟩:∃s,zX q p=s:=⟨_,rfl⟩;have HS:=hd hs;clear hs;go_enter Tryz.func46,Tryz.ntmps46
 go_upto_region 5 with(first
   |(go_at_call 82;(try rw[<-HW.o]);refine Calls.mono (zB3 (by first|exact HP.o _ ae.o|exact HQ.o _ ae.o|exact HT.o _ ae.o|exact zBf _ _ _) (by first|exact H1.o|exact H2.o|exact H3.o|exact H4.o)) ?_;rintro e w9 ⟨rfl,b9⟩;have ae:=hd (show Below W0.heap.size W0 w9 from by first|exact zI ae.o b9|exact zI (ae.o.alloc ae.o.size _) b9);clear b9 x0 x1 x2 x3;obtain⟨x0,x1,x2,x3⟩:=HK.o _ ae.o))
 have gH:=hd (fun j=>zQo (n:=j) (zVe (HQ.o _ (zZ ae.o j)) (HP.o _ (zZ ae.o j)) HS.o));go_quiet((go_at_call 84;exact gH.o _))
 generalize d7:World.drewN _ _=w5
 have ae:=hd (show Below W0.heap.size W0 w5 from d7▸zZ ae.o _);clear d7 x0 x1 x2 x3;obtain⟨x0,x1,x2,x3⟩:=HK.o _ ae.o;clear gH;have hs4:s=0∨s=1∨s=2∨s=3:=by
  have:=HS.o;rcases zAt q p with⟨h,_⟩|⟨h,_⟩|⟨h,_⟩|⟨h,_⟩<;>omega
 by_cases hK4:K=4
 ·subst hK4;rcases hs4 with rfl|rfl|rfl|rfl
  ·exact kSh
  ·go_upto_region 12 with fail
   go_quiet(fail)
   generalize d7:World.drewN _ _=w5
   have ae:=hd (show Below W0.heap.size W0 w5 from d7▸zZ ae.o _);clear d7 x0 x1 x2 x3;obtain⟨x0,x1,x2,x3⟩:=HK.o _ ae.o;exact kPv
  ·exact kSh
  ·have iB:=hd (show k+2<=p.length by have h:=zNg HS.o;have h2:=aP.o;omega);obtain⟨b1,o1,rfl,hb1,e1⟩:=(je.o w5 ae.o).at_ (show k+1<p.length from iB.o);have hkn:k+1<n:=by have h:=iB.o;have h2:=HN.o;omega
   by_cases ow:pos<=iAt p (k+1)
   ·go_upto_region 12 with fail
    go_quiet(fail)
    generalize d7:World.drewN _ _=w5
    have ae:=hd (show Below W0.heap.size W0 w5 from d7▸zZ ae.o _);clear d7 x0 x1 x2 x3;obtain⟨x0,x1,x2,x3⟩:=HK.o _ ae.o;have HF:=hd (show jF _ q t pos p=(plusL p k [1,-pos],true) by rw[HL.o];simp[jH,HS.o,aP.o,ow]);exact kNt
   ·have Ez:decide (pos<=iAt p (k+1))=false:=decide_eq_false ow;have aI:=hd ow;clear ow;go_upto_region 12 with fail
    go_quiet(fail)
    generalize d7:World.drewN _ _=w5
    have ae:=hd (show Below W0.heap.size W0 w5 from d7▸zZ ae.o _);clear d7 x0 x1 x2 x3;obtain⟨x0,x1,x2,x3⟩:=HK.o _ ae.o;have HF:=hd (show jF _ q t pos p=(p,true) by rw[HL.o];simp[jH,HS.o,aP.o,aI.o]);exact kNt
 by_cases vV:K=1
 ·subst vV;rcases hs4 with rfl|rfl|rfl|rfl
  ·have HF:=hd (show jF _ q t pos p=(p,true) by rw[HL.o];simp[jH,HS.o,aP.o]);exact kNt
  ·exact kPv
  ·exact kPv
  ·exact kPv
 by_cases hK3:K=3
 ·subst hK3;obtain⟨b1,o1,rfl,hb1,e1⟩:=(sD.o w5 ae.o).at_ (show k<q.length by have:=aP.o;omega);by_cases hz:iAt q k=0
  ·have hz':(iAt q k==0)=true:=by simp[hz]
   have HF:=hd (show jF 3 q t pos p=noR by rw[HL.o];simp[jH,lastL,aP.o,hz]);clear hz hs4;go_wp2
   go_ret2
   exact kT HF.o (zBt.nil _ _) (aB.o.trans (ae.o.mono aB.o.size))
  have hz':(iAt q k==0)=false:=by simp[hz]
  have HZ:=hd hz;clear hz;rcases hs4 with rfl|rfl|rfl|rfl
  ·have HF:=hd (show jF _ q t pos p=(p,true) by rw[HL.o];simp[jH,HS.o,aP.o,lastL,HZ.o]);exact kNt
  ·exact kSi
  ·exact kSi
  ·have iB:=hd (show k+2<=p.length by have h:=zNg HS.o;have h2:=aP.o;omega);have HF:=hd (show jF _ q t pos p=(plusL p k [-1,pos],true) by rw[HL.o];simp[jH,HS.o,aP.o,lastL,HZ.o]);exact kNt
 by_cases hK2:K=2
 ·subst hK2;rcases hs4 with rfl|rfl|rfl|rfl
  ·have HF:=hd (show jF _ q t pos p=(p,true) by rw[HL.o];simp[jH,HS.o,aP.o]);exact kNt
  ·have sB:=hd (show k+1<=p.length by have h:=zDw HS.o Kd;have h2:=aP.o;omega);have HF:=hd (show jF _ q t pos p=(plusL p k [-1],true) by rw[HL.o];simp[jH,HS.o,aP.o]);exact kNt
  ·have HF:=hd (show jF 2 q t pos p=noR by rw[HL.o];simp[jH,HS.o,aP.o]);go_wp2
   go_ret2
   exact kT HF.o (zBt.nil _ _) (aB.o.trans (ae.o.mono aB.o.size))
  ·have HF:=hd (show jF 2 q t pos p=noR by rw[HL.o];simp[jH,HS.o,aP.o]);go_wp2
   go_ret2
   exact kT HF.o (zBt.nil _ _) (aB.o.trans (ae.o.mono aB.o.size))
 have k1:(K==1)=false:=by simp[vV]
 have k2:(K==2)=false:=by simp[hK2]
 have k3:(K==3)=false:=by simp[hK3]
 have k4:(K==4)=false:=by simp[hK4]
 have k5:(K==5)=false:=by simp[pL]
 have HF:=hd (show jF K q t pos p=(p,true) by rw[HL.o];simp[jH,vV,hK2,hK3,hK4]);clear hs4 vV hK2 hK3 hK4 pL
 go_wp2_with(first
       |(go_at_call 83;refine Calls.mono (zCb (k:=k) rfl (by first|exact HP.o _ ae.o|exact HP.o _ (ae.o.alloc ae.o.size _)) (by first|exact zCv _ _|exact zBf _ _ _|exact zDy _ _ _ _) (by first|exact fun h=>absurd rfl h|exact fun _=>sB.o|exact fun _=>iB.o) (by exact fE.o) (by first|exact zBc|exact zBd Kb|exact zBe Kb Kb)) ?_;rintro e w9 ⟨v9,rfl,ho,b9⟩;have HO:=hd (ho.weaken (b':=w.heap.size) (by first|exact Nat.le_trans aB.o.size ae.o.size|exact Nat.le_trans aB.o.size (ae.o.alloc ae.o.size _).size));have bw:=hd (show Below W0.heap.size W0 w9 from by first|exact zI ae.o b9|exact zI (ae.o.alloc ae.o.size _) b9);clear b9 ho))
 go_ret2
 exact kT HF.o HO.o (aB.o.trans (bw.o.mono aB.o.size))
theorem kIf (h:(jI p&&jI q&&jI t&&zE9 pos)=true):jF 5 q t pos p=if q.length≠0 then(if zX q p=2∨zX q p=3 then(t++p.drop q.length,true)else jH 1 t 0 (jH 2 q 0 p).1)else jH 5 q pos p:=by
 unfold jF;rw[h,if_pos rfl];by_cases h:q.length=0
 ·rw[if_neg (fun x=>x.2 h),if_neg (fun x=>x h)]
 ·rw[if_pos ⟨rfl,h⟩,if_pos h]
theorem zXj (hp:jI p=true)(hq:jI q=true)(hs:zX q p=1):jI (plusL p (q.length-1) [-1])=true:=by
 rw[zIv,zEe]at hs;obtain⟨h1,h2,h3⟩:=hs;rw[zDf]at*;intro k hk;rw[zJf]at hk;simp only[plusL];have hk1:=hp k hk;by_cases e:k=q.length-1
 ·have:=hq (q.length-1) Kb;rw[show kO q p=q.length-1 by omega]at h3;subst e;rw[zSv _ _ _ hk];omega
 ·rw[zYu _ _ _ _ e];exact hk1
theorem zR9 (pL:K≠5)(hp:XA W u p)(hq:XA W qv q)(ht:XA W tv t)(hr:jF K q t pos p=r):
  Calls Tryz.prog 46 #[u,.agg #[.int .i64 K,qv,tv,.int .i64 pos,r4,r5,r6,r7,r8,r9,r10,r11,r12,r13,r14,r15,r16,r17,r18,r19,r20]] W (kBb W r):=by
 subst hr;obtain⟨A,n,c,rfl,h1,h2,h3,h4⟩:=hp;obtain⟨Q,lq,cq,rfl,g1,g2,g3,g4⟩:=hq;obtain⟨T,lt,ct,rfl,i1,i2,i3,i4⟩:=ht;exact kIz A Q T p q t n lq lt c cq ct K pos r4 r5 r6 r7 r8 r9 r10 r11 r12 r13 r14 r15 r16 r17 r18 r19 r20 W h1 g1 i1 h2 g2 i2 h3 g3 i3 pL h4 g4 i4
theorem kOc (h:P:=by
 go_wp2_with(first
  |(go_at_call 85;refine Calls.mono (kBc T D t (p.drop (k+1)) lt (n-(k+1)) ct (c-(k+1)) w5.drew _ _ rfl lJ.o E0.o cY Kb (HIT.o w5 ae.o) HD.o) ?_;rintro e w9 ⟨v9,rfl,ho,b9⟩;have HO:=hd (ho.weaken (b':=w.heap.size) (Nat.le_trans aB.o.size ae.o.size));have bw:=hd (zI ae.o ((zZ Kl 1).trans b9));clear ho b9)
  |(go_at_call 83;refine Calls.mono (zCb (k:=0) rfl (by first|exact HP.o _ ae.o|exact HP.o _ (ae.o.alloc ae.o.size _)) (by first|exact zCv _ _|exact zBf _ _ _|exact zDy _ _ _ _) (by first|exact fun h=>absurd rfl h|exact fun _=>sB.o|exact fun _=>iB.o) (by exact fE.o) (by first|exact zBc|exact zBd Kb|exact zBe Kb Kb)) ?_;rintro e w9 ⟨v9,rfl,ho,b9⟩;have HO:=hd (ho.weaken (b':=w.heap.size) (by first|exact Nat.le_trans aB.o.size ae.o.size|exact Nat.le_trans aB.o.size (ae.o.alloc ae.o.size _).size));have bw:=hd (show Below W0.heap.size W0 w9 from by first|exact zI ae.o b9|exact zI (ae.o.alloc ae.o.size _) b9);clear b9 ho)
  |(go_at_call 82;(try rw[<-HW.o]);refine Calls.mono (zB3 (by first|exact HP.o _ ae.o|exact HQ.o _ ae.o|exact HT.o _ ae.o|exact zBf _ _ _) (by first|exact H1.o|exact H2.o|exact H3.o|exact H4.o)) ?_;rintro e w9 ⟨rfl,b9⟩;have ae:=hd (show Below W0.heap.size W0 w9 from by first|exact zI ae.o b9|exact zI (ae.o.alloc ae.o.size _) b9);clear b9 x0 x1 x2 x3;obtain⟨x0,x1,x2,x3⟩:=HK.o _ ae.o)
  |(go_at_call 46;have _g:=fB;refine Calls.mono (zR9 Kd E4.o (HT.o _ ae.o) (zCv _ _) rfl) ?_;rintro e w9 ⟨v9,rfl,ho,b9⟩;have HO:=hd (ho.weaken (b':=w.heap.size) (Nat.le_trans aB.o.size ae.o.size));have bw:=hd (zI ae.o b9);clear ho b9)
  |(go_at_call 46;refine Calls.mono (zR9 Kd (HP.o _ ae.o) (HQ.o _ ae.o) (zCv _ _) HR.o) ?_;rintro e w9 ⟨v9,rfl,ho,b9⟩;have E4:=hd (XA.own ho su.o);have ae:=hd (zI ae.o b9);have fB:=trivial;clear ho b9 x0 x1 x2 x3;obtain⟨x0,x1,x2,x3⟩:=HK.o _ ae.o)
  |fail)
 go_ret2
 first
  |exact kT HF.o (zBt.nil _ _) (aB.o.trans (ae.o.mono aB.o.size))
  |exact kT HF.o HO.o (aB.o.trans (bw.o.mono aB.o.size))
  |fail):P:=h
theorem kSj (h:P:=by
 have hkn:k+1<=n:=by have h:=zDw HS.o Kd;have h2:=aP.o;have h3:=HN.o;omega
 obtain⟨D,hD,hrun⟩:=kBd A n c (k+1) hkn hc;simp only[Int.natCast_add,Int.cast_ofNat_Int]at hrun;have HD:=hd (hD w5.drew w5.heap.size p (je.o w5 ae.o) HN.o);have HF:=hd (show jF 5 q t pos p=(t++p.drop (k+1),true) by rw[HL.o,if_pos (by rw[aP.o];omega),if_pos (by rw[HS.o];decide),aP.o]);have E0:=hd (show(p.drop (k+1)).length=n-(k+1) by rw[List.length_drop,HN.o]);clear hD;go_upto_region 29 with fail
 go_still_tail 6,Ka
 exact kOc):P:=h
theorem kIg (A Q T:Option Addr)(p q t:List Int)(n lq lt c cq ct:Nat)(pos:Int)(r4 r5 r6 r7 r8 r9 r10 r11 r12 r13 r14 r15 r16 r17 r18 r19 r20:Value)(w:World)(hn:p.length=n)(hlq:q.length=lq)(hlt:t.length=lt)(hl:n<=1000)(hl2:lq<=1000)(cY:lt<=1000)(hc:n<=c)(hc2:lq<=cq)(hc3:lt<=ct)(hp:IL w w.heap.size A p)(hq:IL w w.heap.size Q q)(ht:IL w w.heap.size T t):
  Calls Tryz.prog 46 #[.slice A n c,.agg #[.int .i64 5,.slice Q lq cq,.slice T lt ct,.int .i64 pos,r4,r5,r6,r7,r8,r9,r10,r11,r12,r13,r14,r15,r16,r17,r18,r19,r20]] w (kBb w (jF 5 q t pos p)):=by
 obtain⟨W0,hW⟩:∃W0,W0=w.alloc (.cells #[Value.int .i64 5,.slice Q lq cq,.slice T lt ct,.int .i64 pos,r4,r5,r6,r7,r8,r9,r10,r11,r12,r13,r14,r15,r16,r17,r18,r19,r20] 35):=⟨_,rfl⟩;have hb0:Below w.heap.size w W0:=hW▸zQ w _;have e0:W0.heap[w.heap.size]? =some (.cells #[Value.int .i64 5,.slice Q lq cq,.slice T lt ct,.int .i64 pos,r4,r5,r6,r7,r8,r9,r10,r11,r12,r13,r14,r15,r16,r17,r18,r19,r20] 35 (0,0)):=hW▸heap_alloc_new _ _;have HK:=hd (show∀W,Below W0.heap.size W0 W->(W.cell? ⟨w.heap.size,0,none⟩=some (.int .i64 5)/\W.cell? ⟨w.heap.size,1,none⟩=some (.slice Q lq cq)/\W.cell? ⟨w.heap.size,2,none⟩=some (.slice T lt ct)/\W.cell? ⟨w.heap.size,3,none⟩=some (.int .i64 pos))from fun W h=>zD9 (zI1 e0 h));have je:=hd (fun W(h:Below W0.heap.size W0 W)=>hp.later (hb0.trans (h.mono hb0.size)));have sD:=hd (fun W(h:Below W0.heap.size W0 W)=>hq.later (hb0.trans (h.mono hb0.size)));have HIT:=hd (fun W(h:Below W0.heap.size W0 W)=>ht.later (hb0.trans (h.mono hb0.size)));have HP:=hd (show∀W,Below W0.heap.size W0 W->XA W (.slice A n c) p from fun W h=>⟨A,n,c,rfl,hn,hl,hc,je.o W h⟩);have HQ:=hd (show∀W,Below W0.heap.size W0 W->XA W (.slice Q lq cq) q from fun W h=>⟨Q,lq,cq,rfl,hlq,hl2,hc2,sD.o W h⟩);have HT:=hd (show∀W,Below W0.heap.size W0 W->XA W (.slice T lt ct) t from fun W h=>⟨T,lt,ct,rfl,hlt,cY,hc3,HIT.o W h⟩);have ae:=hd (Below.refl W0.heap.size W0);have HW:=hd hW;have aB:=hd hb0;have HN:=hd hn;have aP:=hd hlq;have lJ:=hd hlt;have H4:=hd (zN2 pos);obtain⟨x0,x1,x2,x3⟩:=HK.o W0 ae.o;clear hp hq ht hW hb0 e0 hn hlq hlt;cases h1:jI p
 ·have HF:=hd (zEj (K:=5) (q:=q) (t:=t) (pos:=pos) (p:=p) (by rw[h1];rfl));have H1:=hd h1;clear h1;go_enter Tryz.func46,Tryz.ntmps46
  exact kOc
 have H1:=hd h1;cases h2:jI q
 ·have H2:=hd h2;have HF:=hd (zEj (K:=5) (q:=q) (t:=t) (pos:=pos) (p:=p) (by rw[h2];simp));clear h1 h2;go_enter Tryz.func46,Tryz.ntmps46
  exact kOc
 have H2:=hd h2;cases h3:jI t
 ·have H3:=hd h3;have HF:=hd (zEj (K:=5) (q:=q) (t:=t) (pos:=pos) (p:=p) (by rw[h3];simp));clear h1 h2 h3;go_enter Tryz.func46,Tryz.ntmps46
  exact kOc
 have H3:=hd h3;cases h4:zE9 pos
 ·have HF:=hd (zEj (K:=5) (q:=q) (t:=t) (pos:=pos) (p:=p) (by rw[h4];simp));rw[h4]at H4;clear h1 h2 h3 h4;go_enter Tryz.func46,Tryz.ntmps46
  exact kOc
 have HL:=hd (kIf (q:=q) (t:=t) (pos:=pos) (p:=p) (by rw[h1,h2,h3,h4];rfl));have gQ:=hd (And.intro h1 (And.intro h2 h3));rw[h4]at H4;have fE:=hd (zOk h1);have mE:=hd ((zDf q).1 h2);obtain⟨g0,g1⟩:=(zKd pos).1 h4;clear h1 h2 h3 h4;rcases lq with _|k
 ·have HF:=hd (show jF 5 q t pos p=(p,true) by rw[HL.o,if_neg (fun h=>h aP.o),kBn aP.o]);go_enter Tryz.func46,Tryz.ntmps46
  go_wp2_with(first
   |(go_at_call 82;(try rw[<-HW.o]);refine Calls.mono (zB3 (by first|exact HP.o _ ae.o|exact HQ.o _ ae.o|exact HT.o _ ae.o|exact zBf _ _ _) (by first|exact H1.o|exact H2.o|exact H3.o|exact H4.o)) ?_;rintro e w9 ⟨rfl,b9⟩;have ae:=hd (show Below W0.heap.size W0 w9 from by first|exact zI ae.o b9|exact zI (ae.o.alloc ae.o.size _) b9);clear b9 x0 x1 x2 x3;obtain⟨x0,x1,x2,x3⟩:=HK.o _ ae.o))
  exact kOc
 obtain⟨s,hs⟩:∃s,zX q p=s:=⟨_,rfl⟩;have HS:=hd hs;clear hs;go_enter Tryz.func46,Tryz.ntmps46
 go_upto_region 5 with(first
   |(go_at_call 82;(try rw[<-HW.o]);refine Calls.mono (zB3 (by first|exact HP.o _ ae.o|exact HQ.o _ ae.o|exact HT.o _ ae.o|exact zBf _ _ _) (by first|exact H1.o|exact H2.o|exact H3.o|exact H4.o)) ?_;rintro e w9 ⟨rfl,b9⟩;have ae:=hd (show Below W0.heap.size W0 w9 from by first|exact zI ae.o b9|exact zI (ae.o.alloc ae.o.size _) b9);clear b9 x0 x1 x2 x3;obtain⟨x0,x1,x2,x3⟩:=HK.o _ ae.o))
 have gH:=hd (fun j=>zQo (n:=j) (zVe (HQ.o _ (zZ ae.o j)) (HP.o _ (zZ ae.o j)) HS.o));go_quiet((go_at_call 84;exact gH.o _))
 generalize d7:World.drewN _ _=w5
 have ae:=hd (show Below W0.heap.size W0 w5 from d7▸zZ ae.o _);clear d7 x0 x1 x2 x3;obtain⟨x0,x1,x2,x3⟩:=HK.o _ ae.o;clear gH;have hs4:s=0∨s=1∨s=2∨s=3:=by
  have:=HS.o;rcases zAt q p with⟨h,_⟩|⟨h,_⟩|⟨h,_⟩|⟨h,_⟩<;>omega
 rcases hs4 with rfl|rfl|rfl|rfl
 ·have HF:=hd (show jF 5 q t pos p=jF 1 t [] 0 p by
   rw[HL.o,if_pos (by rw[aP.o];omega),if_neg (by rw[HS.o];decide),zJ9 (by rw[gQ.o.1,gQ.o.2.2];rfl) Kd];simp[jH,HS.o,aP.o])
  have HR:=hd (show jF 2 q [] 0 p=(p,true) by
   rw[zJ9 (by rw[gQ.o.1,gQ.o.2.1];rfl) Kd];simp[jH,HS.o,aP.o])
  have su:=hd (show p.length<=1000 by have:=HN.o;omega);exact kOc
 ·have HF:=hd (show jF 5 q t pos p=jF 1 t [] 0 (plusL p k [-1]) by
   have hx:=zXj gQ.o.1 gQ.o.2.1 HS.o;rw[aP.o,Nat.add_sub_cancel]at hx;rw[HL.o,if_pos (by rw[aP.o];omega),if_neg (by rw[HS.o];decide),zJ9 (by rw[hx,gQ.o.2.2];rfl) Kd];simp[jH,HS.o,aP.o])
  have HR:=hd (show jF 2 q [] 0 p=(plusL p k [-1],true) by
   rw[zJ9 (by rw[gQ.o.1,gQ.o.2.1];rfl) Kd];simp[jH,HS.o,aP.o])
  have su:=hd (show(plusL p k [-1]).length<=1000 by rw[zJf];have:=HN.o;omega);exact kOc
 ·exact kSj
 ·exact kSj
theorem kIh (hp:XA W u p)(hq:XA W qv q)(ht:XA W tv t)(hr:jF K q t pos p=r):
  Calls Tryz.prog 46 #[u,.agg #[.int .i64 K,qv,tv,.int .i64 pos,r4,r5,r6,r7,r8,r9,r10,r11,r12,r13,r14,r15,r16,r17,r18,r19,r20]] W (kBb W r):=by
 by_cases pL:K=5
 ·subst hr pL;obtain⟨A,n,c,rfl,h1,h2,h3,h4⟩:=hp;obtain⟨Q,lq,cq,rfl,g1,g2,g3,g4⟩:=hq;obtain⟨T,lt,ct,rfl,i1,i2,i3,i4⟩:=ht;exact kIg A Q T p q t n lq lt c cq ct pos r4 r5 r6 r7 r8 r9 r10 r11 r12 r13 r14 r15 r16 r17 r18 r19 r20 W h1 g1 i1 h2 g2 i2 h3 g3 i3 h4 g4 i4
 ·exact zR9 pL hp hq ht hr
theorem kBe {l r:List Int}{e:Int}(hp:XA W u l)(hb:∀k,k<l.length->0<=iAt l k/\iAt l k<=1048576)(hr:zBg l=(r,e)):Calls Tryz.prog 86 #[u] W (zOp W (r,e)):=by
 obtain⟨A,n,c,rfl,h1,h2,h4,h3⟩:=hp;rw[<-hr];exact zOq A l n c W h1 h2 (fun k hk=>by have:=hb k hk;omega) h3
theorem kEq {g:Nat}{t:TypeId}(h:w.heap[g]? =some (.cells #[x0,x1,x2,x3,r4,r5,r6,r7,r8,r9,r10,r11,r12,r13,r14,r15,r16,r17,r18,r19,r20] t (0,0))):w.rangeAt g 0 [x0,x1,x2,x3,r4,r5,r6,r7,r8,r9,r10,r11,r12,r13,r14,r15,r16,r17,r18,r19,r20]:=fun j v hv=>by
 rw[Nat.zero_add,cell_of_row _ _ j _ t (0,0) h];simpa using hv
theorem zK4 :∃d,Tryz.prog.underlying 35=some d/\d.isRow=true/\(Tryz.prog.info? 35).map (·.size)=some 21:=⟨.struct (Tryz.prog.fieldsOf 35),by kernel_rfl,rfl,by kernel_rfl⟩
theorem zNn {ops:Array Oper}{rest:List Oper}{op:Oper}{a:Act}{Q:Exit->Act->World->Prop}{g:Nat}{t:TypeId}(h:w.heap[g]? =some (.cells #[x0,x1,x2,x3,r4,r5,r6,r7,r8,r9,r10,r11,r12,r13,r14,r15,r16,r17,r18,r19,r20] t (0,0)))
  (x:Operand) (ho:op.op=.load 35 x) (hgd:op.guard=none) (hx:a.eval x=.pointer (some ⟨g,0,none⟩)) (hk:wpList Tryz.prog ops Q rest (a.put op.dst (.agg #[x0,x1,x2,x3,r4,r5,r6,r7,r8,r9,r10,r11,r12,r13,r14,r15,r16,r17,r18,r19,r20])) w):wpList Tryz.prog ops Q (op::rest) a w:=by
 obtain⟨d,h1,h2,h3⟩:=zK4;exact wpList_load_mid hgd 35 x ho g 0 hx [x0,x1,x2,x3,r4,r5,r6,r7,r8,r9,r10,r11,r12,r13,r14,r15,r16,r17,r18,r19,r20] d (kEq h) h1 h2 h3 hk
theorem zXk (W:World)(old cells:Array Value)(t:TypeId):(W.alloc (.cells old t)).setRow W.heap.size cells=W.alloc (.cells cells t):=by
 have hh:((W.alloc (.cells old t)).setRow W.heap.size cells).heap=(W.alloc (.cells cells t)).heap:=by
  apply Array.ext_getElem?;intro i;by_cases e:i=W.heap.size
  ·subst e;rw[setRow_heap _ _ old cells t (0,0) (heap_alloc_new _ _)];exact(heap_alloc_new _ _).symm
  ·rw[setRow_other _ _ _ _ e];show(W.heap.push _)[i]? =(W.heap.push _)[i]?
   rw[Array.getElem?_push,Array.getElem?_push,if_neg e,if_neg e]
 have h2:(W.alloc (.cells old t)).setRow W.heap.size cells={W.alloc (.cells cells t)with heap:=((W.alloc (.cells old t)).setRow W.heap.size cells).heap}:=rfl;rw[h2,hh]
