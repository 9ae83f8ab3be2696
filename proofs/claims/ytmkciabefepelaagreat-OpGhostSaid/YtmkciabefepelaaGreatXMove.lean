import Derived.Test.YtmkciabefepelaaGreatJXCalls
set_option maxRecDepth 100000
namespace Go.Proofs.YtmkciabefepelaaGreat
open Go.RowKit
variable {K pos:Int}{p q t:List Int}{P:Prop}
theorem zEj (h:(jI p&&jI q&&jI t&&zE9 pos)=false):jF K q t pos p=noR:=by unfold jF;rw[h];rfl
theorem zJ9 (h:(jI p&&jI q&&jI t&&zE9 pos)=true)(hK:K≠5):jF K q t pos p=jH K q pos p:=by unfold jF;rw[h,if_pos rfl,if_neg (fun h=>hK h.1)]
theorem kBn (h:q.length=0):jH K q pos p=(p,true):=by unfold jH;rw[if_pos h]
theorem zDw {s:Int}(h:zX q p=s)(hs:s≠0):q.length<=p.length:=by
 subst h;rcases zAt q p with⟨h0,h1,_,_⟩|⟨h0,_,h2,_⟩|⟨h0,_,_,h3⟩|⟨h0,_⟩
 ·rw[zEe]at h1;omega
 ·unfold zEd at h2;rw[of_decide_eq_true h2];exact Nat.le_refl _
 ·rw[zE0]at h3;omega
 ·exact absurd h0 hs
theorem zNg (h:zX q p=3):q.length<p.length:=by
 rcases zAt q p with⟨h0,_⟩|⟨h0,_⟩|⟨_,_,_,h3⟩|⟨h0,_⟩
 ·omega
 ·omega
 ·rw[zE0]at h3;omega
 ·omega
theorem kNv (h:P:=by
 go_wp2_with(first
  |(go_at_call 70;refine Calls.mono (zCb (k:=k) rfl (by first|exact HP.o _ ae.o|exact HP.o _ (ae.o.alloc ae.o.size _)) (by first|exact zCv _ _|exact zBf _ _ _|exact zDy _ _ _ _) (by first|exact fun h=>absurd rfl h|exact fun _=>qV.o|exact fun _=>gQ.o) (by exact f9.o) (by first|exact zBc|exact zBd Kb|exact zBe Kb Kb)) ?_;rintro e w9 ⟨v9,rfl,ho,b9⟩;have HO:=hd (ho.weaken (b':=w.heap.size) (by first|exact Nat.le_trans ay.o.size ae.o.size|exact Nat.le_trans ay.o.size (ae.o.alloc ae.o.size _).size));have bN:=hd (show Below W0.heap.size W0 w9 from by first|exact zI ae.o b9|exact zI (ae.o.alloc ae.o.size _) b9);clear b9 ho)
  |(go_at_call 70;refine Calls.mono (zCb (k:=0) rfl (by first|exact HP.o _ ae.o|exact HP.o _ (ae.o.alloc ae.o.size _)) (by first|exact zCv _ _|exact zBf _ _ _|exact zDy _ _ _ _) (by first|exact fun h=>absurd rfl h|exact fun _=>qV.o|exact fun _=>gQ.o) (by exact f9.o) (by first|exact zBc|exact zBd Kb|exact zBe Kb Kb)) ?_;rintro e w9 ⟨v9,rfl,ho,b9⟩;have HO:=hd (ho.weaken (b':=w.heap.size) (by first|exact Nat.le_trans ay.o.size ae.o.size|exact Nat.le_trans ay.o.size (ae.o.alloc ae.o.size _).size));have bN:=hd (show Below W0.heap.size W0 w9 from by first|exact zI ae.o b9|exact zI (ae.o.alloc ae.o.size _) b9);clear b9 ho)
  |(go_at_call 69;(try rw[<-HW.o]);refine Calls.mono (zB3 (by first|exact HP.o _ ae.o|exact HQ.o _ ae.o|exact HT.o _ ae.o|exact zBf _ _ _) (by first|exact H1.o|exact H2.o|exact H3.o|exact H4.o)) ?_;rintro e w9 ⟨rfl,b9⟩;have ae:=hd (show Below W0.heap.size W0 w9 from by first|exact zI ae.o b9|exact zI (ae.o.alloc ae.o.size _) b9);clear b9 x0 x1 x2 x3;obtain⟨x0,x1,x2,x3⟩:=HK.o _ ae.o)
  |fail)
 go_ret2
 first
  |exact kT HF.o (zBt.nil _ _) (ay.o.trans (ae.o.mono ay.o.size))
  |exact kT HF.o HO.o (ay.o.trans (bN.o.mono ay.o.size))
  |fail):P:=h
theorem kO9 (h:P:=by
 have qV:=hd (show k+1<=p.length by have h:=zDw HS.o Kd;have h2:=aQ.o;omega);have HF:=hd (show jF _ q t pos p=(plusL p k [1],true) by rw[HL.o];simp[jH,HS.o,aQ.o]);exact kNv):P:=h
theorem kRe (h:P:=by
 go_upto_region 12 with fail
 go_quiet(fail)
 generalize dz:World.drewN _ _=w5
 have ae:=hd (show Below W0.heap.size W0 w5 from dz▸zZ ae.o _);clear dz x0 x1 x2 x3;obtain⟨x0,x1,x2,x3⟩:=HK.o _ ae.o;have HF:=hd (show jF _ q t pos p=(p,true) by rw[HL.o];simp[jH,HS.o,aQ.o]);exact kNv):P:=h
theorem kRf (h:P:=by
 have qV:=hd (show k+1<=p.length by have h:=zDw HS.o Kd;have h2:=aQ.o;omega);have HF:=hd (show jF _ q t pos p=(plusL p k [-1],true) by rw[HL.o];simp[jH,HS.o,aQ.o,lastL,HZ.o]);exact kNv):P:=h
set_option maxHeartbeats 8000000 in
theorem kIz (A Q T:Option Addr)(p q t:List Int)(n lq lt c cq ct:Nat)(K pos:Int)(r4 r5 r6 r7 r8 r9 r10 r11 r12 r13 r14 r15 r16 r17 r18 r19 r20:Value)(w:World)(hn:p.length=n)(hlq:q.length=lq)(hlt:t.length=lt)(hl:n<=1000)(hl2:lq<=1000)(cM:lt<=1000)(hc:n<=c)(hc2:lq<=cq)(hc3:lt<=ct)(nO:K≠5)(hp:IL w w.heap.size A p)(hq:IL w w.heap.size Q q)(ht:IL w w.heap.size T t):
  Calls Tryz.prog 26 #[.slice A n c,.agg #[.int .i64 K,.slice Q lq cq,.slice T lt ct,.int .i64 pos,r4,r5,r6,r7,r8,r9,r10,r11,r12,r13,r14,r15,r16,r17,r18,r19,r20]] w (kBb w (jF K q t pos p)):=by
 obtain⟨W0,hW⟩:∃W0,W0=w.alloc (.cells #[Value.int .i64 K,.slice Q lq cq,.slice T lt ct,.int .i64 pos,r4,r5,r6,r7,r8,r9,r10,r11,r12,r13,r14,r15,r16,r17,r18,r19,r20] 35):=⟨_,rfl⟩;have hb0:Below w.heap.size w W0:=hW▸zQ w _;have e0:W0.heap[w.heap.size]? =some (.cells #[Value.int .i64 K,.slice Q lq cq,.slice T lt ct,.int .i64 pos,r4,r5,r6,r7,r8,r9,r10,r11,r12,r13,r14,r15,r16,r17,r18,r19,r20] 35 (0,0)):=hW▸heap_alloc_new _ _;have HK:=hd (show∀W,Below W0.heap.size W0 W->(W.cell? ⟨w.heap.size,0,none⟩=some (.int .i64 K)/\W.cell? ⟨w.heap.size,1,none⟩=some (.slice Q lq cq)/\W.cell? ⟨w.heap.size,2,none⟩=some (.slice T lt ct)/\W.cell? ⟨w.heap.size,3,none⟩=some (.int .i64 pos))from fun W h=>zD9 (zI1 e0 h));have gP:=hd (fun W(h:Below W0.heap.size W0 W)=>hp.later (hb0.trans (h.mono hb0.size)));have qT:=hd (fun W(h:Below W0.heap.size W0 W)=>hq.later (hb0.trans (h.mono hb0.size)));have HIT:=hd (fun W(h:Below W0.heap.size W0 W)=>ht.later (hb0.trans (h.mono hb0.size)));have HP:=hd (show∀W,Below W0.heap.size W0 W->XA W (.slice A n c) p from fun W h=>⟨A,n,c,rfl,hn,hl,hc,gP.o W h⟩);have HQ:=hd (show∀W,Below W0.heap.size W0 W->XA W (.slice Q lq cq) q from fun W h=>⟨Q,lq,cq,rfl,hlq,hl2,hc2,qT.o W h⟩);have HT:=hd (show∀W,Below W0.heap.size W0 W->XA W (.slice T lt ct) t from fun W h=>⟨T,lt,ct,rfl,hlt,cM,hc3,HIT.o W h⟩);have ae:=hd (Below.refl W0.heap.size W0);have HW:=hd hW;have ay:=hd hb0;have HN:=hd hn;have aQ:=hd hlq;have j6:=hd hlt;have H4:=hd (zN2 pos);obtain⟨x0,x1,x2,x3⟩:=HK.o W0 ae.o;clear hp hq ht hW hb0 e0 hn hlq hlt;cases h1:jI p
 ·have HF:=hd (zEj (K:=K) (q:=q) (t:=t) (pos:=pos) (p:=p) (by rw[h1];rfl));have H1:=hd h1;clear h1;go_enter Tryz.func26,Tryz.ntmps26
  exact kNv
 have H1:=hd h1;cases h2:jI q
 ·have H2:=hd h2;have HF:=hd (zEj (K:=K) (q:=q) (t:=t) (pos:=pos) (p:=p) (by rw[h2];simp));clear h1 h2;go_enter Tryz.func26,Tryz.ntmps26
  exact kNv
 have H2:=hd h2;cases h3:jI t
 ·have H3:=hd h3;have HF:=hd (zEj (K:=K) (q:=q) (t:=t) (pos:=pos) (p:=p) (by rw[h3];simp));clear h1 h2 h3;go_enter Tryz.func26,Tryz.ntmps26
  exact kNv
 have H3:=hd h3;cases h4:zE9 pos
 ·have HF:=hd (zEj (K:=K) (q:=q) (t:=t) (pos:=pos) (p:=p) (by rw[h4];simp));rw[h4]at H4;clear h1 h2 h3 h4;go_enter Tryz.func26,Tryz.ntmps26
  exact kNv
 have HL:=hd (zJ9 (K:=K) (q:=q) (t:=t) (pos:=pos) (p:=p) (by rw[h1,h2,h3,h4];rfl) nO);rw[h4]at H4;have f9:=hd (zOk h1);have Ds:=hd ((zDf q).1 h2);obtain⟨g0,g1⟩:=(zKd pos).1 h4;clear h1 h2 h3 h4;rcases lq with _|k
 ·have HF:=hd (show jF K q t pos p=(p,true) by rw[HL.o,kBn aQ.o]);go_enter Tryz.func26,Tryz.ntmps26
  go_wp2_with(first
   |(go_at_call 69;(try rw[<-HW.o]);refine Calls.mono (zB3 (by first|exact HP.o _ ae.o|exact HQ.o _ ae.o|exact HT.o _ ae.o|exact zBf _ _ _) (by first|exact H1.o|exact H2.o|exact H3.o|exact H4.o)) ?_;rintro e w9 ⟨rfl,b9⟩;have ae:=hd (show Below W0.heap.size W0 w9 from by first|exact zI ae.o b9|exact zI (ae.o.alloc ae.o.size _) b9);clear b9 x0 x1 x2 x3;obtain⟨x0,x1,x2,x3⟩:=HK.o _ ae.o))
  exact kNv
 obtain⟨s,hs⟩:∃s,zX q p=s:=⟨_,rfl⟩;have HS:=hd hs;clear hs;go_enter Tryz.func26,Tryz.ntmps26
 go_upto_region 5 with(first
   |(go_at_call 69;(try rw[<-HW.o]);refine Calls.mono (zB3 (by first|exact HP.o _ ae.o|exact HQ.o _ ae.o|exact HT.o _ ae.o|exact zBf _ _ _) (by first|exact H1.o|exact H2.o|exact H3.o|exact H4.o)) ?_;rintro e w9 ⟨rfl,b9⟩;have ae:=hd (show Below W0.heap.size W0 w9 from by first|exact zI ae.o b9|exact zI (ae.o.alloc ae.o.size _) b9);clear b9 x0 x1 x2 x3;obtain⟨x0,x1,x2,x3⟩:=HK.o _ ae.o))
 have bv:=hd (fun j=>zQo (n:=j) (zVe (HQ.o _ (zZ ae.o j)) (HP.o _ (zZ ae.o j)) HS.o));go_quiet((go_at_call 71;exact bv.o _))
 generalize dz:World.drewN _ _=w5
 have ae:=hd (show Below W0.heap.size W0 w5 from dz▸zZ ae.o _);clear dz x0 x1 x2 x3;obtain⟨x0,x1,x2,x3⟩:=HK.o _ ae.o;clear bv;have hs4:s=0∨s=1∨s=2∨s=3:=by
  have:=HS.o;rcases zAt q p with⟨h,_⟩|⟨h,_⟩|⟨h,_⟩|⟨h,_⟩<;>omega
 by_cases hK4:K=4
 ·subst hK4;rcases hs4 with rfl|rfl|rfl|rfl
  ·exact kRe
  ·go_upto_region 12 with fail
   go_quiet(fail)
   generalize dz:World.drewN _ _=w5
   have ae:=hd (show Below W0.heap.size W0 w5 from dz▸zZ ae.o _);clear dz x0 x1 x2 x3;obtain⟨x0,x1,x2,x3⟩:=HK.o _ ae.o;exact kO9
  ·exact kRe
  ·have gQ:=hd (show k+2<=p.length by have h:=zNg HS.o;have h2:=aQ.o;omega);obtain⟨b1,o1,rfl,hb1,e1⟩:=(gP.o w5 ae.o).at_ (show k+1<p.length from gQ.o);have hkn:k+1<n:=by have h:=gQ.o;have h2:=HN.o;omega
   by_cases im:pos<=iAt p (k+1)
   ·go_upto_region 12 with fail
    go_quiet(fail)
    generalize dz:World.drewN _ _=w5
    have ae:=hd (show Below W0.heap.size W0 w5 from dz▸zZ ae.o _);clear dz x0 x1 x2 x3;obtain⟨x0,x1,x2,x3⟩:=HK.o _ ae.o;have HF:=hd (show jF _ q t pos p=(plusL p k [1,-pos],true) by rw[HL.o];simp[jH,HS.o,aQ.o,im]);exact kNv
   ·have Ev:decide (pos<=iAt p (k+1))=false:=decide_eq_false im;have aM:=hd im;clear im;go_upto_region 12 with fail
    go_quiet(fail)
    generalize dz:World.drewN _ _=w5
    have ae:=hd (show Below W0.heap.size W0 w5 from dz▸zZ ae.o _);clear dz x0 x1 x2 x3;obtain⟨x0,x1,x2,x3⟩:=HK.o _ ae.o;have HF:=hd (show jF _ q t pos p=(p,true) by rw[HL.o];simp[jH,HS.o,aQ.o,aM.o]);exact kNv
 by_cases uQ:K=1
 ·subst uQ;rcases hs4 with rfl|rfl|rfl|rfl
  ·have HF:=hd (show jF _ q t pos p=(p,true) by rw[HL.o];simp[jH,HS.o,aQ.o]);exact kNv
  ·exact kO9
  ·exact kO9
  ·exact kO9
 by_cases hK3:K=3
 ·subst hK3;obtain⟨b1,o1,rfl,hb1,e1⟩:=(qT.o w5 ae.o).at_ (show k<q.length by have:=aQ.o;omega);by_cases hz:iAt q k=0
  ·have hz':(iAt q k==0)=true:=by simp[hz]
   have HF:=hd (show jF 3 q t pos p=noR by rw[HL.o];simp[jH,lastL,aQ.o,hz]);clear hz hs4;go_wp2
   go_ret2
   exact kT HF.o (zBt.nil _ _) (ay.o.trans (ae.o.mono ay.o.size))
  have hz':(iAt q k==0)=false:=by simp[hz]
  have HZ:=hd hz;clear hz;rcases hs4 with rfl|rfl|rfl|rfl
  ·have HF:=hd (show jF _ q t pos p=(p,true) by rw[HL.o];simp[jH,HS.o,aQ.o,lastL,HZ.o]);exact kNv
  ·exact kRf
  ·exact kRf
  ·have gQ:=hd (show k+2<=p.length by have h:=zNg HS.o;have h2:=aQ.o;omega);have HF:=hd (show jF _ q t pos p=(plusL p k [-1,pos],true) by rw[HL.o];simp[jH,HS.o,aQ.o,lastL,HZ.o]);exact kNv
 by_cases hK2:K=2
 ·subst hK2;rcases hs4 with rfl|rfl|rfl|rfl
  ·have HF:=hd (show jF _ q t pos p=(p,true) by rw[HL.o];simp[jH,HS.o,aQ.o]);exact kNv
  ·have qV:=hd (show k+1<=p.length by have h:=zDw HS.o Kd;have h2:=aQ.o;omega);have HF:=hd (show jF _ q t pos p=(plusL p k [-1],true) by rw[HL.o];simp[jH,HS.o,aQ.o]);exact kNv
  ·have HF:=hd (show jF 2 q t pos p=noR by rw[HL.o];simp[jH,HS.o,aQ.o]);go_wp2
   go_ret2
   exact kT HF.o (zBt.nil _ _) (ay.o.trans (ae.o.mono ay.o.size))
  ·have HF:=hd (show jF 2 q t pos p=noR by rw[HL.o];simp[jH,HS.o,aQ.o]);go_wp2
   go_ret2
   exact kT HF.o (zBt.nil _ _) (ay.o.trans (ae.o.mono ay.o.size))
 have k1:(K==1)=false:=by simp[uQ]
 have k2:(K==2)=false:=by simp[hK2]
 have k3:(K==3)=false:=by simp[hK3]
 have k4:(K==4)=false:=by simp[hK4]
 have k5:(K==5)=false:=by simp[nO]
 have HF:=hd (show jF K q t pos p=(p,true) by rw[HL.o];simp[jH,uQ,hK2,hK3,hK4]);clear hs4 uQ hK2 hK3 hK4 nO
 go_wp2_with(first
       |(go_at_call 70;refine Calls.mono (zCb (k:=k) rfl (by first|exact HP.o _ ae.o|exact HP.o _ (ae.o.alloc ae.o.size _)) (by first|exact zCv _ _|exact zBf _ _ _|exact zDy _ _ _ _) (by first|exact fun h=>absurd rfl h|exact fun _=>qV.o|exact fun _=>gQ.o) (by exact f9.o) (by first|exact zBc|exact zBd Kb|exact zBe Kb Kb)) ?_;rintro e w9 ⟨v9,rfl,ho,b9⟩;have HO:=hd (ho.weaken (b':=w.heap.size) (by first|exact Nat.le_trans ay.o.size ae.o.size|exact Nat.le_trans ay.o.size (ae.o.alloc ae.o.size _).size));have bN:=hd (show Below W0.heap.size W0 w9 from by first|exact zI ae.o b9|exact zI (ae.o.alloc ae.o.size _) b9);clear b9 ho))
 go_ret2
 exact kT HF.o HO.o (ay.o.trans (bN.o.mono ay.o.size))
