import Derived.Test.YtmglnjmnabjjgaaGreatJXOps
set_option maxRecDepth 100000
namespace Go.Proofs.YtmglnjmnabjjgaaGreat
open Go.RowKit
variable {K pos x y:Int}{l p q:List Int}{t:TypeId}{qv r10 r11 r12 r13 r14 r15 r16 r17 r18 r19 r20 r4 r5 r6 r7 r8 r9 tv u x0 x1 x2 x3:Value}{r:List Int×Bool}{ops:Array Oper}{rest:List Oper}{op:Oper}{a:Act}{is:Bool}{A B:Option Addr}{s:Sl}{fn:Func}
theorem kIf {t:List Int}(h:(jI p&&jI q&&jI t&&zE9 pos)=true):jF 5 q t pos p=if q.length≠0 then(if zX q p=2∨zX q p=3 then(t++p.drop q.length,true)else jH 1 t 0 (jH 2 q 0 p).1)else jH 5 q pos p:=by
 unfold jF;rw[h,if_pos rfl];by_cases h:q.length=0
 ·rw[if_neg (fun x=>x.2 h),if_neg (fun x=>x h)]
 ·rw[if_pos ⟨rfl,h⟩,if_pos h]
theorem zXj (hp:jI p=true)(hq:jI q=true)(hs:zX q p=1):jI (plusL p (q.length-1) [-1])=true:=by
 rw[zIv,zEe]at hs;obtain⟨h1,h2,h3⟩:=hs;rw[zDf]at*;intro k hk;rw[zJf]at hk;simp only[plusL];have hk1:=hp k hk;by_cases e:k=q.length-1
 ·have:=hq (q.length-1) Kb;rw[show kO q p=q.length-1 by omega]at h3;subst e;rw[zSv _ _ _ hk];omega
 ·rw[zYu _ _ _ _ e];exact hk1
theorem zR9 {W:World}{t:List Int}(lh:K≠5)(hp:XA W u p)(hq:XA W qv q)(ht:XA W tv t)(hr:jF K q t pos p=r):
  Calls Tryz.prog 46 #[u,.agg #[.int .i64 K,qv,tv,.int .i64 pos,r4,r5,r6,r7,r8,r9,r10,r11,r12,r13,r14,r15,r16,r17,r18,r19,r20]] W (kBb W r):=by
 subst hr;obtain⟨A,n,c,rfl,h1,h2,h3,h4⟩:=hp;obtain⟨Q,lq,cq,rfl,g1,g2,g3,g4⟩:=hq;obtain⟨T,lt,ct,rfl,i1,i2,i3,i4⟩:=ht;exact kIz A Q T p q t n lq lt c cq ct K pos r4 r5 r6 r7 r8 r9 r10 r11 r12 r13 r14 r15 r16 r17 r18 r19 r20 W h1 g1 i1 h2 g2 i2 h3 g3 i3 lh h4 g4 i4
theorem kN0 {P:Prop}(h:P:=by
 go_wp2_with(first
  |(go_at_call 85;refine Calls.mono (kBc T D t (p.drop (k+1)) lt (n-(k+1)) ct (c-(k+1)) w5.drew _ _ rfl eX.o yr.o cj Kb (HIT.o w5 ac.o) HD.o) ?_;rintro e w9 ⟨v9,rfl,ho,b9⟩;have HO:=hd (ho.weaken (b':=w.heap.size) (Nat.le_trans ar.o.size ac.o.size));have aH:=hd (zI ac.o ((zZ Kk 1).trans b9));clear ho b9)
  |(go_at_call 83;refine Calls.mono (zCb (k:=0) rfl (by first|exact HP.o _ ac.o|exact HP.o _ (ac.o.alloc ac.o.size _)) (by first|exact zCv _ _|exact zBf _ _ _|exact zDy _ _ _ _) (by first|exact fun h=>absurd rfl h|exact fun _=>nG.o|exact fun _=>fB.o) (by exact dO.o) (by first|exact zBc|exact zBd Kb|exact zBe Kb Kb)) ?_;rintro e w9 ⟨v9,rfl,ho,b9⟩;have HO:=hd (ho.weaken (b':=w.heap.size) (by first|exact Nat.le_trans ar.o.size ac.o.size|exact Nat.le_trans ar.o.size (ac.o.alloc ac.o.size _).size));have aH:=hd (show Below W0.heap.size W0 w9 from by first|exact zI ac.o b9|exact zI (ac.o.alloc ac.o.size _) b9);clear b9 ho)
  |(go_at_call 82;(try rw[<-HW.o]);refine Calls.mono (zB3 (by first|exact HP.o _ ac.o|exact HQ.o _ ac.o|exact HT.o _ ac.o|exact zBf _ _ _) (by first|exact H1.o|exact H2.o|exact H3.o|exact H4.o)) ?_;rintro e w9 ⟨rfl,b9⟩;have ac:=hd (show Below W0.heap.size W0 w9 from by first|exact zI ac.o b9|exact zI (ac.o.alloc ac.o.size _) b9);clear b9 x0 x1 x2 x3;obtain⟨x0,x1,x2,x3⟩:=HK.o _ ac.o)
  |(go_at_call 46;have _g:=bN;refine Calls.mono (zR9 Kd yt.o (HT.o _ ac.o) (zCv _ _) rfl) ?_;rintro e w9 ⟨v9,rfl,ho,b9⟩;have HO:=hd (ho.weaken (b':=w.heap.size) (Nat.le_trans ar.o.size ac.o.size));have aH:=hd (zI ac.o b9);clear ho b9)
  |(go_at_call 46;refine Calls.mono (zR9 Kd (HP.o _ ac.o) (HQ.o _ ac.o) (zCv _ _) HR.o) ?_;rintro e w9 ⟨v9,rfl,ho,b9⟩;have yt:=hd (XA.own ho qg.o);have ac:=hd (zI ac.o b9);have bN:=trivial;clear ho b9 x0 x1 x2 x3;obtain⟨x0,x1,x2,x3⟩:=HK.o _ ac.o)
  |fail)
 go_ret2
 first
  |exact kT HF.o (zBt.nil _ _) (ar.o.trans (ac.o.mono ar.o.size))
  |exact kT HF.o HO.o (ar.o.trans (aH.o.mono ar.o.size))
  |fail):P:=h
theorem kQd {P:Prop}(h:P:=by
 have hkn:k+1<=n:=by have h:=zDw HS.o Kd;have h2:=bj.o;have h3:=HN.o;omega
 obtain⟨D,hD,hrun⟩:=kBd A n c (k+1) hkn hc;simp only[Int.natCast_add,Int.cast_ofNat_Int]at hrun;have HD:=hd (hD w5.drew w5.heap.size p (fU.o w5 ac.o) HN.o);have HF:=hd (show jF 5 q t pos p=(t++p.drop (k+1),true) by rw[HL.o,if_pos (by rw[bj.o];omega),if_pos (by rw[HS.o];decide),bj.o]);have yr:=hd (show(p.drop (k+1)).length=n-(k+1) by rw[List.length_drop,HN.o]);clear hD;go_upto_region 29 with fail
 go_still_tail 6,Ka
 exact kN0):P:=h
set_option maxHeartbeats 8000000 in
theorem kIg (A Q T:Option Addr)(p q t:List Int)(n lq lt c cq ct:Nat)(pos:Int)(r4 r5 r6 r7 r8 r9 r10 r11 r12 r13 r14 r15 r16 r17 r18 r19 r20:Value)(w:World)(hn:p.length=n)(hlq:q.length=lq)(hlt:t.length=lt)(hl:n<=1000)(hl2:lq<=1000)(cj:lt<=1000)(hc:n<=c)(hc2:lq<=cq)(hc3:lt<=ct)(hp:IL w w.heap.size A p)(hq:IL w w.heap.size Q q)(ht:IL w w.heap.size T t):
  Calls Tryz.prog 46 #[.slice A n c,.agg #[.int .i64 5,.slice Q lq cq,.slice T lt ct,.int .i64 pos,r4,r5,r6,r7,r8,r9,r10,r11,r12,r13,r14,r15,r16,r17,r18,r19,r20]] w (kBb w (jF 5 q t pos p)):=by
 obtain⟨W0,hW⟩:∃W0,W0=w.alloc (.cells #[Value.int .i64 5,.slice Q lq cq,.slice T lt ct,.int .i64 pos,r4,r5,r6,r7,r8,r9,r10,r11,r12,r13,r14,r15,r16,r17,r18,r19,r20] 35):=⟨_,rfl⟩;have hb0:Below w.heap.size w W0:=hW▸zQ w _;have e0:W0.heap[w.heap.size]? =some (.cells #[Value.int .i64 5,.slice Q lq cq,.slice T lt ct,.int .i64 pos,r4,r5,r6,r7,r8,r9,r10,r11,r12,r13,r14,r15,r16,r17,r18,r19,r20] 35 (0,0)):=hW▸heap_alloc_new _ _;have HK:=hd (show∀W,Below W0.heap.size W0 W->(W.cell? ⟨w.heap.size,0,none⟩=some (.int .i64 5)/\W.cell? ⟨w.heap.size,1,none⟩=some (.slice Q lq cq)/\W.cell? ⟨w.heap.size,2,none⟩=some (.slice T lt ct)/\W.cell? ⟨w.heap.size,3,none⟩=some (.int .i64 pos))from fun W h=>zD9 (zI1 e0 h));have fU:=hd (fun W(h:Below W0.heap.size W0 W)=>hp.later (hb0.trans (h.mono hb0.size)));have nH:=hd (fun W(h:Below W0.heap.size W0 W)=>hq.later (hb0.trans (h.mono hb0.size)));have HIT:=hd (fun W(h:Below W0.heap.size W0 W)=>ht.later (hb0.trans (h.mono hb0.size)));have HP:=hd (show∀W,Below W0.heap.size W0 W->XA W (.slice A n c) p from fun W h=>⟨A,n,c,rfl,hn,hl,hc,fU.o W h⟩);have HQ:=hd (show∀W,Below W0.heap.size W0 W->XA W (.slice Q lq cq) q from fun W h=>⟨Q,lq,cq,rfl,hlq,hl2,hc2,nH.o W h⟩);have HT:=hd (show∀W,Below W0.heap.size W0 W->XA W (.slice T lt ct) t from fun W h=>⟨T,lt,ct,rfl,hlt,cj,hc3,HIT.o W h⟩);have ac:=hd (Below.refl W0.heap.size W0);have HW:=hd hW;have ar:=hd hb0;have HN:=hd hn;have bj:=hd hlq;have eX:=hd hlt;have H4:=hd (zN2 pos);obtain⟨x0,x1,x2,x3⟩:=HK.o W0 ac.o;clear hp hq ht hW hb0 e0 hn hlq hlt;cases h1:jI p
 ·have HF:=hd (zEj (K:=5) (q:=q) (t:=t) (pos:=pos) (p:=p) (by rw[h1];rfl));have H1:=hd h1;clear h1;go_enter Tryz.func46,Tryz.ntmps46
  exact kN0
 have H1:=hd h1;cases h2:jI q
 ·have H2:=hd h2;have HF:=hd (zEj (K:=5) (q:=q) (t:=t) (pos:=pos) (p:=p) (by rw[h2];simp));clear h1 h2;go_enter Tryz.func46,Tryz.ntmps46
  exact kN0
 have H2:=hd h2;cases h3:jI t
 ·have H3:=hd h3;have HF:=hd (zEj (K:=5) (q:=q) (t:=t) (pos:=pos) (p:=p) (by rw[h3];simp));clear h1 h2 h3;go_enter Tryz.func46,Tryz.ntmps46
  exact kN0
 have H3:=hd h3;cases h4:zE9 pos
 ·have HF:=hd (zEj (K:=5) (q:=q) (t:=t) (pos:=pos) (p:=p) (by rw[h4];simp));rw[h4]at H4;clear h1 h2 h3 h4;go_enter Tryz.func46,Tryz.ntmps46
  exact kN0
 have HL:=hd (kIf (q:=q) (t:=t) (pos:=pos) (p:=p) (by rw[h1,h2,h3,h4];rfl));have eW:=hd (And.intro h1 (And.intro h2 h3));rw[h4]at H4;have dO:=hd (zOk h1);have yu:=hd ((zDf q).1 h2);obtain⟨g0,g1⟩:=(zKd pos).1 h4;clear h1 h2 h3 h4;rcases lq with _|k
 ·have HF:=hd (show jF 5 q t pos p=(p,true) by rw[HL.o,if_neg (fun h=>h bj.o),kBn bj.o]);go_enter Tryz.func46,Tryz.ntmps46
  go_wp2_with(first
   |(go_at_call 82;(try rw[<-HW.o]);refine Calls.mono (zB3 (by first|exact HP.o _ ac.o|exact HQ.o _ ac.o|exact HT.o _ ac.o|exact zBf _ _ _) (by first|exact H1.o|exact H2.o|exact H3.o|exact H4.o)) ?_;rintro e w9 ⟨rfl,b9⟩;have ac:=hd (show Below W0.heap.size W0 w9 from by first|exact zI ac.o b9|exact zI (ac.o.alloc ac.o.size _) b9);clear b9 x0 x1 x2 x3;obtain⟨x0,x1,x2,x3⟩:=HK.o _ ac.o))
  exact kN0
 obtain⟨s,hs⟩:∃s,zX q p=s:=⟨_,rfl⟩;have HS:=hd hs;clear hs;go_enter Tryz.func46,Tryz.ntmps46
 go_upto_region 5 with(first
   |(go_at_call 82;(try rw[<-HW.o]);refine Calls.mono (zB3 (by first|exact HP.o _ ac.o|exact HQ.o _ ac.o|exact HT.o _ ac.o|exact zBf _ _ _) (by first|exact H1.o|exact H2.o|exact H3.o|exact H4.o)) ?_;rintro e w9 ⟨rfl,b9⟩;have ac:=hd (show Below W0.heap.size W0 w9 from by first|exact zI ac.o b9|exact zI (ac.o.alloc ac.o.size _) b9);clear b9 x0 x1 x2 x3;obtain⟨x0,x1,x2,x3⟩:=HK.o _ ac.o))
 have cI:=hd (fun j=>zQo (n:=j) (zVe (HQ.o _ (zZ ac.o j)) (HP.o _ (zZ ac.o j)) HS.o));go_quiet((go_at_call 84;exact cI.o _))
 generalize cK:World.drewN _ _=w5
 have ac:=hd (show Below W0.heap.size W0 w5 from cK▸zZ ac.o _);clear cK x0 x1 x2 x3;obtain⟨x0,x1,x2,x3⟩:=HK.o _ ac.o;clear cI;have hs4:s=0∨s=1∨s=2∨s=3:=by
  have:=HS.o;rcases zAt q p with⟨h,_⟩|⟨h,_⟩|⟨h,_⟩|⟨h,_⟩<;>omega
 rcases hs4 with rfl|rfl|rfl|rfl
 ·have HF:=hd (show jF 5 q t pos p=jF 1 t [] 0 p by
   rw[HL.o,if_pos (by rw[bj.o];omega),if_neg (by rw[HS.o];decide),zJ9 (by rw[eW.o.1,eW.o.2.2];rfl) Kd];simp[jH,HS.o,bj.o])
  have HR:=hd (show jF 2 q [] 0 p=(p,true) by
   rw[zJ9 (by rw[eW.o.1,eW.o.2.1];rfl) Kd];simp[jH,HS.o,bj.o])
  have qg:=hd (show p.length<=1000 by have:=HN.o;omega);exact kN0
 ·have HF:=hd (show jF 5 q t pos p=jF 1 t [] 0 (plusL p k [-1]) by
   have hx:=zXj eW.o.1 eW.o.2.1 HS.o;rw[bj.o,Nat.add_sub_cancel]at hx;rw[HL.o,if_pos (by rw[bj.o];omega),if_neg (by rw[HS.o];decide),zJ9 (by rw[hx,eW.o.2.2];rfl) Kd];simp[jH,HS.o,bj.o])
  have HR:=hd (show jF 2 q [] 0 p=(plusL p k [-1],true) by
   rw[zJ9 (by rw[eW.o.1,eW.o.2.1];rfl) Kd];simp[jH,HS.o,bj.o])
  have qg:=hd (show(plusL p k [-1]).length<=1000 by rw[zJf];have:=HN.o;omega);exact kN0
 ·exact kQd
 ·exact kQd
theorem kIh {W:World}{t:List Int}(hp:XA W u p)(hq:XA W qv q)(ht:XA W tv t)(hr:jF K q t pos p=r):
  Calls Tryz.prog 46 #[u,.agg #[.int .i64 K,qv,tv,.int .i64 pos,r4,r5,r6,r7,r8,r9,r10,r11,r12,r13,r14,r15,r16,r17,r18,r19,r20]] W (kBb W r):=by
 by_cases lh:K=5
 ·subst hr lh;obtain⟨A,n,c,rfl,h1,h2,h3,h4⟩:=hp;obtain⟨Q,lq,cq,rfl,g1,g2,g3,g4⟩:=hq;obtain⟨T,lt,ct,rfl,i1,i2,i3,i4⟩:=ht;exact kIg A Q T p q t n lq lt c cq ct pos r4 r5 r6 r7 r8 r9 r10 r11 r12 r13 r14 r15 r16 r17 r18 r19 r20 W h1 g1 i1 h2 g2 i2 h3 g3 i3 h4 g4 i4
 ·exact zR9 lh hp hq ht hr
theorem kBe {W:World}{r:List Int}{e:Int}(hp:XA W u l)(hb:∀k,k<l.length->0<=iAt l k/\iAt l k<=1048576)(hr:zBg l=(r,e)):Calls Tryz.prog 86 #[u] W (zOp W (r,e)):=by
 obtain⟨A,n,c,rfl,h1,h2,h4,h3⟩:=hp;rw[<-hr];exact zOq A l n c W h1 h2 (fun k hk=>by have:=hb k hk;omega) h3
theorem kEq {w:World}{g:Nat}(h:w.heap[g]? =some (.cells #[x0,x1,x2,x3,r4,r5,r6,r7,r8,r9,r10,r11,r12,r13,r14,r15,r16,r17,r18,r19,r20] t (0,0))):w.rangeAt g 0 [x0,x1,x2,x3,r4,r5,r6,r7,r8,r9,r10,r11,r12,r13,r14,r15,r16,r17,r18,r19,r20]:=fun j v hv=>by
 rw[Nat.zero_add,cell_of_row _ _ j _ t (0,0) h];simpa using hv
theorem zK4 :∃d,Tryz.prog.underlying 35=some d/\d.isRow=true/\(Tryz.prog.info? 35).map (·.size)=some 21:=⟨.struct (Tryz.prog.fieldsOf 35),by kernel_rfl,rfl,by kernel_rfl⟩
theorem zNn {w:World}{Q:Exit->Act->World->Prop}{g:Nat}(h:w.heap[g]? =some (.cells #[x0,x1,x2,x3,r4,r5,r6,r7,r8,r9,r10,r11,r12,r13,r14,r15,r16,r17,r18,r19,r20] t (0,0)))
  (x:Operand) (ho:op.op=.load 35 x) (hgd:op.guard=none) (hx:a.eval x=.pointer (some ⟨g,0,none⟩)) (hk:wpList Tryz.prog ops Q rest (a.put op.dst (.agg #[x0,x1,x2,x3,r4,r5,r6,r7,r8,r9,r10,r11,r12,r13,r14,r15,r16,r17,r18,r19,r20])) w):wpList Tryz.prog ops Q (op::rest) a w:=by
 obtain⟨d,h1,h2,h3⟩:=zK4;exact wpList_load_mid hgd 35 x ho g 0 hx [x0,x1,x2,x3,r4,r5,r6,r7,r8,r9,r10,r11,r12,r13,r14,r15,r16,r17,r18,r19,r20] d (kEq h) h1 h2 h3 hk
theorem zXk (W:World)(old cells:Array Value)(t:TypeId):(W.alloc (.cells old t)).setRow W.heap.size cells=W.alloc (.cells cells t):=by
 have hh:((W.alloc (.cells old t)).setRow W.heap.size cells).heap=(W.alloc (.cells cells t)).heap:=by
  apply Array.ext_getElem?;intro i;by_cases e:i=W.heap.size
  ·subst e;rw[setRow_heap _ _ old cells t (0,0) (heap_alloc_new _ _)];exact(heap_alloc_new _ _).symm
  ·rw[setRow_other _ _ _ _ e];show(W.heap.push _)[i]? =(W.heap.push _)[i]?
   rw[Array.getElem?_push,Array.getElem?_push,if_neg e,if_neg e]
 have h2:(W.alloc (.cells old t)).setRow W.heap.size cells={W.alloc (.cells cells t)with heap:=((W.alloc (.cells old t)).setRow W.heap.size cells).heap}:=rfl;rw[h2,hh]
structure OC where
 k:Int
 Q:Option Addr
 lq:Nat
 cq:Nat
 T:Option Addr
 lt:Nat
 ct:Nat
 z:Int
 lf:Bool
 P:Option Addr
 np:Nat
 pc:Nat
 X:Option Addr
 nt:Nat
 tc:Nat
 K:Option Addr
 nk:Nat
 kc:Nat
 O:Option Addr
 no:Nat
 co:Nat
 W:Option Addr
 nw:Nat
 cw:Nat
 S:Option Addr
 nx:Nat
 cx:Nat
 fi:Bool
 F1:Option Addr
 f1:Nat
 d1:Nat
 fo:Int
 F2:Option Addr
 f2:Nat
 d2:Nat
 fp:Int
 gi:Bool
 G1:Option Addr
 g1:Nat
 e1:Nat
 go:Int
 G2:Option Addr
 g2:Nat
 e2:Nat
 gp:Int
def OC.row (c:OC):Array Value:=#[.int .i64 c.k,.slice c.Q c.lq c.cq,.slice c.T c.lt c.ct,.int .i64 c.z,.bool c.lf,.slice c.P c.np c.pc,.slice c.X c.nt c.tc,.slice c.K c.nk c.kc,.slice c.O c.no c.co,.slice c.W c.nw c.cw,.slice c.S c.nx c.cx,
 .bool c.fi,.slice c.F1 c.f1 c.d1,.int .i64 c.fo,.slice c.F2 c.f2 c.d2,.int .i64 c.fp,.bool c.gi,.slice c.G1 c.g1 c.e1,.int .i64 c.go,.slice c.G2 c.g2 c.e2,.int .i64 c.gp]
def OC.zero :OC:=⟨0,none,0,0,none,0,0,0,false,none,0,0,none,0,0,none,0,0,none,0,0,none,0,0,none,0,0,false,none,0,0,0,none,0,0,0,false,none,0,0,0,none,0,0,0⟩
theorem OC.size (c:OC):c.row.size=21:=rfl
theorem OC.one (c:OC):c.row.all (·.oneCell')=true:=Ka
def OC.node (c:OC):Value:=.agg #[.bool c.lf,.slice c.P c.np c.pc,.slice c.X c.nt c.tc,.slice c.K c.nk c.kc]
structure zIi (w:World)(is:Bool)(A:Option Addr)(n c:Nat)(x:Int)(B:Option Addr)(m d:Nat)(y:Int)(s:Sl):Prop where
 his:s.is=is
 hx:s.a.2=x
 hy:s.f.2=y
 hn:s.a.1.length=n
 hm:s.f.1.length=m
 hc:n<=c
 hd:m<=d
 hmn:n<=9223372036854775807
 hmm:m<=9223372036854775807
 hA:IL w w.heap.size A s.a.1
 hB:IL w w.heap.size B s.f.1
theorem zIi.later {w w':World}{n c:Nat}{m d:Nat}(h:zIi w is A n c x B m d y s)(hb:Below w.heap.size w w'):zIi w' is A n c x B m d y s:=
 ⟨h.his,h.hx,h.hy,h.hn,h.hm,h.hc,h.hd,h.hmn,h.hmm,h.hA.later hb,h.hB.later hb⟩
theorem zIi.zero (w:World):zIi w false none 0 0 0 none 0 0 0 zeroS:=⟨rfl,rfl,rfl,rfl,rfl,by omega,by omega,by omega,by omega,IL.nil _ _ _,IL.nil _ _ _⟩
theorem zIi.two {w:World}{n c:Nat}{m d:Nat}(h:zIi w is A n c x B m d y s)(h1:n<=10000000)(h2:m<=10000000):
  zI4 w (.agg #[.slice A n c,.int .i64 x]) s.a/\zI4 w (.agg #[.slice B m d,.int .i64 y]) s.f:=
 ⟨⟨A,n,c,by rw[h.hx],h.hn,h1,h.hc,h.hA⟩,⟨B,m,d,by rw[h.hy],h.hm,h2,h.hd,h.hB⟩⟩
def InI (l:List Int):Prop:=∀k,k<l.length->iAt l k<=9223372036854775807/\ -9223372036854775808<=iAt l k
theorem InI.nil :InI []:=fun _ h=>absurd h (Nat.not_lt_zero _)
structure OkA (w:World)(c:OC)(o:OpP):Prop where
 hk:o.k=c.k
 hik:zFf o.k
 hz:o.z=c.z
 hlq:o.q.length=c.lq
 hcq:c.lq<=c.cq
 hmq:c.lq<=9223372036854775807
 hq:IL w w.heap.size c.Q o.q
 hiq:InI o.q
 hlt:o.t.length=c.lt
 hct:c.lt<=c.ct
 hmt:c.lt<=9223372036854775807
 ht:IL w w.heap.size c.T o.t
 hit:InI o.t
 hn:∃d,zV d w w.heap.size c.node o.n
 hno:o.o.length=c.no
 hco:c.no<=c.co
 hmo:c.no<=4398046511104
 hwo:zIo o.o
 ho:PL w w.heap.size c.O o.o
 hnw:o.w.length=c.nw
 hcw:c.nw<=c.cw
 hmw:c.nw<=4398046511104
 hww:zIo o.w
 hw:PL w w.heap.size c.W o.w
 hnx:o.x.length=c.nx
 hcx:c.nx<=c.cx
 hmx:c.nx<=35184372088832
 hx:VL w w.heap.size c.S (rv o.x)
 hf:zIi w c.fi c.F1 c.f1 c.d1 c.fo c.F2 c.f2 c.d2 c.fp o.f
 hg:zIi w c.gi c.G1 c.g1 c.e1 c.go c.G2 c.g2 c.e2 c.gp o.g
theorem PL.later {w w':World}{l:List Pr}(h:PL w w.heap.size A l)(hb:Below w.heap.size w w'):PL w' w'.heap.size A l:=(h.below hb).more hb.size
theorem OkA.later {w w':World}{c:OC}{o:OpP}(h:OkA w c o)(hb:Below w.heap.size w w'):OkA w' c o:=
 {h with hq:=h.hq.later hb,ht:=h.ht.later hb,hn:=(by obtain⟨d,hn⟩:=h.hn;exact⟨d,hn.later hb⟩),ho:=h.ho.later hb,hw:=h.hw.later hb,hx:=h.hx.later hb,hf:=h.hf.later hb,hg:=h.hg.later hb}
theorem PL.none (w:World)(B:Nat)(A:Option Addr):PL w B A []:=fun h=>absurd rfl h
theorem zIo.none :zIo []:=⟨by simp,by simp⟩
theorem zEh (w:World)(B:Nat):zV 1 w B (.agg #[.bool false,.slice none 0 0,.slice none 0 0,.slice none 0 0]) zeroT:=
 zV.shut rfl rfl rfl (PL.none _ _ _) (VL.nil _ _ _) zPl (fun k m h=>by simp at h)
theorem OkA.zero (w:World):OkA w OC.zero zeroO:=
 ⟨rfl,⟨by decide,by decide⟩,rfl,rfl,by decide,by decide,IL.nil _ _ _,InI.nil,rfl,by decide,by decide,IL.nil _ _ _,InI.nil,⟨1,zEh _ _⟩,rfl,by decide,by decide,zIo.none,PL.none _ _ _,rfl,by decide,by decide,zIo.none,PL.none _ _ _,rfl,by decide,by decide,VL.nil _ _ _,zIi.zero _,zIi.zero _⟩
section
variable {w:World}{c:OC}{o:OpP}
theorem OkA.setK (h:OkA w c o){k:Int}(hk:zFf k):OkA w {c with k:=k} {o with k:=k}:={h with hk:=rfl,hik:=hk}
theorem OkA.setZ (h:OkA w c o)(z:Int):OkA w {c with z:=z} {o with z:=z}:={h with hz:=rfl}
theorem OkA.setQ (h:OkA w c o){n d:Nat}(h1:l.length=n)(h2:n<=d)(h3:n<=9223372036854775807)(h4:IL w w.heap.size A l)(h5:InI l):OkA w {c with Q:=A,lq:=n,cq:=d} {o with q:=l}:={h with hlq:=h1,hcq:=h2,hmq:=h3,hq:=h4,hiq:=h5}
theorem OkA.setT (h:OkA w c o){n d:Nat}(h1:l.length=n)(h2:n<=d)(h3:n<=9223372036854775807)(h4:IL w w.heap.size A l)(h5:InI l):OkA w {c with T:=A,lt:=n,ct:=d} {o with t:=l}:={h with hlt:=h1,hct:=h2,hmt:=h3,ht:=h4,hit:=h5}
theorem OkA.setN (h:OkA w c o){d np pc nt tc nk kc:Nat}{lf:Bool}{P X K:Option Addr}{n:NT}(h1:zV d w w.heap.size (.agg #[.bool lf,.slice P np pc,.slice X nt tc,.slice K nk kc]) n):OkA w {c with lf:=lf,P:=P,np:=np,pc:=pc,X:=X,nt:=nt,tc:=tc,K:=K,nk:=nk,kc:=kc} {o with n:=n}:={h with hn:=⟨d,h1⟩}
theorem OkA.setO (h:OkA w c o){n d:Nat}{l:List Pr}(h1:l.length=n)(h2:n<=d)(h3:n<=4398046511104)(h4:PL w w.heap.size A l)(h5:zIo l):OkA w {c with O:=A,no:=n,co:=d} {o with o:=l}:={h with hno:=h1,hco:=h2,hmo:=h3,ho:=h4,hwo:=h5}
theorem OkA.setW (h:OkA w c o){n d:Nat}{l:List Pr}(h1:l.length=n)(h2:n<=d)(h3:n<=4398046511104)(h4:PL w w.heap.size A l)(h5:zIo l):OkA w {c with W:=A,nw:=n,cw:=d} {o with w:=l}:={h with hnw:=h1,hcw:=h2,hmw:=h3,hw:=h4,hww:=h5}
theorem OkA.setX (h:OkA w c o){n d:Nat}(h1:l.length=n)(h2:n<=d)(h3:n<=35184372088832)(h4:VL w w.heap.size A (rv l)):OkA w {c with S:=A,nx:=n,cx:=d} {o with x:=l}:={h with hnx:=h1,hcx:=h2,hmx:=h3,hx:=h4}
theorem OkA.setF (h:OkA w c o){n d:Nat}{m e:Nat}(h1:zIi w is A n d x B m e y s):OkA w {c with fi:=is,F1:=A,f1:=n,d1:=d,fo:=x,F2:=B,f2:=m,d2:=e,fp:=y} {o with f:=s}:={h with hf:=h1}
theorem OkA.setG (h:OkA w c o){n d:Nat}{m e:Nat}(h1:zIi w is A n d x B m e y s):OkA w {c with gi:=is,G1:=A,g1:=n,e1:=d,go:=x,G2:=B,g2:=m,e2:=e,gp:=y} {o with g:=s}:={h with hg:=h1}
end
structure zAf (o:OpP):Prop where
 hq:o.q.length<=60
 ht:o.t.length<=60
 hx:o.x.length<=100
 ho:o.o.length<=40
 hw:o.w.length<=40
 hfa:o.f.a.1.length<=60
 hff:o.f.f.1.length<=60
 hga:o.g.a.1.length<=60
 hgf:o.g.f.1.length<=60
theorem zAf.zero :zAf zeroO:=⟨by decide,by decide,by decide,by decide,by decide,by decide,by decide,by decide,by decide⟩
def jR (w:World)(g:Nat)(c:OC):Prop:=w.heap[g]? =some (.cells c.row 35 (0,0))
section
variable {w w':World}{g:Nat}{c c':OC}
theorem jR.keep (h:jR w g c)(hb:Below w.heap.size w w'):jR w' g c:=zI1 h hb
theorem jR.lt (h:jR w g c):g<w.heap.size:=xlt h
theorem jR.new (w:World)(c:OC):jR (w.alloc (.cells c.row 35)) w.heap.size c:=heap_alloc_new _ _
theorem jR.cell (h:jR w g c)(j:Nat)(v:Value)(hv:c.row[j]? =some v):w.cell? ⟨g,j,none⟩=some v:=by
 unfold jR at h;simp only[World.cell?,h];simpa using hv
theorem jR.thaw (h:jR w g c)(j:Nat):w.frozen? ⟨g,j,none⟩=false:=by
 unfold jR at h;simp[World.frozen?,h]
theorem jR.ck (h:jR w g c):w.cell? ⟨g,0,none⟩=some (.int .i64 c.k):=h.cell 0 _ rfl
theorem jR.cq (h:jR w g c):w.cell? ⟨g,1,none⟩=some (.slice c.Q c.lq c.cq):=h.cell 1 _ rfl
theorem jR.ct (h:jR w g c):w.cell? ⟨g,2,none⟩=some (.slice c.T c.lt c.ct):=h.cell 2 _ rfl
theorem jR.cz (h:jR w g c):w.cell? ⟨g,3,none⟩=some (.int .i64 c.z):=h.cell 3 _ rfl
theorem jR.cn (h:jR w g c):w.cell? ⟨g,4,none⟩=some (.bool c.lf)/\w.cell? ⟨g,5,none⟩=some (.slice c.P c.np c.pc)/\w.cell? ⟨g,6,none⟩=some (.slice c.X c.nt c.tc)/\w.cell? ⟨g,7,none⟩=some (.slice c.K c.nk c.kc):=⟨h.cell 4 _ rfl,h.cell 5 _ rfl,h.cell 6 _ rfl,h.cell 7 _ rfl⟩
theorem jR.co (h:jR w g c):w.cell? ⟨g,8,none⟩=some (.slice c.O c.no c.co):=h.cell 8 _ rfl
theorem jR.cw (h:jR w g c):w.cell? ⟨g,9,none⟩=some (.slice c.W c.nw c.cw):=h.cell 9 _ rfl
theorem jR.cx (h:jR w g c):w.cell? ⟨g,10,none⟩=some (.slice c.S c.nx c.cx):=h.cell 10 _ rfl
theorem jR.cf (h:jR w g c):w.cell? ⟨g,11,none⟩=some (.bool c.fi)/\w.cell? ⟨g,12,none⟩=some (.slice c.F1 c.f1 c.d1)/\w.cell? ⟨g,13,none⟩=some (.int .i64 c.fo)/\w.cell? ⟨g,14,none⟩=some (.slice c.F2 c.f2 c.d2)/\w.cell? ⟨g,15,none⟩=some (.int .i64 c.fp):=⟨h.cell 11 _ rfl,h.cell 12 _ rfl,h.cell 13 _ rfl,h.cell 14 _ rfl,h.cell 15 _ rfl⟩
theorem jR.cg (h:jR w g c):w.cell? ⟨g,16,none⟩=some (.bool c.gi)/\w.cell? ⟨g,17,none⟩=some (.slice c.G1 c.g1 c.e1)/\w.cell? ⟨g,18,none⟩=some (.int .i64 c.go)/\w.cell? ⟨g,19,none⟩=some (.slice c.G2 c.g2 c.e2)/\w.cell? ⟨g,20,none⟩=some (.int .i64 c.gp):=⟨h.cell 16 _ rfl,h.cell 17 _ rfl,h.cell 18 _ rfl,h.cell 19 _ rfl,h.cell 20 _ rfl⟩
theorem jR.range (h:jR w g c):w.rangeAt g 0 c.row.toList:=fun j v hv=>by
 rw[Nat.zero_add];exact h.cell j v (by simpa using hv)
end
theorem zG {w:World}{Q:Exit->Act->World->Prop}{g:Nat}{c:OC}(h:jR w g c)
  (x:Operand) (ho:op.op=.load 35 x) (hgd:op.guard=none) (hx:a.eval x=.pointer (some ⟨g,0,none⟩)) (hk:wpList Tryz.prog ops Q rest (a.put op.dst (.agg c.row)) w):wpList Tryz.prog ops Q (op::rest) a w:=by
 obtain⟨d,h1,h2,h3⟩:=zK4;exact wpList_load_mid hgd 35 x ho g 0 hx c.row.toList d h.range h1 h2 h3 hk
theorem zAe {W:World}{Q:Exit->Act->World->Prop}{g:Nat}{old:Array Value}{c:OC}(x y:Operand)(ho:op.op=.store 35 x y)(hgd:op.guard=none)(hd:op.dst=none)(hx:a.eval x=.pointer (some ⟨g,0,none⟩))(hy:a.eval y=.agg c.row)(hg:W.heap.size=g)(hold:old.size=21)
  (hk:wpList Tryz.prog ops Q rest a (W.alloc (.cells c.row 35))):wpList Tryz.prog ops Q (op::rest) a (W.alloc (.cells old 35)):=by
 subst hg;obtain⟨d,h3,h4,h5⟩:=zK4;refine wpList_store_row hgd 35 x y ho W.heap.size _ hx hy 35 old (heap_alloc_new _ _) h5 hold c.one ?_;rw[zXk,hd];exact hk
theorem zKw (w:World)(g:Nat)(cells old:Array Value)(t:TypeId)(_h:w.heap[g]? =some (.cells old t (0,0))):Off g w (w.setRow g cells):=
 ⟨rfl,rfl,rfl,by show _<=(w.heap.modify g _).size;simp,fun k _ hne=>setRow_other _ _ _ _ hne⟩
theorem kF {W:World}{Q:Exit->Act->World->Prop}{g:Nat}{c0 c:OC}(h:jR W g c0)(x y:Operand)(ho:op.op=.store 35 x y)(hgd:op.guard=none)(hd:op.dst=none)(hx:a.eval x=.pointer (some ⟨g,0,none⟩))(hy:a.eval y=.agg c.row)
  (hk:∀W',jR W' g c->Off g W W'->wpList Tryz.prog ops Q rest a W'):wpList Tryz.prog ops Q (op::rest) a W:=by
 obtain⟨d,h3,h4,h5⟩:=zK4;refine wpList_store_row hgd 35 x y ho g _ hx hy 35 c0.row h h5 rfl c.one ?_;rw[hd];exact hk _ (setRow_heap _ _ c0.row c.row _ (0,0) h) (zKw _ _ _ _ _ h)
theorem zDv {p:Tmp}(h:fn.results=#[.cell p 35])(tmps:Array Value)(w:World){g:Nat}{c:OC}(hv:jR w g c)(hp:tmps.getD p undef=.pointer (some ⟨g,0,none⟩)):(results fn tmps).run Tryz.prog w=.ok (.agg c.row) w:=by
 obtain⟨d,h3,h4,h5⟩:=zK4;exact results_cell_row h tmps w g _ _ _ d hp hv h3 (by cases d<;>simp_all) h5
theorem zCt {p u:Tmp}(h:fn.results=#[.cell p 35,.tmp u])(tmps:Array Value)(w:World){g:Nat}{c:OC}(hv:jR w g c)(hp:tmps.getD p undef=.pointer (some ⟨g,0,none⟩)):(results fn tmps).run Tryz.prog w=.ok (.tuple #[.agg c.row,tmps.getD u undef]) w:=by
 obtain⟨d,h3,h4,h5⟩:=zK4;rw[results_cell_tmp h,hp];simp only[asAddr,Sem.run_pure,Result.andThen_ok,run_loadVar_row w g _ _ _ _ d hv h3 (by cases d<;>simp_all) h5]
def zNc (w:World)(o:OpP)(e:Ending)(w':World):Prop:=∃c,e=.returned (.agg (OC.row c))/\OkA w' c o/\Below w.heap.size w w'
