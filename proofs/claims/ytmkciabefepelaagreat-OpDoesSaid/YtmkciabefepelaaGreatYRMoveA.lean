import Derived.Test.YtmkciabefepelaaGreatYRMove0
set_option maxRecDepth 100000
set_option maxHeartbeats 8000000
namespace Go.Proofs.YtmkciabefepelaaGreat
open Go.RowKit
variable {W:World}{qv r11 r12 r13 r14 r15 r16 r17 r18 r19 r20 r4 r5 r6 r7 r8 r9 tv u:Value}{TX:Option Addr}{nt:Nat}{p q t x:List Int}{K aff pos:Int}
theorem kN3 {P:Prop}(h:P:=by
 have nz:=hd (show x.length<=3000 by have h1:=zQy (K:=K) (pos:=pos) (q:=q) (t:=t) (p:=p);rw[hm]at h1;obtain⟨_,_,_,_,a1,a2,_⟩:=hp;obtain⟨_,_,_,_,b1,b2,_⟩:=ht;simp only at h1;omega);obtain⟨nx,hnx⟩:∃n,x.length=n:=⟨_,rfl⟩;have dQ:=hd hnx;have aN:nx<=3000:=hnx▸nz.o;have HR:=hd hm;have g5:decide (aff<0)=false:=decide_eq_false Kb;have g6:decide (2<aff)=false:=decide_eq_false Kb;have g1:decide (off<0)=false:=decide_eq_false Kb;have g2:decide (1048576<off)=false:=decide_eq_false Kb;have HS:=hd hs;try
  have ol:=hd (zX0 (q:=q) (t:=t) (pos:=pos) (x:=x) (by have h:=HR.o;have e2:q=p:=of_decide_eq_true HS.o;rw[<-e2,hK]at h;exact h))
  have tH:=hd (of_decide_eq_true HS.o:q=p)
  have hpos:=(zLo HR.o).2.2.2
  rw[zKd]at hpos
  obtain⟨p1,p2⟩:=hpos
 try
  have hpos:=(zLo HR.o).2.2.2
  rw[zKd]at hpos
  obtain⟨p1,p2⟩:=hpos
 try have e3:(K==3)=false:=by simp[n3]
 try have e4:(K==4)=false:=by simp[n4]
 try have e7:(K==7)=false:=by simp[n7]
 try have e8:(K==8)=false:=by simp[n8]
 obtain⟨A,n,c,rfl,hn,hl,hc,hp⟩:=hp;obtain⟨Q,lq,cq,rfl,hlq,hl2,hc2,hq⟩:=hq;obtain⟨T,lt,ct,rfl,hlt,cC,hc3,ht⟩:=ht;obtain⟨W0,hW⟩:∃W0,W0=((W.alloc (.cells #[.slice A n c,.int .i64 off] 29)).alloc (.cells #[Value.int .i64 K,.slice Q lq cq,.slice T lt ct,.int .i64 pos,r4,r5,r6,r7,r8,r9,.slice TX nt cx,r11,r12,r13,r14,r15,r16,r17,r18,r19,r20] 35)).alloc (.cells #[.slice none 0 0,.int .i64 0] 29):=⟨_,rfl⟩;have hb0:Below W.heap.size W W0:=hW▸kH7 _ _ _ _;have e0:=kK3 W (Obj.cells #[Value.slice A n c,Value.int .i64 off] 29) (Obj.cells #[Value.int .i64 K,.slice Q lq cq,.slice T lt ct,.int .i64 pos,r4,r5,r6,r7,r8,r9,.slice TX nt cx,r11,r12,r13,r14,r15,r16,r17,r18,r19,r20] 35) (Obj.cells #[Value.slice none 0 0,Value.int .i64 0] 29);rw[<-hW]at e0;have bQ:=hd (fun w(h:Below W0.heap.size W0 w)=>zI1 e0.1 h);have bv:=hd (fun w(h:Below W0.heap.size W0 w)=>zI1 e0.2.1 h);have aP:=hd (fun w(h:Below W0.heap.size W0 w)=>zI1 e0.2.2 h);have eI:=hd (fun w(h:Below W0.heap.size W0 w)=>hp.later (hb0.trans (h.mono hb0.size)));have ij:=hd (fun w(h:Below W0.heap.size W0 w)=>hq.later (hb0.trans (h.mono hb0.size)));have HIT:=hd (fun w(h:Below W0.heap.size W0 w)=>ht.later (hb0.trans (h.mono hb0.size)));have HP:=hd (show∀w,Below W0.heap.size W0 w->XA w (.slice A n c) p from fun w h=>⟨A,n,c,rfl,hn,hl,hc,eI.o w h⟩);have HQ:=hd (show∀w,Below W0.heap.size W0 w->XA w (.slice Q lq cq) q from fun w h=>⟨Q,lq,cq,rfl,hlq,hl2,hc2,ij.o w h⟩);have HT:=hd (show∀w,Below W0.heap.size W0 w->XA w (.slice T lt ct) t from fun w h=>⟨T,lt,ct,rfl,hlt,cC,hc3,HIT.o w h⟩);have aa:=hd (Below.refl W0.heap.size W0);have HW:=hd hW;have aj:=hd hb0;have HN:=hd hn;have aG:=hd hlq;have eN:=hd hlt;have lC:=hd (show W0.heap.size<=W0.heap.size/\W.heap.size+3<=W0.heap.size from⟨Nat.le_refl _,by rw[hW];simp⟩);obtain⟨x0,x1,f0,f1⟩:=yb2 (bQ.o _ aa.o);obtain⟨o0,o1,o2,o3⟩:=zD9 (bv.o _ aa.o);obtain⟨_,_,_,_,_,_,aX,_⟩:=zH2 (bv.o _ aa.o);obtain⟨z0,z1,g0,g1⟩:=yb2 (aP.o _ aa.o);try
  subst hK
  obtain⟨k,rfl⟩:∃k,nx=k+1:=⟨nx-1,by have:=dQ.o;omega⟩
  have jw:=hd (show p.length=k+1 by rw[<-tH.o,<-ol.o];exact dQ.o)
  have pz:=hd ((zDf p).1 (zLo HR.o).1)
  have qd:=hd (kCp jw.o (zLo HR.o).1)
  have mg:=hd (show(addL p k 1).length=k+1 by rw[zJe];exact jw.o)
  rw[show addL q (q.length-1) 1=addL p k 1 by rw[tH.o,jw.o,Nat.add_sub_cancel]]
 try
  subst hK
  obtain⟨k,rfl⟩:∃k,nx=k+1:=⟨nx-1,by have:=dQ.o;omega⟩
 try
  subst hK
  obtain rfl:nx=0:=dQ.o.symm.trans hx0
 try
  subst hK
 clear hm hnx ha0 ha hs hp hq ht hn hlq hlt hW hb0 e0;try clear hx0
 try clear n3
 try clear n4
 try clear n7
 try clear n8
 go_enter Tryz.func106,Tryz.ntmps106
 go_upto_region 1 with fail
 rw[<-HW.o];go_upto_region 7 with(first
  |(refine zNn (bv.o _ aa.o) _ rfl rfl rfl ?_)
  |(go_at_call 148;(try rw[<-HW.o]);refine Calls.mono (kOw (HP.o _ aa.o) (HQ.o _ aa.o) (HT.o _ aa.o) HR.o) ?_;rintro e w8 ⟨v8,rfl,ho,b8⟩;obtain⟨A8,c8,rfl,_,_⟩:=ho.open_at (k+1) dQ.o;have HO:=hd (ho.weaken (Nat.le_trans aj.o.size aa.o.size));have aa:=hd (zI aa.o b8);have bE:=hd (Below.refl w8.heap.size w8);have HU:=hd (heap_alloc_new w8 (.cells #[.slice A8 (k+1) c8,.int .i64 off] 29));clear b8 ho;clear x0 x1 f0 f1 o0 o1 o2 o3 aX z0 z1 g0 g1;obtain⟨x0,x1,f0,f1⟩:=yb2 (bQ.o _ aa.o);obtain⟨o0,o1,o2,o3⟩:=zD9 (bv.o _ aa.o);obtain⟨_,_,_,_,_,_,aX,_⟩:=zH2 (bv.o _ aa.o);obtain⟨z0,z1,g0,g1⟩:=yb2 (aP.o _ aa.o);obtain⟨k1,k2,k3⟩:=kD8 lC.o.2 aa.o.size)
  |(go_at_call 148;(try rw[<-HW.o]);refine Calls.mono (kOw (HP.o _ aa.o) (HQ.o _ aa.o) (HT.o _ aa.o) HR.o) ?_;rintro e w8 ⟨v8,rfl,ho,b8⟩;obtain⟨A8,c8,rfl,_,_⟩:=ho.open_at nx dQ.o;have HO:=hd (ho.weaken (Nat.le_trans aj.o.size aa.o.size));have aa:=hd (zI aa.o b8);have bE:=hd (Below.refl w8.heap.size w8);have HU:=hd (heap_alloc_new w8 (.cells #[.slice A8 nx c8,.int .i64 off] 29));clear b8 ho;clear x0 x1 f0 f1 o0 o1 o2 o3 aX z0 z1 g0 g1;obtain⟨x0,x1,f0,f1⟩:=yb2 (bQ.o _ aa.o);obtain⟨o0,o1,o2,o3⟩:=zD9 (bv.o _ aa.o);obtain⟨_,_,_,_,_,_,aX,_⟩:=zH2 (bv.o _ aa.o);obtain⟨z0,z1,g0,g1⟩:=yb2 (aP.o _ aa.o);obtain⟨k1,k2,k3⟩:=kD8 lC.o.2 aa.o.size)
  |(go_at_call 148;(try rw[<-HW.o]);refine Calls.mono (kOw (HP.o _ aa.o) (HQ.o _ aa.o) (HT.o _ aa.o) HR.o) ?_;rintro e w8 ⟨v8,rfl,ho,b8⟩;obtain⟨A8,c8,rfl,_,_⟩:=ho.open_at 0 dQ.o;have HO:=hd (ho.weaken (Nat.le_trans aj.o.size aa.o.size));have aa:=hd (zI aa.o b8);have bE:=hd (Below.refl w8.heap.size w8);have HU:=hd (heap_alloc_new w8 (.cells #[.slice A8 0 c8,.int .i64 off] 29));clear b8 ho;clear x0 x1 f0 f1 o0 o1 o2 o3 aX z0 z1 g0 g1;obtain⟨x0,x1,f0,f1⟩:=yb2 (bQ.o _ aa.o);obtain⟨o0,o1,o2,o3⟩:=zD9 (bv.o _ aa.o);obtain⟨_,_,_,_,_,_,aX,_⟩:=zH2 (bv.o _ aa.o);obtain⟨z0,z1,g0,g1⟩:=yb2 (aP.o _ aa.o);obtain⟨k1,k2,k3⟩:=kD8 lC.o.2 aa.o.size)
  |(go_at_call 107;refine Calls.mono (kN0 (HQ.o _ (aa.o.alloc aa.o.size _)) (HP.o _ (aa.o.alloc aa.o.size _)) HS.o) ?_;rintro e w7 ⟨rfl,b7⟩;have bE:=hd ((bE.o.alloc Kl _).trans (b7.mono Kc));have HU:=hd (zI1 HU.o b7);have aa:=hd (zI (aa.o.alloc aa.o.size _) b7);clear b7;clear x0 x1 f0 f1 o0 o1 o2 o3 aX z0 z1 g0 g1;obtain⟨x0,x1,f0,f1⟩:=yb2 (bQ.o _ aa.o);obtain⟨o0,o1,o2,o3⟩:=zD9 (bv.o _ aa.o);obtain⟨_,_,_,_,_,_,aX,_⟩:=zH2 (bv.o _ aa.o);obtain⟨z0,z1,g0,g1⟩:=yb2 (aP.o _ aa.o);obtain⟨u0,u1,h0,h1⟩:=yb2 HU.o)
  |fail)
 go_upto_region 8 with fail
 go_wp2_with(first
  |(go_at_call 101;refine Calls.mono (kSi (HP.o _ aa.o) pz.o qd.o) ?_;rintro e w6 ⟨v6,rfl,ho,b6⟩;obtain⟨A6,c6,rfl,_,_⟩:=ho.open_at (k+1) mg.o;have HU:=hd (zI1 HU.o b6);have nB:=hd (zBt.weaken (l:=addL p k 1) ho (Nat.le_trans aj.o.size aa.o.size));have aa:=hd (zI aa.o b6);clear ho b6 u0 u1 h0 h1;clear x0 x1 f0 f1 o0 o1 o2 o3 aX z0 z1 g0 g1;obtain⟨x0,x1,f0,f1⟩:=yb2 (bQ.o _ aa.o);obtain⟨o0,o1,o2,o3⟩:=zD9 (bv.o _ aa.o);obtain⟨_,_,_,_,_,_,aX,_⟩:=zH2 (bv.o _ aa.o);obtain⟨z0,z1,g0,g1⟩:=yb2 (aP.o _ aa.o);obtain⟨u0,u1,h0,h1⟩:=yb2 HU.o)
  |fail)
 first
  |
   have hr1:=kFq (g':=w8.heap.size) (k:=1) (aP.o _ aa.o) (Nat.ne_of_lt k3) (.int .i64 (off+(nt:Int)))
   have hr:=zCr hr1 (.slice A8 (nx) c8) (.int .i64 (off+(nt:Int)))
   obtain⟨y0,y1,_,_⟩:=yb2 hr
   have ho:=((HO.o.below bE.o).yset (k:=1) (x:=.int .i64 (off+(nt:Int))) HU.o Kd).ypt (x:=.slice A8 (nx) c8) (y:=.int .i64 (off+(nt:Int))) hr1
   clear x0 x1 f0 f1 o0 o1 o2 o3 aX z0 z1 g0 g1 u0 u1 h0 h1
   refine bodyPost_ret (v:=.tuple #[.agg #[.slice A8 (nx) c8,.int .i64 (off+(nt:Int))],.bool true]) (by simp[results,Tryz.results106,go_sem,y0,y1]) rfl (zBi rfl ho ?_)
   exact(((aj.o.trans (aa.o.mono aj.o.size)).setCell (by show _<=w8.heap.size;omega) _).setCell (by show _<=W.heap.size+1+1;omega) _).setCell (by show _<=W.heap.size+1+1;omega) _
  |
   have hr1:=kFq (g':=w8.heap.size) (k:=1) (aP.o _ aa.o) (Nat.ne_of_lt k3) (.int .i64 (pos))
   have hr:=zCr hr1 (.slice A8 (nx) c8) (.int .i64 (pos))
   obtain⟨y0,y1,_,_⟩:=yb2 hr
   have ho:=((HO.o.below bE.o).yset (k:=1) (x:=.int .i64 (pos)) HU.o Kd).ypt (x:=.slice A8 (nx) c8) (y:=.int .i64 (pos)) hr1
   clear x0 x1 f0 f1 o0 o1 o2 o3 aX z0 z1 g0 g1 u0 u1 h0 h1
   refine bodyPost_ret (v:=.tuple #[.agg #[.slice A8 (nx) c8,.int .i64 (pos)],.bool true]) (by simp[results,Tryz.results106,go_sem,y0,y1]) rfl (zBi rfl ho ?_)
   exact(((aj.o.trans (aa.o.mono aj.o.size)).setCell (by show _<=w8.heap.size;omega) _).setCell (by show _<=W.heap.size+1+1;omega) _).setCell (by show _<=W.heap.size+1+1;omega) _
  |
   have hr1:=kFq (g':=w8.heap.size) (k:=1) (aP.o _ aa.o) (Nat.ne_of_lt k3) (.int .i64 (off-(nt:Int)))
   have hr:=zCr hr1 (.slice A8 (nx) c8) (.int .i64 (off-(nt:Int)))
   obtain⟨y0,y1,_,_⟩:=yb2 hr
   have ho:=((HO.o.below bE.o).yset (k:=1) (x:=.int .i64 (off-(nt:Int))) HU.o Kd).ypt (x:=.slice A8 (nx) c8) (y:=.int .i64 (off-(nt:Int))) hr1
   clear x0 x1 f0 f1 o0 o1 o2 o3 aX z0 z1 g0 g1 u0 u1 h0 h1
   refine bodyPost_ret (v:=.tuple #[.agg #[.slice A8 (nx) c8,.int .i64 (off-(nt:Int))],.bool true]) (by simp[results,Tryz.results106,go_sem,y0,y1]) rfl (zBi rfl ho ?_)
   exact(((aj.o.trans (aa.o.mono aj.o.size)).setCell (by show _<=w8.heap.size;omega) _).setCell (by show _<=W.heap.size+1+1;omega) _).setCell (by show _<=W.heap.size+1+1;omega) _
  |
   have hr:=zCr (aP.o _ aa.o) (.slice A8 0 c8) (.int .i64 off)
   obtain⟨y0,y1,_,_⟩:=yb2 hr
   have ho:=(HO.o.below bE.o).ypt (x:=.slice A8 0 c8) (y:=.int .i64 off) (aP.o _ aa.o)
   clear x0 x1 f0 f1 o0 o1 o2 o3 aX z0 z1 g0 g1 u0 u1 h0 h1
   refine bodyPost_ret (v:=.tuple #[.agg #[.slice A8 0 c8,.int .i64 off],.bool true]) (by simp[results,Tryz.results106,go_sem,y0,y1]) rfl (zBi rfl ho ?_)
   exact((aj.o.trans (aa.o.mono aj.o.size)).setCell (by show _<=W.heap.size+1+1;omega) _).setCell (by show _<=W.heap.size+1+1;omega) _
  |
   have hr1:=kFq (g':=w8.heap.size) (k:=1) (aP.o _ aa.o) (Nat.ne_of_lt k3) (.int .i64 (off+pos))
   have hr:=zCr hr1 (.slice A8 (k+1) c8) (.int .i64 (off+pos))
   obtain⟨y0,y1,_,_⟩:=yb2 hr
   have ho:=((HO.o.below bE.o).yset (k:=1) (x:=.int .i64 (off+pos)) HU.o Kd).ypt (x:=.slice A8 (k+1) c8) (y:=.int .i64 (off+pos)) hr1
   clear x0 x1 f0 f1 o0 o1 o2 o3 aX z0 z1 g0 g1 u0 u1 h0 h1
   refine bodyPost_ret (v:=.tuple #[.agg #[.slice A8 (k+1) c8,.int .i64 (off+pos)],.bool true]) (by simp[results,Tryz.results106,go_sem,y0,y1]) rfl (zBi rfl ho ?_)
   exact(((aj.o.trans (aa.o.mono aj.o.size)).setCell (by show _<=w8.heap.size;omega) _).setCell (by show _<=W.heap.size+1+1;omega) _).setCell (by show _<=W.heap.size+1+1;omega) _
  |
   have wX:=kFq (g':=w8.heap.size) (k:=0) (aP.o _ aa.o) (Nat.ne_of_lt k3) (.slice A6 (k+1) c6)
   have hr1:=kFq (g':=w8.heap.size) (k:=1) wX (Nat.ne_of_lt k3) (.int .i64 (off-pos))
   have hr:=zCr hr1 (.slice A6 (k+1) c6) (.int .i64 (off-pos))
   obtain⟨y0,y1,_,_⟩:=yb2 hr
   have ho:=(nB.o.ypt (x:=.slice A6 (k+1) c6) (y:=.int .i64 (off-pos)) HU.o).ypt (x:=.slice A6 (k+1) c6) (y:=.int .i64 (off-pos)) hr1
   clear x0 x1 f0 f1 o0 o1 o2 o3 aX z0 z1 g0 g1 u0 u1 h0 h1
   refine bodyPost_ret (v:=.tuple #[.agg #[.slice A6 (k+1) c6,.int .i64 (off-pos)],.bool true]) (by simp[results,Tryz.results106,go_sem,y0,y1]) rfl (zBi rfl ho ?_)
   exact((((aj.o.trans (aa.o.mono aj.o.size)).setCell (by show _<=w8.heap.size;omega) _).setCell (by show _<=w8.heap.size;omega) _).setCell (by show _<=W.heap.size+1+1;omega) _).setCell (by show _<=W.heap.size+1+1;omega) _
  |
   have hr:=zCr (aP.o _ aa.o) (.slice A8 nx c8) (.int .i64 off)
   obtain⟨y0,y1,_,_⟩:=yb2 hr
   have ho:=(HO.o.below bE.o).ypt (x:=.slice A8 nx c8) (y:=.int .i64 off) (aP.o _ aa.o)
   clear x0 x1 f0 f1 o0 o1 o2 o3 aX z0 z1 g0 g1 u0 u1 h0 h1
   refine bodyPost_ret (v:=.tuple #[.agg #[.slice A8 nx c8,.int .i64 off],.bool true]) (by simp[results,Tryz.results106,go_sem,y0,y1]) rfl (zBi rfl ho ?_)
   exact((aj.o.trans (aa.o.mono aj.o.size)).setCell (by show _<=W.heap.size+1+1;omega) _).setCell (by show _<=W.heap.size+1+1;omega) _
  |fail):P:=h
theorem kWm {cx:Nat}{off:Int}(hp:XA W u p)(hq:XA W qv q)(ht:XA W tv t)(hnt:nt<=1000000)(ha0:0<=aff)(ha:aff<=2)(hb1:0<=off)(hb2:off<=1048576)(hm:jF K q t pos p=(x,true))(hs:zEd q p=true)(hK:K=7)(aF:decide (pos<off)=true):Calls Tryz.prog 106 #[.agg #[u,.int .i64 off],.agg #[.int .i64 K,qv,tv,.int .i64 pos,r4,r5,r6,r7,r8,r9,.slice TX nt cx,r11,r12,r13,r14,r15,r16,r17,r18,r19,r20],.int .i64 aff] W (zC3 W ((x,off+nt),true)):=by
 exact kN3
theorem kVa {cx:Nat}{off:Int}(hp:XA W u p)(hq:XA W qv q)(ht:XA W tv t)(hnt:nt<=1000000)(ha0:0<=aff)(ha:aff<=2)(hb1:0<=off)(hb2:off<=1048576)(hm:jF K q t pos p=(x,true))(hs:zEd q p=true)(hK:K=8)(hmx:off-(nt:Int)<pos)(aF:decide (pos<off)=true):Calls Tryz.prog 106 #[.agg #[u,.int .i64 off],.agg #[.int .i64 K,qv,tv,.int .i64 pos,r4,r5,r6,r7,r8,r9,.slice TX nt cx,r11,r12,r13,r14,r15,r16,r17,r18,r19,r20],.int .i64 aff] W (zC3 W ((x,pos),true)):=by
 exact kN3
theorem kVb {cx:Nat}{off:Int}(hp:XA W u p)(hq:XA W qv q)(ht:XA W tv t)(hnt:nt<=1000000)(ha0:0<=aff)(ha:aff<=2)(hb1:0<=off)(hb2:off<=1048576)(hm:jF K q t pos p=(x,true))(hs:zEd q p=true)(hK:K=8)(hmx:¬off-(nt:Int)<pos)(aF:decide (pos<off)=true):Calls Tryz.prog 106 #[.agg #[u,.int .i64 off],.agg #[.int .i64 K,qv,tv,.int .i64 pos,r4,r5,r6,r7,r8,r9,.slice TX nt cx,r11,r12,r13,r14,r15,r16,r17,r18,r19,r20],.int .i64 aff] W (zC3 W ((x,off-nt),true)):=by
 exact kN3
theorem kWn {cx:Nat}{off:Int}(hp:XA W u p)(hq:XA W qv q)(ht:XA W tv t)(_hnt:nt<=1000000)(ha0:0<=aff)(ha:aff<=2)(hb1:0<=off)(hb2:off<=1048576)(hm:jF K q t pos p=(x,true))(hs:zEd q p=true)(hK:K=3)(hx0:x.length=0)(aF:decide (pos<off)=true):Calls Tryz.prog 106 #[.agg #[u,.int .i64 off],.agg #[.int .i64 K,qv,tv,.int .i64 pos,r4,r5,r6,r7,r8,r9,.slice TX nt cx,r11,r12,r13,r14,r15,r16,r17,r18,r19,r20],.int .i64 aff] W (zC3 W ((x,off),true)):=by
 exact kN3
theorem kWo {cx:Nat}{off:Int}(hp:XA W u p)(hq:XA W qv q)(ht:XA W tv t)(_hnt:nt<=1000000)(ha0:0<=aff)(ha:aff<=2)(hb1:0<=off)(hb2:off<=1048576)(hm:jF K q t pos p=(x,true))(hs:zEd q p=true)(hK:K=3)(hx0:x.length≠0)(aF:decide (pos<off)=true):Calls Tryz.prog 106 #[.agg #[u,.int .i64 off],.agg #[.int .i64 K,qv,tv,.int .i64 pos,r4,r5,r6,r7,r8,r9,.slice TX nt cx,r11,r12,r13,r14,r15,r16,r17,r18,r19,r20],.int .i64 aff] W (zC3 W ((x,off+pos),true)):=by
 exact kN3
theorem kWp {cx:Nat}{off:Int}(hp:XA W u p)(hq:XA W qv q)(ht:XA W tv t)(_hnt:nt<=1000000)(ha0:0<=aff)(ha:aff<=2)(hb1:0<=off)(hb2:off<=1048576)(hm:jF K q t pos p=(x,true))(hs:zEd q p=true)(hK:K=4)(hx0:x.length=0)(aF:decide (pos<off)=true):Calls Tryz.prog 106 #[.agg #[u,.int .i64 off],.agg #[.int .i64 K,qv,tv,.int .i64 pos,r4,r5,r6,r7,r8,r9,.slice TX nt cx,r11,r12,r13,r14,r15,r16,r17,r18,r19,r20],.int .i64 aff] W (zC3 W ((x,off),true)):=by
 exact kN3
theorem kWq {cx:Nat}{off:Int}(hp:XA W u p)(hq:XA W qv q)(ht:XA W tv t)(_hnt:nt<=1000000)(ha0:0<=aff)(ha:aff<=2)(hb1:0<=off)(hb2:off<=1048576)(hm:jF K q t pos p=(x,true))(hs:zEd q p=true)(hK:K=4)(hx0:x.length≠0)(az:(pos==off)=false)(aF:decide (pos<off)=true):Calls Tryz.prog 106 #[.agg #[u,.int .i64 off],.agg #[.int .i64 K,qv,tv,.int .i64 pos,r4,r5,r6,r7,r8,r9,.slice TX nt cx,r11,r12,r13,r14,r15,r16,r17,r18,r19,r20],.int .i64 aff] W (zC3 W ((addL q (q.length-1) 1,off-pos),true)):=by
 exact kN3
theorem kWr {cx:Nat}{off:Int}(hp:XA W u p)(hq:XA W qv q)(ht:XA W tv t)(_hnt:nt<=1000000)(ha0:0<=aff)(ha:aff<=2)(hb1:0<=off)(hb2:off<=1048576)(hm:jF K q t pos p=(x,true))(hs:zEd q p=true)(n3:K≠3)(n4:K≠4)(n7:K≠7)(n8:K≠8)(aF:decide (pos<off)=true):Calls Tryz.prog 106 #[.agg #[u,.int .i64 off],.agg #[.int .i64 K,qv,tv,.int .i64 pos,r4,r5,r6,r7,r8,r9,.slice TX nt cx,r11,r12,r13,r14,r15,r16,r17,r18,r19,r20],.int .i64 aff] W (zC3 W ((x,off),true)):=by
 exact kN3
theorem kNk {P:Prop}(h:P:=by
 have nz:=hd (show x.length<=3000 by have h1:=zQy (K:=K) (pos:=pos) (q:=q) (t:=t) (p:=p);rw[hm]at h1;obtain⟨_,_,_,_,a1,a2,_⟩:=hp;obtain⟨_,_,_,_,b1,b2,_⟩:=ht;simp only at h1;omega);obtain⟨nx,hnx⟩:∃n,x.length=n:=⟨_,rfl⟩;have dQ:=hd hnx;have aN:nx<=3000:=hnx▸nz.o;have HR:=hd hm;have g5:decide (aff<0)=false:=decide_eq_false Kb;have g6:decide (2<aff)=false:=decide_eq_false Kb;have g1:decide (off<0)=false:=decide_eq_false Kb;have g2:decide (1048576<off)=false:=decide_eq_false Kb;have HS:=hd hs;try
  have ol:=hd (zX0 (q:=q) (t:=t) (pos:=pos) (x:=x) (by have h:=HR.o;have e2:q=p:=of_decide_eq_true HS.o;rw[<-e2,hK]at h;exact h))
  have tH:=hd (of_decide_eq_true HS.o:q=p)
  have hpos:=(zLo HR.o).2.2.2
  rw[zKd]at hpos
  obtain⟨p1,p2⟩:=hpos
 try
  have hpos:=(zLo HR.o).2.2.2
  rw[zKd]at hpos
  obtain⟨p1,p2⟩:=hpos
 try have e3:(K==3)=false:=by simp[n3]
 try have e4:(K==4)=false:=by simp[n4]
 try have e7:(K==7)=false:=by simp[n7]
 try have e8:(K==8)=false:=by simp[n8]
 obtain⟨A,n,c,rfl,hn,hl,hc,hp⟩:=hp;obtain⟨Q,lq,cq,rfl,hlq,hl2,hc2,hq⟩:=hq;obtain⟨T,lt,ct,rfl,hlt,cC,hc3,ht⟩:=ht;obtain⟨W0,hW⟩:∃W0,W0=((W.alloc (.cells #[.slice A n c,.int .i64 off] 29)).alloc (.cells #[Value.int .i64 K,.slice Q lq cq,.slice T lt ct,.int .i64 pos,r4,r5,r6,r7,r8,r9,.slice TX nt cx,r11,r12,r13,r14,r15,r16,r17,r18,r19,r20] 35)).alloc (.cells #[.slice none 0 0,.int .i64 0] 29):=⟨_,rfl⟩;have hb0:Below W.heap.size W W0:=hW▸kH7 _ _ _ _;have e0:=kK3 W (Obj.cells #[Value.slice A n c,Value.int .i64 off] 29) (Obj.cells #[Value.int .i64 K,.slice Q lq cq,.slice T lt ct,.int .i64 pos,r4,r5,r6,r7,r8,r9,.slice TX nt cx,r11,r12,r13,r14,r15,r16,r17,r18,r19,r20] 35) (Obj.cells #[Value.slice none 0 0,Value.int .i64 0] 29);rw[<-hW]at e0;have bQ:=hd (fun w(h:Below W0.heap.size W0 w)=>zI1 e0.1 h);have bv:=hd (fun w(h:Below W0.heap.size W0 w)=>zI1 e0.2.1 h);have aP:=hd (fun w(h:Below W0.heap.size W0 w)=>zI1 e0.2.2 h);have eI:=hd (fun w(h:Below W0.heap.size W0 w)=>hp.later (hb0.trans (h.mono hb0.size)));have ij:=hd (fun w(h:Below W0.heap.size W0 w)=>hq.later (hb0.trans (h.mono hb0.size)));have HIT:=hd (fun w(h:Below W0.heap.size W0 w)=>ht.later (hb0.trans (h.mono hb0.size)));have HP:=hd (show∀w,Below W0.heap.size W0 w->XA w (.slice A n c) p from fun w h=>⟨A,n,c,rfl,hn,hl,hc,eI.o w h⟩);have HQ:=hd (show∀w,Below W0.heap.size W0 w->XA w (.slice Q lq cq) q from fun w h=>⟨Q,lq,cq,rfl,hlq,hl2,hc2,ij.o w h⟩);have HT:=hd (show∀w,Below W0.heap.size W0 w->XA w (.slice T lt ct) t from fun w h=>⟨T,lt,ct,rfl,hlt,cC,hc3,HIT.o w h⟩);have aa:=hd (Below.refl W0.heap.size W0);have HW:=hd hW;have aj:=hd hb0;have HN:=hd hn;have aG:=hd hlq;have eN:=hd hlt;have lC:=hd (show W0.heap.size<=W0.heap.size/\W.heap.size+3<=W0.heap.size from⟨Nat.le_refl _,by rw[hW];simp⟩);obtain⟨x0,x1,f0,f1⟩:=yb2 (bQ.o _ aa.o);obtain⟨o0,o1,o2,o3⟩:=zD9 (bv.o _ aa.o);obtain⟨_,_,_,_,_,_,aX,_⟩:=zH2 (bv.o _ aa.o);obtain⟨z0,z1,g0,g1⟩:=yb2 (aP.o _ aa.o);try
  subst hK
  obtain⟨k,rfl⟩:∃k,nx=k+1:=⟨nx-1,by have:=dQ.o;omega⟩
  have jw:=hd (show p.length=k+1 by rw[<-tH.o,<-ol.o];exact dQ.o)
  have pz:=hd ((zDf p).1 (zLo HR.o).1)
  have qd:=hd (kCp jw.o (zLo HR.o).1)
  have mg:=hd (show(addL p k 1).length=k+1 by rw[zJe];exact jw.o)
  rw[show addL q (q.length-1) 1=addL p k 1 by rw[tH.o,jw.o,Nat.add_sub_cancel]]
 try
  subst hK
  obtain⟨k,rfl⟩:∃k,nx=k+1:=⟨nx-1,by have:=dQ.o;omega⟩
 try
  subst hK
  obtain rfl:nx=0:=dQ.o.symm.trans hx0
 try
  subst hK
 clear hm hnx ha0 ha hs hp hq ht hn hlq hlt hW hb0 e0;try clear hx0
 try clear n3
 try clear n4
 try clear n7
 try clear n8
 go_enter Tryz.func106,Tryz.ntmps106
 go_upto_region 1 with fail
 rw[<-HW.o];go_wp2_with(first
  |(refine zNn (bv.o _ aa.o) _ rfl rfl rfl ?_)
  |(go_at_call 148;(try rw[<-HW.o]);refine Calls.mono (kOw (HP.o _ aa.o) (HQ.o _ aa.o) (HT.o _ aa.o) HR.o) ?_;rintro e w8 ⟨v8,rfl,ho,b8⟩;obtain⟨A8,c8,rfl,_,_⟩:=ho.open_at (k+1) dQ.o;have HO:=hd (ho.weaken (Nat.le_trans aj.o.size aa.o.size));have aa:=hd (zI aa.o b8);have bE:=hd (Below.refl w8.heap.size w8);have HU:=hd (heap_alloc_new w8 (.cells #[.slice A8 (k+1) c8,.int .i64 off] 29));clear b8 ho;clear x0 x1 f0 f1 o0 o1 o2 o3 aX z0 z1 g0 g1;obtain⟨x0,x1,f0,f1⟩:=yb2 (bQ.o _ aa.o);obtain⟨o0,o1,o2,o3⟩:=zD9 (bv.o _ aa.o);obtain⟨_,_,_,_,_,_,aX,_⟩:=zH2 (bv.o _ aa.o);obtain⟨z0,z1,g0,g1⟩:=yb2 (aP.o _ aa.o);obtain⟨k1,k2,k3⟩:=kD8 lC.o.2 aa.o.size)
  |(go_at_call 148;(try rw[<-HW.o]);refine Calls.mono (kOw (HP.o _ aa.o) (HQ.o _ aa.o) (HT.o _ aa.o) HR.o) ?_;rintro e w8 ⟨v8,rfl,ho,b8⟩;obtain⟨A8,c8,rfl,_,_⟩:=ho.open_at nx dQ.o;have HO:=hd (ho.weaken (Nat.le_trans aj.o.size aa.o.size));have aa:=hd (zI aa.o b8);have bE:=hd (Below.refl w8.heap.size w8);have HU:=hd (heap_alloc_new w8 (.cells #[.slice A8 nx c8,.int .i64 off] 29));clear b8 ho;clear x0 x1 f0 f1 o0 o1 o2 o3 aX z0 z1 g0 g1;obtain⟨x0,x1,f0,f1⟩:=yb2 (bQ.o _ aa.o);obtain⟨o0,o1,o2,o3⟩:=zD9 (bv.o _ aa.o);obtain⟨_,_,_,_,_,_,aX,_⟩:=zH2 (bv.o _ aa.o);obtain⟨z0,z1,g0,g1⟩:=yb2 (aP.o _ aa.o);obtain⟨k1,k2,k3⟩:=kD8 lC.o.2 aa.o.size)
  |(go_at_call 148;(try rw[<-HW.o]);refine Calls.mono (kOw (HP.o _ aa.o) (HQ.o _ aa.o) (HT.o _ aa.o) HR.o) ?_;rintro e w8 ⟨v8,rfl,ho,b8⟩;obtain⟨A8,c8,rfl,_,_⟩:=ho.open_at 0 dQ.o;have HO:=hd (ho.weaken (Nat.le_trans aj.o.size aa.o.size));have aa:=hd (zI aa.o b8);have bE:=hd (Below.refl w8.heap.size w8);have HU:=hd (heap_alloc_new w8 (.cells #[.slice A8 0 c8,.int .i64 off] 29));clear b8 ho;clear x0 x1 f0 f1 o0 o1 o2 o3 aX z0 z1 g0 g1;obtain⟨x0,x1,f0,f1⟩:=yb2 (bQ.o _ aa.o);obtain⟨o0,o1,o2,o3⟩:=zD9 (bv.o _ aa.o);obtain⟨_,_,_,_,_,_,aX,_⟩:=zH2 (bv.o _ aa.o);obtain⟨z0,z1,g0,g1⟩:=yb2 (aP.o _ aa.o);obtain⟨k1,k2,k3⟩:=kD8 lC.o.2 aa.o.size)
  |(go_at_call 107;refine Calls.mono (kN0 (HQ.o _ (aa.o.alloc aa.o.size _)) (HP.o _ (aa.o.alloc aa.o.size _)) HS.o) ?_;rintro e w7 ⟨rfl,b7⟩;have bE:=hd ((bE.o.alloc Kl _).trans (b7.mono Kc));have HU:=hd (zI1 HU.o b7);have aa:=hd (zI (aa.o.alloc aa.o.size _) b7);clear b7;clear x0 x1 f0 f1 o0 o1 o2 o3 aX z0 z1 g0 g1;obtain⟨x0,x1,f0,f1⟩:=yb2 (bQ.o _ aa.o);obtain⟨o0,o1,o2,o3⟩:=zD9 (bv.o _ aa.o);obtain⟨_,_,_,_,_,_,aX,_⟩:=zH2 (bv.o _ aa.o);obtain⟨z0,z1,g0,g1⟩:=yb2 (aP.o _ aa.o);obtain⟨u0,u1,h0,h1⟩:=yb2 HU.o)
  |(go_at_call 101;refine Calls.mono (kSi (HP.o _ aa.o) pz.o qd.o) ?_;rintro e w6 ⟨v6,rfl,ho,b6⟩;obtain⟨A6,c6,rfl,_,_⟩:=ho.open_at (k+1) mg.o;have HU:=hd (zI1 HU.o b6);have nB:=hd (zBt.weaken (l:=addL p k 1) ho (Nat.le_trans aj.o.size aa.o.size));have aa:=hd (zI aa.o b6);clear ho b6 u0 u1 h0 h1;clear x0 x1 f0 f1 o0 o1 o2 o3 aX z0 z1 g0 g1;obtain⟨x0,x1,f0,f1⟩:=yb2 (bQ.o _ aa.o);obtain⟨o0,o1,o2,o3⟩:=zD9 (bv.o _ aa.o);obtain⟨_,_,_,_,_,_,aX,_⟩:=zH2 (bv.o _ aa.o);obtain⟨z0,z1,g0,g1⟩:=yb2 (aP.o _ aa.o);obtain⟨u0,u1,h0,h1⟩:=yb2 HU.o)
  |fail)
 first
  |
   have hr1:=kFq (g':=w8.heap.size) (k:=1) (aP.o _ aa.o) (Nat.ne_of_lt k3) (.int .i64 (off+(nt:Int)))
   have hr:=zCr hr1 (.slice A8 (nx) c8) (.int .i64 (off+(nt:Int)))
   obtain⟨y0,y1,_,_⟩:=yb2 hr
   have ho:=((HO.o.below bE.o).yset (k:=1) (x:=.int .i64 (off+(nt:Int))) HU.o Kd).ypt (x:=.slice A8 (nx) c8) (y:=.int .i64 (off+(nt:Int))) hr1
   clear x0 x1 f0 f1 o0 o1 o2 o3 aX z0 z1 g0 g1 u0 u1 h0 h1
   refine bodyPost_ret (v:=.tuple #[.agg #[.slice A8 (nx) c8,.int .i64 (off+(nt:Int))],.bool true]) (by simp[results,Tryz.results106,go_sem,y0,y1]) rfl (zBi rfl ho ?_)
   exact(((aj.o.trans (aa.o.mono aj.o.size)).setCell (by show _<=w8.heap.size;omega) _).setCell (by show _<=W.heap.size+1+1;omega) _).setCell (by show _<=W.heap.size+1+1;omega) _
  |
   have hr:=zCr (aP.o _ aa.o) (.slice A8 nx c8) (.int .i64 off)
   obtain⟨y0,y1,_,_⟩:=yb2 hr
   have ho:=(HO.o.below bE.o).ypt (x:=.slice A8 nx c8) (y:=.int .i64 off) (aP.o _ aa.o)
   clear x0 x1 f0 f1 o0 o1 o2 o3 aX z0 z1 g0 g1 u0 u1 h0 h1
   refine bodyPost_ret (v:=.tuple #[.agg #[.slice A8 nx c8,.int .i64 off],.bool true]) (by simp[results,Tryz.results106,go_sem,y0,y1]) rfl (zBi rfl ho ?_)
   exact((aj.o.trans (aa.o.mono aj.o.size)).setCell (by show _<=W.heap.size+1+1;omega) _).setCell (by show _<=W.heap.size+1+1;omega) _
  |
   have hr:=zCr (aP.o _ aa.o) (.slice A8 0 c8) (.int .i64 off)
   obtain⟨y0,y1,_,_⟩:=yb2 hr
   have ho:=(HO.o.below bE.o).ypt (x:=.slice A8 0 c8) (y:=.int .i64 off) (aP.o _ aa.o)
   clear x0 x1 f0 f1 o0 o1 o2 o3 aX z0 z1 g0 g1 u0 u1 h0 h1
   refine bodyPost_ret (v:=.tuple #[.agg #[.slice A8 0 c8,.int .i64 off],.bool true]) (by simp[results,Tryz.results106,go_sem,y0,y1]) rfl (zBi rfl ho ?_)
   exact((aj.o.trans (aa.o.mono aj.o.size)).setCell (by show _<=W.heap.size+1+1;omega) _).setCell (by show _<=W.heap.size+1+1;omega) _
  |
   have hr1:=kFq (g':=w8.heap.size) (k:=1) (aP.o _ aa.o) (Nat.ne_of_lt k3) (.int .i64 (off+pos))
   have hr:=zCr hr1 (.slice A8 (k+1) c8) (.int .i64 (off+pos))
   obtain⟨y0,y1,_,_⟩:=yb2 hr
   have ho:=((HO.o.below bE.o).yset (k:=1) (x:=.int .i64 (off+pos)) HU.o Kd).ypt (x:=.slice A8 (k+1) c8) (y:=.int .i64 (off+pos)) hr1
   clear x0 x1 f0 f1 o0 o1 o2 o3 aX z0 z1 g0 g1 u0 u1 h0 h1
   refine bodyPost_ret (v:=.tuple #[.agg #[.slice A8 (k+1) c8,.int .i64 (off+pos)],.bool true]) (by simp[results,Tryz.results106,go_sem,y0,y1]) rfl (zBi rfl ho ?_)
   exact(((aj.o.trans (aa.o.mono aj.o.size)).setCell (by show _<=w8.heap.size;omega) _).setCell (by show _<=W.heap.size+1+1;omega) _).setCell (by show _<=W.heap.size+1+1;omega) _
  |
   have wX:=kFq (g':=w8.heap.size) (k:=0) (aP.o _ aa.o) (Nat.ne_of_lt k3) (.slice A6 (k+1) c6)
   have hr1:=kFq (g':=w8.heap.size) (k:=1) wX (Nat.ne_of_lt k3) (.int .i64 (off-pos))
   have hr:=zCr hr1 (.slice A6 (k+1) c6) (.int .i64 (off-pos))
   obtain⟨y0,y1,_,_⟩:=yb2 hr
   have ho:=(nB.o.ypt (x:=.slice A6 (k+1) c6) (y:=.int .i64 (off-pos)) HU.o).ypt (x:=.slice A6 (k+1) c6) (y:=.int .i64 (off-pos)) hr1
   clear x0 x1 f0 f1 o0 o1 o2 o3 aX z0 z1 g0 g1 u0 u1 h0 h1
   refine bodyPost_ret (v:=.tuple #[.agg #[.slice A6 (k+1) c6,.int .i64 (off-pos)],.bool true]) (by simp[results,Tryz.results106,go_sem,y0,y1]) rfl (zBi rfl ho ?_)
   exact((((aj.o.trans (aa.o.mono aj.o.size)).setCell (by show _<=w8.heap.size;omega) _).setCell (by show _<=w8.heap.size;omega) _).setCell (by show _<=W.heap.size+1+1;omega) _).setCell (by show _<=W.heap.size+1+1;omega) _
  |
   have hr:=zCr (aP.o _ aa.o) (.slice none 0 0) (.int .i64 0)
   obtain⟨y0,y1,_,_⟩:=yb2 hr
   clear x0 x1 f0 f1 o0 o1 o2 o3 aX z0 z1 g0 g1 u0 u1 h0 h1
   refine bodyPost_ret (v:=.tuple #[.agg #[.slice none 0 0,.int .i64 0],.bool false]) (by simp[results,Tryz.results106,go_sem,y0,y1]) rfl (zBi rfl (zBt.nil _ _) ?_)
   exact((aj.o.trans (aa.o.mono aj.o.size)).setCell (by show _<=W.heap.size+1+1;omega) _).setCell (by show _<=W.heap.size+1+1;omega) _
  |
   have hr:=zCr (aP.o _ aa.o) (.slice A8 (k+1) c8) (.int .i64 off)
   obtain⟨y0,y1,_,_⟩:=yb2 hr
   have ho:=(HO.o.below bE.o).ypt (x:=.slice A8 (k+1) c8) (y:=.int .i64 off) (aP.o _ aa.o)
   clear x0 x1 f0 f1 o0 o1 o2 o3 aX z0 z1 g0 g1 u0 u1 h0 h1
   refine bodyPost_ret (v:=.tuple #[.agg #[.slice A8 (k+1) c8,.int .i64 off],.bool true]) (by simp[results,Tryz.results106,go_sem,y0,y1]) rfl (zBi rfl ho ?_)
   exact((aj.o.trans (aa.o.mono aj.o.size)).setCell (by show _<=W.heap.size+1+1;omega) _).setCell (by show _<=W.heap.size+1+1;omega) _
  |fail):P:=h
theorem kWs {cx:Nat}{off:Int}(hp:XA W u p)(hq:XA W qv q)(ht:XA W tv t)(hnt:nt<=1000000)(ha0:0<=aff)(ha:aff<=2)(hb1:0<=off)(hb2:off<=1048576)(hm:jF K q t pos p=(x,true))(hs:zEd q p=true)(hK:K=7)(aF:decide (pos<off)=false)(az:(pos==off)=true)(d7:(aff==1)=true):Calls Tryz.prog 106 #[.agg #[u,.int .i64 off],.agg #[.int .i64 K,qv,tv,.int .i64 pos,r4,r5,r6,r7,r8,r9,.slice TX nt cx,r11,r12,r13,r14,r15,r16,r17,r18,r19,r20],.int .i64 aff] W (zC3 W ((x,off+nt),true)):=by
 exact kNk
theorem kWt {cx:Nat}{off:Int}(hp:XA W u p)(hq:XA W qv q)(ht:XA W tv t)(_hnt:nt<=1000000)(ha0:0<=aff)(ha:aff<=2)(hb1:0<=off)(hb2:off<=1048576)(hm:jF K q t pos p=(x,true))(hs:zEd q p=true)(hK:K=8)(aF:decide (pos<off)=false)(az:(pos==off)=true)(d7:(aff==1)=true):Calls Tryz.prog 106 #[.agg #[u,.int .i64 off],.agg #[.int .i64 K,qv,tv,.int .i64 pos,r4,r5,r6,r7,r8,r9,.slice TX nt cx,r11,r12,r13,r14,r15,r16,r17,r18,r19,r20],.int .i64 aff] W (zC3 W ((x,off),true)):=by
 exact kNk
theorem kWu {cx:Nat}{off:Int}(hp:XA W u p)(hq:XA W qv q)(ht:XA W tv t)(_hnt:nt<=1000000)(ha0:0<=aff)(ha:aff<=2)(hb1:0<=off)(hb2:off<=1048576)(hm:jF K q t pos p=(x,true))(hs:zEd q p=true)(hK:K=3)(hx0:x.length=0)(aF:decide (pos<off)=false)(az:(pos==off)=true)(d7:(aff==1)=true):Calls Tryz.prog 106 #[.agg #[u,.int .i64 off],.agg #[.int .i64 K,qv,tv,.int .i64 pos,r4,r5,r6,r7,r8,r9,.slice TX nt cx,r11,r12,r13,r14,r15,r16,r17,r18,r19,r20],.int .i64 aff] W (zC3 W ((x,off),true)):=by
 exact kNk
theorem kWv {cx:Nat}{off:Int}(hp:XA W u p)(hq:XA W qv q)(ht:XA W tv t)(_hnt:nt<=1000000)(ha0:0<=aff)(ha:aff<=2)(hb1:0<=off)(hb2:off<=1048576)(hm:jF K q t pos p=(x,true))(hs:zEd q p=true)(hK:K=3)(hx0:x.length≠0)(aF:decide (pos<off)=false)(az:(pos==off)=true)(d7:(aff==1)=true):Calls Tryz.prog 106 #[.agg #[u,.int .i64 off],.agg #[.int .i64 K,qv,tv,.int .i64 pos,r4,r5,r6,r7,r8,r9,.slice TX nt cx,r11,r12,r13,r14,r15,r16,r17,r18,r19,r20],.int .i64 aff] W (zC3 W ((x,off+pos),true)):=by
 exact kNk
theorem kWw {cx:Nat}{off:Int}(hp:XA W u p)(hq:XA W qv q)(ht:XA W tv t)(_hnt:nt<=1000000)(ha0:0<=aff)(ha:aff<=2)(hb1:0<=off)(hb2:off<=1048576)(hm:jF K q t pos p=(x,true))(hs:zEd q p=true)(hK:K=4)(hx0:x.length=0)(aF:decide (pos<off)=false)(az:(pos==off)=true)(d7:(aff==1)=true):Calls Tryz.prog 106 #[.agg #[u,.int .i64 off],.agg #[.int .i64 K,qv,tv,.int .i64 pos,r4,r5,r6,r7,r8,r9,.slice TX nt cx,r11,r12,r13,r14,r15,r16,r17,r18,r19,r20],.int .i64 aff] W (zC3 W ((x,off),true)):=by
 exact kNk
theorem kWx {cx:Nat}{off:Int}(hp:XA W u p)(hq:XA W qv q)(ht:XA W tv t)(_hnt:nt<=1000000)(ha0:0<=aff)(ha:aff<=2)(hb1:0<=off)(hb2:off<=1048576)(hm:jF K q t pos p=(x,true))(hs:zEd q p=true)(hK:K=4)(hx0:x.length≠0)(tO:(aff==0)=false)(aF:decide (pos<off)=false)(az:(pos==off)=true)(d7:(aff==1)=true):Calls Tryz.prog 106 #[.agg #[u,.int .i64 off],.agg #[.int .i64 K,qv,tv,.int .i64 pos,r4,r5,r6,r7,r8,r9,.slice TX nt cx,r11,r12,r13,r14,r15,r16,r17,r18,r19,r20],.int .i64 aff] W (zC3 W ((addL q (q.length-1) 1,off-pos),true)):=by
 exact kNk
theorem kWy {cx:Nat}{off:Int}(hp:XA W u p)(hq:XA W qv q)(ht:XA W tv t)(_hnt:nt<=1000000)(ha0:0<=aff)(ha:aff<=2)(hb1:0<=off)(hb2:off<=1048576)(hm:jF K q t pos p=(x,true))(hs:zEd q p=true)(n3:K≠3)(n4:K≠4)(n7:K≠7)(n8:K≠8)(aF:decide (pos<off)=false)(az:(pos==off)=true)(d7:(aff==1)=true):Calls Tryz.prog 106 #[.agg #[u,.int .i64 off],.agg #[.int .i64 K,qv,tv,.int .i64 pos,r4,r5,r6,r7,r8,r9,.slice TX nt cx,r11,r12,r13,r14,r15,r16,r17,r18,r19,r20],.int .i64 aff] W (zC3 W ((x,off),true)):=by
 exact kNk
theorem kWz {cx:Nat}{off:Int}(hp:XA W u p)(hq:XA W qv q)(ht:XA W tv t)(_hnt:nt<=1000000)(ha0:0<=aff)(ha:aff<=2)(hb1:0<=off)(hb2:off<=1048576)(hm:jF K q t pos p=(x,true))(hs:zEd q p=true)(hK:K=7)(aF:decide (pos<off)=false)(az:(pos==off)=true)(d7:(aff==1)=false):Calls Tryz.prog 106 #[.agg #[u,.int .i64 off],.agg #[.int .i64 K,qv,tv,.int .i64 pos,r4,r5,r6,r7,r8,r9,.slice TX nt cx,r11,r12,r13,r14,r15,r16,r17,r18,r19,r20],.int .i64 aff] W (zC3 W ((x,off),true)):=by
 exact kNk
theorem kW0 {cx:Nat}{off:Int}(hp:XA W u p)(hq:XA W qv q)(ht:XA W tv t)(_hnt:nt<=1000000)(ha0:0<=aff)(ha:aff<=2)(hb1:0<=off)(hb2:off<=1048576)(hm:jF K q t pos p=(x,true))(hs:zEd q p=true)(hK:K=8)(aF:decide (pos<off)=false)(az:(pos==off)=true)(d7:(aff==1)=false):Calls Tryz.prog 106 #[.agg #[u,.int .i64 off],.agg #[.int .i64 K,qv,tv,.int .i64 pos,r4,r5,r6,r7,r8,r9,.slice TX nt cx,r11,r12,r13,r14,r15,r16,r17,r18,r19,r20],.int .i64 aff] W (zC3 W ((x,off),true)):=by
 exact kNk
theorem kW1 {cx:Nat}{off:Int}(hp:XA W u p)(hq:XA W qv q)(ht:XA W tv t)(_hnt:nt<=1000000)(ha0:0<=aff)(ha:aff<=2)(hb1:0<=off)(hb2:off<=1048576)(hm:jF K q t pos p=(x,true))(hs:zEd q p=true)(hK:K=3)(hx0:x.length=0)(aF:decide (pos<off)=false)(az:(pos==off)=true)(d7:(aff==1)=false):Calls Tryz.prog 106 #[.agg #[u,.int .i64 off],.agg #[.int .i64 K,qv,tv,.int .i64 pos,r4,r5,r6,r7,r8,r9,.slice TX nt cx,r11,r12,r13,r14,r15,r16,r17,r18,r19,r20],.int .i64 aff] W (zC3 W ((x,off),true)):=by
 exact kNk
theorem kW2 {cx:Nat}{off:Int}(hp:XA W u p)(hq:XA W qv q)(ht:XA W tv t)(_hnt:nt<=1000000)(ha0:0<=aff)(ha:aff<=2)(hb1:0<=off)(hb2:off<=1048576)(hm:jF K q t pos p=(x,true))(hs:zEd q p=true)(hK:K=3)(hx0:x.length≠0)(aF:decide (pos<off)=false)(az:(pos==off)=true)(d7:(aff==1)=false):Calls Tryz.prog 106 #[.agg #[u,.int .i64 off],.agg #[.int .i64 K,qv,tv,.int .i64 pos,r4,r5,r6,r7,r8,r9,.slice TX nt cx,r11,r12,r13,r14,r15,r16,r17,r18,r19,r20],.int .i64 aff] W (zC3 W ((x,off+pos),true)):=by
 exact kNk
theorem kW3 {cx:Nat}{off:Int}(hp:XA W u p)(hq:XA W qv q)(ht:XA W tv t)(_hnt:nt<=1000000)(ha0:0<=aff)(ha:aff<=2)(hb1:0<=off)(hb2:off<=1048576)(hm:jF K q t pos p=(x,true))(hs:zEd q p=true)(hK:K=4)(hx0:x.length=0)(aF:decide (pos<off)=false)(az:(pos==off)=true)(d7:(aff==1)=false):Calls Tryz.prog 106 #[.agg #[u,.int .i64 off],.agg #[.int .i64 K,qv,tv,.int .i64 pos,r4,r5,r6,r7,r8,r9,.slice TX nt cx,r11,r12,r13,r14,r15,r16,r17,r18,r19,r20],.int .i64 aff] W (zC3 W ((x,off),true)):=by
 exact kNk
theorem kW4 {cx:Nat}{off:Int}(hp:XA W u p)(hq:XA W qv q)(ht:XA W tv t)(_hnt:nt<=1000000)(ha0:0<=aff)(ha:aff<=2)(hb1:0<=off)(hb2:off<=1048576)(hm:jF K q t pos p=(x,true))(hs:zEd q p=true)(hK:K=4)(hx0:x.length≠0)(tO:(aff==0)=true)(aF:decide (pos<off)=false)(az:(pos==off)=true)(d7:(aff==1)=false):Calls Tryz.prog 106 #[.agg #[u,.int .i64 off],.agg #[.int .i64 K,qv,tv,.int .i64 pos,r4,r5,r6,r7,r8,r9,.slice TX nt cx,r11,r12,r13,r14,r15,r16,r17,r18,r19,r20],.int .i64 aff] W (zC3 W noP):=by
 exact kNk
theorem kW5 {cx:Nat}{off:Int}(hp:XA W u p)(hq:XA W qv q)(ht:XA W tv t)(_hnt:nt<=1000000)(ha0:0<=aff)(ha:aff<=2)(hb1:0<=off)(hb2:off<=1048576)(hm:jF K q t pos p=(x,true))(hs:zEd q p=true)(hK:K=4)(hx0:x.length≠0)(tO:(aff==0)=false)(aF:decide (pos<off)=false)(az:(pos==off)=true)(d7:(aff==1)=false):Calls Tryz.prog 106 #[.agg #[u,.int .i64 off],.agg #[.int .i64 K,qv,tv,.int .i64 pos,r4,r5,r6,r7,r8,r9,.slice TX nt cx,r11,r12,r13,r14,r15,r16,r17,r18,r19,r20],.int .i64 aff] W (zC3 W ((x,off),true)):=by
 exact kNk
theorem kW6 {cx:Nat}{off:Int}(hp:XA W u p)(hq:XA W qv q)(ht:XA W tv t)(_hnt:nt<=1000000)(ha0:0<=aff)(ha:aff<=2)(hb1:0<=off)(hb2:off<=1048576)(hm:jF K q t pos p=(x,true))(hs:zEd q p=true)(n3:K≠3)(n4:K≠4)(n7:K≠7)(n8:K≠8)(aF:decide (pos<off)=false)(az:(pos==off)=true)(d7:(aff==1)=false):Calls Tryz.prog 106 #[.agg #[u,.int .i64 off],.agg #[.int .i64 K,qv,tv,.int .i64 pos,r4,r5,r6,r7,r8,r9,.slice TX nt cx,r11,r12,r13,r14,r15,r16,r17,r18,r19,r20],.int .i64 aff] W (zC3 W ((x,off),true)):=by
 exact kNk
theorem kW7 {cx:Nat}{off:Int}(hp:XA W u p)(hq:XA W qv q)(ht:XA W tv t)(_hnt:nt<=1000000)(ha0:0<=aff)(ha:aff<=2)(hb1:0<=off)(hb2:off<=1048576)(hm:jF K q t pos p=(x,true))(hs:zEd q p=true)(hK:K=7)(aF:decide (pos<off)=false)(az:(pos==off)=false):Calls Tryz.prog 106 #[.agg #[u,.int .i64 off],.agg #[.int .i64 K,qv,tv,.int .i64 pos,r4,r5,r6,r7,r8,r9,.slice TX nt cx,r11,r12,r13,r14,r15,r16,r17,r18,r19,r20],.int .i64 aff] W (zC3 W ((x,off),true)):=by
 exact kNk
theorem kW8 {cx:Nat}{off:Int}(hp:XA W u p)(hq:XA W qv q)(ht:XA W tv t)(_hnt:nt<=1000000)(ha0:0<=aff)(ha:aff<=2)(hb1:0<=off)(hb2:off<=1048576)(hm:jF K q t pos p=(x,true))(hs:zEd q p=true)(hK:K=8)(aF:decide (pos<off)=false)(az:(pos==off)=false):Calls Tryz.prog 106 #[.agg #[u,.int .i64 off],.agg #[.int .i64 K,qv,tv,.int .i64 pos,r4,r5,r6,r7,r8,r9,.slice TX nt cx,r11,r12,r13,r14,r15,r16,r17,r18,r19,r20],.int .i64 aff] W (zC3 W ((x,off),true)):=by
 exact kNk
theorem kW9 {cx:Nat}{off:Int}(hp:XA W u p)(hq:XA W qv q)(ht:XA W tv t)(_hnt:nt<=1000000)(ha0:0<=aff)(ha:aff<=2)(hb1:0<=off)(hb2:off<=1048576)(hm:jF K q t pos p=(x,true))(hs:zEd q p=true)(hK:K=3)(hx0:x.length=0)(aF:decide (pos<off)=false)(az:(pos==off)=false):Calls Tryz.prog 106 #[.agg #[u,.int .i64 off],.agg #[.int .i64 K,qv,tv,.int .i64 pos,r4,r5,r6,r7,r8,r9,.slice TX nt cx,r11,r12,r13,r14,r15,r16,r17,r18,r19,r20],.int .i64 aff] W (zC3 W ((x,off),true)):=by
 exact kNk
theorem kXa {cx:Nat}{off:Int}(hp:XA W u p)(hq:XA W qv q)(ht:XA W tv t)(_hnt:nt<=1000000)(ha0:0<=aff)(ha:aff<=2)(hb1:0<=off)(hb2:off<=1048576)(hm:jF K q t pos p=(x,true))(hs:zEd q p=true)(hK:K=3)(hx0:x.length≠0)(aF:decide (pos<off)=false)(az:(pos==off)=false):Calls Tryz.prog 106 #[.agg #[u,.int .i64 off],.agg #[.int .i64 K,qv,tv,.int .i64 pos,r4,r5,r6,r7,r8,r9,.slice TX nt cx,r11,r12,r13,r14,r15,r16,r17,r18,r19,r20],.int .i64 aff] W (zC3 W ((x,off+pos),true)):=by
 exact kNk
theorem kXb {cx:Nat}{off:Int}(hp:XA W u p)(hq:XA W qv q)(ht:XA W tv t)(_hnt:nt<=1000000)(ha0:0<=aff)(ha:aff<=2)(hb1:0<=off)(hb2:off<=1048576)(hm:jF K q t pos p=(x,true))(hs:zEd q p=true)(hK:K=4)(hx0:x.length=0)(aF:decide (pos<off)=false)(az:(pos==off)=false):Calls Tryz.prog 106 #[.agg #[u,.int .i64 off],.agg #[.int .i64 K,qv,tv,.int .i64 pos,r4,r5,r6,r7,r8,r9,.slice TX nt cx,r11,r12,r13,r14,r15,r16,r17,r18,r19,r20],.int .i64 aff] W (zC3 W ((x,off),true)):=by
 exact kNk
theorem kXc {cx:Nat}{off:Int}(hp:XA W u p)(hq:XA W qv q)(ht:XA W tv t)(_hnt:nt<=1000000)(ha0:0<=aff)(ha:aff<=2)(hb1:0<=off)(hb2:off<=1048576)(hm:jF K q t pos p=(x,true))(hs:zEd q p=true)(hK:K=4)(hx0:x.length≠0)(aF:decide (pos<off)=false)(az:(pos==off)=false):Calls Tryz.prog 106 #[.agg #[u,.int .i64 off],.agg #[.int .i64 K,qv,tv,.int .i64 pos,r4,r5,r6,r7,r8,r9,.slice TX nt cx,r11,r12,r13,r14,r15,r16,r17,r18,r19,r20],.int .i64 aff] W (zC3 W ((x,off),true)):=by
 exact kNk
theorem kXd {cx:Nat}{off:Int}(hp:XA W u p)(hq:XA W qv q)(ht:XA W tv t)(_hnt:nt<=1000000)(ha0:0<=aff)(ha:aff<=2)(hb1:0<=off)(hb2:off<=1048576)(hm:jF K q t pos p=(x,true))(hs:zEd q p=true)(n3:K≠3)(n4:K≠4)(n7:K≠7)(n8:K≠8)(aF:decide (pos<off)=false)(az:(pos==off)=false):Calls Tryz.prog 106 #[.agg #[u,.int .i64 off],.agg #[.int .i64 K,qv,tv,.int .i64 pos,r4,r5,r6,r7,r8,r9,.slice TX nt cx,r11,r12,r13,r14,r15,r16,r17,r18,r19,r20],.int .i64 aff] W (zC3 W ((x,off),true)):=by
 exact kNk
theorem kXe (hK:K=3∨K=4)(h:jF K q t pos q=(x,true)):x.length=q.length:=by
 have h1:=jD h Kb;unfold jH at h1;rw[kB6]at h1;split at h1
 ·injection h1 with h1 _;rw[h1]
 ·rcases hK with rfl|rfl
  ·rw[if_neg Kd,if_neg Kd,if_pos rfl]at h1;split at h1
   ·cases h1
   ·rw[if_neg Kd,if_neg Kd]at h1;injection h1 with h1 _;rw[<-h1,zJf]
  ·rw[if_neg Kd,if_neg Kd,if_neg Kd,if_pos rfl,if_neg Kd,if_neg Kc]at h1;injection h1 with h1 _;rw[h1]
theorem kUh {v:Value}{cx:Nat}{p:List Int×Int}{r:(List Int×Int)×Bool}(hp:PA W v p)(hq:XA W qv q)(ht:XA W tv t)(hnt:nt<=1000000)(hr:zEr K q t pos nt aff p=r):
  Calls Tryz.prog 106 #[v,.agg #[.int .i64 K,qv,tv,.int .i64 pos,r4,r5,r6,r7,r8,r9,.slice TX nt cx,r11,r12,r13,r14,r15,r16,r17,r18,r19,r20],.int .i64 aff] W (zC3 W r):=by
 subst hr;obtain⟨u,rfl,hp⟩:=hp;obtain⟨p,off⟩:=p;simp only at hp⊢;obtain⟨⟨x,e⟩,hm⟩:∃z,jF K q t pos p=z:=⟨_,rfl⟩;cases e
 ·rw[zVj (p:=(p,off)) hm];exact kY1 hp hq ht hnt hm
 by_cases a1:aff<0
 ·rw[zXy (fun h=>by unfold zDx at h;omega)];exact kX6 hp hq ht hnt hm a1
 by_cases a2:2<aff
 ·rw[zXy (fun h=>by unfold zDx at h;omega)];exact kWk hp hq ht hnt hm Kb a2
 have dC:0<=aff:=Kb;have dD:aff<=2:=Kb;by_cases h1:off<0
 ·rw[zP9 (fun h=>by simp only at h;omega)];exact kWl hp hq ht hnt hm dC dD h1
 by_cases h2:1048576<off
 ·rw[zP9 (fun h=>by simp only at h;omega)];exact kU9 hp hq ht hnt hm dC dD Kb h2
 have b1:0<=off:=Kb;have b2:off<=1048576:=Kb;have ha:zDx aff:=by unfold zDx;omega
 rw[kB4 (p:=(p,off)) ha b1 b2 hm];simp only;by_cases mh:q=p
 ·rw [if_pos mh];have hs:zEd q p=true:=decide_eq_true mh;have hw:(decide (pos<off)=true/\zEl off pos aff=true/\(pos==off)=false)∨(decide (pos<off)=false/\(pos==off)=true/\(aff==1)=true/\zEl off pos aff=true)∨(decide (pos<off)=false/\(pos==off)=true/\(aff==1)=false/\zEl off pos aff=false)∨(decide (pos<off)=false/\(pos==off)=false/\zEl off pos aff=false):=by
   unfold zEl;by_cases e1:pos<off
   ·exact .inl ⟨decide_eq_true e1,by simp[e1],by simp;omega⟩
   ·by_cases e2:pos=off
    ·by_cases e3:aff=1
     ·exact .inr (.inl ⟨decide_eq_false e1,by simp[e2],by simp[e3],by simp[e2,e3]⟩)
     ·exact .inr (.inr (.inl ⟨decide_eq_false e1,by simp[e2],by simp[e3],by simp[e1,e3]⟩))
    ·exact .inr (.inr (.inr ⟨decide_eq_false e1,by simp[e2],by simp[e1,e2]⟩))
  have hl:K=3∨K=4->x.length=q.length:=fun h=>kXe h (by rw[<-mh]at hm;exact hm);unfold zXx;by_cases k7:K=7
  ·rw[if_pos k7];rcases hw with⟨w1,w2,w3⟩|⟨w1,w2,w3,w4⟩|⟨w1,w2,w3,w4⟩|⟨w1,w2,w3⟩
   ·rw[w2];exact kWm hp hq ht hnt dC dD b1 b2 hm hs k7 w1
   ·rw[w4];exact kWs hp hq ht hnt dC dD b1 b2 hm hs k7 w1 w2 w3
   ·rw[w4];exact kWz hp hq ht hnt dC dD b1 b2 hm hs k7 w1 w2 w3
   ·rw[w3];exact kW7 hp hq ht hnt dC dD b1 b2 hm hs k7 w1 w2
  rw[if_neg k7];by_cases k8:K=8
  ·rw[if_pos k8];rcases hw with⟨w1,w2,w3⟩|⟨w1,w2,w3,w4⟩|⟨w1,w2,w3,w4⟩|⟨w1,w2,w3⟩
   ·rw[if_pos (of_decide_eq_true w1)];by_cases hmx:off-(nt:Int)<pos
    ·rw[show max (off-(nt:Int)) pos=pos by omega];exact kVa hp hq ht hnt dC dD b1 b2 hm hs k8 hmx w1
    ·rw[show max (off-(nt:Int)) pos=off-nt by omega];exact kVb hp hq ht hnt dC dD b1 b2 hm hs k8 hmx w1
   ·rw[if_neg (of_decide_eq_false w1)];exact kWt hp hq ht hnt dC dD b1 b2 hm hs k8 w1 w2 w3
   ·rw[if_neg (of_decide_eq_false w1)];exact kW0 hp hq ht hnt dC dD b1 b2 hm hs k8 w1 w2 w3
   ·rw[if_neg (of_decide_eq_false w1)];exact kW8 hp hq ht hnt dC dD b1 b2 hm hs k8 w1 w2
  rw[if_neg k8];by_cases k3:K=3
  ·by_cases h0:q.length=0
   ·have hx:=(hl (.inl k3)).trans h0;rw[if_neg (fun h=>h.2 h0),if_neg (fun h=>h.2 h0)];rcases hw with⟨w1,w2,w3⟩|⟨w1,w2,w3,w4⟩|⟨w1,w2,w3,w4⟩|⟨w1,w2,w3⟩
    ·exact kWn hp hq ht hnt dC dD b1 b2 hm hs k3 hx w1
    ·exact kWu hp hq ht hnt dC dD b1 b2 hm hs k3 hx w1 w2 w3
    ·exact kW1 hp hq ht hnt dC dD b1 b2 hm hs k3 hx w1 w2 w3
    ·exact kW9 hp hq ht hnt dC dD b1 b2 hm hs k3 hx w1 w2
   ·have hx:x.length≠0:=by rw[hl (.inl k3)];exact h0
    rw[if_pos ⟨k3,h0⟩];rcases hw with⟨w1,w2,w3⟩|⟨w1,w2,w3,w4⟩|⟨w1,w2,w3,w4⟩|⟨w1,w2,w3⟩
    ·exact kWo hp hq ht hnt dC dD b1 b2 hm hs k3 hx w1
    ·exact kWv hp hq ht hnt dC dD b1 b2 hm hs k3 hx w1 w2 w3
    ·exact kW2 hp hq ht hnt dC dD b1 b2 hm hs k3 hx w1 w2 w3
    ·exact kXa hp hq ht hnt dC dD b1 b2 hm hs k3 hx w1 w2
  rw[if_neg (fun h=>k3 h.1)];by_cases k4:K=4
  ·by_cases h0:q.length=0
   ·have hx:=(hl (.inr k4)).trans h0;rw[if_neg (fun h=>h.2 h0)];rcases hw with⟨w1,w2,w3⟩|⟨w1,w2,w3,w4⟩|⟨w1,w2,w3,w4⟩|⟨w1,w2,w3⟩
    ·exact kWp hp hq ht hnt dC dD b1 b2 hm hs k4 hx w1
    ·exact kWw hp hq ht hnt dC dD b1 b2 hm hs k4 hx w1 w2 w3
    ·exact kW3 hp hq ht hnt dC dD b1 b2 hm hs k4 hx w1 w2 w3
    ·exact kXb hp hq ht hnt dC dD b1 b2 hm hs k4 hx w1 w2
   ·have hx:x.length≠0:=by rw[hl (.inr k4)];exact h0
    rw[if_pos ⟨k4,h0⟩];rcases hw with⟨w1,w2,w3⟩|⟨w1,w2,w3,w4⟩|⟨w1,w2,w3,w4⟩|⟨w1,w2,w3⟩
    ·rw[if_neg (fun h=>by have:=of_decide_eq_true w1;omega),w2];exact kWq hp hq ht hnt dC dD b1 b2 hm hs k4 hx w3 w1
    ·have e3:aff=1:=by simpa using w3
     rw[if_neg (fun h=>by omega),w4];exact kWx hp hq ht hnt dC dD b1 b2 hm hs k4 hx (by simp[e3]) w1 w2 w3
    ·have e2:pos=off:=by simpa using w2
     by_cases e0:aff=0
     ·rw[if_pos ⟨e2,e0⟩];exact kW4 hp hq ht hnt dC dD b1 b2 hm hs k4 hx (by simp[e0]) w1 w2 w3
     ·rw[if_neg (fun h=>e0 h.2),w4];exact kW5 hp hq ht hnt dC dD b1 b2 hm hs k4 hx (by simp[e0]) w1 w2 w3
    ·have e2:¬pos=off:=by simpa using w2
     rw[if_neg (fun h=>e2 h.1),w3];exact kXc hp hq ht hnt dC dD b1 b2 hm hs k4 hx w1 w2
  rw[if_neg (fun h=>k4 h.1)];rcases hw with⟨w1,w2,w3⟩|⟨w1,w2,w3,w4⟩|⟨w1,w2,w3,w4⟩|⟨w1,w2,w3⟩
  ·exact kWr hp hq ht hnt dC dD b1 b2 hm hs k3 k4 k7 k8 w1
  ·exact kWy hp hq ht hnt dC dD b1 b2 hm hs k3 k4 k7 k8 w1 w2 w3
  ·exact kW6 hp hq ht hnt dC dD b1 b2 hm hs k3 k4 k7 k8 w1 w2 w3
  ·exact kXd hp hq ht hnt dC dD b1 b2 hm hs k3 k4 k7 k8 w1 w2
 ·rw[if_neg mh];exact kX7 hp hq ht hnt dC dD b1 b2 hm (decide_eq_false mh)
