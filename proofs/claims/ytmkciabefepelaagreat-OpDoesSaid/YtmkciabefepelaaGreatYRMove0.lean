import Derived.Test.YtmkciabefepelaaGreatJTRCut
import Derived.Test.YtmkciabefepelaaGreatXRMove
set_option maxRecDepth 100000
set_option maxHeartbeats 8000000
namespace Go.Proofs.YtmkciabefepelaaGreat
open Go.RowKit
variable {W:World}{qv r11 r12 r13 r14 r15 r16 r17 r18 r19 r20 r4 r5 r6 r7 r8 r9 tv u:Value}{TX:Option Addr}{nt:Nat}{p q t x:List Int}{K aff pos:Int}
theorem kOe {P:Prop}(h:P:=by
 have nz:=hd (show x.length<=3000 by have h1:=zQy (K:=K) (pos:=pos) (q:=q) (t:=t) (p:=p);rw[hm]at h1;obtain⟨_,_,_,_,a1,a2,_⟩:=hp;obtain⟨_,_,_,_,b1,b2,_⟩:=ht;simp only at h1;omega);obtain⟨nx,hnx⟩:∃n,x.length=n:=⟨_,rfl⟩;have dQ:=hd hnx;have aN:nx<=3000:=hnx▸nz.o;have HR:=hd hm;try have HS:=hd hs
 obtain⟨A,n,c,rfl,hn,hl,hc,hp⟩:=hp;obtain⟨Q,lq,cq,rfl,hlq,hl2,hc2,hq⟩:=hq;obtain⟨T,lt,ct,rfl,hlt,cC,hc3,ht⟩:=ht;obtain⟨W0,hW⟩:∃W0,W0=((W.alloc (.cells #[.slice A n c,.int .i64 off] 29)).alloc (.cells #[Value.int .i64 K,.slice Q lq cq,.slice T lt ct,.int .i64 pos,r4,r5,r6,r7,r8,r9,.slice TX nt cx,r11,r12,r13,r14,r15,r16,r17,r18,r19,r20] 35)).alloc (.cells #[.slice none 0 0,.int .i64 0] 29):=⟨_,rfl⟩;have hb0:Below W.heap.size W W0:=hW▸kH7 _ _ _ _;have e0:=kK3 W (Obj.cells #[Value.slice A n c,Value.int .i64 off] 29) (Obj.cells #[Value.int .i64 K,.slice Q lq cq,.slice T lt ct,.int .i64 pos,r4,r5,r6,r7,r8,r9,.slice TX nt cx,r11,r12,r13,r14,r15,r16,r17,r18,r19,r20] 35) (Obj.cells #[Value.slice none 0 0,Value.int .i64 0] 29);rw[<-hW]at e0;have bQ:=hd (fun w(h:Below W0.heap.size W0 w)=>zI1 e0.1 h);have bv:=hd (fun w(h:Below W0.heap.size W0 w)=>zI1 e0.2.1 h);have aP:=hd (fun w(h:Below W0.heap.size W0 w)=>zI1 e0.2.2 h);have eI:=hd (fun w(h:Below W0.heap.size W0 w)=>hp.later (hb0.trans (h.mono hb0.size)));have ij:=hd (fun w(h:Below W0.heap.size W0 w)=>hq.later (hb0.trans (h.mono hb0.size)));have HIT:=hd (fun w(h:Below W0.heap.size W0 w)=>ht.later (hb0.trans (h.mono hb0.size)));have HP:=hd (show∀w,Below W0.heap.size W0 w->XA w (.slice A n c) p from fun w h=>⟨A,n,c,rfl,hn,hl,hc,eI.o w h⟩);have HQ:=hd (show∀w,Below W0.heap.size W0 w->XA w (.slice Q lq cq) q from fun w h=>⟨Q,lq,cq,rfl,hlq,hl2,hc2,ij.o w h⟩);have HT:=hd (show∀w,Below W0.heap.size W0 w->XA w (.slice T lt ct) t from fun w h=>⟨T,lt,ct,rfl,hlt,cC,hc3,HIT.o w h⟩);have aa:=hd (Below.refl W0.heap.size W0);have HW:=hd hW;have aj:=hd hb0;have HN:=hd hn;have aG:=hd hlq;have eN:=hd hlt;have lC:=hd (show W0.heap.size<=W0.heap.size/\W.heap.size+3<=W0.heap.size from⟨Nat.le_refl _,by rw[hW];simp⟩);obtain⟨x0,x1,f0,f1⟩:=yb2 (bQ.o _ aa.o);obtain⟨o0,o1,o2,o3⟩:=zD9 (bv.o _ aa.o);obtain⟨_,_,_,_,_,_,aX,_⟩:=zH2 (bv.o _ aa.o);obtain⟨z0,z1,g0,g1⟩:=yb2 (aP.o _ aa.o);clear hm hnx hp hq ht hn hlq hlt hW hb0 e0;try clear h
 try clear _h0
 try clear h0
 try clear hb1
 try clear _hb1
 try clear hb2
 try clear ha0
 try clear ha
 try clear hs
 go_enter Tryz.func106,Tryz.ntmps106
 go_upto_region 1 with fail
 rw[<-HW.o];go_wp2_with(first
  |(refine zNn (bv.o _ aa.o) _ rfl rfl rfl ?_)
  |(go_at_call 148;(try rw[<-HW.o]);refine Calls.mono (kOw (HP.o _ aa.o) (HQ.o _ aa.o) (HT.o _ aa.o) HR.o) ?_;rintro e w8 ⟨v8,rfl,ho,b8⟩;obtain⟨A8,c8,rfl,_,_⟩:=ho.open_at nx dQ.o;have HO:=hd (ho.weaken (Nat.le_trans aj.o.size aa.o.size));have aa:=hd (zI aa.o b8);have bE:=hd (Below.refl w8.heap.size w8);have HU:=hd (heap_alloc_new w8 (.cells #[.slice A8 nx c8,.int .i64 off] 29));clear b8 ho;clear x0 x1 f0 f1 o0 o1 o2 o3 aX z0 z1 g0 g1;obtain⟨x0,x1,f0,f1⟩:=yb2 (bQ.o _ aa.o);obtain⟨o0,o1,o2,o3⟩:=zD9 (bv.o _ aa.o);obtain⟨_,_,_,_,_,_,aX,_⟩:=zH2 (bv.o _ aa.o);obtain⟨z0,z1,g0,g1⟩:=yb2 (aP.o _ aa.o);obtain⟨k1,k2,k3⟩:=kD8 lC.o.2 aa.o.size)
  |(go_at_call 107;refine Calls.mono (kN0 (HQ.o _ (aa.o.alloc aa.o.size _)) (HP.o _ (aa.o.alloc aa.o.size _)) HS.o) ?_;rintro e w7 ⟨rfl,b7⟩;have bE:=hd ((bE.o.alloc Kl _).trans (b7.mono Kc));have HU:=hd (zI1 HU.o b7);have aa:=hd (zI (aa.o.alloc aa.o.size _) b7);clear b7;clear x0 x1 f0 f1 o0 o1 o2 o3 aX z0 z1 g0 g1;obtain⟨x0,x1,f0,f1⟩:=yb2 (bQ.o _ aa.o);obtain⟨o0,o1,o2,o3⟩:=zD9 (bv.o _ aa.o);obtain⟨_,_,_,_,_,_,aX,_⟩:=zH2 (bv.o _ aa.o);obtain⟨z0,z1,g0,g1⟩:=yb2 (aP.o _ aa.o);obtain⟨u0,u1,h0,h1⟩:=yb2 HU.o)
  |fail)
 first
  |
   have hr:=zCr (aP.o _ aa.o) (.slice none 0 0) (.int .i64 0)
   obtain⟨y0,y1,_,_⟩:=yb2 hr
   refine bodyPost_ret (v:=.tuple #[.agg #[.slice none 0 0,.int .i64 0],.bool false]) (by simp[results,Tryz.results106,go_sem,y0,y1]) rfl (zBi rfl (zBt.nil _ _) ?_)
   exact((aj.o.trans (aa.o.mono aj.o.size)).setCell (by show _<=W.heap.size+1+1;omega) _).setCell (by show _<=W.heap.size+1+1;omega) _
  |
   have hr:=zCr (aP.o _ aa.o) (.slice A8 nx c8) (.int .i64 off)
   obtain⟨y0,y1,_,_⟩:=yb2 hr
   have ho:=(HO.o.below bE.o).ypt (x:=.slice A8 nx c8) (y:=.int .i64 off) (aP.o _ aa.o)
   clear x0 x1 f0 f1 o0 o1 o2 o3 aX z0 z1 g0 g1 u0 u1 h0 h1
   refine bodyPost_ret (v:=.tuple #[.agg #[.slice A8 nx c8,.int .i64 off],.bool true]) (by simp[results,Tryz.results106,go_sem,y0,y1]) rfl (zBi rfl ho ?_)
   exact((aj.o.trans (aa.o.mono aj.o.size)).setCell (by show _<=W.heap.size+1+1;omega) _).setCell (by show _<=W.heap.size+1+1;omega) _
  |fail):P:=h
theorem kY1 {cx:Nat}{off:Int}(hp:XA W u p)(hq:XA W qv q)(ht:XA W tv t)(_hnt:nt<=1000000)(hm:jF K q t pos p=(x,false)):Calls Tryz.prog 106 #[.agg #[u,.int .i64 off],.agg #[.int .i64 K,qv,tv,.int .i64 pos,r4,r5,r6,r7,r8,r9,.slice TX nt cx,r11,r12,r13,r14,r15,r16,r17,r18,r19,r20],.int .i64 aff] W (zC3 W noP):=by
 exact kOe
theorem kX6 {cx:Nat}{off:Int}(hp:XA W u p)(hq:XA W qv q)(ht:XA W tv t)(_hnt:nt<=1000000)(hm:jF K q t pos p=(x,true))(h:aff<0):Calls Tryz.prog 106 #[.agg #[u,.int .i64 off],.agg #[.int .i64 K,qv,tv,.int .i64 pos,r4,r5,r6,r7,r8,r9,.slice TX nt cx,r11,r12,r13,r14,r15,r16,r17,r18,r19,r20],.int .i64 aff] W (zC3 W noP):=by
 have g5:decide (aff<0)=true:=decide_eq_true h;exact kOe
theorem kWk {cx:Nat}{off:Int}(hp:XA W u p)(hq:XA W qv q)(ht:XA W tv t)(_hnt:nt<=1000000)(hm:jF K q t pos p=(x,true))(_h0:0<=aff)(h:2<aff):Calls Tryz.prog 106 #[.agg #[u,.int .i64 off],.agg #[.int .i64 K,qv,tv,.int .i64 pos,r4,r5,r6,r7,r8,r9,.slice TX nt cx,r11,r12,r13,r14,r15,r16,r17,r18,r19,r20],.int .i64 aff] W (zC3 W noP):=by
 have g5:decide (aff<0)=false:=decide_eq_false Kb;have g6:decide (2<aff)=true:=decide_eq_true h;exact kOe
theorem kWl {cx:Nat}{off:Int}(hp:XA W u p)(hq:XA W qv q)(ht:XA W tv t)(_hnt:nt<=1000000)(hm:jF K q t pos p=(x,true))(h0:0<=aff)(h:aff<=2)(hb1:off<0):Calls Tryz.prog 106 #[.agg #[u,.int .i64 off],.agg #[.int .i64 K,qv,tv,.int .i64 pos,r4,r5,r6,r7,r8,r9,.slice TX nt cx,r11,r12,r13,r14,r15,r16,r17,r18,r19,r20],.int .i64 aff] W (zC3 W noP):=by
 have g5:decide (aff<0)=false:=decide_eq_false Kb;have g6:decide (2<aff)=false:=decide_eq_false Kb;have g1:decide (off<0)=true:=decide_eq_true hb1;exact kOe
theorem kU9 {cx:Nat}{off:Int}(hp:XA W u p)(hq:XA W qv q)(ht:XA W tv t)(_hnt:nt<=1000000)(hm:jF K q t pos p=(x,true))(h0:0<=aff)(h:aff<=2)(_hb1:0<=off)(hb2:1048576<off):Calls Tryz.prog 106 #[.agg #[u,.int .i64 off],.agg #[.int .i64 K,qv,tv,.int .i64 pos,r4,r5,r6,r7,r8,r9,.slice TX nt cx,r11,r12,r13,r14,r15,r16,r17,r18,r19,r20],.int .i64 aff] W (zC3 W noP):=by
 have g5:decide (aff<0)=false:=decide_eq_false Kb;have g6:decide (2<aff)=false:=decide_eq_false Kb;have g1:decide (off<0)=false:=decide_eq_false Kb;have g2:decide (1048576<off)=true:=decide_eq_true hb2;exact kOe
theorem kX7 {cx:Nat}{off:Int}(hp:XA W u p)(hq:XA W qv q)(ht:XA W tv t)(_hnt:nt<=1000000)(ha0:0<=aff)(ha:aff<=2)(hb1:0<=off)(hb2:off<=1048576)(hm:jF K q t pos p=(x,true))(hs:zEd q p=false):Calls Tryz.prog 106 #[.agg #[u,.int .i64 off],.agg #[.int .i64 K,qv,tv,.int .i64 pos,r4,r5,r6,r7,r8,r9,.slice TX nt cx,r11,r12,r13,r14,r15,r16,r17,r18,r19,r20],.int .i64 aff] W (zC3 W ((x,off),true)):=by
 have g5:decide (aff<0)=false:=decide_eq_false Kb;have g6:decide (2<aff)=false:=decide_eq_false Kb;have g1:decide (off<0)=false:=decide_eq_false Kb;have g2:decide (1048576<off)=false:=decide_eq_false Kb;exact kOe
