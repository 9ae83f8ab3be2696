import Derived.Test.YtmglnjmnabjjgaaGreatJYMove
import Derived.Great.BuildSlice
set_option maxRecDepth 100000
set_option maxHeartbeats 8000000
namespace Go.Proofs.YtmglnjmnabjjgaaGreat
open Go.RowKit
variable {P:Prop}{W w:World}{qv r11 r12 r13 r14 r15 r16 r17 r18 r19 r20 r4 r5 r6 r7 r8 r9 tv u:Value}{TX:Option Addr}{b g j nt s:Nat}{p q t x:List Int}{K aff pos:Int}{r:(List Int×Int)×Bool}{ts ty:TypeId}{ops:Array Oper}{rest:List Oper}{op:Oper}{a:Act}{Q:Exit->Act->World->Prop}{z:Array Value}
theorem ymN (h:P:=by
 have hr:=zCr (aR.o _ ac.o) (.slice none 0 0) (.int .i64 0);obtain⟨y0,y1,_,_⟩:=yb2 hr;refine bodyPost_ret (v:=.tuple #[.agg #[.slice none 0 0,.int .i64 0],.bool false]) (by simp[results,Tryz.results20,go_sem,y0,y1]) rfl (zBi rfl (zBt.nil _ _) ?_);exact((ar.o.trans (ac.o.mono ar.o.size)).setCell (by show _<=W.heap.size+1+1;omega) _).setCell (by show _<=W.heap.size+1+1;omega) _
 ):P:=h
theorem ymF (h:P:=by
 have hr:=zCr (aR.o _ ac.o) (.slice A8 nx c8) (.int .i64 off);obtain⟨y0,y1,_,_⟩:=yb2 hr;have ho:=(HO.o.below bI.o).ypt (x:=.slice A8 nx c8) (y:=.int .i64 off) (aR.o _ ac.o);clear x0 x1 f0 f1 o0 o1 o2 o3 cL z0 z1 g0 g1 u0 u1 h0 h1;refine bodyPost_ret (v:=.tuple #[.agg #[.slice A8 nx c8,.int .i64 off],.bool true]) (by simp[results,Tryz.results20,go_sem,y0,y1]) rfl (zBi rfl ho ?_);exact((ar.o.trans (ac.o.mono ar.o.size)).setCell (by show _<=W.heap.size+1+1;omega) _).setCell (by show _<=W.heap.size+1+1;omega) _
 ):P:=h
theorem kM9 (h:P:=by
 have hr1:=kFq (g':=w8.heap.size) (k:=1) (aR.o _ ac.o) (Nat.ne_of_lt k3) (.int .i64 (off+(nt:Int)));have hr:=zCr hr1 (.slice A8 nx c8) (.int .i64 (off+(nt:Int)));obtain⟨y0,y1,_,_⟩:=yb2 hr;have ho:=((HO.o.below bI.o).yset (k:=1) (x:=.int .i64 (off+(nt:Int))) HU.o Kd).ypt (x:=.slice A8 nx c8) (y:=.int .i64 (off+(nt:Int))) hr1;clear x0 x1 f0 f1 o0 o1 o2 o3 cL z0 z1 g0 g1 u0 u1 h0 h1;refine bodyPost_ret (v:=.tuple #[.agg #[.slice A8 nx c8,.int .i64 (off+(nt:Int))],.bool true]) (by simp[results,Tryz.results20,go_sem,y0,y1]) rfl (zBi rfl ho ?_);exact(((ar.o.trans (ac.o.mono ar.o.size)).setCell (by show _<=w8.heap.size;omega) _).setCell (by show _<=W.heap.size+1+1;omega) _).setCell (by show _<=W.heap.size+1+1;omega) _
 ):P:=h
theorem kNa (h:P:=by
 have hr1:=kFq (g':=w8.heap.size) (k:=1) (aR.o _ ac.o) (Nat.ne_of_lt k3) (.int .i64 (pos));have hr:=zCr hr1 (.slice A8 nx c8) (.int .i64 (pos));obtain⟨y0,y1,_,_⟩:=yb2 hr;have ho:=((HO.o.below bI.o).yset (k:=1) (x:=.int .i64 (pos)) HU.o Kd).ypt (x:=.slice A8 nx c8) (y:=.int .i64 (pos)) hr1;clear x0 x1 f0 f1 o0 o1 o2 o3 cL z0 z1 g0 g1 u0 u1 h0 h1;refine bodyPost_ret (v:=.tuple #[.agg #[.slice A8 nx c8,.int .i64 (pos)],.bool true]) (by simp[results,Tryz.results20,go_sem,y0,y1]) rfl (zBi rfl ho ?_);exact(((ar.o.trans (ac.o.mono ar.o.size)).setCell (by show _<=w8.heap.size;omega) _).setCell (by show _<=W.heap.size+1+1;omega) _).setCell (by show _<=W.heap.size+1+1;omega) _
 ):P:=h
theorem kNb (h:P:=by
 have hr1:=kFq (g':=w8.heap.size) (k:=1) (aR.o _ ac.o) (Nat.ne_of_lt k3) (.int .i64 (off-(nt:Int)));have hr:=zCr hr1 (.slice A8 nx c8) (.int .i64 (off-(nt:Int)));obtain⟨y0,y1,_,_⟩:=yb2 hr;have ho:=((HO.o.below bI.o).yset (k:=1) (x:=.int .i64 (off-(nt:Int))) HU.o Kd).ypt (x:=.slice A8 nx c8) (y:=.int .i64 (off-(nt:Int))) hr1;clear x0 x1 f0 f1 o0 o1 o2 o3 cL z0 z1 g0 g1 u0 u1 h0 h1;refine bodyPost_ret (v:=.tuple #[.agg #[.slice A8 nx c8,.int .i64 (off-(nt:Int))],.bool true]) (by simp[results,Tryz.results20,go_sem,y0,y1]) rfl (zBi rfl ho ?_);exact(((ar.o.trans (ac.o.mono ar.o.size)).setCell (by show _<=w8.heap.size;omega) _).setCell (by show _<=W.heap.size+1+1;omega) _).setCell (by show _<=W.heap.size+1+1;omega) _
 ):P:=h
theorem kNc (h:P:=by
 have hr1:=kFq (g':=w8.heap.size) (k:=1) (aR.o _ ac.o) (Nat.ne_of_lt k3) (.int .i64 (off+pos));have hr:=zCr hr1 (.slice A8 nx c8) (.int .i64 (off+pos));obtain⟨y0,y1,_,_⟩:=yb2 hr;have ho:=((HO.o.below bI.o).yset (k:=1) (x:=.int .i64 (off+pos)) HU.o Kd).ypt (x:=.slice A8 nx c8) (y:=.int .i64 (off+pos)) hr1;clear x0 x1 f0 f1 o0 o1 o2 o3 cL z0 z1 g0 g1 u0 u1 h0 h1;refine bodyPost_ret (v:=.tuple #[.agg #[.slice A8 nx c8,.int .i64 (off+pos)],.bool true]) (by simp[results,Tryz.results20,go_sem,y0,y1]) rfl (zBi rfl ho ?_);exact(((ar.o.trans (ac.o.mono ar.o.size)).setCell (by show _<=w8.heap.size;omega) _).setCell (by show _<=W.heap.size+1+1;omega) _).setCell (by show _<=W.heap.size+1+1;omega) _
 ):P:=h
theorem kNd (h:P:=by
 have hr:=zCr (aR.o _ ac.o) (.slice A6 0 c6) (.int .i64 (0));obtain⟨y0,y1,_,_⟩:=yb2 hr;have ho:=(p6.o.ypt (x:=.slice A6 0 c6) (y:=.int .i64 (0)) (aR.o _ ac.o));clear x0 x1 f0 f1 o0 o1 o2 o3 cL z0 z1 g0 g1;refine bodyPost_ret (v:=.tuple #[.agg #[.slice A6 0 c6,.int .i64 (0)],.bool false]) (by simp[results,Tryz.results20,go_sem,y0,y1]) rfl (zBi rfl ho ?_);exact((ar.o.trans (ac.o.mono ar.o.size)).setCell (by show _<=W.heap.size+1+1;omega) _).setCell (by show _<=W.heap.size+1+1;omega) _
 ):P:=h
theorem kNe (h:P:=by
 have hr:=zCr (aR.o _ ac.o) (.slice A6 (k+1) c6) (.int .i64 (off-pos));obtain⟨y0,y1,_,_⟩:=yb2 hr;have ho:=(p6.o.ypt (x:=.slice A6 (k+1) c6) (y:=.int .i64 (off-pos)) (aR.o _ ac.o));clear x0 x1 f0 f1 o0 o1 o2 o3 cL z0 z1 g0 g1;refine bodyPost_ret (v:=.tuple #[.agg #[.slice A6 (k+1) c6,.int .i64 (off-pos)],.bool true]) (by simp[results,Tryz.results20,go_sem,y0,y1]) rfl (zBi rfl ho ?_);exact((ar.o.trans (ac.o.mono ar.o.size)).setCell (by show _<=W.heap.size+1+1;omega) _).setCell (by show _<=W.heap.size+1+1;omega) _
 ):P:=h
theorem kNf (h:P:=by
 have hr:=zCr (aR.o _ ac.o) (.slice A8 nx c8) (.int .i64 (off));obtain⟨y0,y1,_,_⟩:=yb2 hr;have ho:=(p6.o.ypt (x:=.slice A8 nx c8) (y:=.int .i64 (off)) (aR.o _ ac.o));clear x0 x1 f0 f1 o0 o1 o2 o3 cL z0 z1 g0 g1;refine bodyPost_ret (v:=.tuple #[.agg #[.slice A8 nx c8,.int .i64 (off)],.bool true]) (by simp[results,Tryz.results20,go_sem,y0,y1]) rfl (zBi rfl ho ?_);exact((ar.o.trans (ac.o.mono ar.o.size)).setCell (by show _<=W.heap.size+1+1;omega) _).setCell (by show _<=W.heap.size+1+1;omega) _
 ):P:=h
theorem ymS (h:P:=by
 obtain⟨A,n,c,rfl,hn,hl,hc,hp⟩:=hp;obtain⟨Q,lq,cq,rfl,hlq,hl2,hc2,hq⟩:=hq;obtain⟨T,lt,ct,rfl,hlt,cj,hc3,ht⟩:=ht;obtain⟨W0,hW⟩:∃W0,W0=((W.alloc (.cells #[.slice A n c,.int .i64 off] 29)).alloc (.cells #[Value.int .i64 K,.slice Q lq cq,.slice T lt ct,.int .i64 pos,r4,r5,r6,r7,r8,r9,.slice TX nt cx,r11,r12,r13,r14,r15,r16,r17,r18,r19,r20] 35)).alloc (.cells #[.slice none 0 0,.int .i64 0] 29):=⟨_,rfl⟩;have hb0:Below W.heap.size W W0:=hW▸kH7 _ _ _ _;have e0:=kK3 W (Obj.cells #[Value.slice A n c,Value.int .i64 off] 29) (Obj.cells #[Value.int .i64 K,.slice Q lq cq,.slice T lt ct,.int .i64 pos,r4,r5,r6,r7,r8,r9,.slice TX nt cx,r11,r12,r13,r14,r15,r16,r17,r18,r19,r20] 35) (Obj.cells #[Value.slice none 0 0,Value.int .i64 0] 29);rw[<-hW]at e0;have dP:=hd (fun w(h:Below W0.heap.size W0 w)=>zI1 e0.1 h);have dY:=hd (fun w(h:Below W0.heap.size W0 w)=>zI1 e0.2.1 h);have aR:=hd (fun w(h:Below W0.heap.size W0 w)=>zI1 e0.2.2 h);have fU:=hd (fun w(h:Below W0.heap.size W0 w)=>hp.later (hb0.trans (h.mono hb0.size)));have nH:=hd (fun w(h:Below W0.heap.size W0 w)=>hq.later (hb0.trans (h.mono hb0.size)));have HIT:=hd (fun w(h:Below W0.heap.size W0 w)=>ht.later (hb0.trans (h.mono hb0.size)));have HP:=hd (show∀w,Below W0.heap.size W0 w->XA w (.slice A n c) p from fun w h=>⟨A,n,c,rfl,hn,hl,hc,fU.o w h⟩);have HQ:=hd (show∀w,Below W0.heap.size W0 w->XA w (.slice Q lq cq) q from fun w h=>⟨Q,lq,cq,rfl,hlq,hl2,hc2,nH.o w h⟩);have HT:=hd (show∀w,Below W0.heap.size W0 w->XA w (.slice T lt ct) t from fun w h=>⟨T,lt,ct,rfl,hlt,cj,hc3,HIT.o w h⟩);have ac:=hd (Below.refl W0.heap.size W0);have HW:=hd hW;have ar:=hd hb0;have HN:=hd hn;have bj:=hd hlq;have eX:=hd hlt;have y7:=hd (show W0.heap.size<=W0.heap.size/\W.heap.size+3<=W0.heap.size from⟨Nat.le_refl _,by rw[hW];simp⟩);obtain⟨x0,x1,f0,f1⟩:=yb2 (dP.o _ ac.o);obtain⟨o0,o1,o2,o3⟩:=zD9 (dY.o _ ac.o);obtain⟨_,_,_,_,_,_,cL,_⟩:=zH2 (dY.o _ ac.o);obtain⟨z0,z1,g0,g1⟩:=yb2 (aR.o _ ac.o);clear hp hq ht hn hlq hlt hW hb0 e0;(try obtain rfl:lq=0:=bj.o.symm.trans hq0)
 (try obtain⟨k,rfl⟩:∃k,lq=k+1:=⟨lq-1,by have:=bj.o;omega⟩)
 (try clear hq0)
 (try(have uZ:=hd (show x.length=k+1 by rw[qm.o];exact bj.o);have y8:=hd (show jI x=true by rw[qm.o];exact(zLo HR.o).2.1);have fH:=hd (show(addL x k 1).length=k+1 by rw[zJe];exact uZ.o);rw[show addL q (q.length-1) 1=addL x k 1 by rw[qm.o,bj.o,Nat.add_sub_cancel]]))
 go_enter Tryz.func20,Tryz.ntmps20
 go_upto_region 1 with fail
 rw[<-HW.o];go_wp2_with(first
   |(refine zNn (dY.o _ ac.o) _ rfl rfl rfl ?_)
   |(go_at_call 45;(try rw[<-HW.o]);refine Calls.mono (kK4 HM.o) ?_;rintro e w9 ⟨rfl,b9⟩;have ac:=hd (zI ac.o b9);clear b9;clear x0 x1 f0 f1 o0 o1 o2 o3 cL z0 z1 g0 g1;obtain⟨x0,x1,f0,f1⟩:=yb2 (dP.o _ ac.o);obtain⟨o0,o1,o2,o3⟩:=zD9 (dY.o _ ac.o);obtain⟨_,_,_,_,_,_,cL,_⟩:=zH2 (dY.o _ ac.o);obtain⟨z0,z1,g0,g1⟩:=yb2 (aR.o _ ac.o))
   |(go_at_call 46;refine Calls.mono (kIh (HP.o _ ac.o) (HQ.o _ ac.o) (HT.o _ ac.o) HR.o) ?_;rintro e w8 ⟨v8,rfl,ho,b8⟩;obtain⟨A8,c8,rfl,_,_⟩:=ho.open_at nx mz.o;have HO:=hd (ho.weaken (Nat.le_trans ar.o.size ac.o.size));have ac:=hd (zI ac.o b8);have bI:=hd (Below.refl w8.heap.size w8);have HU:=hd (heap_alloc_new w8 (.cells #[.slice A8 nx c8,.int .i64 off] 29));clear b8 ho;clear x0 x1 f0 f1 o0 o1 o2 o3 cL z0 z1 g0 g1;obtain⟨x0,x1,f0,f1⟩:=yb2 (dP.o _ ac.o);obtain⟨o0,o1,o2,o3⟩:=zD9 (dY.o _ ac.o);obtain⟨_,_,_,_,_,_,cL,_⟩:=zH2 (dY.o _ ac.o);obtain⟨z0,z1,g0,g1⟩:=yb2 (aR.o _ ac.o);obtain⟨k1,k2,k3⟩:=kD8 y7.o.2 ac.o.size)
   |(go_at_call 23;refine Calls.mono (kEp (HQ.o _ (ac.o.alloc ac.o.size _)) (HP.o _ (ac.o.alloc ac.o.size _)) HS.o) ?_;rintro e w7 ⟨rfl,b7⟩;have bI:=hd ((bI.o.alloc Kl _).trans (b7.mono Kc));have HU:=hd (zI1 HU.o b7);have ac:=hd (zI (ac.o.alloc ac.o.size _) b7);clear b7;clear x0 x1 f0 f1 o0 o1 o2 o3 cL z0 z1 g0 g1;obtain⟨x0,x1,f0,f1⟩:=yb2 (dP.o _ ac.o);obtain⟨o0,o1,o2,o3⟩:=zD9 (dY.o _ ac.o);obtain⟨_,_,_,_,_,_,cL,_⟩:=zH2 (dY.o _ ac.o);obtain⟨z0,z1,g0,g1⟩:=yb2 (aR.o _ ac.o);obtain⟨u0,u1,h0,h1⟩:=yb2 HU.o)
   |(go_at_call 47;refine Calls.mono (zH0 tj.o) ?_;rintro e w6 ⟨rfl,b6⟩;have bI:=hd (bI.o.trans (b6.mono bI.o.size));have HU:=hd (zI1 HU.o b6);have ac:=hd (zI ac.o b6);clear b6 u0 u1 h0 h1;clear x0 x1 f0 f1 o0 o1 o2 o3 cL z0 z1 g0 g1;obtain⟨x0,x1,f0,f1⟩:=yb2 (dP.o _ ac.o);obtain⟨o0,o1,o2,o3⟩:=zD9 (dY.o _ ac.o);obtain⟨_,_,_,_,_,_,cL,_⟩:=zH2 (dY.o _ ac.o);obtain⟨z0,z1,g0,g1⟩:=yb2 (aR.o _ ac.o);obtain⟨u0,u1,h0,h1⟩:=yb2 HU.o)
   |(go_at_call 48;refine Calls.mono (zW6 ((XA.own HO.o m8.o).later bI.o) HC.o) ?_;rintro e w6 ⟨v6,e6,ho,b6⟩;have e6:e=.returned (.tuple #[.agg #[v6,.int .i64 0],.bool false]):=e6;subst e6;obtain⟨A6,c6,rfl,_,_⟩:=ho.open_at 0 rfl;have p6:=hd (zBt.weaken (l:=[]) ho (Nat.le_trans ar.o.size ac.o.size));clear ho;have ac:=hd (zI ac.o b6);clear b6 u0 u1 h0 h1;clear x0 x1 f0 f1 o0 o1 o2 o3 cL z0 z1 g0 g1;obtain⟨x0,x1,f0,f1⟩:=yb2 (dP.o _ ac.o);obtain⟨o0,o1,o2,o3⟩:=zD9 (dY.o _ ac.o);obtain⟨_,_,_,_,_,_,cL,_⟩:=zH2 (dY.o _ ac.o);obtain⟨z0,z1,g0,g1⟩:=yb2 (aR.o _ ac.o))
   |(go_at_call 48;refine Calls.mono (zW8 (k:=k) ((XA.own HO.o m8.o).later bI.o) uZ.o y8.o HC.o tj.o hb1 hb2 p1 p2) ?_;rintro e w6 ⟨v6,e6,ho,b6⟩;have e6:e=.returned (.tuple #[.agg #[v6,.int .i64 (off-pos)],.bool true]):=e6;subst e6;obtain⟨A6,c6,rfl,_,_⟩:=ho.open_at (k+1) fH.o;have p6:=hd (zBt.weaken (l:=addL x k 1) ho (Nat.le_trans ar.o.size ac.o.size));clear ho;have ac:=hd (zI ac.o b6);clear b6 u0 u1 h0 h1;clear x0 x1 f0 f1 o0 o1 o2 o3 cL z0 z1 g0 g1;obtain⟨x0,x1,f0,f1⟩:=yb2 (dP.o _ ac.o);obtain⟨o0,o1,o2,o3⟩:=zD9 (dY.o _ ac.o);obtain⟨_,_,_,_,_,_,cL,_⟩:=zH2 (dY.o _ ac.o);obtain⟨z0,z1,g0,g1⟩:=yb2 (aR.o _ ac.o))
   |(go_at_call 48;refine Calls.mono (zW7 ((XA.own HO.o m8.o).later bI.o) HC.o tj.o) ?_;rintro e w6 ⟨rfl,b6⟩;have p6:=hd ((HO.o.below bI.o).below b6);have ac:=hd (zI ac.o b6);clear b6 u0 u1 h0 h1;clear x0 x1 f0 f1 o0 o1 o2 o3 cL z0 z1 g0 g1;obtain⟨x0,x1,f0,f1⟩:=yb2 (dP.o _ ac.o);obtain⟨o0,o1,o2,o3⟩:=zD9 (dY.o _ ac.o);obtain⟨_,_,_,_,_,_,cL,_⟩:=zH2 (dY.o _ ac.o);obtain⟨z0,z1,g0,g1⟩:=yb2 (aR.o _ ac.o)))
 first|exact kNd|exact kNe|exact kNf|exact ymF|exact ymN|exact kM9|exact kNa|exact kNb|exact kNc
 ):P:=h
theorem ymP (h:P:=by
 have HM:=hd (decide_eq_true h);have g1:decide (off<0)=false:=decide_eq_false Kb;have g2:decide (1048576<off)=false:=decide_eq_false Kb;have nP:=hd (show x.length<=3000 by have h1:=zQy (K:=K) (pos:=pos) (q:=q) (t:=t) (p:=p);rw[hm]at h1;obtain⟨_,_,_,_,a1,a2,_⟩:=hp;obtain⟨_,_,_,_,b1,b2,_⟩:=ht;simp only at h1;omega);obtain⟨nx,hnx⟩:∃n,x.length=n:=⟨_,rfl⟩;have mz:=hd hnx;have aJ:nx<=3000:=hnx▸nP.o;have HR:=hd hm;(try(have hpos:=(zLo HR.o).2.2.2;rw[zKd]at hpos;obtain⟨p1,p2⟩:=hpos))
 (try have HS:=hd hs)
 (try have tj:=hd hps)
 (try have g3:decide (pos<off)=true:=decide_eq_true hps)
 (try have g3:decide (pos<off)=false:=decide_eq_false hps)
 (try have HC:=hd hc0)
 (try have qm:=hd (zX0 (q:=q) (t:=t) (pos:=pos) (x:=x) (by have h:=HR.o;have e2:q=p:=of_decide_eq_true HS.o;rw[<-e2,hK]at h;exact h)))
 (try have m8:=hd (show x.length<=1000 by rw[qm.o];obtain⟨_,_,_,_,b1,b2,_⟩:=hq;omega))
 (first
  | (have e3:(K==3)=false:=by simp[n3]
     have e4:(K==4)=false:=by simp[n4]
     have e7:(K==7)=false:=by simp[n7]
     have e8:(K==8)=false:=by simp[n8]
     clear n3 n4 n7 n8)
  | (first|have e3:(K==3)=true:=by simp[hK]|have e3:(K==3)=false:=by simp[hK]
     first|have e4:(K==4)=true:=by simp[hK]|have e4:(K==4)=false:=by simp[hK]
     first|have e7:(K==7)=true:=by simp[hK]|have e7:(K==7)=false:=by simp[hK]
     first|have e8:(K==8)=true:=by simp[hK]|have e8:(K==8)=false:=by simp[hK]
     clear hK)
  |skip)
 (try clear hps)
 (try clear hs)
 (try clear hc0)
 clear h hm hnx;exact ymS
 ):P:=h
theorem kLe {cx:Nat}{off:Int}(hp:XA W u p)(hq:XA W qv q)(ht:XA W tv t)(_hnt:nt<=1000000)(h:¬zDx aff):Calls Tryz.prog 20 #[.agg #[u,.int .i64 off],.agg #[.int .i64 K,qv,tv,.int .i64 pos,r4,r5,r6,r7,r8,r9,.slice TX nt cx,r11,r12,r13,r14,r15,r16,r17,r18,r19,r20],.int .i64 aff] W (zC3 W noP):=by
 have HM:=hd (decide_eq_false h);clear h;exact ymS
theorem kLf {cx:Nat}{off:Int}(hp:XA W u p)(hq:XA W qv q)(ht:XA W tv t)(_hnt:nt<=1000000)(h:zDx aff)(h1:off<0):Calls Tryz.prog 20 #[.agg #[u,.int .i64 off],.agg #[.int .i64 K,qv,tv,.int .i64 pos,r4,r5,r6,r7,r8,r9,.slice TX nt cx,r11,r12,r13,r14,r15,r16,r17,r18,r19,r20],.int .i64 aff] W (zC3 W noP):=by
 have HM:=hd (decide_eq_true h);have g1:decide (off<0)=true:=decide_eq_true h1;clear h h1;exact ymS
theorem kIi {cx:Nat}{off:Int}(hp:XA W u p)(hq:XA W qv q)(ht:XA W tv t)(_hnt:nt<=1000000)(h:zDx aff)(_h1:0<=off)(h2:1048576<off):Calls Tryz.prog 20 #[.agg #[u,.int .i64 off],.agg #[.int .i64 K,qv,tv,.int .i64 pos,r4,r5,r6,r7,r8,r9,.slice TX nt cx,r11,r12,r13,r14,r15,r16,r17,r18,r19,r20],.int .i64 aff] W (zC3 W noP):=by
 have HM:=hd (decide_eq_true h);have g1:decide (off<0)=false:=decide_eq_false Kb;have g2:decide (1048576<off)=true:=decide_eq_true h2;clear h h2;exact ymS
theorem kMw {cx:Nat}{off:Int}(hp:XA W u p)(hq:XA W qv q)(ht:XA W tv t)(_hnt:nt<=1000000)(h:zDx aff)(hb1:0<=off)(hb2:off<=1048576)(hm:jF K q t pos p=(x,false)):Calls Tryz.prog 20 #[.agg #[u,.int .i64 off],.agg #[.int .i64 K,qv,tv,.int .i64 pos,r4,r5,r6,r7,r8,r9,.slice TX nt cx,r11,r12,r13,r14,r15,r16,r17,r18,r19,r20],.int .i64 aff] W (zC3 W noP):=by
 exact ymP
theorem kLg {cx:Nat}{off:Int}(hp:XA W u p)(hq:XA W qv q)(ht:XA W tv t)(_hnt:nt<=1000000)(h:zDx aff)(hb1:0<=off)(hb2:off<=1048576)(hm:jF K q t pos p=(x,true))(hs:zEd q p=false):Calls Tryz.prog 20 #[.agg #[u,.int .i64 off],.agg #[.int .i64 K,qv,tv,.int .i64 pos,r4,r5,r6,r7,r8,r9,.slice TX nt cx,r11,r12,r13,r14,r15,r16,r17,r18,r19,r20],.int .i64 aff] W (zC3 W ((x,off),true)):=by
 exact ymP
theorem kIj {cx:Nat}{off:Int}(hp:XA W u p)(hq:XA W qv q)(ht:XA W tv t)(hnt:nt<=1000000)(h:zDx aff)(hb1:0<=off)(hb2:off<=1048576)(hm:jF K q t pos p=(x,true))(hs:zEd q p=true)(hK:K=7)(hps:zEl off pos aff=true):Calls Tryz.prog 20 #[.agg #[u,.int .i64 off],.agg #[.int .i64 K,qv,tv,.int .i64 pos,r4,r5,r6,r7,r8,r9,.slice TX nt cx,r11,r12,r13,r14,r15,r16,r17,r18,r19,r20],.int .i64 aff] W (zC3 W ((x,off+nt),true)):=by
 exact ymP
theorem kIk {cx:Nat}{off:Int}(hp:XA W u p)(hq:XA W qv q)(ht:XA W tv t)(_hnt:nt<=1000000)(h:zDx aff)(hb1:0<=off)(hb2:off<=1048576)(hm:jF K q t pos p=(x,true))(hs:zEd q p=true)(hK:K=7)(hps:zEl off pos aff=false):Calls Tryz.prog 20 #[.agg #[u,.int .i64 off],.agg #[.int .i64 K,qv,tv,.int .i64 pos,r4,r5,r6,r7,r8,r9,.slice TX nt cx,r11,r12,r13,r14,r15,r16,r17,r18,r19,r20],.int .i64 aff] W (zC3 W ((x,off),true)):=by
 exact ymP
theorem kEr {cx:Nat}{off:Int}(hp:XA W u p)(hq:XA W qv q)(ht:XA W tv t)(hnt:nt<=1000000)(h:zDx aff)(hb1:0<=off)(hb2:off<=1048576)(hm:jF K q t pos p=(x,true))(hs:zEd q p=true)(hK:K=8)(hps:pos<off)(hmx:off-(nt:Int)<pos):Calls Tryz.prog 20 #[.agg #[u,.int .i64 off],.agg #[.int .i64 K,qv,tv,.int .i64 pos,r4,r5,r6,r7,r8,r9,.slice TX nt cx,r11,r12,r13,r14,r15,r16,r17,r18,r19,r20],.int .i64 aff] W (zC3 W ((x,pos),true)):=by
 exact ymP
theorem kEs {cx:Nat}{off:Int}(hp:XA W u p)(hq:XA W qv q)(ht:XA W tv t)(hnt:nt<=1000000)(h:zDx aff)(hb1:0<=off)(hb2:off<=1048576)(hm:jF K q t pos p=(x,true))(hs:zEd q p=true)(hK:K=8)(hps:pos<off)(hmx:¬off-(nt:Int)<pos):Calls Tryz.prog 20 #[.agg #[u,.int .i64 off],.agg #[.int .i64 K,qv,tv,.int .i64 pos,r4,r5,r6,r7,r8,r9,.slice TX nt cx,r11,r12,r13,r14,r15,r16,r17,r18,r19,r20],.int .i64 aff] W (zC3 W ((x,off-nt),true)):=by
 exact ymP
theorem kIl {cx:Nat}{off:Int}(hp:XA W u p)(hq:XA W qv q)(ht:XA W tv t)(_hnt:nt<=1000000)(h:zDx aff)(hb1:0<=off)(hb2:off<=1048576)(hm:jF K q t pos p=(x,true))(hs:zEd q p=true)(hK:K=8)(hps:¬pos<off):Calls Tryz.prog 20 #[.agg #[u,.int .i64 off],.agg #[.int .i64 K,qv,tv,.int .i64 pos,r4,r5,r6,r7,r8,r9,.slice TX nt cx,r11,r12,r13,r14,r15,r16,r17,r18,r19,r20],.int .i64 aff] W (zC3 W ((x,off),true)):=by
 exact ymP
theorem kIm {cx:Nat}{off:Int}(hp:XA W u p)(hq:XA W qv q)(ht:XA W tv t)(_hnt:nt<=1000000)(h:zDx aff)(hb1:0<=off)(hb2:off<=1048576)(hm:jF K q t pos p=(x,true))(hs:zEd q p=true)(hK:K=3)(hq0:q.length=0):Calls Tryz.prog 20 #[.agg #[u,.int .i64 off],.agg #[.int .i64 K,qv,tv,.int .i64 pos,r4,r5,r6,r7,r8,r9,.slice TX nt cx,r11,r12,r13,r14,r15,r16,r17,r18,r19,r20],.int .i64 aff] W (zC3 W ((x,off),true)):=by
 exact ymP
theorem kIn {cx:Nat}{off:Int}(hp:XA W u p)(hq:XA W qv q)(ht:XA W tv t)(_hnt:nt<=1000000)(h:zDx aff)(hb1:0<=off)(hb2:off<=1048576)(hm:jF K q t pos p=(x,true))(hs:zEd q p=true)(hK:K=3)(hq0:q.length≠0):Calls Tryz.prog 20 #[.agg #[u,.int .i64 off],.agg #[.int .i64 K,qv,tv,.int .i64 pos,r4,r5,r6,r7,r8,r9,.slice TX nt cx,r11,r12,r13,r14,r15,r16,r17,r18,r19,r20],.int .i64 aff] W (zC3 W ((x,off+pos),true)):=by
 exact ymP
theorem kIo {cx:Nat}{off:Int}(hp:XA W u p)(hq:XA W qv q)(ht:XA W tv t)(_hnt:nt<=1000000)(h:zDx aff)(hb1:0<=off)(hb2:off<=1048576)(hm:jF K q t pos p=(x,true))(hs:zEd q p=true)(hK:K=4)(hq0:q.length=0):Calls Tryz.prog 20 #[.agg #[u,.int .i64 off],.agg #[.int .i64 K,qv,tv,.int .i64 pos,r4,r5,r6,r7,r8,r9,.slice TX nt cx,r11,r12,r13,r14,r15,r16,r17,r18,r19,r20],.int .i64 aff] W (zC3 W ((x,off),true)):=by
 exact ymP
theorem kIp {cx:Nat}{off:Int}(hp:XA W u p)(hq:XA W qv q)(ht:XA W tv t)(_hnt:nt<=1000000)(h:zDx aff)(hb1:0<=off)(hb2:off<=1048576)(hm:jF K q t pos p=(x,true))(hs:zEd q p=true)(hK:K=4)(hq0:q.length≠0)(hc0:pos=off/\aff=0):Calls Tryz.prog 20 #[.agg #[u,.int .i64 off],.agg #[.int .i64 K,qv,tv,.int .i64 pos,r4,r5,r6,r7,r8,r9,.slice TX nt cx,r11,r12,r13,r14,r15,r16,r17,r18,r19,r20],.int .i64 aff] W (zC3 W noP):=by
 exact ymP
theorem kIq {cx:Nat}{off:Int}(hp:XA W u p)(hq:XA W qv q)(ht:XA W tv t)(_hnt:nt<=1000000)(h:zDx aff)(hb1:0<=off)(hb2:off<=1048576)(hm:jF K q t pos p=(x,true))(hs:zEd q p=true)(hK:K=4)(hq0:q.length≠0)(hc0:¬(pos=off/\aff=0))(hps:zEl off pos aff=true):Calls Tryz.prog 20 #[.agg #[u,.int .i64 off],.agg #[.int .i64 K,qv,tv,.int .i64 pos,r4,r5,r6,r7,r8,r9,.slice TX nt cx,r11,r12,r13,r14,r15,r16,r17,r18,r19,r20],.int .i64 aff] W (zC3 W ((addL q (q.length-1) 1,off-pos),true)):=by
 exact ymP
theorem kIr {cx:Nat}{off:Int}(hp:XA W u p)(hq:XA W qv q)(ht:XA W tv t)(_hnt:nt<=1000000)(h:zDx aff)(hb1:0<=off)(hb2:off<=1048576)(hm:jF K q t pos p=(x,true))(hs:zEd q p=true)(hK:K=4)(hq0:q.length≠0)(hc0:¬(pos=off/\aff=0))(hps:zEl off pos aff=false):Calls Tryz.prog 20 #[.agg #[u,.int .i64 off],.agg #[.int .i64 K,qv,tv,.int .i64 pos,r4,r5,r6,r7,r8,r9,.slice TX nt cx,r11,r12,r13,r14,r15,r16,r17,r18,r19,r20],.int .i64 aff] W (zC3 W ((x,off),true)):=by
 exact ymP
theorem kLh {cx:Nat}{off:Int}(hp:XA W u p)(hq:XA W qv q)(ht:XA W tv t)(_hnt:nt<=1000000)(h:zDx aff)(hb1:0<=off)(hb2:off<=1048576)(hm:jF K q t pos p=(x,true))(hs:zEd q p=true)(n3:K≠3)(n4:K≠4)(n7:K≠7)(n8:K≠8):Calls Tryz.prog 20 #[.agg #[u,.int .i64 off],.agg #[.int .i64 K,qv,tv,.int .i64 pos,r4,r5,r6,r7,r8,r9,.slice TX nt cx,r11,r12,r13,r14,r15,r16,r17,r18,r19,r20],.int .i64 aff] W (zC3 W ((x,off),true)):=by
 exact ymP
theorem kEt {v:Value}{cx:Nat}{p:List Int×Int}(hp:PA W v p)(hq:XA W qv q)(ht:XA W tv t)(hnt:nt<=1000000)(hr:zEr K q t pos nt aff p=r):
  Calls Tryz.prog 20 #[v,.agg #[.int .i64 K,qv,tv,.int .i64 pos,r4,r5,r6,r7,r8,r9,.slice TX nt cx,r11,r12,r13,r14,r15,r16,r17,r18,r19,r20],.int .i64 aff] W (zC3 W r):=by
 subst hr;obtain⟨u,rfl,hp⟩:=hp;obtain⟨p,off⟩:=p;simp only at hp⊢;by_cases ha:zDx aff
 ·by_cases h1:off<0
  ·rw[zP9 (fun h=>by simp only at h;omega)];exact kLf hp hq ht hnt ha h1
  by_cases h2:1048576<off
  ·rw[zP9 (fun h=>by simp only at h;omega)];exact kIi hp hq ht hnt ha Kb h2
  have b1:0<=off:=Kb;have b2:off<=1048576:=Kb;obtain⟨⟨x,e⟩,hm⟩:∃z,jF K q t pos p=z:=⟨_,rfl⟩;cases e
  ·rw[zVj (p:=(p,off)) hm];exact kMw hp hq ht hnt ha b1 b2 hm
  rw[kB4 (p:=(p,off)) ha b1 b2 hm];simp only;by_cases qp:q=p
  ·rw [if_pos qp];have hs:zEd q p=true:=decide_eq_true qp;unfold zXx;by_cases k7:K=7
   ·rw[if_pos k7];cases hps:zEl off pos aff
    ·exact kIk hp hq ht hnt ha b1 b2 hm hs k7 hps
    ·exact kIj hp hq ht hnt ha b1 b2 hm hs k7 hps
   rw[if_neg k7];by_cases k8:K=8
   ·rw[if_pos k8];by_cases hps:pos<off
    ·rw[if_pos hps];by_cases hmx:off-(nt:Int)<pos
     ·rw[show max (off-(nt:Int)) pos=pos by omega];exact kEr hp hq ht hnt ha b1 b2 hm hs k8 hps hmx
     ·rw[show max (off-(nt:Int)) pos=off-nt by omega];exact kEs hp hq ht hnt ha b1 b2 hm hs k8 hps hmx
    ·rw[if_neg hps];exact kIl hp hq ht hnt ha b1 b2 hm hs k8 hps
   rw[if_neg k8];by_cases k3:K=3
   ·by_cases h0:q.length=0
    ·rw[if_neg (fun h=>h.2 h0),if_neg (fun h=>h.2 h0)];exact kIm hp hq ht hnt ha b1 b2 hm hs k3 h0
    ·rw[if_pos ⟨k3,h0⟩];exact kIn hp hq ht hnt ha b1 b2 hm hs k3 h0
   rw[if_neg (fun h=>k3 h.1)];by_cases k4:K=4
   ·by_cases h0:q.length=0
    ·rw[if_neg (fun h=>h.2 h0)];exact kIo hp hq ht hnt ha b1 b2 hm hs k4 h0
    ·rw[if_pos ⟨k4,h0⟩];by_cases hc:pos=off/\aff=0
     ·rw[if_pos hc];exact kIp hp hq ht hnt ha b1 b2 hm hs k4 h0 hc
     ·rw[if_neg hc];cases hps:zEl off pos aff
      ·exact kIr hp hq ht hnt ha b1 b2 hm hs k4 h0 hc hps
      ·exact kIq hp hq ht hnt ha b1 b2 hm hs k4 h0 hc hps
   rw[if_neg (fun h=>k4 h.1)];exact kLh hp hq ht hnt ha b1 b2 hm hs k3 k4 k7 k8
  ·rw[if_neg qp];exact kLg hp hq ht hnt ha b1 b2 hm (decide_eq_false qp)
 ·rw[zXy ha];exact kLe hp hq ht hnt ha
theorem zB4 {c:PC}{o:OC}{p:List Int×Int}{a:OpP}(hp:kAw w c p)(ho:OkA w o a)(ta:zAf a)(hl:p.1.length<=60)(hr:zEr a.k a.q a.t a.z a.x.length 1 p=r):Calls Tryz.prog 20 #[.agg c.row,.agg o.row,.int .i64 1] w (kK5 w r):=by
 have h1:=ta.hq;have h2:=ta.ht;have h3:=ta.hx;have h4:=ho.hnx;have hm:=zXz (K:=a.k) (q:=a.q) (t:=a.t) (pos:=a.z) (n:=a.x.length) (aff:=1) (p:=p);rw[hr]at hm;rw[ho.hk,ho.hz,h4]at hr;refine(kEt hp.pa (ho.xq12 ta) (ho.xt12 ta) Kb hr).mono fun e w' h=>?_;obtain⟨v,rfl,h5,h6⟩:=h;obtain⟨A,k,d,rfl,e1,e2,e3,e4⟩:=XA.own h5 Kb;exact⟨⟨A,k,d,r.1.2⟩,rfl,⟨rfl,e1,e3,e2,e4⟩,h6⟩
theorem zB5 {c d:PC}{p q:List Int×Int}{E:Bool}(hp:kAw w c p)(hq:kAw w d q)(hE:samP p q=E):Calls Tryz.prog 63 #[.agg c.row,.agg d.row] w (jA (.bool E) w):=by
 subst hE;have:=zQj c.A d.A p q c.n d.n c.c d.c w hp.hn hq.hn (by have:=hp.hm;omega) (by have:=hq.hm;omega) hp.hA hq.hA;rw[hp.hx,hq.hx]at this;exact this
noncomputable def kEu (p:List Int×Int)(o:OpP):Bool:=decide (zEr o.k o.q o.t o.z o.x.length 1 p=(p,true))
theorem zSa (p:List Int×Int)(o:OpP):zBl p o=(kEu p o&&kEu p (zGl o).1):=rfl
theorem zPx {p q:List Int×Int}{o:OpP}{b:Bool}(h:zEr o.k o.q o.t o.z o.x.length 1 p=(q,b)):kEu p o=(b&&samP p q):=by
 unfold kEu;rw[h,Bool.eq_iff_iff];simp only[Bool.and_eq_true,decide_eq_true_eq,kH8,Prod.mk.injEq];constructor
 ·rintro⟨rfl,rfl⟩;exact⟨rfl,rfl⟩
 ·rintro⟨rfl,rfl⟩;exact⟨rfl,rfl⟩
theorem zIj {t:TypeId}{a b:Array Value}(h:w.heap[g]? =some (.cells (a++b) t (0,0))):w.rangeAt g 0 a.toList/\w.rangeAt g a.size b.toList:=by
 refine⟨fun i v hi=>?_,fun i v hi=>?_⟩
 ·have hl:i<a.size:=by have:=(List.getElem?_eq_some_iff.1 hi).1;simpa using this
  rw[Nat.zero_add];have e:(a++b)[i]? =some v:=by rw[Array.getElem?_append_left hl];simpa using hi
  simp[World.cell?,h,e]
 ·have hl:i<b.size:=by have:=(List.getElem?_eq_some_iff.1 hi).1;simpa using this
  have e:(a++b)[a.size+i]? =some v:=by rw[Array.getElem?_append_right Kb,Nat.add_sub_cancel_left];simpa using hi
  simp[World.cell?,h,e]
theorem kK {n:Nat}(hrow:kC5 ty n){r:Array Value}(h:w.rangeAt g j r.toList)(hn:r.size=n)
  (x:Operand) (ho:op.op=.load ty x) (hgd:op.guard=none) (hx:a.eval x=.pointer (some ⟨g,j,none⟩)) (hk:wpList Tryz.prog ops Q rest (a.put op.dst (.agg r)) w):wpList Tryz.prog ops Q (op::rest) a w:=by
 obtain⟨d,h1,h2,h3⟩:=hrow;exact wpList_load_mid hgd ty x ho g j hx r.toList d h h1 h2 (by rw[h3,<-hn];simp) hk
theorem zE4 {w':World}{r:List Value}(h:w.rangeAt g j r)(hb:Below w.heap.size w w'):w'.rangeAt g j r:=fun i v hi=>(hb.cell (kQ (h i v hi))).trans (h i v hi)
theorem zPy {t:TypeId}(hu:Tryz.prog.underlying ts=some (.slice t))(hinfo:(Tryz.prog.info? t).map (fun i=>(i.zero,i.size,i.bytes))=some (some (.agg z),s,b))(hs:0<s)(hs2:s<=1000)(W:World)(c d:Array Value)(hc:c.size=s)(hd:d.size=s):
  (Instr.buildSlice ts 2 #[(0,.agg c),(1,.agg d)]).run Tryz.prog W=.ok (.slice (some ⟨W.heap.size,0,none⟩) 2 2) (W.alloc (.cells (c++d) t)):=by
 obtain⟨i0,hi,hz0,hz1,hz2⟩:=info_parts hinfo;refine run_buildSlice (P:=Tryz.prog) W ts t 2 #[(0,.agg c),(1,.agg d)] (c++d) i0 _ hu hi hz0 (by rw[hz1];omega) (by rw[hz1];omega) ?_;rw[hz1];have h:=Great.fill_whole (s:=s) hs [Value.agg c,Value.agg d] ((Array.range (2*s)).map ((Value.agg z).cells[· % (Value.agg z).cells.size]!)) (by intro v hv;simp at hv;rcases hv with rfl|rfl<;>assumption) Kc;exact h.trans (by simp[Value.cells])
theorem zEq {t:TypeId}(hu:Tryz.prog.underlying ts=some (.slice t))(hinfo:(Tryz.prog.info? t).map (fun i=>(i.zero,i.size,i.bytes))=some (some (.agg z),s,b))(hs:0<s)(hs2:s<=1000){o:Oper}{c d:Array Value}(hc:c.size=s)(hd:d.size=s)(x y:Operand)(ho:o.op=.buildSlice ts 2 #[(0,x),(1,y)])(hgd:o.guard=none)(hx:a.eval x=.agg c)(hy:a.eval y=.agg d)
  (hk:wpList Tryz.prog ops Q rest (a.put o.dst (.slice (some ⟨W.heap.size,0,none⟩) 2 2)) (W.alloc (.cells (c++d) t))):wpList Tryz.prog ops Q (o::rest) a W:=by
 refine wpList_plain hgd fun K hK=>?_;unfold Oper.wp execOp;simp only[ho,List.map_toArray,List.map_cons,List.map_nil,hx,hy,Sem.run_bind,zPy hu hinfo hs hs2 W c d hc hd,Result.andThen_ok];exact hK _ _ hk
theorem zEa {t:TypeId}{r:Array Value}(h:jT t w g r){vs:List Value}
  (hrow:∃d,Tryz.prog.underlying ty=some d/\d.isRow=true/\(Tryz.prog.info? ty).map (·.size)=some vs.length) (x:Operand) (ho:op.op=.load ty x) (hgd:op.guard=none) (hx:a.eval x=.pointer (some ⟨g,j,none⟩)) (hv:(r.extract j (j+vs.length)).toList=vs) (hk:wpList Tryz.prog ops Q rest (a.put op.dst (.agg vs.toArray)) w):wpList Tryz.prog ops Q (op::rest) a w:=by
 obtain⟨d,h1,h2,h3⟩:=hrow;refine wpList_load_mid hgd ty x ho g j hx vs d (fun i v hi=>?_) h1 h2 h3 hk;refine h.cell (j+i) v ?_;rw[<-hv]at hi;simp only[Array.toList_extract,List.extract_eq_take_drop,List.getElem?_take,List.getElem?_drop]at hi;split at hi
 ·simpa using hi
 ·cases hi
theorem kEv :(Tryz.prog.info? 35).map (fun i=>(i.zero,i.size,i.bytes))=some (some (.agg OC.zero.row),21,360):=Ka
theorem zNd {P:Program}{dst:Option Nat}{k:Nat}{ps:Array (Nat×Operand)}{t:TypeId}{pos:String}{af:Array Edge}(h:wpList P ops Q ({dst:=dst,op:=.buildSlice ty k ps,type:=t,pos:=pos,after:=af,guard:=none}::rest) a w):wpList P ops Q ({dst:=dst,op:=.buildSlice ty k ps,type:=t,pos:=pos,after:=af,guard:=none}::rest) a w:=h
theorem kFv :(Tryz.prog.info? 29).map (fun i=>(i.zero,i.size,i.bytes))=some (some (.agg #[.slice none 0 0,.int .i64 0]),2,32):=Ka
