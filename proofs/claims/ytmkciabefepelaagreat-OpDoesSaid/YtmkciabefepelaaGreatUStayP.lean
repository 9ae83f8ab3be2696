import Derived.Test.YtmkciabefepelaaGreatJORStays
import Derived.Test.YtmkciabefepelaaGreatJYMove2
import Derived.Great.BuildSlice
set_option maxRecDepth 100000
namespace Go.Proofs.YtmkciabefepelaaGreat
open Go.RowKit
variable {W w:World}{p q:List Int×Int}{a:Act}{t ts ty:TypeId}{b g j:Nat}{ops:Array Oper}{rest:List Oper}{op:Oper}{Q:Exit->Act->World->Prop}{r z:Array Value}
theorem zB4 {c:PC}{o:OC}{a:OpP}{r:(List Int×Int)×Bool}(hp:kAw w c p)(ho:OkA w o a)(ta:zAf a)(hl:p.1.length<=60)(hr:zEr a.k a.q a.t a.z a.x.length 1 p=r):Calls Tryz.prog 87 #[.agg c.row,.agg o.row,.int .i64 1] w (kK5 w r):=by
 have h1:=ta.hq;have h2:=ta.ht;have h3:=ta.hx;have h4:=ho.hnx;have hm:=zXz (K:=a.k) (q:=a.q) (t:=a.t) (pos:=a.z) (n:=a.x.length) (aff:=1) (p:=p);rw[hr]at hm;rw[ho.hk,ho.hz,h4]at hr;refine(kEt hp.pa (ho.xq12 ta) (ho.xt12 ta) Kb hr).mono fun e w' h=>?_;obtain⟨v,rfl,h5,h6⟩:=h;obtain⟨A,k,d,rfl,e1,e2,e3,e4⟩:=XA.own h5 Kb;exact⟨⟨A,k,d,r.1.2⟩,rfl,⟨rfl,e1,e3,e2,e4⟩,h6⟩
theorem zB5 {c d:PC}{E:Bool}(hp:kAw w c p)(hq:kAw w d q)(hE:samP p q=E):Calls Tryz.prog 57 #[.agg c.row,.agg d.row] w (jA (.bool E) w):=by
 subst hE;have:=zQj c.A d.A p q c.n d.n c.c d.c w hp.hn hq.hn (by have:=hp.hm;omega) (by have:=hq.hm;omega) hp.hA hq.hA;rw[hp.hx,hq.hx]at this;exact this
noncomputable def kEu (p:List Int×Int)(o:OpP):Bool:=decide (zEr o.k o.q o.t o.z o.x.length 1 p=(p,true))
theorem zSa (p:List Int×Int)(o:OpP):zBl p o=(kEu p o&&kEu p (zGl o).1):=rfl
theorem zPx {o:OpP}{b:Bool}(h:zEr o.k o.q o.t o.z o.x.length 1 p=(q,b)):kEu p o=(b&&samP p q):=by
 unfold kEu;rw[h,Bool.eq_iff_iff];simp only[Bool.and_eq_true,decide_eq_true_eq,kH8,Prod.mk.injEq];constructor
 ·rintro⟨rfl,rfl⟩;exact⟨rfl,rfl⟩
 ·rintro⟨rfl,rfl⟩;exact⟨rfl,rfl⟩
theorem zIj {a b:Array Value}(h:w.heap[g]? =some (.cells (a++b) t (0,0))):w.rangeAt g 0 a.toList/\w.rangeAt g a.size b.toList:=by
 refine⟨fun i v hi=>?_,fun i v hi=>?_⟩
 ·have hl:i<a.size:=by have:=(List.getElem?_eq_some_iff.1 hi).1;simpa using this
  rw[Nat.zero_add];have e:(a++b)[i]? =some v:=by rw[Array.getElem?_append_left hl];simpa using hi
  simp[World.cell?,h,e]
 ·have hl:i<b.size:=by have:=(List.getElem?_eq_some_iff.1 hi).1;simpa using this
  have e:(a++b)[a.size+i]? =some v:=by rw[Array.getElem?_append_right Kb,Nat.add_sub_cancel_left];simpa using hi
  simp[World.cell?,h,e]
theorem kK {n:Nat}(hrow:kC5 ty n)(h:w.rangeAt g j r.toList)(hn:r.size=n)
  (x:Operand) (ho:op.op=.load ty x) (hgd:op.guard=none) (hx:a.eval x=.pointer (some ⟨g,j,none⟩)) (hk:wpList Tryz.prog ops Q rest (a.put op.dst (.agg r)) w):wpList Tryz.prog ops Q (op::rest) a w:=by
 obtain⟨d,h1,h2,h3⟩:=hrow;exact wpList_load_mid hgd ty x ho g j hx r.toList d h h1 h2 (by rw[h3,<-hn];simp) hk
theorem zE4 {w':World}{r:List Value}(h:w.rangeAt g j r)(hb:Below w.heap.size w w'):w'.rangeAt g j r:=fun i v hi=>(hb.cell (kQ (h i v hi))).trans (h i v hi)
theorem zPy {s:Nat}(hu:Tryz.prog.underlying ts=some (.slice t))(hinfo:(Tryz.prog.info? t).map (fun i=>(i.zero,i.size,i.bytes))=some (some (.agg z),s,b))(hs:0<s)(hs2:s<=1000)(W:World)(c d:Array Value)(hc:c.size=s)(hd:d.size=s):
  (Instr.buildSlice ts 2 #[(0,.agg c),(1,.agg d)]).run Tryz.prog W=.ok (.slice (some ⟨W.heap.size,0,none⟩) 2 2) (W.alloc (.cells (c++d) t)):=by
 obtain⟨i0,hi,hz0,hz1,hz2⟩:=info_parts hinfo;refine run_buildSlice (P:=Tryz.prog) W ts t 2 #[(0,.agg c),(1,.agg d)] (c++d) i0 _ hu hi hz0 (by rw[hz1];omega) (by rw[hz1];omega) ?_;rw[hz1];have h:=Great.fill_whole (s:=s) hs [Value.agg c,Value.agg d] ((Array.range (2*s)).map ((Value.agg z).cells[· % (Value.agg z).cells.size]!)) (by intro v hv;simp at hv;rcases hv with rfl|rfl<;>assumption) Kc;exact h.trans (by simp[Value.cells])
theorem zEq {s:Nat}(hu:Tryz.prog.underlying ts=some (.slice t))(hinfo:(Tryz.prog.info? t).map (fun i=>(i.zero,i.size,i.bytes))=some (some (.agg z),s,b))(hs:0<s)(hs2:s<=1000){o:Oper}{c d:Array Value}(hc:c.size=s)(hd:d.size=s)(x y:Operand)(ho:o.op=.buildSlice ts 2 #[(0,x),(1,y)])(hgd:o.guard=none)(hx:a.eval x=.agg c)(hy:a.eval y=.agg d)
  (hk:wpList Tryz.prog ops Q rest (a.put o.dst (.slice (some ⟨W.heap.size,0,none⟩) 2 2)) (W.alloc (.cells (c++d) t))):wpList Tryz.prog ops Q (o::rest) a W:=by
 refine wpList_plain hgd fun K hK=>?_;unfold Oper.wp execOp;simp only[ho,List.map_toArray,List.map_cons,List.map_nil,hx,hy,Sem.run_bind,zPy hu hinfo hs hs2 W c d hc hd,Result.andThen_ok];exact hK _ _ hk
theorem zEa (h:jT t w g r){vs:List Value}
  (hrow:∃d,Tryz.prog.underlying ty=some d/\d.isRow=true/\(Tryz.prog.info? ty).map (·.size)=some vs.length) (x:Operand) (ho:op.op=.load ty x) (hgd:op.guard=none) (hx:a.eval x=.pointer (some ⟨g,j,none⟩)) (hv:(r.extract j (j+vs.length)).toList=vs) (hk:wpList Tryz.prog ops Q rest (a.put op.dst (.agg vs.toArray)) w):wpList Tryz.prog ops Q (op::rest) a w:=by
 obtain⟨d,h1,h2,h3⟩:=hrow;refine wpList_load_mid hgd ty x ho g j hx vs d (fun i v hi=>?_) h1 h2 h3 hk;refine h.cell (j+i) v ?_;rw[<-hv]at hi;simp only[Array.toList_extract,List.extract_eq_take_drop,List.getElem?_take,List.getElem?_drop]at hi;split at hi
 ·simpa using hi
 ·cases hi
theorem kEv :(Tryz.prog.info? 35).map (fun i=>(i.zero,i.size,i.bytes))=some (some (.agg OC.zero.row),21,360):=Ka
theorem zNd {P:Program}{dst:Option Nat}{k:Nat}{ps:Array (Nat×Operand)}{pos:String}{af:Array Edge}(h:wpList P ops Q ({dst:=dst,op:=.buildSlice ty k ps,type:=t,pos:=pos,after:=af,guard:=none}::rest) a w):wpList P ops Q ({dst:=dst,op:=.buildSlice ty k ps,type:=t,pos:=pos,after:=af,guard:=none}::rest) a w:=h
theorem kFv :(Tryz.prog.info? 29).map (fun i=>(i.zero,i.size,i.bytes))=some (some (.agg #[.slice none 0 0,.int .i64 0]),2,32):=Ka
structure V2 (w:World)(s:SC)(o:OC)(W:World):Prop where
 v2:jT 33 W w.heap.size s.row
 v3:jR W (w.heap.size+1) o
 below:Below w.heap.size w W
theorem V2.call {W':World}{s:SC}{o:OC}(h:V2 w s o W)(hb:Below W.heap.size W W'):V2 w s o W':=⟨h.v2.keep hb,h.v3.keep hb,zI h.below hb⟩
theorem kIy (w:World)(s:SC)(o:OC):∃W0,(w.alloc (.cells s.row 33)).alloc (.cells o.row 35)=W0/\V2 w s o W0:=by
 have e1:(w.alloc (.cells s.row 33)).heap.size=w.heap.size+1:=by simp
 have h1:=(jT.new w 33 s.row).alloc (.cells o.row 35);have h2:=jR.new (w.alloc (.cells s.row 33)) o;rw[e1]at h2;exact⟨_,rfl,h1,h2,(Kk.alloc Kl _).alloc Kc _⟩
theorem kY4 {P:Prop}(h:P:=by
 go_wp2_with(first
  |((with_reducible refine zC (ty:=29) (x:=.tmp 36) ?_);refine kK zW (r:=PC.row (PC.mk s.B s.m s.d s.y)) nK.o rfl _ rfl rfl rfl ?_)
  |((with_reducible refine zC (ty:=29) (x:=.tmp 36) ?_);refine kK zW (r:=PC.row (PC.mk s.A s.n s.c s.x)) nK.o rfl _ rfl rfl rfl ?_)
  |((with_reducible refine zC (ty:=29) (x:=.tmp 10) ?_);refine zB zW ag.o rfl _ rfl rfl rfl ?_)
  |((with_reducible refine zF (ty:=29) (x:=.tmp 10) ?_);refine zA zW (r:=PC.row (PC.mk s.B s.m s.d s.y)) (jT.new wr 29 #[.slice none 0 0,.int .i64 0]) rfl rfl (PC.one _) _ _ rfl rfl rfl rfl rfl ?_;intro W6 hv az;have ag:=hd hv;have aH:=hd (zN (zQ wr (.cells #[.slice none 0 0,.int .i64 0] 29)) az Kl);have HM:=hd (HM.o.call aH.o);have dz:=hd (dz.o.later aH.o);have bc:=hd (bc.o.later aH.o);have cH:=hd (cH.o.keep aH.o);have aM:=hd (zI aM.o aH.o);clear hv az aH)
  |((with_reducible refine zF (ty:=29) (x:=.tmp 10) ?_);refine zA zW (r:=PC.row (PC.mk s.A s.n s.c s.x)) (jT.new wr 29 #[.slice none 0 0,.int .i64 0]) rfl rfl (PC.one _) _ _ rfl rfl rfl rfl rfl ?_;intro W6 hv az;have ag:=hd hv;have aH:=hd (zN (zQ wr (.cells #[.slice none 0 0,.int .i64 0] 29)) az Kl);have HM:=hd (HM.o.call aH.o);have dz:=hd (dz.o.later aH.o);have bc:=hd (bc.o.later aH.o);have cH:=hd (cH.o.keep aH.o);have aM:=hd (zI aM.o aH.o);clear hv az aH)
  |((with_reducible refine zF (ty:=29) (x:=.tmp 11) ?_);refine zA zW (r:=c11.row) (jT.new w7 29 #[.slice none 0 0,.int .i64 0]) rfl rfl (PC.one _) _ _ rfl rfl rfl rfl rfl ?_;intro W8 hv az;have dB:=hd hv;have aH:=hd (zN (zQ w7 (.cells #[.slice none 0 0,.int .i64 0] 29)) az Kl);have HM:=hd (HM.o.call aH.o);have bc:=hd (bc.o.later aH.o);have HQ:=hd (HQ.o.later aH.o);have ag:=hd (ag.o.keep aH.o);have aM:=hd (zI aM.o aH.o);clear hv az aH)
  |((with_reducible refine zC (ty:=35) (x:=.tmp 8) ?_);refine zG cH.o _ rfl rfl rfl ?_)
  |(go_at_call 87;refine Calls.mono (zB4 bc.o dz.o qp.o di.o yJ.o) ?_;rintro e w7 ⟨c11,rfl,h1,b9⟩;have HQ:=hd h1;have HM:=hd (HM.o.call b9);have ag:=hd (ag.o.keep b9);have bc:=hd (bc.o.later b9);have aM:=hd (zI aM.o b9);clear b9 h1;dsimp only)
  |(go_at_call 87;refine Calls.mono (zB4 bc.o dz.o qp.o mg.o yK.o) ?_;rintro e w7 ⟨c11,rfl,h1,b9⟩;have HQ:=hd h1;have HM:=hd (HM.o.call b9);have ag:=hd (ag.o.keep b9);have bc:=hd (bc.o.later b9);have aM:=hd (zI aM.o b9);clear b9 h1;dsimp only)
  |(go_at_call 87;refine Calls.mono (zB4 bc.o dz.o aA.o di.o yL.o) ?_;rintro e w7 ⟨c11,rfl,h1,b9⟩;have HQ:=hd h1;have HM:=hd (HM.o.call b9);have ag:=hd (ag.o.keep b9);have bc:=hd (bc.o.later b9);have aM:=hd (zI aM.o b9);clear b9 h1;dsimp only)
  |(go_at_call 87;refine Calls.mono (zB4 bc.o dz.o aA.o mg.o yM.o) ?_;rintro e w7 ⟨c11,rfl,h1,b9⟩;have HQ:=hd h1;have HM:=hd (HM.o.call b9);have ag:=hd (ag.o.keep b9);have bc:=hd (bc.o.later b9);have aM:=hd (zI aM.o b9);clear b9 h1;dsimp only)
  |((with_reducible refine kH (ty:=29) (x:=.tmp 10) ?_);refine zK zW ag.o rfl _ rfl Ke rfl ?_)
  |((with_reducible refine kH (ty:=29) (x:=.tmp 11) ?_);refine zK zW dB.o rfl _ rfl Ke rfl ?_)
  |(go_at_call 57;refine Calls.mono (zB5 bc.o HQ.o yN.o) ?_;rintro e w9 ⟨rfl,b9⟩;have HM:=hd (HM.o.call b9);have aM:=hd (zI aM.o b9);clear b9)
  |(go_at_call 57;refine Calls.mono (zB5 bc.o HQ.o yO.o) ?_;rintro e w9 ⟨rfl,b9⟩;have HM:=hd (HM.o.call b9);have aM:=hd (zI aM.o b9);clear b9)
  |(go_at_call 57;refine Calls.mono (zB5 bc.o HQ.o yP.o) ?_;rintro e w9 ⟨rfl,b9⟩;have HM:=hd (HM.o.call b9);have aM:=hd (zI aM.o b9);clear b9)
  |(go_at_call 57;refine Calls.mono (zB5 bc.o HQ.o yQ.o) ?_;rintro e w9 ⟨rfl,b9⟩;have HM:=hd (HM.o.call b9);have aM:=hd (zI aM.o b9);clear b9)
  |fail)
 go_ret
 exact⟨by have h:=mj.o;subst h;rfl,HM.o.below⟩):P:=h
set_option maxHeartbeats 8000000 in
theorem zVh {s:SC}{o:OC}{sl:Sl}{a:OpP}{E:Bool}(hs:zB1 w s sl)(hf:fewS sl=true)(ho:OkA w o a)(ta:zAf a)(hE:(zBl sl.a a&&zBl sl.f a)=E):Calls Tryz.prog 43 #[.agg s.row,.agg o.row] w (jA (.bool E) w):=by
 obtain⟨yR,yS,la,lf⟩:=zW9 hs hf;obtain⟨⟨ai,ei⟩,hi⟩:∃r,zGl a=r:=⟨_,rfl⟩;have hti:=zT5 ta;rw[zSa,zSa]at hE;rw[hi]at hti hE;dsimp only at hti hE;have hin:=fun(W:World)(h:Below w.heap.size w W)=>hi▸zNq W o a (ho.later h) ta;obtain⟨⟨CG,wP⟩,pU⟩:∃r,zEr a.k a.q a.t a.z a.x.length 1 sl.a=r:=⟨_,rfl⟩;obtain⟨⟨CH,wQ⟩,pV⟩:∃r,zEr a.k a.q a.t a.z a.x.length 1 sl.f=r:=⟨_,rfl⟩;obtain⟨⟨CI,ud⟩,js⟩:∃r,zEr ai.k ai.q ai.t ai.z ai.x.length 1 sl.a=r:=⟨_,rfl⟩;obtain⟨⟨CJ,wR⟩,pW⟩:∃r,zEr ai.k ai.q ai.t ai.z ai.x.length 1 sl.f=r:=⟨_,rfl⟩;rw[zPx pU,zPx pV,zPx js,zPx pW]at hE;obtain⟨wS,pX⟩:∃e,samP sl.a CG=e:=⟨_,rfl⟩;obtain⟨wT,pY⟩:∃e,samP sl.f CH=e:=⟨_,rfl⟩;obtain⟨wU,pZ⟩:∃e,samP sl.a CI=e:=⟨_,rfl⟩;obtain⟨wV,qa⟩:∃e,samP sl.f CJ=e:=⟨_,rfl⟩;rw[pX,pY,pZ,qa]at hE;have HE:=hd hE;have yT:=hd yR;have yU:=hd yS;have mg:=hd la;have di:=hd lf;have HO:=hd ho;have aA:=hd ta;have qp:=hd hti;have dZ:=hd hin;have yM:=hd pU;have yL:=hd pV;have yK:=hd js;have yJ:=hd pW;have yQ:=hd pX;have yP:=hd pY;have yO:=hd pZ;have yN:=hd qa;clear hs hf ho ta hti hin hi yR yS hE la lf pU pV js pW pX pY pZ qa;obtain⟨W0,hW,hst⟩:=kIy w s o;have HW:=hd hW;have HM:=hd hst;clear hW hst;go_enter Tryz.func43,Tryz.ntmps43
 go_upto_region 1 with fail
 rw[HW.o];clear HW;go_upto_region 2 with(first
  |((with_reducible refine zC (ty:=35) (x:=.tmp 3) ?_);refine zG HM.o.v3 _ rfl rfl rfl ?_)
  |(go_at_call 21;refine Calls.mono (dZ.o _ HM.o.below) ?_;rintro e w1 ⟨ci,rfl,h1,b9⟩;have HM:=hd (HM.o.call b9);have HI:=hd h1;clear b9 h1;dsimp only)
  |((with_reducible refine zF (ty:=35) (x:=.tmp 5) ?_);refine zA zMk (r:=ci.row) (jT.new w1 35 #[.int .i64 0,.slice none 0 0,.slice none 0 0,.int .i64 0,.bool false,.slice none 0 0,.slice none 0 0,.slice none 0 0,.slice none 0 0,.slice none 0 0,.slice none 0 0,.bool false,.slice none 0 0,.int .i64 0,.slice none 0 0,.int .i64 0,.bool false,.slice none 0 0,.int .i64 0,.slice none 0 0,.int .i64 0]) rfl rfl (zTu ci) _ _ rfl rfl rfl rfl rfl ?_;intro W2 hv az;have gJ:=hd (show jR W2 w1.heap.size ci from hv);have HB:=hd (zN (zQ w1 (.cells #[.int .i64 0,.slice none 0 0,.slice none 0 0,.int .i64 0,.bool false,.slice none 0 0,.slice none 0 0,.slice none 0 0,.slice none 0 0,.slice none 0 0,.slice none 0 0,.bool false,.slice none 0 0,.int .i64 0,.slice none 0 0,.int .i64 0,.bool false,.slice none 0 0,.int .i64 0,.slice none 0 0,.int .i64 0] 35)) az Kl);have HI:=hd (HI.o.now.later HB.o);clear hv az))
 have HM:=hd (HM.o.call HB.o);clear HB;obtain⟨g5,kv⟩:∃g,w1.heap.size=g:=⟨_,rfl⟩;rw[kv]at gJ;try rw[kv]
 clear kv;go_wp2_with(first
  |((with_reducible refine zC (ty:=35) (x:=.tmp 3) ?_);refine zG HM.o.v3 _ rfl rfl rfl ?_)
  |((with_reducible refine zC (ty:=35) (x:=.tmp 5) ?_);refine zG gJ.o _ rfl rfl rfl ?_)
  |((with_reducible refine zNd ?_);refine zEq Tryz.underlying100 kEv Kd Kd (c:=o.row) (d:=ci.row) rfl rfl _ _ rfl rfl rfl rfl ?_))
 obtain⟨W3,hW3⟩:∃W3,W2.alloc (.cells (o.row++ci.row) 35)=W3:=⟨_,rfl⟩;have bn:=hd (show W3.heap[W2.heap.size]? =some (.cells (o.row++ci.row) 35 (0,0))from hW3▸heap_alloc_new W2 _);have hb3:Below W2.heap.size W2 W3:=hW3▸Kk.alloc Kl _;rw[hW3];have wW:=hd (HM.o.call hb3);have CK:=hd (HI.o.later hb3);clear hW3 hb3 gJ HM HI;obtain⟨g20,qb⟩:∃g,W2.heap.size=g:=⟨_,rfl⟩;rw[qb]at bn;try rw[qb]
 clear qb;go_loopw [22] (fun i wr=>∃k:Nat,k<=2/\i=.int .i64 k/\Kq (Below W3.heap.size W3 wr)/\Kq ((1<=k->(wP&&wS)=true/\(wQ&&wT)=true)/\(2<=k->(ud&&wU)=true/\(wR&&wV)=true))) (fun i _=>2-(intOf i).toNat)
 case atStart=>exact⟨0,by omega,rfl,hd Kk,hd ⟨fun h=>absurd h Kb,fun h=>absurd h Kb⟩⟩
 case round=>
  obtain⟨k,hk,rfl,HB,HT⟩:=hrel;rcases(show k=0∨k=1∨k=2 by omega)with rfl|rfl|rfl
  ·have HM:=hd (wW.o.call HB.o);have dz:=hd (HO.o.later (HM.o.below));have tD:=hd (zE4 (zIj (bn.o)).1 HB.o);go_wp2_with(first
    |((with_reducible refine zC (ty:=35) (x:=.tmp 24) ?_);refine kK zMk (r:=o.row) tD.o rfl _ rfl rfl rfl ?_)
    |((with_reducible refine zF (ty:=35) (x:=.tmp 8) ?_);refine zA zMk (r:=o.row) (jT.new wr 35 #[.int .i64 0,.slice none 0 0,.slice none 0 0,.int .i64 0,.bool false,.slice none 0 0,.slice none 0 0,.slice none 0 0,.slice none 0 0,.slice none 0 0,.slice none 0 0,.bool false,.slice none 0 0,.int .i64 0,.slice none 0 0,.int .i64 0,.bool false,.slice none 0 0,.int .i64 0,.slice none 0 0,.int .i64 0]) rfl rfl (zTu o) _ _ rfl rfl rfl rfl rfl ?_;intro W4 hv az;have cH:=hd (show jR W4 wr.heap.size o from hv);have cA:=hd (zN (zQ wr (.cells #[.int .i64 0,.slice none 0 0,.slice none 0 0,.int .i64 0,.bool false,.slice none 0 0,.slice none 0 0,.slice none 0 0,.slice none 0 0,.slice none 0 0,.slice none 0 0,.bool false,.slice none 0 0,.int .i64 0,.slice none 0 0,.int .i64 0,.bool false,.slice none 0 0,.int .i64 0,.slice none 0 0,.int .i64 0] 35)) az Kl);have HM:=hd (HM.o.call cA.o);have dz:=hd (dz.o.later cA.o);clear hv az)
    |((with_reducible refine zC (ty:=29) (x:=.tmp 27) ?_);refine zEa HM.o.v2 (j:=1) (vs:=[.slice s.A s.n s.c,.int .i64 s.x]) zW _ rfl rfl rfl Ka ?_)
    |((with_reducible refine zC (ty:=29) (x:=.tmp 30) ?_);refine zEa HM.o.v2 (j:=3) (vs:=[.slice s.B s.m s.d,.int .i64 s.y]) zW _ rfl rfl rfl Ka ?_)
    |((with_reducible refine zNd ?_);refine zEq Tryz.underlying101 kFv Kd Kd (c:=PC.row ⟨s.A,s.n,s.c,s.x⟩) (d:=PC.row ⟨s.B,s.m,s.d,s.y⟩) rfl rfl _ _ rfl rfl rfl rfl ?_))
   obtain⟨W5,nL⟩:∃W5,W4.alloc (.cells (PC.row ⟨s.A,s.n,s.c,s.x⟩++PC.row ⟨s.B,s.m,s.d,s.y⟩) 29)=W5:=⟨_,rfl⟩;have jo:=hd (show W5.heap[W4.heap.size]? =some (.cells (PC.row ⟨s.A,s.n,s.c,s.x⟩++PC.row ⟨s.B,s.m,s.d,s.y⟩) 29 (0,0))from nL▸heap_alloc_new W4 _);have cR:Below W4.heap.size W4 W5:=nL▸Kk.alloc Kl _;rw[nL];have tE:=hd (HM.o.call cR);have lK:=hd (dz.o.later cR);have iT:=hd (cH.o.keep cR);have bE:=hd (HB.o.trans ((cA.o.trans (cR.mono cA.o.size)).mono HB.o.size));clear nL cR cA HB tD HM dz cH;obtain⟨g8,gW⟩:∃g,wr.heap.size=g:=⟨_,rfl⟩;obtain⟨CL,iU⟩:∃g,W4.heap.size=g:=⟨_,rfl⟩;rw[gW]at iT;rw[iU]at jo;try rw[gW]
   try rw[iU]
   clear gW iU;obtain⟨wo,rfl⟩:∃wo:World,wo=wr:=⟨_,rfl⟩;go_loopw [34] (fun i wr=>∃j:Nat,j<=2/\i=.int .i64 j/\Kq (Below W5.heap.size W5 wr)/\Kq ((1<=j->(wP&&wS)=true)/\(2<=j->(wQ&&wT)=true))) (fun i _=>2-(intOf i).toNat)
   case atStart=>exact⟨0,by omega,rfl,hd Kk,hd ⟨fun h=>absurd h Kb,fun h=>absurd h Kb⟩⟩
   case round=>
    obtain⟨j,hj,rfl,aM,qc⟩:=hrel;rcases(show j=0∨j=1∨j=2 by omega)with rfl|rfl|rfl
    ·have nK:=hd (zE4 (zIj jo.o).1 aM.o);have HM:=hd (tE.o.call aM.o);have dz:=hd (lK.o.later aM.o);have cH:=hd (iT.o.keep aM.o);have bc:=hd (yT.o.later HM.o.below);cases wP
     case false=>
      have mj:=hd (show false=E by have:=HE.o;simpa using this);exact kY4
     case true=>
      cases wS
      case false=>
       have mj:=hd (show false=E by have:=HE.o;simpa using this);exact kY4
      case true=>
       go_wp2_with(first
        |((with_reducible refine zC (ty:=29) (x:=.tmp 36) ?_);refine kK zW (r:=PC.row (PC.mk s.A s.n s.c s.x)) nK.o rfl _ rfl rfl rfl ?_)
        |((with_reducible refine zF (ty:=29) (x:=.tmp 10) ?_);refine zA zW (r:=PC.row (PC.mk s.A s.n s.c s.x)) (jT.new wr 29 #[.slice none 0 0,.int .i64 0]) rfl rfl (PC.one _) _ _ rfl rfl rfl rfl rfl ?_;intro W6 hv az;have ag:=hd hv;have aH:=hd (zN (zQ wr (.cells #[.slice none 0 0,.int .i64 0] 29)) az Kl);have HM:=hd (HM.o.call aH.o);have dz:=hd (dz.o.later aH.o);have bc:=hd (bc.o.later aH.o);have cH:=hd (cH.o.keep aH.o);have aM:=hd (zI aM.o aH.o);clear hv az aH)
        |((with_reducible refine zC (ty:=29) (x:=.tmp 10) ?_);refine zB zW ag.o rfl _ rfl rfl rfl ?_)
        |((with_reducible refine zC (ty:=35) (x:=.tmp 8) ?_);refine zG cH.o _ rfl rfl rfl ?_)
        |(go_at_call 87;refine Calls.mono (zB4 bc.o dz.o aA.o mg.o yM.o) ?_;rintro e w7 ⟨c11,rfl,h1,b9⟩;have HQ:=hd h1;have HM:=hd (HM.o.call b9);have ag:=hd (ag.o.keep b9);have bc:=hd (bc.o.later b9);have aM:=hd (zI aM.o b9);clear b9 h1;dsimp only)
        |((with_reducible refine zF (ty:=29) (x:=.tmp 11) ?_);refine zA zW (r:=c11.row) (jT.new w7 29 #[.slice none 0 0,.int .i64 0]) rfl rfl (PC.one _) _ _ rfl rfl rfl rfl rfl ?_;intro W8 hv az;have dB:=hd hv;have aH:=hd (zN (zQ w7 (.cells #[.slice none 0 0,.int .i64 0] 29)) az Kl);have HM:=hd (HM.o.call aH.o);have bc:=hd (bc.o.later aH.o);have HQ:=hd (HQ.o.later aH.o);have ag:=hd (ag.o.keep aH.o);have aM:=hd (zI aM.o aH.o);clear hv az aH)
        |((with_reducible refine kH (ty:=29) (x:=.tmp 10) ?_);refine zK zW ag.o rfl _ rfl Ke rfl ?_)
        |((with_reducible refine kH (ty:=29) (x:=.tmp 11) ?_);refine zK zW dB.o rfl _ rfl Ke rfl ?_)
        |(go_at_call 57;refine Calls.mono (zB5 bc.o HQ.o yQ.o) ?_;rintro e w9 ⟨rfl,b9⟩;have HM:=hd (HM.o.call b9);have aM:=hd (zI aM.o b9);clear b9))
       go_roundw
       case rel=>exact⟨1,by omega,by go_num,aM,hd ⟨fun h=>rfl,fun h=>absurd h Kb⟩⟩
       case measure=>simp[intOf]
    ·have nK:=hd (zE4 (zIj jo.o).2 aM.o);have HM:=hd (tE.o.call aM.o);have dz:=hd (lK.o.later aM.o);have cH:=hd (iT.o.keep aM.o);have bc:=hd (yU.o.later HM.o.below);cases wQ
     case false=>
      have mj:=hd (show false=E by have:=HE.o;simpa using this);exact kY4
     case true=>
      cases wT
      case false=>
       have mj:=hd (show false=E by have:=HE.o;simpa using this);exact kY4
      case true=>
       go_wp2_with(first
        |((with_reducible refine zC (ty:=29) (x:=.tmp 36) ?_);refine kK zW (r:=PC.row (PC.mk s.B s.m s.d s.y)) nK.o rfl _ rfl rfl rfl ?_)
        |((with_reducible refine zF (ty:=29) (x:=.tmp 10) ?_);refine zA zW (r:=PC.row (PC.mk s.B s.m s.d s.y)) (jT.new wr 29 #[.slice none 0 0,.int .i64 0]) rfl rfl (PC.one _) _ _ rfl rfl rfl rfl rfl ?_;intro W6 hv az;have ag:=hd hv;have aH:=hd (zN (zQ wr (.cells #[.slice none 0 0,.int .i64 0] 29)) az Kl);have HM:=hd (HM.o.call aH.o);have dz:=hd (dz.o.later aH.o);have bc:=hd (bc.o.later aH.o);have cH:=hd (cH.o.keep aH.o);have aM:=hd (zI aM.o aH.o);clear hv az aH)
        |((with_reducible refine zC (ty:=29) (x:=.tmp 10) ?_);refine zB zW ag.o rfl _ rfl rfl rfl ?_)
        |((with_reducible refine zC (ty:=35) (x:=.tmp 8) ?_);refine zG cH.o _ rfl rfl rfl ?_)
        |(go_at_call 87;refine Calls.mono (zB4 bc.o dz.o aA.o di.o yL.o) ?_;rintro e w7 ⟨c11,rfl,h1,b9⟩;have HQ:=hd h1;have HM:=hd (HM.o.call b9);have ag:=hd (ag.o.keep b9);have bc:=hd (bc.o.later b9);have aM:=hd (zI aM.o b9);clear b9 h1;dsimp only)
        |((with_reducible refine zF (ty:=29) (x:=.tmp 11) ?_);refine zA zW (r:=c11.row) (jT.new w7 29 #[.slice none 0 0,.int .i64 0]) rfl rfl (PC.one _) _ _ rfl rfl rfl rfl rfl ?_;intro W8 hv az;have dB:=hd hv;have aH:=hd (zN (zQ w7 (.cells #[.slice none 0 0,.int .i64 0] 29)) az Kl);have HM:=hd (HM.o.call aH.o);have bc:=hd (bc.o.later aH.o);have HQ:=hd (HQ.o.later aH.o);have ag:=hd (ag.o.keep aH.o);have aM:=hd (zI aM.o aH.o);clear hv az aH)
        |((with_reducible refine kH (ty:=29) (x:=.tmp 10) ?_);refine zK zW ag.o rfl _ rfl Ke rfl ?_)
        |((with_reducible refine kH (ty:=29) (x:=.tmp 11) ?_);refine zK zW dB.o rfl _ rfl Ke rfl ?_)
        |(go_at_call 57;refine Calls.mono (zB5 bc.o HQ.o yP.o) ?_;rintro e w9 ⟨rfl,b9⟩;have HM:=hd (HM.o.call b9);have aM:=hd (zI aM.o b9);clear b9))
       go_roundw
       case rel=>exact⟨2,by omega,by go_num,aM,hd ⟨fun h=>qc.o.1 Kb,fun h=>rfl⟩⟩
       case measure=>simp[intOf]
    ·have bI:=hd (zI bE.o aM.o);go_wp2
     go_roundw
     case rel=>exact⟨1,by omega,by go_num,bI,hd ⟨fun h=>⟨qc.o.1 Kb,qc.o.2 Kb⟩,fun h=>absurd h Kb⟩⟩
     case measure=>simp[intOf]
  ·have HM:=hd (wW.o.call HB.o);have dz:=hd (CK.o.later HB.o);have tD:=hd (zE4 (zIj (bn.o)).2 HB.o);go_wp2_with(first
    |((with_reducible refine zC (ty:=35) (x:=.tmp 24) ?_);refine kK zMk (r:=ci.row) tD.o rfl _ rfl rfl rfl ?_)
    |((with_reducible refine zF (ty:=35) (x:=.tmp 8) ?_);refine zA zMk (r:=ci.row) (jT.new wr 35 #[.int .i64 0,.slice none 0 0,.slice none 0 0,.int .i64 0,.bool false,.slice none 0 0,.slice none 0 0,.slice none 0 0,.slice none 0 0,.slice none 0 0,.slice none 0 0,.bool false,.slice none 0 0,.int .i64 0,.slice none 0 0,.int .i64 0,.bool false,.slice none 0 0,.int .i64 0,.slice none 0 0,.int .i64 0]) rfl rfl (zTu ci) _ _ rfl rfl rfl rfl rfl ?_;intro W4 hv az;have cH:=hd (show jR W4 wr.heap.size ci from hv);have cA:=hd (zN (zQ wr (.cells #[.int .i64 0,.slice none 0 0,.slice none 0 0,.int .i64 0,.bool false,.slice none 0 0,.slice none 0 0,.slice none 0 0,.slice none 0 0,.slice none 0 0,.slice none 0 0,.bool false,.slice none 0 0,.int .i64 0,.slice none 0 0,.int .i64 0,.bool false,.slice none 0 0,.int .i64 0,.slice none 0 0,.int .i64 0] 35)) az Kl);have HM:=hd (HM.o.call cA.o);have dz:=hd (dz.o.later cA.o);clear hv az)
    |((with_reducible refine zC (ty:=29) (x:=.tmp 27) ?_);refine zEa HM.o.v2 (j:=1) (vs:=[.slice s.A s.n s.c,.int .i64 s.x]) zW _ rfl rfl rfl Ka ?_)
    |((with_reducible refine zC (ty:=29) (x:=.tmp 30) ?_);refine zEa HM.o.v2 (j:=3) (vs:=[.slice s.B s.m s.d,.int .i64 s.y]) zW _ rfl rfl rfl Ka ?_)
    |((with_reducible refine zNd ?_);refine zEq Tryz.underlying101 kFv Kd Kd (c:=PC.row ⟨s.A,s.n,s.c,s.x⟩) (d:=PC.row ⟨s.B,s.m,s.d,s.y⟩) rfl rfl _ _ rfl rfl rfl rfl ?_))
   obtain⟨W5,nL⟩:∃W5,W4.alloc (.cells (PC.row ⟨s.A,s.n,s.c,s.x⟩++PC.row ⟨s.B,s.m,s.d,s.y⟩) 29)=W5:=⟨_,rfl⟩;have jo:=hd (show W5.heap[W4.heap.size]? =some (.cells (PC.row ⟨s.A,s.n,s.c,s.x⟩++PC.row ⟨s.B,s.m,s.d,s.y⟩) 29 (0,0))from nL▸heap_alloc_new W4 _);have cR:Below W4.heap.size W4 W5:=nL▸Kk.alloc Kl _;rw[nL];have tE:=hd (HM.o.call cR);have lK:=hd (dz.o.later cR);have iT:=hd (cH.o.keep cR);have bE:=hd (HB.o.trans ((cA.o.trans (cR.mono cA.o.size)).mono HB.o.size));clear nL cR cA HB tD HM dz cH;obtain⟨g8,gW⟩:∃g,wr.heap.size=g:=⟨_,rfl⟩;obtain⟨CL,iU⟩:∃g,W4.heap.size=g:=⟨_,rfl⟩;rw[gW]at iT;rw[iU]at jo;try rw[gW]
   try rw[iU]
   clear gW iU;obtain⟨wo,rfl⟩:∃wo:World,wo=wr:=⟨_,rfl⟩;go_loopw [34] (fun i wr=>∃j:Nat,j<=2/\i=.int .i64 j/\Kq (Below W5.heap.size W5 wr)/\Kq ((1<=j->(ud&&wU)=true)/\(2<=j->(wR&&wV)=true))) (fun i _=>2-(intOf i).toNat)
   case atStart=>exact⟨0,by omega,rfl,hd Kk,hd ⟨fun h=>absurd h Kb,fun h=>absurd h Kb⟩⟩
   case round=>
    obtain⟨j,hj,rfl,aM,qc⟩:=hrel;rcases(show j=0∨j=1∨j=2 by omega)with rfl|rfl|rfl
    ·have nK:=hd (zE4 (zIj jo.o).1 aM.o);have HM:=hd (tE.o.call aM.o);have dz:=hd (lK.o.later aM.o);have cH:=hd (iT.o.keep aM.o);have bc:=hd (yT.o.later HM.o.below);cases ud
     case false=>
      have mj:=hd (show false=E by have:=HE.o;simpa using this);exact kY4
     case true=>
      cases wU
      case false=>
       have mj:=hd (show false=E by have:=HE.o;simpa using this);exact kY4
      case true=>
       go_wp2_with(first
        |((with_reducible refine zC (ty:=29) (x:=.tmp 36) ?_);refine kK zW (r:=PC.row (PC.mk s.A s.n s.c s.x)) nK.o rfl _ rfl rfl rfl ?_)
        |((with_reducible refine zF (ty:=29) (x:=.tmp 10) ?_);refine zA zW (r:=PC.row (PC.mk s.A s.n s.c s.x)) (jT.new wr 29 #[.slice none 0 0,.int .i64 0]) rfl rfl (PC.one _) _ _ rfl rfl rfl rfl rfl ?_;intro W6 hv az;have ag:=hd hv;have aH:=hd (zN (zQ wr (.cells #[.slice none 0 0,.int .i64 0] 29)) az Kl);have HM:=hd (HM.o.call aH.o);have dz:=hd (dz.o.later aH.o);have bc:=hd (bc.o.later aH.o);have cH:=hd (cH.o.keep aH.o);have aM:=hd (zI aM.o aH.o);clear hv az aH)
        |((with_reducible refine zC (ty:=29) (x:=.tmp 10) ?_);refine zB zW ag.o rfl _ rfl rfl rfl ?_)
        |((with_reducible refine zC (ty:=35) (x:=.tmp 8) ?_);refine zG cH.o _ rfl rfl rfl ?_)
        |(go_at_call 87;refine Calls.mono (zB4 bc.o dz.o qp.o mg.o yK.o) ?_;rintro e w7 ⟨c11,rfl,h1,b9⟩;have HQ:=hd h1;have HM:=hd (HM.o.call b9);have ag:=hd (ag.o.keep b9);have bc:=hd (bc.o.later b9);have aM:=hd (zI aM.o b9);clear b9 h1;dsimp only)
        |((with_reducible refine zF (ty:=29) (x:=.tmp 11) ?_);refine zA zW (r:=c11.row) (jT.new w7 29 #[.slice none 0 0,.int .i64 0]) rfl rfl (PC.one _) _ _ rfl rfl rfl rfl rfl ?_;intro W8 hv az;have dB:=hd hv;have aH:=hd (zN (zQ w7 (.cells #[.slice none 0 0,.int .i64 0] 29)) az Kl);have HM:=hd (HM.o.call aH.o);have bc:=hd (bc.o.later aH.o);have HQ:=hd (HQ.o.later aH.o);have ag:=hd (ag.o.keep aH.o);have aM:=hd (zI aM.o aH.o);clear hv az aH)
        |((with_reducible refine kH (ty:=29) (x:=.tmp 10) ?_);refine zK zW ag.o rfl _ rfl Ke rfl ?_)
        |((with_reducible refine kH (ty:=29) (x:=.tmp 11) ?_);refine zK zW dB.o rfl _ rfl Ke rfl ?_)
        |(go_at_call 57;refine Calls.mono (zB5 bc.o HQ.o yO.o) ?_;rintro e w9 ⟨rfl,b9⟩;have HM:=hd (HM.o.call b9);have aM:=hd (zI aM.o b9);clear b9))
       go_roundw
       case rel=>exact⟨1,by omega,by go_num,aM,hd ⟨fun h=>rfl,fun h=>absurd h Kb⟩⟩
       case measure=>simp[intOf]
    ·have nK:=hd (zE4 (zIj jo.o).2 aM.o);have HM:=hd (tE.o.call aM.o);have dz:=hd (lK.o.later aM.o);have cH:=hd (iT.o.keep aM.o);have bc:=hd (yU.o.later HM.o.below);cases wR
     case false=>
      have mj:=hd (show false=E by have:=HE.o;simpa using this);exact kY4
     case true=>
      cases wV
      case false=>
       have mj:=hd (show false=E by have:=HE.o;simpa using this);exact kY4
      case true=>
       go_wp2_with(first
        |((with_reducible refine zC (ty:=29) (x:=.tmp 36) ?_);refine kK zW (r:=PC.row (PC.mk s.B s.m s.d s.y)) nK.o rfl _ rfl rfl rfl ?_)
        |((with_reducible refine zF (ty:=29) (x:=.tmp 10) ?_);refine zA zW (r:=PC.row (PC.mk s.B s.m s.d s.y)) (jT.new wr 29 #[.slice none 0 0,.int .i64 0]) rfl rfl (PC.one _) _ _ rfl rfl rfl rfl rfl ?_;intro W6 hv az;have ag:=hd hv;have aH:=hd (zN (zQ wr (.cells #[.slice none 0 0,.int .i64 0] 29)) az Kl);have HM:=hd (HM.o.call aH.o);have dz:=hd (dz.o.later aH.o);have bc:=hd (bc.o.later aH.o);have cH:=hd (cH.o.keep aH.o);have aM:=hd (zI aM.o aH.o);clear hv az aH)
        |((with_reducible refine zC (ty:=29) (x:=.tmp 10) ?_);refine zB zW ag.o rfl _ rfl rfl rfl ?_)
        |((with_reducible refine zC (ty:=35) (x:=.tmp 8) ?_);refine zG cH.o _ rfl rfl rfl ?_)
        |(go_at_call 87;refine Calls.mono (zB4 bc.o dz.o qp.o di.o yJ.o) ?_;rintro e w7 ⟨c11,rfl,h1,b9⟩;have HQ:=hd h1;have HM:=hd (HM.o.call b9);have ag:=hd (ag.o.keep b9);have bc:=hd (bc.o.later b9);have aM:=hd (zI aM.o b9);clear b9 h1;dsimp only)
        |((with_reducible refine zF (ty:=29) (x:=.tmp 11) ?_);refine zA zW (r:=c11.row) (jT.new w7 29 #[.slice none 0 0,.int .i64 0]) rfl rfl (PC.one _) _ _ rfl rfl rfl rfl rfl ?_;intro W8 hv az;have dB:=hd hv;have aH:=hd (zN (zQ w7 (.cells #[.slice none 0 0,.int .i64 0] 29)) az Kl);have HM:=hd (HM.o.call aH.o);have bc:=hd (bc.o.later aH.o);have HQ:=hd (HQ.o.later aH.o);have ag:=hd (ag.o.keep aH.o);have aM:=hd (zI aM.o aH.o);clear hv az aH)
        |((with_reducible refine kH (ty:=29) (x:=.tmp 10) ?_);refine zK zW ag.o rfl _ rfl Ke rfl ?_)
        |((with_reducible refine kH (ty:=29) (x:=.tmp 11) ?_);refine zK zW dB.o rfl _ rfl Ke rfl ?_)
        |(go_at_call 57;refine Calls.mono (zB5 bc.o HQ.o yN.o) ?_;rintro e w9 ⟨rfl,b9⟩;have HM:=hd (HM.o.call b9);have aM:=hd (zI aM.o b9);clear b9))
       go_roundw
       case rel=>exact⟨2,by omega,by go_num,aM,hd ⟨fun h=>qc.o.1 Kb,fun h=>rfl⟩⟩
       case measure=>simp[intOf]
    ·have bI:=hd (zI bE.o aM.o);go_wp2
     go_roundw
     case rel=>exact⟨2,by omega,by go_num,bI,hd ⟨fun h=>HT.o.1 Kb,fun h=>⟨qc.o.1 Kb,qc.o.2 Kb⟩⟩⟩
     case measure=>simp[intOf]
  ·have HX:=hd HT.o;have hx1:=HX.o.1 Kb;have hx2:=HX.o.2 Kb;have yV:true=E:=by have:=HE.o;rw[hx1.1,hx1.2,hx2.1,hx2.2]at this;exact this
   have mj:=hd yV;clear hx1 hx2 yV;go_wp2
   go_ret
   exact⟨by have h:=mj.o;subst h;rfl,zI wW.o.below HB.o⟩
