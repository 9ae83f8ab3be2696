import Derived.Test.YtmkciabefepelaaGreatYRMoveA
import Derived.Test.YtmkciabefepelaaGreatJUParts
set_option maxRecDepth 100000
set_option maxHeartbeats 8000000
namespace Go.Proofs.YtmkciabefepelaaGreat
open Go.RowKit
variable {a:OpP}{P:Prop}{s:SC}{t ty:TypeId}{ops:Array Oper}{op:Oper}{r:Array Value}{v:Value}
structure PC where
 A:Option Addr
 n:Nat
 c:Nat
 x:Int
def PC.row (c:PC):Array Value:=#[.slice c.A c.n c.c,.int .i64 c.x]
theorem PC.one (c:PC):c.row.all (·.oneCell')=true:=Ka
structure kAw (w:World)(c:PC)(p:List Int×Int):Prop where
 hx:p.2=c.x
 hn:p.1.length=c.n
 hc:c.n<=c.c
 hm:c.n<=1000
 hA:IL w w.heap.size c.A p.1
theorem kAw.later {w w':World}{c:PC}{p:List Int×Int}(h:kAw w c p)(hb:Below w.heap.size w w'):kAw w' c p:=⟨h.hx,h.hn,h.hc,h.hm,h.hA.later hb⟩
theorem zW :kC5 29 2:=⟨.struct (Tryz.prog.fieldsOf 29),by kernel_rfl,rfl,by kernel_rfl⟩
theorem kAw.pa {w:World}{c:PC}{p:List Int×Int}(h:kAw w c p):PA w (.agg c.row) p:=
 ⟨.slice c.A c.n c.c,by rw[h.hx];rfl,c.A,c.n,c.c,rfl,h.hn,h.hm,h.hc,h.hA⟩
def kK5 (w:World)(r:(List Int×Int)×Bool)(e:Ending)(w':World):Prop:=∃c:PC,e=.returned (.tuple #[.agg c.row,.bool r.2])/\kAw w' c r.1/\Below w.heap.size w w'
theorem OkA.xq12 {w:World}{o:OC}(ho:OkA w o a)(ta:zAf a):XA w (.slice o.Q o.lq o.cq) a.q:=⟨_,_,_,rfl,ho.hlq,by have:=ta.hq;have:=ho.hlq;omega,ho.hcq,ho.hq⟩
theorem OkA.xt12 {w:World}{o:OC}(ho:OkA w o a)(ta:zAf a):XA w (.slice o.T o.lt o.ct) a.t:=⟨_,_,_,rfl,ho.hlt,by have:=ta.ht;have:=ho.hlt;omega,ho.hct,ho.ht⟩
theorem kQh {w:World}{c:PC}{o:OC}{p:List Int×Int}{r:(List Int×Int)×Bool}(hp:kAw w c p)(ho:OkA w o a)(ta:zAf a)(hl:p.1.length<=60)(hr:zEr a.k a.q a.t a.z a.x.length 1 p=r):Calls Tryz.prog 106 #[.agg c.row,.agg o.row,.int .i64 1] w (kK5 w r):=by
 have h1:=ta.hq;have h2:=ta.ht;have h3:=ta.hx;have h4:=ho.hnx;have hm:=zXz (K:=a.k) (q:=a.q) (t:=a.t) (pos:=a.z) (n:=a.x.length) (aff:=1) (p:=p);rw[hr]at hm;rw[ho.hk,ho.hz,h4]at hr;refine(kUh hp.pa (ho.xq12 ta) (ho.xt12 ta) Kb hr).mono fun e w' h=>?_;obtain⟨v,rfl,h5,h6⟩:=h;obtain⟨A,k,d,rfl,e1,e2,e3,e4⟩:=XA.own h5 Kb;exact⟨⟨A,k,d,r.1.2⟩,rfl,⟨rfl,e1,e3,e2,e4⟩,h6⟩
theorem kQi {w:World}{c d:PC}{p q:List Int×Int}{E:Bool}(hp:kAw w c p)(hq:kAw w d q)(hE:samP p q=E):Calls Tryz.prog 52 #[.agg c.row,.agg d.row] w (jA (.bool E) w):=by
 subst hE;have:=zVw c.A d.A p q c.n d.n c.c d.c w hp.hn hq.hn (by have:=hp.hm;omega) (by have:=hq.hm;omega) hp.hA hq.hA;rw[hp.hx,hq.hx]at this;exact this
theorem kH8 (a b:List Int×Int):samP a b=true ↔ a=b:=by unfold samP;exact decide_eq_true_iff
theorem kUw (p:List Int×Int)(r1 r2:(List Int×Int)×Bool):(r1.2&&r2.2&&samP p r1.1&&samP p r2.1)=(decide (r1=(p,true))&&decide (r2=(p,true))):=by
 obtain⟨q1,b1⟩:=r1;obtain⟨q2,b2⟩:=r2;rw[Bool.eq_iff_iff];simp only[Bool.and_eq_true,decide_eq_true_eq,kH8,Prod.mk.injEq];constructor
 ·rintro⟨⟨⟨rfl,rfl⟩,rfl⟩,rfl⟩;exact⟨⟨rfl,rfl⟩,rfl,rfl⟩
 ·rintro⟨⟨rfl,rfl⟩,rfl,rfl⟩;exact⟨⟨⟨rfl,rfl⟩,rfl⟩,rfl⟩
structure St2 (w:World)(c:PC)(o:OC)(W:World):Prop where
 v2:jT 29 W w.heap.size c.row
 v3:jR W (w.heap.size+1) o
 below:Below w.heap.size w W
theorem St2.call {w W W':World}{c:PC}{o:OC}(h:St2 w c o W)(hb:Below W.heap.size W W'):St2 w c o W':=⟨h.v2.keep hb,h.v3.keep hb,zI h.below hb⟩
theorem kXg (w:World)(c:PC)(o:OC):∃W0,(w.alloc (.cells c.row 29)).alloc (.cells o.row 35)=W0/\St2 w c o W0:=by
 have e1:(w.alloc (.cells c.row 29)).heap.size=w.heap.size+1:=by simp
 have h1:=(jT.new w 29 c.row).alloc (.cells o.row 35);have h2:=jR.new (w.alloc (.cells c.row 29)) o;rw[e1]at h2;exact⟨_,rfl,h1,h2,(Kk.alloc Kl _).alloc Kc _⟩
theorem zTu (c:OC):c.row.all (·.oneCell')=true:=Ka
theorem kOs (h:P:=by
 go_wp2_with(first
  |((with_reducible refine kH (ty:=29) (x:=.tmp 2) ?_);refine zK zW HS.o.v2 rfl _ rfl Ke rfl ?_)
  |((with_reducible refine kH (ty:=29) (x:=.tmp 7) ?_);refine zK zW eF.o rfl _ rfl Ke rfl ?_)
  |((with_reducible refine kH (ty:=29) (x:=.tmp 9) ?_);refine zK zW iV.o rfl _ rfl Ke rfl ?_)
  |(have _g:=eF;go_at_call 52;refine Calls.mono (kQi (HP.o.later HS.o.below) lR.o Ba.o) ?_;rintro e w7 ⟨rfl,b9⟩;have HS:=hd (HS.o.call b9);have iV:=hd (iV.o.keep b9);have av:=hd (av.o.later b9);clear b9 eF)
  |(go_at_call 52;refine Calls.mono (kQi (HP.o.later HS.o.below) av.o Bb.o) ?_;rintro e w8 ⟨rfl,b9⟩;have HS:=hd (HS.o.call b9);clear b9)
  |fail)
 go_ret
 exact⟨rfl,HS.o.below⟩):P:=h
theorem kOy {w:World}{c:PC}{o:OC}{p:List Int×Int}{E:Bool}(hp:kAw w c p)(hl:p.1.length<=60)(ho:OkA w o a)(ta:zAf a)(hE:zBl p a=E):Calls Tryz.prog 49 #[.agg c.row,.agg o.row] w (jA (.bool E) w):=by
 obtain⟨⟨q1,b1⟩,hr1⟩:∃r,zEr a.k a.q a.t a.z a.x.length 1 p=r:=⟨_,rfl⟩;obtain⟨⟨q2,b2⟩,hr2⟩:∃r,zEr (zGl a).1.k (zGl a).1.q (zGl a).1.t (zGl a).1.z (zGl a).1.x.length 1 p=r:=⟨_,rfl⟩;unfold zBl at hE;rw[hr1,hr2,<-kUw]at hE;obtain⟨⟨ai,ei⟩,hi⟩:∃r,zGl a=r:=⟨_,rfl⟩;rw[hi]at hr2;have hti:=zT5 ta;rw[hi]at hti;have hin:=fun(W:World)(h:Below w.heap.size w W)=>kRq W o a (ho.later h) ta;simp only[hi]at hin;dsimp only at hr2 hti hE;have HP:=hd hp;have HO:=hd ho;have aA:=hd ta;have qp:=hd hti;have eW:=hd hr1;have eX:=hd hr2;have dZ:=hd hin;have HL:=hd hl;clear hp ho ta hti hr1 hr2 hin hl hi;obtain⟨W0,hW,hst⟩:=kXg w c o;have HW:=hd hW;have HS:=hd hst;clear hW hst;go_enter Tryz.func49,Tryz.ntmps49
 go_upto_region 1 with fail
 rw[HW.o];clear HW;go_upto_region 2 with(first
  |((with_reducible refine zC (ty:=35) (x:=.tmp 3) ?_);refine zG HS.o.v3 _ rfl rfl rfl ?_)
  |(go_at_call 105;refine Calls.mono (dZ.o _ HS.o.below) ?_;rintro e w1 ⟨ci,rfl,h1,b9⟩;have HS:=hd (HS.o.call b9);have HI:=hd h1;clear b9 h1;dsimp only)
  |((with_reducible refine zF (ty:=35) (x:=.tmp 5) ?_);refine zA zMk (r:=ci.row) (jT.new w1 35 #[.int .i64 0,.slice none 0 0,.slice none 0 0,.int .i64 0,.bool false,.slice none 0 0,.slice none 0 0,.slice none 0 0,.slice none 0 0,.slice none 0 0,.slice none 0 0,.bool false,.slice none 0 0,.int .i64 0,.slice none 0 0,.int .i64 0,.bool false,.slice none 0 0,.int .i64 0,.slice none 0 0,.int .i64 0]) rfl rfl (zTu ci) _ _ rfl rfl rfl rfl rfl ?_;intro W2 hv az;have gJ:=hd (show jR W2 w1.heap.size ci from hv);have HB:=hd (zN (zQ w1 _) az Kl);clear hv az))
 have HS:=hd (HS.o.call HB.o);have HI:=hd (HI.o.later HB.o);clear HB;obtain⟨g5,kv⟩:∃g,w1.heap.size=g:=⟨_,rfl⟩;rw[kv]at gJ;try rw[kv]
 clear kv;go_upto_region 3 with(first
  |((with_reducible refine zC (ty:=29) (x:=.tmp 2) ?_);refine zB zW HS.o.v2 rfl _ rfl rfl rfl ?_)
  |((with_reducible refine zC (ty:=35) (x:=.tmp 3) ?_);refine zG HS.o.v3 _ rfl rfl rfl ?_)
  |(go_at_call 106;refine Calls.mono (kQh (HP.o.later HS.o.below) (HO.o.later HS.o.below) aA.o HL.o eW.o) ?_;rintro e w3 ⟨c7,rfl,h1,b9⟩;have HS:=hd (HS.o.call b9);have gJ:=hd (gJ.o.keep b9);have HI:=hd (HI.o.later b9);have lR:=hd h1;clear b9 h1;dsimp only)
  |((with_reducible refine zF (ty:=29) (x:=.tmp 7) ?_);refine zA zW (r:=c7.row) (jT.new w3 29 #[.slice none 0 0,.int .i64 0]) rfl rfl c7.one _ _ rfl rfl rfl rfl rfl ?_;intro W4 hv az;have eF:=hd hv;have HB:=hd (zN (zQ w3 (.cells #[.slice none 0 0,.int .i64 0] 29)) az Kl);clear hv az))
 have HS:=hd (HS.o.call HB.o);have gJ:=hd (gJ.o.keep HB.o);have HI:=hd (HI.o.later HB.o);have lR:=hd (lR.o.later HB.o);clear HB;obtain⟨g7,oN⟩:∃g,w3.heap.size=g:=⟨_,rfl⟩;rw[oN]at eF;try rw[oN]
 clear oN;go_upto_region 4 with(first
  |((with_reducible refine zC (ty:=29) (x:=.tmp 2) ?_);refine zB zW HS.o.v2 rfl _ rfl rfl rfl ?_)
  |((with_reducible refine zC (ty:=35) (x:=.tmp 5) ?_);refine zG gJ.o _ rfl rfl rfl ?_)
  |(go_at_call 106;refine Calls.mono (kQh (HP.o.later HS.o.below) HI.o qp.o HL.o eX.o) ?_;rintro e w5 ⟨c9,rfl,h1,b9⟩;have HS:=hd (HS.o.call b9);have eF:=hd (eF.o.keep b9);have lR:=hd (lR.o.later b9);have av:=hd h1;clear b9 h1;dsimp only)
  |((with_reducible refine zF (ty:=29) (x:=.tmp 9) ?_);refine zA zW (r:=c9.row) (jT.new w5 29 #[.slice none 0 0,.int .i64 0]) rfl rfl c9.one _ _ rfl rfl rfl rfl rfl ?_;intro W6 hv az;have iV:=hd hv;have HB:=hd (zN (zQ w5 (.cells #[.slice none 0 0,.int .i64 0] 29)) az Kl);clear hv az))
 have HS:=hd (HS.o.call HB.o);have eF:=hd (eF.o.keep HB.o);have lR:=hd (lR.o.later HB.o);have av:=hd (av.o.later HB.o);clear HB;obtain⟨g9,ov⟩:∃g,w5.heap.size=g:=⟨_,rfl⟩;rw[ov]at iV;try rw[ov]
 clear ov;obtain⟨e1,uI⟩:∃e,samP p q1=e:=⟨_,rfl⟩;obtain⟨e2,uJ⟩:∃e,samP p q2=e:=⟨_,rfl⟩;rw[uI,uJ]at hE;have Ba:=hd uI;have Bb:=hd uJ;clear uI uJ;cases b1
 case false=>
  obtain rfl:false=E:=by simpa using hE
  clear hE;exact kOs
 case true=>
  cases b2
  case false=>
   obtain rfl:false=E:=by simpa using hE
   clear hE;exact kOs
  case true=>
   cases e1
   case false=>
    obtain rfl:false=E:=by simpa using hE
    clear hE;exact kOs
   case true=>
    obtain rfl:e2=E:=by simpa using hE
    clear hE;exact kOs
theorem zW9 {w:World}{sl:Sl}(h:zB1 w s sl)(hf:fewS sl=true):kAw w ⟨s.A,s.n,s.c,s.x⟩ sl.a/\kAw w ⟨s.B,s.m,s.d,s.y⟩ sl.f/\sl.a.1.length<=60/\sl.f.1.length<=60:=by
 obtain⟨l1,l2⟩:=h.len hf;have e1:=h.hn;have e2:=h.hm;exact⟨⟨h.hx,h.hn,h.hc,by show s.n<=_;omega,h.hA⟩,⟨h.hy,h.hm,h.hd,by show s.m<=_;omega,h.hB⟩,by omega,by omega⟩
theorem kN2 {w:World}{c:NC}{d:SC}{n:NT}{s:Sl}{E:Int}(h:kS w c n)(g:zB1 w d s)(hs:fewS s=true)(hE:zE8 n s=E):Calls Tryz.prog 46 #[.agg c.row,.agg d.row] w (jA (.int .i64 E) w):=by
 obtain⟨l1,l2⟩:=g.len hs;obtain⟨dd,h⟩:=h;obtain⟨a1,a2⟩:=zIi.two g Kb Kb;have e1:=g.his;have e2:=g.hx;have e3:=g.hy;subst hE;have hh:=kQ2 (b:=d.is) (p:=s.a) (q:=s.f) (A:=d.A) (B:=d.B) (na:=d.n) (nb:=d.m) (ca:=d.c) (cb:=d.d) Kk h (by rw[e2];exact a1) (by rw[e3];exact a2);rw[e2,e3]at hh;have es:(⟨d.is,s.a,s.f⟩:Sl)=s:=by obtain⟨x,y,z⟩:=s;simp only at e1;subst e1;rfl
 rw[es]at hh;exact hh
theorem kN6 {w:World}{c:NC}{n:NT}{E:Int}(h:kS w c n)(hE:zAd n=E):Calls Tryz.prog 45 #[.agg c.row] w (jA (.int .i64 E) w):=by
 obtain⟨d,h⟩:=h;subst hE;exact kRx d w _ n h
def SC.nil :SC:=⟨false,none,0,0,0,none,0,0,0⟩
theorem zJ2 (w:World):zB1 w SC.nil zeroS:=zIi.zero w
theorem zDs (w:World)(c:NC)(s:SC)(o:OC):∃W0,((((w.alloc (.cells c.row 26)).alloc (.cells s.row 33)).alloc (.cells o.row 35)).alloc (.cells #[.bool false,.slice none 0 0,.slice none 0 0,.slice none 0 0] 26)).alloc (.cells #[.bool false,.slice none 0 0,.int .i64 0,.slice none 0 0,.int .i64 0] 33)=W0/\St5 w c s o (w.heap.size+1+1+1) (w.heap.size+1+1+1+1) NC.nil SC.nil W0:=by
 obtain⟨W1,hW1,h1⟩:=kN w c s o;have e1:W1.heap.size=w.heap.size+1+1+1:=by rw[<-hW1];simp
 rw[hW1];refine⟨_,rfl,h1.call ((Kk.alloc Kl _).alloc Kc _),?_,?_⟩
 ·rw[<-e1];exact(jT.new W1 26 NC.nil.row).alloc _
 ·have e2:(W1.alloc (.cells NC.nil.row 26)).heap.size=w.heap.size+1+1+1+1:=by simp[e1]
  rw[<-e2];exact jT.new _ 33 SC.nil.row
theorem St5.set7 {w W W':World}{c:NC}{o:OC}{g7 g8:Nat}{a a':NC}{t:SC}(h:St5 w c s o g7 g8 a t W)(hg:w.heap.size+1+1<g7)(hne:g8≠g7)(hv:jT 26 W' g7 a'.row)(ho:Off g7 W W'):St5 w c s o g7 g8 a' t W':=⟨h.st.store ho hg,hv,h.v8.off ho hne⟩
theorem St5.set8 {w W W':World}{c:NC}{o:OC}{g7 g8:Nat}{a:NC}{t t':SC}(h:St5 w c s o g7 g8 a t W)(hg:w.heap.size+1+1<g8)(hne:g7≠g8)(hv:jT 33 W' g8 t'.row)(ho:Off g8 W W'):St5 w c s o g7 g8 a t' W':=⟨h.st.store ho hg,h.v7.off ho hne,hv⟩
theorem zDt {fn:Func}{p q u:Tmp}(h:fn.results=#[.cell p 26,.cell q 33,.tmp u])(tmps:Array Value)(w:World){g g':Nat}{c:NC}(hv:jT 26 w g c.row)(hs:jT 33 w g' s.row)(hp:tmps.getD p undef=.pointer (some ⟨g,0,none⟩))(hq:tmps.getD q undef=.pointer (some ⟨g',0,none⟩)):(results fn tmps).run Tryz.prog w=.ok (.tuple #[.agg c.row,.agg s.row,tmps.getD u undef]) w:=by
 obtain⟨d,h3,h4,h5⟩:=zD;obtain⟨d',h3',h4',oP⟩:=zP;simp only[results,h];simp only[List.mapM_toArray,hp,hq,asAddr,Sem.run_bind,Sem.run_pure,List.mapM_cons,List.mapM_nil];simp[Sem.run_bind,Result.andThen,run_loadVar_row w g _ _ _ _ d hv h3 (by cases d<;>simp_all) h5,run_loadVar_row w g' _ _ _ _ d' hs h3' (by cases d'<;>simp_all) oP]
theorem kNt {rest:List Oper}{a:Act}{w:World}{Q:Exit->Act->World->Prop}{g:Nat}(h:jT t w g r){j:Nat} 
  (x:Operand) (ho:op.op=.load ty x) (hgd:op.guard=none) (hx:a.eval x=.pointer (some ⟨g,j,none⟩)) (hv:r[j]? =some v) {d:TypeDesc} (hu:Tryz.prog.underlying ty=some d) (hd:d.isRow=false) (hk:wpList Tryz.prog ops Q rest (a.put op.dst v) w):wpList Tryz.prog ops Q (op::rest) a w:=by
 have hc:=h.cell j v hv;have hl:=zD3 hu hd hc;refine wpList_plain hgd fun K hK=>?_;unfold Oper.wp execOp;simp only[ho,hx,Instr.loadAt,Instr.sureAddr,Sem.run_bind,Sem.run_pure,Result.andThen_ok,hl];exact hK _ _ hk
theorem kNu {rest:List Oper}{a:Act}{w:World}{Q:Exit->Act->World->Prop}{g:Nat}(h:jT t w g r){j:Nat}{vs:List Value}
  (hrow:∃d,Tryz.prog.underlying ty=some d/\d.isRow=true/\(Tryz.prog.info? ty).map (·.size)=some vs.length) (x:Operand) (ho:op.op=.load ty x) (hw:Region.wanted op (yielded ops a.tmps)=true) (hx:a.eval x=.pointer (some ⟨g,j,none⟩)) (hv:(r.extract j (j+vs.length)).toList=vs) (hk:wpList Tryz.prog ops Q rest (a.put op.dst (.agg vs.toArray)) w):wpList Tryz.prog ops Q (op::rest) a w:=by
 obtain⟨d,h1,h2,h3⟩:=hrow;refine wpList_step fun K hK=>?_;rw[if_pos hw];refine wp_load_mid ty x ho g j hx vs d (fun i v hi=>?_) h1 h2 h3 (hK _ _ hk);refine h.cell (j+i) v ?_;rw[<-hv]at hi;simp only[Array.toList_extract,List.extract_eq_take_drop,List.getElem?_take,List.getElem?_drop]at hi;split at hi
 ·simpa using hi
 ·cases hi
def OC.from_ (o:OC):SC:=⟨o.fi,o.F1,o.f1,o.d1,o.fo,o.F2,o.f2,o.d2,o.fp⟩
theorem zPq {w:World}{o:OC}(h:OkA w o a):zB1 w o.from_ a.f:=h.hf
theorem kH9 {w:World}{c:NC}{n:NT}(h:kS w c n):Calls Tryz.prog 75 #[.agg c.row] w (fun e w'=>∃c':NC,e=.returned (.agg c'.row)/\zH3 w.heap.size w' (fun W=>kS W c' n)/\Below w.heap.size w w'):=by
 obtain⟨d,h⟩:=h;refine(zEy d w _ n h).mono fun e w' h1=>?_;obtain⟨v,rfl,ht,hb⟩:=h1;obtain⟨c',rfl,_⟩:=zFo (ht.at_ (B:=w'.heap.size) fun b hb=>hb.2);exact⟨c',rfl,zHy ht,hb⟩
def zVb (w:World)(r:(NT×Sl)×Int)(e:Ending)(w':World):Prop:=
 ∃(c:NC)(s:SC),e=.returned (.tuple #[.agg c.row,.agg s.row,.int .i64 r.2])/\zH3 w.heap.size w' (fun W=>kS W c r.1.1)/\zH3 w.heap.size w' (fun W=>zB1 W s r.1.2)/\Below w.heap.size w w'
section
variable {w:World}{A:Option Addr}{lq cq:Nat}{q:List Int}{c d:NC}{n m:NT}
theorem kVz {r:NT×Int}(hn:kS w c n)(hq:zKt w A lq cq q)(hE:zGm n q=r):Calls Tryz.prog 97 #[.agg c.row,.slice A lq cq] w (zAm w r):=by
 obtain⟨x,e⟩:=r;exact(kPs hE hq.len hq.le hn hq.il).mono fun e w' h=>h.nn
theorem kPk {r:NT×Int}(hn:kS w c n)(hm:kS w d m)(hq:zKt w A lq cq q)(hE:zSe n q m=r):Calls Tryz.prog 99 #[.agg c.row,.slice A lq cq,.agg d.row] w (zAm w r):=by
 obtain⟨x,e⟩:=r;exact(kX3 hE hq.len hq.le hq.cap hn hm hq.il).mono fun e w' h=>h.nn
theorem kQr {r:NT×Int}(hn:kS w c n)(hm:kS w d m)(hq:zKt w A lq cq q)(hs:sizeT n<=100000)(hE:zGo n q m=r):Calls Tryz.prog 94 #[.agg c.row,.slice A lq cq,.agg d.row] w (zAm w r):=by
 obtain⟨x,e⟩:=r;have hb:∀x,kB n (upP q)=some x->x.ks.length<1759218604441:=fun x hx=>by
  have h1:=zGh _ n x hx;have h2:∀(l:List NT),l.length<=sizeK l:=fun l=>by
   induction l with
   |nil=>simp
   |cons k r ih=>have:=zJs k;simp only[List.length_cons,sizeK];omega
  have h3:=h2 x.ks;obtain⟨lf,ps,tx,ks⟩:=x;simp only[sizeT,NT.ks]at*;omega
 exact(kX4 hE hq.len hq.le hq.cap hn hm hq.il hb).mono fun e w' h=>h.nn
theorem kOi {x y:NT}{er:Int}(hn:kS w c n)(hq:zKt w A lq cq q)(hE:zBw n q=(x,er))(hy:zE3 n q=y):Calls Tryz.prog 95 #[.agg c.row,.slice A lq cq] w (kK2 w x y er):=
 (kX5 hE hy hq.len hq.le hq.cap hn hq.il).mono fun _ _w' h=>h.nn
end
def kNs (w:World)(r:NT×Int)(e:Ending)(w':World):Prop:=∃c:NC,e=.returned (.tuple #[.agg c.row,.int .i64 r.2])/\(r.2=0->zH3 w.heap.size w' (fun W=>kS W c r.1))/\Below w.heap.size w w'
theorem kNn {lo:Nat}{w:World}{P:World->Prop}(_h:zH3 lo w P):zA5 lo w w:=zA5.refl lo w
theorem rdA (h:P:=by
 go_wp2_with(first
  |((with_reducible refine zC (ty:=26) (x:=.tmp 2) ?_);refine zB zD HM.o.v2 rfl _ rfl rfl rfl ?_)
  |((with_reducible refine zC (ty:=3) ?_);refine zE HM.o.v3 (j:=0) (v:=.int .i64 o.k) _ rfl rfl rfl rfl Tryz.underlying3 rfl ?_)
  |((with_reducible refine zC (ty:=27) ?_);refine zE HM.o.v3 (j:=1) (v:=.slice o.Q o.lq o.cq) _ rfl rfl rfl rfl Tryz.underlying27 rfl ?_)
  |((with_reducible refine zC (ty:=27) ?_);refine zE HM.o.v3 (j:=2) (v:=.slice o.T o.lt o.ct) _ rfl rfl rfl rfl Tryz.underlying27 rfl ?_)
  |((with_reducible refine zC (ty:=26) (x:=.tmp 34) ?_);refine kR HM.o.v3 (j:=4) (vs:=[.bool o.lf,.slice o.P o.np o.pc,.slice o.X o.nt o.tc,.slice o.K o.nk o.kc]) zCp _ rfl rfl rfl Ka ?_)
  |((with_reducible refine zC (ty:=26) (x:=.tmp 44) ?_);refine kR HM.o.v3 (j:=4) (vs:=[.bool o.lf,.slice o.P o.np o.pc,.slice o.X o.nt o.tc,.slice o.K o.nk o.kc]) zCp _ rfl rfl rfl Ka ?_)
  |((with_reducible refine kH (dst:=some 62) (ty:=26) (x:=.tmp 8) ?_);refine zK zD au.o rfl _ rfl Ke rfl ?_)
  |((with_reducible refine kH (dst:=some 64) (ty:=26) (x:=.tmp 63) ?_);refine kNu HM.o.v3.toR (j:=4) (vs:=[.bool o.lf,.slice o.P o.np o.pc,.slice o.X o.nt o.tc,.slice o.K o.nk o.kc]) zCp _ rfl Ke rfl Ka ?_)
  |(go_at_call 45;refine Calls.mono (kN6 (c:=o.nc) (HO.o.later HM.o.below).hasn dG.o) ?_;rintro e w1 ⟨rfl,b9⟩;have HM:=hd (HM.o.call b9);clear b9)
  |(have _g:=HX;go_at_call 94;refine Calls.mono (kQr (HX.o.high HI.o).now (HY.o.high HI.o).now (zKt.later (HO.o.hast aA.o) HM.o.below) cY.o oQ.o) ?_;rintro e wF ⟨cf,rfl,hx,b9⟩;have eG:=HM.o.v4.lt;have gu:=HM.o.below.size;have bI:=hd hx;have HM:=hd (HM.o.call b9);clear b9 hx;dsimp only;clear _g)
  |(go_at_call 94;refine Calls.mono (kQr (d:=o.nc) (HN.o.later HM.o.below) (HO.o.later HM.o.below).hasn (zKt.later (HO.o.hasq aA.o) HM.o.below) cY.o oQ.o) ?_;rintro e wF ⟨cf,rfl,hx,b9⟩;have eG:=HM.o.v4.lt;have gu:=HM.o.below.size;have bI:=hd hx;have HM:=hd (HM.o.call b9);clear b9 hx;dsimp only)
  |(go_at_call 95;refine Calls.mono (kOi (HN.o.later HM.o.below) (zKt.later (HO.o.hasq aA.o) HM.o.below) aL.o cL.o) ?_;rintro e w3 ⟨cr,cy,rfl,h1,h2,b9⟩;have hlo:=HM.o.v4.lt;have hsz:=HM.o.below.size;have HX:=hd h1;have HY:=hd h2;have HI:=hd (kNn HX.o);have HM:=hd (HM.o.call b9);have dP:=HM.o.v4.lt;clear b9 h1 h2;dsimp only)
  |((with_reducible refine zF (ty:=26) ?_);refine zA zD (r0:=NC.nil.row) (r:=cr.row) (zP3 w3).1 rfl rfl cr.one _ _ rfl rfl rfl rfl rfl ?_;intro W4 hv ho;have aB:=hd hv;have HM:=hd ((HM.o.call (zP3 w3).2.2).off Kb ho);have HI:=hd ((HI.o.call (zP3 w3).2.2).off2 ho Kb);have au:=hd ((zP3 w3).2.1.off ho Kb);clear hv ho)
  |((with_reducible refine zF (ty:=26) ?_);refine zA zD (r0:=NC.nil.row) (r:=cy.row) au.o rfl rfl cy.one _ _ rfl rfl rfl rfl rfl ?_;intro W5 hv ho;have aB:=hd (aB.o.off ho Kb);have HM:=hd (HM.o.off Kb ho);have HI:=hd (HI.o.off2 ho Kb);have au:=hd hv;clear hv ho)
  |((with_reducible refine zC (ty:=26) ?_);refine zB zD aB.o rfl _ rfl rfl rfl ?_)
  |((with_reducible refine zC (ty:=26) ?_);refine zB zD au.o rfl _ rfl rfl rfl ?_)
  |(go_at_call 15;refine Calls.mono (zHo (c':=o.nc) (HY.o.high HI.o).now (HO.o.later HM.o.below).hasn gX.o) ?_;rintro e w6 ⟨rfl,b9⟩;have aB:=hd (aB.o.keep b9);have au:=hd (au.o.keep b9);have HI:=hd (HI.o.call b9);have HM:=hd (HM.o.call b9);clear b9)
  |((with_reducible refine zF (ty:=26) ?_);refine zA zD (r0:=NC.nil.row) (r:=cf.row) HM.o.v4 rfl rfl cf.one _ _ rfl rfl rfl rfl rfl ?_;intro W9 hv ho;have HM:=hd (HM.o.set4 (a':=cf) hv ho);(try have bI:=hd (bI.o.off ho Kb));(try have HI:=hd (HI.o.off2 ho Kb));clear hv ho)
  |((with_reducible refine zF (ty:=26) ?_);refine zA zD (r0:=NC.nil.row) (r:=cr.row) HM.o.v4 rfl rfl cr.one _ _ rfl rfl rfl rfl rfl ?_;intro W9 hv ho;have HM:=hd (HM.o.set4 (a':=cr) hv ho);(try have bI:=hd (bI.o.off ho Kb));(try have HI:=hd (HI.o.off2 ho Kb));clear hv ho)
  |((with_reducible refine zF (ty:=26) ?_);refine zA zD (r0:=NC.nil.row) (r:=c.row) HM.o.v4 rfl rfl c.one _ _ rfl rfl rfl rfl rfl ?_;intro W9 hv ho;have HM:=hd (HM.o.set4 (a':=c) hv ho);(try have bI:=hd (bI.o.off ho Kb));(try have HI:=hd (HI.o.off2 ho Kb));clear hv ho)
  |((with_reducible refine zF (ty:=26) ?_);refine zA zD (r0:=NC.nil.row) (r:=NC.nil.row) HM.o.v4 rfl rfl NC.nil.one _ _ rfl rfl rfl rfl rfl ?_;intro W9 hv ho;have HM:=hd (HM.o.set4 (a':=NC.nil) hv ho);(try have bI:=hd (bI.o.off ho Kb));(try have HI:=hd (HI.o.off2 ho Kb));clear hv ho))
 first
  |exact bodyPost_ret (kU Tryz.results48 _ _ HM.o.v4 rfl) rfl ⟨cf,rfl,fun _=>bI.o.more Kb,HM.o.below⟩
  |exact bodyPost_ret (kU Tryz.results48 _ _ HM.o.v4 rfl) rfl ⟨cr,rfl,fun _=>(HX.o.high HI.o).more Kb,HM.o.below⟩
  |exact bodyPost_ret (kU Tryz.results48 _ _ HM.o.v4 rfl) rfl ⟨cr,rfl,fun h=>absurd h dh.o,HM.o.below⟩
  |exact bodyPost_ret (kU Tryz.results48 _ _ HM.o.v4 rfl) rfl ⟨c,rfl,fun h=>absurd h dh.o,HM.o.below⟩
  |exact bodyPost_ret (kU Tryz.results48 _ _ HM.o.v4 rfl) rfl ⟨NC.nil,rfl,fun h=>absurd h dh.o,HM.o.below⟩
 ):P:=h
theorem rdK (h:P:=by
 first|have k1:(o.k==1)=true:=by simp[hk]|have k1:(o.k==1)=false:=by simp[hk]
 first|have k2:(o.k==2)=true:=by simp[hk]|have k2:(o.k==2)=false:=by simp[hk]
 first|have k3:(o.k==3)=true:=by simp[hk]|have k3:(o.k==3)=false:=by simp[hk]
 first|have k4:(o.k==4)=true:=by simp[hk]|have k4:(o.k==4)=false:=by simp[hk]
 first|have k5:(o.k==5)=true:=by simp[hk]|have k5:(o.k==5)=false:=by simp[hk]
 first|have k6:(o.k==6)=true:=by simp[hk]|have k6:(o.k==6)=false:=by simp[hk]
 first|have k7:(o.k==7)=true:=by simp[hk]|have k7:(o.k==7)=false:=by simp[hk]
 first|have k9:(o.k !=6)=true:=by simp[hk]|have k9:(o.k !=6)=false:=by simp[hk]
 clear hk;have HN:=hd hn;have HO:=hd ho;have aA:=hd ta;clear hn ho ta;obtain⟨W0,hW,hst⟩:=zDc w c o;have HW:=hd hW;have HM:=hd hst;clear hW hst;go_enter Tryz.func48,Tryz.ntmps48
 go_upto_region 1 with fail
 rw[HW.o];clear HW;exact rdA
 ):P:=h
theorem kXh {w:World}{c:NC}{o:OC}{n:NT}{E:Int}(hn:kS w c n)(ho:OkA w o a)(ta:zAf a)(hk:o.k=1)(hch:zAd a.n=E)(hne:E≠0):Calls Tryz.prog 48 #[.agg c.row,.agg o.row] w (kNs w (zeroT,E)):=by
 have dG:=hd hch;have dh:=hd hne;have e1:(E !=0)=true:=by simpa using hne
 clear hch hne;exact rdK
theorem kYj {w:World}{c:NC}{o:OC}{n:NT}{r:NT×Int}(hn:kS w c n)(ho:OkA w o a)(ta:zAf a)(hk:o.k=1)(hch:zAd a.n=0)(hsz:sizeT n<=100000)(had:zGo n a.q a.n=r):Calls Tryz.prog 48 #[.agg c.row,.agg o.row] w (kNs w r):=by
 have dG:=hd hch;have cY:=hd hsz;have oQ:=hd had;clear hch hsz had;exact rdK
theorem kXi {w:World}{c:NC}{o:OC}{n:NT}{x y:NT}{E:Int}(hn:kS w c n)(ho:OkA w o a)(ta:zAf a)(hk:o.k=2)(hcut:zBw n a.q=(x,E))(hcm:zE3 n a.q=y)(hne:E≠0):Calls Tryz.prog 48 #[.agg c.row,.agg o.row] w (kNs w (zeroT,E)):=by
 have aL:=hd hcut;have cL:=hd hcm;have dh:=hd hne;have e1:(E==0)=false:=by simpa using hne
 clear hcut hcm hne;exact rdK
theorem kXj {w:World}{c:NC}{o:OC}{n:NT}{x y:NT}(hn:kS w c n)(ho:OkA w o a)(ta:zAf a)(hk:o.k=2)(hcut:zBw n a.q=(x,0))(hcm:zE3 n a.q=y)(hs:eqT y a.n=true):Calls Tryz.prog 48 #[.agg c.row,.agg o.row] w (kNs w (x,0)):=by
 have aL:=hd hcut;have cL:=hd hcm;have gX:=hd hs;clear hcut hcm hs;exact rdK
theorem kXk {w:World}{c:NC}{o:OC}{n:NT}{x y:NT}(hn:kS w c n)(ho:OkA w o a)(ta:zAf a)(hk:o.k=2)(hcut:zBw n a.q=(x,0))(hcm:zE3 n a.q=y)(hs:eqT y a.n=false):Calls Tryz.prog 48 #[.agg c.row,.agg o.row] w (kNs w (zeroT,9)):=by
 have aL:=hd hcut;have cL:=hd hcm;have gX:=hd hs;have dh:=hd (show(9:Int)≠0 by decide);clear hcut hcm hs;exact rdK
theorem kXl {w:World}{c:NC}{o:OC}{n:NT}{x y:NT}{E:Int}(hn:kS w c n)(ho:OkA w o a)(ta:zAf a)(hk:o.k=5)(hcut:zBw n a.q=(x,E))(hcm:zE3 n a.q=y)(hne:E≠0):Calls Tryz.prog 48 #[.agg c.row,.agg o.row] w (kNs w (zeroT,E)):=by
 have aL:=hd hcut;have cL:=hd hcm;have dh:=hd hne;have e1:(E !=0)=true:=by simpa using hne
 clear hcut hcm hne;exact rdK
theorem kYk {w:World}{c:NC}{o:OC}{n:NT}{x y:NT}{r:NT×Int}(hn:kS w c n)(ho:OkA w o a)(ta:zAf a)(hk:o.k=5)(hcut:zBw n a.q=(x,0))(hcm:zE3 n a.q=y)(hsz:sizeT x<=100000)(had:zGo x a.t y=r):Calls Tryz.prog 48 #[.agg c.row,.agg o.row] w (kNs w r):=by
 have aL:=hd hcut;have cL:=hd hcm;have cY:=hd hsz;have oQ:=hd had;clear hcut hcm hsz had;exact rdK
structure kYl (b:Nat)(v:Value)(W w':World):Prop where
 size:W.heap.size<=w'.heap.size
 below:∀B w0,B<=b->B<=W.heap.size->Below B w0 W->Below B w0 w'
 cell:∀p:Addr,p.block<W.heap.size->some p.block≠v.ownBlock->w'.cell? p=W.cell? p
theorem kAg.of_own {w:World}{b n:Nat}{l:List Pr}(h:w.ownsRow b 94 2 v n (flat l))(hn:n=l.length):kAg w b v l:=by
 subst hn;rcases h.2 with⟨e,h0⟩|⟨g,cap,cur,e,_⟩
 ·exact⟨none,0,by rw[e,h0],h⟩
 ·exact⟨some ⟨g,0,none⟩,cap,e,h⟩
theorem kAg.own {w:World}{b:Nat}{l:List Pr}(h:kAg w b v l):w.ownsRow b 94 2 v l.length (flat l):=by
 obtain⟨_,_,_,h⟩:=h;exact h
theorem kAg.lt {w:World}{b:Nat}{l:List Pr}(h:kAg w b v l){j:Nat}(hj:v.ownBlock=some j):b<=j/\j<w.heap.size:=h.own.lt j hj
theorem kAg.alloc {w:World}{b:Nat}{l:List Pr}(h:kAg w b v l)(o:Obj):kAg (w.alloc o) b v l:=h.below (Kk.alloc Kl o)
theorem kNq (W:World){rest:List Oper}{o:Oper}{a:Act}{Q:Exit->Act->World->Prop}(hgd:o.guard=none)(s x:Operand)
  (ho:o.op=.call {callee:=.builtin .append,args:=#[s,x],argTypes:=#[22,22]})
  (b:Nat) (v:Value) (l:List Pr) (hs:a.eval s=v) (hO:kAg W b v l) (k t:ByteArray) (g:Nat) (hg:g=W.heap.size) (hx:a.eval x=.slice (some ⟨g,0,none⟩) 1 1) (hlen:l.length<=1000) (hb:b<=W.heap.size)
  (hK:∀v' w',kAg w' b v' (l++[(k,t)])->kYl b v W w'->wpList Tryz.prog ops Q rest (a.put o.dst v') w'):
  wpList Tryz.prog ops Q (o::rest) a (W.alloc (.cells #[.string k,.string t] 94)):=by
 subst hg;obtain⟨i0,hi,hz0,hz1,hz2⟩:=info_parts kKq;refine wpList_append_own _ hgd s x 22 ho b 94 i0 _ 2 32 Tryz.underlying22 hi hz0 hz1 hz2 rfl Kd v l.length (flat l) hs (hO.alloc _).own ⟨W.heap.size,0,none⟩ 1 1 [.string k,.string t] hx rfl (cell_two_new _ _ _ _) (by simp[Value.oneCell'])
  Kg Kb Kf (fun v' w' h1 h2 _=>hK v' w' (kAg.of_own (n:=l.length+1) (by rw[zRo];exact h1) Kc) ?_)
 have hsz:(W.alloc (.cells #[.string k,.string t] 94)).heap.size=W.heap.size+1:=by simp
 refine⟨by have:=h2.size;omega,fun B w0 hB ow hb0=>(hb0.alloc ow _).grown h2 Kb (fun j hj=>Nat.le_trans hB (hO.lt hj).1),fun p hp hne=>?_⟩;exact(World.cell?_of_block (h2.block p.block Kb hne)).trans (World.cell?_alloc_lt _ _ p hp)
theorem kUx (A:Option Addr)(l:List Pr)(c:Nat)(k v:ByteArray)(w:World)(hl:l.length<=1000)(hp:PL w w.heap.size A l):
  Calls Tryz.prog 145 #[.slice A l.length c,.agg #[.string k,.string v]] w fun e w'=>e=.returned (.bool (zGz l (k,v)))/\Below w.heap.size w w':=by
 have HP:=hd hp;clear hp;have kw:Below (w.heap.size+1) (w.alloc (.cells #[.string k,.string v] 94)) (w.alloc (.cells #[.string k,.string v] 94)):=Below.refl _ _;have HB:Kq (∀wr,Below (w.heap.size+1) (w.alloc (.cells #[.string k,.string v] 94)) wr->Below w.heap.size w wr/\wr.cell? ⟨w.heap.size,0,none⟩=some (.string k)/\wr.cell? ⟨w.heap.size,1,none⟩=some (.string v)):=hd fun wr h=>
  ⟨(Kk.alloc Kl _).trans (h.mono Kb),kDt (by simpa using h)⟩
 go_enter Tryz.func145,Tryz.ntmps145
 go_wp2
 go_loopw [9] (fun i wr=>∃n:Nat,n<=l.length/\i=.int .i64 n/\Below (w.heap.size+1) (w.alloc (.cells #[.string k,.string v] 94)) wr/\Kq (∀j,j<n->zJr (k,v) (jU l j)=false)) (fun i _=>l.length-(intOf i).toNat)
 case atStart=>exact⟨0,Nat.zero_le _,rfl,kw,fun j hj=>absurd hj (Nat.not_lt_zero _)⟩
 case round=>
  clear kw;obtain⟨n,hn,rfl,hb,HA⟩:=hrel;obtain⟨hw,k1,k2⟩:=HB.o wr hb;have hsz:w.heap.size<wr.heap.size:=by have:=hb.size;simp at this;omega
  by_cases hlt:n<l.length
  ·obtain⟨b,o,rfl,hlb,c1,c2⟩:=(HP.o.below hw).at_ hlt;have heq:=fun W=>kYn (jU l n).1 (jU l n).2 k v W;have hgd:=fun(x y:Operand)(op:BinOp)(W:World)=>run_eqGuard_agg (P:=Tryz.prog) W op 94 x y #[.string (jU l n).1,.string (jU l n).2] #[.string k,.string v] zZw;have mH:zJr (k,v) (jU l n)=((jU l n).1.toList==k.toList&&(jU l n).2.toList==v.toList):=by
    rw[Bool.eq_iff_iff,zIa];constructor
    ·intro h;rw[<-h];simp
    ·intro h;simp only[Bool.and_eq_true,beq_iff_eq]at h;exact(Prod.ext (toList_inj h.1) (toList_inj h.2):jU l n=(k,v)).symm
   cases hs:((jU l n).1.toList==k.toList&&(jU l n).2.toList==v.toList)
   ·have HX:=zBm (p:=fun j=>zJr (k,v) (jU l j)=false) HA (by rw[mH];exact hs);simp only[hs]at heq;clear hs mH HA;go_wp2
    go_roundw
    case rel=>exact⟨n+1,by omega,by go_num,hb.alloc Kb _,HX⟩
    case measure=>simp[intOf];omega
   ·have HX:Kq (zGz l (k,v)=true):=hd (by
     rw[zDo];have e:=(zIa _ _).1 (mH.trans hs);rw[e,zB7 l n hlt];exact List.getElem_mem hlt)
    simp only[hs]at heq;clear hs mH HA;go_wp2
    go_ret
    exact⟨kC HX.o.symm,hw.alloc hw.size _⟩
  ·have HX:Kq (zGz l (k,v)=false):=hd (by
    unfold zGz;rw[List.any_eq_false];intro p hp;obtain⟨j,hj,rfl⟩:=List.mem_iff_getElem.1 hp;have:=HA.o j Kb;rw[zB7 l j hj]at this;simp[this])
   clear HA;go_wp2
   go_ret
   exact⟨kC HX.o.symm,hw⟩
def kYm (w:World)(L:List Pr)(e:Ending)(w':World):Prop:=∃v,e=.returned v/\kAg w' w.heap.size v L/\Below w.heap.size w w'
theorem kUy (W:World)(o:Obj):W.heap.size+1=(W.alloc o).heap.size:=by simp
theorem kTo (A:Option Addr)(l:List Pr)(c:Nat)(k t:ByteArray)(w:World)(hl:l.length<=900)(hp:PL w w.heap.size A l):
  Calls Tryz.prog 147 #[.slice A l.length c,.agg #[.string k,.string t]] w (kYm w (ins (k,t) l)):=by
 have HP:=hd hp;clear hp;have kw:Below (w.heap.size+1) (w.alloc (.cells #[.string k,.string t] 94)) (w.alloc (.cells #[.string k,.string t] 94)):=Below.refl _ _;have HB:Kq (∀wr,Below (w.heap.size+1) (w.alloc (.cells #[.string k,.string t] 94)) wr->Below w.heap.size w wr/\wr.cell? ⟨w.heap.size,0,none⟩=some (.string k)/\wr.cell? ⟨w.heap.size,1,none⟩=some (.string t)):=hd fun wr h=>
  ⟨(Kk.alloc Kl _).trans (h.mono Kb),kDt (by simpa using h)⟩
 go_enter Tryz.func147,Tryz.ntmps147
 go_wp2
 go_loopw [5,6,11] (fun v dv i wr=>∃(n:Nat)(dn:Bool)(out:List Pr),n<=l.length/\i=.int .i64 n/\dv=.bool dn/\kAg wr (w.heap.size+1) v out/\Below (w.heap.size+1) (w.alloc (.cells #[.string k,.string t] 94)) wr/\Kq (qSt (k,t) l n dn out)) (fun _ _ i _=>l.length-(intOf i).toNat)
 case atStart=>exact⟨0,false,[],Nat.zero_le _,rfl,rfl,kAg.nil _ _,kw,qSt.start _ _⟩
 case round=>
  clear kw;obtain⟨n,dn,out,hn,rfl,rfl,hO,hb,HX⟩:=hrel;obtain⟨hw,k1,k2⟩:=HB.o wr hb;have hsz:w.heap.size<wr.heap.size:=by have:=hb.size;simp at this;omega
  have hol:=HX.o.len;have ky:out.length<=1000:=Kb;by_cases hlt:n<l.length
  ·obtain ⟨b,o,rfl,hlb,c1,c2⟩:=(HP.o.below hw).at_ hlt;have oU:=hO.alloc (.cells #[.string (jU l n).1,.string (jU l n).2] 94);have hs1:=hd (kUy wr (.cells #[.string (jU l n).1,.string (jU l n).2] 94));have hs2:w.heap.size+1<=(wr.alloc (.cells #[.string (jU l n).1,.string (jU l n).2] 94)).heap.size:=by simp;omega
   have gS:=hd hs2;clear hs2;have hb1:=hb.alloc (show w.heap.size+1<=wr.heap.size by omega) (.cells #[.string (jU l n).1,.string (jU l n).2] 94);cases dn
   ·cases hx:ltK (k,t) (jU l n)
    ·have HY:=hd (HX.o.no hlt hx);have hle:leB (jU l n).1 k=true:=(zZ5 (jU l n) (k,t)).2 hx;cases hA:Op.bytesLess (jU l n).1.toList k.toList
     all_goals
      have hB:(Op.bytesLess (jU l n).1.toList k.toList=false->((jU l n).1.toList==k.toList)=true):=fun h=>by unfold leB at hle;rw[h]at hle;exact hle
      first
       | (have hB':=hB hA;clear hB hle hx HX
          go_wp2_with(first
           |(at_builtin;refine kNq _ rfl (.tmp 28) (.tmp 30) rfl (w.heap.size+1) _ out rfl oU (jU l n).1 (jU l n).2 (wr.heap.size+1) hs1.o rfl ky gS.o ?_;intro v2 w2 gI jn))
          go_roundw
          case rel=>exact⟨n+1,false,_,by omega,by go_num,rfl,gI,jn.below _ _ Kl gS.o hb1,HY⟩
          case measure=>simp[intOf];omega)
       | (clear hB hle hx HX
          go_wp2_with(first
           |(at_builtin;refine kNq _ rfl (.tmp 28) (.tmp 30) rfl (w.heap.size+1) _ out rfl oU (jU l n).1 (jU l n).2 (wr.heap.size+1) hs1.o rfl ky gS.o ?_;intro v2 w2 gI jn))
          go_roundw
          case rel=>exact⟨n+1,false,_,by omega,by go_num,rfl,gI,jn.below _ _ Kl gS.o hb1,HY⟩
          case measure=>simp[intOf];omega)
    ·have HY:=hd (HX.o.hit hlt hx);have hle:leB (jU l n).1 k=false:=by
      cases h:leB (jU l n).1 k
      ·rfl
      ·rw[(zZ5 (jU l n) (k,t)).1 h]at hx;cases hx
     unfold leB at hle;have hA:Op.bytesLess (jU l n).1.toList k.toList=false:=(Bool.or_eq_false_iff.1 hle).1;have hB:((jU l n).1.toList==k.toList)=false:=(Bool.or_eq_false_iff.1 hle).2;have hne:some wr.heap.size≠Value.ownBlock u5:=fun h=>by have:=(hO.lt h.symm).2;omega
     have dh:=hd hne;clear hle hx HX hne
     go_wp2_with(first
      | (at_builtin;refine kNq _ rfl (.tmp 24) (.tmp 26) rfl (w.heap.size+1) _ out rfl oU k t (wr.heap.size+1) hs1.o rfl ky gS.o ?_;intro v2 w2 gI jn
         have d1:=(jn.cell ⟨wr.heap.size,0,none⟩ Kc dh.o).trans (show(wr.alloc (.cells #[.string (jU l n).1,.string (jU l n).2] 94)).cell? ⟨wr.heap.size,0,none⟩=some (.string (jU l n).1) by simp)
         have d2:=(jn.cell ⟨wr.heap.size,1,none⟩ Kc dh.o).trans (show(wr.alloc (.cells #[.string (jU l n).1,.string (jU l n).2] 94)).cell? ⟨wr.heap.size,1,none⟩=some (.string (jU l n).2) by simp)
         have hb2:=jn.below _ _ Kl gS.o hb1)
      |(at_builtin;refine kNq _ rfl (.tmp 28) (.tmp 30) rfl (w.heap.size+1) _ _ rfl gI (jU l n).1 (jU l n).2 w2.heap.size rfl rfl Kf (Nat.le_trans gS.o jn.size) ?_;intro v3 w3 jh Bc))
     go_roundw
     case rel=>exact⟨n+1,true,_,by omega,by go_num,rfl,jh,Bc.below _ _ Kl (Nat.le_trans gS.o jn.size) hb2,HY⟩
     case measure=>simp[intOf];omega
   ·have HY:=hd (HX.o.yes hlt);clear HX;go_wp2_with(first
     |(at_builtin;refine kNq _ rfl (.tmp 28) (.tmp 30) rfl (w.heap.size+1) _ out rfl oU (jU l n).1 (jU l n).2 (wr.heap.size+1) hs1.o rfl ky gS.o ?_;intro v2 w2 gI jn))
    go_roundw
    case rel=>exact⟨n+1,true,_,by omega,by go_num,rfl,gI,jn.below _ _ Kl gS.o hb1,HY⟩
    case measure=>simp[intOf];omega
  ·cases dn
   ·have HE:=hd (HX.o.end_no hlt);have hs0:w.heap.size+1<=wr.heap.size:=Kb;clear HX;go_wp2_with(first
     |(at_builtin;refine kNq _ rfl (.tmp 35) (.tmp 37) rfl (w.heap.size+1) _ out rfl hO k t wr.heap.size rfl rfl ky hs0 ?_;intro v2 w2 gI jn))
    go_ret
    exact⟨v2,rfl,by rw[<-HE.o];exact gI.base Kb,jn.below _ _ Kb Kb hw⟩
   ·have HE:=hd (HX.o.end_yes hlt);clear HX;go_wp2
    go_ret
    exact⟨_,rfl,by rw[<-HE.o];exact hO.base Kb,hw⟩
theorem kP1 (A:Option Addr)(l:List Pr)(c:Nat)(w:World)(hF:zIo l)(hp:PL w w.heap.size A l)(E:Int)(hE:chk l=E):
  Calls Tryz.prog 100 #[.slice A l.length c] w fun e w'=>e=.returned (.int .i64 E)/\Below w.heap.size w w':=hE▸kO9 A l c w hF hp
theorem kQs (A:Option Addr)(l:List Pr)(c:Nat)(k v:ByteArray)(r:Bool)(hr:zGz l (k,v)=r)(w:World)(hl:l.length<=1000)(hp:PL w w.heap.size A l):
  Calls Tryz.prog 145 #[.slice A l.length c,.agg #[.string k,.string v]] w fun e w'=>e=.returned (.bool r)/\Below w.heap.size w w':=hr▸kUx A l c k v w hl hp
theorem kO7 (A:Option Addr)(l:List Pr)(c:Nat)(k v:ByteArray)(b:Bool)(hv:kJv l k=v)(hb:zKz l k=b)(w:World)(hl:l.length<=200)(hp:PL w w.heap.size A l):
  Calls Tryz.prog 146 #[.slice A l.length c,.string k] w fun e w'=>e=.returned (.tuple #[.string v,.bool b])/\Below w.heap.size w w':=by
 subst hv hb;exact kTk A l c k w Kb hp
theorem kSu (A B C:Option Addr)(l old new:List Pr)(c d f:Nat)(w:World)(hF:zIo l)(hG:zIo old)(hH:zIo new)(hp:PL w w.heap.size A l)(hq:PL w w.heap.size B old)(hr:PL w w.heap.size C new)(E:Int)(hE:chk3 l old new=E)(h0:(E !=0)=true):
  Calls Tryz.prog 102 #[.slice A l.length c,.slice B old.length d,.slice C new.length f] w (zPk w E):=by
 have iA:=hd (LL3 c d f hp hq hr);have mI:Kq (∀k,k<3->zIo (zGf l old new k)):=hd fun k hk=>by
  match k,hk with
  |0,_=>exact hF
  |1,_=>exact hG
  |2,_=>exact hH
 have HE:=hd hE;have Bd:=hd h0;clear hE hp hq hr hF hG hH h0;go_enter Tryz.func102,Tryz.ntmps102
 go_wp2
 go_loopw [29] (fun i wr=>∃k:Nat,k<=3/\i=.int .i64 k/\Below (w.heap.size+1) (w.alloc (.cells #[.slice A l.length c,.slice B old.length d,.slice C new.length f] 22)) wr/\Kq (∀j,j<k->chk (zGf l old new j)=0)) (fun i _=>3-(intOf i).toNat)
 case atStart=>exact⟨0,by omega,rfl,Below.refl _ _,fun j hj=>absurd hj (Nat.not_lt_zero _)⟩
 case round=>
  obtain⟨k,hk,rfl,hb,HX⟩:=hrel;have hw:Below w.heap.size w wr:=(Kk.alloc Kl _).trans (hb.mono Kb);by_cases hlt:k<3
  ·obtain⟨hc0,hp0⟩:=iA.o.2 k hlt;have hF:=mI.o k hlt;have hc:=(hb.cell (p:=⟨w.heap.size,0+k,none⟩) Kc).trans hc0;rw[Nat.zero_add]at hc;have hp1:=(hp0.below (B:=_) (hb.mono Kc)).more hb.size;clear hc0 hp0;cases hcz:(chk (zGf l old new k) !=0)
   ·have HY:=zBm (p:=fun j=>chk (zGf l old new j)=0) HX (by simpa using hcz);have hC:=hd (kP1 (zGf A B C k) (zGf l old new k) (zGf c d f k) wr hF hp1 0 (by simpa using hcz));clear hcz hp1 hF HX;go_wp2_with(first|(go_at_call 100;refine hC.o.mono ?_;rintro e w3 ⟨rfl,hb3⟩))
    have hb4:=hb.trans (hb3.mono (by have:=hb.size;simp at this;omega));go_roundw
    case rel=>exact⟨k+1,by omega,by go_num,hb4,HY⟩
    case measure=>simp[intOf];omega
   ·have HR:=hd ((kHo l old new).symm.trans (zGd 3 (zGf l old new) k hlt HX.o (by simpa using hcz)));obtain⟨F,uK⟩:∃F,F=chk (zGf l old new k):=⟨_,rfl⟩;have hC:=hd (kP1 (zGf A B C k) (zGf l old new k) (zGf c d f k) wr hF hp1 F uK.symm);rw[<-uK]at hcz HR;have Be:Kq (E=F):=hd (HE.o.symm.trans HR.o);clear hp1 hF HX uK HR;go_wp2_with(first|(go_at_call 100;refine hC.o.mono ?_;rintro e w3 ⟨rfl,hb3⟩))
    go_ret2
    exact⟨by rw[Be.o];rfl,hw.trans (hb3.mono hw.size)⟩
  ·exfalso;have h1:=zIz 3 (zGf l old new) (fun j hj=>HX.o j Kb);rw[kHo,HE.o]at h1;have h2:=Bd.o;rw[h1]at h2;cases h2
