import Derived.Test.YtmkciabefepelaaGreatJBOpen
set_option maxRecDepth 4000
set_option maxHeartbeats 8000000
namespace Go.Proofs.YtmkciabefepelaaGreat
open Go.RowKit
variable {t ty:TypeId}{A B C D:Option Addr}{x:Operand}{v:Value}{pos:String}{l:List Int}
section
variable {W:World}{c d:OC}{a b:OpP}{E:Bool}
theorem OkA.xq (h:OkA W c a)(t:zAf a):XA W (.slice c.Q c.lq c.cq) a.q:=⟨_,_,_,rfl,h.hlq,by have:=t.hq;have:=h.hlq;omega,h.hcq,h.hq⟩
theorem OkA.xt (h:OkA W c a)(t:zAf a):XA W (.slice c.T c.lt c.ct) a.t:=⟨_,_,_,rfl,h.hlt,by have:=t.ht;have:=h.hlt;omega,h.hct,h.ht⟩
theorem OkA.pf (h:OkA W c a)(t:zAf a):zI4 W (.agg #[.slice c.F1 c.f1 c.d1,.int .i64 c.fo]) a.f.a/\zI4 W (.agg #[.slice c.F2 c.f2 c.d2,.int .i64 c.fp]) a.f.f:=
 h.hf.two (by have:=t.hfa;have:=h.hf.hn;omega) (by have:=t.hff;have:=h.hf.hm;omega)
theorem OkA.pg (h:OkA W c a)(t:zAf a):zI4 W (.agg #[.slice c.G1 c.g1 c.e1,.int .i64 c.go]) a.g.a/\zI4 W (.agg #[.slice c.G2 c.g2 c.e2,.int .i64 c.gp]) a.g.f:=
 h.hg.two (by have:=t.hga;have:=h.hg.hn;omega) (by have:=t.hgf;have:=h.hg.hm;omega)
theorem kYb (h:OkA W c a)(g:OkA W d b)(ta:zAf a)(tb:zAf b)(hs:zEd a.q b.q=E):Calls Tryz.prog 107 #[.slice c.Q c.lq c.cq,.slice d.Q d.lq d.cq] W (jA (.bool E) W):=kN0 (h.xq ta) (g.xq tb) hs
theorem kYc (h:OkA W c a)(g:OkA W d b)(ta:zAf a)(tb:zAf b)(hs:zEd a.t b.t=E):Calls Tryz.prog 107 #[.slice c.T c.lt c.ct,.slice d.T d.lt d.ct] W (jA (.bool E) W):=kN0 (h.xt ta) (g.xt tb) hs
theorem kYd (h:OkA W c a)(g:OkA W d b)(hs:eqT a.n b.n=E):Calls Tryz.prog 15 #[.agg #[.bool c.lf,.slice c.P c.np c.pc,.slice c.X c.nt c.tc,.slice c.K c.nk c.kc],.agg #[.bool d.lf,.slice d.P d.np d.pc,.slice d.X d.nt d.tc,.slice d.K d.nk d.kc]] W (jA (.bool E) W):=by
 obtain⟨d1,h1⟩:=h.hn;obtain⟨d2,h2⟩:=g.hn;subst hs;exact zWd d1 d2 W _ _ _ _ h1 h2
theorem kYe (h:OkA W c a)(g:OkA W d b)(hs:decide (a.o=b.o)=E):Calls Tryz.prog 50 #[.slice c.O c.no c.co,.slice d.O d.no d.co] W (jA (.bool E) W):=by
 subst hs;rw[<-h.hno,<-g.hno];exact zWq _ _ _ _ _ _ W (by have:=h.hno;have:=h.hmo;omega) (by have:=g.hno;have:=g.hmo;omega) h.ho g.ho
theorem kYf (h:OkA W c a)(g:OkA W d b)(hs:decide (a.w=b.w)=E):Calls Tryz.prog 50 #[.slice c.W c.nw c.cw,.slice d.W d.nw d.cw] W (jA (.bool E) W):=by
 subst hs;rw[<-h.hnw,<-g.hnw];exact zWq _ _ _ _ _ _ W (by have:=h.hnw;have:=h.hmw;omega) (by have:=g.hnw;have:=g.hmw;omega) h.hw g.hw
theorem kYg (h:OkA W c a)(g:OkA W d b)(hs:sameL a.x b.x=E):Calls Tryz.prog 51 #[.slice c.S c.nx c.cx,.slice d.S d.nx d.cx] W (jA (.bool E) W):=
 zLw (zZy _ _ _ _ _ _ _ _ E hs W h.hnx g.hnx (by have:=h.hmx;omega) (by have:=g.hmx;omega) h.hx g.hx)
theorem kGx {s t:Sl}{si ti:Bool}{na ca nb cb nc cc nd cd:Nat}{x y u v:Int}(h:zIi W si A na ca x B nb cb y s)(g:zIi W ti C nc cc u D nd cd v t)(h1:na<=10000000)(h2:nb<=10000000)(h3:nc<=10000000)(h4:nd<=10000000)(hs:zF7 s t=E):
  Calls Tryz.prog 16 #[.agg #[.bool si,.slice A na ca,.int .i64 x,.slice B nb cb,.int .i64 y],.agg #[.bool ti,.slice C nc cc,.int .i64 u,.slice D nd cd,.int .i64 v]] W (jA (.bool E) W):=by
 obtain⟨a1,a2⟩:=h.two h1 h2;obtain⟨b1,b2⟩:=g.two h3 h4;have e1:=h.his;have e2:=h.hx;have e3:=h.hy;have e4:=g.his;have e5:=g.hx;have e6:=g.hy;subst hs e1 e2 e3 e4 e5 e6;exact zQw W s t A B C D na nb nc nd ca cb cc cd a1 a2 b1 b2
theorem zKp {s t:Sl}{si ti:Bool}{na ca nb cb nc cc nd cd:Nat}{x y u v:Int}(h:zIi W si A na ca x B nb cb y s)(g:zIi W ti C nc cc u D nd cd v t)(h1:na<=10000000)(h2:nb<=10000000)(h3:nc<=10000000)(h4:nd<=10000000)(hs:zF7 s t=E):
  Calls Tryz.prog 20 #[.agg #[.bool si,.slice A na ca,.int .i64 x,.slice B nb cb,.int .i64 y],.agg #[.bool ti,.slice C nc cc,.int .i64 u,.slice D nd cd,.int .i64 v]] W (jA (.bool E) W):=by
 obtain⟨a1,a2⟩:=h.two h1 h2;obtain⟨b1,b2⟩:=g.two h3 h4;have e1:=h.his;have e2:=h.hx;have e3:=h.hy;have e4:=g.his;have e5:=g.hx;have e6:=g.hy;subst hs e1 e2 e3 e4 e5 e6;exact zL4 W s t A B C D na nb nc nd ca cb cc cd a1 a2 b1 b2
theorem kYh (h:OkA W c a)(g:OkA W d b)(ta:zAf a)(tb:zAf b)(hs:zF7 a.f b.f=E):Calls Tryz.prog 16 #[.agg #[.bool c.fi,.slice c.F1 c.f1 c.d1,.int .i64 c.fo,.slice c.F2 c.f2 c.d2,.int .i64 c.fp],.agg #[.bool d.fi,.slice d.F1 d.f1 d.d1,.int .i64 d.fo,.slice d.F2 d.f2 d.d2,.int .i64 d.fp]] W (jA (.bool E) W):=
 kGx h.hf g.hf (by have:=ta.hfa;have:=h.hf.hn;omega) (by have:=ta.hff;have:=h.hf.hm;omega) (by have:=tb.hfa;have:=g.hf.hn;omega) (by have:=tb.hff;have:=g.hf.hm;omega) hs
theorem kYi (h:OkA W c a)(g:OkA W d b)(ta:zAf a)(tb:zAf b)(hs:zF7 a.g b.g=E):Calls Tryz.prog 16 #[.agg #[.bool c.gi,.slice c.G1 c.g1 c.e1,.int .i64 c.go,.slice c.G2 c.g2 c.e2,.int .i64 c.gp],.agg #[.bool d.gi,.slice d.G1 d.g1 d.e1,.int .i64 d.go,.slice d.G2 d.g2 d.e2,.int .i64 d.gp]] W (jA (.bool E) W):=
 kGx h.hg g.hg (by have:=ta.hga;have:=h.hg.hn;omega) (by have:=ta.hgf;have:=h.hg.hm;omega) (by have:=tb.hga;have:=g.hg.hn;omega) (by have:=tb.hgf;have:=g.hg.hm;omega) hs
end
theorem kTe (w:World)(c d:OC):∃W0,(w.alloc (.cells c.row 35)).alloc (.cells d.row 35)=W0/\Below w.heap.size w W0/\W0.heap.size=w.heap.size+1+1/\jR W0 w.heap.size c/\jR W0 (w.heap.size+1) d:=by
 have h:=zK2 w (.cells c.row 35) (.cells d.row 35);exact⟨_,rfl,kM Kk Kl,by simp,h.1,h.2⟩
def zU4 (cs:Array Value):Nat->List Value->Array Value
 |_,[]=>cs
 |j,v::r=>zU4 (cs.setIfInBounds j v) (j+1) r
theorem zHr (g:Nat)(t:TypeId):∀(vs:List Value)(j:Nat)(w:World)(cs:Array Value),w.heap[g]? =some (.cells cs t (0,0))->(w.setCells g j vs).heap[g]? =some (.cells (zU4 cs j vs) t (0,0))/\Off g w (w.setCells g j vs)
 |[],j,w,cs,h=>⟨h,Off.refl g w⟩
 |v::r,j,w,cs,h=>by
  obtain⟨h1,h2⟩:=zHr g t r (j+1) _ _ (kAk w g t cs j v h);have h3:Off g w (w.setCell ⟨g,j,none⟩ v):=⟨rfl,rfl,rfl,by show _<=(w.heap.modify g _).size;simp,fun k _ hne=>Below.heap_setCell w ⟨g,j,none⟩ v k (by simpa using hne)⟩;exact⟨h1,h3.trans h2⟩
theorem jR.off {w w':World}{g g':Nat}{c:OC}(h:jR w g c)(ho:Off g' w w')(hne:g≠g'):jR w' g c:=(ho.block g h.lt hne).trans h
theorem zL {n:Nat}(hsz:(Tryz.prog.info? ty).map (·.size)=some n){ops:Array Oper}{rest:List Oper}{op:Oper}{a:Act}{W:World}{Q:Exit->Act->World->Prop}{g:Nat}{c:OC}(h:jR W g c)(x y:Operand)(ho:op.op=.store ty x y)(hgd:op.guard=none)(hd:op.dst=none)
  (j:Nat) (v:Value) (vs:List Value) (c':OC) (hx:a.eval x=.pointer (some ⟨g,j,none⟩)) (hy:a.eval y=v) (hv:v.cells=vs.toArray) (hn:vs.length=n) (h1:∀u ∈ vs,u.oneCell'=true) (hj:j+vs.length<=21) (hc:zU4 c.row j vs=c'.row)
  (hk:∀W',jR W' g c'->Off g W W'->wpList Tryz.prog ops Q rest a W'):wpList Tryz.prog ops Q (op::rest) a W:=by
 have hcell:∀i,i<vs.length->(W.cell? ⟨g,j+i,none⟩).isSome=true/\W.frozen? ⟨g,j+i,none⟩=false:=fun i hi=>by
  refine⟨?_,h.thaw _⟩;have hs:j+i<c.row.size:=by rw[OC.size];omega
  rw[h.cell (j+i) _ (Array.getElem?_eq_getElem hs)];rfl
 have hrun:=run_storeCells_cells (P:=Tryz.prog) g j vs 0 W (fun i hi=>by simpa using(hcell i hi).1) (fun i hi=>by simpa using(hcell i hi).2) h1;have hst:(storeVar ty ⟨g,j,none⟩ v).run Tryz.prog W=.ok () (W.setCells g j vs):=by
  cases hq:Tryz.prog.info? ty with
  |none=>simp[hq]at hsz
  |some i=>
   have hs:i.size=vs.length:=by simp[hq]at hsz;omega
   simp only[Nat.add_zero]at hrun;simp[storeVar,sizeOf,typeInfo,hq,hv,hs,hrun]
 refine wpList_plain hgd fun K hK=>?_;unfold Oper.wp execOp;simp only[ho,hx,hy,Instr.storeAt,Instr.sureAddr,Sem.run_bind,Sem.run_pure,Result.andThen_ok,hst];obtain⟨r1,r2⟩:=zHr g _ vs j W _ h;rw[hc]at r1;exact hK _ _ (by rw[hd];exact hk _ r1 r2)
theorem zF {P:Program}{ops:Array Oper}{Q:Exit->Act->World->Prop}{dst:Option Nat}{y:Operand}{af:Array Edge}{rest:List Oper}{a:Act}{w:World}(h:wpList P ops Q ({dst:=dst,op:=.store ty x y,type:=t,pos:=pos,after:=af,guard:=none}::rest) a w):wpList P ops Q ({dst:=dst,op:=.store ty x y,type:=t,pos:=pos,after:=af,guard:=none}::rest) a w:=h
theorem zC {P:Program}{ops:Array Oper}{Q:Exit->Act->World->Prop}{dst:Option Nat}{af:Array Edge}{rest:List Oper}{a:Act}{w:World}(h:wpList P ops Q ({dst:=dst,op:=.load ty x,type:=t,pos:=pos,after:=af,guard:=none}::rest) a w):wpList P ops Q ({dst:=dst,op:=.load ty x,type:=t,pos:=pos,after:=af,guard:=none}::rest) a w:=h
theorem kH {P:Program}{ops:Array Oper}{Q:Exit->Act->World->Prop}{dst:Option Nat}{af:Array Edge}{gq:Nat×Bool}{rest:List Oper}{a:Act}{w:World}(h:wpList P ops Q ({dst:=dst,op:=.load ty x,type:=t,pos:=pos,after:=af,guard:=some gq}::rest) a w):wpList P ops Q ({dst:=dst,op:=.load ty x,type:=t,pos:=pos,after:=af,guard:=some gq}::rest) a w:=h
theorem zDq {ops:Array Oper}{rest:List Oper}{op:Oper}{a:Act}{w:World}{Q:Exit->Act->World->Prop}{g:Nat}{c:OC}(h:jR w g c)
  (x:Operand) (ho:op.op=.load 35 x) (hw:Region.wanted op (yielded ops a.tmps)=true) (hx:a.eval x=.pointer (some ⟨g,0,none⟩)) (hk:wpList Tryz.prog ops Q rest (a.put op.dst (.agg c.row)) w):wpList Tryz.prog ops Q (op::rest) a w:=by
 obtain⟨d,h1,h2,h3⟩:=zK4;refine wpList_step fun K hK=>?_;rw[if_pos hw];exact wp_load_mid 35 x ho g 0 hx c.row.toList d h.range h1 h2 h3 (hK _ _ hk)
theorem zD3 {d:TypeDesc}(hu:Tryz.prog.underlying ty=some d)(hd:d.isRow=false){w:World}{a:Addr}(hc:w.cell? a=some v):(loadVar ty a).run Tryz.prog w=.ok v w:=by
 have hagg:(isAgg ty).run Tryz.prog w=.ok false w:=by
  unfold isAgg;rw[Sem.run_bind,run_underlying hu w];cases d<;>simp_all
 simp[loadVar,Sem.run_bind,hagg,hc]
theorem zE {ops:Array Oper}{rest:List Oper}{op:Oper}{a:Act}{w:World}{Q:Exit->Act->World->Prop}{g:Nat}{c:OC}(h:jR w g c){j:Nat} 
  (x:Operand) (ho:op.op=.load ty x) (hgd:op.guard=none) (hx:a.eval x=.pointer (some ⟨g,j,none⟩)) (hv:c.row[j]? =some v) {d:TypeDesc} (hu:Tryz.prog.underlying ty=some d) (hd:d.isRow=false) (hk:wpList Tryz.prog ops Q rest (a.put op.dst v) w):wpList Tryz.prog ops Q (op::rest) a w:=by
 have hc:=h.cell j v hv;have hl:=zD3 hu hd hc;refine wpList_plain hgd fun K hK=>?_;unfold Oper.wp execOp;simp only[ho,hx,Instr.loadAt,Instr.sureAddr,Sem.run_bind,Sem.run_pure,Result.andThen_ok,hl];exact hK _ _ hk
theorem kR {ops:Array Oper}{rest:List Oper}{op:Oper}{a:Act}{w:World}{Q:Exit->Act->World->Prop}{g:Nat}{c:OC}(h:jR w g c){j:Nat}{vs:List Value}
  (hrow:∃d,Tryz.prog.underlying ty=some d/\d.isRow=true/\(Tryz.prog.info? ty).map (·.size)=some vs.length) (x:Operand) (ho:op.op=.load ty x) (hgd:op.guard=none) (hx:a.eval x=.pointer (some ⟨g,j,none⟩)) (hv:(c.row.extract j (j+vs.length)).toList=vs) (hk:wpList Tryz.prog ops Q rest (a.put op.dst (.agg vs.toArray)) w):wpList Tryz.prog ops Q (op::rest) a w:=by
 obtain⟨d,h1,h2,h3⟩:=hrow;refine wpList_load_mid hgd ty x ho g j hx vs d (fun i v hi=>?_) h1 h2 h3 hk;refine h.cell (j+i) v ?_;rw[<-hv]at hi;simp only[Array.toList_extract,List.extract_eq_take_drop,List.getElem?_take,List.getElem?_drop]at hi;split at hi
 ·simpa using hi
 ·cases hi
theorem zCp :∃d,Tryz.prog.underlying 26=some d/\d.isRow=true/\(Tryz.prog.info? 26).map (·.size)=some 4:=⟨.struct (Tryz.prog.fieldsOf 26),by kernel_rfl,rfl,by kernel_rfl⟩
theorem zD4 :∃d,Tryz.prog.underlying 33=some d/\d.isRow=true/\(Tryz.prog.info? 33).map (·.size)=some 5:=⟨.struct (Tryz.prog.fieldsOf 33),by kernel_rfl,rfl,by kernel_rfl⟩
theorem zHs :(Tryz.prog.info? 3).map (·.size)=some 1:=Ka
theorem zCa :(Tryz.prog.info? 27).map (·.size)=some 1:=Ka
theorem zCq :(Tryz.prog.info? 22).map (·.size)=some 1:=Ka
theorem zFu :(Tryz.prog.info? 23).map (·.size)=some 1:=Ka
theorem zKq :(Tryz.prog.info? 26).map (·.size)=some 4:=Ka
theorem zJu :(Tryz.prog.info? 33).map (·.size)=some 5:=Ka
theorem zHt (h:v.oneCell'=true):∀u ∈ [v],u.oneCell'=true:=by simpa using h
theorem zBb (w:World)(c:OC):∃W0,(w.alloc (.cells c.row 35)).alloc (.cells #[.int .i64 0,.slice none 0 0,.slice none 0 0,.int .i64 0,.bool false,.slice none 0 0,.slice none 0 0,.slice none 0 0,.slice none 0 0,.slice none 0 0,.slice none 0 0,.bool false,.slice none 0 0,.int .i64 0,.slice none 0 0,.int .i64 0,.bool false,.slice none 0 0,.int .i64 0,.slice none 0 0,.int .i64 0] 35)=W0/\Below w.heap.size w W0/\W0.heap.size=w.heap.size+1+1/\jR W0 w.heap.size c/\jR W0 (w.heap.size+1) OC.zero:=by
 have h:=zK2 w (.cells c.row 35) (.cells OC.zero.row 35);exact⟨_,rfl,kM Kk Kl,by simp,h.1,h.2⟩
theorem zN {w W W':World}{g:Nat}(hb:Below w.heap.size w W)(ho:Off g W W')(hg:w.heap.size<=g):Below w.heap.size w W':=hb.trans (ho.below hg hb.size)
section
variable {P:Program}{ops:Array Oper}{Q:Exit->Act->World->Prop}{S:World->Prop}{z:Nat->Bool}
def zCu (P:Program)(ops:Array Oper)(Q:Exit->Act->World->Prop)(S:World->Prop)(z:Nat->Bool):Nat->Array Bool->Act->World->Prop
 |0,listed,a,w=>Region.ready .any ops listed=[]/\Q .normal a w
 |n+1,listed,a,w=>(Region.ready .any ops listed=[]->Q .normal a w)/\
   ∀i ∈ Region.ready .any ops listed,wpOp P ops Q i (fun a' w'=>(z i=false->S w')/\zCu P ops Q S z n (listed.setIfInBounds i true) a' w') a w
theorem zT7 :∀(n:Nat)(listed:Array Bool)(a:Act)(w:World),zCu P ops Q S z n listed a w->wpAny P .any ops Q n listed a w
 |0,_,_,_,h=>h
 |n+1,_,_,_,h=>⟨h.1,fun i hi=>wpOp_mono (fun a' w' h'=>zT7 n _ a' w' h'.2) (h.2 i hi)⟩
def zT8 (ops:Array Oper)(z:Nat->Bool)(i:Nat):Bool:=(List.range ops.size).all fun j=> !z j||match ops[j]? with
 |some o=>o.after.toList.any fun e=>Region.binds .any e&&e.on==i
 |none=>false
theorem kB8 {i j:Nat}{o:Oper}(h:zT8 ops z i=true)(hj:ops[j]? =some o)(hz:z j=true):∃e ∈ o.after,Region.binds .any e=true/\e.on=i:=by
 have hl:=(Array.getElem?_eq_some_iff.1 hj).1;have h1:=List.all_eq_true.1 h j (List.mem_range.2 hl);rw[hz,hj]at h1;simp only[Bool.not_true,Bool.false_or]at h1;obtain⟨x,hx,hx2⟩:=List.any_eq_true.1 h1;simp only[Bool.and_eq_true,beq_iff_eq]at hx2;exact⟨x,by simpa using hx,hx2.1,hx2.2⟩
theorem zX2 {i:Nat}{oi:Oper}(hi:ops[i]? =some oi)(ou:Region.noSelect ops=true)(hz:zT8 ops z i=true)
  (hQ:∀c a w,Q (.panic c) (a.put oi.dst v) w->Q (.panic c) a w):
  ∀(n:Nat)(listed:Array Bool)(a:Act)(w:World),
   (∀j oj,ops[j]? =some oj->j≠i->listed.getD j true=false->(∀e ∈ oj.after,Region.binds .any e=true->e.on≠i)->oi.apart ops oj=true)->
   i ∈ Region.ready .any ops listed->YieldsIf P ops S oi v a->S w->
   zCu P ops Q S z n (listed.setIfInBounds i true) (a.put oi.dst v) w->zCu P ops Q S z (n+1) listed a w:=by
 have sel:=Region.noSelect_spec ou;intro n;induction n with
 |zero=>
  intro listed a w _ hr hy hS H;refine⟨fun h=>absurd hr (by rw[h];simp),fun j hj=>?_⟩;rcases Classical.em (j=i)with e|e
  ·subst e;exact hy.wpOp hi hS ⟨fun _=>hS,H⟩
  ·have:=ready_mono hj e;rw[H.1]at this;cases this
 | succ n ih=>
  intro listed a w hfree hr hy hS H;refine⟨fun h=>absurd hr (by rw[h];simp),fun j hj=>?_⟩;rcases Classical.em (j=i)with e|e
  ·subst e;exact hy.wpOp hi hS ⟨fun _=>hS,H⟩
  ·obtain⟨kf,oj,nN,hall⟩:=mem_ready.1 hj;have kg:=(mem_ready.1 hr).1;have hno:∀e ∈ oj.after,Region.binds .any e=true->e.on≠i:=fun x hx hb heq=>by
    have h1:=hall x hx hb;rw[heq]at h1;rcases Nat.lt_or_ge i listed.size with h'|h'
    ·simp[h']at kg h1;rw[kg]at h1;cases h1
    ·simp[Array.getElem?_eq_none h']at h1
   have zj:z j=false:=by
    cases ez:z j with
    |false=>rfl
    |true=>
     obtain⟨x,hx,hx2,hx3⟩:=kB8 hz nN ez;exact absurd hx3 (hno x hx hx2)
   have h2:=wpOp_putIf nN (hfree j oj nN e kf hno) (fun cs b=>sel i oi cs b hi) (fun cs b=>sel j oj cs b nN) hQ hy (H.2 j (ready_mono hj e));refine wpOp_mono (fun a' w' h3=>⟨h3.2.1,ih (listed.setIfInBounds j true) a' w' (fun k ok hk un hun hn=>hfree k ok hk un ?_ hn) (ready_mono hr (Ne.symm e)) h3.1 (h3.2.1 zj) ?_⟩) h2
   ·rcases Classical.em (j=k)with ek|ek
    ·subst ek;exact kf
    ·rw[getD_set_ne true ek]at hun;exact hun
   ·rw[Array.setIfInBounds_comm _ _ e];exact h3.2.2
theorem kJn {i:Nat}{oi:Oper}(tI:z i=true)(hi:ops[i]? =some oi)(ou:Region.noSelect ops=true)
  (hQ:∀c a w,Q (.panic c) (a.put oi.dst v) w->Q (.panic c) a w):
  ∀(n:Nat)(listed:Array Bool)(a:Act)(w:World),
   (∀j oj,ops[j]? =some oj->j≠i->listed.getD j true=false->(∀e ∈ oj.after,Region.binds .any e=true->e.on≠i)->oi.apart ops oj=true)->
   i ∈ Region.ready .any ops listed->YieldsIf P ops (fun _=>True) oi v a->
   zCu P ops Q S z n (listed.setIfInBounds i true) (a.put oi.dst v) w->zCu P ops Q S z (n+1) listed a w:=by
 have sel:=Region.noSelect_spec ou;intro n;induction n with
 |zero=>
  intro listed a w _ hr hy H;refine⟨fun h=>absurd hr (by rw[h];simp),fun j hj=>?_⟩;rcases Classical.em (j=i)with e|e
  ·subst e;exact hy.wpOp hi trivial ⟨fun h=>absurd (tI.symm.trans h) Kc,H⟩
  ·have:=ready_mono hj e;rw[H.1]at this;cases this
 | succ n ih=>
  intro listed a w hfree hr hy H;refine⟨fun h=>absurd hr (by rw[h];simp),fun j hj=>?_⟩;rcases Classical.em (j=i)with e|e
  ·subst e;exact hy.wpOp hi trivial ⟨fun h=>absurd (tI.symm.trans h) Kc,H⟩
  ·obtain⟨kf,oj,nN,hall⟩:=mem_ready.1 hj;have kg:=(mem_ready.1 hr).1;have hno:∀e ∈ oj.after,Region.binds .any e=true->e.on≠i:=fun x hx hb heq=>by
    have h1:=hall x hx hb;rw[heq]at h1;rcases Nat.lt_or_ge i listed.size with h'|h'
    ·simp[h']at kg h1;rw[kg]at h1;cases h1
    ·simp[Array.getElem?_eq_none h']at h1
   have h2:=wpOp_putIf nN (hfree j oj nN e kf hno) (fun cs b=>sel i oi cs b hi) (fun cs b=>sel j oj cs b nN) hQ hy (H.2 j (ready_mono hj e));refine wpOp_mono (fun a' w' h3=>⟨h3.2.1,ih (listed.setIfInBounds j true) a' w' (fun k ok hk un hun hn=>hfree k ok hk un ?_ hn) (ready_mono hr (Ne.symm e)) h3.1 ?_⟩) h2
   ·rcases Classical.em (j=k)with ek|ek
    ·subst ek;exact kf
    ·rw[getD_set_ne true ek]at hun;exact hun
   ·rw[Array.setIfInBounds_comm _ _ e];exact h3.2.2
theorem zH {i:Nat}{oi:Oper}(v:Value){n:Nat}{listed:Array Bool}{a:Act}{w:World}(hi:ops[i]? =some oi)(hs:Region.noSelect ops=true)(hz:zT8 ops z i=true)(hf:Region.free .any ops listed i=true)(hr:(Region.ready .any ops listed).contains i=true)
  (hQ:∀c a w,Q (.panic c) (a.put oi.dst v) w->Q (.panic c) a w) (hw:Region.wanted oi (yielded ops a.tmps)=true) (hy:∀w,S w->(execOp a.eval oi).run P w=.ok (.value v) w) (hS:S w)
  (h:zCu P ops Q S z n (listed.setIfInBounds i true) (a.put oi.dst v) w):zCu P ops Q S z (n+1) listed a w:=
 zX2 hi hs hz hQ n listed a w (Region.free_spec hi hf) (by simpa using hr) (.inl ⟨hw,hy⟩) hS h
theorem Kn {oi:Oper}(i n:Nat)(v:Value){listed:Array Bool}{a:Act}{w:World}(hy:∀w,S w->(execOp a.eval oi).run P w=.ok (.value v) w)(hS:S w)(h:zCu P ops Q S z n (listed.setIfInBounds i true) (a.put oi.dst v) w)(hi:ops[i]? =some oi:=by exact rfl)(hs:Region.noSelect ops=true:=by kernel_rfl)(hz:zT8 ops z i=true:=by kernel_rfl)(hf:Region.free .any ops listed i=true:=by kernel_rfl)(hr:(Region.ready .any ops listed).contains i=true:=by kernel_rfl)(hQ:∀c a w,Q (.panic c) (a.put oi.dst v) w->Q (.panic c) a w:=by exact fun _ _ _ h=>h)(hw:Region.wanted oi (yielded ops a.tmps)=true:=by first|kernel_rfl|rfl):zCu P ops Q S z (n+1) listed a w:=
 zH v hi hs hz hf hr hQ hw hy hS h
theorem Ko {oi:Oper}(i n:Nat)(v:Value){listed:Array Bool}{a:Act}{w:World}(hS:S w)(h:zCu P ops Q S z n (listed.setIfInBounds i true) (a.put oi.dst v) w)(hi:ops[i]? =some oi:=by exact rfl)(hy:∀w,S w->(execOp a.eval oi).run P w=.ok (.value v) w:=by intro _ _;go_simp)(hs:Region.noSelect ops=true:=by kernel_rfl)(hz:zT8 ops z i=true:=by kernel_rfl)(hf:Region.free .any ops listed i=true:=by kernel_rfl)(hr:(Region.ready .any ops listed).contains i=true:=by kernel_rfl)(hQ:∀c a w,Q (.panic c) (a.put oi.dst v) w->Q (.panic c) a w:=by exact fun _ _ _ h=>h)(hw:Region.wanted oi (yielded ops a.tmps)=true:=by first|kernel_rfl|rfl):zCu P ops Q S z (n+1) listed a w:=
 zH v hi hs hz hf hr hQ hw hy hS h
theorem zDd {i:Nat}{oi:Oper}(v:Value){n:Nat}{listed:Array Bool}{a:Act}{w:World}(tI:z i=true)(hi:ops[i]? =some oi)(hs:Region.noSelect ops=true)(hf:Region.free .any ops listed i=true)(hr:(Region.ready .any ops listed).contains i=true)
  (hQ:∀c a w,Q (.panic c) (a.put oi.dst v) w->Q (.panic c) a w) (hw:Region.wanted oi (yielded ops a.tmps)=true) (hy:∀w,(execOp a.eval oi).run P w=.ok (.value v) w)
  (h:zCu P ops Q S z n (listed.setIfInBounds i true) (a.put oi.dst v) w):zCu P ops Q S z (n+1) listed a w:=
 kJn tI hi hs hQ n listed a w (Region.free_spec hi hf) (by simpa using hr) (.inl ⟨hw,fun w _=>hy w⟩) h
theorem kB9 {i j:Nat}{o p:Oper}{n:Nat}{listed:Array Bool}{a:Act}{w:World}(hr:Region.ready .any ops listed=[i,j])(hi:ops[i]? =some o)(hj:ops[j]? =some p)
  (h:∀K:Act->World->Prop,(∀a' w',(z i=false->S w')->zCu P ops Q S z n (listed.setIfInBounds i true) a' w'->K a' w')->if Region.wanted o (yielded ops a.tmps)=true then Oper.wp P o a w K Q else False)
  (h':∀K:Act->World->Prop,(∀a' w',(z j=false->S w')->zCu P ops Q S z n (listed.setIfInBounds j true) a' w'->K a' w')->if Region.wanted p (yielded ops a.tmps)=true then Oper.wp P p a w K Q else False):zCu P ops Q S z (n+1) listed a w:=by
 refine⟨fun e=>absurd (e.symm.trans hr) Kc,fun k hk=>?_⟩;rw[hr]at hk;rcases List.mem_cons.1 hk with rfl|hk
 ·have h1:=h (fun a' w'=>(z k=false->S w')/\zCu P ops Q S z n (listed.setIfInBounds k true) a' w') (fun a' w' h1 h2=>⟨h1,h2⟩);unfold wpOp;simp only[hi];split
  ·rename_i hw
   rw[if_pos hw]at h1;exact .inl h1
  ·rename_i hw
   rw[if_neg hw]at h1;exact h1.elim
 ·rw[List.mem_singleton]at hk;subst hk;have h1:=h' (fun a' w'=>(z k=false->S w')/\zCu P ops Q S z n (listed.setIfInBounds k true) a' w') (fun a' w' h1 h2=>⟨h1,h2⟩);unfold wpOp;simp only[hj];split
  ·rename_i hw
   rw[if_pos hw]at h1;exact .inl h1
  ·rename_i hw
   rw[if_neg hw]at h1;exact h1.elim
theorem kJ {i:Nat}{o:Oper}{n:Nat}{listed:Array Bool}{a:Act}{w:World}(hr:Region.ready .any ops listed=[i])(hi:ops[i]? =some o)
  (h:∀K:Act->World->Prop,(∀a' w',(z i=false->S w')->zCu P ops Q S z n (listed.setIfInBounds i true) a' w'->K a' w')->if Region.wanted o (yielded ops a.tmps)=true then Oper.wp P o a w K Q else False):zCu P ops Q S z (n+1) listed a w:=by
 refine⟨fun e=>absurd (e.symm.trans hr) Kc,fun j hj=>?_⟩;rw[hr,List.mem_singleton]at hj;subst hj;have h1:=h (fun a' w'=>(z j=false->S w')/\zCu P ops Q S z n (listed.setIfInBounds j true) a' w') (fun a' w' h1 h2=>⟨h1,h2⟩);unfold wpOp;simp only[hi];split
 ·rename_i hw
  rw[if_pos hw]at h1;exact .inl h1
 ·rename_i hw
  rw[if_neg hw]at h1;exact h1.elim
theorem Kp {o:Oper}(i n:Nat){listed:Array Bool}{a:Act}{w:World}(h:∀K:Act->World->Prop,(∀a' w',(z i=false->S w')->zCu P ops Q S z n (listed.setIfInBounds i true) a' w'->K a' w')->if Region.wanted o (yielded ops a.tmps)=true then Oper.wp P o a w K Q else False)(hr:Region.ready .any ops listed=[i]:=by kernel_rfl)(hi:ops[i]? =some o:=by exact rfl):zCu P ops Q S z (n+1) listed a w:=kJ hr hi h
theorem zAl {n:Nat}{listed:Array Bool}{a:Act}{w:World}(hr:Region.ready .any ops listed=[])(h:Q .normal a w):zCu P ops Q S z n listed a w:=by
 cases n with
 |zero=>exact⟨hr,h⟩
 |succ n=>exact⟨fun _=>h,by rw[hr];simp⟩
theorem jO {id:Nat}{a:Act}{w:World}(hm:P.follows .mixedOrders=true)(h:zCu P ops Q S z ops.size (Array.replicate ops.size false) a w.drew):(Code.region id ops true).wp P Q a w:=
 wp_region_any hm (zT7 _ _ _ _ h)
end
open Go.WideShapes (add_plain)
structure zA5 (lo:Nat)(w w':World):Prop where
 size:w.heap.size<=w'.heap.size
 block:∀k,lo<=k->k<w.heap.size->w'.heap[k]? =w.heap[k]?
theorem zA5.refl (lo:Nat)(w:World):zA5 lo w w:=⟨Nat.le_refl _,fun _ _ _=>rfl⟩
theorem zA5.trans {lo:Nat}{a b c:World}(h:zA5 lo a b)(k:zA5 lo b c):zA5 lo a c:=⟨Nat.le_trans h.size k.size,fun i h1 h2=>(k.block i h1 (Nat.lt_of_lt_of_le h2 h.size)).trans (h.block i h1 h2)⟩
theorem zA5.below {lo:Nat}{w w':World}(h:Below w.heap.size w w'):zA5 lo w w':=⟨h.size,fun k _ hk=>h.block k hk⟩
theorem zA5.off {lo g:Nat}{w w':World}(h:Off g w w')(hg:g<lo):zA5 lo w w':=⟨h.size,fun k h1 h2=>h.block k h2 Kb⟩
theorem zA5.mono {lo lo':Nat}{w w':World}(h:zA5 lo w w')(hl:lo<=lo'):zA5 lo' w w':=⟨h.size,fun k h1 h2=>h.block k (Nat.le_trans hl h1) h2⟩
theorem zA5.cell {lo:Nat}{w w':World}(h:zA5 lo w w'){p:Addr}(h1:lo<=p.block)(h2:p.block<w.heap.size):w'.cell? p=w.cell? p:=World.cell?_of_block (h.block p.block h1 h2)
theorem zA5.frozen {lo:Nat}{w w':World}(h:zA5 lo w w'){p:Addr}(h1:lo<=p.block)(h2:p.block<w.heap.size):w'.frozen? p=w.frozen? p:=World.frozen?_of_block (h.block p.block h1 h2)
def zH3 (lo:Nat)(w:World)(P:World->Prop):Prop:=∀w',zA5 lo w w'->P w'
theorem zH3.high {lo:Nat}{w w':World}{P:World->Prop}(h:zH3 lo w P)(ho:zA5 lo w w'):zH3 lo w' P:=fun w2 h2=>h w2 (ho.trans h2)
theorem zH3.more {lo lo':Nat}{w:World}{P:World->Prop}(h:zH3 lo w P)(hl:lo'<=lo):zH3 lo' w P:=fun w2 h2=>h w2 (h2.mono hl)
structure Mid (lo hi:Nat)(w w':World):Prop where
 size:w.heap.size<=w'.heap.size
 block:∀k,lo<=k->k<hi->w'.heap[k]? =w.heap[k]?
theorem Mid.refl (lo hi:Nat)(w:World):Mid lo hi w w:=⟨Nat.le_refl _,fun _ _ _=>rfl⟩
theorem Mid.below {lo hi:Nat}{w W W':World}(h:Mid lo hi w W)(hb:Below W.heap.size W W')(hh:hi<=W.heap.size):Mid lo hi w W':=⟨Nat.le_trans h.size hb.size,fun k h1 h2=>(hb.block k Kb).trans (h.block k h1 h2)⟩
theorem Mid.off {lo hi g:Nat}{w W W':World}(h:Mid lo hi w W)(ho:Off g W W')(hh:hi<=W.heap.size)(hg:g<lo∨hi<=g):Mid lo hi w W':=⟨Nat.le_trans h.size ho.size,fun k h1 h2=>(ho.block k Kb Kb).trans (h.block k h1 h2)⟩
theorem Mid.high {lo:Nat}{w W W':World}(h:Mid lo w.heap.size w W)(hh:zA5 lo W W'):zA5 lo w W':=⟨Nat.le_trans h.size hh.size,fun k h1 h2=>(hh.block k h1 (Nat.lt_of_lt_of_le h2 h.size)).trans (h.block k h1 h2)⟩
def kLw (w:World)(a:OpP)(e:Ending)(w':World):Prop:=∃c,e=.returned (.agg (OC.row c))/\zH3 w.heap.size w' (fun W=>OkA W c a)/\Below w.heap.size w w'
def zIn (w:World)(r:OpP×Int)(e:Ending)(w':World):Prop:=∃c,e=.returned (.tuple #[.agg (OC.row c),.int .i64 r.2])/\zH3 w.heap.size w' (fun W=>OkA W c r.1)/\Below w.heap.size w w'
theorem zH3.now {lo:Nat}{w:World}{P:World->Prop}(h:zH3 lo w P):P w:=h w (zA5.refl _ _)
def kLx (w:World)(n:Nat)(P:World->Option Addr->Prop)(e:Ending)(w':World):Prop:=
 ∃A c,e=.returned (.slice A n c)/\n<=c/\zH3 w.heap.size w' (fun W=>P W A)/\Below w.heap.size w w'
theorem IL.high {lo:Nat}{w w':World}(h:IL w w.heap.size A l)(hA:∀b o,A=some ⟨b,o,none⟩->lo<=b)(ho:zA5 lo w w'):IL w' w'.heap.size A l:=fun hn=>by
 obtain⟨b,o,e,hb,hc⟩:=h hn;exact⟨b,o,e,Nat.lt_of_lt_of_le hb ho.size,fun k hk=>(ho.cell (p:=⟨b,o+k,none⟩) (hA b o e) hb).trans (hc k hk)⟩
theorem zI6 {w:World}{B n c:Nat}(ho:zBt w B (.slice A n c) l):zH3 B w (fun W=>IL W W.heap.size A l):=fun W hoff=>by
 have hown:=ho.own;obtain⟨A',c',e0,h1,_,h2⟩:=ho.open_;injection e0 with e1 _ _;subst e1;refine h2.high (fun b o e=>?_) hoff;rcases hown.2 with⟨e1,_⟩|⟨g',cap,cur,e1,hbg,_⟩
 ·injection e1 with e1;rw[e]at e1;cases e1
 ·injection e1 with e1;rw[e]at e1;injection e1 with e1;injection e1 with e2;omega
theorem zFz (A:Option Addr)(l:List Int)(n c:Nat)(w:World)(hn:l.length=n)(hl:n<=1000)(hp:IL w w.heap.size A l):
  Calls Tryz.prog 88 #[.slice A n c] w (kLx w n (fun W A'=>IL W W.heap.size A' l)):=by
 refine(kAm A l n c w hn hl hp).mono ?_;rintro e w' ⟨v,rfl,ho,hb⟩;have hown:=ho.own;obtain⟨A',c',rfl,h1,_,h2⟩:=ho.open_;subst hn;refine⟨A',c',rfl,h1,fun W' hoff=>h2.high (fun b o e=>?_) hoff,hb⟩;rcases hown.2 with⟨e1,_⟩|⟨g',cap,cur,e1,hbg,_⟩
 ·injection e1 with e1;rw[e]at e1;cases e1
 ·injection e1 with e1;rw[e]at e1;injection e1 with e1;injection e1 with e2;omega
theorem zQe (A:Option Addr)(l:List Pr)(n c:Nat)(w:World)(hn:l.length=n)(hl:n<=4398046511104)(hp:PL w w.heap.size A l):
  Calls Tryz.prog 114 #[.slice A n c] w (kLx w n (fun W A'=>PL W W.heap.size A' l)):=by
 subst hn;have hv:VL w w.heap.size A (pv l):=hp.vl;have HV:=hd hv;clear hp hv;rcases A with _|a
 ·have hnil:=fun W=>Go.Lib.run_eql_slice_nil (P:=Tryz.prog) W 22 94 none l.length c 0 0 Tryz.underlying22;have HL:=hd (show l=[] by
   rcases Classical.em (l=[])with h|h
   ·exact h
   ·obtain⟨_,_,h,_⟩:=HV.o (by intro e;have:=congrArg List.length e;rw[zN8]at this;exact h (by first|exact List.eq_nil_of_length_eq_zero (by simp at this;omega)|(simp at this;exact this)));cases h)
  go_enter Tryz.func114,Tryz.ntmps114
  go_wp2
  go_ret
  refine⟨none,0,by rw[HL.o];rfl,by rw[HL.o];simp,fun W' ho=>?_,Below.refl _ _⟩;rw[HL.o];first|exact PL.none _ _ _|exact VL.nil _ _ _
 ·have hnil:=fun W=>Go.Lib.run_eql_slice_nil (P:=Tryz.prog) W 22 94 (some a) l.length c 0 0 Tryz.underlying22;go_enter Tryz.func114,Tryz.ntmps114
  go_wp2_with(at_builtin;refine zBr zZh _ rfl (.tmp 5) (.tmp 6) rfl w.heap.size (.slice (some ⟨w.heap.size,0,none⟩) 0 0) 0 [] rfl (World.ownsRow_made w #[] 0 Kl Kg Kc) (some a) l.length c w.heap.size (pv l) rfl (by rw[zN8]<;>omega) (HV.o.below (Kk.alloc Kl _)) (zZg l) Kg Kb Kc rfl ?_;intro g cap w1 aF hg1)
  go_ret
  rw[Nat.zero_add,List.nil_append]at aF;have h1:=zHn aF;have hb1:Below w.heap.size w w1:=(Kk.alloc Kl _).grown hg1 Kc (fun j hj=>by simp[Value.ownBlock]at hj;omega);refine⟨some ⟨g,0,none⟩,cap,rfl,h1.2.2.2,fun W' ho=>?_,hb1⟩;have hvp:VP (fun b=>b<W'.heap.size) W' (some ⟨g,0,none⟩) (pv l):=fun k u hu=>by
   have hf:=h1.2.2.1 k u hu;exact⟨g,0,rfl,Nat.lt_of_lt_of_le h1.2.1 ho.size,by rw[Nat.zero_add];exact⟨(ho.cell (p:=⟨g,k,none⟩) h1.1 h1.2.1).trans hf.1,(ho.frozen (p:=⟨g,k,none⟩) h1.1 h1.2.1).trans hf.2⟩⟩
  exact hvp.pl (fun b hb=>hb)
theorem zX3 (A:Option Addr)(l:List Int)(n c:Nat)(w:World)(hn:l.length=n)(hl:n<=35184372088832)(hp:VL w w.heap.size A (rv l)):
  Calls Tryz.prog 115 #[.slice A n c] w (kLx w n (fun W A'=>VL W W.heap.size A' (rv l))):=by
 subst hn;have hv:VL w w.heap.size A (rv l):=hp;have HV:=hd hv;clear hp hv;rcases A with _|a
 ·have hnil:=fun W=>Go.Lib.run_eql_slice_nil (P:=Tryz.prog) W 23 21 none l.length c 0 0 Tryz.underlying23;have HL:=hd (show l=[] by
   rcases Classical.em (l=[])with h|h
   ·exact h
   ·obtain⟨_,_,h,_⟩:=HV.o (by intro e;have:=congrArg List.length e;rw[zCg]at this;exact h (by first|exact List.eq_nil_of_length_eq_zero (by simp at this;omega)|(simp at this;exact this)));cases h)
  go_enter Tryz.func115,Tryz.ntmps115
  go_wp2
  go_ret
  refine⟨none,0,by rw[HL.o];rfl,by rw[HL.o];simp,fun W' ho=>?_,Below.refl _ _⟩;rw[HL.o];first|exact PL.none _ _ _|exact VL.nil _ _ _
 ·have hnil:=fun W=>Go.Lib.run_eql_slice_nil (P:=Tryz.prog) W 23 21 (some a) l.length c 0 0 Tryz.underlying23;go_enter Tryz.func115,Tryz.ntmps115
  go_wp2_with(at_builtin;refine zBr zTa _ rfl (.tmp 5) (.tmp 6) rfl w.heap.size (.slice (some ⟨w.heap.size,0,none⟩) 0 0) 0 [] rfl (World.ownsRow_made w #[] 0 Kl Kg Kc) (some a) l.length c w.heap.size (rv l) rfl (by rw[zCg]<;>omega) (HV.o.below (Kk.alloc Kl _)) (zNz l) Kg Kb Kc rfl ?_;intro g cap w1 aF hg1)
  go_ret
  rw[Nat.zero_add,List.nil_append]at aF;have h1:=zHn aF;have hb1:Below w.heap.size w w1:=(Kk.alloc Kl _).grown hg1 Kc (fun j hj=>by simp[Value.ownBlock]at hj;omega);refine⟨some ⟨g,0,none⟩,cap,rfl,h1.2.2.2,fun W' ho=>?_,hb1⟩;have hvp:VP (fun b=>b<W'.heap.size) W' (some ⟨g,0,none⟩) (rv l):=fun k u hu=>by
   have hf:=h1.2.2.1 k u hu;exact⟨g,0,rfl,Nat.lt_of_lt_of_le h1.2.1 ho.size,by rw[Nat.zero_add];exact⟨(ho.cell (p:=⟨g,k,none⟩) h1.1 h1.2.1).trans hf.1,(ho.frozen (p:=⟨g,k,none⟩) h1.1 h1.2.1).trans hf.2⟩⟩
  exact hvp.vl (fun b hb=>hb)
