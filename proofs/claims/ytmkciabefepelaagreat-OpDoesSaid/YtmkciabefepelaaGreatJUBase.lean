import Derived.Test.YtmkciabefepelaaGreatJOStand
import Derived.Lib.Bytealg
import Derived.Shelf.SlSortCmp.WholeK
set_option maxRecDepth 4000
set_option maxHeartbeats 8000000
namespace Go.Proofs.YtmkciabefepelaaGreat
open Go.RowKit
variable {e t ty:TypeId}{ops:Array Oper}{op:Oper}{cur r:Array Value}{v:Value}{P:Program}{D:DataW Unit}{os:Array Obj}
def zAm (w:World)(r:NT×Int)(e:Ending)(w':World):Prop:=∃c:NC,e=.returned (.tuple #[.agg c.row,.int .i64 r.2])/\zH3 w.heap.size w' (fun W=>kS W c r.1)/\Below w.heap.size w w'
theorem zHy {lo d:Nat}{w:World}{c:NC}{n:NT}(ht:zAx (fun b=>lo<=b/\b<w.heap.size) d w (.agg c.row) n):zH3 lo w (fun W=>kS W c n):=fun W' ho=>⟨d,
 (ht.keep (Q:=fun b=>b<W'.heap.size) (fun _ hb=>Nat.lt_of_lt_of_le hb.2 ho.size) (fun _ hp=>⟨ho.cell hp.1 hp.2,ho.frozen hp.1 hp.2⟩)).at_ (fun _ hb=>hb)⟩
theorem zP2.nn {r:NT×Int}{w w':World}{e:Ending}(h:zP2 r w e w'):zAm w r e w':=by
 obtain⟨v,d,rfl,h1,h2⟩:=h;obtain⟨c,rfl,_⟩:=zFo (h1.at_ (B:=w'.heap.size) fun b hb=>hb.2);exact⟨c,rfl,zHy h1,h2⟩
def kK2 (w:World)(x y:NT)(er:Int)(e:Ending)(w':World):Prop:=∃c d:NC,e=.returned (.tuple #[.agg c.row,.agg d.row,.int .i64 er])/\zH3 w.heap.size w' (fun W=>kS W c x)/\zH3 w.heap.size w' (fun W=>kS W d y)/\Below w.heap.size w w'
theorem kFo.nn {x y:NT}{er:Int}{w w':World}{e:Ending}(h:kFo x y er w e w'):kK2 w x y er e w':=by
 obtain⟨v,v',d,rfl,h1,h2,h3⟩:=h;obtain⟨c,rfl,_⟩:=zFo (h1.at_ (B:=w'.heap.size) fun b hb=>hb.2);obtain⟨c',rfl,_⟩:=zFo (h2.at_ (B:=w'.heap.size) fun b hb=>hb.2);exact⟨c,c',rfl,zHy h1,zHy h2,h3⟩
theorem zH3.off {lo g:Nat}{w w':World}{P:World->Prop}(h:zH3 lo w P)(ho:Off g w w')(hg:g<lo):zH3 lo w' P:=h.high (.off ho hg)
theorem zH3.call {lo:Nat}{w w':World}{P:World->Prop}(h:zH3 lo w P)(hb:Below w.heap.size w w'):zH3 lo w' P:=h.high (.below hb)
structure zKt (w:World)(A:Option Addr)(l c:Nat)(q:List Int):Prop where
 len:q.length=l
 le:l<=1000
 cap:l<=c
 il:IL w w.heap.size A q
 inn:InI q
theorem zKt.later {w w':World}{A:Option Addr}{l c:Nat}{q:List Int}(h:zKt w A l c q)(hb:Below w.heap.size w w'):zKt w' A l c q:=⟨h.len,h.le,h.cap,h.il.later hb,h.inn⟩
theorem OkA.hasq {w:World}{o:OC}{a:OpP}(h:OkA w o a)(t:zAf a):zKt w o.Q o.lq o.cq a.q:=⟨h.hlq,by have:=t.hq;have:=h.hlq;omega,h.hcq,h.hq,h.hiq⟩
theorem OkA.hast {w:World}{o:OC}{a:OpP}(h:OkA w o a)(t:zAf a):zKt w o.T o.lt o.ct a.t:=⟨h.hlt,by have:=t.ht;have:=h.hlt;omega,h.hct,h.ht,h.hit⟩
def OC.nc (o:OC):NC:=⟨o.lf,o.P,o.np,o.pc,o.X,o.nt,o.tc,o.K,o.nk,o.kc⟩
theorem OkA.hasn {w:World}{o:OC}{a:OpP}(h:OkA w o a):kS w o.nc a.n:=h.hn
structure zHz (w:World)(c:NC)(n:NT):Prop where
 lf:n.lf=c.lf
 np:n.ps.length=c.np
 nt:n.tx.length=c.nt
 nk:n.ks.length=c.nk
 p:PL w w.heap.size c.P n.ps
 x:VL w w.heap.size c.X (rv n.tx)
 f:zU0 n.ps n.tx.length n.ks.length c.pc c.tc c.kc
 k:∃d,zKn d w w.heap.size c.K n.ks
theorem kS.parts {w:World}{c:NC}{n:NT}(h:kS w c n):zHz w c n:=by
 obtain⟨d,h⟩:=h;cases d with
 |zero=>exact h.elim
 |succ d=>
  obtain⟨PA,pc,TA,tc,KA,kc,e,hp,ht,hf,hks⟩:=h;unfold NC.row at e;simp only[Value.agg.injEq,Array.mk.injEq,List.cons.injEq,Value.bool.injEq,Value.slice.injEq,and_true]at e;obtain⟨e1,⟨e2,e3,e4⟩,⟨e5,e6,e7⟩,e8,e9,e10⟩:=e;subst e2 e4 e5 e7 e8 e10;exact⟨e1.symm,e3.symm,e6.symm,e9.symm,hp,ht,hf,d,hks⟩
theorem zHz.has {w:World}{c:NC}{n:NT}(h:zHz w c n):kS w c n:=by
 obtain⟨d,hk⟩:=h.k;refine⟨d+1,c.P,c.pc,c.X,c.tc,c.K,c.kc,?_,h.p,h.x,h.f,hk⟩;rw[h.lf,h.np,h.nt,h.nk];rfl
theorem kS.lf {w:World}{c:NC}{n:NT}(h:kS w c n):n.lf=c.lf:=h.parts.lf
section
variable {w:World}{A:Option Addr}{lq cq:Nat}{q:List Int}{c d:NC}{n m:NT}
theorem kFp {r:NT×Int}(hn:kS w c n)(hq:zKt w A lq cq q)(hE:zGm n q=r):Calls Tryz.prog 30 #[.agg c.row,.slice A lq cq] w (zAm w r):=by
 obtain⟨x,e⟩:=r;exact(kMn hE hq.len hq.le hn hq.il).mono fun e w' h=>h.nn
theorem zJ1 {r:NT×Int}(hn:kS w c n)(hm:kS w d m)(hq:zKt w A lq cq q)(hE:zSe n q m=r):Calls Tryz.prog 128 #[.agg c.row,.slice A lq cq,.agg d.row] w (zAm w r):=by
 obtain⟨x,e⟩:=r;have hl:=hq.len;subst hl;exact(kKy hE hq.le hq.cap hn hm hq.il).mono fun e w' h=>h.nn
theorem zOi {r:NT×Int}(hn:kS w c n)(hm:kS w d m)(hq:zKt w A lq cq q)(hs:sizeT n<=100000)(hE:zGo n q m=r):Calls Tryz.prog 84 #[.agg c.row,.slice A lq cq,.agg d.row] w (zAm w r):=by
 obtain⟨x,e⟩:=r;have hb:∀x,kB n (upP q)=some x->x.ks.length<1759218604441:=fun x hx=>by
  have h1:=zGh _ n x hx;have h2:∀(l:List NT),l.length<=sizeK l:=fun l=>by
   induction l with
   |nil=>simp
   |cons k r ih=>have:=zJs k;simp only[List.length_cons,sizeK];omega
  have h3:=h2 x.ks;obtain⟨lf,ps,tx,ks⟩:=x;simp only[sizeT,NT.ks]at*;omega
 exact(kMl hE hq.len hq.le hq.cap hn hm hq.il hb).mono fun e w' h=>h.nn
theorem zR2 {x y:NT}{er:Int}(hn:kS w c n)(hq:zKt w A lq cq q)(hE:zBw n q=(x,er))(hy:zE3 n q=y):Calls Tryz.prog 83 #[.agg c.row,.slice A lq cq] w (kK2 w x y er):=
 (kMm hE hy hq.len hq.le hq.cap hn hq.il).mono fun _ _w' h=>h.nn
end
theorem zM {rest:List Oper}{a:Act}{w:World}{Q:Exit->Act->World->Prop}{g:Nat}(h:jT t w g r){j:Nat} 
  (x:Operand) (ho:op.op=.load ty x) (hgd:op.guard=none) (hx:a.eval x=.pointer (some ⟨g,j,none⟩)) (hv:r[j]? =some v) {d:TypeDesc} (hu:Tryz.prog.underlying ty=some d) (hd:d.isRow=false) (hk:wpList Tryz.prog ops Q rest (a.put op.dst v) w):wpList Tryz.prog ops Q (op::rest) a w:=by
 have hc:=h.cell j v hv;have hl:=zD3 hu hd hc;refine wpList_plain hgd fun K hK=>?_;unfold Oper.wp execOp;simp only[ho,hx,Instr.loadAt,Instr.sureAddr,Sem.run_bind,Sem.run_pure,Result.andThen_ok,hl];exact hK _ _ hk
theorem jT.thaw {w:World}{g:Nat}(h:jT t w g r)(j:Nat):w.frozen? ⟨g,j,none⟩=false:=by
 unfold jT at h;simp[World.frozen?,h]
theorem jT.set {w:World}{g:Nat}(h:jT t w g r)(j:Nat)(v:Value):jT t (w.setCell ⟨g,j,none⟩ v) g (r.setIfInBounds j v)/\Off g w (w.setCell ⟨g,j,none⟩ v):=
 ⟨kAk w g t r j v h,rfl,rfl,rfl,by show _<=(w.heap.modify g _).size;simp,fun k _ hne=>Below.heap_setCell w ⟨g,j,none⟩ v k (by simpa using hne)⟩
theorem zFd (hsz:(Tryz.prog.info? ty).map (·.size)=some 1){rest:List Oper}{a:Act}{W:World}{Q:Exit->Act->World->Prop}{g:Nat}{r':Array Value}(h:jT t W g r)(x y:Operand)(ho:op.op=.store ty x y)(hgd:op.guard=none)(hd:op.dst=none)
  (j:Nat) (v:Value) (hx:a.eval x=.pointer (some ⟨g,j,none⟩)) (hy:a.eval y=v) (hv:v.cells=#[v]) (h1:v.oneCell'=true) (hj:j<r.size) (hc:r.setIfInBounds j v=r')
  (hk:∀W',jT t W' g r'->Off g W W'->wpList Tryz.prog ops Q rest a W'):wpList Tryz.prog ops Q (op::rest) a W:=by
 have hcell:(W.cell? ⟨g,j,none⟩).isSome=true/\W.frozen? ⟨g,j,none⟩=false:=⟨by rw[h.cell j _ (Array.getElem?_eq_getElem hj)];rfl,h.thaw _⟩;have hrun:=run_storeCells_cells (P:=Tryz.prog) g j [v] 0 W (fun i hi=>by simp at hi;subst hi;simpa using hcell.1) (fun i hi=>by simp at hi;subst hi;simpa using hcell.2) (by simpa using h1);have hst:(storeVar ty ⟨g,j,none⟩ v).run Tryz.prog W=.ok () (W.setCell ⟨g,j,none⟩ v):=by
  cases hq:Tryz.prog.info? ty with
  |none=>simp[hq]at hsz
  |some i=>
   have hs:i.size=1:=by simpa[hq]using hsz
   simp only[Nat.add_zero]at hrun;have:W.setCells g j [v]=W.setCell ⟨g,j,none⟩ v:=rfl;rw[this]at hrun;simp[storeVar,sizeOf,typeInfo,hq,hv,hs,hrun]
 refine wpList_plain hgd fun K hK=>?_;unfold Oper.wp execOp;simp only[ho,hx,hy,Instr.storeAt,Instr.sureAddr,Sem.run_bind,Sem.run_pure,Result.andThen_ok,hst];obtain⟨r1,r2⟩:=h.set j v;rw[hc]at r1;exact hK _ _ (by rw[hd];exact hk _ r1 r2)
def NC.nil :NC:=⟨false,none,0,0,none,0,0,none,0,0⟩
theorem zAb (w:World):kS w NC.nil zeroT:=⟨1,zEh _ _⟩
structure M4 (w:World)(c:NC)(o:OC)(m:NC)(a:NC)(W:World):Prop where
 v3:jT 26 W w.heap.size c.row
 v4:jR W (w.heap.size+1) o
 v5:jT 26 W (w.heap.size+1+1) m.row
 v6:jT 26 W (w.heap.size+1+1+1) a.row
 below:Below w.heap.size w W
section
variable {w W W':World}{c:NC}{o:OC}{m a a':NC}
theorem M4.call (h:M4 w c o m a W)(hb:Below W.heap.size W W'):M4 w c o m a W':=⟨h.v3.keep hb,h.v4.keep hb,h.v5.keep hb,h.v6.keep hb,zI h.below hb⟩
theorem M4.off {g:Nat}(h:M4 w c o m a W)(hg:w.heap.size+1+1+1<g)(ho:Off g W W'):M4 w c o m a W':=⟨h.v3.off ho Kb,(ho.block _ h.v4.lt Kb).trans h.v4,h.v5.off ho Kb,h.v6.off ho Kb,zN h.below ho Kb⟩
theorem M4.set6 (h:M4 w c o m a W)(hv:jT 26 W' (w.heap.size+1+1+1) a'.row)(ho:Off (w.heap.size+1+1+1) W W'):M4 w c o m a' W':=⟨h.v3.off ho Kb,(ho.block _ h.v4.lt Kb).trans h.v4,h.v5.off ho Kb,hv,zN h.below ho Kb⟩
theorem M4.set5 (h:M4 w c o m a W)(hv:jT 26 W' (w.heap.size+1+1) a'.row)(ho:Off (w.heap.size+1+1) W W'):M4 w c o a' a W':=⟨h.v3.off ho Kb,(ho.block _ h.v4.lt Kb).trans h.v4,hv,h.v6.off ho Kb,zN h.below ho Kb⟩
end
theorem jM (w:World)(c:NC)(o:OC)(m:NC):∃W0,(((w.alloc (.cells c.row 26)).alloc (.cells o.row 35)).alloc (.cells m.row 26)).alloc (.cells #[.bool false,.slice none 0 0,.slice none 0 0,.slice none 0 0] 26)=W0/\M4 w c o m NC.nil W0:=by
 have e1:(w.alloc (.cells c.row 26)).heap.size=w.heap.size+1:=by simp
 have e2:((w.alloc (.cells c.row 26)).alloc (.cells o.row 35)).heap.size=w.heap.size+1+1:=by simp
 have e3:(((w.alloc (.cells c.row 26)).alloc (.cells o.row 35)).alloc (.cells m.row 26)).heap.size=w.heap.size+1+1+1:=by simp
 have h1:=(((jT.new w 26 c.row).alloc (.cells o.row 35)).alloc (.cells m.row 26)).alloc (.cells NC.nil.row 26);have h2:=((jR.new (w.alloc (.cells c.row 26)) o).toR.alloc (.cells m.row 26)).alloc (.cells NC.nil.row 26);have h3:=(jT.new ((w.alloc (.cells c.row 26)).alloc (.cells o.row 35)) 26 m.row).alloc (.cells NC.nil.row 26);have h4:=jT.new (((w.alloc (.cells c.row 26)).alloc (.cells o.row 35)).alloc (.cells m.row 26)) 26 NC.nil.row;rw[e1]at h2;rw[e2]at h3;rw[e3]at h4;exact⟨_,rfl,h1,h2,h3,h4,(((Kk.alloc Kl _).alloc (by rw[e1];omega) _).alloc (by rw[e2];omega) _).alloc (by rw[e3];omega) _⟩
theorem kU {fn:Func}{p u:Tmp}(h:fn.results=#[.cell p 26,.tmp u])(tmps:Array Value)(w:World){g:Nat}{c:NC}(hv:jT 26 w g c.row)(hp:tmps.getD p undef=.pointer (some ⟨g,0,none⟩)):(results fn tmps).run Tryz.prog w=.ok (.tuple #[.agg c.row,tmps.getD u undef]) w:=by
 obtain⟨d,h3,h4,h5⟩:=zD;simp only[results,h];simp only[List.mapM_toArray,hp,asAddr,Sem.run_bind,Sem.run_pure,List.mapM_cons,List.mapM_nil];simp[Result.andThen,run_loadVar_row w g _ _ _ _ d hv h3 (by cases d<;>simp_all) h5]
theorem zS {n:Nat}(hrow:kC5 t n){a:Act}{o:Oper}{W:World}{g:Nat}(h:jT t W g r)(hn:r.size=n)(x:Operand)(ho:o.op=.load t x)(hx:a.eval x=.pointer (some ⟨g,0,none⟩)):(execOp a.eval o).run Tryz.prog W=.ok (.value (.agg r)) W:=by
 obtain⟨d,h3,h4,h5⟩:=hrow;have hr:=run_loadVar_row W g t t r (0,0) d h h3 (by cases d<;>simp_all) (by rw[h5,<-hn]);unfold execOp;simp only[ho,hx,Instr.loadAt,Instr.sureAddr,Sem.run_bind,Sem.run_pure,Result.andThen_ok,hr]
theorem kV {a:Act}{o:Oper}{W:World}{g:Nat}(h:jT t W g r){j:Nat}(x:Operand)(ho:o.op=.load ty x)(hx:a.eval x=.pointer (some ⟨g,j,none⟩))(hv:r[j]? =some v){d:TypeDesc}(hu:Tryz.prog.underlying ty=some d)(hd:d.isRow=false):(execOp a.eval o).run Tryz.prog W=.ok (.value v) W:=by
 have hl:=zD3 hu hd (h.cell j v hv);unfold execOp;simp only[ho,hx,Instr.loadAt,Instr.sureAddr,Sem.run_bind,Sem.run_pure,Result.andThen_ok,hl]
theorem zG3 {a:Act}{o:Oper}{W:World}{g:Nat}(h:jT t W g r){j:Nat}{vs:List Value}(hrow:∃d,Tryz.prog.underlying ty=some d/\d.isRow=true/\(Tryz.prog.info? ty).map (·.size)=some vs.length)(x:Operand)(ho:o.op=.load ty x)(hx:a.eval x=.pointer (some ⟨g,j,none⟩))(hv:(r.extract j (j+vs.length)).toList=vs):(execOp a.eval o).run Tryz.prog W=.ok (.value (.agg vs.toArray)) W:=by
 obtain⟨d,h1,h2,h3⟩:=hrow;have hc:W.rangeAt g j vs:=fun i v hi=>by
  refine h.cell (j+i) v ?_;rw[<-hv]at hi;simp only[Array.toList_extract,List.extract_eq_take_drop,List.getElem?_take,List.getElem?_drop]at hi;split at hi
  ·simpa using hi
  ·cases hi
 have hr:=run_loadVar_mid W g j ty vs d hc h1 h2 h3;unfold execOp;simp only[ho,hx,Instr.loadAt,Instr.sureAddr,Sem.run_bind,Sem.run_pure,Result.andThen_ok,hr]
theorem zA5.off2 {lo g:Nat}{w W W':World}(h:zA5 lo w W)(ho:Off g W W')(hg:g<lo∨w.heap.size<=g):zA5 lo w W':=⟨Nat.le_trans h.size ho.size,fun k h1 h2=>(ho.block k (Nat.lt_of_lt_of_le h2 h.size) Kb).trans (h.block k h1 h2)⟩
theorem zA5.call {lo:Nat}{w W W':World}(h:zA5 lo w W)(hb:Below W.heap.size W W'):zA5 lo w W':=h.trans (.below hb)
theorem zP3 (w:World):jT 26 ((w.alloc (.cells #[.bool false,.slice none 0 0,.slice none 0 0,.slice none 0 0] 26)).alloc (.cells #[.bool false,.slice none 0 0,.slice none 0 0,.slice none 0 0] 26)) w.heap.size NC.nil.row/\jT 26 ((w.alloc (.cells #[.bool false,.slice none 0 0,.slice none 0 0,.slice none 0 0] 26)).alloc (.cells #[.bool false,.slice none 0 0,.slice none 0 0,.slice none 0 0] 26)) (w.heap.size+1) NC.nil.row/\Below w.heap.size w ((w.alloc (.cells #[.bool false,.slice none 0 0,.slice none 0 0,.slice none 0 0] 26)).alloc (.cells #[.bool false,.slice none 0 0,.slice none 0 0,.slice none 0 0] 26)):=by
 have e1:(w.alloc (.cells NC.nil.row 26)).heap.size=w.heap.size+1:=by simp
 have h2:=jT.new (w.alloc (.cells NC.nil.row 26)) 26 NC.nil.row;rw[e1]at h2;exact⟨(jT.new w 26 NC.nil.row).alloc _,h2,(Kk.alloc Kl _).alloc Kc _⟩
theorem zAr (w:World):jT 26 (w.alloc (.cells #[.bool false,.slice none 0 0,.slice none 0 0,.slice none 0 0] 26)) w.heap.size NC.nil.row/\Below w.heap.size w (w.alloc (.cells #[.bool false,.slice none 0 0,.slice none 0 0,.slice none 0 0] 26)):=⟨jT.new w 26 NC.nil.row,Kk.alloc Kl _⟩
theorem zBx {Q:Exit->Act->World->Prop}{S:World->Prop}{z:Nat->Bool}{i:Nat}{oi:Oper}{n:Nat}{listed:Array Bool}{a:Act}{w:World}(hi:ops[i]? =some oi)(hs:Region.noSelect ops=true)(hz:zT8 ops z i=true)(hf:Region.free .any ops listed i=true)(hr:(Region.ready .any ops listed).contains i=true)
  (hQ:∀c a w,Q (.panic c) (a.put oi.dst undef) w->Q (.panic c) a w) (hw:Region.wanted oi (yielded ops a.tmps)=false) (hS:S w)
  (h:zCu P ops Q S z n (listed.setIfInBounds i true) (a.put oi.dst undef) w):zCu P ops Q S z (n+1) listed a w:=
 zX2 hi hs hz hQ n listed a w (Region.free_spec hi hf) (by simpa using hr) (.inr ⟨hw,rfl⟩) hS h
theorem zKu :(Tryz.prog.info? 24).map (·.size)=some 1:=Ka
theorem kS.later2 {w0 w w':World}{c:NC}{n:NT}{g:Nat}(h:kS w0 c n)(hb:Below w0.heap.size w0 w)(ho:Off g w w')(hg:w0.heap.size<=g):kS w' c n:=h.later (hb.trans (ho.below hg hb.size))
theorem zB6 {a:Act}{w:World}{K:Act->World->Prop}{Q:Exit->Act->World->Prop}{g j:Nat}(h:w.cell? ⟨g,j,none⟩=some v)(x:Operand)(ho:op.op=.load ty x)(hx:a.eval x=.pointer (some ⟨g,j,none⟩)){d:TypeDesc}(hu:Tryz.prog.underlying ty=some d)(hd:d.isRow=false)(hk:K (a.put op.dst v) w):Oper.wp Tryz.prog op a w K Q:=by
 have hl:=zD3 hu hd h;unfold Oper.wp execOp;simp only[ho,hx,Instr.loadAt,Instr.sureAddr,Sem.run_bind,Sem.run_pure,Result.andThen_ok,hl];exact hk
theorem zK3 {a:Act}{o:Oper}{W:World}{g j:Nat}(h:W.cell? ⟨g,j,none⟩=some v)(x:Operand)(ho:o.op=.load ty x)(hx:a.eval x=.pointer (some ⟨g,j,none⟩)){d:TypeDesc}(hu:Tryz.prog.underlying ty=some d)(hd:d.isRow=false):(execOp a.eval o).run Tryz.prog W=.ok (.value v) W:=by
 have hl:=zD3 hu hd h;unfold execOp;simp only[ho,hx,Instr.loadAt,Instr.sureAddr,Sem.run_bind,Sem.run_pure,Result.andThen_ok,hl]
theorem PL.qlater {w w':World}{A:Option Addr}{l:List Pr}(h:PL w w.heap.size A l)(hb:Below w.heap.size w w'):PL w' w'.heap.size A l:=(h.below hb).more hb.size
def qLL (w:World)(b o n:Nat)(As:Nat->Option Addr)(L:Nat->List Pr)(cs:Nat->Nat):Prop:=
 b<w.heap.size/\∀k,k<n->w.cell? ⟨b,o+k,none⟩=some (.slice (As k) (L k).length (cs k))/\PL w w.heap.size (As k) (L k)
theorem zRz (b o n c:Nat)(As:Nat->Option Addr)(L:Nat->List Pr)(cs:Nat->Nat)(w:World)(hn:n<=9223372036854775807)(hW:∀k,k<n->zIo (L k))(h:qLL w b o n As L cs):
  Calls Tryz.prog 160 #[.slice (some ⟨b,o,none⟩) n c] w fun e w'=>e=.returned (.int .i64 (zMs n L))/\Below w.heap.size w w':=by
 obtain⟨d9,yr⟩:=h;have iA:=hd yr;have HW:=hd hW;clear yr hW;go_enter Tryz.func160,Tryz.ntmps160
 go_wp2
 go_loopw [8] (fun i wr=>∃k:Nat,k<=n/\i=.int .i64 k/\Below w.heap.size w wr/\Kq (∀j,j<k->chk (L j)=0)) (fun i _=>n-(intOf i).toNat)
 case atStart=>exact⟨0,Nat.zero_le _,rfl,Below.refl _ _,fun j hj=>absurd hj (Nat.not_lt_zero _)⟩
 case round=>
  obtain⟨k,hk,rfl,hb,HA⟩:=hrel;by_cases hlt:k<n
  ·obtain⟨hc0,hp0⟩:=iA.o k hlt;have hw0:=HW.o k hlt;have hc:=(hb.cell (p:=⟨b,o+k,none⟩) d9).trans hc0;have hC:=hd (zKb (As k) (L k) (cs k) wr hw0 ((hp0.below hb).more hb.size));clear hc0 hp0 hw0;cases hr:(chk (L k) !=0)
   ·have HB:=zBm (p:=fun j=>chk (L j)=0) HA (by simpa using hr);clear HA;go_wp2_with(go_at_call 109;refine hC.o.mono ?_;rintro e w' ⟨rfl,hb3⟩)
    have hb4:=hb.trans (hb3.mono hb.size);go_wp2
    go_roundw
    case rel=>exact⟨k+1,by omega,by go_num,hb4,HB⟩
    case measure=>simp[intOf];omega
   ·have HF:=hd (zGd n L k hlt HA.o (by simpa using hr));go_wp2_with(go_at_call 109;refine hC.o.mono ?_;rintro e w' ⟨rfl,hb3⟩)
    go_ret
    exact⟨zAj HF.o.symm,hb.trans (hb3.mono hb.size)⟩
  ·have HF:=hd (zIz n L (fun j hj=>HA.o j Kb));clear HA;go_wp2
   go_ret
   exact⟨zAj HF.o.symm,hb⟩
open Go.RowKit Go.Maps
theorem kD7 :Keyed Tryz.prog 9:=string_keyed Tryz.underlying9
theorem kMp (w:World):(zeroValue 9).run Tryz.prog w=.ok (.string ByteArray.empty) w:=Ka
theorem zK9 (t k e:TypeId)(kd:IntKind)(n:Int)(ht:P.underlying t=some (.map k e))(w:World):
  (Instr.makeMap t (some (.int kd n))).run P w=.ok (.map (some w.heap.size)) (w.alloc (.map #[] 0)):=by
 simp[Instr.makeMap,run_underlying ht];rfl
abbrev kl (s:ByteArray):Lit:=.string s.data.toList
def zLa (D:DataW Unit)(l:List Pr):Prop:=
 (∀k,Maps.has D (kl k)=(zI3 l k).isSome)/\(∀k p z,zI3 l k=some p->D.atKey (kl k) z=.lit (.string p.2.data.toList))/\Maps.size D=l.length/\zB9 l
def zHb (w:World)(b:Nat)(l:List Pr):Prop:=∃D:DataW Unit,w.ownsMap Tryz.prog 9 (plainElem Tryz.prog 9) b l.length D/\zLa D l
theorem zJ0 {H:Type}{k:TypeId}{R:Value->Option (DataW H×List MemPlace)}{w:World}{b n:Nat}{D:DataW H}(h:w.ownsMap P k R b n D):w.ownsMap P k R b (Maps.size D) D:=by
 obtain⟨es,clock,hb,F,hs,rfl⟩:=h;exact⟨es,clock,hb,F,by simp[Maps.size,length_sorted],rfl⟩
theorem zPo (k:ByteArray):WideAt.IsKeyLit (kl k):=trivial
theorem zR0 {a b:ByteArray}(h:kl a=kl b):a=b:=by
 injection h with h;exact ByteArray.ext (Array.toList_inj.1 h)
theorem zHb.made (w:World):zHb (w.alloc (.map #[] 0)) w.heap.size []:=
 ⟨.map [],World.ownsMap_made w Tryz.prog 9 _,fun _=>rfl,fun _ _ _ h=>by simp[zI3]at h,rfl,List.Pairwise.nil⟩
theorem zHb.kept {w w':World}{b:Nat}{l:List Pr}{row:Option Nat}(h:zHb w b l)(hg:w.grownBy w' row)(hne:some b≠row):zHb w' b l:=by
 obtain⟨D,h1,h2⟩:=h;exact⟨D,h1.kept hg hne,h2⟩
theorem zHb.alloc {w:World}{b:Nat}{l:List Pr}(h:zHb w b l)(o:Obj):zHb (w.alloc o) b l:=h.kept (World.grownBy_alloc w o none) Kc
theorem zHb.lt {w:World}{b:Nat}{l:List Pr}(h:zHb w b l):b<w.heap.size:=by
 obtain⟨D,h1,_⟩:=h;exact h1.lt
theorem zLa.put {l:List Pr}(h:zLa D l)(hT:Tidy D)(k v:ByteArray)(hn:zI3 l k=none):zLa (D.put (kl k) (.lit (.string v.data.toList))) (l++[(k,v)]):=by
 obtain⟨h1,h2,h3,h4⟩:=h;have hg:∀q,zI3 (l++[(k,v)]) q=(zI3 l q).or (if k=q then some (k,v)else none):=by
  intro q;unfold zI3;rw[List.find?_append];congr 1
  rw[List.find?_cons];by_cases e:k=q
  ·subst e;simp
  ·have:(k.toList==q.toList)=false:=by rw[beq_eq_false_iff_ne];exact fun e'=>e (toList_inj e')
   simp[this,e]
 refine⟨fun q=>?_,fun q p z hp=>?_,?_,?_⟩
 ·by_cases e:q=k
  ·subst e;rw[has_put_same hT.isMap (zPo q),hg,hn];simp
  ·rw[has_put_other (fun e'=>e (zR0 e')),h1,hg,if_neg (fun e'=>e e'.symm)];simp
 ·rw[hg]at hp;by_cases e:q=k
  ·subst e;rw[hn]at hp;simp at hp;rw[atKey_put_same hT.isMap (zPo q),<-hp]
  ·rw[if_neg (fun e'=>e e'.symm)]at hp;rw[atKey_put_other (fun e'=>e (zR0 e'))];exact h2 q p z (by simpa using hp)
 ·rw[size_put hT,h1,hn,List.length_append,h3];rfl
 ·unfold zB9;rw[List.pairwise_append];refine⟨h4,List.pairwise_singleton _ _,fun p hp q hq=>?_⟩;simp at hq;subst hq;exact zFc.1 hn p hp
theorem zLa.del {l:List Pr}(h:zLa D l)(hT:Tidy D)(k:ByteArray):zLa (D.del (kl k)) (zPe l k):=by
 obtain⟨h1,h2,h3,h4⟩:=h;refine⟨fun q=>?_,fun q p z hp=>?_,?_,?_⟩
 ·rw[zRm];by_cases e:q=k
  ·subst e;rw[has_del_same,if_pos rfl];rfl
  ·rw[has_del_other (fun e'=>e (zR0 e')),if_neg e];exact h1 q
 ·rw[zRm]at hp;by_cases e:q=k
  ·rw[if_pos e]at hp;cases hp
  ·rw[if_neg e]at hp;rw[atKey_del_other (fun e'=>e (zR0 e'))];exact h2 q p z hp
 ·have:=size_del (k:=kl k) hT;rw[h1,h3]at this;have:=zZ3 l h4 k;omega
 ·exact h4.filter _
open Go.RowKit Go.WideMaps Go.Maps
theorem zHb.put {b:Nat}{l l':List Pr}{k v:ByteArray}{n:Nat}{w1:World}(nS:zLa D l)(hT:Tidy D)(hn:zI3 l k=none)(hl:l'=l++[(k,v)])
  (h1:w1.ownsMap Tryz.prog 9 (plainElem Tryz.prog 9) b n (D.put (kl k) (.lit (.string v.data.toList)))):zHb w1 b l':=by
 subst hl;have hP:=nS.put hT k v hn;exact⟨_,by have:=zJ0 h1;rwa[hP.2.2.1]at this,hP⟩
theorem zW5 (A:Option Addr)(l:List Pr)(c:Nat)(w:World)(hF:Fit l)(hA:zB9 l)(hp:PL w w.heap.size A l):
  Calls Tryz.prog 161 #[.slice A l.length c] w fun e w'=>e=.returned (.map (some w.heap.size))/\zHb w' w.heap.size l/\Below w.heap.size w w':=by
 have qX:=hF.1;have HA:=hd hA;have HF:=hd hF;have HP:=hd hp;clear hA hF hp;have hmm:=fun(n:Int)(W:World)=>zK9 (P:=Tryz.prog) 136 9 9 .i64 n Tryz.underlying136 W;have hst:=zHb.made w;go_enter Tryz.func161,Tryz.ntmps161
 go_wp2
 clear hmm;go_loopw [11] (fun i wr=>∃n:Nat,n<=l.length/\i=.int .i64 n/\zHb wr w.heap.size (l.take n)/\Below w.heap.size w wr) (fun i _=>l.length-(intOf i).toNat)
 case atStart=>exact⟨0,Nat.zero_le _,rfl,hst,Kk.alloc Kl _⟩
 case round=>
  clear hst;obtain⟨n,hn,rfl,hM,hb⟩:=hrel;by_cases hlt:n<l.length
  ·obtain⟨b,o,rfl,hlb,c1,c2⟩:=(HP.o.below hb).at_ hlt;obtain⟨s1,s2⟩:=HF.o.at_ hlt;have HN:=hd (zMu l HA.o n hlt);have HT:=hd (zMt l n hlt);obtain⟨D,hown,nS⟩:=hM;have nT:=hd nS;have yt:=hd (hown.tidy kD7);clear nS;have m0:Kq ((l.take n).length<maxLen):=hd (by rw[List.length_take];unfold maxLen;omega);have m1:Kq ((jU l n).1.size<=maxLen):=hd Kg;have m2:Kq ((jU l n).2.size<=maxLen):=hd Kg;go_wp2_with(first|(at_mapUpdate;refine wpList_mapUpdate_own _ rfl _ _ _ 136 rfl 9 9 kD7 Tryz.underlying136 _ w.heap.size _ _ rfl (hown.alloc _) m0.o _ _ _ rfl rfl (keyOf_string_mk Tryz.underlying9 m1.o) _ [] (plainElem_string Tryz.underlying9 m2.o) ?_;intro w1 hown1 hg1))
   have iX:=zHb.put nT.o yt.o HN.o HT.o hown1;have hb1:=(hb.alloc hb.size _).grown hg1 (by simpa using Nat.le_succ_of_le hb.size) (fun j hj=>by cases hj;exact Nat.le_refl _);clear hown1 hg1 nT yt hown;go_roundw
   case rel=>exact⟨n+1,by omega,by go_num,iX,hb1⟩
   case measure=>simp[intOf];omega
  ·have iX:zHb wr w.heap.size l:=by rw[List.take_of_length_le Kb]at hM;exact hM
   clear hM;go_wp2
   go_ret
   exact⟨rfl,iX,hb⟩
theorem zHb.below {w w':World}{b:Nat}{l:List Pr}(h:zHb w b l)(hb:Below w.heap.size w w'):zHb w' b l:=
 h.kept (row:=none) ⟨hb.os,hb.tape,hb.output,hb.size,fun i hi _=>hb.block i hi⟩ Kc
theorem zDr (w:World){rest:List Oper}{o:Oper}{a:Act}{Q:Exit->Act->World->Prop}(hg:o.guard=none)(m x:Operand)(hop:o.op=Op.lookup 136 m x true)
  (b:Nat) (l:List Pr) (hm:a.eval m=.map (some b)) (hown:zHb w b l) (s:ByteArray) (hx:a.eval x=.string s) (hs:s.size<=maxLen)
  (hK:wpList Tryz.prog ops Q rest (a.put o.dst (.tuple #[.string (kJv l s),.bool (zKz l s)])) w):wpList Tryz.prog ops Q (o::rest) a w:=by
 obtain⟨D,h1,h2⟩:=hown;refine wpList_lookup_own_ok w hg m x 136 hop 9 9 kD7 Tryz.underlying136 (plainElem Tryz.prog 9) (kMp w) (.lit (.string [])) [] (plainElem_string Tryz.underlying9 Kd) b _ D hm h1 (.string s) (kl s) hx (keyOf_string_mk Tryz.underlying9 hs) (fun v ps hv=>?_);obtain⟨c,rfl,hc,_⟩:=plainElem_string_inv Tryz.underlying9 hv;have hc:=congrArg Prod.fst hc;have e1:Maps.has D (kl s)=zKz l s:=h2.1 s;have e2:c=kJv l s:=by
  unfold kJv;cases hf:zI3 l s with
  |none=>
   rw[atKey_of_not_has (by rw[h2.1 s,hf];rfl)]at hc;simp only[DataW.lit.injEq,Lit.string.injEq]at hc;exact ByteArray.ext (Array.toList_inj.1 hc.symm)
  |some p=>
   rw[h2.2.1 s p _ hf]at hc;simp only[DataW.lit.injEq,Lit.string.injEq]at hc;exact ByteArray.ext (Array.toList_inj.1 hc.symm)
 rw[e1,e2];exact hK
theorem zNa (w:World){rest:List Oper}{o:Oper}{a:Act}{Q:Exit->Act->World->Prop}(hg:o.guard=none)(m x:Operand)
  (hop:o.op=Op.call {callee:=Callee.builtin Builtin.delete,args:=#[m,x],argTypes:=#[136,9]})
  (b:Nat) (l:List Pr) (hm:a.eval m=.map (some b)) (hown:zHb w b l) (s:ByteArray) (hx:a.eval x=.string s) (hs:s.size<=maxLen)
  (hK:∀w',zHb w' b (zPe l s)->w.grownBy w' (some b)->wpList Tryz.prog ops Q rest (a.put o.dst (.tuple #[])) w'):wpList Tryz.prog ops Q (o::rest) a w:=by
 obtain⟨D,h1,h2⟩:=hown;refine wpList_delete_own w hg m x 136 9 hop 9 kD7 Tryz.underlying136 (plainElem Tryz.prog 9) b _ D hm h1 (.string s) (kl s) hx (keyOf_string_mk Tryz.underlying9 hs) (fun w' h3 h4=>hK w' ?_ h4.grown);have hP:=h2.del (h1.tidy kD7) s;exact⟨_,by have:=zJ0 h3;rwa[hP.2.2.1]at this,hP⟩
theorem zHx (w:World){rest:List Oper}{o:Oper}{a:Act}{Q:Exit->Act->World->Prop}(hg:o.guard=none)(m:Operand)
  (hop:o.op=Op.call {callee:=Callee.builtin Builtin.len,args:=#[m],argTypes:=#[136]})
  (b:Nat) (l:List Pr) (hm:a.eval m=.map (some b)) (hown:zHb w b l)
  (hK:wpList Tryz.prog ops Q rest (a.put o.dst (.int .i64 (l.length:Int))) w):wpList Tryz.prog ops Q (o::rest) a w:=by
 obtain⟨D,h1,h2⟩:=hown;refine wpList_len_own w hg m 136 hop 9 9 Tryz.underlying136 (plainElem Tryz.prog 9) b _ D hm h1 ?_;rw[h2.2.2.1];exact hK
theorem zR1 (w:World){rest:List Oper}{o:Oper}{a:Act}{Q:Exit->Act->World->Prop}(hg:o.guard=none)(m x v:Operand)(hop:o.op=Op.mapUpdate 136 m x v)
  (b:Nat) (l:List Pr) (hm:a.eval m=.map (some b)) (hown:zHb w b l) (hl:l.length<maxLen) (s t:ByteArray) (hx:a.eval x=.string s) (hv:a.eval v=.string t) (hs:s.size<=maxLen) (ht:t.size<=maxLen) (hn:zI3 l s=none)
  (hK:∀w',zHb w' b (l++[(s,t)])->w.grownBy w' (some b)->wpList Tryz.prog ops Q rest (a.put o.dst undef) w'):wpList Tryz.prog ops Q (o::rest) a w:=by
 obtain⟨D,h1,h2⟩:=hown;exact wpList_mapUpdate_own w hg m x v 136 hop 9 9 kD7 Tryz.underlying136 (plainElem Tryz.prog 9) b _ D hm h1 hl (.string s) (.string t) (kl s) hx hv (keyOf_string_mk Tryz.underlying9 hs) _ [] (plainElem_string Tryz.underlying9 ht)
  (fun w' h3 h4=>hK w' (zHb.put h2 (h1.tidy kD7) hn rfl h3) h4)
theorem kRf {P:Prop}(h:P:=by
 have HG:=hd hg;go_enter Tryz.func162,Tryz.ntmps162
 go_wp2_with(first|(at_lookup;refine zDr _ rfl _ _ rfl b l rfl (hM.alloc _) k rfl hk2.o ?_))
 go_ret
 exact⟨kC (by rw[HE.o,HG.o];rfl),Kk.alloc Kl _⟩):P:=h
theorem kH6 (b:Nat)(l:List Pr)(k v:ByteArray)(w:World)(hM:zHb w b l)(hA:zB9 l)(hk:k.size<=100):
  Calls Tryz.prog 162 #[.map (some b),.agg #[.string k,.string v]] w fun e w'=>e=.returned (.bool (zGz l (k,v)))/\Below w.heap.size w w':=by
 have HE:=hd (kDn l hA k v);have hk2:Kq (k.size<=maxLen):=hd Kg;clear hA;cases hg:zKz l k
 ·exact kRf
 ·exact kRf
open Go.RowKit Go.Sort
def zTk (p:Pr):List Value:=[.string p.1,.string p.2]
def flat (l:List Pr):List Value:=l.flatMap zTk
instance : Inhabited Pr:=⟨noPr⟩
theorem zD5 (l:List Pr):(flat l).length=l.length*2:=by
 unfold flat;induction l with
 |nil=>rfl
 |cons p r ih=>rw[List.flatMap_cons,List.length_append,ih,List.length_cons];simp[zTk];omega
theorem zRo (l m:List Pr):flat (l++m)=flat l++flat m:=by unfold flat;rw[List.flatMap_append]
theorem kDq (l:List Pr)(k:Nat)(hk:k<l.length):(flat l)[k*2]? =some (.string (jU l k).1)/\(flat l)[k*2+1]? =some (.string (jU l k).2):=by
 induction l generalizing k with
 |nil=>simp at hk
 | cons p r ih=>
  cases k with
  |zero=>exact⟨rfl,rfl⟩
  |succ k=>
   have:=ih k (by simpa using hk);have e1:(flat (p::r))[(k+1)*2]? =(flat r)[k*2]? :=by
    show(Value.string p.1::Value.string p.2::flat r)[(k+1)*2]? =_
    rw[show(k+1)*2=k*2+1+1 by omega];rfl
   have e2:(flat (p::r))[(k+1)*2+1]? =(flat r)[k*2+1]? :=by
    show(Value.string p.1::Value.string p.2::flat r)[(k+1)*2+1]? =_
    rw[show(k+1)*2+1=k*2+1+1+1 by omega];rfl
   have e3:jU (p::r) (k+1)=jU r k:=rfl;rw[e1,e2,e3];exact this
theorem zU5 (l:List Pr):flatK zTk 2 l.toArray=(flat l).toArray:=by
 apply Array.ext
 ·simp[zD5]
 ·intro t h1 h2;have ht:t<l.length*2:=by simpa using h1
  have hk:t/2<l.length:=Kb;have hg:=kDq l (t/2) hk;rw[<-getElem!_pos (flatK zTk 2 l.toArray) t h1,get_flatK _ _ _ t (by simpa using ht)];have e:l.toArray[t/2]! =jU l (t/2):=by
   rw[getElem!_pos l.toArray (t/2) (by simpa using hk),zB7 l _ hk];rfl
  rw[e];have h3:(flat l)[t]? =some ((flat l).toArray[t]'h2):=by
   rw[List.getElem?_eq_getElem (by simpa[zD5]using ht)];rfl
  rcases Nat.mod_two_eq_zero_or_one t with h0|h0
  ·have:t=t/2*2:=Kb;rw[h0];rw[<-this,h3]at hg;exact(Option.some.inj hg.1).symm
  ·have:t=t/2*2+1:=Kb;rw[h0];rw[<-this,h3]at hg;exact(Option.some.inj hg.2).symm
theorem zMx {w:World}{g:Nat}{l:List Pr}(hb:w.heap[g]? =some (.cells cur e (0,0)))(ht:cur.toList.take (l.length*2)=flat l):HoldsK zTk 2 w g 0 l.toArray:=by
 unfold HoldsK;rw[zU5];intro j hj;have hj':j<(flat l).length:=by simpa using hj
 refine⟨?_,by simp[World.frozen?,hb]⟩;have h1:(cur.toList.take (l.length*2))[j]? =(flat l)[j]? :=by rw[ht]
 rw[List.getElem?_take_of_lt (by rwa[zD5]at hj')]at h1;simp only[World.cell?,hb,Nat.zero_add];simp only[Option.isSome_none,Bool.false_eq_true,if_false];rw[<-Array.getElem?_toList,h1,List.getElem?_eq_getElem hj',getElem!_pos (flat l).toArray j hj];rfl
theorem zRp {w:World}{g n:Nat}{fr:Nat×Nat}(d:Array Pr)(hb:w.heap[g]? =some (.cells cur e fr)):
  (sortWorldK zTk 2 w g 0 n d os).heap[g]? =some (.cells (putCells id 0 (flatK zTk 2 d) cur) e fr):=by
 have hg:g<w.heap.size:=(Array.getElem?_eq_some_iff.1 hb).1;unfold sortWorldK putRowK;rw[heap_grow_old _ _ (by simpa[putRow,mapBlock,Sort.ahead]using hg)];simp[putRow,mapBlock,Sort.ahead,Array.getElem?_modify,hb,onCells]
theorem zMy {w:World}{g n:Nat}(d:Array Pr):w.grownBy (sortWorldK zTk 2 w g 0 n d os) (some g):=by
 unfold sortWorldK putRowK;refine⟨rfl,rfl,rfl,by simp[grow,putRow,mapBlock,Sort.ahead],fun k hk hne=>?_⟩;rw[heap_grow_old _ _ (by simpa[putRow,mapBlock,Sort.ahead]using hk)];have:g≠k:=fun e=>hne (by rw[e]);simp[putRow,mapBlock,Sort.ahead,Array.getElem?_modify,this]
theorem zNj (cur:Array Value)(ts:List Value)(h:ts.length<=cur.size):(putCells id 0 ts.toArray cur).toList.take ts.length=ts:=by
 apply List.ext_getElem?;intro j;by_cases hj:j<ts.length
 ·rw[List.getElem?_take_of_lt hj,Array.getElem?_toList];simp[putCells,hj,show j<cur.size by omega]
 ·rw[List.getElem?_take_eq_none Kb,List.getElem?_eq_none Kb]
theorem zMz {w:World}{base g cap n:Nat}{ss ts:List Pr}(hl:ts.length=ss.length)(hbase:base<=g)(hb:w.heap[g]? =some (.cells cur e (0,0)))
  (h1:ss.length<=cap) (h2:cap<=maxLen) (h3:cur.size=cap*2):
  (sortWorldK zTk 2 w g 0 n ts.toArray os).ownsRow base e 2 (.slice (some ⟨g,0,none⟩) ss.length cap) ss.length (flat ts):=
 ⟨by rw[zD5,hl],.inr ⟨g,cap,_,rfl,hbase,zRp _ hb,h1,h2,by simp[putCells,h3],by
  rw[zU5,<-hl,<-zD5];exact zNj cur _ (by rw[zD5,h3];omega)⟩⟩
theorem PL.of_own {w:World}{base cap:Nat}{A:Option Addr}{l:List Pr}(h:w.ownsRow base 94 2 (.slice A l.length cap) l.length (flat l)):PL w w.heap.size A l:=by
 intro hn;have h0:0<l.length:=List.length_pos_iff.2 hn;rcases h.2 with⟨_,h1⟩|⟨g,cap',cur,hv,_,hb,hnc,hm,hsz,ht⟩
 ·omega
 ·cases hv
  refine⟨g,0,rfl,(Array.getElem?_eq_some_iff.1 hb).1,fun k hk=>?_⟩;have hg:=kDq l k hk;have key:∀j u,j<l.length*2->(flat l)[j]? =some u->w.cell? ⟨g,0+j,Option.none⟩=some u:=by
   intro j u hj hu;have h1:(cur.toList.take (l.length*2))[j]? =(flat l)[j]? :=by rw[ht]
   rw[List.getElem?_take_of_lt hj,hu]at h1;simp only[World.cell?,hb,Nat.zero_add,Option.isSome_none,Bool.false_eq_true,if_false];rw[<-Array.getElem?_toList,h1]
  exact⟨key _ _ Kb hg.1,key _ _ Kb hg.2⟩
open Go.Shelf
def zWx :Go.Shelf.Ren:=⟨fun|6=>176|15=>181|14=>180|28=>191|29=>192|20=>183|21=>184|22=>185|23=>186|24=>187|25=>188|26=>189|27=>190|46=>194|47=>195|48=>196|49=>197|50=>198|57=>199|n=>n,fun|22=>22|24=>94|25=>148|3=>3|39=>153|0=>0|53=>163|55=>165|4=>4|46=>156|45=>155|50=>160|5=>5|9=>9|66=>166|70=>170|76=>172|77=>173|n=>n,fun|n=>n⟩
theorem kKp :Go.Proofs.SlLaysF0.n6 Tryz.prog zWx:={
 mixed:=Ka
 f6:=⟨Tryz.f176.name,by decide,Tryz.func176.trans (congrArg some Ka)⟩
 f14:=⟨Tryz.f180.name,by decide,Tryz.func180.trans (congrArg some Ka)⟩
 f15:=Tryz.func181.trans (congrArg some Ka)
 f20:=⟨Tryz.f183.name,by decide,Tryz.func183.trans (congrArg some Ka)⟩
 f21:=⟨Tryz.f184.name,by decide,Tryz.func184.trans (congrArg some Ka)⟩
 f22:=⟨Tryz.f185.name,by decide,Tryz.func185.trans (congrArg some Ka)⟩
 f23:=⟨Tryz.f186.name,by decide,Tryz.func186.trans (congrArg some Ka)⟩
 f24:=⟨Tryz.f187.name,by decide,Tryz.func187.trans (congrArg some Ka)⟩
 f25:=⟨Tryz.f188.name,by decide,Tryz.func188.trans (congrArg some Ka)⟩
 f26:=⟨Tryz.f189.name,by decide,Tryz.func189.trans (congrArg some Ka)⟩
 f27:=⟨Tryz.f190.name,by decide,Tryz.func190.trans (congrArg some Ka)⟩
 f28:=Tryz.func191.trans (congrArg some Ka)
 f29:=Tryz.func192.trans (congrArg some Ka)
 f46:=⟨Tryz.f194.name,by decide,Tryz.func194.trans (congrArg some Ka)⟩
 f47:=Tryz.func195.trans (congrArg some Ka)
 f48:=Tryz.func196.trans (congrArg some Ka)
 f49:=⟨Tryz.f197.name,by decide,Tryz.func197.trans (congrArg some Ka)⟩
 f50:=⟨Tryz.f198.name,by decide,Tryz.func198.trans (congrArg some Ka)⟩
 f57:=⟨Tryz.f199.name,by decide,Tryz.func199.trans (congrArg some Ka)⟩
 t0:=Tryz.underlying0
 a0:=Tryz.isAgg0
 z0:=Tryz.sizeOf0
 v0:=Tryz.zeroValue0
 t3:=Tryz.underlying3
 a3:=Tryz.isAgg3
 z3:=Tryz.sizeOf3
 v3:=Tryz.zeroValue3
 t4:=Tryz.underlying4
 a4:=Tryz.isAgg4
 z4:=Tryz.sizeOf4
 v4:=Tryz.zeroValue4
 t5:=Tryz.underlying5
 a5:=Tryz.isAgg5
 z5:=Tryz.sizeOf5
 v5:=Tryz.zeroValue5
 t9:=Tryz.underlying9
 a9:=Tryz.isAgg9
 z9:=Tryz.sizeOf9
 v9:=Tryz.zeroValue9
 t22:=Tryz.underlying22
 a22:=Tryz.isAgg22
 z22:=Tryz.sizeOf22
 v22:=Tryz.zeroValue22
 t25:=Tryz.underlying148
 a25:=Tryz.isAgg148
 z25:=Tryz.sizeOf148
 v25:=Tryz.zeroValue148
 t39:=Tryz.underlying153
 a39:=Tryz.isAgg153
 z39:=Tryz.sizeOf153
 v39:=Tryz.zeroValue153
 t45:=Tryz.underlying155
 a45:=Tryz.isAgg155
 z45:=Tryz.sizeOf155
 v45:=Tryz.zeroValue155
 t46:=Tryz.underlying156
 a46:=Tryz.isAgg156
 z46:=Tryz.sizeOf156
 v46:=Tryz.zeroValue156
 t50:=Tryz.underlying160
 a50:=Tryz.isAgg160
 z50:=Tryz.sizeOf160
 v50:=Tryz.zeroValue160
 t53:=Tryz.underlying163
 a53:=Tryz.isAgg163
 z53:=Tryz.sizeOf163
 v53:=Tryz.zeroValue163
 t55:=Tryz.underlying165
 a55:=Tryz.isAgg165
 z55:=Tryz.sizeOf165
 v55:=Tryz.zeroValue165
 t66:=Tryz.underlying166
 a66:=Tryz.isAgg166
 z66:=Tryz.sizeOf166
 v66:=Tryz.zeroValue166
 t70:=Tryz.underlying170
 a70:=Tryz.isAgg170
 z70:=Tryz.sizeOf170
 v70:=Tryz.zeroValue170
 t76:=Tryz.underlying172
 a76:=Tryz.isAgg172
 z76:=Tryz.sizeOf172
 v76:=Tryz.zeroValue172
 t77:=Tryz.underlying173
 a77:=Tryz.isAgg173
 z77:=Tryz.sizeOf173
 v77:=Tryz.zeroValue173}
open Go.RowKit Go.Sort Go.Shelf
def zRq (x y:Pr):Int:=Lib.compareBytes x.1.data.toList y.1.data.toList
theorem zU6 :∀a b:List UInt8,decide (Lib.compareBytes a b<0)=Op.bytesLess a b
 |[],[]=>rfl
 |[],_::_=>rfl
 |_::_,[]=>rfl
 | a::x,b::y=>by
  rw[Lib.compareBytes,Op.bytesLess,<-zU6 x y];by_cases h1:a<b
  ·simp[h1]
  ·by_cases h2:b<a
   ·have:a≠b:=fun e=>by subst e;exact UInt8.lt_irrefl _ h2
    simp[h1,h2,this]
   ·have:a=b:=UInt8.le_antisymm (UInt8.not_lt.1 h2) (UInt8.not_lt.1 h1);subst this;simp[h1]
theorem zRr :ltOf zRq=ltK:=by
 funext x y
 unfold ltOf zRq ltK;rw[zU6,ByteArray.toList_eq,ByteArray.toList_eq]
theorem kM7 :SWO (ltOf zRq):=by
 rw[zRr];exact⟨zIb,zHp,zOc⟩
theorem zKr (a b:ByteArray)(w:World):
  Calls Tryz.prog 182 #[.string a,.string b] w fun e w'=>e=.returned (.int .i64 (Lib.compareBytes a.data.toList b.data.toList))/\w'=w:=by
 go_enter Tryz.func182,Tryz.ntmps182
 go_wp2
 rw[run_callFunc_extern Tryz.func193 Ka Ka Ka (e:=Extern.BytealgCompare.compare) Ka,Lib.run_compareString];simp only[Result.andThen];rw[Oper.upon_value];go_wp2
 go_ret
 exact⟨rfl,rfl⟩
theorem zRs (a b:ByteArray)(w:World):
  Calls Tryz.prog 178 #[.string a,.string b] w fun e w'=>e=.returned (.int .i64 (Lib.compareBytes a.data.toList b.data.toList))/\w'=w:=by
 go_enter Tryz.func178,Tryz.ntmps178
 go_wp2_with(go_at_call 182;refine(zKr _ _ _).mono ?_;rintro e w' ⟨rfl,rfl⟩)
 go_ret
 exact⟨rfl,rfl⟩
theorem zTl (x y:Pr)(W:World):Calls Tryz.prog 177 #[.agg #[.string x.1,.string x.2],.agg #[.string y.1,.string y.2]] W fun e w'=>e=.returned (.int .i64 (zRq x y))/\∃q os',w'=grow (W.drewN q) os':=by
 have hcon:=fun W'=>hd (zRs x.1 y.1 W');unfold zRq;generalize Lib.compareBytes x.1.data.toList y.1.data.toList=r at hcon⊢
 go_enter Tryz.func177,Tryz.ntmps177
 go_wp2_with(go_at_call 178;refine(hcon _).o.mono ?_;rintro e w' ⟨rfl,rfl⟩)
 go_ret
 exact⟨rfl,0,_,by rw[alloc_eq_grow,alloc_eq_grow,grow_grow];rfl⟩
theorem kDr (blk off size:Nat)(w:World):CmpLays Tryz.prog 177 #[] zTk 2 zRq blk off size w:=fun _ _ _ _ x y=>zTl x y _
theorem kAe (l:List Pr)(hA:zB9 l)(d:Array Pr)(hp:PermIn 0 l.toArray.size l.toArray d)(hs:SortedIn (ltOf zRq) 0 l.toArray.size d):d=(srt l).toArray:=by
 obtain⟨h1,_,h3⟩:=hp;have e1:d.extract 0 l.toArray.size=d:=by rw[<-h1];simp
 have e2:l.toArray.extract 0 l.toArray.size=l.toArray:=by simp
 rw[e1,e2]at h3;have hperm:d.toList.Perm l:=by simpa using h3
 have hap:zB9 d.toList:=(hperm.pairwise_iff (R:=fun p q:Pr=>p.1≠q.1) (fun{a b} hab=>Ne.symm hab)).2 hA;have hr:zIp d.toList:=by
  unfold zIp;rw[List.pairwise_iff_getElem];intro i j hi hj hij;have hd:d.size=l.length:=by simpa using h1
  have hs':=hs i j (Nat.zero_le _) hij (by rw[<-h1];simpa using hj);rw[zRr,getElem!_pos d j (by simpa using hj),getElem!_pos d i (by simpa using hi)]at hs';have hne:=List.pairwise_iff_getElem.1 hap i j hi hj hij;cases h:ltK d.toList[i] d.toList[j]
  ·exact absurd (zMv _ _ h hs') hne
  ·rfl
 have:=kKn hr hperm;rw[<-this]
theorem kDs (g cap:Nat)(l:List Pr)(w:World)(hH:HoldsK zTk 2 w g 0 l.toArray)(hg:g<w.heap.size)(hl:l.length<4611686018427387904)(hA:zB9 l):
  Calls Tryz.prog 176 #[.slice (some ⟨g,0,none⟩) l.length cap,.func (.func 177) #[] #[]] w fun e w'=>e=.returned (.tuple #[])/\∃n os,w'=sortWorldK zTk 2 w g 0 n (srt l).toArray os:=by
 have eg:∀args w,(callFunc 177 args).run Tryz.prog w=.ok (.enter 177 args) w:=enters_of Tryz.func177 Ka rfl;have h:=AnyQ.slices_SortFunc kKp 2 Tryz.isAgg94 Tryz.sizeOf94 zTk (fun _=>rfl) (fun x v hv=>by simp[zTk]at hv;rcases hv with rfl|rfl<;>rfl) zRq kM7 177 #[] g 0 cap l.toArray w eg (kDr g 0 l.toArray.size w) hH hg (by simpa using hl);exact h.mono fun e w'⟨he,d',n,os,hp,hs,hw⟩=>⟨he,n,os,by rw[hw,kAe l hA d' hp hs]⟩
