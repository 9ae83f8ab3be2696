import Derived.Test.YtmglnjmnabjjgaaGreatJOFacts
set_option maxRecDepth 4000
namespace Go.Proofs.YtmglnjmnabjjgaaGreat
open Go.RowKit
variable {E:Bool}{s:SC}{e:Ending}{ops:Array Oper}{op:Oper}
section
variable {w:World}
theorem zTe {c:NC}{n:NT}{m:Int}(h:kS w c n)(hm:zFf m)(hE:zI5 m n=E):Calls Tryz.prog 7 #[.agg c.row,.int .i64 m] w (jA (.bool E) w):=by
 obtain⟨d,h⟩:=h;subst hE;exact zO3 d w _ n m hm h
theorem zLi {c c':NC}{n n':NT}(h:kS w c n)(h':kS w c' n')(hE:eqT n n'=E):Calls Tryz.prog 101 #[.agg c.row,.agg c'.row] w (jA (.bool E) w):=by
 obtain⟨d,h⟩:=h;obtain⟨d',h'⟩:=h';subst hE;exact zQ1 d d' w _ _ n n' h h'
theorem zHo {c c':NC}{n n':NT}(h:kS w c n)(h':kS w c' n')(hE:eqT n n'=E):Calls Tryz.prog 12 #[.agg c.row,.agg c'.row] w (jA (.bool E) w):=by
 obtain⟨d,h⟩:=h;obtain⟨d',h'⟩:=h';subst hE;exact zWd d d' w _ _ n n' h h'
theorem zFa {c:NC}{n:NT}{E:Int}(h:kS w c n)(hE:zAd n=E):Calls Tryz.prog 65 #[.agg c.row] w (jA (.int .i64 E) w):=by
 obtain⟨d,h⟩:=h;subst hE;exact zV5 d w _ n h
theorem zB1.len {c:SC}{s:Sl}(h:zB1 w c s)(hf:fewS s=true):c.n<=60/\c.m<=60:=by
 unfold fewS at hf;rw[Bool.and_eq_true,decide_eq_true_iff,decide_eq_true_iff]at hf;have:=h.hn;have:=h.hm;omega
theorem zH9 {c d:SC}{s t:Sl}(h:zB1 w c s)(g:zB1 w d t)(hs:fewS s=true)(ht:fewS t=true)(hE:zF7 s t=E):Calls Tryz.prog 64 #[.agg c.row,.agg d.row] w (jA (.bool E) w):=by
 obtain⟨l1,l2⟩:=h.len hs;obtain⟨l3,l4⟩:=g.len ht;exact zKp h g Kb Kb Kb Kb hE
theorem zKk {c:NC}{d:SC}{n:NT}{s:Sl}{E:Int}(h:kS w c n)(g:zB1 w d s)(hs:fewS s=true)(hE:zE8 n s=E):Calls Tryz.prog 66 #[.agg c.row,.agg d.row] w (jA (.int .i64 E) w):=by
 obtain⟨l1,l2⟩:=g.len hs;obtain⟨dd,h⟩:=h;obtain⟨a1,a2⟩:=zIi.two g Kb Kb;have e1:=g.his;have e2:=g.hx;have e3:=g.hy;subst hE;have hh:=zSu (b:=d.is) (p:=s.a) (q:=s.f) (A:=d.A) (B:=d.B) (na:=d.n) (nb:=d.m) (ca:=d.c) (cb:=d.d) Kk h (by rw[e2];exact a1) (by rw[e3];exact a2);rw[e2,e3]at hh;have es:(⟨d.is,s.a,s.f⟩:Sl)=s:=by obtain⟨x,y,z⟩:=s;simp only at e1;subst e1;rfl
 rw[es]at hh;exact hh
end
structure St3 (w:World)(c:NC)(s:SC)(o:OC)(W:World):Prop where
 v3:jT 26 W w.heap.size c.row
 v4:jT 33 W (w.heap.size+1) s.row
 v5:jR W (w.heap.size+1+1) o
 below:Below w.heap.size w W
theorem St3.call {w W W':World}{c:NC}{o:OC}(h:St3 w c s o W)(hb:Below W.heap.size W W'):St3 w c s o W':=⟨h.v3.keep hb,h.v4.keep hb,h.v5.keep hb,zI h.below hb⟩
theorem kN (w:World)(c:NC)(s:SC)(o:OC):∃W0,((w.alloc (.cells c.row 26)).alloc (.cells s.row 33)).alloc (.cells o.row 35)=W0/\St3 w c s o W0:=by
 have e1:(w.alloc (.cells c.row 26)).heap.size=w.heap.size+1:=by simp
 have e2:((w.alloc (.cells c.row 26)).alloc (.cells s.row 33)).heap.size=w.heap.size+1+1:=by simp
 have h1:=((jT.new w 26 c.row).alloc (.cells s.row 33)).alloc (.cells o.row 35);have h2:=(jT.new (w.alloc (.cells c.row 26)) 33 s.row).alloc (.cells o.row 35);have h3:=jR.new ((w.alloc (.cells c.row 26)).alloc (.cells s.row 33)) o;rw[e1]at h2;rw[e2]at h3;exact⟨_,rfl,h1,h2,h3,((Kk.alloc Kl _).alloc (by rw[e1];omega) _).alloc (by rw[e2];omega) _⟩
structure St5 (w:World)(c:NC)(s:SC)(o:OC)(g7 g8:Nat)(a:NC)(t:SC)(W:World):Prop where
 st:St3 w c s o W
 v7:jT 26 W g7 a.row
 v8:jT 33 W g8 t.row
theorem St5.call {w W W':World}{c:NC}{o:OC}{g7 g8:Nat}{a:NC}{t:SC}(h:St5 w c s o g7 g8 a t W)(hb:Below W.heap.size W W'):St5 w c s o g7 g8 a t W':=⟨h.st.call hb,h.v7.keep hb,h.v8.keep hb⟩
theorem St3.store {w W W':World}{c:NC}{o:OC}{g:Nat}(h:St3 w c s o W)(ho:Off g W W')(hg:w.heap.size+1+1<g):St3 w c s o W':=
 ⟨h.v3.off ho Kb,h.v4.off ho Kb,(ho.block _ h.v5.lt Kb).trans h.v5,zN h.below ho Kb⟩
theorem zDj (w:World):jT 26 ((w.alloc (.cells #[.bool false,.slice none 0 0,.slice none 0 0,.slice none 0 0] 26)).alloc (.cells #[.bool false,.slice none 0 0,.int .i64 0,.slice none 0 0,.int .i64 0] 33)) w.heap.size #[.bool false,.slice none 0 0,.slice none 0 0,.slice none 0 0]:=
 (jT.new w 26 _).alloc _
theorem zDk {w W:World}(ho:Off w.heap.size ((w.alloc (.cells #[.bool false,.slice none 0 0,.slice none 0 0,.slice none 0 0] 26)).alloc (.cells #[.bool false,.slice none 0 0,.int .i64 0,.slice none 0 0,.int .i64 0] 33)) W):
  Below w.heap.size w W/\jT 33 W (w.heap.size+1) #[.bool false,.slice none 0 0,.int .i64 0,.slice none 0 0,.int .i64 0]:=by
 have e1:(w.alloc (.cells #[.bool false,.slice none 0 0,.slice none 0 0,.slice none 0 0] 26)).heap.size=w.heap.size+1:=by simp
 have h2:=jT.new (w.alloc (.cells #[.bool false,.slice none 0 0,.slice none 0 0,.slice none 0 0] 26)) 33 #[.bool false,.slice none 0 0,.int .i64 0,.slice none 0 0,.int .i64 0];rw[e1]at h2;exact⟨zN ((Kk.alloc Kl _).alloc (by rw[e1];omega) _) ho Kl,h2.off ho Kb⟩
theorem zDl {w W W':World}(hb:Below w.heap.size w W)(ho:Off (w.heap.size+1) W W'):Below w.heap.size w W':=zN hb ho Kb
def zAm (w:World)(r:NT×Int)(e:Ending)(w':World):Prop:=∃c:NC,e=.returned (.tuple #[.agg c.row,.int .i64 r.2])/\zH3 w.heap.size w' (fun W=>kS W c r.1)/\Below w.heap.size w w'
theorem zHy {lo d:Nat}{w:World}{c:NC}{n:NT}(ht:zAx (fun b=>lo<=b/\b<w.heap.size) d w (.agg c.row) n):zH3 lo w (fun W=>kS W c n):=fun W' ho=>⟨d,
 (ht.keep (Q:=fun b=>b<W'.heap.size) (fun _ hb=>Nat.lt_of_lt_of_le hb.2 ho.size) (fun _ hp=>⟨ho.cell hp.1 hp.2,ho.frozen hp.1 hp.2⟩)).at_ (fun _ hb=>hb)⟩
theorem zP2.nn {r:NT×Int}{w w':World}(h:zP2 r w e w'):zAm w r e w':=by
 obtain⟨v,d,rfl,h1,h2⟩:=h;obtain⟨c,rfl,_⟩:=zFo (h1.at_ (B:=w'.heap.size) fun b hb=>hb.2);exact⟨c,rfl,zHy h1,h2⟩
def kK2 (w:World)(x y:NT)(er:Int)(e:Ending)(w':World):Prop:=∃c d:NC,e=.returned (.tuple #[.agg c.row,.agg d.row,.int .i64 er])/\zH3 w.heap.size w' (fun W=>kS W c x)/\zH3 w.heap.size w' (fun W=>kS W d y)/\Below w.heap.size w w'
theorem kFo.nn {x y:NT}{er:Int}{w w':World}(h:kFo x y er w e w'):kK2 w x y er e w':=by
 obtain⟨v,v',d,rfl,h1,h2,h3⟩:=h;obtain⟨c,rfl,_⟩:=zFo (h1.at_ (B:=w'.heap.size) fun b hb=>hb.2);obtain⟨c',rfl,_⟩:=zFo (h2.at_ (B:=w'.heap.size) fun b hb=>hb.2);exact⟨c,c',rfl,zHy h1,zHy h2,h3⟩
theorem zH3.off {lo g:Nat}{w w':World}{P:World->Prop}(h:zH3 lo w P)(ho:Off g w w')(hg:g<lo):zH3 lo w' P:=h.high (.off ho hg)
theorem zH3.call {lo:Nat}{w w':World}{P:World->Prop}(h:zH3 lo w P)(hb:Below w.heap.size w w'):zH3 lo w' P:=h.high (.below hb)
structure zKt (w:World)(A:Option Addr)(l c:Nat)(q:List Int):Prop where
 len:q.length=l
 le:l<=1000
 cap:l<=c
 il:IL w w.heap.size A q
 inn:InI q
theorem zKt.later {w w':World}{A:Option Addr}{l c:Nat}{q:List Int}(h:zKt w A l c q)(hb:Below w.heap.size w w'):zKt w' A l c q:=⟨h.len,h.le,h.cap,h.il.later hb,h.inn⟩
theorem OkA.hasq {w:World}{o:OC}{a:OpP}(h:OkA w o a)(t:zAf a):zKt w o.Q o.lq o.cq a.q:=⟨h.hlq,by have:=t.hq;have:=h.hlq;omega,h.hcq,h.hq,h.hiq⟩
theorem OkA.hast {w:World}{o:OC}{a:OpP}(h:OkA w o a)(t:zAf a):zKt w o.T o.lt o.ct a.t:=⟨h.hlt,by have:=t.ht;have:=h.hlt;omega,h.hct,h.ht,h.hit⟩
def OC.nc (o:OC):NC:=⟨o.lf,o.P,o.np,o.pc,o.X,o.nt,o.tc,o.K,o.nk,o.kc⟩
theorem OkA.hasn {w:World}{o:OC}{a:OpP}(h:OkA w o a):kS w o.nc a.n:=h.hn
structure zHz (w:World)(c:NC)(n:NT):Prop where
 lf:n.lf=c.lf
 np:n.ps.length=c.np
 nt:n.tx.length=c.nt
 nk:n.ks.length=c.nk
 p:PL w w.heap.size c.P n.ps
 x:VL w w.heap.size c.X (rv n.tx)
 f:zU0 n.ps n.tx.length n.ks.length c.pc c.tc c.kc
 k:∃d,zKn d w w.heap.size c.K n.ks
theorem kS.parts {w:World}{c:NC}{n:NT}(h:kS w c n):zHz w c n:=by
 obtain⟨d,h⟩:=h;cases d with
 |zero=>exact h.elim
 |succ d=>
  obtain⟨PA,pc,TA,tc,KA,kc,e,hp,ht,hf,hks⟩:=h;unfold NC.row at e;simp only[Value.agg.injEq,Array.mk.injEq,List.cons.injEq,Value.bool.injEq,Value.slice.injEq,and_true]at e;obtain⟨e1,⟨e2,e3,e4⟩,⟨e5,e6,e7⟩,e8,e9,e10⟩:=e;subst e2 e4 e5 e7 e8 e10;exact⟨e1.symm,e3.symm,e6.symm,e9.symm,hp,ht,hf,d,hks⟩
theorem zHz.has {w:World}{c:NC}{n:NT}(h:zHz w c n):kS w c n:=by
 obtain⟨d,hk⟩:=h.k;refine⟨d+1,c.P,c.pc,c.X,c.tc,c.K,c.kc,?_,h.p,h.x,h.f,hk⟩;rw[h.lf,h.np,h.nt,h.nk];rfl
theorem kS.lf {w:World}{c:NC}{n:NT}(h:kS w c n):n.lf=c.lf:=h.parts.lf
section
variable {w:World}{A:Option Addr}{lq cq:Nat}{q:List Int}{c d:NC}{n m:NT}
theorem kFp {r:NT×Int}(hn:kS w c n)(hq:zKt w A lq cq q)(hE:zGm n q=r):Calls Tryz.prog 15 #[.agg c.row,.slice A lq cq] w (zAm w r):=by
 obtain⟨x,e⟩:=r;exact(kMn hE hq.len hq.le hn hq.il).mono fun e w' h=>h.nn
theorem zJ1 {r:NT×Int}(hn:kS w c n)(hm:kS w d m)(hq:zKt w A lq cq q)(hE:zSe n q m=r):Calls Tryz.prog 104 #[.agg c.row,.slice A lq cq,.agg d.row] w (zAm w r):=by
 obtain⟨x,e⟩:=r;have hl:=hq.len;subst hl;exact(kKy hE hq.le hq.cap hn hm hq.il).mono fun e w' h=>h.nn
theorem zOi {r:NT×Int}(hn:kS w c n)(hm:kS w d m)(hq:zKt w A lq cq q)(hs:sizeT n<=100000)(hE:zGo n q m=r):Calls Tryz.prog 73 #[.agg c.row,.slice A lq cq,.agg d.row] w (zAm w r):=by
 obtain⟨x,e⟩:=r;have hb:∀x,kB n (upP q)=some x->x.ks.length<1759218604441:=fun x hx=>by
  have h1:=zGh _ n x hx;have h2:∀(l:List NT),l.length<=sizeK l:=fun l=>by
   induction l with
   |nil=>simp
   |cons k r ih=>have:=zJs k;simp only[List.length_cons,sizeK];omega
  have h3:=h2 x.ks;obtain⟨lf,ps,tx,ks⟩:=x;simp only[sizeT,NT.ks]at*;omega
 exact(kMl hE hq.len hq.le hq.cap hn hm hq.il hb).mono fun e w' h=>h.nn
theorem zR2 {x y:NT}{er:Int}(hn:kS w c n)(hq:zKt w A lq cq q)(hE:zBw n q=(x,er))(hy:zE3 n q=y):Calls Tryz.prog 72 #[.agg c.row,.slice A lq cq] w (kK2 w x y er):=
 (kMm hE hy hq.len hq.le hq.cap hn hq.il).mono fun _ _w' h=>h.nn
end
theorem zM {ty t:TypeId}{rest:List Oper}{a:Act}{w:World}{Q:Exit->Act->World->Prop}{g:Nat}{r:Array Value}(h:jT t w g r){j:Nat}{v:Value}
  (x:Operand) (ho:op.op=.load ty x) (hgd:op.guard=none) (hx:a.eval x=.pointer (some ⟨g,j,none⟩)) (hv:r[j]? =some v) {d:TypeDesc} (hu:Tryz.prog.underlying ty=some d) (hd:d.isRow=false) (hk:wpList Tryz.prog ops Q rest (a.put op.dst v) w):wpList Tryz.prog ops Q (op::rest) a w:=by
 have hc:=h.cell j v hv;have hl:=zD3 hu hd hc;refine wpList_plain hgd fun K hK=>?_;unfold Oper.wp execOp;simp only[ho,hx,Instr.loadAt,Instr.sureAddr,Sem.run_bind,Sem.run_pure,Result.andThen_ok,hl];exact hK _ _ hk
theorem jT.thaw {t:TypeId}{w:World}{g:Nat}{r:Array Value}(h:jT t w g r)(j:Nat):w.frozen? ⟨g,j,none⟩=false:=by
 unfold jT at h;simp[World.frozen?,h]
theorem jT.set {t:TypeId}{w:World}{g:Nat}{r:Array Value}(h:jT t w g r)(j:Nat)(v:Value):jT t (w.setCell ⟨g,j,none⟩ v) g (r.setIfInBounds j v)/\Off g w (w.setCell ⟨g,j,none⟩ v):=
 ⟨kAk w g t r j v h,rfl,rfl,rfl,by show _<=(w.heap.modify g _).size;simp,fun k _ hne=>Below.heap_setCell w ⟨g,j,none⟩ v k (by simpa using hne)⟩
theorem zFd {ty t:TypeId}(hsz:(Tryz.prog.info? ty).map (·.size)=some 1){rest:List Oper}{a:Act}{W:World}{Q:Exit->Act->World->Prop}{g:Nat}{r r':Array Value}(h:jT t W g r)(x y:Operand)(ho:op.op=.store ty x y)(hgd:op.guard=none)(hd:op.dst=none)
  (j:Nat) (v:Value) (hx:a.eval x=.pointer (some ⟨g,j,none⟩)) (hy:a.eval y=v) (hv:v.cells=#[v]) (h1:v.oneCell'=true) (hj:j<r.size) (hc:r.setIfInBounds j v=r')
  (hk:∀W',jT t W' g r'->Off g W W'->wpList Tryz.prog ops Q rest a W'):wpList Tryz.prog ops Q (op::rest) a W:=by
 have hcell:(W.cell? ⟨g,j,none⟩).isSome=true/\W.frozen? ⟨g,j,none⟩=false:=⟨by rw[h.cell j _ (Array.getElem?_eq_getElem hj)];rfl,h.thaw _⟩;have hrun:=run_storeCells_cells (P:=Tryz.prog) g j [v] 0 W (fun i hi=>by simp at hi;subst hi;simpa using hcell.1) (fun i hi=>by simp at hi;subst hi;simpa using hcell.2) (by simpa using h1);have hst:(storeVar ty ⟨g,j,none⟩ v).run Tryz.prog W=.ok () (W.setCell ⟨g,j,none⟩ v):=by
  cases hq:Tryz.prog.info? ty with
  |none=>simp[hq]at hsz
  |some i=>
   have hs:i.size=1:=by simpa[hq]using hsz
   simp only[Nat.add_zero]at hrun;have:W.setCells g j [v]=W.setCell ⟨g,j,none⟩ v:=rfl;rw[this]at hrun;simp[storeVar,sizeOf,typeInfo,hq,hv,hs,hrun]
 refine wpList_plain hgd fun K hK=>?_;unfold Oper.wp execOp;simp only[ho,hx,hy,Instr.storeAt,Instr.sureAddr,Sem.run_bind,Sem.run_pure,Result.andThen_ok,hst];obtain⟨r1,r2⟩:=h.set j v;rw[hc]at r1;exact hK _ _ (by rw[hd];exact hk _ r1 r2)
def NC.nil :NC:=⟨false,none,0,0,none,0,0,none,0,0⟩
theorem zAb (w:World):kS w NC.nil zeroT:=⟨1,zEh _ _⟩
structure M4 (w:World)(c:NC)(o:OC)(m:NC)(a:NC)(W:World):Prop where
 v3:jT 26 W w.heap.size c.row
 v4:jR W (w.heap.size+1) o
 v5:jT 26 W (w.heap.size+1+1) m.row
 v6:jT 26 W (w.heap.size+1+1+1) a.row
 below:Below w.heap.size w W
section
variable {w W W':World}{c:NC}{o:OC}{m a a':NC}
theorem M4.call (h:M4 w c o m a W)(hb:Below W.heap.size W W'):M4 w c o m a W':=⟨h.v3.keep hb,h.v4.keep hb,h.v5.keep hb,h.v6.keep hb,zI h.below hb⟩
theorem M4.off {g:Nat}(h:M4 w c o m a W)(hg:w.heap.size+1+1+1<g)(ho:Off g W W'):M4 w c o m a W':=⟨h.v3.off ho Kb,(ho.block _ h.v4.lt Kb).trans h.v4,h.v5.off ho Kb,h.v6.off ho Kb,zN h.below ho Kb⟩
theorem M4.set6 (h:M4 w c o m a W)(hv:jT 26 W' (w.heap.size+1+1+1) a'.row)(ho:Off (w.heap.size+1+1+1) W W'):M4 w c o m a' W':=⟨h.v3.off ho Kb,(ho.block _ h.v4.lt Kb).trans h.v4,h.v5.off ho Kb,hv,zN h.below ho Kb⟩
theorem M4.set5 (h:M4 w c o m a W)(hv:jT 26 W' (w.heap.size+1+1) a'.row)(ho:Off (w.heap.size+1+1) W W'):M4 w c o a' a W':=⟨h.v3.off ho Kb,(ho.block _ h.v4.lt Kb).trans h.v4,hv,h.v6.off ho Kb,zN h.below ho Kb⟩
end
theorem jM (w:World)(c:NC)(o:OC)(m:NC):∃W0,(((w.alloc (.cells c.row 26)).alloc (.cells o.row 35)).alloc (.cells m.row 26)).alloc (.cells #[.bool false,.slice none 0 0,.slice none 0 0,.slice none 0 0] 26)=W0/\M4 w c o m NC.nil W0:=by
 have e1:(w.alloc (.cells c.row 26)).heap.size=w.heap.size+1:=by simp
 have e2:((w.alloc (.cells c.row 26)).alloc (.cells o.row 35)).heap.size=w.heap.size+1+1:=by simp
 have e3:(((w.alloc (.cells c.row 26)).alloc (.cells o.row 35)).alloc (.cells m.row 26)).heap.size=w.heap.size+1+1+1:=by simp
 have h1:=(((jT.new w 26 c.row).alloc (.cells o.row 35)).alloc (.cells m.row 26)).alloc (.cells NC.nil.row 26);have h2:=((jR.new (w.alloc (.cells c.row 26)) o).toR.alloc (.cells m.row 26)).alloc (.cells NC.nil.row 26);have h3:=(jT.new ((w.alloc (.cells c.row 26)).alloc (.cells o.row 35)) 26 m.row).alloc (.cells NC.nil.row 26);have h4:=jT.new (((w.alloc (.cells c.row 26)).alloc (.cells o.row 35)).alloc (.cells m.row 26)) 26 NC.nil.row;rw[e1]at h2;rw[e2]at h3;rw[e3]at h4;exact⟨_,rfl,h1,h2,h3,h4,(((Kk.alloc Kl _).alloc (by rw[e1];omega) _).alloc (by rw[e2];omega) _).alloc (by rw[e3];omega) _⟩
theorem kU {fn:Func}{p u:Tmp}(h:fn.results=#[.cell p 26,.tmp u])(tmps:Array Value)(w:World){g:Nat}{c:NC}(hv:jT 26 w g c.row)(hp:tmps.getD p undef=.pointer (some ⟨g,0,none⟩)):(results fn tmps).run Tryz.prog w=.ok (.tuple #[.agg c.row,tmps.getD u undef]) w:=by
 obtain⟨d,h3,h4,h5⟩:=zD;simp only[results,h];simp only[List.mapM_toArray,hp,asAddr,Sem.run_bind,Sem.run_pure,List.mapM_cons,List.mapM_nil];simp[Result.andThen,run_loadVar_row w g _ _ _ _ d hv h3 (by cases d<;>simp_all) h5]
theorem zS {t:TypeId}{n:Nat}(hrow:kC5 t n){a:Act}{o:Oper}{W:World}{g:Nat}{r:Array Value}(h:jT t W g r)(hn:r.size=n)(x:Operand)(ho:o.op=.load t x)(hx:a.eval x=.pointer (some ⟨g,0,none⟩)):(execOp a.eval o).run Tryz.prog W=.ok (.value (.agg r)) W:=by
 obtain⟨d,h3,h4,h5⟩:=hrow;have hr:=run_loadVar_row W g t t r (0,0) d h h3 (by cases d<;>simp_all) (by rw[h5,<-hn]);unfold execOp;simp only[ho,hx,Instr.loadAt,Instr.sureAddr,Sem.run_bind,Sem.run_pure,Result.andThen_ok,hr]
theorem kV {ty t:TypeId}{a:Act}{o:Oper}{W:World}{g:Nat}{r:Array Value}(h:jT t W g r){j:Nat}{v:Value}(x:Operand)(ho:o.op=.load ty x)(hx:a.eval x=.pointer (some ⟨g,j,none⟩))(hv:r[j]? =some v){d:TypeDesc}(hu:Tryz.prog.underlying ty=some d)(hd:d.isRow=false):(execOp a.eval o).run Tryz.prog W=.ok (.value v) W:=by
 have hl:=zD3 hu hd (h.cell j v hv);unfold execOp;simp only[ho,hx,Instr.loadAt,Instr.sureAddr,Sem.run_bind,Sem.run_pure,Result.andThen_ok,hl]
theorem zG3 {ty t:TypeId}{a:Act}{o:Oper}{W:World}{g:Nat}{r:Array Value}(h:jT t W g r){j:Nat}{vs:List Value}(hrow:∃d,Tryz.prog.underlying ty=some d/\d.isRow=true/\(Tryz.prog.info? ty).map (·.size)=some vs.length)(x:Operand)(ho:o.op=.load ty x)(hx:a.eval x=.pointer (some ⟨g,j,none⟩))(hv:(r.extract j (j+vs.length)).toList=vs):(execOp a.eval o).run Tryz.prog W=.ok (.value (.agg vs.toArray)) W:=by
 obtain⟨d,h1,h2,h3⟩:=hrow;have hc:W.rangeAt g j vs:=fun i v hi=>by
  refine h.cell (j+i) v ?_;rw[<-hv]at hi;simp only[Array.toList_extract,List.extract_eq_take_drop,List.getElem?_take,List.getElem?_drop]at hi;split at hi
  ·simpa using hi
  ·cases hi
 have hr:=run_loadVar_mid W g j ty vs d hc h1 h2 h3;unfold execOp;simp only[ho,hx,Instr.loadAt,Instr.sureAddr,Sem.run_bind,Sem.run_pure,Result.andThen_ok,hr]
theorem zA5.off2 {lo g:Nat}{w W W':World}(h:zA5 lo w W)(ho:Off g W W')(hg:g<lo∨w.heap.size<=g):zA5 lo w W':=⟨Nat.le_trans h.size ho.size,fun k h1 h2=>(ho.block k (Nat.lt_of_lt_of_le h2 h.size) Kb).trans (h.block k h1 h2)⟩
theorem zA5.call {lo:Nat}{w W W':World}(h:zA5 lo w W)(hb:Below W.heap.size W W'):zA5 lo w W':=h.trans (.below hb)
theorem zP3 (w:World):jT 26 ((w.alloc (.cells #[.bool false,.slice none 0 0,.slice none 0 0,.slice none 0 0] 26)).alloc (.cells #[.bool false,.slice none 0 0,.slice none 0 0,.slice none 0 0] 26)) w.heap.size NC.nil.row/\jT 26 ((w.alloc (.cells #[.bool false,.slice none 0 0,.slice none 0 0,.slice none 0 0] 26)).alloc (.cells #[.bool false,.slice none 0 0,.slice none 0 0,.slice none 0 0] 26)) (w.heap.size+1) NC.nil.row/\Below w.heap.size w ((w.alloc (.cells #[.bool false,.slice none 0 0,.slice none 0 0,.slice none 0 0] 26)).alloc (.cells #[.bool false,.slice none 0 0,.slice none 0 0,.slice none 0 0] 26)):=by
 have e1:(w.alloc (.cells NC.nil.row 26)).heap.size=w.heap.size+1:=by simp
 have h2:=jT.new (w.alloc (.cells NC.nil.row 26)) 26 NC.nil.row;rw[e1]at h2;exact⟨(jT.new w 26 NC.nil.row).alloc _,h2,(Kk.alloc Kl _).alloc Kc _⟩
theorem zAr (w:World):jT 26 (w.alloc (.cells #[.bool false,.slice none 0 0,.slice none 0 0,.slice none 0 0] 26)) w.heap.size NC.nil.row/\Below w.heap.size w (w.alloc (.cells #[.bool false,.slice none 0 0,.slice none 0 0,.slice none 0 0] 26)):=⟨jT.new w 26 NC.nil.row,Kk.alloc Kl _⟩
theorem zBx {P:Program}{Q:Exit->Act->World->Prop}{S:World->Prop}{z:Nat->Bool}{i:Nat}{oi:Oper}{n:Nat}{listed:Array Bool}{a:Act}{w:World}(hi:ops[i]? =some oi)(hs:Region.noSelect ops=true)(hz:zT8 ops z i=true)(hf:Region.free .any ops listed i=true)(hr:(Region.ready .any ops listed).contains i=true)
  (hQ:∀c a w,Q (.panic c) (a.put oi.dst undef) w->Q (.panic c) a w) (hw:Region.wanted oi (yielded ops a.tmps)=false) (hS:S w)
  (h:zCu P ops Q S z n (listed.setIfInBounds i true) (a.put oi.dst undef) w):zCu P ops Q S z (n+1) listed a w:=
 zX2 hi hs hz hQ n listed a w (Region.free_spec hi hf) (by simpa using hr) (.inr ⟨hw,rfl⟩) hS h
theorem zKu :(Tryz.prog.info? 24).map (·.size)=some 1:=Ka
theorem kS.later2 {w0 w w':World}{c:NC}{n:NT}{g:Nat}(h:kS w0 c n)(hb:Below w0.heap.size w0 w)(ho:Off g w w')(hg:w0.heap.size<=g):kS w' c n:=h.later (hb.trans (ho.below hg hb.size))
theorem zB6 {ty:TypeId}{a:Act}{w:World}{K:Act->World->Prop}{Q:Exit->Act->World->Prop}{g j:Nat}{v:Value}(h:w.cell? ⟨g,j,none⟩=some v)(x:Operand)(ho:op.op=.load ty x)(hx:a.eval x=.pointer (some ⟨g,j,none⟩)){d:TypeDesc}(hu:Tryz.prog.underlying ty=some d)(hd:d.isRow=false)(hk:K (a.put op.dst v) w):Oper.wp Tryz.prog op a w K Q:=by
 have hl:=zD3 hu hd h;unfold Oper.wp execOp;simp only[ho,hx,Instr.loadAt,Instr.sureAddr,Sem.run_bind,Sem.run_pure,Result.andThen_ok,hl];exact hk
theorem zK3 {ty:TypeId}{a:Act}{o:Oper}{W:World}{g j:Nat}{v:Value}(h:W.cell? ⟨g,j,none⟩=some v)(x:Operand)(ho:o.op=.load ty x)(hx:a.eval x=.pointer (some ⟨g,j,none⟩)){d:TypeDesc}(hu:Tryz.prog.underlying ty=some d)(hd:d.isRow=false):(execOp a.eval o).run Tryz.prog W=.ok (.value v) W:=by
 have hl:=zD3 hu hd h;unfold execOp;simp only[ho,hx,Instr.loadAt,Instr.sureAddr,Sem.run_bind,Sem.run_pure,Result.andThen_ok,hl]
theorem kP1 :∀(l:List NT),l.length<=sizeK l
 |[]=>by simp
 |k::r=>by have:=zJs k;have:=kP1 r;simp only[List.length_cons,sizeK];omega
theorem kOa {n x:NT}{u:List Int}{m:Nat}(h:sizeT n<=m)(hx:kB n u=some x):x.ks.length<=m/\x.tx.length<=m/\x.tx.length+x.ks.length<=m:=by
 have h1:=zGh u n x hx;have h3:=kP1 x.ks;rw[jC x]at h1;omega
theorem kVc {r s l:List Int}{p:Int}(h:zFx r p s=(l,0)):∃k:Nat,p=k/\k<=r.length:=by
 unfold zFx at h;split at h
 ·split at h
  ·exact⟨p.toNat,by omega,by omega⟩
  ·cases h
 ·cases h
theorem kTb {r s l:List Int}{p:Int}(h:zFe r p s=(l,0)):∃k:Nat,p=k/\k+s.length<=r.length:=by
 unfold zFe at h;split at h
 ·split at h
  ·rename_i h1
   split at h
   ·rename_i h2
    have:=congrArg List.length h2;rw[List.length_take,List.length_drop]at this;exact⟨p.toNat,by omega,by omega⟩
   ·cases h
  ·cases h
 ·cases h
theorem kTc {n x k:NT}{u:List Int}{i:Nat}(hg:kB n u=some x)(hk:x.ks[i]? =some k):kB n (u++[(i:Int)])=some k:=by
 rw[zAc hg,zA9,hk];rfl
theorem kN7 :∀(p:List Int)(n y:NT)(m:Nat),kB n p=some y->sizeT n<=m->m<=1048576->jI p=true
 |[],_,_,_,_,_,_=>rfl
 |i::p,n,y,m,h,hs,hm=>by
  rw[zR]at h;cases hk:zBh n i with
  |none=>rw[hk]at h;cases h
  |some k=>
   rw[hk]at h;obtain⟨k1,k2,_⟩:=zA1 hk;have h1:=kP1 n.ks;have h2:=jC n;have h3:=zGh [i] n k (by rw[zR,hk];rfl);have ih:=kN7 p k y m h Kb hm;unfold jI at ih⊢;rw[List.all_cons,ih,Bool.and_true,Bool.and_eq_true,decide_eq_true_iff,decide_eq_true_iff];omega
theorem kQ3 {n x:NT}{u:List Int}{i m:Nat}(h:kB n u=some x)(hi:i<=x.ks.length)(hs:sizeT n<=m)(hm:m<=1048576):jI (u++[(i:Int)])=true:=by
 have h1:=kN7 u n x m h hs hm;have h2:=kOa hs h;unfold jI at h1⊢;rw[List.all_append,h1,Bool.true_and,List.all_cons,List.all_nil,Bool.and_true,Bool.and_eq_true,decide_eq_true_iff,decide_eq_true_iff];omega
theorem kPj {o:OpP}(hf:zCx o=0)(hk:o.k=1∨o.k=2∨o.k=3∨o.k=4∨o.k=6∨o.k=7∨o.k=8∨o.k=9):o.t=[]:=by
 have h:=(zOy hf).2;obtain⟨k,q,t,z,n,ol,w,x,f,g⟩:=o;simp only at hk;rcases hk with rfl|rfl|rfl|rfl|rfl|rfl|rfl|rfl<;>(simp[fieldsO,zeroO]at h;(try simp[h]))
theorem kVz {o:OpP}(hf:zCx o=0)(hk:o.k=9):o.q=[]/\o.z=0:=by
 have h:=(zOy hf).2;obtain⟨k,q,t,z,n,ol,w,x,f,g⟩:=o;simp only at hk;subst hk;simp[fieldsO,zeroO]at h;simp[h]
theorem kQ4 {K:Int}{q p:List Int}{z:Int}(h2:K≠2)(h3:K=3->lastL q≠0):(jH K q z p).2=true:=by
 unfold jH;by_cases h0:q.length=0
 ·rw[if_pos h0]
 rw[if_neg h0];by_cases e1:K=1
 ·rw[if_pos e1];split<;>rfl
 rw[if_neg e1,if_neg h2];by_cases e3:K=3
 ·rw[if_pos e3,if_neg (h3 e3)];split
  ·rfl
  split<;>rfl
 rw[if_neg e3];by_cases e4:K=4
 ·rw[if_pos e4];split
  ·rfl
  split<;>rfl
 rw[if_neg e4]
theorem kUh {n a:NT}{o:OpP}(hf:zCx o=0)(h1:1<=o.k)(h8:o.k<=8)(h:doO n o=(a,0))(hn:sizeT n<=1000):(jI o.q&&jI o.t&&zE9 o.z)=true/\(o.k=3->lastL o.q≠0):=by
 have hmx:∀u x,kB n u=some x->x.ks.length<9223372036854775807:=fun u x hx=>by have:=(kOa hn hx).1;omega
 have z0:zE9 0=true:=by decide
 have zn:∀k:Nat,k<=1000->zE9 (k:Int)=true:=fun k hk=>(zKd _).2 Kb;have pk:∀{u:List Int}{i:Nat}{x:NT},kB n u=some x->i<=x.ks.length->jI (u++[(i:Int)])=true:=fun h1 h2=>kQ3 h1 h2 hn Kb;have tn:jI []=true:=rfl;rcases zC7 h1 h8 h with⟨e,h⟩|⟨e,h⟩|⟨e,h⟩|⟨e,h⟩|⟨e,h⟩|⟨e,h⟩|⟨e,h⟩|⟨e,h⟩
 ·obtain⟨u,i,x,hx⟩:=zD7 (zCd h).2;refine⟨?_,fun e2=>by omega⟩;rw[hx.path,pk hx.at_ hx.le,kPj hf Kb,kRt hf Kb,tn,z0];rfl
 ·obtain⟨h2,h3⟩:=zCl h;obtain⟨u,i,x,k,hx⟩:=zBn (n:=n) (p:=o.q) (by rw[h2]);refine⟨?_,fun e2=>by omega⟩;rw[hx.path,pk hx.at_ (Nat.le_of_lt (List.getElem?_eq_some_iff.1 hx.kid).1),kPj hf Kb,kRt hf Kb,tn,z0];rfl
 ·obtain⟨u,i,x,b,k,hx⟩:=zC5 h;have hb:=kOa hn (kTc hx.at_ hx.b_);refine⟨?_,fun _=>by rw[hx.path,zC0];omega⟩;rw[hx.path,pk hx.at_ (Nat.le_of_lt (List.getElem?_eq_some_iff.1 hx.k_).1),kPj hf Kb,tn,<-hx.pos];show zE9 (b.tx.length+b.ks.length:Int)=true
  exact(zKd _).2 Kb
 ·obtain⟨u,i,x,k,hx⟩:=zCc hmx h;have hb:=kOa hn (kTc hx.at_ hx.kid);have hz:=hx.hi;have hz0:=hx.lo;have hl:zG9 k=k.tx.length+k.ks.length:=rfl;refine⟨?_,fun e2=>by omega⟩;rw[hx.path,pk hx.at_ (Nat.le_of_lt (List.getElem?_eq_some_iff.1 hx.kid).1),kPj hf Kb,tn];exact(zKd _).2 Kb
 ·obtain⟨h2,h3⟩:=zBz h;obtain⟨u,i,x,k,hx⟩:=zBn h2;obtain⟨t,j,y,hy⟩:=zD7 h3;have hs:=zFn h2;refine⟨?_,fun e2=>by omega⟩;have hq:=pk hx.at_ (Nat.le_of_lt (List.getElem?_eq_some_iff.1 hx.kid).1);rw[<-hx.path]at hq;rw[hq,hy.path,kQ3 hy.at_ hy.le (m:=1000) Kb Kb,kRt hf Kb,z0];rfl
 ·obtain⟨k,hq,hg,hc,_⟩:=zC6 h;refine⟨?_,fun e2=>by omega⟩;rw[kN7 o.q n k 1000 hg hn Kb,kPj hf Kb,kRt hf Kb,tn,z0];rfl
 ·obtain⟨k,hg,hl,h0,_⟩:=jZ h;have hi:zFx k.tx o.z o.x=((zFx k.tx o.z o.x).1,0):=Prod.ext rfl h0;obtain⟨j,hj,hjl⟩:=kVc hi;have hb:=kOa hn hg;refine⟨?_,fun e2=>by omega⟩;rw[kN7 o.q n k 1000 hg hn Kb,kPj hf Kb,tn,hj,zn j Kb];rfl
 ·obtain⟨k,hg,hl,h0,_⟩:=jZ h;have hi:zFe k.tx o.z o.x=((zFe k.tx o.z o.x).1,0):=Prod.ext rfl h0;obtain⟨j,hj,hjl⟩:=kTb hi;have hb:=kOa hn hg;refine⟨?_,fun e2=>by omega⟩;rw[kN7 o.q n k 1000 hg hn Kb,kPj hf Kb,tn,hj,zn j Kb];rfl
theorem kTd {n a y:NT}{o:OpP}{p x:List Int}(hf:zCx o=0)(h1:1<=o.k)(h8:o.k<=8)(h:doO n o=(a,0))(hn:sizeT n<=1000)(hp:kB n p=some y)(hm:jF o.k o.q o.t o.z p=(x,false)):o.k=2/\(p=o.q∨(o.q.length<p.length/\∀j,j<o.q.length->iAt o.q j=iAt p j)):=by
 obtain⟨hs,h3⟩:=kUh hf h1 h8 h hn;have hsp:=kN7 p n y 1000 hp hn Kb;unfold jF at hm;rw[if_pos (by rw[Bool.and_assoc,Bool.and_assoc,hsp,Bool.true_and,<-Bool.and_assoc];exact hs)]at hm;by_cases h5:o.k=5/\o.q.length≠0
 ·rw[if_pos h5]at hm;split at hm
  ·exact absurd (zO hm).2 Kc
  ·have:=kQ4 (K:=1) (q:=o.t) (p:=(jH 2 o.q 0 p).1) (z:=0) Kb (fun e=>by omega);rw[hm]at this;cases this
 ·rw[if_neg h5]at hm;by_cases h2:o.k=2
  ·refine⟨h2,?_⟩;rw[h2]at hm;have hst:=zF4 o.q p;rcases hst with h0|h0|h0|h0
   ·unfold jH at hm;rw[if_neg (show¬((2:Int)=1) by decide),if_pos rfl,if_pos h0]at hm;split at hm<;>exact absurd (zO hm).2 Kc
   ·unfold jH at hm;rw[if_neg (show¬((2:Int)=1) by decide),if_pos rfl,if_neg (show¬zX o.q p=0 by omega),if_pos h0]at hm;split at hm<;>exact absurd (zO hm).2 Kc
   ·exact .inl (zCw.1 h0).symm
   ·exact .inr (zL6.1 h0)
  ·have:=kQ4 (q:=o.q) (p:=p) (z:=o.z) h2 h3;rw[hm]at this;cases this
theorem kTe {n y:NT}{o:OpP}{p:List Int}(hf:zCx o=0)(h9:o.k=9)(hn:sizeT n<=1000)(hp:kB n p=some y):jF o.k o.q o.t o.z p=(p,true):=by
 obtain⟨hq,hz⟩:=kVz hf h9;have ht:=kPj hf Kb;have hsp:=kN7 p n y 1000 hp hn Kb;unfold jF;have hb:(jI p&&jI []&&jI []&&zE9 0)=true:=by rw[hsp];rfl
 rw[hq,ht,hz,if_pos hb,if_neg (show¬(o.k=5/\([]:List Int).length≠0) by omega)];unfold jH;exact if_pos rfl
section
variable {w w':World}{g:Nat}{a b x y:Value}{t:TypeId}
theorem yb2 (h:w.heap[g]? =some (.cells #[a,b] t (0,0))):w.cell? ⟨g,0,none⟩=some a/\w.cell? ⟨g,1,none⟩=some b/\w.frozen? ⟨g,0,none⟩=false/\w.frozen? ⟨g,1,none⟩=false:=by
 refine⟨?_,?_,?_,?_⟩<;>simp[World.cell?,World.frozen?,h]
theorem yset (w:World)(g:Nat)(t:TypeId)(cs:Array Value)(k:Nat)(x:Value)(h:w.heap[g]? =some (.cells cs t (0,0))):(w.setCell ⟨g,k,none⟩ x).heap[g]? =some (.cells (cs.setIfInBounds k x) t (0,0)):=by
 have hlt:=xlt h;have h':w.heap[g]=.cells cs t (0,0):=by simpa[Array.getElem?_eq_getElem hlt]using h
 show(w.heap.modify g _)[g]? =_
 rw[Array.getElem?_eq_getElem (by simpa using hlt),Array.getElem_modify_self,h'];rfl
theorem kMq (h:w.heap[g]? =some (.cells #[a,b] t (0,0)))(x:Value):(w.setCell ⟨g,0,none⟩ x).heap[g]? =some (.cells #[x,b] t (0,0)):=yset w g t _ 0 x h
theorem zCr (h:w.heap[g]? =some (.cells #[a,b] t (0,0)))(x y:Value):((w.setCell ⟨g,0,none⟩ x).setCell ⟨g,1,none⟩ y).heap[g]? =some (.cells #[x,y] t (0,0)):=yset _ g t _ 1 y (yset w g t _ 0 x h)
theorem kFq {cs:Array Value}{g' k:Nat}(h:w.heap[g]? =some (.cells cs t (0,0)))(hne:g≠g')(x:Value):(w.setCell ⟨g',k,none⟩ x).heap[g]? =some (.cells cs t (0,0)):=(Below.heap_setCell _ _ _ _ hne).trans h
end
theorem kK3 (w:World)(o o' o2:Obj):(((w.alloc o).alloc o').alloc o2).heap[w.heap.size]? =some o/\(((w.alloc o).alloc o').alloc o2).heap[w.heap.size+1]? =some o'/\(((w.alloc o).alloc o').alloc o2).heap[w.heap.size+1+1]? =some o2:=by
 refine⟨?_,?_,?_⟩
 ·rw[Below.heap_alloc _ _ _ Kf,Below.heap_alloc _ _ _ Kc];exact heap_alloc_new _ _
 ·rw[Below.heap_alloc _ _ _ Kc,show w.heap.size+1=(w.alloc o).heap.size by simp];exact heap_alloc_new _ _
 ·rw[show w.heap.size+1+1=((w.alloc o).alloc o').heap.size by simp];exact heap_alloc_new _ _
theorem kMr (w:World)(o o':Obj):((w.alloc o).alloc o').heap[w.heap.size]? =some o/\((w.alloc o).alloc o').heap[w.heap.size+1]? =some o':=by
 refine⟨?_,?_⟩
 ·rw[Below.heap_alloc _ _ _ Kc];exact heap_alloc_new _ _
 ·rw[show w.heap.size+1=(w.alloc o).heap.size by simp];exact heap_alloc_new _ _
theorem zPp (w:World)(o o':Obj):Below w.heap.size w ((w.alloc o).alloc o'):=(Kk.alloc Kl _).alloc Kc _
theorem kH7 (w:World)(o o' o2:Obj):Below w.heap.size w (((w.alloc o).alloc o').alloc o2):=(zPp w o o').alloc Kf _
theorem zBt.yset {w:World}{B g k:Nat}{u x:Value}{l:List Int}{cs:Array Value}{t:TypeId}{fr:Nat×Nat}(h:zBt w B u l)(hg:w.heap[g]? =some (.cells cs t fr))(ht:t≠3):zBt (w.setCell ⟨g,k,none⟩ x) B u l:=by
 refine zBt.of_own (ownsRow_setCell_other h.own (a:=⟨g,k,none⟩) (fun e=>?_) _) rfl;rcases h.own.2 with⟨e1,_⟩|⟨g',cap,cur,e1,_,hg',_⟩
 ·rw[e1]at e;cases e
 ·rw[e1]at e;injection e with e;have e:g'=g:=e;subst e;rw[hg]at hg';injection hg' with hg';injection hg' with _ h2;exact ht h2
theorem zBt.ypt {w:World}{B g:Nat}{u a b x y:Value}{l:List Int}(h:zBt w B u l)(hg:w.heap[g]? =some (.cells #[a,b] 29 (0,0))):zBt ((w.setCell ⟨g,0,none⟩ x).setCell ⟨g,1,none⟩ y) B u l:=
 (h.yset hg Kd).yset (kMq hg x) Kd
def zC3 (w:World)(r:(List Int×Int)×Bool)(e:Ending)(w':World):Prop:=∃v,e=.returned (.tuple #[.agg #[v,.int .i64 r.1.2],.bool r.2])/\zBt w' w.heap.size v r.1.1/\Below w.heap.size w w'
theorem zBi {w w':World}{r:(List Int×Int)×Bool}{l:List Int}{z:Int}{b:Bool}{v:Value}(h:r=((l,z),b))(ho:zBt w' w.heap.size v l)(hb:Below w.heap.size w w'):zC3 w r (.returned (.tuple #[.agg #[v,.int .i64 z],.bool b])) w':=by
 subst h;exact⟨v,rfl,ho,hb⟩
def PA (w:World)(v:Value)(p:List Int×Int):Prop:=∃u,v=.agg #[u,.int .i64 p.2]/\XA w u p.1
