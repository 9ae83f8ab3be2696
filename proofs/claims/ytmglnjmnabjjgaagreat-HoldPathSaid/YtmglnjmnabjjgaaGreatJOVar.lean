import Derived.Test.YtmglnjmnabjjgaaGreatJOFacts
set_option maxRecDepth 4000
namespace Go.Proofs.YtmglnjmnabjjgaaGreat
open Go.RowKit
variable {op:Oper}{s:Sl}{E:Bool}{e:Ending}
def kC5 (t:TypeId)(n:Nat):Prop:=∃d,Tryz.prog.underlying t=some d/\d.isRow=true/\(Tryz.prog.info? t).map (·.size)=some n
def jT (t:TypeId)(w:World)(g:Nat)(r:Array Value):Prop:=w.heap[g]? =some (.cells r t (0,0))
section
variable {t:TypeId}{w w':World}{g:Nat}{r r':Array Value}
theorem jT.lt (h:jT t w g r):g<w.heap.size:=(Array.getElem?_eq_some_iff.1 h).1
theorem jT.keep (h:jT t w g r)(hb:Below w.heap.size w w'):jT t w' g r:=(hb.block _ h.lt).trans h
theorem jT.off {k:Nat}(h:jT t w g r)(ho:Off k w w')(hne:g≠k):jT t w' g r:=(ho.block _ h.lt hne).trans h
theorem jT.new (w:World)(t:TypeId)(r:Array Value):jT t (w.alloc (.cells r t)) w.heap.size r:=heap_alloc_new w _
theorem jT.alloc (h:jT t w g r)(o:Obj):jT t (w.alloc o) g r:=h.keep (Kl.alloc Km _)
theorem jT.cell (h:jT t w g r)(j:Nat)(v:Value)(hv:r[j]? =some v):w.cell? ⟨g,j,none⟩=some v:=by
 unfold jT at h;simp[World.cell?,h,hv]
end
theorem zB {t:TypeId}{n:Nat}(hrow:kC5 t n){ops:Array Oper}{rest:List Oper}{a:Act}{w:World}{Q:Exit->Act->World->Prop}{g:Nat}{r:Array Value}(h:jT t w g r)(hn:r.size=n)
  (x:Operand) (ho:op.op=.load t x) (hgd:op.guard=none) (hx:a.eval x=.pointer (some ⟨g,0,none⟩)) (hk:wpList Tryz.prog ops Q rest (a.put op.dst (.agg r)) w):wpList Tryz.prog ops Q (op::rest) a w:=by
 obtain⟨d,h1,h2,h3⟩:=hrow;exact wpList_load_mid hgd t x ho g 0 hx r.toList d (fun i v hi=>by rw[Nat.zero_add];exact h.cell i v (by simpa using hi)) h1 h2 (by rw[h3,<-hn];simp) hk
theorem zK {t:TypeId}{n:Nat}(hrow:kC5 t n){ops:Array Oper}{rest:List Oper}{a:Act}{w:World}{Q:Exit->Act->World->Prop}{g:Nat}{r:Array Value}(h:jT t w g r)(hn:r.size=n)
  (x:Operand) (ho:op.op=.load t x) (hw:Region.wanted op (yielded ops a.tmps)=true) (hx:a.eval x=.pointer (some ⟨g,0,none⟩)) (hk:wpList Tryz.prog ops Q rest (a.put op.dst (.agg r)) w):wpList Tryz.prog ops Q (op::rest) a w:=by
 obtain⟨d,h1,h2,h3⟩:=hrow;refine wpList_step fun K hK=>?_;rw[if_pos hw];exact wp_load_mid t x ho g 0 hx r.toList d (fun i v hi=>by rw[Nat.zero_add];exact h.cell i v (by simpa using hi)) h1 h2 (by rw[h3,<-hn];simp) (hK _ _ hk)
theorem zA {t:TypeId}{n:Nat}(hrow:kC5 t n){ops:Array Oper}{rest:List Oper}{a:Act}{W:World}{Q:Exit->Act->World->Prop}{g:Nat}{r0 r:Array Value}(h:jT t W g r0)(hn0:r0.size=n)(hn:r.size=n)(hone:r.all (·.oneCell')=true)(x y:Operand)(ho:op.op=.store t x y)(hgd:op.guard=none)(hd:op.dst=none)(hx:a.eval x=.pointer (some ⟨g,0,none⟩))(hy:a.eval y=.agg r)
  (hk:∀W',jT t W' g r->Off g W W'->wpList Tryz.prog ops Q rest a W'):wpList Tryz.prog ops Q (op::rest) a W:=by
 obtain⟨d,h3,h4,h5⟩:=hrow;refine wpList_store_row hgd t x y ho g _ hx hy t r0 h (by rw[h5,<-hn]) (by rw[hn0,hn]) hone ?_;rw[hd];exact hk _ (setRow_heap _ _ r0 r _ (0,0) h) (zKw _ _ _ _ _ h)
theorem zD :kC5 26 4:=zCp
theorem kYr :kC5 33 5:=zD4
theorem zMk :kC5 35 21:=zK4
theorem jR.toR {w:World}{g:Nat}{c:OC}(h:jR w g c):jT 35 w g c.row:=h
structure NC where
 lf:Bool
 P:Option Addr
 np:Nat
 pc:Nat
 X:Option Addr
 nt:Nat
 tc:Nat
 K:Option Addr
 nk:Nat
 kc:Nat
def NC.row (c:NC):Array Value:=#[.bool c.lf,.slice c.P c.np c.pc,.slice c.X c.nt c.tc,.slice c.K c.nk c.kc]
theorem NC.size (c:NC):c.row.size=4:=rfl
theorem NC.one (c:NC):c.row.all (·.oneCell')=true:=Ka
structure SC where
 is:Bool
 A:Option Addr
 n:Nat
 c:Nat
 x:Int
 B:Option Addr
 m:Nat
 d:Nat
 y:Int
def SC.row (c:SC):Array Value:=#[.bool c.is,.slice c.A c.n c.c,.int .i64 c.x,.slice c.B c.m c.d,.int .i64 c.y]
theorem SC.one (c:SC):c.row.all (·.oneCell')=true:=Ka
def kS (w:World)(c:NC)(n:NT):Prop:=∃d,zV d w w.heap.size (.agg c.row) n
def zB1 (w:World)(c:SC)(s:Sl):Prop:=zIi w c.is c.A c.n c.c c.x c.B c.m c.d c.y s
theorem kS.later {w w':World}{c:NC}{n:NT}(h:kS w c n)(hb:Below w.heap.size w w'):kS w' c n:=by
 obtain⟨d,h⟩:=h;exact⟨d,h.later hb⟩
theorem zB1.later {w w':World}{c:SC}(h:zB1 w c s)(hb:Below w.heap.size w w'):zB1 w' c s:=zIi.later h hb
theorem zFo {d:Nat}{w:World}{v:Value}{n:NT}(h:zV d w w.heap.size v n):∃c:NC,v=.agg c.row/\kS w c n:=by
 cases d with
 |zero=>exact h.elim
 |succ d=>
  obtain⟨PA,pc,TA,tc,KA,kc,rfl,hp,ht,hf,hks⟩:=h;exact⟨⟨n.lf,PA,n.ps.length,pc,TA,n.tx.length,tc,KA,n.ks.length,kc⟩,rfl,d+1,PA,pc,TA,tc,KA,kc,rfl,hp,ht,hf,hks⟩
def zTd (w:World)(r:(NT×Sl)×Int)(e:Ending)(w':World):Prop:=
 ∃(c:NC)(s:SC),e=.returned (.tuple #[.agg c.row,.agg s.row,.int .i64 r.2])/\kS w' c r.1.1/\zB1 w' s r.1.2/\Below w.heap.size w w'
mutual
def kLr :NT->Prop
 |.mk _ _ tx ks=>tx.length<=35184372088832/\kLs ks
def kLs :List NT->Prop
 |[]=>True
 |k::r=>kLr k/\kLs r
end
theorem zZl :∀{l:List NT},(∀k ∈ l,kLr k)->kLs l
 |[],_=>trivial
 |k::_r,h=>⟨h k List.mem_cons_self,zZl fun x hx=>h x (List.mem_cons_of_mem _ hx)⟩
theorem kFi :∀{d:Nat}{w:World}{B:Nat}{v:Value}{n:NT},zV d w B v n->kLr n
 |0,_,_,_,_,h=>h.elim
 |d+1,_,_,_,.mk lf ps tx ks,⟨PA,pc,TA,tc,KA,kc,e,hp,ht,hf,hks⟩=>by
  refine⟨by have:=hf.2.2.1;have:=hf.2.1;simp only[NT.tx]at*;omega,zZl fun k hk=>?_⟩;obtain⟨j,hj⟩:=List.getElem?_of_mem hk;obtain⟨b,o,u,e1,hb,hn,_⟩:=hks j k hj;exact kFi hn
theorem zZm {l:List Pr}(h:chk l=0):l.length<=16/\∀p ∈ l,kJ8 p=0:=by
 obtain⟨h1,h2,h3⟩:=(zC8 l).1 h;refine⟨h1,fun p hp=>?_⟩;obtain⟨k1,k2⟩:=h2 p hp;unfold zVt at k1;unfold zXo at k2;simp only[Bool.and_eq_true,decide_eq_true_iff]at k1 k2;unfold kJ8;omega
theorem zMl :∀{l:List Pr}{m:Int},zFf m->(∀p ∈ l,kJ8 p=0)->zG6 m l=m
 |[],m,_,_=>rfl
 |p::r,m,hm,h=>by
  unfold zG6;rw[List.foldl_cons,h p List.mem_cons_self,Int.sub_zero,zGy m hm.1 hm.2];exact zMl (l:=r) hm (fun q hq=>h q (List.mem_cons_of_mem _ hq))
mutual
theorem zUs :∀(n:NT)(m:Int),0<=m->m<=1000->kLr n->zAh n=0->0<=zF8 m n->(sizeT n:Int)+zF8 m n<=m
 |.mk lf ps tx ks,m=>fun h0 h1 hc hk hl=>by
  obtain⟨c1,c2⟩:=hc;obtain⟨k1,k2,k3,k4,k5⟩:=(kY _).1 hk;simp only[NT.ps,NT.ks]at k1 k5;obtain⟨b1,b2⟩:=zZm k1;rw[zF8]at hl⊢;rw[zGy (m-(1+tx.length+ps.length)) Kb Kb,zMl (by unfold zFf;omega) b2]at hl⊢;by_cases hneg:m-(1+tx.length+ps.length)<0
  ·rw[if_pos hneg]at hl;omega
  rw[if_neg hneg]at hl⊢;have ih:=zQ9 ks _ Kb Kb c2 k5 hl;simp only[sizeT];omega
theorem zQ9 :∀(l:List NT)(m:Int),0<=m->m<=1000->kLs l->(∀k ∈ l,zAh k=0)->0<=leftK m l->(sizeK l:Int)+leftK m l<=m
 |[],m=>fun h0 h1 _ _ _=>by simp only[sizeK,leftK];omega
 |k::r,m=>fun h0 h1 hc hk hl=>by
  rw[leftK]at hl⊢;by_cases hneg:zF8 m k<0
  ·rw[if_pos hneg]at hl;omega
  rw[if_neg hneg]at hl⊢;have h2:=zUs k m h0 h1 hc.1 (hk k List.mem_cons_self) Kb;have h3:=zQ9 r (zF8 m k) Kb Kb hc.2 (fun x hx=>hk x (List.mem_cons_of_mem _ hx)) hl;simp only[sizeK];omega
end
theorem zRa {d:Nat}{w:World}{B:Nat}{v:Value}{n:NT}{m:Int}(h:zV d w B v n)(h0:0<=m)(h1:m<=1000)(hk:zAh n=0)(hf:zI5 m n=true):(sizeT n:Int)<=m:=by
 have h2:=of_decide_eq_true hf;have:=zUs n m h0 h1 (kFi h) hk h2;omega
structure zRb (n:NT)(s:Sl)(a:OpP):Prop where
 sel:fewS s=true
 tiny:zAf a
 size:zAh n=0->sizeT n<=900
 node:zAh a.n=0->sizeT a.n<=900
section
variable {w:World}
theorem zTe {c:NC}{n:NT}{m:Int}(h:kS w c n)(hm:zFf m)(hE:zI5 m n=E):Calls Tryz.prog 7 #[.agg c.row,.int .i64 m] w (jA (.bool E) w):=by
 obtain⟨d,h⟩:=h;subst hE;exact zO3 d w _ n m hm h
theorem zLi {c c':NC}{n n':NT}(h:kS w c n)(h':kS w c' n')(hE:eqT n n'=E):Calls Tryz.prog 101 #[.agg c.row,.agg c'.row] w (jA (.bool E) w):=by
 obtain⟨d,h⟩:=h;obtain⟨d',h'⟩:=h';subst hE;exact zQ1 d d' w _ _ n n' h h'
theorem zHo {c c':NC}{n n':NT}(h:kS w c n)(h':kS w c' n')(hE:eqT n n'=E):Calls Tryz.prog 12 #[.agg c.row,.agg c'.row] w (jA (.bool E) w):=by
 obtain⟨d,h⟩:=h;obtain⟨d',h'⟩:=h';subst hE;exact zWd d d' w _ _ n n' h h'
theorem zFa {c:NC}{n:NT}{E:Int}(h:kS w c n)(hE:zAd n=E):Calls Tryz.prog 65 #[.agg c.row] w (jA (.int .i64 E) w):=by
 obtain⟨d,h⟩:=h;subst hE;exact zV5 d w _ n h
theorem zB1.len {c:SC}(h:zB1 w c s)(hf:fewS s=true):c.n<=60/\c.m<=60:=by
 unfold fewS at hf;rw[Bool.and_eq_true,decide_eq_true_iff,decide_eq_true_iff]at hf;have:=h.hn;have:=h.hm;omega
theorem zH9 {c d:SC}{t:Sl}(h:zB1 w c s)(g:zB1 w d t)(hs:fewS s=true)(ht:fewS t=true)(hE:zF7 s t=E):Calls Tryz.prog 64 #[.agg c.row,.agg d.row] w (jA (.bool E) w):=by
 obtain⟨l1,l2⟩:=h.len hs;obtain⟨l3,l4⟩:=g.len ht;exact zKp h g Kb Kb Kb Kb hE
theorem zKk {c:NC}{d:SC}{n:NT}{E:Int}(h:kS w c n)(g:zB1 w d s)(hs:fewS s=true)(hE:zE8 n s=E):Calls Tryz.prog 66 #[.agg c.row,.agg d.row] w (jA (.int .i64 E) w):=by
 obtain⟨l1,l2⟩:=g.len hs;obtain⟨dd,h⟩:=h;obtain⟨a1,a2⟩:=zIi.two g Kb Kb;have e1:=g.his;have e2:=g.hx;have e3:=g.hy;subst hE;have hh:=zSu (b:=d.is) (p:=s.a) (q:=s.f) (A:=d.A) (B:=d.B) (na:=d.n) (nb:=d.m) (ca:=d.c) (cb:=d.d) Kl h (by rw[e2];exact a1) (by rw[e3];exact a2);rw[e2,e3]at hh;have es:(⟨d.is,s.a,s.f⟩:Sl)=s:=by obtain⟨x,y,z⟩:=s;simp only at e1;subst e1;rfl
 rw[es]at hh;exact hh
end
structure St3 (w:World)(c:NC)(s:SC)(o:OC)(W:World):Prop where
 v3:jT 26 W w.heap.size c.row
 v4:jT 33 W (w.heap.size+1) s.row
 v5:jR W (w.heap.size+1+1) o
 below:Below w.heap.size w W
theorem St3.call {w W W':World}{c:NC}{s:SC}{o:OC}(h:St3 w c s o W)(hb:Below W.heap.size W W'):St3 w c s o W':=⟨h.v3.keep hb,h.v4.keep hb,h.v5.keep hb,zI h.below hb⟩
theorem kN (w:World)(c:NC)(s:SC)(o:OC):∃W0,((w.alloc (.cells c.row 26)).alloc (.cells s.row 33)).alloc (.cells o.row 35)=W0/\St3 w c s o W0:=by
 have e1:(w.alloc (.cells c.row 26)).heap.size=w.heap.size+1:=by simp
 have e2:((w.alloc (.cells c.row 26)).alloc (.cells s.row 33)).heap.size=w.heap.size+1+1:=by simp
 have h1:=((jT.new w 26 c.row).alloc (.cells s.row 33)).alloc (.cells o.row 35);have h2:=(jT.new (w.alloc (.cells c.row 26)) 33 s.row).alloc (.cells o.row 35);have h3:=jR.new ((w.alloc (.cells c.row 26)).alloc (.cells s.row 33)) o;rw[e1]at h2;rw[e2]at h3;exact⟨_,rfl,h1,h2,h3,((Kl.alloc Km _).alloc (by rw[e1];omega) _).alloc (by rw[e2];omega) _⟩
structure St5 (w:World)(c:NC)(s:SC)(o:OC)(g7 g8:Nat)(a:NC)(t:SC)(W:World):Prop where
 st:St3 w c s o W
 v7:jT 26 W g7 a.row
 v8:jT 33 W g8 t.row
theorem St5.call {w W W':World}{c:NC}{s:SC}{o:OC}{g7 g8:Nat}{a:NC}{t:SC}(h:St5 w c s o g7 g8 a t W)(hb:Below W.heap.size W W'):St5 w c s o g7 g8 a t W':=⟨h.st.call hb,h.v7.keep hb,h.v8.keep hb⟩
theorem St3.store {w W W':World}{c:NC}{s:SC}{o:OC}{g:Nat}(h:St3 w c s o W)(ho:Off g W W')(hg:w.heap.size+1+1<g):St3 w c s o W':=
 ⟨h.v3.off ho Kb,h.v4.off ho Kb,(ho.block _ h.v5.lt Kb).trans h.v5,zN h.below ho Kb⟩
theorem zDj (w:World):jT 26 ((w.alloc (.cells #[.bool false,.slice none 0 0,.slice none 0 0,.slice none 0 0] 26)).alloc (.cells #[.bool false,.slice none 0 0,.int .i64 0,.slice none 0 0,.int .i64 0] 33)) w.heap.size #[.bool false,.slice none 0 0,.slice none 0 0,.slice none 0 0]:=
 (jT.new w 26 _).alloc _
theorem zDk {w W:World}(ho:Off w.heap.size ((w.alloc (.cells #[.bool false,.slice none 0 0,.slice none 0 0,.slice none 0 0] 26)).alloc (.cells #[.bool false,.slice none 0 0,.int .i64 0,.slice none 0 0,.int .i64 0] 33)) W):
  Below w.heap.size w W/\jT 33 W (w.heap.size+1) #[.bool false,.slice none 0 0,.int .i64 0,.slice none 0 0,.int .i64 0]:=by
 have e1:(w.alloc (.cells #[.bool false,.slice none 0 0,.slice none 0 0,.slice none 0 0] 26)).heap.size=w.heap.size+1:=by simp
 have h2:=jT.new (w.alloc (.cells #[.bool false,.slice none 0 0,.slice none 0 0,.slice none 0 0] 26)) 33 #[.bool false,.slice none 0 0,.int .i64 0,.slice none 0 0,.int .i64 0];rw[e1]at h2;exact⟨zN ((Kl.alloc Km _).alloc (by rw[e1];omega) _) ho Km,h2.off ho Kb⟩
theorem zDl {w W W':World}(hb:Below w.heap.size w W)(ho:Off (w.heap.size+1) W W'):Below w.heap.size w W':=zN hb ho Kb
def zAm (w:World)(r:NT×Int)(e:Ending)(w':World):Prop:=∃c:NC,e=.returned (.tuple #[.agg c.row,.int .i64 r.2])/\zH3 w.heap.size w' (fun W=>kS W c r.1)/\Below w.heap.size w w'
theorem zHy {lo d:Nat}{w:World}{c:NC}{n:NT}(ht:zAx (fun b=>lo<=b/\b<w.heap.size) d w (.agg c.row) n):zH3 lo w (fun W=>kS W c n):=fun W' ho=>⟨d,
 (ht.keep (Q:=fun b=>b<W'.heap.size) (fun _ hb=>Nat.lt_of_lt_of_le hb.2 ho.size) (fun _ hp=>⟨ho.cell hp.1 hp.2,ho.frozen hp.1 hp.2⟩)).at_ (fun _ hb=>hb)⟩
theorem zP2.nn {r:NT×Int}{w w':World}(h:zP2 r w e w'):zAm w r e w':=by
 obtain⟨v,d,rfl,h1,h2⟩:=h;obtain⟨c,rfl,_⟩:=zFo (h1.at_ (B:=w'.heap.size) fun b hb=>hb.2);exact⟨c,rfl,zHy h1,h2⟩
def kK2 (w:World)(x y:NT)(er:Int)(e:Ending)(w':World):Prop:=∃c d:NC,e=.returned (.tuple #[.agg c.row,.agg d.row,.int .i64 er])/\zH3 w.heap.size w' (fun W=>kS W c x)/\zH3 w.heap.size w' (fun W=>kS W d y)/\Below w.heap.size w w'
theorem kFo.nn {x y:NT}{er:Int}{w w':World}(h:kFo x y er w e w'):kK2 w x y er e w':=by
 obtain⟨v,v',d,rfl,h1,h2,h3⟩:=h;obtain⟨c,rfl,_⟩:=zFo (h1.at_ (B:=w'.heap.size) fun b hb=>hb.2);obtain⟨c',rfl,_⟩:=zFo (h2.at_ (B:=w'.heap.size) fun b hb=>hb.2);exact⟨c,c',rfl,zHy h1,zHy h2,h3⟩
theorem zH3.off {lo g:Nat}{w w':World}{P:World->Prop}(h:zH3 lo w P)(ho:Off g w w')(hg:g<lo):zH3 lo w' P:=h.high (.off ho hg)
theorem zH3.call {lo:Nat}{w w':World}{P:World->Prop}(h:zH3 lo w P)(hb:Below w.heap.size w w'):zH3 lo w' P:=h.high (.below hb)
structure zKt (w:World)(A:Option Addr)(l c:Nat)(q:List Int):Prop where
 len:q.length=l
 le:l<=1000
 cap:l<=c
 il:IL w w.heap.size A q
 inn:InI q
theorem zKt.later {w w':World}{A:Option Addr}{l c:Nat}{q:List Int}(h:zKt w A l c q)(hb:Below w.heap.size w w'):zKt w' A l c q:=⟨h.len,h.le,h.cap,h.il.later hb,h.inn⟩
theorem OkA.hasq {w:World}{o:OC}{a:OpP}(h:OkA w o a)(t:zAf a):zKt w o.Q o.lq o.cq a.q:=⟨h.hlq,by have:=t.hq;have:=h.hlq;omega,h.hcq,h.hq,h.hiq⟩
theorem OkA.hast {w:World}{o:OC}{a:OpP}(h:OkA w o a)(t:zAf a):zKt w o.T o.lt o.ct a.t:=⟨h.hlt,by have:=t.ht;have:=h.hlt;omega,h.hct,h.ht,h.hit⟩
def OC.nc (o:OC):NC:=⟨o.lf,o.P,o.np,o.pc,o.X,o.nt,o.tc,o.K,o.nk,o.kc⟩
theorem OkA.hasn {w:World}{o:OC}{a:OpP}(h:OkA w o a):kS w o.nc a.n:=h.hn
structure zHz (w:World)(c:NC)(n:NT):Prop where
 lf:n.lf=c.lf
 np:n.ps.length=c.np
 nt:n.tx.length=c.nt
 nk:n.ks.length=c.nk
 p:PL w w.heap.size c.P n.ps
 x:VL w w.heap.size c.X (rv n.tx)
 f:zU0 n.ps n.tx.length n.ks.length c.pc c.tc c.kc
 k:∃d,zKn d w w.heap.size c.K n.ks
theorem kS.parts {w:World}{c:NC}{n:NT}(h:kS w c n):zHz w c n:=by
 obtain⟨d,h⟩:=h;cases d with
 |zero=>exact h.elim
 |succ d=>
  obtain⟨PA,pc,TA,tc,KA,kc,e,hp,ht,hf,hks⟩:=h;unfold NC.row at e;simp only[Value.agg.injEq,Array.mk.injEq,List.cons.injEq,Value.bool.injEq,Value.slice.injEq,and_true]at e;obtain⟨e1,⟨e2,e3,e4⟩,⟨e5,e6,e7⟩,e8,e9,e10⟩:=e;subst e2 e4 e5 e7 e8 e10;exact⟨e1.symm,e3.symm,e6.symm,e9.symm,hp,ht,hf,d,hks⟩
theorem zHz.has {w:World}{c:NC}{n:NT}(h:zHz w c n):kS w c n:=by
 obtain⟨d,hk⟩:=h.k;refine⟨d+1,c.P,c.pc,c.X,c.tc,c.K,c.kc,?_,h.p,h.x,h.f,hk⟩;rw[h.lf,h.np,h.nt,h.nk];rfl
theorem kS.lf {w:World}{c:NC}{n:NT}(h:kS w c n):n.lf=c.lf:=h.parts.lf
section
variable {w:World}{A:Option Addr}{lq cq:Nat}{q:List Int}{c d:NC}{n m:NT}
theorem kFp {r:NT×Int}(hn:kS w c n)(hq:zKt w A lq cq q)(hE:zGm n q=r):Calls Tryz.prog 15 #[.agg c.row,.slice A lq cq] w (zAm w r):=by
 obtain⟨x,e⟩:=r;exact(kMn hE hq.len hq.le hn hq.il).mono fun e w' h=>h.nn
theorem zJ1 {r:NT×Int}(hn:kS w c n)(hm:kS w d m)(hq:zKt w A lq cq q)(hE:zSe n q m=r):Calls Tryz.prog 104 #[.agg c.row,.slice A lq cq,.agg d.row] w (zAm w r):=by
 obtain⟨x,e⟩:=r;have hl:=hq.len;subst hl;exact(kKy hE hq.le hq.cap hn hm hq.il).mono fun e w' h=>h.nn
theorem zOi {r:NT×Int}(hn:kS w c n)(hm:kS w d m)(hq:zKt w A lq cq q)(hs:sizeT n<=100000)(hE:zGo n q m=r):Calls Tryz.prog 73 #[.agg c.row,.slice A lq cq,.agg d.row] w (zAm w r):=by
 obtain⟨x,e⟩:=r;have hb:∀x,kB n (upP q)=some x->x.ks.length<1759218604441:=fun x hx=>by
  have h1:=zGh _ n x hx;have h2:∀(l:List NT),l.length<=sizeK l:=fun l=>by
   induction l with
   |nil=>simp
   |cons k r ih=>have:=zJs k;simp only[List.length_cons,sizeK];omega
  have h3:=h2 x.ks;obtain⟨lf,ps,tx,ks⟩:=x;simp only[sizeT,NT.ks]at*;omega
 exact(kMl hE hq.len hq.le hq.cap hn hm hq.il hb).mono fun e w' h=>h.nn
theorem zR2 {x y:NT}{er:Int}(hn:kS w c n)(hq:zKt w A lq cq q)(hE:zBw n q=(x,er))(hy:zE3 n q=y):Calls Tryz.prog 72 #[.agg c.row,.slice A lq cq] w (kK2 w x y er):=
 (kMm hE hy hq.len hq.le hq.cap hn hq.il).mono fun _ _w' h=>h.nn
end
theorem zM {ty t:TypeId}{ops:Array Oper}{rest:List Oper}{a:Act}{w:World}{Q:Exit->Act->World->Prop}{g:Nat}{r:Array Value}(h:jT t w g r){j:Nat}{v:Value}
  (x:Operand) (ho:op.op=.load ty x) (hgd:op.guard=none) (hx:a.eval x=.pointer (some ⟨g,j,none⟩)) (hv:r[j]? =some v) {d:TypeDesc} (hu:Tryz.prog.underlying ty=some d) (hd:d.isRow=false) (hk:wpList Tryz.prog ops Q rest (a.put op.dst v) w):wpList Tryz.prog ops Q (op::rest) a w:=by
 have hc:=h.cell j v hv;have hl:=zD3 hu hd hc;refine wpList_plain hgd fun K hK=>?_;unfold Oper.wp execOp;simp only[ho,hx,Instr.loadAt,Instr.sureAddr,Sem.run_bind,Sem.run_pure,Result.andThen_ok,hl];exact hK _ _ hk
theorem jT.thaw {t:TypeId}{w:World}{g:Nat}{r:Array Value}(h:jT t w g r)(j:Nat):w.frozen? ⟨g,j,none⟩=false:=by
 unfold jT at h;simp[World.frozen?,h]
theorem jT.set {t:TypeId}{w:World}{g:Nat}{r:Array Value}(h:jT t w g r)(j:Nat)(v:Value):jT t (w.setCell ⟨g,j,none⟩ v) g (r.setIfInBounds j v)/\Off g w (w.setCell ⟨g,j,none⟩ v):=
 ⟨kAk w g t r j v h,rfl,rfl,rfl,by show _<=(w.heap.modify g _).size;simp,fun k _ hne=>Below.heap_setCell w ⟨g,j,none⟩ v k (by simpa using hne)⟩
theorem zFd {ty t:TypeId}(hsz:(Tryz.prog.info? ty).map (·.size)=some 1){ops:Array Oper}{rest:List Oper}{a:Act}{W:World}{Q:Exit->Act->World->Prop}{g:Nat}{r r':Array Value}(h:jT t W g r)(x y:Operand)(ho:op.op=.store ty x y)(hgd:op.guard=none)(hd:op.dst=none)
  (j:Nat) (v:Value) (hx:a.eval x=.pointer (some ⟨g,j,none⟩)) (hy:a.eval y=v) (hv:v.cells=#[v]) (h1:v.oneCell'=true) (hj:j<r.size) (hc:r.setIfInBounds j v=r')
  (hk:∀W',jT t W' g r'->Off g W W'->wpList Tryz.prog ops Q rest a W'):wpList Tryz.prog ops Q (op::rest) a W:=by
 have hcell:(W.cell? ⟨g,j,none⟩).isSome=true/\W.frozen? ⟨g,j,none⟩=false:=⟨by rw[h.cell j _ (Array.getElem?_eq_getElem hj)];rfl,h.thaw _⟩;have hrun:=run_storeCells_cells (P:=Tryz.prog) g j [v] 0 W (fun i hi=>by simp at hi;subst hi;simpa using hcell.1) (fun i hi=>by simp at hi;subst hi;simpa using hcell.2) (by simpa using h1);have hst:(storeVar ty ⟨g,j,none⟩ v).run Tryz.prog W=.ok () (W.setCell ⟨g,j,none⟩ v):=by
  cases hq:Tryz.prog.info? ty with
  |none=>simp[hq]at hsz
  |some i=>
   have hs:i.size=1:=by simpa[hq]using hsz
   simp only[Nat.add_zero]at hrun;have:W.setCells g j [v]=W.setCell ⟨g,j,none⟩ v:=rfl;rw[this]at hrun;simp[storeVar,sizeOf,typeInfo,hq,hv,hs,hrun]
 refine wpList_plain hgd fun K hK=>?_;unfold Oper.wp execOp;simp only[ho,hx,hy,Instr.storeAt,Instr.sureAddr,Sem.run_bind,Sem.run_pure,Result.andThen_ok,hst];obtain⟨r1,r2⟩:=h.set j v;rw[hc]at r1;exact hK _ _ (by rw[hd];exact hk _ r1 r2)
def NC.nil :NC:=⟨false,none,0,0,none,0,0,none,0,0⟩
theorem zAb (w:World):kS w NC.nil zeroT:=⟨1,zEh _ _⟩
structure M4 (w:World)(c:NC)(o:OC)(m:NC)(a:NC)(W:World):Prop where
 v3:jT 26 W w.heap.size c.row
 v4:jR W (w.heap.size+1) o
 v5:jT 26 W (w.heap.size+1+1) m.row
 v6:jT 26 W (w.heap.size+1+1+1) a.row
 below:Below w.heap.size w W
section
variable {w W W':World}{c:NC}{o:OC}{m a a':NC}
theorem M4.call (h:M4 w c o m a W)(hb:Below W.heap.size W W'):M4 w c o m a W':=⟨h.v3.keep hb,h.v4.keep hb,h.v5.keep hb,h.v6.keep hb,zI h.below hb⟩
theorem M4.off {g:Nat}(h:M4 w c o m a W)(hg:w.heap.size+1+1+1<g)(ho:Off g W W'):M4 w c o m a W':=⟨h.v3.off ho Kb,(ho.block _ h.v4.lt Kb).trans h.v4,h.v5.off ho Kb,h.v6.off ho Kb,zN h.below ho Kb⟩
theorem M4.set6 (h:M4 w c o m a W)(hv:jT 26 W' (w.heap.size+1+1+1) a'.row)(ho:Off (w.heap.size+1+1+1) W W'):M4 w c o m a' W':=⟨h.v3.off ho Kb,(ho.block _ h.v4.lt Kb).trans h.v4,h.v5.off ho Kb,hv,zN h.below ho Kb⟩
theorem M4.set5 (h:M4 w c o m a W)(hv:jT 26 W' (w.heap.size+1+1) a'.row)(ho:Off (w.heap.size+1+1) W W'):M4 w c o a' a W':=⟨h.v3.off ho Kb,(ho.block _ h.v4.lt Kb).trans h.v4,hv,h.v6.off ho Kb,zN h.below ho Kb⟩
end
theorem jM (w:World)(c:NC)(o:OC)(m:NC):∃W0,(((w.alloc (.cells c.row 26)).alloc (.cells o.row 35)).alloc (.cells m.row 26)).alloc (.cells #[.bool false,.slice none 0 0,.slice none 0 0,.slice none 0 0] 26)=W0/\M4 w c o m NC.nil W0:=by
 have e1:(w.alloc (.cells c.row 26)).heap.size=w.heap.size+1:=by simp
 have e2:((w.alloc (.cells c.row 26)).alloc (.cells o.row 35)).heap.size=w.heap.size+1+1:=by simp
 have e3:(((w.alloc (.cells c.row 26)).alloc (.cells o.row 35)).alloc (.cells m.row 26)).heap.size=w.heap.size+1+1+1:=by simp
 have h1:=(((jT.new w 26 c.row).alloc (.cells o.row 35)).alloc (.cells m.row 26)).alloc (.cells NC.nil.row 26);have h2:=((jR.new (w.alloc (.cells c.row 26)) o).toR.alloc (.cells m.row 26)).alloc (.cells NC.nil.row 26);have h3:=(jT.new ((w.alloc (.cells c.row 26)).alloc (.cells o.row 35)) 26 m.row).alloc (.cells NC.nil.row 26);have h4:=jT.new (((w.alloc (.cells c.row 26)).alloc (.cells o.row 35)).alloc (.cells m.row 26)) 26 NC.nil.row;rw[e1]at h2;rw[e2]at h3;rw[e3]at h4;exact⟨_,rfl,h1,h2,h3,h4,(((Kl.alloc Km _).alloc (by rw[e1];omega) _).alloc (by rw[e2];omega) _).alloc (by rw[e3];omega) _⟩
theorem kU {fn:Func}{p u:Tmp}(h:fn.results=#[.cell p 26,.tmp u])(tmps:Array Value)(w:World){g:Nat}{c:NC}(hv:jT 26 w g c.row)(hp:tmps.getD p undef=.pointer (some ⟨g,0,none⟩)):(results fn tmps).run Tryz.prog w=.ok (.tuple #[.agg c.row,tmps.getD u undef]) w:=by
 obtain⟨d,h3,h4,h5⟩:=zD;simp only[results,h];simp only[List.mapM_toArray,hp,asAddr,Sem.run_bind,Sem.run_pure,List.mapM_cons,List.mapM_nil];simp[Result.andThen,run_loadVar_row w g _ _ _ _ d hv h3 (by cases d<;>simp_all) h5]
theorem zS {t:TypeId}{n:Nat}(hrow:kC5 t n){a:Act}{o:Oper}{W:World}{g:Nat}{r:Array Value}(h:jT t W g r)(hn:r.size=n)(x:Operand)(ho:o.op=.load t x)(hx:a.eval x=.pointer (some ⟨g,0,none⟩)):(execOp a.eval o).run Tryz.prog W=.ok (.value (.agg r)) W:=by
 obtain⟨d,h3,h4,h5⟩:=hrow;have hr:=run_loadVar_row W g t t r (0,0) d h h3 (by cases d<;>simp_all) (by rw[h5,<-hn]);unfold execOp;simp only[ho,hx,Instr.loadAt,Instr.sureAddr,Sem.run_bind,Sem.run_pure,Result.andThen_ok,hr]
theorem kV {ty t:TypeId}{a:Act}{o:Oper}{W:World}{g:Nat}{r:Array Value}(h:jT t W g r){j:Nat}{v:Value}(x:Operand)(ho:o.op=.load ty x)(hx:a.eval x=.pointer (some ⟨g,j,none⟩))(hv:r[j]? =some v){d:TypeDesc}(hu:Tryz.prog.underlying ty=some d)(hd:d.isRow=false):(execOp a.eval o).run Tryz.prog W=.ok (.value v) W:=by
 have hl:=zD3 hu hd (h.cell j v hv);unfold execOp;simp only[ho,hx,Instr.loadAt,Instr.sureAddr,Sem.run_bind,Sem.run_pure,Result.andThen_ok,hl]
theorem zG3 {ty t:TypeId}{a:Act}{o:Oper}{W:World}{g:Nat}{r:Array Value}(h:jT t W g r){j:Nat}{vs:List Value}(hrow:∃d,Tryz.prog.underlying ty=some d/\d.isRow=true/\(Tryz.prog.info? ty).map (·.size)=some vs.length)(x:Operand)(ho:o.op=.load ty x)(hx:a.eval x=.pointer (some ⟨g,j,none⟩))(hv:(r.extract j (j+vs.length)).toList=vs):(execOp a.eval o).run Tryz.prog W=.ok (.value (.agg vs.toArray)) W:=by
 obtain⟨d,h1,h2,h3⟩:=hrow;have hc:W.rangeAt g j vs:=fun i v hi=>by
  refine h.cell (j+i) v ?_;rw[<-hv]at hi;simp only[Array.toList_extract,List.extract_eq_take_drop,List.getElem?_take,List.getElem?_drop]at hi;split at hi
  ·simpa using hi
  ·cases hi
 have hr:=run_loadVar_mid W g j ty vs d hc h1 h2 h3;unfold execOp;simp only[ho,hx,Instr.loadAt,Instr.sureAddr,Sem.run_bind,Sem.run_pure,Result.andThen_ok,hr]
theorem zA5.off2 {lo g:Nat}{w W W':World}(h:zA5 lo w W)(ho:Off g W W')(hg:g<lo∨w.heap.size<=g):zA5 lo w W':=⟨Nat.le_trans h.size ho.size,fun k h1 h2=>(ho.block k (Nat.lt_of_lt_of_le h2 h.size) Kb).trans (h.block k h1 h2)⟩
theorem zA5.call {lo:Nat}{w W W':World}(h:zA5 lo w W)(hb:Below W.heap.size W W'):zA5 lo w W':=h.trans (.below hb)
theorem zP3 (w:World):jT 26 ((w.alloc (.cells #[.bool false,.slice none 0 0,.slice none 0 0,.slice none 0 0] 26)).alloc (.cells #[.bool false,.slice none 0 0,.slice none 0 0,.slice none 0 0] 26)) w.heap.size NC.nil.row/\jT 26 ((w.alloc (.cells #[.bool false,.slice none 0 0,.slice none 0 0,.slice none 0 0] 26)).alloc (.cells #[.bool false,.slice none 0 0,.slice none 0 0,.slice none 0 0] 26)) (w.heap.size+1) NC.nil.row/\Below w.heap.size w ((w.alloc (.cells #[.bool false,.slice none 0 0,.slice none 0 0,.slice none 0 0] 26)).alloc (.cells #[.bool false,.slice none 0 0,.slice none 0 0,.slice none 0 0] 26)):=by
 have e1:(w.alloc (.cells NC.nil.row 26)).heap.size=w.heap.size+1:=by simp
 have h2:=jT.new (w.alloc (.cells NC.nil.row 26)) 26 NC.nil.row;rw[e1]at h2;exact⟨(jT.new w 26 NC.nil.row).alloc _,h2,(Kl.alloc Km _).alloc Kc _⟩
theorem zAr (w:World):jT 26 (w.alloc (.cells #[.bool false,.slice none 0 0,.slice none 0 0,.slice none 0 0] 26)) w.heap.size NC.nil.row/\Below w.heap.size w (w.alloc (.cells #[.bool false,.slice none 0 0,.slice none 0 0,.slice none 0 0] 26)):=⟨jT.new w 26 NC.nil.row,Kl.alloc Km _⟩
theorem zBx {P:Program}{ops:Array Oper}{Q:Exit->Act->World->Prop}{S:World->Prop}{z:Nat->Bool}{i:Nat}{oi:Oper}{n:Nat}{listed:Array Bool}{a:Act}{w:World}(hi:ops[i]? =some oi)(hs:Region.noSelect ops=true)(hz:zT8 ops z i=true)(hf:Region.free .any ops listed i=true)(hr:(Region.ready .any ops listed).contains i=true)
  (hQ:∀c a w,Q (.panic c) (a.put oi.dst undef) w->Q (.panic c) a w) (hw:Region.wanted oi (yielded ops a.tmps)=false) (hS:S w)
  (h:zCu P ops Q S z n (listed.setIfInBounds i true) (a.put oi.dst undef) w):zCu P ops Q S z (n+1) listed a w:=
 zX2 hi hs hz hQ n listed a w (Region.free_spec hi hf) (by simpa using hr) (.inr ⟨hw,rfl⟩) hS h
theorem zKu :(Tryz.prog.info? 24).map (·.size)=some 1:=Ka
theorem kS.later2 {w0 w w':World}{c:NC}{n:NT}{g:Nat}(h:kS w0 c n)(hb:Below w0.heap.size w0 w)(ho:Off g w w')(hg:w0.heap.size<=g):kS w' c n:=h.later (hb.trans (ho.below hg hb.size))
theorem zB6 {ty:TypeId}{a:Act}{w:World}{K:Act->World->Prop}{Q:Exit->Act->World->Prop}{g j:Nat}{v:Value}(h:w.cell? ⟨g,j,none⟩=some v)(x:Operand)(ho:op.op=.load ty x)(hx:a.eval x=.pointer (some ⟨g,j,none⟩)){d:TypeDesc}(hu:Tryz.prog.underlying ty=some d)(hd:d.isRow=false)(hk:K (a.put op.dst v) w):Oper.wp Tryz.prog op a w K Q:=by
 have hl:=zD3 hu hd h;unfold Oper.wp execOp;simp only[ho,hx,Instr.loadAt,Instr.sureAddr,Sem.run_bind,Sem.run_pure,Result.andThen_ok,hl];exact hk
theorem zK3 {ty:TypeId}{a:Act}{o:Oper}{W:World}{g j:Nat}{v:Value}(h:W.cell? ⟨g,j,none⟩=some v)(x:Operand)(ho:o.op=.load ty x)(hx:a.eval x=.pointer (some ⟨g,j,none⟩)){d:TypeDesc}(hu:Tryz.prog.underlying ty=some d)(hd:d.isRow=false):(execOp a.eval o).run Tryz.prog W=.ok (.value v) W:=by
 have hl:=zD3 hu hd h;unfold execOp;simp only[ho,hx,Instr.loadAt,Instr.sureAddr,Sem.run_bind,Sem.run_pure,Result.andThen_ok,hl]
open Go.WideShapes (add_plain)
theorem kW5 {t:TypeId}{size n:Nat}{v:Value}{xs:List Value}{w:World}{base:Nat}(h:w.ownsRow base t size v n xs):∃A c,v=.slice A n c/\n<=c/\c<=maxLen/\∀k u,xs[k]? =some u->∃g,A=some ⟨g,0,none⟩/\base<=g/\g<w.heap.size/\kKa w g k u:=by
 rcases h.2 with⟨e,h0⟩|⟨g,cap,cur,e,hb,hh,h1,h2,_⟩
 ·refine⟨none,0,by rw[e,h0],by omega,by unfold maxLen;omega,fun k u hu=>?_⟩;have:=(List.getElem?_eq_some_iff.1 hu).1;rw[h.1,h0]at this;omega
 ·refine⟨some ⟨g,0,none⟩,cap,e,h1,h2,fun k u hu=>⟨g,rfl,hb,lt_of_block hh,?_,by simp[World.frozen?,hh]⟩⟩;have:=h.cells (g:=g) (by rw[e];rfl) k u hu;rwa[add_plain,Nat.zero_add]at this
theorem kW6 {P:Nat->Prop}{t:TypeId}{size n c:Nat}{A:Option Addr}{xs:List Value}{w:World}{base:Nat}(h:w.ownsRow base t size (.slice A n c) n xs)(hP:∀g,(Value.slice A n c).ownBlock=some g->P g):VP P w A xs:=fun k u hu=>by
 obtain⟨A',c',e,_,_,hf⟩:=kW5 h;injection e with e1 e2 e3;subst e1;obtain⟨g,e,_,_,h4⟩:=hf k u hu;subst e;exact⟨g,0,rfl,hP g rfl,by rw[Nat.zero_add];exact h4⟩
theorem kTu (W:World)(cs:List Value)(tb:TypeId):∀j u,cs[j]? =some u->(W.alloc (.cells cs.toArray tb)).cell? ((⟨W.heap.size,0,none⟩:Addr).add j)=some u:=fun j u hu=>by
 rw[add_plain,Nat.zero_add,World.cell?_alloc_at _ _ _ _ rfl];simpa using hu
theorem kOw {ts te tb:TypeId}{size by_:Nat}(E:zQ7 ts te size by_)(W:World){ops:Array Oper}{rest:List Oper}{o:Oper}{a:Act}{Q:Exit->Act->World->Prop}(hgd:o.guard=none)(s x:Operand)
  (ho:o.op=.call {callee:=.builtin .append,args:=#[s,x],argTypes:=#[ts,ts]})
  (b:Nat) (v:Value) (n:Nat) (k cs:List Value) (hs:a.eval s=v) (hO:W.ownsRow b te size v n k) (hx:a.eval x=.slice (some ⟨W.heap.size,0,none⟩) 1 1) (hn:cs.length=size) (h1:∀u ∈ cs,u.oneCell'=true)
  (h63:n<=1000000) (hby:by_<=100) (hb:b<=W.heap.size)
  (hK:∀A' c' w',w'.ownsRow b te size (.slice A' (n+1) c') (n+1) (k++cs)->(W.alloc (.cells cs.toArray tb)).grownBy w' v.ownBlock->((Value.slice A' (n+1) c').ownBlock=v.ownBlock∨∃g,(Value.slice A' (n+1) c').ownBlock=some g/\W.heap.size+1<=g)->wpList Tryz.prog ops Q rest (a.put o.dst (.slice A' (n+1) c')) w'):
  wpList Tryz.prog ops Q (o::rest) a (W.alloc (.cells cs.toArray tb)):=by
 obtain⟨i0,z,hi,hz0,hz1,hz2,hz3⟩:=E.info;have hsz:=E.pos;have Dr:(n+1)*by_<=1000001*100:=Nat.mul_le_mul Kb hby;refine wpList_plain hgd fun K hK2=>?_;refine wp_append_lies (W.alloc (.cells cs.toArray tb)) s x ts ho b te i0 z size by_ E.under hi hz0 hz1 hz2 hz3 hsz v n k hs (hO.alloc _) ⟨W.heap.size,0,none⟩ 1 1 cs hx (by rw[hn,Nat.one_mul]) (kTu W cs tb) h1 Kb Kg Kb Kf (W.heap.size+1) Kc (fun g cap w' h1 h2 h3 _=>hK2 _ _ (hK _ cap w' h1 h2 ?_));rcases h3 with e|e
 ·exact .inl (by rw[e];rfl)
 ·exact .inr ⟨g,rfl,by omega⟩
theorem kXw :(Tryz.prog.info? 53).map (fun i=>(i.zero,i.size,i.bytes))=some (some (.pointer none),1,8):=Ka
theorem gpG :zQ7 62 53 1 8:=⟨Tryz.underlying62,by
 obtain⟨i0,hi,hz0,hz1,hz2⟩:=info_parts kXw;exact⟨i0,_,hi,hz0,hz1,hz2,rfl⟩,by decide⟩
theorem giG :zQ7 27 3 1 8:=⟨Tryz.underlying27,by
 obtain⟨i0,hi,hz0,hz1,hz2⟩:=info_parts zSm;exact⟨i0,_,hi,hz0,hz1,hz2,rfl⟩,by decide⟩
theorem kNl {w w':World}{base:Nat}{t:TypeId}{size:Nat}{v:Value}{n:Nat}{xs:List Value}(h:w.ownsRow base t size v n xs)(hq:∀q,v.ownBlock=some q->w'.heap[q]? =w.heap[q]?):w'.ownsRow base t size v n xs:=by
 refine⟨h.1,?_⟩;rcases h.2 with e|⟨g',cap,cur,e,hb,hh,rest⟩
 ·exact .inl e
 ·exact .inr ⟨g',cap,cur,e,hb,(hq g' (by rw[e];rfl)).trans hh,rest⟩
theorem kNq {w:World}{base base':Nat}{t:TypeId}{size:Nat}{v:Value}{n:Nat}{xs:List Value}(h:w.ownsRow base t size v n xs)(hq:∀q,v.ownBlock=some q->base'<=q):w.ownsRow base' t size v n xs:=by
 refine⟨h.1,?_⟩;rcases h.2 with e|⟨g',cap,cur,e,hb,hh,rest⟩
 ·exact .inl e
 ·exact .inr ⟨g',cap,cur,e,hq g' (by rw[e];rfl),hh,rest⟩
inductive Gh (w:World):Value->NT->(Nat->Prop)->Prop where
 |mk (F:Nat->Prop) (b:Nat) (lab:Int) (rs:List Int) (ks:List NT) (R K:Value) (us:List Value) (Fs:Nat->Nat->Prop)
  (hb:jT 64 w b #[.int .i64 lab,R,K]) (hF:F b)
  (hr:w.ownsRow 0 3 1 R rs.length (rs.map (Value.int .i64))) (hk:w.ownsRow 0 53 1 K ks.length us)
  (hl:us.length=ks.length) (fr:∀q,R.ownBlock=some q->F q/\q≠b) (fk:∀q,K.ownBlock=some q->F q/\q≠b/\R.ownBlock≠some q)
  (kids:∀j m u,ks[j]? =some m->us[j]? =some u->Gh w u m (Fs j))
  (sub:∀j q,Fs j q->F q/\q≠b/\R.ownBlock≠some q/\K.ownBlock≠some q) (dis:∀i j q,i≠j->Fs i q->¬Fs j q):
  Gh w (.pointer (some ⟨b,0,none⟩)) (.mk false [] (lab::rs) ks) F
theorem Gh.frame {w w':World}{v:Value}{n:NT}{F:Nat->Prop}(h:Gh w v n F):(∀q,F q->w'.heap[q]? =w.heap[q]?)->Gh w' v n F:=by
 induction h with
 |mk F b lab rs ks R K us Fs hb hF hr hk hl fr fk kids sub dis ih=>
  intro hq;exact .mk F b lab rs ks R K us Fs ((hq b hF).trans hb) hF (kNl hr fun q h=>hq q (fr q h).1) (kNl hk fun q h=>hq q (fk q h).1) hl fr fk (fun j m u h1 h2=>ih j m u h1 h2 fun q h=>hq q (sub j q h).1) sub dis
theorem Gh.mono {w:World}{v:Value}{n:NT}{F F':Nat->Prop}(h:Gh w v n F)(hs:∀q,F q->F' q):Gh w v n F':=by
 cases h with
 |mk F b lab rs ks R K us Fs hb hF hr hk hl fr fk kids sub dis=>
  exact .mk F' b lab rs ks R K us Fs hb (hs b hF) hr hk hl (fun q h=>⟨hs q (fr q h).1,(fr q h).2⟩) (fun q h=>⟨hs q (fk q h).1,(fk q h).2⟩) kids (fun j q h=>⟨hs q (sub j q h).1,(sub j q h).2⟩) dis
theorem Gh.later {w w':World}{v:Value}{n:NT}{F:Nat->Prop}(h:Gh w v n F)(hF:∀q,F q->q<w.heap.size)(hb:Below w.heap.size w w'):Gh w' v n F:=h.frame fun q hq=>hb.block q (hF q hq)
def kQ1 (w:World):Value->List Int->Value->Prop
 |v,[],u=>u=v
 |v,i::r,u=>∃b lab R g nk c j x,v=.pointer (some ⟨b,0,none⟩)/\jT 64 w b #[lab,R,.slice (some ⟨g,0,none⟩) nk c]/\i=((j:Nat):Int)/\j<nk/\nk<=c/\c<=maxLen/\w.cell? ⟨g,j,none⟩=some x/\kQ1 w x r u
theorem kV1 {n k:NT}{i:Int}(h:zBh n i=some k):∃j:Nat,i=(j:Int)/\n.ks[j]? =some k:=zDa h
theorem kRr {n m:NT}{j:Nat}{r:List Int}{k:NT}(h:n.ks[j]? =some k):putT n ((j:Int)::r) m=.mk n.lf n.ps n.tx (n.ks.set j (putT k r m)):=by
 have hj:j<n.ks.length:=(List.getElem?_eq_some_iff.1 h).1;have hk:zBh n (j:Int)=some k:=by unfold zBh;rw[if_pos Kb];simpa using h
 rw[putT,hk];show jS n ((j:Int)).toNat 1 [putT k r m]=_
 unfold jS;rw[zI0 (by simpa using hj)];simp
theorem Gh.sub :∀(p:List Int){w:World}{n m:NT}{v:Value}{F:Nat->Prop},Gh w v n F->kB n p=some m->∃u Fm,kQ1 w v p u/\Gh w u m Fm/\(∀q,Fm q->F q)/\
  ∀(w':World)(m':NT)(G:Nat->Prop),Gh w' u m' G->(∀q,F q->¬Fm q->w'.heap[q]? =w.heap[q]?)->(∀q,G q->¬Fm q->¬F q)->Gh w' v (putT n p m') (fun q=>(F q/\¬Fm q)∨G q)
 |[],w,n,m,v,F,h,hg=>by
  simp only[kB,Option.some.injEq]at hg;subst hg;exact⟨v,F,rfl,h,fun _ h=>h,fun w' m' G hG _ _=>by rw[show putT n [] m'=m' from rfl];exact hG.mono fun _ h=>.inr h⟩
 | i ::r,w,n,m,v,F,h,hg=>by
  rw[zR]at hg;cases oC:zBh n i with
  |none=>rw[oC]at hg;cases hg
  | some k=>
   rw[oC]at hg;obtain⟨j,rfl,hj⟩:=kV1 oC;cases h with
   | mk F b lab rs ks R K us Fs hb hF hr hk hl fr fk kids sub dis=>
    have hj':ks[j]? =some k:=hj;have hjl:j<ks.length:=(List.getElem?_eq_some_iff.1 hj').1;obtain⟨x,hx⟩:∃x,us[j]? =some x:=⟨_,List.getElem?_eq_getElem Kb⟩;obtain⟨u,Fm,h1,h2,h3,h4⟩:=Gh.sub r (kids j k x hj' hx) hg;obtain⟨A,c,eK,hc1,hc2,hfree⟩:=zC9 hk;obtain⟨g,eA,_,_,hcell,_⟩:=hfree j x hx;subst eK eA;refine⟨u,Fm,⟨b,_,_,g,ks.length,c,j,x,rfl,hb,rfl,hjl,hc1,hc2,hcell,h1⟩,h2,fun q hq=>(sub j q (h3 q hq)).1,fun w' m' G hG hsame hnew=>?_⟩;have eU:=h4 w' m' G hG (fun q hq hn=>hsame q (sub j q hq).1 hn) (fun q hq hn hs=>hnew q hq hn (sub j q hs).1);rw[kRr (n:=.mk false [] (lab::rs) ks) hj];show Gh w' _ (.mk false [] (lab::rs) (ks.set j (putT k r m'))) _
    have nb:∀q,Fm q->q≠b/\R.ownBlock≠some q/\(Value.slice (some ⟨g,0,none⟩) ks.length c).ownBlock≠some q:=fun q hq=>(sub j q (h3 q hq)).2;have gb:∀q,G q->q≠b/\R.ownBlock≠some q/\(Value.slice (some ⟨g,0,none⟩) ks.length c).ownBlock≠some q:=fun q hq=>by
     by_cases hm:Fm q
     ·exact nb q hm
     ·have:=hnew q hq hm;exact⟨fun e=>this (e▸hF),fun e=>this (fr q e).1,fun e=>this (fk q e).1⟩
    have hle:(ks.set j (putT k r m')).length=ks.length:=List.length_set ..;refine .mk _ b lab rs _ R (.slice (some ⟨g,0,none⟩) ks.length c) us (fun j' q=>if j'=j then((Fs j q/\¬Fm q)∨G q)else Fs j' q) ((hsame b hF fun h=>(nb b h).1 rfl).trans hb) (.inl ⟨hF,fun h=>(nb b h).1 rfl⟩) (kNl hr fun q h=>hsame q (fr q h).1 fun hm=>(nb q hm).2.1 h)
     (by rw[hle];exact kNl hk fun q h=>hsame q (fk q h).1 fun hm=>(nb q hm).2.2 h) (by rw[hle];exact hl) (fun q h=>⟨.inl ⟨(fr q h).1,fun hm=>(nb q hm).2.1 h⟩,(fr q h).2⟩) (fun q h=>⟨.inl ⟨(fk q h).1,fun hm=>(nb q hm).2.2 h⟩,(fk q h).2⟩) (fun j' m2 u2 e1 e2=>?_) (fun j' q hq=>?_) (fun i1 i2 q hne hq1 hq2=>?_)
    ·by_cases e:j'=j
     ·subst e;rw[show(fun q=>if j'=j' then((Fs j' q/\¬Fm q)∨G q)else Fs j' q)=fun q=>(Fs j' q/\¬Fm q)∨G q from funext fun q=>if_pos rfl];rw[List.getElem?_set_self hjl]at e1;rw[hx]at e2;injection e1 with e1;injection e2 with e2;subst e1 e2;exact eU
     ·rw[show(fun q=>if j'=j then((Fs j q/\¬Fm q)∨G q)else Fs j' q)=Fs j' from funext fun q=>if_neg e];rw[List.getElem?_set_ne (fun h=>e h.symm)]at e1;exact(kids j' m2 u2 e1 e2).frame fun q hq=>hsame q (sub j' q hq).1 fun hm=>dis j' j q e hq (h3 q hm)
    ·by_cases e:j'=j
     ·rw[if_pos e]at hq;rcases hq with hq|hq
      ·exact⟨.inl ⟨(sub j q hq.1).1,hq.2⟩,(sub j q hq.1).2⟩
      ·exact⟨.inr hq,gb q hq⟩
     ·rw[if_neg e]at hq;exact⟨.inl ⟨(sub j' q hq).1,fun hm=>dis j' j q e hq (h3 q hm)⟩,(sub j' q hq).2⟩
    ·have key:∀i3 q,i3≠j->Fs i3 q->¬((Fs j q/\¬Fm q)∨G q):=fun i3 q hn h hh=>by
      rcases hh with hh|hh
      ·exact dis i3 j q hn h hh.1
      ·by_cases hm:Fm q
       ·exact dis i3 j q hn h (h3 q hm)
       ·exact hnew q hh hm (sub i3 q h).1
     by_cases e1:i1=j
     ·have e2:i2≠j:=fun h=>hne (e1.trans h.symm);rw[if_pos e1]at hq1;rw[if_neg e2]at hq2;exact key i2 q e2 hq2 hq1
     ·rw[if_neg e1]at hq1;by_cases e2:i2=j
      ·rw[if_pos e2]at hq2;exact key i1 q e1 hq1 hq2
      ·rw[if_neg e2]at hq2;exact dis i1 i2 q hne hq1 hq2
set_option maxHeartbeats 2000000 in
theorem kOx {w:World}{v u:Value}{A:Option Addr}{lq cq:Nat}{q:List Int}(hp:kQ1 w v q u)(hq:zKt w A lq cq q):Calls Tryz.prog 21 #[v,.slice A lq cq] w (fun e w'=>e=.returned u/\w'=w):=by
 have HP:=hd hp;have HQ:=hd hq;have hl:=hq.len;have hle:=hq.le;clear hp hq;go_enter Tryz.func21,Tryz.ntmps21
 go_wp2
 go_loopw [0,9] (fun p i wr=>∃k:Nat,k<=lq/\i=.int .i64 k/\wr=w/\Kr (kQ1 w p (q.drop k) u)) (fun _ i _=>lq-(intOf i).toNat)
 case atStart=>exact⟨0,Nat.zero_le _,rfl,rfl,hd (by simpa using HP.o)⟩
 case round=>
  obtain⟨k,hk,rfl,rfl,HK⟩:=hrel;by_cases hlt:k<lq
  ·obtain⟨b0,o0,rfl,hb0,hc⟩:=HQ.o.il.at_ (k:=k) Kb;have hdr:q.drop k=iAt q k::q.drop (k+1):=by
    rw[List.drop_eq_getElem_cons Kb];congr 1
    unfold iAt;simp[List.getElem?_eq_getElem (show k<q.length by omega)]
   have h0:=HK.o;rw[hdr]at h0;obtain⟨b,lab,R,g,nk,c,j,x,rfl,hv,hi,hj,hnc,hcm,hcell,hrest⟩:=h0;rw[hi]at hc;have c2:=hv.cell 2 (.slice (some ⟨g,0,none⟩) nk c) rfl;have hx1:decide ((j:Int)<0)=false:=decide_eq_false Kb;have hx2:decide ((nk:Int)<=(j:Int))=false:=decide_eq_false Kb;have HR:=hd hrest;unfold maxLen at hcm;clear hdr hi hrest HK hv;go_wp2
   go_roundw
   case rel=>exact⟨k+1,by omega,by go_num,trivial,HR⟩
   case measure=>simp[intOf];omega
  ·have h0:=HK.o;rw[List.drop_eq_nil_of_le Kb]at h0;have HF:=hd (show u=_ from h0);clear HK h0;go_wp2
   go_ret
   exact⟨by rw[HF.o];rfl,rfl⟩
