import Derived.Test.YtmglnjmnabjjgaaGreatJTPut
set_option maxRecDepth 4000
set_option maxHeartbeats 8000000
namespace Go.Proofs.YtmglnjmnabjjgaaGreat
open Go.RowKit
variable {m n:NT}{A:Option Addr}
def At (w:World)(v:Value)(n:NT):Prop:=∃d,zV d w w.heap.size v n
theorem kKt {w:World}{v:Value}{p:List Int}{c:Nat}(hl:p.length<=1000)(hn:At w v n)(hp:IL w w.heap.size A p):Calls Tryz.prog 15 #[v,.slice A p.length c] w (zP2 (zGm n p) w):=by
 obtain⟨d,hn⟩:=hn;exact zU9 d w v n A p p.length c rfl Kb hn hp
theorem kKu {w:World}{v u:Value}{p:List Int}{c:Nat}(hl:p.length<=1000)(hc:p.length<=c)(hn:At w v n)(hm:At w u m)(hp:IL w w.heap.size A p):Calls Tryz.prog 104 #[v,.slice A p.length c,u] w (zP2 (zSe n p m) w):=by
 obtain⟨d,hn⟩:=hn;obtain⟨dm,hm⟩:=hm;exact kDz d dm w v u n m A p p.length c rfl Kb hc hn hm hp
theorem kKv {w:World}{v u:Value}{p:List Int}{c:Nat}(hl:p.length<=1000)(hc:p.length<=c)(hn:At w v n)(hm:At w u m)(hp:IL w w.heap.size A p)(bc:∀x,kB n (upP p)=some x->x.ks.length<1759218604441):Calls Tryz.prog 73 #[v,.slice A p.length c,u] w (zP2 (zGo n p m) w):=by
 obtain⟨d,hn⟩:=hn;obtain⟨dm,hm⟩:=hm;exact kD0 d dm w v u n m A p p.length c rfl hl hc hn hm hp bc
theorem kKw {w:World}{v:Value}{p:List Int}{c:Nat}(hl:p.length<=1000)(hc:p.length<=c)(hn:At w v n)(hp:IL w w.heap.size A p):Calls Tryz.prog 72 #[v,.slice A p.length c] w (kFo (zBw n p).1 (zE3 n p) (zBw n p).2 w):=by
 obtain⟨d,hn⟩:=hn;exact kDx d w v n A p p.length c rfl hl hc hn hp
theorem kKx {w:World}{v:Value}{x:NT}{er:Int}{p:List Int}{c:Nat}(hr:zGm n p=(x,er))(hl:p.length<=1000)(hn:At w v n)(hp:IL w w.heap.size A p):Calls Tryz.prog 15 #[v,.slice A p.length c] w (zP2 (x,er) w):=hr▸kKt hl hn hp
theorem kKy {w:World}{v u:Value}{x:NT}{er:Int}{p:List Int}{c:Nat}(hr:zSe n p m=(x,er))(hl:p.length<=1000)(hc:p.length<=c)(hn:At w v n)(hm:At w u m)(hp:IL w w.heap.size A p):Calls Tryz.prog 104 #[v,.slice A p.length c,u] w (zP2 (x,er) w):=hr▸kKu hl hc hn hm hp
theorem kKz {w:World}{v u:Value}{x:NT}{er:Int}{p:List Int}{c:Nat}(hr:zGo n p m=(x,er))(hl:p.length<=1000)(hc:p.length<=c)(hn:At w v n)(hm:At w u m)(hp:IL w w.heap.size A p)(bc:∀x,kB n (upP p)=some x->x.ks.length<1759218604441):Calls Tryz.prog 73 #[v,.slice A p.length c,u] w (zP2 (x,er) w):=hr▸kKv hl hc hn hm hp bc
theorem kK0 {w:World}{v:Value}{x y:NT}{er:Int}{p:List Int}{c:Nat}(hr:zBw n p=(x,er))(hy:zE3 n p=y)(hl:p.length<=1000)(hc:p.length<=c)(hn:At w v n)(hp:IL w w.heap.size A p):Calls Tryz.prog 72 #[v,.slice A p.length c] w (kFo x y er w):=by
 have h:=kKw (c:=c) hl hc hn hp;rw[hr,hy]at h;exact h
theorem kMl {w:World}{v u:Value}{x:NT}{er:Int}{p:List Int}{lp c:Nat}(hr:zGo n p m=(x,er))(aO:p.length=lp)(hl:lp<=1000)(hc:lp<=c)(hn:At w v n)(hm:At w u m)(hp:IL w w.heap.size A p)(bc:∀x,kB n (upP p)=some x->x.ks.length<1759218604441):Calls Tryz.prog 73 #[v,.slice A lp c,u] w (zP2 (x,er) w):=by
 subst aO;exact kKz hr hl hc hn hm hp bc
theorem kMm {w:World}{v:Value}{x y:NT}{er:Int}{p:List Int}{lp c:Nat}(hr:zBw n p=(x,er))(hy:zE3 n p=y)(aO:p.length=lp)(hl:lp<=1000)(hc:lp<=c)(hn:At w v n)(hp:IL w w.heap.size A p):Calls Tryz.prog 72 #[v,.slice A lp c] w (kFo x y er w):=by
 subst aO;exact kK0 hr hy hl hc hn hp
theorem kMn {w:World}{v:Value}{x:NT}{er:Int}{p:List Int}{lp c:Nat}(hr:zGm n p=(x,er))(aO:p.length=lp)(hl:lp<=1000)(hn:At w v n)(hp:IL w w.heap.size A p):Calls Tryz.prog 15 #[v,.slice A lp c] w (zP2 (x,er) w):=by
 subst aO;exact kKx hr hl hn hp
open Go.WideShapes (add_plain)
theorem zRu (us vs:List Value):zGg (us++vs)=zGg us++zGg vs:=zM9 us vs
structure zM1 (d:Nat)(w:World)(B:Nat)(us:List Value)(ks:List NT):Prop where
 len:us.length=ks.length
 trees:∀(j:Nat)(m:NT),ks[j]? =some m->∃u,us[j]? =some u/\zV d w B u m
theorem zM1.append {d:Nat}{w:World}{B:Nat}{us vs:List Value}{ks ms:List NT}(h1:zM1 d w B us ks)(h2:zM1 d w B vs ms):zM1 d w B (us++vs) (ks++ms):=
 ⟨by rw[List.length_append,List.length_append,h1.len,h2.len],fun j m hj=>by
  rcases Nat.lt_or_ge j ks.length with hjk|hjk
  ·rw[List.getElem?_append_left hjk]at hj;obtain⟨u,hu,ht⟩:=h1.trees j m hj;exact⟨u,by rw[List.getElem?_append_left (by rw[h1.len];exact hjk)];exact hu,ht⟩
  ·rw[List.getElem?_append_right hjk]at hj;obtain⟨u,hu,ht⟩:=h2.trees _ m hj;exact⟨u,by rw[List.getElem?_append_right (by rw[h1.len];exact hjk),h1.len];exact hu,ht⟩⟩
theorem zM1.below {d:Nat}{w w':World}{B:Nat}{us:List Value}{ks:List NT}(h:zM1 d w B us ks)(hb:Below B w w'):zM1 d w' B us ks:=⟨h.len,fun j m hj=>by
 obtain⟨u,h1,h2⟩:=h.trees j m hj;exact⟨u,h1,h2.below hb⟩⟩
theorem zM1.more {d:Nat}{w:World}{B B':Nat}{us:List Value}{ks:List NT}(h:zM1 d w B us ks)(hb:B<=B'):zM1 d w B' us ks:=⟨h.len,fun j m hj=>by
 obtain⟨u,h1,h2⟩:=h.trees j m hj;exact⟨u,h1,h2.more hb⟩⟩
theorem zM1.deep {d d':Nat}{w:World}{B:Nat}{us:List Value}{ks:List NT}(h:zM1 d w B us ks)(hd:d<=d'):zM1 d' w B us ks:=⟨h.len,fun j m hj=>by
 obtain⟨u,h1,h2⟩:=h.trees j m hj;exact⟨u,h1,h2.deep hd⟩⟩
theorem zM1.form {d:Nat}{w:World}{B:Nat}{us:List Value}{ks:List NT}(h:zM1 d w B us ks):∀u ∈ us,∃lf PA np pc TA nt tc KA nk kc,u=.agg #[.bool lf,.slice PA np pc,.slice TA nt tc,.slice KA nk kc]:=fun u hu=>by
 obtain⟨j,hj,rfl⟩:=List.mem_iff_getElem.1 hu;obtain⟨u',hu',ht⟩:=h.trees j _ (List.getElem?_eq_getElem (by rw[<-h.len];exact hj));rw[List.getElem?_eq_getElem hj]at hu';injection hu' with hu';rw[hu'];exact ht.val
theorem zM1.flat {d:Nat}{w:World}{B:Nat}{us:List Value}{ks:List NT}(h:zM1 d w B us ks):(zGg us).length=ks.length*4/\∀c ∈ zGg us,c.oneCell'=true:=by
 have key:=h.form;constructor
 ·rw[<-h.len];have:∀l:List Value,(∀u ∈ l,u.cells.toList.length=4)->(zGg l).length=l.length*4:=by
   intro l;induction l with
   |nil=>intro _;rfl
   |cons x r ih=>intro hx;show(zGg (x::r)).length=_;rw[zGg,List.flatMap_cons,List.length_append,hx x (List.mem_cons_self ..),<-zGg,ih (fun u hu=>hx u (List.mem_cons_of_mem _ hu)),List.length_cons];omega
  exact this us fun u hu=>by obtain⟨_,_,_,_,_,_,_,_,_,_,rfl⟩:=key u hu;rfl
 ·intro c hc;obtain⟨u,hu,oN⟩:=List.mem_flatMap.1 hc;obtain⟨_,_,_,_,_,_,_,_,_,_,rfl⟩:=key u hu;simp[Value.cells]at oN;rcases oN with rfl|rfl|rfl|rfl<;>rfl
theorem zKn.vals {d:Nat}{w:World}{B:Nat}{ks:List NT}(h:zKn d w B A ks):∃us,zM1 d w B us ks/\VL w B A (zGg us):=by
 have hx:∀j:Fin ks.length,∃u,∃b o,A=some ⟨b,o,none⟩/\b<B/\zV d w B u ks[j]/\zK1 w b (o+j*4) u:=fun j=>by
  obtain⟨b,o,u,e,hb,hn,hc⟩:=h j ks[j] (List.getElem?_eq_getElem j.2);exact⟨u,b,o,e,hb,hn,hc⟩
 obtain⟨f,hf⟩:=Classical.axiomOfChoice hx;have hv:zM1 d w B (List.ofFn f) ks:=⟨by simp,fun j m hj=>by
  have hl:=(List.getElem?_eq_some_iff.1 hj).1;obtain⟨b,o,_,_,hn,_⟩:=hf ⟨j,hl⟩;have e:ks[j]=m:=(List.getElem?_eq_some_iff.1 hj).2;exact⟨f ⟨j,hl⟩,by rw[List.getElem?_eq_getElem (by simpa using hl),List.getElem_ofFn],by rw[<-e];exact hn⟩⟩
 refine⟨_,hv,fun hne=>?_⟩;have hlen:=hv.flat.1;have hpos:0<ks.length:=by
  have:0<(zGg (List.ofFn f)).length:=List.length_pos_iff.2 hne;omega
 obtain⟨b,o,e,hb,_,_⟩:=hf ⟨0,hpos⟩;refine⟨b,o,e,hb,fun q c hq=>?_⟩;have bO:q<ks.length*4:=by rw[<-hlen];exact(List.getElem?_eq_some_iff.1 hq).1
 have hj:q/4<ks.length:=Kb;obtain⟨b',o',e',_,hn,c0,c1,c2,c3,eu,h0,h1,h2,h3⟩:=hf ⟨q/4,hj⟩;rw[e]at e';injection e' with e';injection e' with e1 e2;subst e1 e2;have h4:∀x ∈ List.ofFn f,x.cells.size=4:=fun x hx=>by obtain⟨_,_,_,_,_,_,_,_,_,_,rfl⟩:=hv.form x hx;rfl
 have hu:(List.ofFn f)[q/4]? =some (f ⟨q/4,hj⟩):=by rw[List.getElem?_eq_getElem (by simpa using hj),List.getElem_ofFn]
 have hc:=fun i c hi=>zJ5 (List.ofFn f) (q/4) _ c0 c1 c2 c3 h4 hu eu i c hi;have hq':(zGg (List.ofFn f))[q/4*4+q % 4]? =some c:=by rw[show q/4*4+q % 4=q by omega];exact hq
 have ho:∀i,q % 4=i->o+q=o+q/4*4+i:=fun i hi=>by omega
 match hm:q % 4,Nat.mod_lt q (show 0<4 by omega)with
 |0,_=>rw[hm]at hq';have:=(hc 0 c0 rfl).symm.trans hq';injection this with this;subst this;rw[ho 0 hm];exact h0
 |1,_=>rw[hm]at hq';have:=(hc 1 c1 rfl).symm.trans hq';injection this with this;subst this;rw[ho 1 hm];exact h1
 |2,_=>rw[hm]at hq';have:=(hc 2 c2 rfl).symm.trans hq';injection this with this;subst this;rw[ho 2 hm];exact h2
 |3,_=>rw[hm]at hq';have:=(hc 3 c3 rfl).symm.trans hq';injection this with this;subst this;rw[ho 3 hm];exact h3
theorem kDy {w:World}{base d n c:Nat}{us:List Value}{ks:List NT}(hown:w.ownsRow base 26 4 (.slice A n c) n (zGg us))(hv:zM1 d w w.heap.size us ks):zKn d w w.heap.size A ks:=fun k m hm=>by
 obtain⟨u,hu,ht⟩:=hv.trees k m hm;obtain⟨lf,PA,np,pc,TA,nt,tc,KA,nk,kc,e⟩:=hv.form u (List.mem_of_getElem? hu);have h4:∀x ∈ us,x.cells.size=4:=fun x hx=>by obtain⟨_,_,_,_,_,_,_,_,_,_,rfl⟩:=hv.form x hx;rfl
 obtain⟨A',c',e',_,_,hfree⟩:=zC9 hown;injection e' with e1 _ _;subst e1;have hc:=fun i c hi=>hfree (k*4+i) c (zJ5 us k u _ _ _ _ h4 hu e i c hi);obtain⟨g,hg,_,hgl,_⟩:=hc 0 _ rfl;subst hg;have hc':∀i c,[Value.bool lf,.slice PA np pc,.slice TA nt tc,.slice KA nk kc][i]? =some c->w.cell? ⟨g,0+k*4+i,none⟩=some c:=fun i c hi=>by
  obtain⟨g',e',_,_,h5,_⟩:=hc i c hi;injection e' with e';injection e' with e';subst e';rw[Nat.zero_add];exact h5
 exact⟨g,0,u,rfl,hgl,ht,_,_,_,_,e,hc' 0 _ rfl,hc' 1 _ rfl,hc' 2 _ rfl,hc' 3 _ rfl⟩
theorem zIq {ts te:TypeId}{size by_:Nat}(E:zQ7 ts te size by_)(W:World){ops:Array Oper}{o:Oper}{a:Act}{K:Act->World->Prop}{Q:Exit->Act->World->Prop}{F:Prop}(hgd:o.guard=none)(s x:Operand)
  (ho:o.op=.call {callee:=.builtin .append,args:=#[s,x],argTypes:=#[ts,ts]})
  (b:Nat) (v:Value) (n:Nat) (k:List Value) (hs:a.eval s=v) (hO:W.ownsRow b te size v n k) (A:Option Addr) (m c B:Nat) (l:List Value) (hx:a.eval x=.slice A m c) (hn:l.length=m*size) (hp:VL W B A l) (h1:∀u ∈ l,u.oneCell'=true)
  (h63:n+m<=maxLen) (hby:(n+m)*by_<=140737488355328) (hb:b<=W.heap.size)
  (hK:∀A' c' w',w'.ownsRow b te size (.slice A' (n+m) c') (n+m) (k++l)->W.grownBy w' v.ownBlock->((Value.slice A' (n+m) c').ownBlock=v.ownBlock∨∃g,(Value.slice A' (n+m) c').ownBlock=some g/\W.heap.size<=g)->K (a.put o.dst (.slice A' (n+m) c')) w'):
  if Region.wanted o (yielded ops a.tmps)=true then Oper.wp Tryz.prog o a W K Q else F:=by
 have hw:Region.wanted o (yielded ops a.tmps)=true:=by simp[Region.wanted,hgd]
 rw[if_pos hw];obtain⟨i0,z,hi,hz0,hz1,hz2,hz3⟩:=E.info;have hsz:=E.pos;rcases Nat.eq_zero_or_pos m with hm|hm
 ·subst hm;have hl:l=[]:=List.eq_nil_of_length_eq_zero (by simpa using hn);subst hl;obtain⟨A0,c0,rfl,_⟩:=zC9 hO;have hrun:=zEp (w:=W) (ty:=o.type) (A:=A) (c:=c) E.under hi hO;unfold Oper.wp execOp;simp only[ho,resolve,invoke,builtin,Sem.run_bind,Sem.run_pure,Result.andThen_ok,List.map_toArray,List.map_cons,List.map_nil,hs,hx,hrun];exact hK A0 c0 W (by simpa using hO) ⟨rfl,rfl,rfl,Nat.le_refl _,fun _ _ _=>rfl⟩ (.inl (by cases A0<;>rfl))
 ·have hl:0<l.length:=by have:=Nat.mul_pos hm hsz;omega
  obtain⟨b',o',rfl,_,hc⟩:=hp (List.length_pos_iff.1 hl);refine wp_append_lies W s x ts ho b te i0 z size by_ E.under hi hz0 hz1 hz2 hz3 hsz v n k hs hO ⟨b',o',none⟩ m c l hx hn (fun j u hj=>by rw[add_plain];exact hc j u hj) h1 hm h63 hby hb W.heap.size rfl (fun g cap w' h1 h2 h3 _=>hK _ cap w' h1 h2 ?_);rcases h3 with e|e
  ·exact .inl (by rw[e];rfl)
  ·exact .inr ⟨g,rfl,by omega⟩
theorem kAj {ks:List NT}{k:Nat}(h:ks[k]? =some m):sizeT m<=sizeK ks:=by
 have e:sizeK ks=sizeK (ks.take k)+sizeK (ks.drop k):=by rw[<-kZ,List.take_append_drop]
 rw[zCo h]at e;simp only[sizeK]at e;omega
theorem zBt.set {w:World}{B g k:Nat}{u x:Value}{l:List Int}{cs:Array Value}{t:TypeId}{fr:Nat×Nat}(h:zBt w B u l)(hg:w.heap[g]? =some (.cells cs t fr))(ht:t≠3):zBt (w.setCell ⟨g,k,none⟩ x) B u l:=by
 refine zBt.of_own (ownsRow_setCell_other h.own (a:=⟨g,k,none⟩) (fun e=>?_) _) rfl;rcases h.own.2 with⟨e1,_⟩|⟨g',cap,cur,e1,_,hg',_⟩
 ·rw[e1]at e;cases e
 ·rw[e1]at e;injection e with e;have e:g'=g:=e;subst e;rw[hg]at hg';injection hg' with hg';injection hg' with _ h2;exact ht h2
section
variable {B gq go gh gw:Nat}{fid:FuncId}{w wx w2:World}{vo vh:Value}{L:List (List Int)}{h:List Int}
end
section
variable {P:Program}{ops:Array Oper}{Q:Exit->Act->World->Prop}{S:World->Prop}{z:Nat}
end
def kQ5 (w:World)(p:List Int×Int)(w':World)(v:Value):Prop:=∃A c,v=.agg #[.slice A p.1.length c,.int .i64 p.2]/\zBt w' w.heap.size (.slice A p.1.length c) p.1
def kV0 (w:World)(p:List Int×Int)(e:Ending)(w':World):Prop:=∃v,e=.returned v/\kQ5 w p w' v/\Below w.heap.size w w'
section
variable {w w':World}{g:Nat}{a b x y:Value}{t:TypeId}
theorem kM8 (h:w.heap[g]? =some (.cells #[a,b] t (0,0))):w.cell? ⟨g,0,none⟩=some a/\w.cell? ⟨g,1,none⟩=some b/\w.frozen? ⟨g,0,none⟩=false/\w.frozen? ⟨g,1,none⟩=false:=by
 refine⟨?_,?_,?_,?_⟩<;>simp[World.cell?,World.frozen?,h]
theorem kAk (w:World)(g:Nat)(t:TypeId)(cs:Array Value)(k:Nat)(x:Value)(h:w.heap[g]? =some (.cells cs t (0,0))):(w.setCell ⟨g,k,none⟩ x).heap[g]? =some (.cells (cs.setIfInBounds k x) t (0,0)):=by
 have hlt:=lt_of_block h;have h':w.heap[g]=.cells cs t (0,0):=by simpa[Array.getElem?_eq_getElem hlt]using h
 show(w.heap.modify g _)[g]? =_
 rw[Array.getElem?_eq_getElem (by simpa using hlt),Array.getElem_modify_self,h'];rfl
theorem kUo (h:w.heap[g]? =some (.cells #[a,b] t (0,0)))(x:Value):(w.setCell ⟨g,0,none⟩ x).heap[g]? =some (.cells #[x,b] t (0,0)):=kAk w g t _ 0 x h
theorem kOt (h:w.heap[g]? =some (.cells #[a,b] t (0,0)))(x y:Value):((w.setCell ⟨g,0,none⟩ x).setCell ⟨g,1,none⟩ y).heap[g]? =some (.cells #[x,y] t (0,0)):=kAk _ g t _ 1 y (kAk w g t _ 0 x h)
theorem kNp {cs:Array Value}{g' k:Nat}(h:w.heap[g]? =some (.cells cs t (0,0)))(hne:g≠g')(x:Value):(w.setCell ⟨g',k,none⟩ x).heap[g]? =some (.cells cs t (0,0)):=(Below.heap_setCell _ _ _ _ hne).trans h
end
theorem zK2 (w:World)(o o':Obj):((w.alloc o).alloc o').heap[w.heap.size]? =some o/\((w.alloc o).alloc o').heap[w.heap.size+1]? =some o':=by
 refine⟨?_,?_⟩
 ·rw[Below.heap_alloc _ _ _ Kc];exact heap_alloc_new _ _
 ·rw[<-sz1 (w:=w) (A:=o)];exact heap_alloc_new _ _
theorem kAl :madeCells #[Value.int .i64 0] 0=#[]:=by simp[madeCells,Array.range]
theorem kAm (A:Option Addr)(l:List Int)(n c:Nat)(w:World)(hn:l.length=n)(hl:n<=1000)(hp:IL w w.heap.size A l):
  Calls Tryz.prog 77 #[.slice A n c] w (zVq w l):=by
 have HP:=hd hp;have HN:=hd hn;clear hp hn;rcases A with _|a
 ·have hnil:=fun W=>Go.Lib.run_eql_slice_nil (P:=Tryz.prog) W 27 3 none n c 0 0 Tryz.underlying27;have HL:=hd (show l=[] by
   rcases Classical.em (l=[])with h|h
   ·exact h
   ·obtain⟨_,_,h,_⟩:=HP.o h;cases h)
  go_enter Tryz.func77,Tryz.ntmps77
  go_wp2
  go_ret
  exact⟨_,rfl,by rw[HL.o];exact zBt.nil _ _,Below.refl _ _⟩
 ·have hnil:=fun W=>Go.Lib.run_eql_slice_nil (P:=Tryz.prog) W 27 3 (some a) n c 0 0 Tryz.underlying27;go_enter Tryz.func77,Tryz.ntmps77
  have HO:=hd (show zBt (w.alloc (.cells #[] 3)) w.heap.size (.slice (some ⟨w.heap.size,0,none⟩) 0 0) []from kAl▸zBt.made w w.heap.size 0 Kb Kl);go_wp2_with(at_builtin;(refine zCf _ rfl (.tmp 5) (.tmp 6) rfl w.heap.size (.slice (some ⟨w.heap.size,0,none⟩) 0 0) [] l rfl HO.o (some a) n c w.heap.size rfl HN.o (HP.o.below (Kk.alloc Kl _)) (by have:=HN.o;simp;omega) Kc ?_;intro v' w1 aB hg1))
  go_ret
  exact⟨v',rfl,by simpa using aB,hg1.below _ _ Kl Kc (Kk.alloc Kl _)⟩
theorem zBt.pt {w:World}{B g:Nat}{u a b x y:Value}{l:List Int}(h:zBt w B u l)(hg:w.heap[g]? =some (.cells #[a,b] 29 (0,0))):zBt (w.setCell ⟨g,0,none⟩ x) B u l/\zBt ((w.setCell ⟨g,0,none⟩ x).setCell ⟨g,1,none⟩ y) B u l:=
 ⟨h.set hg Kd,(h.set hg Kd).set (kUo hg x) Kd⟩
theorem kRu (A:Option Addr)(p:List Int×Int)(n c:Nat)(w:World)(hn:p.1.length=n)(hl:n<=1000)(hp:IL w w.heap.size A p.1):
  Calls Tryz.prog 141 #[.agg #[.slice A n c,.int .i64 p.2]] w (kV0 w p):=by
 obtain⟨W0,hW⟩:∃W0,W0=(w.alloc (.cells #[.slice A n c,.int .i64 p.2] 29)).alloc (.cells #[.slice none 0 0,.int .i64 0] 29):=⟨_,rfl⟩;have hb0:Below w.heap.size w W0:=hW▸kM Kk Kl;have e0:=zK2 w (Obj.cells #[Value.slice A n c,Value.int .i64 p.2] 29) (Obj.cells #[Value.slice none 0 0,Value.int .i64 0] 29);rw[<-hW]at e0;have HC:=hd (kAm A p.1 n c W0 hn hl (hp.later hb0));have HW:=hd hW;have ar:=hd hb0;have HX:=hd e0.1;have HY:=hd e0.2;obtain⟨x0,x1,f0,f1⟩:=kM8 HX.o;obtain⟨y0,y1,g0,g1⟩:=kM8 HY.o;clear hp hn hW hb0 e0;go_enter Tryz.func141,Tryz.ntmps141
 go_wp2_with(go_at_call 77;rw[<-HW.o];refine HC.o.mono ?_;rintro e w1 ⟨v1,rfl,ho,hb⟩;have fI:=hd (kI HX.o hb);have nB:=hd (kI HY.o hb);clear x0 x1 f0 f1 y0 y1 g0 g1;obtain⟨x0,x1,f0,f1⟩:=kM8 fI.o;obtain⟨y0,y1,g0,g1⟩:=kM8 nB.o;obtain⟨A1,c1,rfl,h1,h2,h3⟩:=ho.open_;have aA:=hd hb;have HO:=hd ho;clear hb h2 h3 ho)
 obtain⟨V,hV⟩:∃V,V=Value.slice A1 p.1.length c1:=⟨_,rfl⟩;have zj:=kUo fI.o V;have uJ:=kNp (g':=w.heap.size) (k:=0) nB.o Kb V;have xN:=kOt uJ V (.int .i64 p.2);obtain⟨z0,z1,_,_⟩:=kM8 xN;have ho:=((HO.o.set (k:=0) (x:=V) fI.o Kd).pt (x:=V) (y:=.int .i64 p.2) uJ).2;rw[hV]at z0 z1 ho;clear x0 x1 f0 f1 y0 y1 g0 g1;refine bodyPost_ret (v:=.agg #[.slice A1 p.1.length c1,.int .i64 p.2]) (by simp[results,Tryz.results141,go_sem,z0,z1]) rfl ⟨_,rfl,⟨A1,c1,rfl,ho.weaken ar.o.size⟩,?_⟩;exact(((ar.o.trans (aA.o.mono ar.o.size)).setCell Kl _).setCell (by show _<=w.heap.size+1;omega) _).setCell (by show _<=w.heap.size+1;omega) _
def kV1 (w:World)(p q:List Int×Int)(t:Bool)(e:Ending)(w':World):Prop:=∃u v,e=.returned (.tuple #[u,v,.bool t])/\kQ5 w p w' u/\kQ5 w q w' v/\Below w.heap.size w w'
theorem kTf (w:World)(o o' o2:Obj):(((w.alloc o).alloc o').alloc o2).heap[w.heap.size]? =some o/\(((w.alloc o).alloc o').alloc o2).heap[w.heap.size+1]? =some o'/\(((w.alloc o).alloc o').alloc o2).heap[w.heap.size+1+1]? =some o2:=by
 have h:=zK2 w o o';refine⟨?_,?_,?_⟩
 ·rw[Below.heap_alloc _ _ _ Kf];exact h.1
 ·rw[Below.heap_alloc _ _ _ Kc];exact h.2
 ·rw[show w.heap.size+1+1=((w.alloc o).alloc o').heap.size by simp];exact heap_alloc_new _ _
theorem kQ5.kept {w W0 w1 w2 W:World}{l:List Int}{n c g g':Nat}{a b a' b':Value}(h:zBt w1 W0.heap.size (.slice A n c) l)(hb:Below w1.heap.size w1 w2)(hg:w2.heap[g]? =some (.cells #[a,b] 29 (0,0)))(hg':w2.heap[g']? =some (.cells #[a',b'] 29 (0,0)))(hne:g'≠g)(x y x' y':Value)
  (hW:W=(((w2.setCell ⟨g,0,none⟩ x).setCell ⟨g,1,none⟩ y).setCell ⟨g',0,none⟩ x').setCell ⟨g',1,none⟩ y') (hs:w.heap.size<=W0.heap.size):zBt W w.heap.size (.slice A n c) l:=by
 subst hW;have h1:=((h.below hb).pt (x:=x) (y:=y) hg).2;have hg2:=kNp (k:=1) (kNp (k:=0) hg' hne x) hne y;exact((h1.pt (x:=x') (y:=y') hg2).2).weaken hs
theorem kSf {w W:World}(h:Below w.heap.size w W)(a b c d:Value):Below w.heap.size w ((((W.setCell ⟨w.heap.size+1,0,none⟩ a).setCell ⟨w.heap.size+1,1,none⟩ b).setCell ⟨w.heap.size+1+1,0,none⟩ c).setCell ⟨w.heap.size+1+1,1,none⟩ d):=
 (((h.setCell (by show _<=w.heap.size+1;omega) a).setCell (by show _<=w.heap.size+1;omega) b).setCell (by show _<=w.heap.size+1+1;omega) c).setCell (by show _<=w.heap.size+1+1;omega) d
theorem kTg (A B:Option Addr)(p q:List Int×Int)(n m c d:Nat)(t:Bool)(w:World)(ht:decide (kFb q p<0)=t)(hn:p.1.length=n)(hm:q.1.length=m)(hl:n<=1000)(hl2:m<=1000)(hp:IL w w.heap.size A p.1)(hq:IL w w.heap.size B q.1):
  Calls Tryz.prog 118 #[.agg #[.slice A n c,.int .i64 p.2,.slice B m d,.int .i64 q.2]] w (kV1 w (if t then q else p) (if t then p else q) t):=by
 subst hn hm;have fL:=hd (fun(W:World)(h:Below w.heap.size w W)=>zKy B A q p q.1.length p.1.length d c W rfl rfl Kb Kb (hq.later h) (hp.later h));have pY:=hd (fun(W:World)(h:Below w.heap.size w W)=>kRu A p p.1.length c W rfl hl (hp.later h));have pZ:=hd (fun(W:World)(h:Below w.heap.size w W)=>kRu B q q.1.length d W rfl hl2 (hq.later h));obtain⟨x,hx⟩:∃x,x=kFb q p:=⟨_,rfl⟩;rw[<-hx]at fL ht;clear hx;obtain⟨W0,hW⟩:∃W0,W0=((w.alloc (.cells #[.slice A p.1.length c,.int .i64 p.2,.slice B q.1.length d,.int .i64 q.2] 31)).alloc (.cells #[.slice none 0 0,.int .i64 0] 29)).alloc (.cells #[.slice none 0 0,.int .i64 0] 29):=⟨_,rfl⟩;have hb0:Below w.heap.size w W0:=hW▸(kM Kk Kl).alloc Kf _;have e0:=kTf w (Obj.cells #[Value.slice A p.1.length c,.int .i64 p.2,Value.slice B q.1.length d,.int .i64 q.2] 31) (Obj.cells #[Value.slice none 0 0,Value.int .i64 0] 29) (Obj.cells #[Value.slice none 0 0,Value.int .i64 0] 29);rw[<-hW]at e0;have HW:=hd hW;have ar:=hd hb0;have rZ:=hd e0.1;have uK:=hd e0.2.1;have uL:=hd e0.2.2;obtain⟨x0,x1,x2,x3,_,_,_,_⟩:=zJ rZ.o;clear hp hq hW hb0 e0;have bI:=hd (fun(W:World)(h:W.heap[w.heap.size]? =some (Obj.cells #[Value.slice A p.1.length c,.int .i64 p.2,Value.slice B q.1.length d,.int .i64 q.2] 31 (0,0)))=>(show W.cell? ⟨w.heap.size,0,none⟩=some (.slice A p.1.length c)/\W.cell? ⟨w.heap.size,1,none⟩=some (.int .i64 p.2)/\W.cell? ⟨w.heap.size,2,none⟩=some (.slice B q.1.length d)/\W.cell? ⟨w.heap.size,3,none⟩=some (.int .i64 q.2)from⟨(zJ h).1,(zJ h).2.1,(zJ h).2.2.1,(zJ h).2.2.2.1⟩));have jc:w.heap.size≠w.heap.size+1:=Kb;have jd:w.heap.size≠w.heap.size+1+1:=Kb;have bZ:w.heap.size+1≠w.heap.size+1+1:=Kb;have aH:=hd (fun(W:World)(h:Below w.heap.size w W)(a b c d:Value)=>kSf h a b c d);cases t
 ·have bR:=pY;have fF:=pZ;clear pY pZ;go_enter Tryz.func118,Tryz.ntmps118
  go_wp2_with(go_at_call 92;rw[<-HW.o];refine(fL.o _ ar.o).mono ?_;rintro e w1 ⟨rfl,b1⟩;have fI:=hd (kI rZ.o b1);have nB:=hd (kI uK.o b1);have se:=hd (kI uL.o b1);have aA:=hd (ar.o.trans (b1.mono ar.o.size));clear b1 x0 x1 x2 x3;obtain⟨x0,x1,x2,x3,_,_,_,_⟩:=zJ fI.o)
  have gG:=hd (bI.o w1.drew fI.o);go_region_held3(fun W=>W.cell? ⟨w.heap.size,0,none⟩=some (.slice A p.1.length c)/\W.cell? ⟨w.heap.size,1,none⟩=some (.int .i64 p.2)/\W.cell? ⟨w.heap.size,2,none⟩=some (.slice B q.1.length d)/\W.cell? ⟨w.heap.size,3,none⟩=some (.int .i64 q.2))
   (first
    |(with_reducible exact cI.o)
    |(with_reducible exact oO.o)
    |(with_reducible exact l7.o)
    |(with_reducible exact l8.o)
    |(with_reducible exact gG.o))
   (first
    |(go_at_call 141;refine(fF.o _ aX.o).mono ?_;rintro e w3 ⟨v2,rfl,⟨A2,c2,rfl,ay⟩,hb2⟩;have oP:=hd (kI kf.o hb2);have je:=hd (kI ni.o hb2);have jf:=hd (kI sj.o hb2);have l7:=hd (bI.o w3 oP.o);have iN:=hd ay;have eD:=hd hb2;have lR:=kNp (k:=1) (kNp (k:=0) oP.o jc (.slice A1 p.1.length c1)) jc (.int .i64 p.2);have oO:=hd (bI.o _ lR);have cI:=hd (bI.o _ (kNp (k:=1) (kNp (k:=0) lR jd (.slice A2 q.1.length c2)) jd (.int .i64 q.2)));clear ay hb2 lR x0 x1 x2 x3;obtain⟨y0,y1,k0,k1⟩:=kM8 je.o;obtain⟨z0,z1,f0,f1⟩:=kM8 jf.o)
    |(go_at_call 141;refine(bR.o _ (aA.o.trans (Kk.drew.mono aA.o.size))).mono ?_;rintro e w2 ⟨v1,rfl,⟨A1,c1,rfl,aB⟩,hb1⟩;have kf:=hd (kI (show w1.drew.heap[_]? =_ from fI.o) hb1);have ni:=hd (kI (show w1.drew.heap[_]? =_ from nB.o) hb1);have sj:=hd (kI (show w1.drew.heap[_]? =_ from se.o) hb1);have aX:=hd ((aA.o.trans (Kk.drew.mono aA.o.size)).trans (hb1.mono aA.o.size));have l8:=hd (bI.o w2 kf.o);have iM:=hd aB;clear aB hb1))
  clear y0 y1 k0 k1 z0 z1 f0 f1 l8 l7 oO cI gG;go_wp2
  have sk:=kOt je.o (.slice A1 p.1.length c1) (.int .i64 p.2);have su:=kNp (k:=1) (kNp (k:=0) sk bZ (.slice A2 q.1.length c2)) bZ (.int .i64 q.2);have sw:=kNp (k:=1) (kNp (k:=0) jf.o (Ne.symm bZ) (.slice A1 p.1.length c1)) (Ne.symm bZ) (.int .i64 p.2);have sy:=kOt sw (.slice A2 q.1.length c2) (.int .i64 q.2);obtain⟨y0,y1,_,_⟩:=kM8 su;obtain⟨z0,z1,_,_⟩:=kM8 sy;have aB:=kQ5.kept (W:=_) iM.o eD.o je.o jf.o (Ne.symm bZ) (.slice A1 p.1.length c1) (.int .i64 p.2) (.slice A2 q.1.length c2) (.int .i64 q.2) rfl aA.o.size;have ay:=kQ5.kept (W:=_) iN.o Kk je.o jf.o (Ne.symm bZ) (.slice A1 p.1.length c1) (.int .i64 p.2) (.slice A2 q.1.length c2) (.int .i64 q.2) rfl aX.o.size;refine bodyPost_ret (v:=.tuple #[.agg #[.slice A1 p.1.length c1,.int .i64 p.2],.agg #[.slice A2 q.1.length c2,.int .i64 q.2],.bool false]) (by simp[results,Tryz.results118,go_sem,y0,y1,z0,z1]) rfl ⟨_,_,rfl,⟨A1,c1,rfl,aB⟩,⟨A2,c2,rfl,ay⟩,aH.o _ (aX.o.trans (eD.o.mono aX.o.size)) _ _ _ _⟩
 ·have bR:=pZ;have fF:=pY;clear pY pZ;go_enter Tryz.func118,Tryz.ntmps118
  go_wp2_with(go_at_call 92;rw[<-HW.o];refine(fL.o _ ar.o).mono ?_;rintro e w1 ⟨rfl,b1⟩;have fI:=hd (kI rZ.o b1);have nB:=hd (kI uK.o b1);have se:=hd (kI uL.o b1);have aA:=hd (ar.o.trans (b1.mono ar.o.size));clear b1 x0 x1 x2 x3;obtain⟨x0,x1,x2,x3,_,_,_,_⟩:=zJ fI.o)
  have gG:=hd (bI.o w1.drew fI.o);go_region_held3(fun W=>W.cell? ⟨w.heap.size,0,none⟩=some (.slice A p.1.length c)/\W.cell? ⟨w.heap.size,1,none⟩=some (.int .i64 p.2)/\W.cell? ⟨w.heap.size,2,none⟩=some (.slice B q.1.length d)/\W.cell? ⟨w.heap.size,3,none⟩=some (.int .i64 q.2))
   (first
    |(with_reducible exact cI.o)
    |(with_reducible exact oO.o)
    |(with_reducible exact l7.o)
    |(with_reducible exact l8.o)
    |(with_reducible exact gG.o))
   (first
    |(go_at_call 141;refine(fF.o _ aX.o).mono ?_;rintro e w3 ⟨v2,rfl,⟨A2,c2,rfl,ay⟩,hb2⟩;have oP:=hd (kI kf.o hb2);have je:=hd (kI ni.o hb2);have jf:=hd (kI sj.o hb2);have l7:=hd (bI.o w3 oP.o);have iN:=hd ay;have eD:=hd hb2;have lR:=kNp (k:=1) (kNp (k:=0) oP.o jc (.slice A1 q.1.length c1)) jc (.int .i64 q.2);have oO:=hd (bI.o _ lR);have cI:=hd (bI.o _ (kNp (k:=1) (kNp (k:=0) lR jd (.slice A2 p.1.length c2)) jd (.int .i64 p.2)));clear ay hb2 lR x0 x1 x2 x3;obtain⟨y0,y1,k0,k1⟩:=kM8 je.o;obtain⟨z0,z1,f0,f1⟩:=kM8 jf.o)
    |(go_at_call 141;refine(bR.o _ (aA.o.trans (Kk.drew.mono aA.o.size))).mono ?_;rintro e w2 ⟨v1,rfl,⟨A1,c1,rfl,aB⟩,hb1⟩;have kf:=hd (kI (show w1.drew.heap[_]? =_ from fI.o) hb1);have ni:=hd (kI (show w1.drew.heap[_]? =_ from nB.o) hb1);have sj:=hd (kI (show w1.drew.heap[_]? =_ from se.o) hb1);have aX:=hd ((aA.o.trans (Kk.drew.mono aA.o.size)).trans (hb1.mono aA.o.size));have l8:=hd (bI.o w2 kf.o);have iM:=hd aB;clear aB hb1))
  clear y0 y1 k0 k1 z0 z1 f0 f1 l8 l7 oO cI gG;go_wp2
  have sk:=kOt je.o (.slice A1 q.1.length c1) (.int .i64 q.2);have su:=kNp (k:=1) (kNp (k:=0) sk bZ (.slice A2 p.1.length c2)) bZ (.int .i64 p.2);have sw:=kNp (k:=1) (kNp (k:=0) jf.o (Ne.symm bZ) (.slice A1 q.1.length c1)) (Ne.symm bZ) (.int .i64 q.2);have sy:=kOt sw (.slice A2 p.1.length c2) (.int .i64 p.2);obtain⟨y0,y1,_,_⟩:=kM8 su;obtain⟨z0,z1,_,_⟩:=kM8 sy;have aB:=kQ5.kept (W:=_) iM.o eD.o je.o jf.o (Ne.symm bZ) (.slice A1 q.1.length c1) (.int .i64 q.2) (.slice A2 p.1.length c2) (.int .i64 p.2) rfl aA.o.size;have ay:=kQ5.kept (W:=_) iN.o Kk je.o jf.o (Ne.symm bZ) (.slice A1 q.1.length c1) (.int .i64 q.2) (.slice A2 p.1.length c2) (.int .i64 p.2) rfl aX.o.size;refine bodyPost_ret (v:=.tuple #[.agg #[.slice A1 q.1.length c1,.int .i64 q.2],.agg #[.slice A2 p.1.length c2,.int .i64 p.2],.bool true]) (by simp[results,Tryz.results118,go_sem,y0,y1,z0,z1]) rfl ⟨_,_,rfl,⟨A1,c1,rfl,aB⟩,⟨A2,c2,rfl,ay⟩,aH.o _ (aX.o.trans (eD.o.mono aX.o.size)) _ _ _ _⟩
def kNg (n:NT)(q:List Int):Int:=match kB n q with
 |none=>0
 |some m=>m.tx.length
def zK6 (n:NT)(p:List Int×Int):Int:=match kB n p.1 with
 |none=>5
 |some m=>if m.lf=false then 7 else if p.2<0∨(m.tx.length:Int)<p.2 then 8 else 0
theorem zGh :∀(p:List Int)(n m:NT),kB n p=some m->p.length+sizeT m<=sizeT n
 |[],n,m,h=>by rw[kB]at h;injection h with h;rw[h];simp
 |a::r,n,m,h=>by
  rw[zR]at h;cases hk:zBh n a with
  |none=>rw[hk]at h;cases h
  |some k=>
   rw[hk]at h;have h1:=zGh r k m h;have h2:=kAj (zA1 hk).2.2;have h3:sizeK n.ks<sizeT n:=by cases n;rw[sizeT];simp only[NT.ks];omega
   simp only[List.length_cons];omega
def eO :Option (List Int)->Int
 |none=>14
 |some _=>0
def zI4 (w:World)(v:Value)(p:List Int×Int):Prop:=∃A n c,v=.agg #[.slice A n c,.int .i64 p.2]/\p.1.length=n/\n<=10000000/\n<=c/\IL w w.heap.size A p.1
theorem zI4.later {w w':World}{v:Value}{p:List Int×Int}(h:zI4 w v p)(hb:Below w.heap.size w w'):zI4 w' v p:=by
 obtain⟨A,n,c,e,h1,h2,h3,h4⟩:=h;exact⟨A,n,c,e,h1,h2,h3,h4.later hb⟩
theorem kMz {w W:World}{u v:Value}{p q:List Int×Int}(hb:Below w.heap.size w W)(hp:zI4 w u p)(hq:zI4 w v q):Calls Tryz.prog 92 #[u,v] W (jA (.int .i64 (kFb p q)) W):=by
 obtain⟨A,n,c,rfl,h1,h2,_,h3⟩:=hp.later hb;obtain⟨B,m,d,rfl,g1,g2,_,g3⟩:=hq.later hb;exact zKy A B p q n m c d W h1 g1 Kb Kb h3 g3
theorem zYt {w W:World}{u v:Value}{p q:List Int×Int}(hb:Below w.heap.size w W)(hp:zI4 w u p)(hq:zI4 w v q):Calls Tryz.prog 63 #[u,v] W (jA (.bool (samP p q)) W):=by
 obtain⟨A,n,c,rfl,h1,h2,_,h3⟩:=hp.later hb;obtain⟨B,m,d,rfl,g1,g2,_,g3⟩:=hq.later hb;exact zQj A B p q n m c d W h1 g1 Kb Kb h3 g3
theorem zUk {w W:World}{u v:Value}{p q:List Int×Int}(hb:Below w.heap.size w W)(hp:zI4 w u p)(hq:zI4 w v q):Calls Tryz.prog 38 #[u,v] W (jA (.bool (samP p q)) W):=by
 obtain⟨A,n,c,rfl,h1,h2,_,h3⟩:=hp.later hb;obtain⟨B,m,d,rfl,g1,g2,_,g3⟩:=hq.later hb;exact zVw A B p q n m c d W h1 g1 Kb Kb h3 g3
theorem kP2 {P:Prop}(h:P:=by
 go_wp2_with(first
  |(go_at_call 15;rw[<-HW.o];refine HC.o.mono ?_;intro e w1 h1;obtain⟨v1,d1,rfl,ht1,hb1⟩:=h1;obtain⟨d',lf1,zk,zl,zm,cY,cZ,dh,di,dt,kc1,_,eI,rfl,_,_,uM,_⟩:=(ht1.at_ (B:=w1.heap.size) (fun b hb=>hb.2)).open_;have sA:=gI.o.symm.trans eI;clear eI;injection sA with e1 e2 e3 e4;subst e1 e2 e3 e4;have hf2:=uM.2.2.1;have aA:=hd hb1;clear ht1 hb1 uM x0 x1 x2 x3 y0 y1;obtain⟨x0,x1,x2,x3,y0,y1⟩:=HK.o _ aA.o;have hl0:=kQ x0;have aY:=kQ y1)
  |fail)
 go_ret
 exact⟨zAj HF.o.symm,ar.o.trans ((aA.o.alloc aA.o.size _).mono ar.o.size)⟩):P:=h
theorem zSt (d:Nat)(w:World)(v:Value)(n:NT)(A:Option Addr)(p:List Int×Int)(lp c:Nat)(aO:p.1.length=lp)(hl:lp<=10000000)(hn:zV d w w.heap.size v n)(hp:IL w w.heap.size A p.1):
  Calls Tryz.prog 57 #[v,.agg #[.slice A lp c,.int .i64 p.2]] w (jA (.int .i64 (zK6 n p)) w):=by
 obtain⟨lf,PA,np,pc,TA,nt,tc,KA,nk,kc,rfl⟩:=hn.val;obtain⟨W0,hW⟩:∃W0,W0=(w.alloc (.cells #[.bool lf,.slice PA np pc,.slice TA nt tc,.slice KA nk kc] 26)).alloc (.cells #[.slice A lp c,.int .i64 p.2] 29):=⟨_,rfl⟩;have hb0:Below w.heap.size w W0:=hW▸kM Kk Kl;have e0:=zK2 w (Obj.cells #[Value.bool lf,.slice PA np pc,.slice TA nt tc,.slice KA nk kc] 26) (Obj.cells #[Value.slice A lp c,Value.int .i64 p.2] 29);rw[<-hW]at e0;have HK:=hd (show∀W,Below W0.heap.size W0 W->(W.cell? ⟨w.heap.size,0,none⟩=some (.bool lf)/\W.cell? ⟨w.heap.size,1,none⟩=some (.slice PA np pc)/\W.cell? ⟨w.heap.size,2,none⟩=some (.slice TA nt tc)/\W.cell? ⟨w.heap.size,3,none⟩=some (.slice KA nk kc)/\W.cell? ⟨w.heap.size+1,0,none⟩=some (.slice A lp c)/\W.cell? ⟨w.heap.size+1,1,none⟩=some (.int .i64 p.2))from fun W h=>by
  have h1:=zJ (kI e0.1 h);have h2:=kM8 (kI e0.2 h);exact⟨h1.1,h1.2.1,h1.2.2.1,h1.2.2.2.1,h2.1,h2.2.1⟩)
 obtain⟨x0,x1,x2,x3,y0,y1⟩:=HK.o _ Kk;have HW:=hd hW;have ar:=hd hb0;have hC:=zU9 d W0 _ n A p.1 lp c aO hl (hn.later hb0) (hp.later hb0);clear hn hp hW hb0 e0 aO hl;obtain⟨o,ho⟩:∃o,o=p.2:=⟨_,rfl⟩;cases hg:kB n p.1 with
 |none=>
  rw[zB2 hg]at hC;have HC:=hd hC;have HF:=hd (show zK6 n p=5 by unfold zK6;rw[hg]);have gI:=hd (show((zeroT,5):NT×Int).1=.mk false [] [] []from rfl);clear hg hC ho o;go_enter Tryz.func57,Tryz.ntmps57
  exact kP2
 | some m=>
  rw[kP hg]at hC;have HC:=hd hC;cases m with
  | mk ml mp mx mk=>
   have hF:zK6 n p=if ml=false then 7 else if p.2<0∨(mx.length:Int)<p.2 then 8 else 0:=by unfold zK6;rw[hg];rfl
   have gI:=hd (show((NT.mk ml mp mx mk,0):NT×Int).1=.mk ml mp mx mk from rfl);clear hg hC;cases ml with
   |false=>
    have HF:=hd (hF.trans (if_pos rfl));clear hF ho o;go_enter Tryz.func57,Tryz.ntmps57
    exact kP2
   | true=>
    rw[if_neg Kc]at hF;rw[<-ho]at hF y1 HK HW⊢;by_cases h1:o<0
    ·have HF:=hd (hF.trans (if_pos (.inl h1)));clear hF ho;go_enter Tryz.func57,Tryz.ntmps57
     exact kP2
    ·by_cases h2:(mx.length:Int)<o
     ·have HF:=hd (hF.trans (if_pos (.inr h2)));clear hF ho;go_enter Tryz.func57,Tryz.ntmps57
      exact kP2
     ·have HF:=hd (hF.trans (if_neg Kb));clear hF ho;go_enter Tryz.func57,Tryz.ntmps57
      exact kP2
