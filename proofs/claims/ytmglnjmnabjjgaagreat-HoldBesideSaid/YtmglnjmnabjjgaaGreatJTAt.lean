import Derived.Test.YtmglnjmnabjjgaaGreatJTPut
set_option maxRecDepth 4000
set_option maxHeartbeats 8000000
namespace Go.Proofs.YtmglnjmnabjjgaaGreat
open Go.RowKit
variable {m n:NT}{A:Option Addr}{p:List Int}{er:Int}{ops:Array Oper}{F P:Prop}{q:List Int×Int}
def At (w:World)(v:Value)(n:NT):Prop:=∃d,zV d w w.heap.size v n
theorem kKt {w:World}{v:Value}{c:Nat}(hl:p.length<=1000)(hn:At w v n)(hp:IL w w.heap.size A p):Calls Tryz.prog 15 #[v,.slice A p.length c] w (zP2 (zGm n p) w):=by
 obtain⟨d,hn⟩:=hn;exact zU9 d w v n A p p.length c rfl Kb hn hp
theorem kKu {w:World}{v u:Value}{c:Nat}(hl:p.length<=1000)(hc:p.length<=c)(hn:At w v n)(hm:At w u m)(hp:IL w w.heap.size A p):Calls Tryz.prog 104 #[v,.slice A p.length c,u] w (zP2 (zSe n p m) w):=by
 obtain⟨d,hn⟩:=hn;obtain⟨dm,hm⟩:=hm;exact kDz d dm w v u n m A p p.length c rfl Kb hc hn hm hp
theorem kKv {w:World}{v u:Value}{c:Nat}(hl:p.length<=1000)(hc:p.length<=c)(hn:At w v n)(hm:At w u m)(hp:IL w w.heap.size A p)(iE:∀x,kB n (upP p)=some x->x.ks.length<1759218604441):Calls Tryz.prog 73 #[v,.slice A p.length c,u] w (zP2 (zGo n p m) w):=by
 obtain⟨d,hn⟩:=hn;obtain⟨dm,hm⟩:=hm;exact kD0 d dm w v u n m A p p.length c rfl hl hc hn hm hp iE
theorem kKw {w:World}{v:Value}{c:Nat}(hl:p.length<=1000)(hc:p.length<=c)(hn:At w v n)(hp:IL w w.heap.size A p):Calls Tryz.prog 72 #[v,.slice A p.length c] w (kFo (zBw n p).1 (zE3 n p) (zBw n p).2 w):=by
 obtain⟨d,hn⟩:=hn;exact kDx d w v n A p p.length c rfl hl hc hn hp
theorem kKx {w:World}{v:Value}{x:NT}{c:Nat}(hr:zGm n p=(x,er))(hl:p.length<=1000)(hn:At w v n)(hp:IL w w.heap.size A p):Calls Tryz.prog 15 #[v,.slice A p.length c] w (zP2 (x,er) w):=hr▸kKt hl hn hp
theorem kKy {w:World}{v u:Value}{x:NT}{c:Nat}(hr:zSe n p m=(x,er))(hl:p.length<=1000)(hc:p.length<=c)(hn:At w v n)(hm:At w u m)(hp:IL w w.heap.size A p):Calls Tryz.prog 104 #[v,.slice A p.length c,u] w (zP2 (x,er) w):=hr▸kKu hl hc hn hm hp
theorem kKz {w:World}{v u:Value}{x:NT}{c:Nat}(hr:zGo n p m=(x,er))(hl:p.length<=1000)(hc:p.length<=c)(hn:At w v n)(hm:At w u m)(hp:IL w w.heap.size A p)(iE:∀x,kB n (upP p)=some x->x.ks.length<1759218604441):Calls Tryz.prog 73 #[v,.slice A p.length c,u] w (zP2 (x,er) w):=hr▸kKv hl hc hn hm hp iE
theorem kK0 {w:World}{v:Value}{x y:NT}{c:Nat}(hr:zBw n p=(x,er))(hy:zE3 n p=y)(hl:p.length<=1000)(hc:p.length<=c)(hn:At w v n)(hp:IL w w.heap.size A p):Calls Tryz.prog 72 #[v,.slice A p.length c] w (kFo x y er w):=by
 have h:=kKw (c:=c) hl hc hn hp;rw[hr,hy]at h;exact h
theorem kMl {w:World}{v u:Value}{x:NT}{lp c:Nat}(hr:zGo n p m=(x,er))(bf:p.length=lp)(hl:lp<=1000)(hc:lp<=c)(hn:At w v n)(hm:At w u m)(hp:IL w w.heap.size A p)(iE:∀x,kB n (upP p)=some x->x.ks.length<1759218604441):Calls Tryz.prog 73 #[v,.slice A lp c,u] w (zP2 (x,er) w):=by
 subst bf;exact kKz hr hl hc hn hm hp iE
theorem kMm {w:World}{v:Value}{x y:NT}{lp c:Nat}(hr:zBw n p=(x,er))(hy:zE3 n p=y)(bf:p.length=lp)(hl:lp<=1000)(hc:lp<=c)(hn:At w v n)(hp:IL w w.heap.size A p):Calls Tryz.prog 72 #[v,.slice A lp c] w (kFo x y er w):=by
 subst bf;exact kK0 hr hy hl hc hn hp
theorem kMn {w:World}{v:Value}{x:NT}{lp c:Nat}(hr:zGm n p=(x,er))(bf:p.length=lp)(hl:lp<=1000)(hn:At w v n)(hp:IL w w.heap.size A p):Calls Tryz.prog 15 #[v,.slice A lp c] w (zP2 (x,er) w):=by
 subst bf;exact kKx hr hl hn hp
open Go.WideShapes (add_plain)
theorem zRu (us vs:List Value):zGg (us++vs)=zGg us++zGg vs:=zM9 us vs
structure zM1 (d:Nat)(w:World)(B:Nat)(us:List Value)(ks:List NT):Prop where
 len:us.length=ks.length
 trees:∀(j:Nat)(m:NT),ks[j]? =some m->∃u,us[j]? =some u/\zV d w B u m
theorem zM1.append {d:Nat}{w:World}{B:Nat}{us vs:List Value}{ks ms:List NT}(h1:zM1 d w B us ks)(h2:zM1 d w B vs ms):zM1 d w B (us++vs) (ks++ms):=
 ⟨by rw[List.length_append,List.length_append,h1.len,h2.len],fun j m hj=>by
  rcases Nat.lt_or_ge j ks.length with hjk|hjk
  ·rw[List.getElem?_append_left hjk]at hj;obtain⟨u,hu,ht⟩:=h1.trees j m hj;exact⟨u,by rw[List.getElem?_append_left (by rw[h1.len];exact hjk)];exact hu,ht⟩
  ·rw[List.getElem?_append_right hjk]at hj;obtain⟨u,hu,ht⟩:=h2.trees _ m hj;exact⟨u,by rw[List.getElem?_append_right (by rw[h1.len];exact hjk),h1.len];exact hu,ht⟩⟩
theorem zM1.below {d:Nat}{w w':World}{B:Nat}{us:List Value}{ks:List NT}(h:zM1 d w B us ks)(hb:Below B w w'):zM1 d w' B us ks:=⟨h.len,fun j m hj=>by
 obtain⟨u,h1,h2⟩:=h.trees j m hj;exact⟨u,h1,h2.below hb⟩⟩
theorem zM1.more {d:Nat}{w:World}{B B':Nat}{us:List Value}{ks:List NT}(h:zM1 d w B us ks)(hb:B<=B'):zM1 d w B' us ks:=⟨h.len,fun j m hj=>by
 obtain⟨u,h1,h2⟩:=h.trees j m hj;exact⟨u,h1,h2.more hb⟩⟩
theorem zM1.deep {d d':Nat}{w:World}{B:Nat}{us:List Value}{ks:List NT}(h:zM1 d w B us ks)(hd:d<=d'):zM1 d' w B us ks:=⟨h.len,fun j m hj=>by
 obtain⟨u,h1,h2⟩:=h.trees j m hj;exact⟨u,h1,h2.deep hd⟩⟩
theorem zM1.form {d:Nat}{w:World}{B:Nat}{us:List Value}{ks:List NT}(h:zM1 d w B us ks):∀u ∈ us,∃lf PA np pc TA nt tc KA nk kc,u=.agg #[.bool lf,.slice PA np pc,.slice TA nt tc,.slice KA nk kc]:=fun u hu=>by
 obtain⟨j,hj,rfl⟩:=List.mem_iff_getElem.1 hu;obtain⟨u',hu',ht⟩:=h.trees j _ (List.getElem?_eq_getElem (by rw[<-h.len];exact hj));rw[List.getElem?_eq_getElem hj]at hu';injection hu' with hu';rw[hu'];exact ht.val
theorem zM1.flat {d:Nat}{w:World}{B:Nat}{us:List Value}{ks:List NT}(h:zM1 d w B us ks):(zGg us).length=ks.length*4/\∀c ∈ zGg us,c.oneCell'=true:=by
 have key:=h.form;constructor
 ·rw[<-h.len];have:∀l:List Value,(∀u ∈ l,u.cells.toList.length=4)->(zGg l).length=l.length*4:=by
   intro l;induction l with
   |nil=>intro _;rfl
   |cons x r ih=>intro hx;show(zGg (x::r)).length=_;rw[zGg,List.flatMap_cons,List.length_append,hx x (List.mem_cons_self ..),<-zGg,ih (fun u hu=>hx u (List.mem_cons_of_mem _ hu)),List.length_cons];omega
  exact this us fun u hu=>by obtain⟨_,_,_,_,_,_,_,_,_,_,rfl⟩:=key u hu;rfl
 ·intro c hc;obtain⟨u,hu,qP⟩:=List.mem_flatMap.1 hc;obtain⟨_,_,_,_,_,_,_,_,_,_,rfl⟩:=key u hu;simp[Value.cells]at qP;rcases qP with rfl|rfl|rfl|rfl<;>rfl
theorem zKn.vals {d:Nat}{w:World}{B:Nat}{ks:List NT}(h:zKn d w B A ks):∃us,zM1 d w B us ks/\VL w B A (zGg us):=by
 have hx:∀j:Fin ks.length,∃u,∃b o,A=some ⟨b,o,none⟩/\b<B/\zV d w B u ks[j]/\zK1 w b (o+j*4) u:=fun j=>by
  obtain⟨b,o,u,e,hb,hn,hc⟩:=h j ks[j] (List.getElem?_eq_getElem j.2);exact⟨u,b,o,e,hb,hn,hc⟩
 obtain⟨f,hf⟩:=Classical.axiomOfChoice hx;have hv:zM1 d w B (List.ofFn f) ks:=⟨by simp,fun j m hj=>by
  have hl:=(List.getElem?_eq_some_iff.1 hj).1;obtain⟨b,o,_,_,hn,_⟩:=hf ⟨j,hl⟩;have e:ks[j]=m:=(List.getElem?_eq_some_iff.1 hj).2;exact⟨f ⟨j,hl⟩,by rw[List.getElem?_eq_getElem (by simpa using hl),List.getElem_ofFn],by rw[<-e];exact hn⟩⟩
 refine⟨_,hv,fun hne=>?_⟩;have hlen:=hv.flat.1;have hpos:0<ks.length:=by
  have:0<(zGg (List.ofFn f)).length:=List.length_pos_iff.2 hne;omega
 obtain⟨b,o,e,hb,_,_⟩:=hf ⟨0,hpos⟩;refine⟨b,o,e,hb,fun q c hq=>?_⟩;have bj:q<ks.length*4:=by rw[<-hlen];exact(List.getElem?_eq_some_iff.1 hq).1
 have hj:q/4<ks.length:=Kb;obtain⟨b',o',e',_,hn,c0,c1,c2,c3,eu,h0,h1,h2,h3⟩:=hf ⟨q/4,hj⟩;rw[e]at e';injection e' with e';injection e' with e1 e2;subst e1 e2;have h4:∀x ∈ List.ofFn f,x.cells.size=4:=fun x hx=>by obtain⟨_,_,_,_,_,_,_,_,_,_,rfl⟩:=hv.form x hx;rfl
 have hu:(List.ofFn f)[q/4]? =some (f ⟨q/4,hj⟩):=by rw[List.getElem?_eq_getElem (by simpa using hj),List.getElem_ofFn]
 have hc:=fun i c hi=>zJ5 (List.ofFn f) (q/4) _ c0 c1 c2 c3 h4 hu eu i c hi;have hq':(zGg (List.ofFn f))[q/4*4+q % 4]? =some c:=by rw[show q/4*4+q % 4=q by omega];exact hq
 have ho:∀i,q % 4=i->o+q=o+q/4*4+i:=fun i hi=>by omega
 match hm:q % 4,Nat.mod_lt q (show 0<4 by omega)with
 |0,_=>rw[hm]at hq';have:=(hc 0 c0 rfl).symm.trans hq';injection this with this;subst this;rw[ho 0 hm];exact h0
 |1,_=>rw[hm]at hq';have:=(hc 1 c1 rfl).symm.trans hq';injection this with this;subst this;rw[ho 1 hm];exact h1
 |2,_=>rw[hm]at hq';have:=(hc 2 c2 rfl).symm.trans hq';injection this with this;subst this;rw[ho 2 hm];exact h2
 |3,_=>rw[hm]at hq';have:=(hc 3 c3 rfl).symm.trans hq';injection this with this;subst this;rw[ho 3 hm];exact h3
theorem kDy {w:World}{base d n c:Nat}{us:List Value}{ks:List NT}(hown:w.ownsRow base 26 4 (.slice A n c) n (zGg us))(hv:zM1 d w w.heap.size us ks):zKn d w w.heap.size A ks:=fun k m hm=>by
 obtain⟨u,hu,ht⟩:=hv.trees k m hm;obtain⟨lf,PA,np,pc,TA,nt,tc,KA,nk,kc,e⟩:=hv.form u (List.mem_of_getElem? hu);have h4:∀x ∈ us,x.cells.size=4:=fun x hx=>by obtain⟨_,_,_,_,_,_,_,_,_,_,rfl⟩:=hv.form x hx;rfl
 obtain⟨A',c',e',_,_,hfree⟩:=zC9 hown;injection e' with e1 _ _;subst e1;have hc:=fun i c hi=>hfree (k*4+i) c (zJ5 us k u _ _ _ _ h4 hu e i c hi);obtain⟨g,hg,_,hgl,_⟩:=hc 0 _ rfl;subst hg;have hc':∀i c,[Value.bool lf,.slice PA np pc,.slice TA nt tc,.slice KA nk kc][i]? =some c->w.cell? ⟨g,0+k*4+i,none⟩=some c:=fun i c hi=>by
  obtain⟨g',e',_,_,h5,_⟩:=hc i c hi;injection e' with e';injection e' with e';subst e';rw[Nat.zero_add];exact h5
 exact⟨g,0,u,rfl,hgl,ht,_,_,_,_,e,hc' 0 _ rfl,hc' 1 _ rfl,hc' 2 _ rfl,hc' 3 _ rfl⟩
theorem kNs {ts te:TypeId}{size by_:Nat}(E:zQ7 ts te size by_)(W:World){rest:List Oper}{o:Oper}{a:Act}{Q:Exit->Act->World->Prop}(hgd:o.guard=none)(s x:Operand)
  (ho:o.op=.call {callee:=.builtin .append,args:=#[s,x],argTypes:=#[ts,ts]})
  (b:Nat) (hs:a.eval s=.slice none 0 0) (A:Option Addr) (m c B:Nat) (l:List Value) (hx:a.eval x=.slice A m c) (hn:l.length=m*size) (hp:VL W B A l) (h1:∀u ∈ l,u.oneCell'=true)
  (h63:m<=maxLen) (hby:m*by_<=140737488355328) (hb:b<=W.heap.size)
  (hK:∀A' c' w',w'.ownsRow b te size (.slice A' m c') m l->Below W.heap.size W w'->((Value.slice A' m c').ownBlock=none∨∃g,(Value.slice A' m c').ownBlock=some g/\W.heap.size<=g)->wpList Tryz.prog ops Q rest (a.put o.dst (.slice A' m c')) w'):
  wpList Tryz.prog ops Q (o::rest) a W:=by
 refine zK7 E W hgd s x ho b (.slice none 0 0) 0 [] hs (World.ownsRow_nil _ _ _ _) A m c B l hx hn hp h1 (by rw[Nat.zero_add];exact h63) (by rw[Nat.zero_add];exact hby) hb (fun A' c' w' h1 h2 h3=>?_);rw[Nat.zero_add,List.nil_append]at h1;rw[Nat.zero_add]at h3⊢;exact hK A' c' w' h1 (kP7 h2) h3
theorem zIq {ts te:TypeId}{size by_:Nat}(E:zQ7 ts te size by_)(W:World){o:Oper}{a:Act}{K:Act->World->Prop}{Q:Exit->Act->World->Prop}(hgd:o.guard=none)(s x:Operand)
  (ho:o.op=.call {callee:=.builtin .append,args:=#[s,x],argTypes:=#[ts,ts]})
  (b:Nat) (v:Value) (n:Nat) (k:List Value) (hs:a.eval s=v) (hO:W.ownsRow b te size v n k) (A:Option Addr) (m c B:Nat) (l:List Value) (hx:a.eval x=.slice A m c) (hn:l.length=m*size) (hp:VL W B A l) (h1:∀u ∈ l,u.oneCell'=true)
  (h63:n+m<=maxLen) (hby:(n+m)*by_<=140737488355328) (hb:b<=W.heap.size)
  (hK:∀A' c' w',w'.ownsRow b te size (.slice A' (n+m) c') (n+m) (k++l)->W.grownBy w' v.ownBlock->((Value.slice A' (n+m) c').ownBlock=v.ownBlock∨∃g,(Value.slice A' (n+m) c').ownBlock=some g/\W.heap.size<=g)->K (a.put o.dst (.slice A' (n+m) c')) w'):
  if Region.wanted o (yielded ops a.tmps)=true then Oper.wp Tryz.prog o a W K Q else F:=by
 have hw:Region.wanted o (yielded ops a.tmps)=true:=by simp[Region.wanted,hgd]
 rw[if_pos hw];obtain⟨i0,z,hi,hz0,hz1,hz2,hz3⟩:=E.info;have hsz:=E.pos;rcases Nat.eq_zero_or_pos m with hm|hm
 ·subst hm;have hl:l=[]:=List.eq_nil_of_length_eq_zero (by simpa using hn);subst hl;obtain⟨A0,c0,rfl,_⟩:=zC9 hO;have hrun:=zEp (w:=W) (ty:=o.type) (A:=A) (c:=c) E.under hi hO;unfold Oper.wp execOp;simp only[ho,resolve,invoke,builtin,Sem.run_bind,Sem.run_pure,Result.andThen_ok,List.map_toArray,List.map_cons,List.map_nil,hs,hx,hrun];exact hK A0 c0 W (by simpa using hO) ⟨rfl,rfl,rfl,Nat.le_refl _,fun _ _ _=>rfl⟩ (.inl (by cases A0<;>rfl))
 ·have hl:0<l.length:=by have:=Nat.mul_pos hm hsz;omega
  obtain⟨b',o',rfl,_,hc⟩:=hp (List.length_pos_iff.1 hl);refine wp_append_lies W s x ts ho b te i0 z size by_ E.under hi hz0 hz1 hz2 hz3 hsz v n k hs hO ⟨b',o',none⟩ m c l hx hn (fun j u hj=>by rw[add_plain];exact hc j u hj) h1 hm h63 hby hb W.heap.size rfl (fun g cap w' h1 h2 h3 _=>hK _ cap w' h1 h2 ?_);rcases h3 with e|e
  ·exact .inl (by rw[e];rfl)
  ·exact .inr ⟨g,rfl,by omega⟩
theorem kNt {ts te:TypeId}{size by_:Nat}(E:zQ7 ts te size by_)(W:World){o:Oper}{a:Act}{K:Act->World->Prop}{Q:Exit->Act->World->Prop}(hgd:o.guard=none)(s x:Operand)
  (ho:o.op=.call {callee:=.builtin .append,args:=#[s,x],argTypes:=#[ts,ts]})
  (b:Nat) (hs:a.eval s=.slice none 0 0) (A:Option Addr) (m c B:Nat) (l:List Value) (hx:a.eval x=.slice A m c) (hn:l.length=m*size) (hp:VL W B A l) (h1:∀u ∈ l,u.oneCell'=true)
  (h63:m<=maxLen) (hby:m*by_<=140737488355328) (hb:b<=W.heap.size)
  (hK:∀A' c' w',w'.ownsRow b te size (.slice A' m c') m l->Below W.heap.size W w'->((Value.slice A' m c').ownBlock=none∨∃g,(Value.slice A' m c').ownBlock=some g/\W.heap.size<=g)->K (a.put o.dst (.slice A' m c')) w'):
  if Region.wanted o (yielded ops a.tmps)=true then Oper.wp Tryz.prog o a W K Q else F:=by
 refine zIq E W hgd s x ho b (.slice none 0 0) 0 [] hs (World.ownsRow_nil _ _ _ _) A m c B l hx hn hp h1 (by rw[Nat.zero_add];exact h63) (by rw[Nat.zero_add];exact hby) hb (fun A' c' w' h1 h2 h3=>?_);rw[Nat.zero_add,List.nil_append]at h1;rw[Nat.zero_add]at h3⊢;exact hK A' c' w' h1 (kP7 h2) h3
theorem kAj {ks:List NT}{k:Nat}(h:ks[k]? =some m):sizeT m<=sizeK ks:=by
 have e:sizeK ks=sizeK (ks.take k)+sizeK (ks.drop k):=by rw[<-kZ,List.take_append_drop]
 rw[zCo h]at e;simp only[sizeK]at e;omega
theorem kN2 (l:List Int):∀u ∈ l.map (Value.int .i64),u.oneCell'=true:=fun u hu=>by
 obtain⟨x,_,rfl⟩:=List.mem_map.1 hu;rfl
section
variable {w w':World}{g:Nat}{a b x y:Value}{t:TypeId}
theorem kM8 (h:w.heap[g]? =some (.cells #[a,b] t (0,0))):w.cell? ⟨g,0,none⟩=some a/\w.cell? ⟨g,1,none⟩=some b/\w.frozen? ⟨g,0,none⟩=false/\w.frozen? ⟨g,1,none⟩=false:=by
 refine⟨?_,?_,?_,?_⟩<;>simp[World.cell?,World.frozen?,h]
theorem kAk (w:World)(g:Nat)(t:TypeId)(cs:Array Value)(k:Nat)(x:Value)(h:w.heap[g]? =some (.cells cs t (0,0))):(w.setCell ⟨g,k,none⟩ x).heap[g]? =some (.cells (cs.setIfInBounds k x) t (0,0)):=by
 have hlt:=lt_of_block h;have h':w.heap[g]=.cells cs t (0,0):=by simpa[Array.getElem?_eq_getElem hlt]using h
 show(w.heap.modify g _)[g]? =_
 rw[Array.getElem?_eq_getElem (by simpa using hlt),Array.getElem_modify_self,h'];rfl
end
theorem zK2 (w:World)(o o':Obj):((w.alloc o).alloc o').heap[w.heap.size]? =some o/\((w.alloc o).alloc o').heap[w.heap.size+1]? =some o':=by
 refine⟨?_,?_⟩
 ·rw[Below.heap_alloc _ _ _ Kc];exact heap_alloc_new _ _
 ·rw[<-sz1 (w:=w) (A:=o)];exact heap_alloc_new _ _
theorem kAl :madeCells #[Value.int .i64 0] 0=#[]:=by simp[madeCells,Array.range]
theorem kAm (A:Option Addr)(l:List Int)(n c:Nat)(w:World)(hn:l.length=n)(hl:n<=1000)(hp:IL w w.heap.size A l):
  Calls Tryz.prog 77 #[.slice A n c] w (zVq w l):=by
 have HP:=hd hp;have HN:=hd hn;clear hp hn;rcases A with _|a
 ·have hnil:=fun W=>Go.Lib.run_eql_slice_nil (P:=Tryz.prog) W 27 3 none n c 0 0 Tryz.underlying27;have HL:=hd (show l=[] by
   rcases Classical.em (l=[])with h|h
   ·exact h
   ·obtain⟨_,_,h,_⟩:=HP.o h;cases h)
  go_enter Tryz.func77,Tryz.ntmps77
  go_wp2
  go_ret
  exact⟨_,rfl,by rw[HL.o];exact zBt.nil _ _,Below.refl _ _⟩
 ·have hnil:=fun W=>Go.Lib.run_eql_slice_nil (P:=Tryz.prog) W 27 3 (some a) n c 0 0 Tryz.underlying27;go_enter Tryz.func77,Tryz.ntmps77
  have HO:=hd (show zBt (w.alloc (.cells #[] 3)) w.heap.size (.slice (some ⟨w.heap.size,0,none⟩) 0 0) []from kAl▸zBt.made w w.heap.size 0 Kb Km);go_wp2_with(at_builtin;(refine zCf _ rfl (.tmp 5) (.tmp 6) rfl w.heap.size (.slice (some ⟨w.heap.size,0,none⟩) 0 0) [] l rfl HO.o (some a) n c w.heap.size rfl HN.o (HP.o.below (Kl.alloc Km _)) (by have:=HN.o;simp;omega) Kc ?_;intro v' w1 aI hg1))
  go_ret
  exact⟨v',rfl,by simpa using aI,hg1.below _ _ Km Kc (Kl.alloc Km _)⟩
def kNg (n:NT)(q:List Int):Int:=match kB n q with
 |none=>0
 |some m=>m.tx.length
def zK6 (n:NT)(p:List Int×Int):Int:=match kB n p.1 with
 |none=>5
 |some m=>if m.lf=false then 7 else if p.2<0∨(m.tx.length:Int)<p.2 then 8 else 0
theorem zGh :∀(p:List Int)(n m:NT),kB n p=some m->p.length+sizeT m<=sizeT n
 |[],n,m,h=>by rw[kB]at h;injection h with h;rw[h];simp
 |a::r,n,m,h=>by
  rw[zR]at h;cases hk:zBh n a with
  |none=>rw[hk]at h;cases h
  |some k=>
   rw[hk]at h;have h1:=zGh r k m h;have h2:=kAj (zA1 hk).2.2;have h3:sizeK n.ks<sizeT n:=by cases n;rw[sizeT];simp only[NT.ks];omega
   simp only[List.length_cons];omega
def eO :Option (List Int)->Int
 |none=>14
 |some _=>0
def zI4 (w:World)(v:Value)(p:List Int×Int):Prop:=∃A n c,v=.agg #[.slice A n c,.int .i64 p.2]/\p.1.length=n/\n<=10000000/\n<=c/\IL w w.heap.size A p.1
theorem zI4.later {w w':World}{v:Value}{p:List Int×Int}(h:zI4 w v p)(hb:Below w.heap.size w w'):zI4 w' v p:=by
 obtain⟨A,n,c,e,h1,h2,h3,h4⟩:=h;exact⟨A,n,c,e,h1,h2,h3,h4.later hb⟩
theorem kMz {w W:World}{u v:Value}{p:List Int×Int}(hb:Below w.heap.size w W)(hp:zI4 w u p)(hq:zI4 w v q):Calls Tryz.prog 92 #[u,v] W (jA (.int .i64 (kFb p q)) W):=by
 obtain⟨A,n,c,rfl,h1,h2,_,h3⟩:=hp.later hb;obtain⟨B,m,d,rfl,g1,g2,_,g3⟩:=hq.later hb;exact zKy A B p q n m c d W h1 g1 Kb Kb h3 g3
theorem zYt {w W:World}{u v:Value}{p:List Int×Int}(hb:Below w.heap.size w W)(hp:zI4 w u p)(hq:zI4 w v q):Calls Tryz.prog 63 #[u,v] W (jA (.bool (samP p q)) W):=by
 obtain⟨A,n,c,rfl,h1,h2,_,h3⟩:=hp.later hb;obtain⟨B,m,d,rfl,g1,g2,_,g3⟩:=hq.later hb;exact zQj A B p q n m c d W h1 g1 Kb Kb h3 g3
theorem kPq (h:P:=by
 go_wp2_with(first
  |(go_at_call 15;rw[<-HW.o];refine HC.o.mono ?_;intro e w1 h1;obtain⟨v1,d1,rfl,ht1,hb1⟩:=h1;obtain⟨d',lf1,CR,CS,CU,dh,di,dt,dv,dw,kc1,_,ig,rfl,_,_,qE,_⟩:=(ht1.at_ (B:=w1.heap.size) (fun b hb=>hb.2)).open_;have vR:=j5.o.symm.trans ig;clear ig;injection vR with e1 e2 e3 e4;subst e1 e2 e3 e4;have hf2:=qE.2.2.1;have aT:=hd hb1;clear ht1 hb1 qE x0 x1 x2 x3 y0 y1;obtain⟨x0,x1,x2,x3,y0,y1⟩:=HK.o _ aT.o;have hl0:=kQ x0;have bh:=kQ y1)
  |fail)
 go_ret
 exact⟨zAj HF.o.symm,aw.o.trans ((aT.o.alloc aT.o.size _).mono aw.o.size)⟩):P:=h
theorem zSt (d:Nat)(w:World)(v:Value)(n:NT)(A:Option Addr)(p:List Int×Int)(lp c:Nat)(bf:p.1.length=lp)(hl:lp<=10000000)(hn:zV d w w.heap.size v n)(hp:IL w w.heap.size A p.1):
  Calls Tryz.prog 57 #[v,.agg #[.slice A lp c,.int .i64 p.2]] w (jA (.int .i64 (zK6 n p)) w):=by
 obtain⟨lf,PA,np,pc,TA,nt,tc,KA,nk,kc,rfl⟩:=hn.val;obtain⟨W0,hW⟩:∃W0,W0=(w.alloc (.cells #[.bool lf,.slice PA np pc,.slice TA nt tc,.slice KA nk kc] 26)).alloc (.cells #[.slice A lp c,.int .i64 p.2] 29):=⟨_,rfl⟩;have hb0:Below w.heap.size w W0:=hW▸kM Kl Km;have e0:=zK2 w (Obj.cells #[Value.bool lf,.slice PA np pc,.slice TA nt tc,.slice KA nk kc] 26) (Obj.cells #[Value.slice A lp c,Value.int .i64 p.2] 29);rw[<-hW]at e0;have HK:=hd (show∀W,Below W0.heap.size W0 W->(W.cell? ⟨w.heap.size,0,none⟩=some (.bool lf)/\W.cell? ⟨w.heap.size,1,none⟩=some (.slice PA np pc)/\W.cell? ⟨w.heap.size,2,none⟩=some (.slice TA nt tc)/\W.cell? ⟨w.heap.size,3,none⟩=some (.slice KA nk kc)/\W.cell? ⟨w.heap.size+1,0,none⟩=some (.slice A lp c)/\W.cell? ⟨w.heap.size+1,1,none⟩=some (.int .i64 p.2))from fun W h=>by
  have h1:=zJ (kI e0.1 h);have h2:=kM8 (kI e0.2 h);exact⟨h1.1,h1.2.1,h1.2.2.1,h1.2.2.2.1,h2.1,h2.2.1⟩)
 obtain⟨x0,x1,x2,x3,y0,y1⟩:=HK.o _ Kl;have HW:=hd hW;have aw:=hd hb0;have hC:=zU9 d W0 _ n A p.1 lp c bf hl (hn.later hb0) (hp.later hb0);clear hn hp hW hb0 e0 bf hl;obtain⟨o,ho⟩:∃o,o=p.2:=⟨_,rfl⟩;cases hg:kB n p.1 with
 |none=>
  rw[zB2 hg]at hC;have HC:=hd hC;have HF:=hd (show zK6 n p=5 by unfold zK6;rw[hg]);have j5:=hd (show((zeroT,5):NT×Int).1=.mk false [] [] []from rfl);clear hg hC ho o;go_enter Tryz.func57,Tryz.ntmps57
  exact kPq
 | some m=>
  rw[kP hg]at hC;have HC:=hd hC;cases m with
  | mk ml mp mx mk=>
   have hF:zK6 n p=if ml=false then 7 else if p.2<0∨(mx.length:Int)<p.2 then 8 else 0:=by unfold zK6;rw[hg];rfl
   have j5:=hd (show((NT.mk ml mp mx mk,0):NT×Int).1=.mk ml mp mx mk from rfl);clear hg hC;cases ml with
   |false=>
    have HF:=hd (hF.trans (if_pos rfl));clear hF ho o;go_enter Tryz.func57,Tryz.ntmps57
    exact kPq
   | true=>
    rw[if_neg Kc]at hF;rw[<-ho]at hF y1 HK HW⊢;by_cases h1:o<0
    ·have HF:=hd (hF.trans (if_pos (.inl h1)));clear hF ho;go_enter Tryz.func57,Tryz.ntmps57
     exact kPq
    ·by_cases h2:(mx.length:Int)<o
     ·have HF:=hd (hF.trans (if_pos (.inr h2)));clear hF ho;go_enter Tryz.func57,Tryz.ntmps57
      exact kPq
     ·have HF:=hd (hF.trans (if_neg Kb));clear hF ho;go_enter Tryz.func57,Tryz.ntmps57
      exact kPq
structure Sl where
 is:Bool
 a:List Int×Int
 f:List Int×Int
def zF7 (s t:Sl):Bool:=s.is==t.is&&samP s.a t.a&&samP s.f t.f
def zE8 (n:NT)(s:Sl):Int:=if s.is=false then(if samP s.a ([],0)=true/\samP s.f ([],0)=true then 0 else 1)else if zK6 n s.a=0 then zK6 n s.f else zK6 n s.a
theorem kGy {w:World}{g:Nat}{a b c d e:Value}{t:TypeId}(h:w.heap[g]? =some (.cells #[a,b,c,d,e] t (0,0))):w.cell? ⟨g,0,none⟩=some a/\w.cell? ⟨g,1,none⟩=some b/\w.cell? ⟨g,2,none⟩=some c/\w.cell? ⟨g,3,none⟩=some d/\w.cell? ⟨g,4,none⟩=some e:=by
 refine⟨?_,?_,?_,?_,?_⟩<;>simp[World.cell?,h]
theorem zI4.zero (w:World):zI4 w (.agg #[.slice none 0 0,.int .i64 0]) ([],0):=⟨none,0,0,rfl,rfl,by omega,Nat.le_refl _,IL.nil _ _ _⟩
theorem kTa (h:P:=by
 go_wp2_with(first
  |(go_at_call 63;have _g:=aT;refine Calls.mono (pN.o _ aT.o) ?_;rintro e w2 ⟨rfl,b2⟩;have aL:=hd (aT.o.trans (b2.mono aT.o.size));clear b2)
  |(go_at_call 63;rw[HW.o];refine Calls.mono (ik.o _ Kl) ?_;rintro e w1 ⟨rfl,b1⟩;have aT:=hd b1;clear b1 x0 x1 x2 x3 x4 y0 y1 y2 y3 y4;obtain⟨x0,x1,x2,x3,x4,y0,y1,y2,y3,y4⟩:=HK.o _ aT.o)
  |fail)
 go_ret
 first
  |exact⟨kC Kc,aw.o.trans (aL.o.mono aw.o.size)⟩
  |exact⟨kC Kc,aw.o.trans (aT.o.mono aw.o.size)⟩
  |fail):P:=h
theorem zL4 (w:World)(s t:Sl)(A B C D:Option Addr)(na nb nc nd ca cb cc cd:Nat)(hA:zI4 w (.agg #[.slice A na ca,.int .i64 s.a.2]) s.a)(hB:zI4 w (.agg #[.slice B nb cb,.int .i64 s.f.2]) s.f)(hC:zI4 w (.agg #[.slice C nc cc,.int .i64 t.a.2]) t.a)(hD:zI4 w (.agg #[.slice D nd cd,.int .i64 t.f.2]) t.f):
  Calls Tryz.prog 64 #[.agg #[.bool s.is,.slice A na ca,.int .i64 s.a.2,.slice B nb cb,.int .i64 s.f.2],.agg #[.bool t.is,.slice C nc cc,.int .i64 t.a.2,.slice D nd cd,.int .i64 t.f.2]] w (jA (.bool (zF7 s t)) w):=by
 obtain⟨si,sa,sf⟩:=s;obtain⟨ti,ta,tf⟩:=t;simp only at hA hB hC hD⊢;obtain⟨W0,hW⟩:∃W0,(w.alloc (.cells #[.bool si,.slice A na ca,.int .i64 sa.2,.slice B nb cb,.int .i64 sf.2] 33)).alloc (.cells #[.bool ti,.slice C nc cc,.int .i64 ta.2,.slice D nd cd,.int .i64 tf.2] 33)=W0:=⟨_,rfl⟩;have hb0:Below w.heap.size w W0:=hW▸kM Kl Km;have e0:=zK2 w (Obj.cells #[Value.bool si,.slice A na ca,.int .i64 sa.2,.slice B nb cb,.int .i64 sf.2] 33) (Obj.cells #[Value.bool ti,.slice C nc cc,.int .i64 ta.2,.slice D nd cd,.int .i64 tf.2] 33);rw[hW]at e0;have HK:=hd (show∀W,Below W0.heap.size W0 W->(W.cell? ⟨w.heap.size,0,none⟩=some (.bool si)/\W.cell? ⟨w.heap.size,1,none⟩=some (.slice A na ca)/\W.cell? ⟨w.heap.size,2,none⟩=some (.int .i64 sa.2)/\W.cell? ⟨w.heap.size,3,none⟩=some (.slice B nb cb)/\W.cell? ⟨w.heap.size,4,none⟩=some (.int .i64 sf.2)/\
   W.cell? ⟨w.heap.size+1,0,none⟩=some (.bool ti)/\W.cell? ⟨w.heap.size+1,1,none⟩=some (.slice C nc cc)/\W.cell? ⟨w.heap.size+1,2,none⟩=some (.int .i64 ta.2)/\W.cell? ⟨w.heap.size+1,3,none⟩=some (.slice D nd cd)/\W.cell? ⟨w.heap.size+1,4,none⟩=some (.int .i64 tf.2))from fun W h=>by
  obtain⟨h0,h1,h2,h3,h4⟩:=kGy (kI e0.1 h);obtain⟨g0,g1,g2,g3,g4⟩:=kGy (kI e0.2 h);exact⟨h0,h1,h2,h3,h4,g0,g1,g2,g3,g4⟩)
 obtain⟨x0,x1,x2,x3,x4,y0,y1,y2,y3,y4⟩:=HK.o _ Kl;have HW:=hd hW;have aw:=hd hb0;obtain⟨E1,o6⟩:∃E1,samP sa ta=E1:=⟨_,rfl⟩;obtain⟨E2,o7⟩:∃E2,samP sf tf=E2:=⟨_,rfl⟩;have ik:=hd (fun(W:World)(h:Below W0.heap.size W0 W)=>o6▸zYt (w:=W0) (W:=W) h (hA.later hb0) (hC.later hb0));have pN:=hd (fun(W:World)(h:Below W0.heap.size W0 W)=>o7▸zYt (w:=W0) (W:=W) h (hB.later hb0) (hD.later hb0));have hF:zF7 ⟨si,sa,sf⟩ ⟨ti,ta,tf⟩=(si==ti&&E1&&E2):=by unfold zF7;rw[o6,o7]
 rw[hF];clear hF o6 o7 hA hB hC hD hW hb0 e0;by_cases hi:si=ti
 ·subst hi;have g1:(si==si)=true:=by simp
  cases E1 with
  |true=>
   go_enter Tryz.func64,Tryz.ntmps64
   exact kTa
  |false=>
   go_enter Tryz.func64,Tryz.ntmps64
   exact kTa
 ·have g1:(si==ti)=false:=by simpa using hi
  clear hi;go_enter Tryz.func64,Tryz.ntmps64
  go_wp2_with(first
   |(go_at_call 63;have _g:=aT;refine Calls.mono (pN.o _ aT.o) ?_;rintro e w2 ⟨rfl,b2⟩;have aL:=hd (aT.o.trans (b2.mono aT.o.size));clear b2)
   |(go_at_call 63;rw[HW.o];refine Calls.mono (ik.o _ Kl) ?_;rintro e w1 ⟨rfl,b1⟩;have aT:=hd b1;clear b1 x0 x1 x2 x3 x4 y0 y1 y2 y3 y4;obtain⟨x0,x1,x2,x3,x4,y0,y1,y2,y3,y4⟩:=HK.o _ aT.o))
  rw[HW.o];go_ret
  exact⟨kC (by simp[g1]),aw.o⟩
theorem zUl {d:Nat}{w W:World}{u v:Value}{p:List Int×Int}(hb:Below w.heap.size w W)(hn:zV d w w.heap.size u n)(hp:zI4 w v p):Calls Tryz.prog 57 #[u,v] W (jA (.int .i64 (zK6 n p)) W):=by
 obtain⟨A,m,c,rfl,h1,h2,_,h3⟩:=hp.later hb;exact zSt d W u n A p m c h1 h2 (hn.later hb) h3
theorem zK5 (d:Nat)(w:World)(v:Value)(n:NT)(p q:List Int×Int)(A B:Option Addr)(na nb ca cb:Nat)(hn:zV d w w.heap.size v n)(hA:zI4 w (.agg #[.slice A na ca,.int .i64 p.2]) p)(hB:zI4 w (.agg #[.slice B nb cb,.int .i64 q.2]) q):
  Calls Tryz.prog 66 #[v,.agg #[.bool true,.slice A na ca,.int .i64 p.2,.slice B nb cb,.int .i64 q.2]] w (jA (.int .i64 (zE8 n ⟨true,p,q⟩)) w):=by
 obtain⟨lf,PA,np,pc,TA,nt,tc,KA,nk,kc,rfl⟩:=hn.val;obtain⟨W0,hW⟩:∃W0,(w.alloc (.cells #[.bool lf,.slice PA np pc,.slice TA nt tc,.slice KA nk kc] 26)).alloc (.cells #[.bool true,.slice A na ca,.int .i64 p.2,.slice B nb cb,.int .i64 q.2] 33)=W0:=⟨_,rfl⟩;have hb0:Below w.heap.size w W0:=hW▸kM Kl Km;have e0:=zK2 w (Obj.cells #[Value.bool lf,.slice PA np pc,.slice TA nt tc,.slice KA nk kc] 26) (Obj.cells #[Value.bool true,.slice A na ca,.int .i64 p.2,.slice B nb cb,.int .i64 q.2] 33);rw[hW]at e0;have HK:=hd (show∀W,Below W0.heap.size W0 W->(W.cell? ⟨w.heap.size,0,none⟩=some (.bool lf)/\W.cell? ⟨w.heap.size,1,none⟩=some (.slice PA np pc)/\W.cell? ⟨w.heap.size,2,none⟩=some (.slice TA nt tc)/\W.cell? ⟨w.heap.size,3,none⟩=some (.slice KA nk kc)/\
   W.cell? ⟨w.heap.size+1,0,none⟩=some (.bool true)/\W.cell? ⟨w.heap.size+1,1,none⟩=some (.slice A na ca)/\W.cell? ⟨w.heap.size+1,2,none⟩=some (.int .i64 p.2)/\W.cell? ⟨w.heap.size+1,3,none⟩=some (.slice B nb cb)/\W.cell? ⟨w.heap.size+1,4,none⟩=some (.int .i64 q.2))from fun W h=>by
  have h1:=zJ (kI e0.1 h);obtain⟨g0,g1,g2,g3,g4⟩:=kGy (kI e0.2 h);exact⟨h1.1,h1.2.1,h1.2.2.1,h1.2.2.2.1,g0,g1,g2,g3,g4⟩)
 obtain⟨x0,x1,x2,x3,y0,y1,y2,y3,y4⟩:=HK.o _ Kl;have HW:=hd hW;have aw:=hd hb0;obtain⟨E1,o6⟩:∃E1,zK6 n p=E1:=⟨_,rfl⟩;obtain⟨E2,o7⟩:∃E2,zK6 n q=E2:=⟨_,rfl⟩;have hF:zE8 n ⟨true,p,q⟩=if E1=0 then E2 else E1:=by unfold zE8;rw[if_neg Kc,o6,o7]
 rw[hF];have ik:=hd (fun(W:World)(h:Below W0.heap.size W0 W)=>o6▸zUl (w:=W0) (W:=W) h (hn.later hb0) (hA.later hb0));have pN:=hd (fun(W:World)(h:Below W0.heap.size W0 W)=>o7▸zUl (w:=W0) (W:=W) h (hn.later hb0) (hB.later hb0));clear hF o6 o7 hn hA hB hW hb0 e0;by_cases h0:E1=0
 ·subst h0;go_enter Tryz.func66,Tryz.ntmps66
  go_wp2_with(first
   |(go_at_call 57;have _g:=aT;refine Calls.mono (pN.o _ aT.o) ?_;rintro e w2 ⟨rfl,b2⟩;have aL:=hd (aT.o.trans (b2.mono aT.o.size));clear b2)
   |(go_at_call 57;rw[HW.o];refine Calls.mono (ik.o _ Kl) ?_;rintro e w1 ⟨rfl,b1⟩;have aT:=hd b1;clear b1 x0 x1 x2 x3 y0 y1 y2 y3 y4;obtain⟨x0,x1,x2,x3,y0,y1,y2,y3,y4⟩:=HK.o _ aT.o))
  go_ret
  exact⟨zAj Kc,aw.o.trans (aL.o.mono aw.o.size)⟩
 ·have g1:(E1 !=0)=true:=by simp[h0]
  rw[if_neg h0];clear h0;go_enter Tryz.func66,Tryz.ntmps66
  go_wp2_with(first
   |(go_at_call 57;rw[HW.o];refine Calls.mono (ik.o _ Kl) ?_;rintro e w1 ⟨rfl,b1⟩;have aT:=hd b1;clear b1 x0 x1 x2 x3 y0 y1 y2 y3 y4;obtain⟨x0,x1,x2,x3,y0,y1,y2,y3,y4⟩:=HK.o _ aT.o))
  go_ret
  exact⟨rfl,aw.o.trans (aT.o.mono aw.o.size)⟩
theorem zL5 (d:Nat)(w:World)(v:Value)(n:NT)(p q:List Int×Int)(A B:Option Addr)(na nb ca cb:Nat)(hn:zV d w w.heap.size v n)(hA:zI4 w (.agg #[.slice A na ca,.int .i64 p.2]) p)(hB:zI4 w (.agg #[.slice B nb cb,.int .i64 q.2]) q):
  Calls Tryz.prog 66 #[v,.agg #[.bool false,.slice A na ca,.int .i64 p.2,.slice B nb cb,.int .i64 q.2]] w (jA (.int .i64 (zE8 n ⟨false,p,q⟩)) w):=by
 obtain⟨lf,PA,np,pc,TA,nt,tc,KA,nk,kc,rfl⟩:=hn.val;obtain⟨W0,hW⟩:∃W0,(w.alloc (.cells #[.bool lf,.slice PA np pc,.slice TA nt tc,.slice KA nk kc] 26)).alloc (.cells #[.bool false,.slice A na ca,.int .i64 p.2,.slice B nb cb,.int .i64 q.2] 33)=W0:=⟨_,rfl⟩;have hb0:Below w.heap.size w W0:=hW▸kM Kl Km;have e0:=zK2 w (Obj.cells #[Value.bool lf,.slice PA np pc,.slice TA nt tc,.slice KA nk kc] 26) (Obj.cells #[Value.bool false,.slice A na ca,.int .i64 p.2,.slice B nb cb,.int .i64 q.2] 33);rw[hW]at e0;have HK:=hd (show∀W,Below W0.heap.size W0 W->(W.cell? ⟨w.heap.size+1,0,none⟩=some (.bool false)/\W.cell? ⟨w.heap.size+1,1,none⟩=some (.slice A na ca)/\W.cell? ⟨w.heap.size+1,2,none⟩=some (.int .i64 p.2)/\W.cell? ⟨w.heap.size+1,3,none⟩=some (.slice B nb cb)/\W.cell? ⟨w.heap.size+1,4,none⟩=some (.int .i64 q.2))from fun W h=>kGy (kI e0.2 h));obtain⟨y0,y1,y2,y3,y4⟩:=HK.o _ Kl;have HW:=hd hW;have aw:=hd hb0;obtain⟨E,hE⟩:∃E,zF7 ⟨false,p,q⟩ ⟨false,([],0),([],0)⟩=E:=⟨_,rfl⟩;have HC:=hd (hE▸zL4 W0 ⟨false,p,q⟩ ⟨false,([],0),([],0)⟩ A B none none na nb 0 0 ca cb 0 0 (hA.later hb0) (hB.later hb0) (zI4.zero _) (zI4.zero _));have hF:zE8 n ⟨false,p,q⟩=if E=true then 0 else 1:=by
  unfold zE8;rw[if_pos rfl,<-hE];unfold zF7;simp
 rw[hF];clear hF hE hn hA hB hW hb0 e0;cases E<;>
 ·go_enter Tryz.func66,Tryz.ntmps66
  go_wp2_with(go_at_call 64;rw[HW.o];refine Calls.mono HC.o ?_;rintro e w1 ⟨rfl,b1⟩;have aT:=hd b1;clear b1)
  go_ret
  exact⟨rfl,aw.o.trans (aT.o.mono aw.o.size)⟩
theorem zSu {d:Nat}{w W:World}{v:Value}{b:Bool}{p:List Int×Int}{B:Option Addr}{na nb ca cb:Nat}(h:Below w.heap.size w W)(hn:zV d w w.heap.size v n)(hA:zI4 w (.agg #[.slice A na ca,.int .i64 p.2]) p)(hB:zI4 w (.agg #[.slice B nb cb,.int .i64 q.2]) q):
  Calls Tryz.prog 66 #[v,.agg #[.bool b,.slice A na ca,.int .i64 p.2,.slice B nb cb,.int .i64 q.2]] W (jA (.int .i64 (zE8 n ⟨b,p,q⟩)) W):=by
 cases b
 ·exact zL5 d W v n p q A B na nb ca cb (hn.later h) (hA.later h) (hB.later h)
 ·exact zK5 d W v n p q A B na nb ca cb (hn.later h) (hA.later h) (hB.later h)
def jI (l:List Int):Bool:=l.all fun n=>decide (0<=n)&&decide (n<=1048576)
theorem zDf (l:List Int):jI l=true ↔∀k,k<l.length->0<=iAt l k/\iAt l k<=1048576:=by
 unfold jI;simp only[List.all_eq_true,Bool.and_eq_true,decide_eq_true_iff];constructor
 ·intro h k hk;rw[jY l k hk];exact h _ (List.getElem_mem hk)
 ·intro h x hx;obtain⟨k,hk,rfl⟩:=List.getElem_of_mem hx;have:=h k hk;rwa[jY l k hk]at this
theorem zQx (l:List Int)(k:Nat)(hk:k<l.length)(h:¬(0<=iAt l k/\iAt l k<=1048576)):jI l=false:=by
 cases e:jI l
 ·rfl
 ·exact absurd ((zDf l).1 e k hk) h
def zE9 (n:Int):Bool:=decide (0<=n)&&decide (n<=1048576)
theorem zN2 (n:Int):jI [n]=zE9 n:=by simp[jI,zE9]
theorem zKd (n:Int):zE9 n=true ↔ 0<=n/\n<=1048576:=by simp[zE9]
def addL (l:List Int)(k:Nat)(v:Int):List Int:=l.set k (iAt l k+v)
theorem zJe (l:List Int)(k:Nat)(v:Int):(addL l k v).length=l.length:=by simp[addL]
theorem zSv (l:List Int)(k:Nat)(v:Int)(h:k<l.length):iAt (addL l k v) k=iAt l k+v:=by
 rw[jY _ k (by rw[zJe];exact h)];simp[addL]
theorem zYu (l:List Int)(k j:Nat)(v:Int)(h:j≠k):iAt (addL l k v) j=iAt l j:=by
 unfold iAt addL;rw[List.getD_eq_getElem?_getD,List.getD_eq_getElem?_getD,List.getElem?_set_ne Kb]
theorem zL1 {l m:List Int}(h:l.length=m.length)(h2:∀k,k<l.length->iAt l k=iAt m k):l=m:=by
 apply List.ext_getElem h;intro i h3 h4;have:=h2 i h3;rwa[jY l i h3,jY m i h4]at this
def plusL (l:List Int)(k:Nat):List Int->List Int
 |[]=>l
 |v::by_=>plusL (addL l k v) (k+1) by_
theorem zJf (by_:List Int):∀(l:List Int)(k:Nat),(plusL l k by_).length=l.length:=by
 induction by_ with
 |nil=>intro l k;rfl
 |cons v r ih=>intro l k;rw[plusL,ih,zJe]
theorem zVx (r:List Int)(v:Int):∀(l:List Int)(k:Nat),plusL l k (r++[v])=addL (plusL l k r) (k+r.length) v:=by
 induction r with
 |nil=>intro l k;rfl
 |cons x r ih=>intro l k;rw[List.cons_append,plusL,plusL,ih];rw[show k+1+r.length=k+(x::r).length by simp;omega]
theorem zVy (by_:List Int)(l:List Int)(k n:Nat)(hn:n<by_.length):plusL l k (by_.take (n+1))=addL (plusL l k (by_.take n)) (k+n) (iAt by_ n):=by
 rw[List.take_add_one,List.getElem?_eq_getElem hn];simp only[Option.toList_some];rw[zVx,jY by_ n hn];congr 2
 simp;omega
theorem zN3 (by_:List Int):∀(l:List Int)(k j:Nat),k+by_.length<=j->iAt (plusL l k by_) j=iAt l j:=by
 induction by_ with
 |nil=>intro l k j h;rfl
 |cons v r ih=>intro l k j h;simp at h;rw[plusL,ih _ _ _ Kb,zYu _ _ _ _ Kb]
def zX (q p:List Int):Int:=if zFg q p then 1 else if zEd q p then 2 else if zBu q p then 3 else 0
theorem zIv (q p:List Int):zX q p=1 ↔ zFg q p=true:=by unfold zX;split<;>rename_i h<;>simp[h];split<;>(try split)<;>simp
theorem zYv (p:List Int):zFg p p=false:=by
 cases h:zFg p p
 ·rfl
 ·rw[zEe]at h;omega
theorem zVz {q:List Int}(h:zBu q p=true):zFg q p=false:=by
 cases h2:zFg q p
 ·rfl
 ·rw[zEe]at h2;rw[zE0,<-zDg]at h;omega
theorem kI1 {q:List Int}(h:zBu q p=true):zEd q p=false:=by
 cases h2:zEd q p
 ·rfl
 ·unfold zEd at h2;rw[of_decide_eq_true h2]at h;rw[zE0]at h;omega
theorem zAt (q p:List Int):(zX q p=1/\zFg q p=true/\zEd q p=false/\zBu q p=false)∨(zX q p=2/\zFg q p=false/\zEd q p=true/\zBu q p=false)∨(zX q p=3/\zFg q p=false/\zEd q p=false/\zBu q p=true)∨(zX q p=0/\zFg q p=false/\zEd q p=false/\zBu q p=false):=by
 unfold zX;cases h1:zFg q p
 ·cases h2:zEd q p
  ·cases h3:zBu q p
   ·simp
   ·simp
  ·have:q=p:=by unfold zEd at h2;exact of_decide_eq_true h2
   subst this;have:zBu q q=false:=by
    cases h3:zBu q q
    ·rfl
    ·rw[zE0]at h3;omega
   simp[this]
 ·have h2:zEd q p=false:=by
   cases h2:zEd q p
   ·rfl
   ·unfold zEd at h2;rw[of_decide_eq_true h2,zYv]at h1;cases h1
  have h3:zBu q p=false:=by
   cases h3:zBu q p
   ·rfl
   ·rw[zVz h3]at h1;cases h1
  simp[h2,h3]
def noR :List Int×Bool:=([],false)
def jH (k:Int)(q:List Int)(pos:Int)(p:List Int):List Int×Bool:=
 if q.length=0 then(p,true)
 else if k=1 then(if zX q p=0 then(p,true)else(plusL p (q.length-1) [1],true))
 else if k=2 then(if zX q p=0 then(p,true)else if zX q p=1 then(plusL p (q.length-1) [-1],true)else noR)
 else if k=3 then(if lastL q=0 then noR else if zX q p=0 then(p,true)else if zX q p=3 then(plusL p (q.length-1) [-1,pos],true)else(plusL p (q.length-1) [-1],true))
 else if k=4 then(if zX q p=1 then(plusL p (q.length-1) [1],true)else if zX q p=3/\pos<=iAt p q.length then(plusL p (q.length-1) [1,-pos],true)else(p,true))
 else(p,true)
def jF (k:Int)(q t:List Int)(pos:Int)(p:List Int):List Int×Bool:=
 if jI p&&jI q&&jI t&&zE9 pos then
  if k=5/\q.length≠0 then(if zX q p=2∨zX q p=3 then(t++p.drop q.length,true)else jH 1 t 0 (jH 2 q 0 p).1)
  else jH k q pos p
 else noR
