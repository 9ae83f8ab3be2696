import Derived.Test.YtmglnjmnabjjgaaGreatJTPut
set_option maxRecDepth 4000
namespace Go.Proofs.YtmglnjmnabjjgaaGreat
open Go.RowKit
variable {m n:NT}{A:Option Addr}
def At (w:World)(v:Value)(n:NT):Prop:=∃d,zV d w w.heap.size v n
def kOy (L:List (Nat×Obj))(w:World):Prop:=∀x ∈ L,w.heap[x.1]? =some x.2
theorem kOy.keep {L:List (Nat×Obj)}{w w':World}(h:kOy L w)(hb:Below w.heap.size w w'):kOy L w':=fun x hx=>kI (h x hx) hb
theorem kOy.add {L:List (Nat×Obj)}{w:World}(h:kOy L w)(o:Obj):kOy ((w.heap.size,o)::L) (w.alloc o):=fun x hx=>by
 rcases List.mem_cons.1 hx with rfl|hx
 ·exact heap_alloc_new _ _
 ·exact kI (h x hx) (Kl.alloc Km _)
theorem kOy.nil (w:World):kOy [] w:=fun x hx=>by cases hx
theorem kOy.hd {b:Nat}{o:Obj}{L:List (Nat×Obj)}{w:World}(h:kOy ((b,o)::L) w):w.heap[b]? =some o:=h _ (List.mem_cons_self ..)
theorem kOy.tl {x:Nat×Obj}{L:List (Nat×Obj)}{w:World}(h:kOy (x::L) w):kOy L w:=fun y hy=>h y (List.mem_cons_of_mem _ hy)
theorem kKt {w:World}{v:Value}{p:List Int}{c:Nat}(hl:p.length<=1000)(hn:At w v n)(hp:IL w w.heap.size A p):Calls Tryz.prog 15 #[v,.slice A p.length c] w (zP2 (zGm n p) w):=by
 obtain⟨d,hn⟩:=hn;exact zU9 d w v n A p p.length c rfl Kb hn hp
theorem kKu {w:World}{v u:Value}{p:List Int}{c:Nat}(hl:p.length<=1000)(hc:p.length<=c)(hn:At w v n)(hm:At w u m)(hp:IL w w.heap.size A p):Calls Tryz.prog 104 #[v,.slice A p.length c,u] w (zP2 (zSe n p m) w):=by
 obtain⟨d,hn⟩:=hn;obtain⟨dm,hm⟩:=hm;exact kDz d dm w v u n m A p p.length c rfl Kb hc hn hm hp
theorem kKv {w:World}{v u:Value}{p:List Int}{c:Nat}(hl:p.length<=1000)(hc:p.length<=c)(hn:At w v n)(hm:At w u m)(hp:IL w w.heap.size A p)(eW:∀x,kB n (upP p)=some x->x.ks.length<1759218604441):Calls Tryz.prog 73 #[v,.slice A p.length c,u] w (zP2 (zGo n p m) w):=by
 obtain⟨d,hn⟩:=hn;obtain⟨dm,hm⟩:=hm;exact kD0 d dm w v u n m A p p.length c rfl hl hc hn hm hp eW
theorem kKw {w:World}{v:Value}{p:List Int}{c:Nat}(hl:p.length<=1000)(hc:p.length<=c)(hn:At w v n)(hp:IL w w.heap.size A p):Calls Tryz.prog 72 #[v,.slice A p.length c] w (kFo (zBw n p).1 (zE3 n p) (zBw n p).2 w):=by
 obtain⟨d,hn⟩:=hn;exact kDx d w v n A p p.length c rfl hl hc hn hp
theorem kKx {w:World}{v:Value}{x:NT}{er:Int}{p:List Int}{c:Nat}(hr:zGm n p=(x,er))(hl:p.length<=1000)(hn:At w v n)(hp:IL w w.heap.size A p):Calls Tryz.prog 15 #[v,.slice A p.length c] w (zP2 (x,er) w):=hr▸kKt hl hn hp
theorem kKy {w:World}{v u:Value}{x:NT}{er:Int}{p:List Int}{c:Nat}(hr:zSe n p m=(x,er))(hl:p.length<=1000)(hc:p.length<=c)(hn:At w v n)(hm:At w u m)(hp:IL w w.heap.size A p):Calls Tryz.prog 104 #[v,.slice A p.length c,u] w (zP2 (x,er) w):=hr▸kKu hl hc hn hm hp
theorem kKz {w:World}{v u:Value}{x:NT}{er:Int}{p:List Int}{c:Nat}(hr:zGo n p m=(x,er))(hl:p.length<=1000)(hc:p.length<=c)(hn:At w v n)(hm:At w u m)(hp:IL w w.heap.size A p)(eW:∀x,kB n (upP p)=some x->x.ks.length<1759218604441):Calls Tryz.prog 73 #[v,.slice A p.length c,u] w (zP2 (x,er) w):=hr▸kKv hl hc hn hm hp eW
theorem kK0 {w:World}{v:Value}{x y:NT}{er:Int}{p:List Int}{c:Nat}(hr:zBw n p=(x,er))(hy:zE3 n p=y)(hl:p.length<=1000)(hc:p.length<=c)(hn:At w v n)(hp:IL w w.heap.size A p):Calls Tryz.prog 72 #[v,.slice A p.length c] w (kFo x y er w):=by
 have h:=kKw (c:=c) hl hc hn hp;rw[hr,hy]at h;exact h
theorem kOy.add2 {L:List (Nat×Obj)}{w:World}(h:kOy L w)(o o':Obj):kOy ((w.heap.size+1,o')::(w.heap.size,o)::L) ((w.alloc o).alloc o'):=by
 have:=(h.add o).add o';rwa[show(w.alloc o).heap.size=w.heap.size+1 by simp]at this
theorem kNn (w:World)(o:Obj):Below w.heap.size w (w.alloc o):=Kl.alloc Km o
theorem kO9 (w:World)(o o':Obj):Below w.heap.size w ((w.alloc o).alloc o'):=kM Kl Km
theorem kSb (A:Option Addr)(n c k:Nat)(hk:k<=c):∀W:World,(Instr.slice 27 (.slice A n c) none (some (.int .i64 (k:Int))) none).run Tryz.prog W=.ok (.slice A k c) W:=fun W=>by
 have he:Tryz.prog.elem 27=3:=Ka;have hs:∀W,(sizeOf 3).run Tryz.prog W=.ok 1 W:=fun _=>by kernel_rfl
 rw[run_slice_h W 27 A n c (by rw[he];exact Tryz.underlying27) .i64 _ Kb Kb,he,hs];have e:(A.map fun x=>x.add 0)=A:=by
  cases A
  ·rfl
  ·simp[Addr.add]
 simp[Result.andThen,sliced,e]
theorem kMl {w:World}{v u:Value}{x:NT}{er:Int}{p:List Int}{lp c:Nat}(hr:zGo n p m=(x,er))(bc:p.length=lp)(hl:lp<=1000)(hc:lp<=c)(hn:At w v n)(hm:At w u m)(hp:IL w w.heap.size A p)(eW:∀x,kB n (upP p)=some x->x.ks.length<1759218604441):Calls Tryz.prog 73 #[v,.slice A lp c,u] w (zP2 (x,er) w):=by
 subst bc;exact kKz hr hl hc hn hm hp eW
theorem kMm {w:World}{v:Value}{x y:NT}{er:Int}{p:List Int}{lp c:Nat}(hr:zBw n p=(x,er))(hy:zE3 n p=y)(bc:p.length=lp)(hl:lp<=1000)(hc:lp<=c)(hn:At w v n)(hp:IL w w.heap.size A p):Calls Tryz.prog 72 #[v,.slice A lp c] w (kFo x y er w):=by
 subst bc;exact kK0 hr hy hl hc hn hp
theorem kMn {w:World}{v:Value}{x:NT}{er:Int}{p:List Int}{lp c:Nat}(hr:zGm n p=(x,er))(bc:p.length=lp)(hl:lp<=1000)(hn:At w v n)(hp:IL w w.heap.size A p):Calls Tryz.prog 15 #[v,.slice A lp c] w (zP2 (x,er) w):=by
 subst bc;exact kKx hr hl hn hp
open Go.WideShapes (add_plain)
theorem zRu (us vs:List Value):zGg (us++vs)=zGg us++zGg vs:=zM9 us vs
structure zM1 (d:Nat)(w:World)(B:Nat)(us:List Value)(ks:List NT):Prop where
 len:us.length=ks.length
 trees:∀(j:Nat)(m:NT),ks[j]? =some m->∃u,us[j]? =some u/\zV d w B u m
theorem zM1.append {d:Nat}{w:World}{B:Nat}{us vs:List Value}{ks ms:List NT}(h1:zM1 d w B us ks)(h2:zM1 d w B vs ms):zM1 d w B (us++vs) (ks++ms):=
 ⟨by rw[List.length_append,List.length_append,h1.len,h2.len],fun j m hj=>by
  rcases Nat.lt_or_ge j ks.length with hjk|hjk
  ·rw[List.getElem?_append_left hjk]at hj;obtain⟨u,hu,ht⟩:=h1.trees j m hj;exact⟨u,by rw[List.getElem?_append_left (by rw[h1.len];exact hjk)];exact hu,ht⟩
  ·rw[List.getElem?_append_right hjk]at hj;obtain⟨u,hu,ht⟩:=h2.trees _ m hj;exact⟨u,by rw[List.getElem?_append_right (by rw[h1.len];exact hjk),h1.len];exact hu,ht⟩⟩
theorem zM1.below {d:Nat}{w w':World}{B:Nat}{us:List Value}{ks:List NT}(h:zM1 d w B us ks)(hb:Below B w w'):zM1 d w' B us ks:=⟨h.len,fun j m hj=>by
 obtain⟨u,h1,h2⟩:=h.trees j m hj;exact⟨u,h1,h2.below hb⟩⟩
theorem zM1.more {d:Nat}{w:World}{B B':Nat}{us:List Value}{ks:List NT}(h:zM1 d w B us ks)(hb:B<=B'):zM1 d w B' us ks:=⟨h.len,fun j m hj=>by
 obtain⟨u,h1,h2⟩:=h.trees j m hj;exact⟨u,h1,h2.more hb⟩⟩
theorem zM1.deep {d d':Nat}{w:World}{B:Nat}{us:List Value}{ks:List NT}(h:zM1 d w B us ks)(hd:d<=d'):zM1 d' w B us ks:=⟨h.len,fun j m hj=>by
 obtain⟨u,h1,h2⟩:=h.trees j m hj;exact⟨u,h1,h2.deep hd⟩⟩
theorem zM1.form {d:Nat}{w:World}{B:Nat}{us:List Value}{ks:List NT}(h:zM1 d w B us ks):∀u ∈ us,∃lf PA np pc TA nt tc KA nk kc,u=.agg #[.bool lf,.slice PA np pc,.slice TA nt tc,.slice KA nk kc]:=fun u hu=>by
 obtain⟨j,hj,rfl⟩:=List.mem_iff_getElem.1 hu;obtain⟨u',hu',ht⟩:=h.trees j _ (List.getElem?_eq_getElem (by rw[<-h.len];exact hj));rw[List.getElem?_eq_getElem hj]at hu';injection hu' with hu';rw[hu'];exact ht.val
theorem zM1.flat {d:Nat}{w:World}{B:Nat}{us:List Value}{ks:List NT}(h:zM1 d w B us ks):(zGg us).length=ks.length*4/\∀c ∈ zGg us,c.oneCell'=true:=by
 have key:=h.form;constructor
 ·rw[<-h.len];have:∀l:List Value,(∀u ∈ l,u.cells.toList.length=4)->(zGg l).length=l.length*4:=by
   intro l;induction l with
   |nil=>intro _;rfl
   |cons x r ih=>intro hx;show(zGg (x::r)).length=_;rw[zGg,List.flatMap_cons,List.length_append,hx x (List.mem_cons_self ..),<-zGg,ih (fun u hu=>hx u (List.mem_cons_of_mem _ hu)),List.length_cons];omega
  exact this us fun u hu=>by obtain⟨_,_,_,_,_,_,_,_,_,_,rfl⟩:=key u hu;rfl
 ·intro c hc;obtain⟨u,hu,um⟩:=List.mem_flatMap.1 hc;obtain⟨_,_,_,_,_,_,_,_,_,_,rfl⟩:=key u hu;simp[Value.cells]at um;rcases um with rfl|rfl|rfl|rfl<;>rfl
theorem zKn.vals {d:Nat}{w:World}{B:Nat}{ks:List NT}(h:zKn d w B A ks):∃us,zM1 d w B us ks/\VL w B A (zGg us):=by
 have hx:∀j:Fin ks.length,∃u,∃b o,A=some ⟨b,o,none⟩/\b<B/\zV d w B u ks[j]/\zK1 w b (o+j*4) u:=fun j=>by
  obtain⟨b,o,u,e,hb,hn,hc⟩:=h j ks[j] (List.getElem?_eq_getElem j.2);exact⟨u,b,o,e,hb,hn,hc⟩
 obtain⟨f,hf⟩:=Classical.axiomOfChoice hx;have hv:zM1 d w B (List.ofFn f) ks:=⟨by simp,fun j m hj=>by
  have hl:=(List.getElem?_eq_some_iff.1 hj).1;obtain⟨b,o,_,_,hn,_⟩:=hf ⟨j,hl⟩;have e:ks[j]=m:=(List.getElem?_eq_some_iff.1 hj).2;exact⟨f ⟨j,hl⟩,by rw[List.getElem?_eq_getElem (by simpa using hl),List.getElem_ofFn],by rw[<-e];exact hn⟩⟩
 refine⟨_,hv,fun hne=>?_⟩;have hlen:=hv.flat.1;have hpos:0<ks.length:=by
  have:0<(zGg (List.ofFn f)).length:=List.length_pos_iff.2 hne;omega
 obtain⟨b,o,e,hb,_,_⟩:=hf ⟨0,hpos⟩;refine⟨b,o,e,hb,fun q c hq=>?_⟩;have bn:q<ks.length*4:=by rw[<-hlen];exact(List.getElem?_eq_some_iff.1 hq).1
 have hj:q/4<ks.length:=Kb;obtain⟨b',o',e',_,hn,c0,c1,c2,c3,eu,h0,h1,h2,h3⟩:=hf ⟨q/4,hj⟩;rw[e]at e';injection e' with e';injection e' with e1 e2;subst e1 e2;have h4:∀x ∈ List.ofFn f,x.cells.size=4:=fun x hx=>by obtain⟨_,_,_,_,_,_,_,_,_,_,rfl⟩:=hv.form x hx;rfl
 have hu:(List.ofFn f)[q/4]? =some (f ⟨q/4,hj⟩):=by rw[List.getElem?_eq_getElem (by simpa using hj),List.getElem_ofFn]
 have hc:=fun i c hi=>zJ5 (List.ofFn f) (q/4) _ c0 c1 c2 c3 h4 hu eu i c hi;have hq':(zGg (List.ofFn f))[q/4*4+q % 4]? =some c:=by rw[show q/4*4+q % 4=q by omega];exact hq
 have ho:∀i,q % 4=i->o+q=o+q/4*4+i:=fun i hi=>by omega
 match hm:q % 4,Nat.mod_lt q (show 0<4 by omega)with
 |0,_=>rw[hm]at hq';have:=(hc 0 c0 rfl).symm.trans hq';injection this with this;subst this;rw[ho 0 hm];exact h0
 |1,_=>rw[hm]at hq';have:=(hc 1 c1 rfl).symm.trans hq';injection this with this;subst this;rw[ho 1 hm];exact h1
 |2,_=>rw[hm]at hq';have:=(hc 2 c2 rfl).symm.trans hq';injection this with this;subst this;rw[ho 2 hm];exact h2
 |3,_=>rw[hm]at hq';have:=(hc 3 c3 rfl).symm.trans hq';injection this with this;subst this;rw[ho 3 hm];exact h3
theorem kDy {w:World}{base d n c:Nat}{us:List Value}{ks:List NT}(hown:w.ownsRow base 26 4 (.slice A n c) n (zGg us))(hv:zM1 d w w.heap.size us ks):zKn d w w.heap.size A ks:=fun k m hm=>by
 obtain⟨u,hu,ht⟩:=hv.trees k m hm;obtain⟨lf,PA,np,pc,TA,nt,tc,KA,nk,kc,e⟩:=hv.form u (List.mem_of_getElem? hu);have h4:∀x ∈ us,x.cells.size=4:=fun x hx=>by obtain⟨_,_,_,_,_,_,_,_,_,_,rfl⟩:=hv.form x hx;rfl
 obtain⟨A',c',e',_,_,hfree⟩:=zC9 hown;injection e' with e1 _ _;subst e1;have hc:=fun i c hi=>hfree (k*4+i) c (zJ5 us k u _ _ _ _ h4 hu e i c hi);obtain⟨g,hg,_,hgl,_⟩:=hc 0 _ rfl;subst hg;have hc':∀i c,[Value.bool lf,.slice PA np pc,.slice TA nt tc,.slice KA nk kc][i]? =some c->w.cell? ⟨g,0+k*4+i,none⟩=some c:=fun i c hi=>by
  obtain⟨g',e',_,_,h5,_⟩:=hc i c hi;injection e' with e';injection e' with e';subst e';rw[Nat.zero_add];exact h5
 exact⟨g,0,u,rfl,hgl,ht,_,_,_,_,e,hc' 0 _ rfl,hc' 1 _ rfl,hc' 2 _ rfl,hc' 3 _ rfl⟩
theorem kRa {g s:Nat}{o o':Option Nat}(h:o≠some g)(hg:g<s)(hat:o'=o∨∃q,o'=some q/\s<=q):o'≠some g:=by
 rcases hat with e|⟨q,e,hq⟩
 ·rw[e];exact h
 ·rw[e];intro e2;injection e2 with e2;omega
theorem kNu {ts te:TypeId}{size by_:Nat}(E:zQ7 ts te size by_)(W:World){ops:Array Oper}{rest:List Oper}{o:Oper}{a:Act}{Q:Exit->Act->World->Prop}(hgd:o.guard=none)(s x:Operand)
  (ho:o.op=.call {callee:=.builtin .append,args:=#[s,x],argTypes:=#[ts,ts]})
  (b:Nat) (hs:a.eval s=.slice none 0 0) (A:Option Addr) (m c B:Nat) (l:List Value) (hx:a.eval x=.slice A m c) (hn:l.length=m*size) (hp:VL W B A l) (h1:∀u ∈ l,u.oneCell'=true)
  (h63:m<=maxLen) (hby:m*by_<=140737488355328) (hb:b<=W.heap.size)
  (hK:∀A' c' w',w'.ownsRow b te size (.slice A' m c') m l->Below W.heap.size W w'->((Value.slice A' m c').ownBlock=none∨∃g,(Value.slice A' m c').ownBlock=some g/\W.heap.size<=g)->wpList Tryz.prog ops Q rest (a.put o.dst (.slice A' m c')) w'):
  wpList Tryz.prog ops Q (o::rest) a W:=by
 refine zK7 E W hgd s x ho b (.slice none 0 0) 0 [] hs (World.ownsRow_nil _ _ _ _) A m c B l hx hn hp h1 (by rw[Nat.zero_add];exact h63) (by rw[Nat.zero_add];exact hby) hb (fun A' c' w' h1 h2 h3=>?_);rw[Nat.zero_add,List.nil_append]at h1;rw[Nat.zero_add]at h3⊢;exact hK A' c' w' h1 (kP6 h2) h3
theorem zIq {ts te:TypeId}{size by_:Nat}(E:zQ7 ts te size by_)(W:World){ops:Array Oper}{o:Oper}{a:Act}{K:Act->World->Prop}{Q:Exit->Act->World->Prop}{F:Prop}(hgd:o.guard=none)(s x:Operand)
  (ho:o.op=.call {callee:=.builtin .append,args:=#[s,x],argTypes:=#[ts,ts]})
  (b:Nat) (v:Value) (n:Nat) (k:List Value) (hs:a.eval s=v) (hO:W.ownsRow b te size v n k) (A:Option Addr) (m c B:Nat) (l:List Value) (hx:a.eval x=.slice A m c) (hn:l.length=m*size) (hp:VL W B A l) (h1:∀u ∈ l,u.oneCell'=true)
  (h63:n+m<=maxLen) (hby:(n+m)*by_<=140737488355328) (hb:b<=W.heap.size)
  (hK:∀A' c' w',w'.ownsRow b te size (.slice A' (n+m) c') (n+m) (k++l)->W.grownBy w' v.ownBlock->((Value.slice A' (n+m) c').ownBlock=v.ownBlock∨∃g,(Value.slice A' (n+m) c').ownBlock=some g/\W.heap.size<=g)->K (a.put o.dst (.slice A' (n+m) c')) w'):
  if Region.wanted o (yielded ops a.tmps)=true then Oper.wp Tryz.prog o a W K Q else F:=by
 have hw:Region.wanted o (yielded ops a.tmps)=true:=by simp[Region.wanted,hgd]
 rw[if_pos hw];obtain⟨i0,z,hi,hz0,hz1,hz2,hz3⟩:=E.info;have hsz:=E.pos;rcases Nat.eq_zero_or_pos m with hm|hm
 ·subst hm;have hl:l=[]:=List.eq_nil_of_length_eq_zero (by simpa using hn);subst hl;obtain⟨A0,c0,rfl,_⟩:=zC9 hO;have hrun:=zEp (w:=W) (ty:=o.type) (A:=A) (c:=c) E.under hi hO;unfold Oper.wp execOp;simp only[ho,resolve,invoke,builtin,Sem.run_bind,Sem.run_pure,Result.andThen_ok,List.map_toArray,List.map_cons,List.map_nil,hs,hx,hrun];exact hK A0 c0 W (by simpa using hO) ⟨rfl,rfl,rfl,Nat.le_refl _,fun _ _ _=>rfl⟩ (.inl (by cases A0<;>rfl))
 ·have hl:0<l.length:=by have:=Nat.mul_pos hm hsz;omega
  obtain⟨b',o',rfl,_,hc⟩:=hp (List.length_pos_iff.1 hl);refine wp_append_lies W s x ts ho b te i0 z size by_ E.under hi hz0 hz1 hz2 hz3 hsz v n k hs hO ⟨b',o',none⟩ m c l hx hn (fun j u hj=>by rw[add_plain];exact hc j u hj) h1 hm h63 hby hb W.heap.size rfl (fun g cap w' h1 h2 h3 _=>hK _ cap w' h1 h2 ?_);rcases h3 with e|e
  ·exact .inl (by rw[e];rfl)
  ·exact .inr ⟨g,rfl,by omega⟩
theorem kNw {ts te:TypeId}{size by_:Nat}(E:zQ7 ts te size by_)(W:World){ops:Array Oper}{o:Oper}{a:Act}{K:Act->World->Prop}{Q:Exit->Act->World->Prop}{F:Prop}(hgd:o.guard=none)(s x:Operand)
  (ho:o.op=.call {callee:=.builtin .append,args:=#[s,x],argTypes:=#[ts,ts]})
  (b:Nat) (hs:a.eval s=.slice none 0 0) (A:Option Addr) (m c B:Nat) (l:List Value) (hx:a.eval x=.slice A m c) (hn:l.length=m*size) (hp:VL W B A l) (h1:∀u ∈ l,u.oneCell'=true)
  (h63:m<=maxLen) (hby:m*by_<=140737488355328) (hb:b<=W.heap.size)
  (hK:∀A' c' w',w'.ownsRow b te size (.slice A' m c') m l->Below W.heap.size W w'->((Value.slice A' m c').ownBlock=none∨∃g,(Value.slice A' m c').ownBlock=some g/\W.heap.size<=g)->K (a.put o.dst (.slice A' m c')) w'):
  if Region.wanted o (yielded ops a.tmps)=true then Oper.wp Tryz.prog o a W K Q else F:=by
 refine zIq E W hgd s x ho b (.slice none 0 0) 0 [] hs (World.ownsRow_nil _ _ _ _) A m c B l hx hn hp h1 (by rw[Nat.zero_add];exact h63) (by rw[Nat.zero_add];exact hby) hb (fun A' c' w' h1 h2 h3=>?_);rw[Nat.zero_add,List.nil_append]at h1;rw[Nat.zero_add]at h3⊢;exact hK A' c' w' h1 (kP6 h2) h3
mutual
def pathsN (lv:Bool):NT->List Int->List (List Int)
 |.mk lf _ _ ks,q=>(if lf|| !lv then[q]else[])++pathsK lv ks 0 q
def pathsK (lv:Bool):List NT->Nat->List Int->List (List Int)
 |[],_,_=>[]
 |k::r,i,q=>pathsN lv k (q++[(i:Int)])++pathsK lv r (i+1) q
end
theorem kRb (lv:Bool)(n:NT)(q:List Int):pathsN lv n q=(if n.lf|| !lv then[q]else[])++pathsK lv n.ks 0 q:=by cases n;rw[pathsN];rfl
theorem kPs (lv:Bool):∀(a b:List NT)(i:Nat)(q:List Int),pathsK lv (a++b) i q=pathsK lv a i q++pathsK lv b (i+a.length) q
 |[],b,i,q=>by simp[pathsK]
 |k::r,b,i,q=>by rw[List.cons_append,pathsK,pathsK,kPs lv r b (i+1) q,List.append_assoc,List.length_cons,show i+1+r.length=i+(r.length+1) by omega]
theorem kSu (lv:Bool){ks:List NT}{k:Nat}(h:ks[k]? =some m)(q:List Int):pathsK lv (ks.take (k+1)) 0 q=pathsK lv (ks.take k) 0 q++pathsN lv m (q++[(k:Int)]):=by
 have hk:=(List.getElem?_eq_some_iff.1 h).1;rw[zPd h,kPs,List.length_take,show 0+min k ks.length=k by omega];simp[pathsK]
mutual
theorem kPd (lv:Bool):∀(n:NT)(q:List Int),(pathsN lv n q).length<=sizeT n
 |.mk lf _ tx ks,q=>by
  have:=kP2 lv ks 0 q;rw[pathsN,List.length_append,sizeT];split<;>simp<;>omega
theorem kP2 (lv:Bool):∀(ks:List NT)(i:Nat)(q:List Int),(pathsK lv ks i q).length<=sizeK ks
 |[],i,q=>by simp[pathsK,sizeK]
 |k::r,i,q=>by
  have h1:=kPd lv k (q++[(i:Int)]);have h2:=kP2 lv r (i+1) q;rw[pathsK,List.length_append,sizeK];omega
end
mutual
theorem kOz (lv:Bool):∀(n:NT)(q p:List Int),p ∈ pathsN lv n q->p.length<=q.length+sizeT n
 |.mk lf _ tx ks,q,p=>fun h=>by
  rw[pathsN,List.mem_append]at h;rw[sizeT];rcases h with h|h
  ·split at h
   ·simp at h;subst h;omega
   ·cases h
  ·have:=kQt lv ks 0 q p h;omega
theorem kQt (lv:Bool):∀(ks:List NT)(i:Nat)(q p:List Int),p ∈ pathsK lv ks i q->p.length<=q.length+1+sizeK ks
 |[],i,q,p=>fun h=>by cases h
 |k::r,i,q,p=>fun h=>by
  rw[pathsK,List.mem_append]at h;rw[sizeK];rcases h with h|h
  ·have:=kOz lv k _ p h;simp at this;omega
  ·have:=kQt lv r (i+1) q p h;omega
end
theorem kAj {ks:List NT}{k:Nat}(h:ks[k]? =some m):sizeT m<=sizeK ks:=by
 have e:sizeK ks=sizeK (ks.take k)+sizeK (ks.drop k):=by rw[<-kZ,List.take_append_drop]
 rw[zCo h]at e;simp only[sizeK]at e;omega
theorem kYj :zQ7 27 3 1 8:=⟨Tryz.underlying27,by
 obtain⟨i0,hi,hz0,hz1,hz2⟩:=info_parts zSm;exact⟨i0,_,hi,hz0,hz1,hz2,rfl⟩,by decide⟩
theorem kYl :zQ7 66 27 1 24:=⟨Tryz.underlying66,by
 obtain⟨i0,hi,hz0,hz1,hz2⟩:=info_parts kW4;exact⟨i0,_,hi,hz0,hz1,hz2,rfl⟩,by decide⟩
def kV2 (w:World)(b e:Nat)(v:Value)(L:List (List Int)):Prop:=
 ∃(vs:List Value),vs.length=L.length/\w.ownsRow b 27 1 v L.length vs/\∀k u,vs[k]? =some u->zBt w e u (lAt L k)
theorem kNv {w w':World}{b n size:Nat}{t:TypeId}{v:Value}{xs:List Value}(h:w.ownsRow b t size v n xs)(hb:Below w.heap.size w w'):w'.ownsRow b t size v n xs:=by
 refine⟨h.1,?_⟩;rcases h.2 with h4|⟨g,cap,cur,e2,hbg,hg,rest⟩
 ·exact .inl h4
 ·exact .inr ⟨g,cap,cur,e2,hbg,by rw[hb.block g (Array.getElem?_eq_some_iff.1 hg).1];exact hg,rest⟩
theorem kQ2 {w:World}{b b' n size:Nat}{t:TypeId}{v:Value}{xs:List Value}(h:w.ownsRow b t size v n xs)(hb:b'<=b):w.ownsRow b' t size v n xs:=by
 refine⟨h.1,?_⟩;rcases h.2 with h4|⟨g,cap,cur,e2,hbg,rest⟩
 ·exact .inl h4
 ·exact .inr ⟨g,cap,cur,e2,by omega,rest⟩
theorem kV2.weaken {w:World}{b b' e e':Nat}{v:Value}{L:List (List Int)}(h:kV2 w b e v L)(hb:b'<=b)(he:e'<=e):kV2 w b' e' v L:=by
 obtain⟨vs,h1,h2,h3⟩:=h;exact⟨vs,h1,kQ2 h2 hb,fun k u hu=>(h3 k u hu).weaken he⟩
theorem kV2.form {w:World}{b e:Nat}{v:Value}{L:List (List Int)}(h:kV2 w b e v L):∃(A:Option Addr)(c:Nat),v=.slice A L.length c/\L.length<=c:=by
 obtain⟨vs,_,h2,_⟩:=h;obtain⟨A,c,h3,h4,_⟩:=zC9 h2;exact⟨A,c,h3,h4⟩
theorem kV2.rl {w:World}{b e:Nat}{n c:Nat}{L:List (List Int)}(h:kV2 w b e (.slice A n c) L):RL w w.heap.size A L:=by
 obtain⟨vs,h1,h2,h3⟩:=h;rcases h2.2 with⟨e1,h0⟩|⟨g,cap,cur,e1,hbg,hg,hnc,_⟩
 ·exact fun hn=>absurd (List.eq_nil_of_length_eq_zero h0) hn
 ·injection e1 with e1 e2 e3;subst e1;refine fun _=>⟨g,0,rfl,(Array.getElem?_eq_some_iff.1 hg).1,fun k hk=>?_⟩;have hv:vs[k]? =some vs[k]:=List.getElem?_eq_getElem Kb;have hc:=h2.cells (g:=g) rfl k _ hv;rw[add_plain]at hc;obtain⟨Ak,ck,e2,h5,_,h7⟩:=(h3 k _ hv).open_;rw[e2]at hc;exact⟨Ak,ck,hc,h5,h7⟩
theorem kQu {L M:List (List Int)}{k:Nat}(h:k<L.length):lAt (L++M) k=lAt L k:=by
 rw[kSa _ k Kf,kSa L k h,List.getElem_append_left h]
theorem kXx {w:World}{b n c:Nat}{t:TypeId}{vs:List Value}(h:w.ownsRow b t 1 (.slice A n c) n vs):VL w w.heap.size A vs:=fun hn=>by
 rcases h.2 with⟨e1,h0⟩|⟨g,cap,cur,e1,hbg,hg,hnc,_⟩
 ·have:=h.1;rw[h0]at this;exact absurd (List.eq_nil_of_length_eq_zero (by simpa using this)) hn
 ·injection e1 with e1 e2 e3;subst e1;refine⟨g,0,rfl,(Array.getElem?_eq_some_iff.1 hg).1,fun k u hk=>?_⟩;have:=h.cells (g:=g) rfl k u hk;rwa[add_plain]at this
theorem kOa (l:List Int):∀u ∈ l.map (Value.int .i64),u.oneCell'=true:=fun u hu=>by
 obtain⟨x,_,rfl⟩:=List.mem_map.1 hu;rfl
def kYm (e:Nat)(L:List (List Int))(w:World)(en:Ending)(w':World):Prop:=
 ∃A c,en=.returned (.slice A L.length c)/\kV2 w' w.heap.size e (.slice A L.length c) L/\Below w.heap.size w w'
structure Bx (B gq go gh gw:Nat):Prop where
 q:B<=gq
 o:B<=go
 h:B<=gh
 k:B<=gw
 oq:go≠gq
 oh:go≠gh
 ok:go≠gw
 hq:gh≠gq
 hk:gh≠gw
structure St (B gq go gh gw:Nat)(fid:FuncId)(w:World)(vo vh:Value)(L:List (List Int))(h:List Int):Prop where
 asked:w.cell? ⟨gq,0,none⟩=some (.func (.func fid) #[] #[])
 walk:w.cell? ⟨gw,0,none⟩=some (.func (.func 87) #[] #[.pointer (some ⟨gq,0,none⟩),.pointer (some ⟨go,0,none⟩),.pointer (some ⟨gh,0,none⟩),.pointer (some ⟨gw,0,none⟩)])
 o:w.heap[go]? =some (.cells #[vo] 66 (0,0))
 here:w.heap[gh]? =some (.cells #[vh] 27 (0,0))
 row:∃vs:List Value,vs.length=L.length/\w.ownsRow B 27 1 vo L.length vs/\∀k u,vs[k]? =some u->zBt w B u (lAt L k)/\∀j,u.ownBlock=some j->vh.ownBlock≠some j
 own:zBt w B vh h
 apo:vo.ownBlock≠some gq/\vo.ownBlock≠some go/\vo.ownBlock≠some gh/\vo.ownBlock≠some gw
 aph:vh.ownBlock≠some gq/\vh.ownBlock≠some go/\vh.ownBlock≠some gh/\vh.ownBlock≠some gw
theorem zBt.set {w:World}{B g k:Nat}{u x:Value}{l:List Int}{cs:Array Value}{t:TypeId}{fr:Nat×Nat}(h:zBt w B u l)(hg:w.heap[g]? =some (.cells cs t fr))(ht:t≠3):zBt (w.setCell ⟨g,k,none⟩ x) B u l:=by
 refine zBt.of_own (ownsRow_setCell_other h.own (a:=⟨g,k,none⟩) (fun e=>?_) _) rfl;rcases h.own.2 with⟨e1,_⟩|⟨g',cap,cur,e1,_,hg',_⟩
 ·rw[e1]at e;cases e
 ·rw[e1]at e;injection e with e;have e:g'=g:=e;subst e;rw[hg]at hg';injection hg' with hg';injection hg' with _ h2;exact ht h2
theorem zBt.kept {w w':World}{B:Nat}{u:Value}{l:List Int}{o:Option Nat}(h:zBt w B u l)(hg:w.grownBy w' o)(hne:∀j,u.ownBlock=some j->o≠some j):zBt w' B u l:=by
 refine zBt.of_own (h.own.kept hg ?_) rfl;cases hu:u.ownBlock with
 |none=>exact .inl rfl
 |some j=>exact .inr (fun e=>hne j hu e.symm)
theorem zBt.less {w:World}{B n c:Nat}{l:List Int}{i:Int}(h:zBt w B (.slice A (n+1) c) (l++[i]))(hn:l.length=n):zBt w B (.slice A n c) l:=by
 have h1:=h.own;rw[List.length_append,hn]at h1;refine zBt.of_own (n:=n) ⟨by simp[hn],?_⟩ hn.symm;rcases h1.2 with⟨_,e0⟩|⟨g,cap,cur,e,hB,hg,hc,hm,hs,hx⟩
 ·simp at e0
 ·injection e with e1 e2 e3;refine .inr ⟨g,cap,cur,by rw[e1,e3],hB,hg,by simp at hc;omega,hm,hs,?_⟩;have h2:=congrArg (List.take (n*1)) hx;rw[List.take_take,show min (n*1) ((n+[i].length)*1)=n*1 by simp]at h2;rw[h2,List.map_append,List.take_append_of_le_length (by simp[hn]),List.take_of_length_le (by simp[hn])]
section
variable {B gq go gh gw:Nat}{fid:FuncId}{w wx w2:World}{vo vh:Value}{L:List (List Int)}{h:List Int}
theorem St.below {w':World}(s:St B gq go gh gw fid w vo vh L h)(hb:Below w.heap.size w w'):St B gq go gh gw fid w' vo vh L h:=by
 obtain⟨vs,h1,h2,h3⟩:=s.row;exact⟨(hb.cell (kQ s.asked)).trans s.asked,(hb.cell (kQ s.walk)).trans s.walk,kI s.o hb,kI s.here hb,⟨vs,h1,kNv h2 hb,fun k u hu=>⟨(h3 k u hu).1.below hb,(h3 k u hu).2⟩⟩,s.own.below hb,s.apo,s.aph⟩
theorem St.push (bx:Bx B gq go gh gw){vs:List Value}{vo' v5:Value}{l:List Int}{nl:Nat}(s:St B gq go gh gw fid w vo vh L h)(hb:Below w.heap.size w wx)(hnl:nl=L.length)(hv1:vs.length=L.length)(hv2:w.ownsRow B 27 1 vo nl vs)(hv3:∀k u,vs[k]? =some u->zBt w B u (lAt L k)/\∀j,u.ownBlock=some j->vh.ownBlock≠some j)
  (h5:zBt wx B v5 l) (D6:∀j,v5.ownBlock=some j->w.heap.size<=j) (hown:w2.ownsRow B 27 1 vo' (nl+1) (vs++[v5])) (hgrow:wx.grownBy w2 vo.ownBlock) (hat:vo'.ownBlock=vo.ownBlock∨∃g,vo'.ownBlock=some g/\wx.heap.size<=g):
  St B gq go gh gw fid (w2.setCell ⟨go,0,none⟩ vo') vo' vh (L++[l]) h:=by
 subst hnl;have x:=s.below hb;have lq:=kQ x.asked;have lk:=kQ x.walk;have lo:=lt_of_block x.o;have lh:=lt_of_block x.here;have lq:gq<wx.heap.size:=lq;have lk:gw<wx.heap.size:=lk;have gb:∀b,b<wx.heap.size->vo.ownBlock≠some b->w2.heap[b]? =wx.heap[b]? :=fun b h1 h2=>hgrow.block b h1 (fun e=>h2 e.symm);have aH:w2.heap[go]? =some (.cells #[vo] 66 (0,0)):=(gb go lo x.apo.2.1).trans x.o;have ap':=fun g(h1:vo.ownBlock≠some g)(h2:g<wx.heap.size)=>kRa h1 h2 hat;have hrow:=kNv hv2 hb;refine⟨?_,?_,?_,?_,⟨vs++[v5],by simp[hv1],?_,fun k u hu=>?_⟩,?_,⟨ap' _ x.apo.1 lq,ap' _ x.apo.2.1 lo,ap' _ x.apo.2.2.1 lh,ap' _ x.apo.2.2.2 lk⟩,x.aph⟩
 ·exact(World.cell?_of_block (a:=⟨gq,0,none⟩) ((Below.heap_setCell _ _ _ _ (by show gq≠go;exact bx.oq.symm)).trans (gb gq lq x.apo.1))).trans x.asked
 ·exact(World.cell?_of_block (a:=⟨gw,0,none⟩) ((Below.heap_setCell _ _ _ _ (by show gw≠go;exact bx.ok.symm)).trans (gb gw lk x.apo.2.2.2))).trans x.walk
 ·rw[zG4 aH];rfl
 ·exact(Below.heap_setCell _ _ _ _ (by show gh≠go;exact bx.oh.symm)).trans ((gb gh lh x.apo.2.2.1).trans x.here)
 ·rw[List.length_append];exact ownsRow_setCell_other hown (a:=⟨go,0,none⟩) (ap' _ x.apo.2.1 lo) _
 ·rcases Nat.lt_or_ge k L.length with hl|hl
  ·rw[List.getElem?_append_left Kb]at hu;rw[kQu hl];exact⟨(((hv3 k u hu).1.below hb).grown hrow hgrow).set aH Kd,(hv3 k u hu).2⟩
  ·rw[List.getElem?_append_right Kb]at hu;have oC:k-vs.length=0:=by
    have:=(List.getElem?_eq_some_iff.1 hu).1;simp at this;omega
   rw[oC]at hu;have hu:v5=u:=by simpa using hu
   subst hu;have:lAt (L++[l]) k=l:=by
    have:k=L.length:=Kb;subst this;simp[lAt]
   rw[this];exact⟨(h5.grown hrow hgrow).set aH Kd,fun j hj e=>by have:=D6 j hj;have:=(s.own.lt e).2;omega⟩
 ·exact(x.own.grown hrow hgrow).set aH Kd
theorem St.more (bx:Bx B gq go gh gw){vh':Value}{i:Int}{n:Nat}(s:St B gq go gh gw fid w vo vh L h)(hb:Below w.heap.size w wx)(hn:n=h.length)(hown:w2.ownsRow B 3 1 vh' (n+1) (h.map (Value.int .i64)++[.int .i64 i]))(hgrow:wx.grownBy w2 vh.ownBlock)(hat:vh'.ownBlock=vh.ownBlock∨∃g,vh'.ownBlock=some g/\wx.heap.size<=g):
  St B gq go gh gw fid (w2.setCell ⟨gh,0,none⟩ vh') vo vh' L (h++[i]):=by
 subst hn;have x:=s.below hb;have lq:gq<wx.heap.size:=kQ x.asked;have lk:gw<wx.heap.size:=kQ x.walk;have lo:=lt_of_block x.o;have lh:=lt_of_block x.here;have gb:∀b,b<wx.heap.size->vh.ownBlock≠some b->w2.heap[b]? =wx.heap[b]? :=fun b h1 h2=>hgrow.block b h1 (fun e=>h2 e.symm);have yh:w2.heap[gh]? =some (.cells #[vh] 27 (0,0)):=(gb gh lh x.aph.2.2.1).trans x.here;have ap':=fun g(h1:vh.ownBlock≠some g)(h2:g<wx.heap.size)=>kRa h1 h2 hat;obtain⟨vs,hv1,hv2,hv3⟩:=x.row;refine⟨?_,?_,?_,?_,⟨vs,hv1,?_,fun k u hu=>⟨?_,fun j hj=>?_⟩⟩,?_,x.apo,⟨ap' _ x.aph.1 lq,ap' _ x.aph.2.1 lo,ap' _ x.aph.2.2.1 lh,ap' _ x.aph.2.2.2 lk⟩⟩
 ·exact(World.cell?_of_block (a:=⟨gq,0,none⟩) ((Below.heap_setCell _ _ _ _ (by show gq≠gh;exact bx.hq.symm)).trans (gb gq lq x.aph.1))).trans x.asked
 ·exact(World.cell?_of_block (a:=⟨gw,0,none⟩) ((Below.heap_setCell _ _ _ _ (by show gw≠gh;exact bx.hk.symm)).trans (gb gw lk x.aph.2.2.2))).trans x.walk
 ·exact(Below.heap_setCell _ _ _ _ (by show go≠gh;exact bx.oh)).trans ((gb go lo x.aph.2.1).trans x.o)
 ·rw[zG4 yh];rfl
 ·exact ownsRow_setCell_other (hv2.kept hgrow (zJz x.own.own hv2 Kd)) (a:=⟨gh,0,none⟩) x.apo.2.2.1 _
 ·exact((hv3 k u hu).1.kept hgrow (hv3 k u hu).2).set yh Kd
 ·have hlt:=((hv3 k u hu).1.lt hj).2;rcases hat with e|⟨g,e,hg⟩
  ·rw[e];exact(hv3 k u hu).2 j hj
  ·rw[e];intro e2;injection e2 with e2;omega
 ·have:=zBt.of_own (l:=h++[i]) (n:=h.length+1) (by rw[List.map_append];exact hown) Kc;exact this.set yh Kd
theorem St.less (bx:Bx B gq go gh gw){n c:Nat}{i:Int}(s:St B gq go gh gw fid w vo (.slice A (n+1) c) L (h++[i]))(hn:h.length=n):St B gq go gh gw fid (w.setCell ⟨gh,0,none⟩ (.slice A n c)) vo (.slice A n c) L h:=by
 have e:(Value.slice A n c).ownBlock=(Value.slice A (n+1) c).ownBlock:=by cases A<;>rfl
 obtain⟨vs,hv1,hv2,hv3⟩:=s.row;refine⟨?_,?_,?_,?_,⟨vs,hv1,?_,fun k u hu=>⟨(hv3 k u hu).1.set s.here Kd,fun j hj=>?_⟩⟩,?_,s.apo,by rw[e];exact s.aph⟩
 ·exact(World.cell?_of_block (a:=⟨gq,0,none⟩) (Below.heap_setCell _ _ _ _ (by show gq≠gh;exact bx.hq.symm))).trans s.asked
 ·exact(World.cell?_of_block (a:=⟨gw,0,none⟩) (Below.heap_setCell _ _ _ _ (by show gw≠gh;exact bx.hk.symm))).trans s.walk
 ·exact(Below.heap_setCell _ _ _ _ (by show go≠gh;exact bx.oh)).trans s.o
 ·rw[zG4 s.here];rfl
 ·exact ownsRow_setCell_other hv2 (a:=⟨gh,0,none⟩) s.apo.2.2.1 _
 ·rw[e];exact(hv3 k u hu).2 j hj
 ·exact(s.own.less hn).set s.here Kd
end
theorem kP3 {ts te:TypeId}{size by_:Nat}(E:zQ7 ts te size by_)(W:World){ops:Array Oper}{o:Oper}{a:Act}{K:Act->World->Prop}{Q:Exit->Act->World->Prop}{F:Prop}(hgd:o.guard=none)(s x:Operand)
  (ho:o.op=.call {callee:=.builtin .append,args:=#[s,x],argTypes:=#[ts,ts]})
  (ao:Option Addr) (n cap:Nat) (olds:List Value) (hs:a.eval s=.slice ao n cap) (hnone:ao=none->n=0/\cap=0) (hlo:olds.length=n*size) (holds:∀b,ao=some b->∀j u,olds[j]? =some u->W.cell? (b.add j)=some u)
  (ad:Addr) (m c:Nat) (news:List Value) (hx:a.eval x=.slice (some ad) m c) (hn:news.length=m*size) (hc:∀j u,news[j]? =some u->W.cell? (ad.add j)=some u) (h1c:∀u ∈ news,u.oneCell'=true)
  (hfull:cap<n+m) (b1:n+m<=maxLen) (b2:(n+m)*by_<=140737488355328)
  (hK:∀v' w',w'.ownsRow W.heap.size te size v' (n+m) (olds++news)->W.grownBy w' none->K (a.put o.dst v') w'):
  if Region.wanted o (yielded ops a.tmps)=true then Oper.wp Tryz.prog o a W K Q else F:=by
 have hw:Region.wanted o (yielded ops a.tmps)=true:=by simp[Region.wanted,hgd]
 rw[if_pos hw];obtain⟨i,z,h2,h3,h4,h5,h6⟩:=E.info;cases ao with
 |some b=>
  obtain⟨v',w',hrun,r1,r2⟩:=run_append_arg_grows (P:=Tryz.prog) W ts o.type te i z size by_ E.under h2 h3 h4 h5 h6 E.pos b n cap olds hlo (holds b rfl) ad m c news hn hc hfull b1 b2;unfold Oper.wp;simp[execOp,ho,resolve,invoke,builtin,hs,hx,hrun,Result.andThen];exact hK v' w' r1 r2
 |none=>
  obtain⟨rfl,rfl⟩:=hnone rfl;obtain rfl:olds=[]:=List.eq_nil_of_length_eq_zero (by simpa using hlo);obtain⟨v',w',hrun,r1,r2,_⟩:=run_append_own (P:=Tryz.prog) W W.heap.size ts o.type te i z size by_ E.under h2 h3 h4 h5 h6 E.pos (.slice none 0 0) 0 [] (World.ownsRow_nil W _ te size) ad m c news hn hc h1c b1 b2 Km;unfold Oper.wp;simp[execOp,ho,resolve,invoke,builtin,hs,hx,hrun,Result.andThen];exact hK v' w' r1 r2
theorem kNr {w:World}{g:Nat}{v:Value}{t:TypeId}(h:w.heap[g]? =some (.cells #[v] t (0,0))):w.cell? ⟨g,0,none⟩=some v/\w.frozen? ⟨g,0,none⟩=false:=by
 constructor<;>simp[World.cell?,World.frozen?,h]
theorem kV3 {w:World}{B n c:Nat}{l:List Int}(h:zBt w B (.slice A n c) l)(hn:l.length=n):(∀w',Below w.heap.size w w'->A=none->n=0/\n=0)/\(l.map (Value.int .i64)).length=n*1/\∀w',Below w.heap.size w w'->∀b,A=some b->∀j u,(l.map (Value.int .i64))[j]? =some u->w'.cell? (b.add j)=some u:=by
 have hown:=h.own;rw[hn]at hown;refine⟨fun _ _ e=>?_,by simp[hn],fun w' hb b e j u hu=>?_⟩
 ·rcases hown.2 with⟨_,e0⟩|⟨g,cap,cur,e1,_⟩
  ·exact⟨e0,e0⟩
  ·rw[e]at e1;injection e1 with e1;cases e1
 ·obtain⟨b',o',e2,hlt,hc⟩:=kXx hown (fun e0=>by rw[e0]at hu;simp at hu);rw[e]at e2;injection e2 with e2;subst e2;rw[add_plain];exact(hb.cell (p:=⟨b',o'+j,none⟩) hlt).trans (hc j u hu)
theorem kUx (w:World)(x:Value)(t:TypeId):∀j u,[x][j]? =some u->(w.alloc (.cells #[x] t)).cell? ((⟨w.heap.size,0,none⟩:Addr).add j)=some u:=fun j u hu=>by
 match j,hu with
 |0,hu=>
  simp at hu;subst hu;rw[add_plain,Nat.zero_add,World.cell?_alloc_at _ _ _ _ rfl];rfl
 |j+1,hu=>simp at hu
structure Ask (fid:FuncId)(lv:Bool):Prop where
 enters:∀args w,(callFunc fid args).run Tryz.prog w=.ok (.enter fid args) w
 does:∀d w v n,zV d w w.heap.size v n->Calls Tryz.prog fid #[v] w (jA (.bool (n.lf|| !lv)) w)
theorem kYp :Ask 50 false:=⟨enters_of Tryz.func50 Ka rfl,fun d w v n hn=>by
 obtain⟨lf,PA,np,pc,TA,nt,tc,KA,nk,kc,rfl⟩:=hn.val;have HB:=hd (kNn w (.cells #[.bool lf,.slice PA np pc,.slice TA nt tc,.slice KA nk kc] 26));have HF:=hd (show(n.lf|| !false)=true by simp);clear hn;go_enter Tryz.func50,Tryz.ntmps50
 go_wp2
 go_ret
 exact⟨kC HF.o.symm,HB.o⟩⟩
def kXy (B gq go gh gw:Nat)(fid:FuncId)(L:List (List Int))(h:List Int)(w:World)(e:Ending)(w':World):Prop:=
 e=.returned (.tuple #[])/\(∃vo vh,St B gq go gh gw fid w' vo vh L h)/\Below B w w'
section
variable {P:Program}{ops:Array Oper}{Q:Exit->Act->World->Prop}{S:World->Prop}{z:Nat}
def kPa (P:Program)(ops:Array Oper)(Q:Exit->Act->World->Prop)(S:World->Prop)(z:Nat):Nat->Array Bool->Act->World->Prop
 |0,listed,a,w=>Region.ready .any ops listed=[]/\Q .normal a w
 |n+1,listed,a,w=>(Region.ready .any ops listed=[]->Q .normal a w)/\
   ∀i ∈ Region.ready .any ops listed,wpOp P ops Q i (fun a' w'=>(i≠z->S w')/\kPa P ops Q S z n (listed.setIfInBounds i true) a' w') a w
theorem kTd :∀(n:Nat)(listed:Array Bool)(a:Act)(w:World),kPa P ops Q S z n listed a w->wpAny P .any ops Q n listed a w
 |0,_,_,_,h=>h
 |n+1,_,_,_,h=>⟨h.1,fun i hi=>wpOp_mono (fun a' w' h'=>kTd n _ a' w' h'.2) (h.2 i hi)⟩
def kUy (ops:Array Oper)(z i:Nat):Bool:=match ops[z]? with
 |some o=>o.after.toList.any fun e=>Region.binds .any e&&e.on==i
 |none=>false
theorem kW7 {i:Nat}{oi:Oper}{v:Value}(hi:ops[i]? =some oi)(eP:Region.noSelect ops=true)(hz:kUy ops z i=true)
  (hQ:∀c a w,Q (.panic c) (a.put oi.dst v) w->Q (.panic c) a w):
  ∀(n:Nat)(listed:Array Bool)(a:Act)(w:World),
   (∀j oj,ops[j]? =some oj->j≠i->listed.getD j true=false->(∀e ∈ oj.after,Region.binds .any e=true->e.on≠i)->oi.apart ops oj=true)->
   i ∈ Region.ready .any ops listed->YieldsIf P ops S oi v a->S w->
   kPa P ops Q S z n (listed.setIfInBounds i true) (a.put oi.dst v) w->kPa P ops Q S z (n+1) listed a w:=by
 have sel:=Region.noSelect_spec eP;intro n;induction n with
 |zero=>
  intro listed a w _ hr hy hS H;refine⟨fun h=>absurd hr (by rw[h];simp),fun j hj=>?_⟩;rcases Classical.em (j=i)with e|e
  ·subst e;exact hy.wpOp hi hS ⟨fun _=>hS,H⟩
  ·have:=ready_mono hj e;rw[H.1]at this;cases this
 | succ n ih=>
  intro listed a w hfree hr hy hS H;refine⟨fun h=>absurd hr (by rw[h];simp),fun j hj=>?_⟩;rcases Classical.em (j=i)with e|e
  ·subst e;exact hy.wpOp hi hS ⟨fun _=>hS,H⟩
  ·obtain⟨cG,oj,dv,hall⟩:=mem_ready.1 hj;have cH:=(mem_ready.1 hr).1;have hno:∀e ∈ oj.after,Region.binds .any e=true->e.on≠i:=fun x hx hb heq=>by
    have h1:=hall x hx hb;rw[heq]at h1;rcases Nat.lt_or_ge i listed.size with h'|h'
    ·simp[h']at cH h1;rw[cH]at h1;cases h1
    ·simp[Array.getElem?_eq_none h']at h1
   have xf:j≠z:=fun ez=>by
    subst ez;unfold kUy at hz;rw[dv]at hz;obtain⟨x,hx,hx2⟩:=List.any_eq_true.1 hz;simp only[Bool.and_eq_true,beq_iff_eq]at hx2;exact hno x (by simpa using hx) hx2.1 hx2.2
   have h2:=wpOp_putIf dv (hfree j oj dv e cG hno) (fun cs b=>sel i oi cs b hi) (fun cs b=>sel j oj cs b dv) hQ hy (H.2 j (ready_mono hj e));refine wpOp_mono (fun a' w' h3=>⟨h3.2.1,ih (listed.setIfInBounds j true) a' w' (fun k ok hk ni hun hn=>hfree k ok hk ni ?_ hn) (ready_mono hr (Ne.symm e)) h3.1 (h3.2.1 xf) ?_⟩) h2
   ·rcases Classical.em (j=k)with ek|ek
    ·subst ek;exact cG
    ·rw[getD_set_ne true ek]at hun;exact hun
   ·rw[Array.setIfInBounds_comm _ _ e];exact h3.2.2
theorem kQa {i:Nat}{oi:Oper}(v:Value){n:Nat}{listed:Array Bool}{a:Act}{w:World}(hi:ops[i]? =some oi)(hs:Region.noSelect ops=true)(hz:kUy ops z i=true)(hf:Region.free .any ops listed i=true)(hr:(Region.ready .any ops listed).contains i=true)
  (hQ:∀c a w,Q (.panic c) (a.put oi.dst v) w->Q (.panic c) a w) (hw:Region.wanted oi (yielded ops a.tmps)=true) (hy:∀w,S w->(execOp a.eval oi).run P w=.ok (.value v) w) (hS:S w)
  (h:kPa P ops Q S z n (listed.setIfInBounds i true) (a.put oi.dst v) w):kPa P ops Q S z (n+1) listed a w:=
 kW7 hi hs hz hQ n listed a w (Region.free_spec hi hf) (by simpa using hr) (.inl ⟨hw,hy⟩) hS h
theorem kUz {i:Nat}{o:Oper}{n:Nat}{listed:Array Bool}{a:Act}{w:World}(hr:Region.ready .any ops listed=[i])(hi:ops[i]? =some o)
  (h:∀K:Act->World->Prop,(∀a' w',(i≠z->S w')->kPa P ops Q S z n (listed.setIfInBounds i true) a' w'->K a' w')->if Region.wanted o (yielded ops a.tmps)=true then Oper.wp P o a w K Q else False):kPa P ops Q S z (n+1) listed a w:=by
 refine⟨fun e=>absurd (e.symm.trans hr) Kc,fun j hj=>?_⟩;rw[hr,List.mem_singleton]at hj;subst hj;have h1:=h (fun a' w'=>(j≠z->S w')/\kPa P ops Q S z n (listed.setIfInBounds j true) a' w') (fun a' w' h1 h2=>⟨h1,h2⟩);unfold wpOp;simp only[hi];split
 ·rename_i hw
  rw[if_pos hw]at h1;exact .inl h1
 ·rename_i hw
  rw[if_neg hw]at h1;exact h1.elim
theorem kXz {n:Nat}{listed:Array Bool}{a:Act}{w:World}(hr:Region.ready .any ops listed=[])(h:Q .normal a w):kPa P ops Q S z n listed a w:=by
 cases n with
 |zero=>exact⟨hr,h⟩
 |succ n=>exact⟨fun _=>h,by rw[hr];simp⟩
theorem kW8 {id:Nat}{a:Act}{w:World}(hm:P.follows .mixedOrders=true)(h:kPa P ops Q S z ops.size (Array.replicate ops.size false) a w.drew):(Code.region id ops true).wp P Q a w:=
 wp_region_any hm (kTd _ _ _ _ h)
end
section
variable {w w':World}{g:Nat}{a b x y:Value}{t:TypeId}
theorem kM8 (h:w.heap[g]? =some (.cells #[a,b] t (0,0))):w.cell? ⟨g,0,none⟩=some a/\w.cell? ⟨g,1,none⟩=some b/\w.frozen? ⟨g,0,none⟩=false/\w.frozen? ⟨g,1,none⟩=false:=by
 refine⟨?_,?_,?_,?_⟩<;>simp[World.cell?,World.frozen?,h]
theorem kAk (w:World)(g:Nat)(t:TypeId)(cs:Array Value)(k:Nat)(x:Value)(h:w.heap[g]? =some (.cells cs t (0,0))):(w.setCell ⟨g,k,none⟩ x).heap[g]? =some (.cells (cs.setIfInBounds k x) t (0,0)):=by
 have hlt:=lt_of_block h;have h':w.heap[g]=.cells cs t (0,0):=by simpa[Array.getElem?_eq_getElem hlt]using h
 show(w.heap.modify g _)[g]? =_
 rw[Array.getElem?_eq_getElem (by simpa using hlt),Array.getElem_modify_self,h'];rfl
end
theorem zK2 (w:World)(o o':Obj):((w.alloc o).alloc o').heap[w.heap.size]? =some o/\((w.alloc o).alloc o').heap[w.heap.size+1]? =some o':=by
 refine⟨?_,?_⟩
 ·rw[Below.heap_alloc _ _ _ Kc];exact heap_alloc_new _ _
 ·rw[<-sz1 (w:=w) (A:=o)];exact heap_alloc_new _ _
theorem kAl :madeCells #[Value.int .i64 0] 0=#[]:=by simp[madeCells,Array.range]
theorem kAm (A:Option Addr)(l:List Int)(n c:Nat)(w:World)(hn:l.length=n)(hl:n<=1000)(hp:IL w w.heap.size A l):
  Calls Tryz.prog 77 #[.slice A n c] w (zVq w l):=by
 have HP:=hd hp;have HN:=hd hn;clear hp hn;rcases A with _|a
 ·have hnil:=fun W=>Go.Lib.run_eql_slice_nil (P:=Tryz.prog) W 27 3 none n c 0 0 Tryz.underlying27;have HL:=hd (show l=[] by
   rcases Classical.em (l=[])with h|h
   ·exact h
   ·obtain⟨_,_,h,_⟩:=HP.o h;cases h)
  go_enter Tryz.func77,Tryz.ntmps77
  go_wp2
  go_ret
  exact⟨_,rfl,by rw[HL.o];exact zBt.nil _ _,Below.refl _ _⟩
 ·have hnil:=fun W=>Go.Lib.run_eql_slice_nil (P:=Tryz.prog) W 27 3 (some a) n c 0 0 Tryz.underlying27;go_enter Tryz.func77,Tryz.ntmps77
  have HO:=hd (show zBt (w.alloc (.cells #[] 3)) w.heap.size (.slice (some ⟨w.heap.size,0,none⟩) 0 0) []from kAl▸zBt.made w w.heap.size 0 Kb Km);go_wp2_with(at_builtin;(refine zCf _ rfl (.tmp 5) (.tmp 6) rfl w.heap.size (.slice (some ⟨w.heap.size,0,none⟩) 0 0) [] l rfl HO.o (some a) n c w.heap.size rfl HN.o (HP.o.below (Kl.alloc Km _)) (by have:=HN.o;simp;omega) Kc ?_;intro v' w1 aQ hg1))
  go_ret
  exact⟨v',rfl,by simpa using aQ,hg1.below _ _ Km Kc (Kl.alloc Km _)⟩
