import Derived.Test.YtmkciabefepelaaGreatJTPut
set_option maxRecDepth 4000
namespace Go.Proofs.YtmkciabefepelaaGreat
open Go.RowKit
variable {m n:NT}{r:NT×Int}{e:Ending}{A TA:Option Addr}{l p:List Int}{er:Int}{L:List (Option Addr×List Int)}{ops:Array Oper}{q:List Int×Int}
def lfT (l:List Int):NT:=.mk true [] l []
def elT (ks:List NT):NT:=.mk false [(tyKey,{data:=#[112]})] [] ks
theorem kKs {cp kc nk:Nat}(cT:1<=cp)(hk:nk<=10)(hkc:nk<=kc):zU0 [((tyKey,{data:=#[112]}):Pr)] 0 nk cp 0 kc:=⟨⟨by simp,zZd⟩,by simp,by omega,by omega,by simpa using cT,by omega,hkc⟩
theorem kHt {w:World}{b:Nat}(hb:b<w.heap.size)(hc:w.cell? ⟨b,0,none⟩=some (.int .i64 0)):IL w w.heap.size (some ⟨b,0,none⟩) [0]:=fun _=>
 ⟨b,0,rfl,hb,fun k hk=>by obtain rfl:k=0:=(by simp at hk;omega);exact hc⟩
def At (w:World)(v:Value)(n:NT):Prop:=∃d,zV d w w.heap.size v n
theorem At.later {w w':World}{v:Value}(h:At w v n)(hb:Below w.heap.size w w'):At w' v n:=by
 obtain⟨d,h⟩:=h;exact⟨d,h.later hb⟩
theorem At.val {w:World}{v:Value}(h:At w v n):∃lf PA np pc TA nt tc KA nk kc,v=.agg #[.bool lf,.slice PA np pc,.slice TA nt tc,.slice KA nk kc]:=by
 obtain⟨d,h⟩:=h;exact h.val
theorem At.of_tree {P:Nat->Prop}{d:Nat}{w:World}{v:Value}(h:zAx P d w v n)(hP:∀b,P b->b<w.heap.size):At w v n:=⟨d,h.at_ hP⟩
theorem zP2.open_ {w w':World}(h:zP2 r w e w'):∃lf PA np pc TA nt tc KA nk kc,e=.returned (.tuple #[.agg #[.bool lf,.slice PA np pc,.slice TA nt tc,.slice KA nk kc],.int .i64 r.2])/\At w' (.agg #[.bool lf,.slice PA np pc,.slice TA nt tc,.slice KA nk kc]) r.1/\Below w.heap.size w w':=by
 obtain⟨v,d,rfl,ht,hb⟩:=h;have ha:=At.of_tree ht (fun b hb=>hb.2);obtain⟨lf,PA,np,pc,TA,nt,tc,KA,nk,kc,rfl⟩:=ha.val;exact⟨_,_,_,_,_,_,_,_,_,_,rfl,ha,hb⟩
def kN8 (L:List (Nat×Obj))(w:World):Prop:=∀x ∈ L,w.heap[x.1]? =some x.2
theorem kN8.keep {L:List (Nat×Obj)}{w w':World}(h:kN8 L w)(hb:Below w.heap.size w w'):kN8 L w':=fun x hx=>kI (h x hx) hb
theorem kN8.add {L:List (Nat×Obj)}{w:World}(h:kN8 L w)(o:Obj):kN8 ((w.heap.size,o)::L) (w.alloc o):=fun x hx=>by
 rcases List.mem_cons.1 hx with rfl|hx
 ·exact heap_alloc_new _ _
 ·exact kI (h x hx) (Kk.alloc Kl _)
theorem kN8.nil (w:World):kN8 [] w:=fun x hx=>by cases hx
theorem kN8.hd {b:Nat}{o:Obj}{L:List (Nat×Obj)}{w:World}(h:kN8 ((b,o)::L) w):w.heap[b]? =some o:=h _ (List.mem_cons_self ..)
theorem kN8.tl {x:Nat×Obj}{L:List (Nat×Obj)}{w:World}(h:kN8 (x::L) w):kN8 L w:=fun y hy=>h y (List.mem_cons_of_mem _ hy)
theorem kKt {w:World}{v:Value}{c:Nat}(hl:p.length<=1000)(hn:At w v n)(hp:IL w w.heap.size A p):Calls Tryz.prog 30 #[v,.slice A p.length c] w (zP2 (zGm n p) w):=by
 obtain⟨d,hn⟩:=hn;exact zU9 d w v n A p p.length c rfl Kb hn hp
theorem kWc {w:World}{v:Value}{c:Nat}(hl:p.length<=1000)(hn:At w v n)(hp:IL w w.heap.size A p):Calls Tryz.prog 97 #[v,.slice A p.length c] w (zP2 (zGm n p) w):=by
 obtain⟨d,hn⟩:=hn;exact kRa d w v n A p p.length c rfl Kb hn hp
theorem kKu {w:World}{v u:Value}{c:Nat}(hl:p.length<=1000)(hc:p.length<=c)(hn:At w v n)(hm:At w u m)(hp:IL w w.heap.size A p):Calls Tryz.prog 128 #[v,.slice A p.length c,u] w (zP2 (zSe n p m) w):=by
 obtain⟨d,hn⟩:=hn;obtain⟨dm,hm⟩:=hm;exact kDz d dm w v u n m A p p.length c rfl Kb hc hn hm hp
theorem kKv {w:World}{v u:Value}{c:Nat}(hl:p.length<=1000)(hc:p.length<=c)(hn:At w v n)(hm:At w u m)(hp:IL w w.heap.size A p)(ey:∀x,kB n (upP p)=some x->x.ks.length<1759218604441):Calls Tryz.prog 84 #[v,.slice A p.length c,u] w (zP2 (zGo n p m) w):=by
 obtain⟨d,hn⟩:=hn;obtain⟨dm,hm⟩:=hm;exact kD0 d dm w v u n m A p p.length c rfl hl hc hn hm hp ey
theorem kKw {w:World}{v:Value}{c:Nat}(hl:p.length<=1000)(hc:p.length<=c)(hn:At w v n)(hp:IL w w.heap.size A p):Calls Tryz.prog 83 #[v,.slice A p.length c] w (kFo (zBw n p).1 (zE3 n p) (zBw n p).2 w):=by
 obtain⟨d,hn⟩:=hn;exact kDx d w v n A p p.length c rfl hl hc hn hp
theorem zP2.opn {w w':World}(h:zP2 (n,er) w e w'):∃lf PA np pc TA nt tc KA nk kc,e=.returned (.tuple #[.agg #[.bool lf,.slice PA np pc,.slice TA nt tc,.slice KA nk kc],.int .i64 er])/\At w' (.agg #[.bool lf,.slice PA np pc,.slice TA nt tc,.slice KA nk kc]) n/\Below w.heap.size w w':=h.open_
theorem kKx {w:World}{v:Value}{x:NT}{c:Nat}(hr:zGm n p=(x,er))(hl:p.length<=1000)(hn:At w v n)(hp:IL w w.heap.size A p):Calls Tryz.prog 30 #[v,.slice A p.length c] w (zP2 (x,er) w):=hr▸kKt hl hn hp
theorem kWd {w:World}{v:Value}{x:NT}{c:Nat}(hr:zGm n p=(x,er))(hl:p.length<=1000)(hn:At w v n)(hp:IL w w.heap.size A p):Calls Tryz.prog 97 #[v,.slice A p.length c] w (zP2 (x,er) w):=hr▸kWc hl hn hp
theorem kKy {w:World}{v u:Value}{x:NT}{c:Nat}(hr:zSe n p m=(x,er))(hl:p.length<=1000)(hc:p.length<=c)(hn:At w v n)(hm:At w u m)(hp:IL w w.heap.size A p):Calls Tryz.prog 128 #[v,.slice A p.length c,u] w (zP2 (x,er) w):=hr▸kKu hl hc hn hm hp
theorem kKz {w:World}{v u:Value}{x:NT}{c:Nat}(hr:zGo n p m=(x,er))(hl:p.length<=1000)(hc:p.length<=c)(hn:At w v n)(hm:At w u m)(hp:IL w w.heap.size A p)(ey:∀x,kB n (upP p)=some x->x.ks.length<1759218604441):Calls Tryz.prog 84 #[v,.slice A p.length c,u] w (zP2 (x,er) w):=hr▸kKv hl hc hn hm hp ey
theorem kK0 {w:World}{v:Value}{x y:NT}{c:Nat}(hr:zBw n p=(x,er))(hy:zE3 n p=y)(hl:p.length<=1000)(hc:p.length<=c)(hn:At w v n)(hp:IL w w.heap.size A p):Calls Tryz.prog 83 #[v,.slice A p.length c] w (kFo x y er w):=by
 have h:=kKw (c:=c) hl hc hn hp;rw[hr,hy]at h;exact h
theorem kN8.add2 {L:List (Nat×Obj)}{w:World}(h:kN8 L w)(o o':Obj):kN8 ((w.heap.size+1,o')::(w.heap.size,o)::L) ((w.alloc o).alloc o'):=by
 have:=(h.add o).add o';rwa[show(w.alloc o).heap.size=w.heap.size+1 by simp]at this
def Ats (L:List (Value×NT))(w:World):Prop:=∀x ∈ L,At w x.1 x.2
theorem Ats.nil (w:World):Ats [] w:=fun x hx=>by cases hx
theorem Ats.keep {L:List (Value×NT)}{w w':World}(h:Ats L w)(hb:Below w.heap.size w w'):Ats L w':=fun x hx=>(h x hx).later hb
theorem Ats.add {L:List (Value×NT)}{w:World}{v:Value}(h:Ats L w)(ht:At w v n):Ats ((v,n)::L) w:=fun x hx=>by
 rcases List.mem_cons.1 hx with rfl|hx
 ·exact ht
 ·exact h x hx
theorem Ats.hd {v:Value}{L:List (Value×NT)}{w:World}(h:Ats ((v,n)::L) w):At w v n:=h _ (List.mem_cons_self ..)
theorem Ats.tl {x:Value×NT}{L:List (Value×NT)}{w:World}(h:Ats (x::L) w):Ats L w:=fun y hy=>h y (List.mem_cons_of_mem _ hy)
theorem kNo (w:World)(o:Obj):Below w.heap.size w (w.alloc o):=Kk.alloc Kl o
def Ils (L:List (Option Addr×List Int))(w:World):Prop:=∀x ∈ L,IL w w.heap.size x.1 x.2
theorem Ils.nil (w:World):Ils [] w:=fun x hx=>by cases hx
theorem Ils.keep {w w':World}(h:Ils L w)(hb:Below w.heap.size w w'):Ils L w':=fun x hx=>(h x hx).later hb
theorem Ils.add {w:World}(h:Ils L w)(ht:IL w w.heap.size A l):Ils ((A,l)::L) w:=fun x hx=>by
 rcases List.mem_cons.1 hx with rfl|hx
 ·exact ht
 ·exact h x hx
theorem Ils.hd {w:World}(h:Ils ((A,l)::L) w):IL w w.heap.size A l:=h _ (List.mem_cons_self ..)
theorem Ils.tl {x:Option Addr×List Int}{w:World}(h:Ils (x::L) w):Ils L w:=fun y hy=>h y (List.mem_cons_of_mem _ hy)
theorem At.full {w:World}{v:Value}{lf:Bool}{nk:Nat}(h:At w v n)(aI:n.lf=lf)(fG:n.ks.length=nk):∃PA np pc TA nt tc KA kc,v=.agg #[.bool lf,.slice PA np pc,.slice TA nt tc,.slice KA nk kc]:=by
 subst aI fG;obtain⟨d,h⟩:=h;obtain⟨d',lf,ps,tx,ks,PA,pc,TA,tc,KA,kc,_,rfl,e,_⟩:=h.open_;exact⟨PA,ps.length,pc,TA,tx.length,tc,KA,kc,e⟩
theorem zP2.opnF {w w':World}{lf:Bool}{nk:Nat}(h:zP2 (n,er) w e w')(aI:n.lf=lf)(fG:n.ks.length=nk):∃PA np pc TA nt tc KA kc,e=.returned (.tuple #[.agg #[.bool lf,.slice PA np pc,.slice TA nt tc,.slice KA nk kc],.int .i64 er])/\At w' (.agg #[.bool lf,.slice PA np pc,.slice TA nt tc,.slice KA nk kc]) n/\Below w.heap.size w w':=by
 obtain⟨v,d,rfl,ht,hb⟩:=h;have ha:=At.of_tree ht (fun b hb=>hb.2);obtain⟨PA,np,pc,TA,nt,tc,KA,kc,rfl⟩:=ha.full aI fG;exact⟨_,_,_,_,_,_,_,_,rfl,ha,hb⟩
theorem zOp.opn {w w':World}(h:zOp w (l,er) e w'):∃A c,e=.returned (.tuple #[.slice A l.length c,.int .i64 er])/\l.length<=c/\IL w' w'.heap.size A l/\Below w.heap.size w w':=by
 obtain⟨v,rfl,ho,hb⟩:=h;obtain⟨A,c,rfl,h1,h2⟩:=ho.open_at l.length rfl;exact⟨A,c,rfl,h1,h2,hb⟩
theorem kWe {w:World}{c:Nat}(hr:zGq p=(l,er))(hl:p.length<=1000)(hc:p.length<=c)(hp:IL w w.heap.size A p):Calls Tryz.prog 141 #[.slice A p.length c] w (zOp w (l,er)):=hr▸kRu A p p.length c w rfl hl hc hp
theorem kQu {w:World}{g q:Nat}{u:Value}(h:w.cell? ⟨g,q,none⟩=some u):∃cur t fr,w.heap[g]? =some (.cells cur t fr)/\cur[q]? =some u:=by
 unfold World.cell? at h;cases hb:w.heap[g]? with
 |none=>simp[hb]at h
 |some o=>
  cases o<;>simp[hb]at h
  exact⟨_,_,_,rfl,h⟩
theorem kOu {w:World}{g k:Nat}{x:Value}{cs:Array Value}{t:TypeId}{fr:Nat×Nat}(h:w.heap[g]? =some (.cells cs t fr)):(w.setCell ⟨g,k,none⟩ x).heap[g]? =some (.cells (cs.setIfInBounds k x) t fr):=by
 have hlt:=lt_of_block h;have h':w.heap[g]=.cells cs t fr:=by simpa[Array.getElem?_eq_getElem hlt]using h
 show(w.heap.modify g _)[g]? =_
 rw[Array.getElem?_eq_getElem (by simpa using hlt),Array.getElem_modify_self,h'];rfl
theorem kWf {w:World}{gk q:Nat}{cur:Array Value}{t:TypeId}{fr:Nat×Nat}{c0 c1 c2 c3:Value}(h:w.heap[gk]? =some (.cells cur t fr)):
  ((((w.setCell ⟨gk,q,none⟩ c0).setCell ⟨gk,q+1,none⟩ c1).setCell ⟨gk,q+2,none⟩ c2).setCell ⟨gk,q+3,none⟩ c3).heap[gk]? =some (.cells ((((cur.setIfInBounds q c0).setIfInBounds (q+1) c1).setIfInBounds (q+2) c2).setIfInBounds (q+3) c3) t fr):=
 kOu (kOu (kOu (kOu h)))
theorem kP5 {w:World}{gk q b:Nat}{c0 c1 c2 c3:Value}(h:b≠gk):((((w.setCell ⟨gk,q,none⟩ c0).setCell ⟨gk,q+1,none⟩ c1).setCell ⟨gk,q+2,none⟩ c2).setCell ⟨gk,q+3,none⟩ c3).heap[b]? =w.heap[b]? :=by
 iterate 4 rw[Below.heap_setCell _ _ _ _ (by simpa using h)]
theorem kWg {lo hi gk d d8 j:Nat}{w:World}{k:NT}{c0 c1 c2 c3:Value}{lf:Bool}{PA:Option Addr}{np pc:Nat}{nt tc nk kc:Nat}(h:kMo (fun b=>lo<=b/\b<hi) d w (.agg #[.bool lf,.slice PA np pc,.slice TA nt tc,.slice (some ⟨gk,0,none⟩) nk kc]) n)(hj:j<n.ks.length)
  (hk:zAx (fun b=>lo<=b/\b<hi/\b≠gk) d8 w (.agg #[c0,c1,c2,c3]) k):
  ∃D,zAx (fun b=>lo<=b/\b<hi) D ((((w.setCell ⟨gk,j*4,none⟩ c0).setCell ⟨gk,j*4+1,none⟩ c1).setCell ⟨gk,j*4+2,none⟩ c2).setCell ⟨gk,j*4+3,none⟩ c3) (.agg #[.bool lf,.slice PA np pc,.slice TA nt tc,.slice (some ⟨gk,0,none⟩) nk kc]) (setK n j k):=by
 cases d with
 |zero=>exact h.elim
 |succ d=>
 obtain⟨PA',pc',TA',tc',KA',kc',e,hp,ht,hf,hks⟩:=h;simp only[Value.agg.injEq,Array.mk.injEq,List.cons.injEq,Value.bool.injEq,Value.slice.injEq,and_true]at e;obtain⟨rfl,⟨rfl,rfl,rfl⟩,⟨rfl,rfl,rfl⟩,rfl,rfl,rfl⟩:=e;obtain⟨m0,hm0⟩:∃m0,n.ks[j]? =some m0:=⟨_,List.getElem?_eq_getElem hj⟩;obtain⟨g0,u0,e0,hg0,_,⟨a0,a1,a2,a3,_,f0,f1,f2,f3⟩,hz0⟩:=hks j m0 hm0;injection e0 with e0;injection e0 with e0;subst e0;obtain⟨cur,t,fr,hblk,hc3⟩:=kQu f3;have hsz:j*4+3<cur.size:=by have:=(Array.getElem?_eq_some_iff.1 hc3).1;omega
 have hW:=kWf (q:=j*4) (c0:=c0) (c1:=c1) (c2:=c2) (c3:=c3) hblk;have ho:∀b,b≠gk->((((w.setCell ⟨gk,j*4,none⟩ c0).setCell ⟨gk,j*4+1,none⟩ c1).setCell ⟨gk,j*4+2,none⟩ c2).setCell ⟨gk,j*4+3,none⟩ c3).heap[b]? =w.heap[b]? :=fun b hb=>kP5 hb;generalize((((w.setCell ⟨gk,j*4,none⟩ c0).setCell ⟨gk,j*4+1,none⟩ c1).setCell ⟨gk,j*4+2,none⟩ c2).setCell ⟨gk,j*4+3,none⟩ c3)=W at*
 have hcell:∀q u,((((cur.setIfInBounds (j*4) c0).setIfInBounds (j*4+1) c1).setIfInBounds (j*4+2) c2).setIfInBounds (j*4+3) c3)[q]? =some u->W.cell? ⟨gk,q,none⟩=some u:=fun q u hq=>by simp[World.cell?,hW,hq]
 have py:∀q u,w.cell? ⟨gk,q,none⟩=some u->cur[q]? =some u:=fun q u hq=>by simpa[World.cell?,hblk]using hq
 have yc:∀q,W.frozen? ⟨gk,q,none⟩=w.frozen? ⟨gk,q,none⟩:=fun q=>by simp[World.frozen?,hW,hblk]
 have hK:∀p:Addr,((lo<=p.block/\p.block<hi)/\some p.block≠(Value.slice (some ⟨gk,0,none⟩) 0 0).ownBlock)->W.cell? p=w.cell? p/\W.frozen? p=w.frozen? p:=fun p hp=>by
  have hne:p.block≠gk:=fun e=>hp.2 (by rw[e];rfl);exact⟨World.cell?_of_block (ho _ hne),World.frozen?_of_block (ho _ hne)⟩
 have hlen:(setK n j k).ks.length=n.ks.length:=by rw[zM5 hj,List.length_set]
 refine⟨max d d8+1,PA,pc,TA,tc,some ⟨gk,0,none⟩,kc,?_,hp.keep (fun _ h=>h.1) hK,ht.keep (fun _ h=>h.1) hK,?_,fun i m hm=>?_⟩
 ·rw[hlen];rfl
 ·rw[hlen];exact hf
 ·rw[zM5 hj]at hm;rcases Classical.em (i=j)with e|e
  ·subst e;rw[List.getElem?_set_self hj]at hm;injection hm with hm;subst hm;refine⟨gk,0,_,rfl,hg0,(hk.deep (Nat.le_max_right _ _)).keep (fun b hb=>⟨hb.1,hb.2.1⟩) (fun p hp=>⟨World.cell?_of_block (ho _ hp.2.2),World.frozen?_of_block (ho _ hp.2.2)⟩),⟨c0,c1,c2,c3,rfl,?_,?_,?_,?_⟩,by rw[Nat.zero_add,yc];have:=hz0 0 Kb;exact this⟩
   ·rw[Nat.zero_add];refine hcell _ _ ?_;rw[Array.getElem?_setIfInBounds_ne Kb,Array.getElem?_setIfInBounds_ne Kb,Array.getElem?_setIfInBounds_ne Kb,Array.getElem?_setIfInBounds_self_of_lt Kb]
   ·rw[Nat.zero_add];refine hcell _ _ ?_;rw[Array.getElem?_setIfInBounds_ne Kb,Array.getElem?_setIfInBounds_ne Kb,Array.getElem?_setIfInBounds_self_of_lt Kf]
   ·rw[Nat.zero_add];refine hcell _ _ ?_;rw[Array.getElem?_setIfInBounds_ne Kb,Array.getElem?_setIfInBounds_self_of_lt Kf]
   ·rw[Nat.zero_add];refine hcell _ _ ?_;rw[Array.getElem?_setIfInBounds_self_of_lt Kf]
  ·rw[List.getElem?_set_ne Kb]at hm;obtain⟨g,u,e1,hg,BM,⟨b0,b1,b2,b3,eu,h0,h1,h2,h3⟩,hz⟩:=hks i m hm;injection e1 with e1;injection e1 with e1;subst e1;have hk4:∀q x,(q<j*4∨j*4+3<q)->w.cell? ⟨gk,q,none⟩=some x->W.cell? ⟨gk,q,none⟩=some x:=fun q x hq hx=>by
    refine hcell _ _ ?_;rw[Array.getElem?_setIfInBounds_ne Kb,Array.getElem?_setIfInBounds_ne Kb,Array.getElem?_setIfInBounds_ne Kb,Array.getElem?_setIfInBounds_ne Kb];exact py _ _ hx
   refine⟨gk,0,u,rfl,hg,(BM.deep (Nat.le_max_left _ _)).keep (fun _ h=>h.1) hK,⟨b0,b1,b2,b3,eu,hk4 _ _ Kb h0,hk4 _ _ Kb h1,hk4 _ _ Kb h2,hk4 _ _ Kb h3⟩,by rw[Nat.zero_add,yc];have:=hz 0 Kb;exact this⟩
theorem kMo.keep {P Q:Nat->Prop}{w w':World}(im:∀b,P b->Q b)(hk:∀p:Addr,P p.block->w'.cell? p=w.cell? p/\w'.frozen? p=w.frozen? p):∀{d:Nat}{v:Value}{n:NT},kMo P d w v n->kMo Q d w' v n
 |0,_,_,h=>h.elim
 |d+1,v,n,⟨PA,pc,TA,tc,KA,kc,e,hp,ht,hf,hks⟩=>⟨PA,pc,TA,tc,KA,kc,e,hp.keep (fun _ h=>⟨im _ h.1,h.2⟩) (fun p hp=>hk p hp.1),ht.keep (fun _ h=>⟨im _ h.1,h.2⟩) (fun p hp=>hk p hp.1),hf,fun k m hm=>by
   obtain⟨g,u,e1,hg,ht,hc,hz⟩:=hks k m hm;obtain⟨c0,c1,c2,c3,eu,h0,h1,h2,h3⟩:=hc;exact⟨g,u,e1,im _ hg,ht.keep (fun _ h=>⟨im _ h.1,h.2⟩) (fun p hp=>hk p hp.1),⟨c0,c1,c2,c3,eu,(hk ⟨g,0+k*4,none⟩ hg).1.trans h0,(hk ⟨g,0+k*4+1,none⟩ hg).1.trans h1,(hk ⟨g,0+k*4+2,none⟩ hg).1.trans h2,(hk ⟨g,0+k*4+3,none⟩ hg).1.trans h3⟩,fun i hi=>(hk ⟨g,k*4+i,none⟩ hg).2.trans (hz i hi)⟩⟩
theorem kMo.row {P:Nat->Prop}{d:Nat}{w:World}{v:Value}{j:Nat}(h:kMo P d w v n)(hj:j<n.ks.length):∃gk PA pc TA tc kc c0 c1 c2 c3,v=.agg #[.bool n.lf,.slice PA n.ps.length pc,.slice TA n.tx.length tc,.slice (some ⟨gk,0,none⟩) n.ks.length kc]/\P gk/\
  w.cell? ⟨gk,j*4,none⟩=some c0/\w.cell? ⟨gk,j*4+1,none⟩=some c1/\w.cell? ⟨gk,j*4+2,none⟩=some c2/\w.cell? ⟨gk,j*4+3,none⟩=some c3/\(∀i,i<4->w.frozen? ⟨gk,j*4+i,none⟩=false):=by
 cases d with
 |zero=>exact h.elim
 |succ d=>
 obtain⟨PA,pc,TA,tc,KA,kc,e,hp,ht,hf,hks⟩:=h;obtain⟨m0,hm0⟩:∃m0,n.ks[j]? =some m0:=⟨_,List.getElem?_eq_getElem hj⟩;obtain⟨g0,u0,rfl,hg0,_,⟨a0,a1,a2,a3,_,f0,f1,f2,f3⟩,hz⟩:=hks j m0 hm0;simp only[Nat.zero_add]at f0 f1 f2 f3;exact⟨g0,PA,pc,TA,tc,kc,a0,a1,a2,a3,e,hg0,f0,f1,f2,f3,hz⟩
theorem zP2.newO {g:Nat}{w w':World}(h:zP2 r w e w')(hg:g<w.heap.size):kEz g r none w e w':=by
 obtain⟨v,d,h1,h2,h3⟩:=h;exact⟨v,d,h1,h2,Off.of_below h3,h3.block g hg⟩
theorem kMl {w:World}{v u:Value}{x:NT}{lp c:Nat}(hr:zGo n p m=(x,er))(ay:p.length=lp)(hl:lp<=1000)(hc:lp<=c)(hn:At w v n)(hm:At w u m)(hp:IL w w.heap.size A p)(ey:∀x,kB n (upP p)=some x->x.ks.length<1759218604441):Calls Tryz.prog 84 #[v,.slice A lp c,u] w (zP2 (x,er) w):=by
 subst ay;exact kKz hr hl hc hn hm hp ey
theorem kMm {w:World}{v:Value}{x y:NT}{lp c:Nat}(hr:zBw n p=(x,er))(hy:zE3 n p=y)(ay:p.length=lp)(hl:lp<=1000)(hc:lp<=c)(hn:At w v n)(hp:IL w w.heap.size A p):Calls Tryz.prog 83 #[v,.slice A lp c] w (kFo x y er w):=by
 subst ay;exact kK0 hr hy hl hc hn hp
theorem kMn {w:World}{v:Value}{x:NT}{lp c:Nat}(hr:zGm n p=(x,er))(ay:p.length=lp)(hl:lp<=1000)(hn:At w v n)(hp:IL w w.heap.size A p):Calls Tryz.prog 30 #[v,.slice A lp c] w (zP2 (x,er) w):=by
 subst ay;exact kKx hr hl hn hp
theorem zOp.opnL {lu:Nat}{w w':World}(h:zOp w (l,er) e w')(eA:l.length=lu):∃A c,e=.returned (.tuple #[.slice A lu c,.int .i64 er])/\lu<=c/\IL w' w'.heap.size A l/\Below w.heap.size w w':=by
 subst eA;exact h.opn
open Go.WideShapes (add_plain)
theorem zRu (us vs:List Value):zGg (us++vs)=zGg us++zGg vs:=zM9 us vs
structure zM1 (d:Nat)(w:World)(B:Nat)(us:List Value)(ks:List NT):Prop where
 len:us.length=ks.length
 trees:∀(j:Nat)(m:NT),ks[j]? =some m->∃u,us[j]? =some u/\zV d w B u m
theorem zM1.one {d:Nat}{w:World}{B:Nat}{u:Value}(h:zV d w B u m):zM1 d w B [u] [m]:=⟨rfl,fun j x hx=>by
 cases j with
 |zero=>
  simp only[List.getElem?_cons_zero,Option.some.injEq]at hx;subst hx;exact⟨_,rfl,h⟩
 |succ j=>simp at hx⟩
theorem zM1.append {d:Nat}{w:World}{B:Nat}{us vs:List Value}{ks ms:List NT}(h1:zM1 d w B us ks)(h2:zM1 d w B vs ms):zM1 d w B (us++vs) (ks++ms):=
 ⟨by rw[List.length_append,List.length_append,h1.len,h2.len],fun j m hj=>by
  rcases Nat.lt_or_ge j ks.length with hjk|hjk
  ·rw[List.getElem?_append_left hjk]at hj;obtain⟨u,hu,ht⟩:=h1.trees j m hj;exact⟨u,by rw[List.getElem?_append_left (by rw[h1.len];exact hjk)];exact hu,ht⟩
  ·rw[List.getElem?_append_right hjk]at hj;obtain⟨u,hu,ht⟩:=h2.trees _ m hj;exact⟨u,by rw[List.getElem?_append_right (by rw[h1.len];exact hjk),h1.len];exact hu,ht⟩⟩
theorem zM1.below {d:Nat}{w w':World}{B:Nat}{us:List Value}{ks:List NT}(h:zM1 d w B us ks)(hb:Below B w w'):zM1 d w' B us ks:=⟨h.len,fun j m hj=>by
 obtain⟨u,h1,h2⟩:=h.trees j m hj;exact⟨u,h1,h2.below hb⟩⟩
theorem zM1.more {d:Nat}{w:World}{B B':Nat}{us:List Value}{ks:List NT}(h:zM1 d w B us ks)(hb:B<=B'):zM1 d w B' us ks:=⟨h.len,fun j m hj=>by
 obtain⟨u,h1,h2⟩:=h.trees j m hj;exact⟨u,h1,h2.more hb⟩⟩
theorem zM1.deep {d d':Nat}{w:World}{B:Nat}{us:List Value}{ks:List NT}(h:zM1 d w B us ks)(hd:d<=d'):zM1 d' w B us ks:=⟨h.len,fun j m hj=>by
 obtain⟨u,h1,h2⟩:=h.trees j m hj;exact⟨u,h1,h2.deep hd⟩⟩
theorem zM1.form {d:Nat}{w:World}{B:Nat}{us:List Value}{ks:List NT}(h:zM1 d w B us ks):∀u ∈ us,∃lf PA np pc TA nt tc KA nk kc,u=.agg #[.bool lf,.slice PA np pc,.slice TA nt tc,.slice KA nk kc]:=fun u hu=>by
 obtain⟨j,hj,rfl⟩:=List.mem_iff_getElem.1 hu;obtain⟨u',hu',ht⟩:=h.trees j _ (List.getElem?_eq_getElem (by rw[<-h.len];exact hj));rw[List.getElem?_eq_getElem hj]at hu';injection hu' with hu';rw[hu'];exact ht.val
theorem zM1.flat {d:Nat}{w:World}{B:Nat}{us:List Value}{ks:List NT}(h:zM1 d w B us ks):(zGg us).length=ks.length*4/\∀c ∈ zGg us,c.oneCell'=true:=by
 have key:=h.form;constructor
 ·rw[<-h.len];have:∀l:List Value,(∀u ∈ l,u.cells.toList.length=4)->(zGg l).length=l.length*4:=by
   intro l;induction l with
   |nil=>intro _;rfl
   |cons x r ih=>intro hx;show(zGg (x::r)).length=_;rw[zGg,List.flatMap_cons,List.length_append,hx x (List.mem_cons_self ..),<-zGg,ih (fun u hu=>hx u (List.mem_cons_of_mem _ hu)),List.length_cons];omega
  exact this us fun u hu=>by obtain⟨_,_,_,_,_,_,_,_,_,_,rfl⟩:=key u hu;rfl
 ·intro c hc;obtain⟨u,hu,iH⟩:=List.mem_flatMap.1 hc;obtain⟨_,_,_,_,_,_,_,_,_,_,rfl⟩:=key u hu;simp[Value.cells]at iH;rcases iH with rfl|rfl|rfl|rfl<;>rfl
theorem zKn.vals {d:Nat}{w:World}{B:Nat}{ks:List NT}(h:zKn d w B A ks):∃us,zM1 d w B us ks/\VL w B A (zGg us):=by
 have hx:∀j:Fin ks.length,∃u,∃b o,A=some ⟨b,o,none⟩/\b<B/\zV d w B u ks[j]/\zK1 w b (o+j*4) u:=fun j=>by
  obtain⟨b,o,u,e,hb,hn,hc⟩:=h j ks[j] (List.getElem?_eq_getElem j.2);exact⟨u,b,o,e,hb,hn,hc⟩
 obtain⟨f,hf⟩:=Classical.axiomOfChoice hx;have hv:zM1 d w B (List.ofFn f) ks:=⟨by simp,fun j m hj=>by
  have hl:=(List.getElem?_eq_some_iff.1 hj).1;obtain⟨b,o,_,_,hn,_⟩:=hf ⟨j,hl⟩;have e:ks[j]=m:=(List.getElem?_eq_some_iff.1 hj).2;exact⟨f ⟨j,hl⟩,by rw[List.getElem?_eq_getElem (by simpa using hl),List.getElem_ofFn],by rw[<-e];exact hn⟩⟩
 refine⟨_,hv,fun hne=>?_⟩;have hlen:=hv.flat.1;have hpos:0<ks.length:=by
  have:0<(zGg (List.ofFn f)).length:=List.length_pos_iff.2 hne;omega
 obtain⟨b,o,e,hb,_,_⟩:=hf ⟨0,hpos⟩;refine⟨b,o,e,hb,fun q c hq=>?_⟩;have bA:q<ks.length*4:=by rw[<-hlen];exact(List.getElem?_eq_some_iff.1 hq).1
 have hj:q/4<ks.length:=Kb;obtain⟨b',o',e',_,hn,c0,c1,c2,c3,eu,h0,h1,h2,h3⟩:=hf ⟨q/4,hj⟩;rw[e]at e';injection e' with e';injection e' with e1 e2;subst e1 e2;have h4:∀x ∈ List.ofFn f,x.cells.size=4:=fun x hx=>by obtain⟨_,_,_,_,_,_,_,_,_,_,rfl⟩:=hv.form x hx;rfl
 have hu:(List.ofFn f)[q/4]? =some (f ⟨q/4,hj⟩):=by rw[List.getElem?_eq_getElem (by simpa using hj),List.getElem_ofFn]
 have hc:=fun i c hi=>zJ5 (List.ofFn f) (q/4) _ c0 c1 c2 c3 h4 hu eu i c hi;have hq':(zGg (List.ofFn f))[q/4*4+q % 4]? =some c:=by rw[show q/4*4+q % 4=q by omega];exact hq
 have ho:∀i,q % 4=i->o+q=o+q/4*4+i:=fun i hi=>by omega
 match hm:q % 4,Nat.mod_lt q (show 0<4 by omega)with
 |0,_=>rw[hm]at hq';have:=(hc 0 c0 rfl).symm.trans hq';injection this with this;subst this;rw[ho 0 hm];exact h0
 |1,_=>rw[hm]at hq';have:=(hc 1 c1 rfl).symm.trans hq';injection this with this;subst this;rw[ho 1 hm];exact h1
 |2,_=>rw[hm]at hq';have:=(hc 2 c2 rfl).symm.trans hq';injection this with this;subst this;rw[ho 2 hm];exact h2
 |3,_=>rw[hm]at hq';have:=(hc 3 c3 rfl).symm.trans hq';injection this with this;subst this;rw[ho 3 hm];exact h3
theorem kDy {w:World}{base d n c:Nat}{us:List Value}{ks:List NT}(hown:w.ownsRow base 26 4 (.slice A n c) n (zGg us))(hv:zM1 d w w.heap.size us ks):zKn d w w.heap.size A ks:=fun k m hm=>by
 obtain⟨u,hu,ht⟩:=hv.trees k m hm;obtain⟨lf,PA,np,pc,TA,nt,tc,KA,nk,kc,e⟩:=hv.form u (List.mem_of_getElem? hu);have h4:∀x ∈ us,x.cells.size=4:=fun x hx=>by obtain⟨_,_,_,_,_,_,_,_,_,_,rfl⟩:=hv.form x hx;rfl
 obtain⟨A',c',e',_,_,hfree⟩:=zC9 hown;injection e' with e1 _ _;subst e1;have hc:=fun i c hi=>hfree (k*4+i) c (zJ5 us k u _ _ _ _ h4 hu e i c hi);obtain⟨g,hg,_,hgl,_⟩:=hc 0 _ rfl;subst hg;have hc':∀i c,[Value.bool lf,.slice PA np pc,.slice TA nt tc,.slice KA nk kc][i]? =some c->w.cell? ⟨g,0+k*4+i,none⟩=some c:=fun i c hi=>by
  obtain⟨g',e',_,_,h5,_⟩:=hc i c hi;injection e' with e';injection e' with e';subst e';rw[Nat.zero_add];exact h5
 exact⟨g,0,u,rfl,hgl,ht,_,_,_,_,e,hc' 0 _ rfl,hc' 1 _ rfl,hc' 2 _ rfl,hc' 3 _ rfl⟩
theorem kSb {d n:Nat}{w:World}{lf:Bool}{ps:List Pr}{tx:List Int}{ks os:List NT}{PA:Option Addr}{pc:Nat}{tc:Nat}{c kc:Nat}(hp:PL w w.heap.size PA ps)(ht:VL w w.heap.size TA (rv tx))(hf:zU0 ps tx.length ks.length pc tc kc)(hn:os.length=n)(hl:n<=1759218604441)(hc:n<=c)(hk:zKn d w w.heap.size A os):
  zV (d+1) w w.heap.size (.agg #[.bool lf,.slice PA ps.length pc,.slice TA tx.length tc,.slice A n c]) (.mk lf ps tx os):=
 zV.shut rfl rfl hn.symm hp ht ⟨hf.1,hf.2.1,hf.2.2.1,by rw[hn];exact hl,hf.2.2.2.2.1,hf.2.2.2.2.2.1,by rw[hn];exact hc⟩ hk
theorem kOo {g s:Nat}{o o':Option Nat}(h:o≠some g)(hg:g<s)(hat:o'=o∨∃q,o'=some q/\s<=q):o'≠some g:=by
 rcases hat with e|⟨q,e,hq⟩
 ·rw[e];exact h
 ·rw[e];intro e2;injection e2 with e2;omega
theorem kQv {w:World}{B b o k:Nat}(h:IL w B (some ⟨b,o,none⟩) p)(hk:k<p.length):b<B/\w.cell? ⟨b,o+k,none⟩=some (.int .i64 (iAt p k)):=by
 obtain⟨b',o',e,hb,hc⟩:=h.at_ hk;injection e with e;injection e with e1 e2;subst e1 e2;exact⟨hb,hc⟩
theorem kPu {ts te:TypeId}{size by_:Nat}(E:zQ7 ts te size by_)(W:World){rest:List Oper}{o:Oper}{a:Act}{Q:Exit->Act->World->Prop}(hgd:o.guard=none)(s x:Operand)
  (ho:o.op=.call {callee:=.builtin .append,args:=#[s,x],argTypes:=#[ts,ts]})
  (b:Nat) (hs:a.eval s=.slice none 0 0) (A:Option Addr) (m c B:Nat) (l:List Value) (hx:a.eval x=.slice A m c) (hn:l.length=m*size) (hp:VL W B A l) (h1:∀u ∈ l,u.oneCell'=true)
  (h63:m<=maxLen) (hby:m*by_<=140737488355328) (hb:b<=W.heap.size)
  (hK:∀A' c' w',w'.ownsRow b te size (.slice A' m c') m l->Below W.heap.size W w'->((Value.slice A' m c').ownBlock=none∨∃g,(Value.slice A' m c').ownBlock=some g/\W.heap.size<=g)->wpList Tryz.prog ops Q rest (a.put o.dst (.slice A' m c')) w'):
  wpList Tryz.prog ops Q (o::rest) a W:=by
 refine zK7 E W hgd s x ho b (.slice none 0 0) 0 [] hs (World.ownsRow_nil _ _ _ _) A m c B l hx hn hp h1 (by rw[Nat.zero_add];exact h63) (by rw[Nat.zero_add];exact hby) hb (fun A' c' w' h1 h2 h3=>?_);rw[Nat.zero_add,List.nil_append]at h1;rw[Nat.zero_add]at h3⊢;exact hK A' c' w' h1 (kOc h2) h3
theorem zIq {ts te:TypeId}{size by_:Nat}(E:zQ7 ts te size by_)(W:World){o:Oper}{a:Act}{K:Act->World->Prop}{Q:Exit->Act->World->Prop}{F:Prop}(hgd:o.guard=none)(s x:Operand)
  (ho:o.op=.call {callee:=.builtin .append,args:=#[s,x],argTypes:=#[ts,ts]})
  (b:Nat) (v:Value) (n:Nat) (k:List Value) (hs:a.eval s=v) (hO:W.ownsRow b te size v n k) (A:Option Addr) (m c B:Nat) (l:List Value) (hx:a.eval x=.slice A m c) (hn:l.length=m*size) (hp:VL W B A l) (h1:∀u ∈ l,u.oneCell'=true)
  (h63:n+m<=maxLen) (hby:(n+m)*by_<=140737488355328) (hb:b<=W.heap.size)
  (hK:∀A' c' w',w'.ownsRow b te size (.slice A' (n+m) c') (n+m) (k++l)->W.grownBy w' v.ownBlock->((Value.slice A' (n+m) c').ownBlock=v.ownBlock∨∃g,(Value.slice A' (n+m) c').ownBlock=some g/\W.heap.size<=g)->K (a.put o.dst (.slice A' (n+m) c')) w'):
  if Region.wanted o (yielded ops a.tmps)=true then Oper.wp Tryz.prog o a W K Q else F:=by
 have hw:Region.wanted o (yielded ops a.tmps)=true:=by simp[Region.wanted,hgd]
 rw[if_pos hw];obtain⟨i0,z,hi,hz0,hz1,hz2,hz3⟩:=E.info;have hsz:=E.pos;rcases Nat.eq_zero_or_pos m with hm|hm
 ·subst hm;have hl:l=[]:=List.eq_nil_of_length_eq_zero (by simpa using hn);subst hl;obtain⟨A0,c0,rfl,_⟩:=zC9 hO;have hrun:=zEp (w:=W) (ty:=o.type) (A:=A) (c:=c) E.under hi hO;unfold Oper.wp execOp;simp only[ho,resolve,invoke,builtin,Sem.run_bind,Sem.run_pure,Result.andThen_ok,List.map_toArray,List.map_cons,List.map_nil,hs,hx,hrun];exact hK A0 c0 W (by simpa using hO) ⟨rfl,rfl,rfl,Nat.le_refl _,fun _ _ _=>rfl⟩ (.inl (by cases A0<;>rfl))
 ·have hl:0<l.length:=by have:=Nat.mul_pos hm hsz;omega
  obtain⟨b',o',rfl,_,hc⟩:=hp (List.length_pos_iff.1 hl);refine wp_append_lies W s x ts ho b te i0 z size by_ E.under hi hz0 hz1 hz2 hz3 hsz v n k hs hO ⟨b',o',none⟩ m c l hx hn (fun j u hj=>by rw[add_plain];exact hc j u hj) h1 hm h63 hby hb W.heap.size rfl (fun g cap w' h1 h2 h3 _=>hK _ cap w' h1 h2 ?_);rcases h3 with e|e
  ·exact .inl (by rw[e];rfl)
  ·exact .inr ⟨g,rfl,by omega⟩
theorem kQb {ts te:TypeId}{size by_:Nat}(E:zQ7 ts te size by_)(W:World){o:Oper}{a:Act}{K:Act->World->Prop}{Q:Exit->Act->World->Prop}{F:Prop}(hgd:o.guard=none)(s x:Operand)
  (ho:o.op=.call {callee:=.builtin .append,args:=#[s,x],argTypes:=#[ts,ts]})
  (b:Nat) (hs:a.eval s=.slice none 0 0) (A:Option Addr) (m c B:Nat) (l:List Value) (hx:a.eval x=.slice A m c) (hn:l.length=m*size) (hp:VL W B A l) (h1:∀u ∈ l,u.oneCell'=true)
  (h63:m<=maxLen) (hby:m*by_<=140737488355328) (hb:b<=W.heap.size)
  (hK:∀A' c' w',w'.ownsRow b te size (.slice A' m c') m l->Below W.heap.size W w'->((Value.slice A' m c').ownBlock=none∨∃g,(Value.slice A' m c').ownBlock=some g/\W.heap.size<=g)->K (a.put o.dst (.slice A' m c')) w'):
  if Region.wanted o (yielded ops a.tmps)=true then Oper.wp Tryz.prog o a W K Q else F:=by
 refine zIq E W hgd s x ho b (.slice none 0 0) 0 [] hs (World.ownsRow_nil _ _ _ _) A m c B l hx hn hp h1 (by rw[Nat.zero_add];exact h63) (by rw[Nat.zero_add];exact hby) hb (fun A' c' w' h1 h2 h3=>?_);rw[Nat.zero_add,List.nil_append]at h1;rw[Nat.zero_add]at h3⊢;exact hK A' c' w' h1 (kOc h2) h3
theorem kAj {ks:List NT}{k:Nat}(h:ks[k]? =some m):sizeT m<=sizeK ks:=by
 have e:sizeK ks=sizeK (ks.take k)+sizeK (ks.drop k):=by rw[<-kZ,List.take_append_drop]
 rw[zCo h]at e;simp only[sizeK]at e;omega
section
variable {w w':World}{g:Nat}{a b x y:Value}{t:TypeId}
theorem kM8 (h:w.heap[g]? =some (.cells #[a,b] t (0,0))):w.cell? ⟨g,0,none⟩=some a/\w.cell? ⟨g,1,none⟩=some b/\w.frozen? ⟨g,0,none⟩=false/\w.frozen? ⟨g,1,none⟩=false:=by
 refine⟨?_,?_,?_,?_⟩<;>simp[World.cell?,World.frozen?,h]
theorem kAk (w:World)(g:Nat)(t:TypeId)(cs:Array Value)(k:Nat)(x:Value)(h:w.heap[g]? =some (.cells cs t (0,0))):(w.setCell ⟨g,k,none⟩ x).heap[g]? =some (.cells (cs.setIfInBounds k x) t (0,0)):=by
 have hlt:=lt_of_block h;have h':w.heap[g]=.cells cs t (0,0):=by simpa[Array.getElem?_eq_getElem hlt]using h
 show(w.heap.modify g _)[g]? =_
 rw[Array.getElem?_eq_getElem (by simpa using hlt),Array.getElem_modify_self,h'];rfl
end
theorem zK2 (w:World)(o o':Obj):((w.alloc o).alloc o').heap[w.heap.size]? =some o/\((w.alloc o).alloc o').heap[w.heap.size+1]? =some o':=by
 refine⟨?_,?_⟩
 ·rw[Below.heap_alloc _ _ _ Kc];exact heap_alloc_new _ _
 ·rw[<-sz1 (w:=w) (A:=o)];exact heap_alloc_new _ _
theorem kAl :madeCells #[Value.int .i64 0] 0=#[]:=by simp[madeCells,Array.range]
theorem kAm (A:Option Addr)(l:List Int)(n c:Nat)(w:World)(hn:l.length=n)(hl:n<=1000)(hp:IL w w.heap.size A l):
  Calls Tryz.prog 88 #[.slice A n c] w (zVq w l):=by
 have HP:=hd hp;have HN:=hd hn;clear hp hn;rcases A with _|a
 ·have hnil:=fun W=>Go.Lib.run_eql_slice_nil (P:=Tryz.prog) W 27 3 none n c 0 0 Tryz.underlying27;have HL:=hd (show l=[] by
   rcases Classical.em (l=[])with h|h
   ·exact h
   ·obtain⟨_,_,h,_⟩:=HP.o h;cases h)
  go_enter Tryz.func88,Tryz.ntmps88
  go_wp2
  go_ret
  exact⟨_,rfl,by rw[HL.o];exact zBt.nil _ _,Below.refl _ _⟩
 ·have hnil:=fun W=>Go.Lib.run_eql_slice_nil (P:=Tryz.prog) W 27 3 (some a) n c 0 0 Tryz.underlying27;go_enter Tryz.func88,Tryz.ntmps88
  have HO:=hd (show zBt (w.alloc (.cells #[] 3)) w.heap.size (.slice (some ⟨w.heap.size,0,none⟩) 0 0) []from kAl▸zBt.made w w.heap.size 0 Kb Kl);go_wp2_with(at_builtin;(refine zCf _ rfl (.tmp 5) (.tmp 6) rfl w.heap.size (.slice (some ⟨w.heap.size,0,none⟩) 0 0) [] l rfl HO.o (some a) n c w.heap.size rfl HN.o (HP.o.below (Kk.alloc Kl _)) (by have:=HN.o;simp;omega) Kc ?_;intro v' w1 aF hg1))
  go_ret
  exact⟨v',rfl,by simpa using aF,hg1.below _ _ Kl Kc (Kk.alloc Kl _)⟩
def kNg (n:NT)(q:List Int):Int:=match kB n q with
 |none=>0
 |some m=>m.tx.length
def zK6 (n:NT)(p:List Int×Int):Int:=match kB n p.1 with
 |none=>5
 |some m=>if m.lf=false then 7 else if p.2<0∨(m.tx.length:Int)<p.2 then 8 else 0
theorem zGh :∀(p:List Int)(n m:NT),kB n p=some m->p.length+sizeT m<=sizeT n
 |[],n,m,h=>by rw[kB]at h;injection h with h;rw[h];simp
 |a::r,n,m,h=>by
  rw[zR]at h;cases hk:zBh n a with
  |none=>rw[hk]at h;cases h
  |some k=>
   rw[hk]at h;have h1:=zGh r k m h;have h2:=kAj (zA1 hk).2.2;have h3:sizeK n.ks<sizeT n:=by cases n;rw[sizeT];simp only[NT.ks];omega
   simp only[List.length_cons];omega
def eO :Option (List Int)->Int
 |none=>14
 |some _=>0
def zI4 (w:World)(v:Value)(p:List Int×Int):Prop:=∃A n c,v=.agg #[.slice A n c,.int .i64 p.2]/\p.1.length=n/\n<=10000000/\n<=c/\IL w w.heap.size A p.1
theorem zI4.later {w w':World}{v:Value}{p:List Int×Int}(h:zI4 w v p)(hb:Below w.heap.size w w'):zI4 w' v p:=by
 obtain⟨A,n,c,e,h1,h2,h3,h4⟩:=h;exact⟨A,n,c,e,h1,h2,h3,h4.later hb⟩
theorem kMz {w W:World}{u v:Value}{p:List Int×Int}(hb:Below w.heap.size w W)(hp:zI4 w u p)(hq:zI4 w v q):Calls Tryz.prog 111 #[u,v] W (jA (.int .i64 (kFb p q)) W):=by
 obtain⟨A,n,c,rfl,h1,h2,_,h3⟩:=hp.later hb;obtain⟨B,m,d,rfl,g1,g2,_,g3⟩:=hq.later hb;exact zKy A B p q n m c d W h1 g1 Kb Kb h3 g3
theorem zYt {w W:World}{u v:Value}{p:List Int×Int}(hb:Below w.heap.size w W)(hp:zI4 w u p)(hq:zI4 w v q):Calls Tryz.prog 57 #[u,v] W (jA (.bool (samP p q)) W):=by
 obtain⟨A,n,c,rfl,h1,h2,_,h3⟩:=hp.later hb;obtain⟨B,m,d,rfl,g1,g2,_,g3⟩:=hq.later hb;exact zQj A B p q n m c d W h1 g1 Kb Kb h3 g3
theorem zUk {w W:World}{u v:Value}{p:List Int×Int}(hb:Below w.heap.size w W)(hp:zI4 w u p)(hq:zI4 w v q):Calls Tryz.prog 52 #[u,v] W (jA (.bool (samP p q)) W):=by
 obtain⟨A,n,c,rfl,h1,h2,_,h3⟩:=hp.later hb;obtain⟨B,m,d,rfl,g1,g2,_,g3⟩:=hq.later hb;exact zVw A B p q n m c d W h1 g1 Kb Kb h3 g3
