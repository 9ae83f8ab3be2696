import Derived.Test.YtmglnjmnabjjgaaGreatJNFresh
set_option maxRecDepth 100000
set_option maxHeartbeats 8000000
namespace Go.Proofs.YtmglnjmnabjjgaaGreat
open Go.RowKit
open Go.WideShapes (add_plain)
variable {B base' c cap bz cp d g g6 gO gk n pc tc:Nat}{W a b w w' w3 w4 w6 w7 wb wr:World}{P:Nat->Prop}{A TA gp gt:Option Addr}{v vK:Value}{us xs:List Value}{t:TypeId}{cs:Array Value}{fr:Nat×Nat}{e:Ending}
structure Off (g:Nat)(w w':World):Prop where
 os:w'.os=w.os
 tape:w'.tape=w.tape
 output:w'.output=w.output
 size:w.heap.size<=w'.heap.size
 block:∀k,k<w.heap.size->k≠g->w'.heap[k]? =w.heap[k]?
theorem Off.refl (g:Nat)(w:World):Off g w w:=⟨rfl,rfl,rfl,Nat.le_refl _,fun _ _ _=>rfl⟩
theorem Off.of_below (h:Below w.heap.size w w'):Off g w w':=⟨h.os,h.tape,h.output,h.size,fun k hk _=>h.block k hk⟩
theorem Off.trans {c:World}(h:Off g a b)(k:Off g b c):Off g a c:=
 ⟨k.os.trans h.os,k.tape.trans h.tape,k.output.trans h.output,Nat.le_trans h.size k.size,fun i hi hg=>(k.block i (Nat.lt_of_lt_of_le hi h.size) hg).trans (h.block i hi hg)⟩
theorem Off.below (h:Off g w w')(hg:B<=g)(hB:B<=w.heap.size):Below B w w':=
 ⟨h.os,h.tape,h.output,h.size,fun k hk=>h.block k Kb Kb⟩
theorem Off.cell (h:Off g w w'){p:Addr}(hp:p.block<w.heap.size)(hg:p.block≠g):w'.cell? p=w.cell? p:=World.cell?_of_block (h.block p.block hp hg)
theorem zAx.deep :∀{d d':Nat}{v:Value}{n:NT},d<=d'->zAx P d w v n->zAx P d' w v n
 |0,_,_,_,_,h=>h.elim
 |d+1,0,_,_,h,_=>absurd h (Nat.not_succ_le_zero _)
 |d+1,d'+1,_,_,hd,⟨PA,pc,TA,tc,KA,kc,e,hp,ht,hf,hks⟩=>⟨PA,pc,TA,tc,KA,kc,e,hp,ht,hf,fun k m hm=>by
   obtain⟨b,o,u,e1,hb,hn,hc,hz⟩:=hks k m hm;exact⟨b,o,u,e1,hb,hn.deep (Nat.le_of_succ_le_succ hd),hc,hz⟩⟩
theorem zV.deep :∀{d d':Nat}{v:Value}{n:NT},d<=d'->zV d w B v n->zV d' w B v n
 |0,_,_,_,_,h=>h.elim
 |d+1,0,_,_,h,_=>absurd h (Nat.not_succ_le_zero _)
 |d+1,d'+1,_,_,hd,⟨PA,pc,TA,tc,KA,kc,e,hp,ht,hf,hks⟩=>⟨PA,pc,TA,tc,KA,kc,e,hp,ht,hf,fun k m hm=>by
   obtain⟨b,o,u,e1,hb,hn,hc⟩:=hks k m hm;exact⟨b,o,u,e1,hb,hn.deep (Nat.le_of_succ_le_succ hd),hc⟩⟩
theorem zPl :zU0 [] 0 0 0 0 0:=⟨⟨by simp,by simp⟩,by simp,by omega,by omega,by simp,by omega,by omega⟩
theorem zBs (P:Nat->Prop)(d:Nat)(w:World):zAx P (d+1) w (.agg #[.bool false,.slice none 0 0,.slice none 0 0,.slice none 0 0]) zeroT:=
 ⟨none,0,none,0,none,0,rfl,fun k u h=>by simp[pv,zeroT,NT.ps]at h,fun k u h=>by simp[rv,zeroT,NT.tx]at h,zPl,fun k m h=>by simp[zeroT,NT.ks]at h⟩
def kMo (P:Nat->Prop):Nat->World->Value->NT->Prop
 |0,_,_,_=>False
 |d+1,w,v,n=>∃PA pc TA tc KA kc,v=.agg #[.bool n.lf,.slice PA n.ps.length pc,.slice TA n.tx.length tc,.slice KA n.ks.length kc]/\
   VP (fun b=>P b/\some b≠(Value.slice KA 0 0).ownBlock) w PA (pv n.ps)/\VP (fun b=>P b/\some b≠(Value.slice KA 0 0).ownBlock) w TA (rv n.tx)/\zU0 n.ps n.tx.length n.ks.length pc tc kc/\
   (∀k m,n.ks[k]? =some m->∃g u,KA=some ⟨g,0,none⟩/\P g/\zAx (fun b=>P b/\some b≠(Value.slice KA 0 0).ownBlock) d w u m/\zK1 w g (0+k*4) u/\∀i,i<4->w.frozen? ⟨g,k*4+i,none⟩=false)
theorem kMo.tree :∀{d:Nat}{w:World}{v:Value}{n:NT},kMo P d w v n->zAx P d w v n
 |0,_,_,_,h=>h.elim
 |d+1,w,v,n,⟨PA,pc,TA,tc,KA,kc,e,hp,ht,hf,hks⟩=>⟨PA,pc,TA,tc,KA,kc,e,hp.keep (fun _ h=>h.1) (fun _ _=>⟨rfl,rfl⟩),ht.keep (fun _ h=>h.1) (fun _ _=>⟨rfl,rfl⟩),hf,fun k m hm=>by
   obtain⟨g,u,e1,hg,ht,hc,hz⟩:=hks k m hm;exact⟨g,0,u,e1,hg,ht.keep (fun _ h=>h.1) (fun _ _=>⟨rfl,rfl⟩),hc,by have:=hz 0 Kb;rw[Nat.zero_add];exact this⟩⟩
def zK8 (P:Nat->Prop)(g:Nat)(v:Value)(w:World)(b:Nat):Prop:=P b/\b<w.heap.size/\b≠g/\some b≠v.ownBlock
structure zNk (P:Nat->Prop)(wb:World)(base d:Nat)(lf:Bool)(ps:List Pr)(tx:List Int)(gO:Nat)(PA:Option Addr)(pc:Nat)(TA:Option Addr)(tc:Nat)(vK:Value)(n:Nat)(us:List Value)(ks:List NT)(wr:World):Prop where
 below:Below base wb wr
 bs:base<=wb.heap.size
 lo:base<=gO
 up:∀b,base<=b->P b
 o:wr.heap[gO]? =some (.cells #[.bool lf,.slice PA ps.length pc,.slice TA tx.length tc,vK] 26 (0,0))
 row:wr.ownsRow base 26 4 vK n (us.flatMap fun u=>u.cells.toList)
 len:us.length=n
 num:ks.length=n
 apart:vK.ownBlock≠some gO
 props:VP (zK8 P gO vK wr) wr PA (pv ps)
 text:VP (zK8 P gO vK wr) wr TA (rv tx)
 kids:∀(j:Nat)(m:NT),ks[j]? =some m->∃u,us[j]? =some u/\zAx (zK8 P gO vK wr) d wr u m
theorem zM9 (us vs:List Value):((us++vs).flatMap fun u=>u.cells.toList)=(us.flatMap fun u=>u.cells.toList)++(vs.flatMap fun u=>u.cells.toList):=by simp
theorem zOg {base:Nat}{lf:Bool}{ps:List Pr}{tx:List Int}{PA:Option Addr}{ks:List NT}
  (h:zNk P wb base d lf ps tx gO PA pc TA tc vK n us ks wr) {vK':Value} {n':Nat} {vs:List Value} {ms:List NT} (hn:n'=n+ms.length) (hl:vs.length=ms.length)
  (hb4:Below wr.heap.size wr w4) (hgrow:w4.grownBy w6 vK.ownBlock) (hown:w6.ownsRow base 26 4 vK' n' ((us.flatMap fun u=>u.cells.toList)++(vs.flatMap fun u=>u.cells.toList)))
  (hat:vK'.ownBlock=vK.ownBlock∨∃g,vK'.ownBlock=some g/\w4.heap.size<=g)
  (hm:∀(j:Nat)(m:NT),ms[j]? =some m->∃u,vs[j]? =some u/\zAx (zK8 P gO vK w4) d w4 u m):
  zNk P wb base d lf ps tx gO PA pc TA tc vK' n' (us++vs) (ks++ms) (w6.setCell ⟨gO,3,none⟩ vK'):=by
 have pQ:=lt_of_block h.o;have hbs:=hb4.size;have xz:=hgrow.size;have au:=h.below.size;have hlo:=h.lo;have hbase:=h.bs;obtain⟨wx,hwx⟩:∃wx,wx=w6.setCell ⟨gO,3,none⟩ vK':=⟨_,rfl⟩;have ex:wx.heap.size=w6.heap.size:=by rw[hwx];simp
 have rF:∀b,b<w4.heap.size->b≠gO->some b≠vK.ownBlock->wx.heap[b]? =w4.heap[b]? :=fun b hb h1 h2=>by
  rw[hwx,Below.heap_setCell _ _ _ _ (by simpa using h1),hgrow.block b hb h2]
 have im:∀b,vK.ownBlock=some b->base<=b/\b<wr.heap.size:=fun b e=>h.row.lt b e;have hapart:vK'.ownBlock≠some gO:=by
  rcases hat with e|⟨g,e,hg⟩
  ·rw[e];exact h.apart
  ·rw[e];intro e2;injection e2 with e2;omega
 have hP:∀b,zK8 P gO vK w4 b->zK8 P gO vK' wx b:=fun b hb=>⟨hb.1,by have:=hb.2.1;omega,hb.2.2.1,by
  rcases hat with e|⟨g,e,hg⟩
  ·rw[e];exact hb.2.2.2
  ·rw[e];intro e2;injection e2 with e2;have:=hb.2.1;omega⟩
 have hK:∀p:Addr,zK8 P gO vK w4 p.block->wx.cell? p=w4.cell? p/\wx.frozen? p=w4.frozen? p:=fun p hp=>
  ⟨World.cell?_of_block (rF _ hp.2.1 hp.2.2.1 hp.2.2.2),World.frozen?_of_block (rF _ hp.2.1 hp.2.2.1 hp.2.2.2)⟩
 have vS:∀b,zK8 P gO vK wr b->zK8 P gO vK w4 b:=fun b hb=>⟨hb.1,by have:=hb.2.1;omega,hb.2.2.1,hb.2.2.2⟩;have vT:∀p:Addr,zK8 P gO vK wr p.block->w4.cell? p=wr.cell? p/\w4.frozen? p=wr.frozen? p:=fun p hp=>⟨hb4.cell hp.2.1,hb4.frozen hp.2.1⟩;have hb0:Below base wb w4:=h.below.trans (hb4.mono Kb);have aP:Below base wb wx:=hwx▸(hb0.grown hgrow Kb (fun j hj=>(im j hj).1)).setCell (by show _<=gO;omega) _;rw[<-hwx];refine⟨aP,h.bs,h.lo,h.up,?_,?_,by rw[List.length_append,h.len,hl,hn],by rw[List.length_append,h.num,hn],hapart,(h.props.keep vS vT).keep hP hK,(h.text.keep vS vT).keep hP hK,fun j m hj=>?_⟩
 ·have h6:w6.heap[gO]? =_:=(hgrow.block gO Kb (fun e=>h.apart e.symm)).trans ((hb4.block gO pQ).trans h.o);rw[hwx,zG4 h6];rfl
 ·rw[hwx,zM9];exact ownsRow_setCell_other hown (a:=⟨gO,3,none⟩) hapart _
 ·rcases Nat.lt_or_ge j ks.length with hjk|hjk
  ·rw[List.getElem?_append_left hjk]at hj;obtain⟨u,hu,ht⟩:=h.kids j m hj;exact⟨u,by rw[List.getElem?_append_left (by rw[h.len,<-h.num];exact hjk)];exact hu,(ht.keep vS vT).keep hP hK⟩
  ·rw[List.getElem?_append_right hjk]at hj;obtain⟨u,hu,ht⟩:=hm _ m hj;refine⟨u,?_,ht.keep hP hK⟩;rw[List.getElem?_append_right (by rw[h.len,<-h.num];exact hjk),h.len,<-h.num];exact hu
theorem zOh {wk:World}{base:Nat}{lf:Bool}{ps:List Pr}{tx:List Int}{PA:Option Addr}{ks:List NT}
  (h:zNk P wb base d lf ps tx gO PA pc TA tc vK n us ks wr) {m:NT} {c0 c1 c2 c3:Value} (hbk:Below wr.heap.size wr wk)
  (hb4:Below wk.heap.size wk w4) (dD:zAx (fun b=>wk.heap.size<=b/\b<w4.heap.size) d w4 (.agg #[c0,c1,c2,c3]) m) (hgrow:(w4.alloc (.cells #[c0,c1,c2,c3] t)).grownBy w6 vK.ownBlock)
  (hown:w6.ownsRow base 26 4 (.slice (some ⟨g6,0,none⟩) (n+1) bz) (n+1) ((us.flatMap fun u=>u.cells.toList)++[c0,c1,c2,c3])) (hat:vK.ownBlock=some g6∨g6=w4.heap.size+1):
  zNk P wb base d lf ps tx gO PA pc TA tc (.slice (some ⟨g6,0,none⟩) (n+1) bz) (n+1) (us++[.agg #[c0,c1,c2,c3]]) (ks++[m]) (w6.setCell ⟨gO,3,none⟩ (.slice (some ⟨g6,0,none⟩) (n+1) bz)):=by
 have hbs:=hbk.size;have qR:=hb4.size;have hbase:=h.bs;have au:=h.below.size;have pQ:=lt_of_block h.o;have e5:(w4.alloc (.cells #[c0,c1,c2,c3] t)).heap.size=w4.heap.size+1:=sz1;have rO:Below w4.heap.size w4 (w4.alloc (.cells #[c0,c1,c2,c3] t)):=Kl.alloc Km _;have vU:Below wr.heap.size wr (w4.alloc (.cells #[c0,c1,c2,c3] t)):=(hbk.trans (hb4.mono hbs)).alloc Kb _;refine zOg h Kc Kc vU hgrow (by simpa[Value.cells]using hown) ?_ (fun j m' hj=>?_)
 ·rcases hat with e|e
  ·exact .inl (by rw[e];rfl)
  ·exact .inr ⟨g6,rfl,by omega⟩
 ·cases j with
  |zero=>
   simp only[List.getElem?_cons_zero,Option.some.injEq]at hj;subst hj;refine⟨_,rfl,dD.keep (fun b hb=>⟨h.up b Kb,by omega,by omega,fun e=>?_⟩) (fun p hp=>⟨rO.cell hp.2,rO.frozen hp.2⟩)⟩;have:=(h.row.lt b e.symm).2;omega
  |succ j=>simp at hj
theorem zC9 {size:Nat}{base:Nat}(h:w.ownsRow base t size v n xs):∃A c,v=.slice A n c/\n<=c/\c<=maxLen/\∀k u,xs[k]? =some u->∃g,A=some ⟨g,0,none⟩/\base<=g/\g<w.heap.size/\kKa w g k u:=by
 rcases h.2 with⟨e,h0⟩|⟨g,cap,cur,e,hb,hh,h1,h2,_⟩
 ·refine⟨none,0,by rw[e,h0],by omega,by unfold maxLen;omega,fun k u hu=>?_⟩;have:=(List.getElem?_eq_some_iff.1 hu).1;rw[h.1,h0]at this;omega
 ·refine⟨some ⟨g,0,none⟩,cap,e,h1,h2,fun k u hu=>⟨g,rfl,hb,lt_of_block hh,?_,by simp[World.frozen?,hh]⟩⟩;have:=h.cells (g:=g) (by rw[e];rfl) k u hu;rwa[add_plain,Nat.zero_add]at this
theorem kAq {base:Nat}{lf:Bool}{ps:List Pr}{tx:List Int}{PA:Option Addr}{ks:List NT}
  (h:zNk P wb base d lf ps tx gO PA pc TA tc vK n us ks wr) (hf:zIo ps/\ps.length<=4398046511104/\tx.length<=35184372088832/\ks.length<=1759218604441/\ps.length<=pc/\tx.length<=tc) (hs:wr.heap.size<=w7.heap.size) (h7:∀b,P b->b<wr.heap.size->w7.heap[b]? =wr.heap[b]?):
  kMo (fun b=>P b/\b<w7.heap.size) (d+1) w7 (.agg #[.bool lf,.slice PA ps.length pc,.slice TA tx.length tc,vK]) (.mk lf ps tx ks):=by
 have hrow:=h.row;obtain⟨KA,kc,rfl,hnc,hcm,hfree⟩:=zC9 hrow;have vV:(Value.slice KA 0 0).ownBlock=(Value.slice KA n kc).ownBlock:=by cases KA<;>rfl
 have hP:∀b,zK8 P gO (.slice KA n kc) wr b->((P b/\b<w7.heap.size)/\some b≠(Value.slice KA 0 0).ownBlock):=fun b hb=>⟨⟨hb.1,by have:=hb.2.1;omega⟩,by rw[vV];exact hb.2.2.2⟩;have hK:∀p:Addr,zK8 P gO (.slice KA n kc) wr p.block->w7.cell? p=wr.cell? p/\w7.frozen? p=wr.frozen? p:=fun p hp=>
  ⟨World.cell?_of_block (h7 _ hp.1 hp.2.1),World.frozen?_of_block (h7 _ hp.1 hp.2.1)⟩
 have h4:∀x ∈ us,x.cells.size=4:=fun x hx=>by
  obtain⟨j,hj,rfl⟩:=List.mem_iff_getElem.1 hx;obtain⟨u,hu,ht⟩:=h.kids j _ (List.getElem?_eq_getElem (by rw[h.num,<-h.len];exact hj));rw[List.getElem?_eq_getElem hj]at hu;injection hu with hu;obtain⟨c0,c1,c2,c3,e⟩:=ht.four;rw[hu,e];rfl
 refine⟨PA,pc,TA,tc,KA,kc,by rw[<-h.num];rfl,h.props.keep hP hK,h.text.keep hP hK,⟨hf.1,hf.2.1,hf.2.2.1,hf.2.2.2.1,hf.2.2.2.2.1,hf.2.2.2.2.2,by show ks.length<=kc;rw[h.num];exact hnc⟩,fun k m hm=>?_⟩;have hk:k<ks.length:=(List.getElem?_eq_some_iff.1 hm).1;obtain⟨u,hu,ht⟩:=h.kids k m hm;obtain⟨c0,c1,c2,c3,e⟩:=ht.four;have hc:=fun i c hi=>hfree (k*4+i) c (zJ5 us k u c0 c1 c2 c3 h4 hu e i c hi);obtain⟨g,hg,hgb,hgl,_,_⟩:=hc 0 c0 rfl;subst hg;have yc:w7.heap[g]? =wr.heap[g]? :=h7 g (h.up g hgb) hgl;have hc':∀i c,[c0,c1,c2,c3][i]? =some c->w7.cell? ⟨g,k*4+i,none⟩=some c/\w7.frozen? ⟨g,k*4+i,none⟩=false:=fun i c hi=>by
  obtain⟨g',e',_,_,h5,h6⟩:=hc i c hi;injection e' with e';injection e' with e';subst e';exact⟨(World.cell?_of_block (a:=⟨g,k*4+i,none⟩) yc).trans h5,(World.frozen?_of_block (a:=⟨g,k*4+i,none⟩) yc).trans h6⟩
 refine⟨g,u,rfl,⟨h.up g hgb,by omega⟩,ht.keep hP hK,⟨c0,c1,c2,c3,e,?_,?_,?_,?_⟩,fun i hi=>?_⟩
 ·rw[Nat.zero_add];exact(hc' 0 c0 rfl).1
 ·rw[Nat.zero_add];exact(hc' 1 c1 rfl).1
 ·rw[Nat.zero_add];exact(hc' 2 c2 rfl).1
 ·rw[Nat.zero_add];exact(hc' 3 c3 rfl).1
 ·match i,hi with
  |0,_=>exact(hc' 0 c0 rfl).2
  |1,_=>exact(hc' 1 c1 rfl).2
  |2,_=>exact(hc' 2 c2 rfl).2
  |3,_=>exact(hc' 3 c3 rfl).2
def zGg (us:List Value):List Value:=us.flatMap fun u=>u.cells.toList
theorem zEp {ty:TypeId}{base e size:Nat}{i:TypeInfo}(ht:Tryz.prog.underlying t=some (.slice e))(hi:Tryz.prog.info? e=some i)(hown:w.ownsRow base e size v n xs):
  (Builtin.append_ #[t,t] ty #[v,.slice A 0 c]).run Tryz.prog w=.ok v w:=by
 rcases hown.2 with⟨rfl,rfl⟩|⟨g,cap,cur,rfl,_,_,hnc,_⟩
 ·cases A<;>simp[Builtin.append_,run_underlying ht,sizeOf,typeInfo,hi,Builtin.lenOf,Builtin.firstCells,loadCells,loadCellsFrom]
 ·cases A<;>simp[Builtin.append_,run_underlying ht,sizeOf,typeInfo,hi,Builtin.lenOf,Builtin.firstCells,loadCells,loadCellsFrom,hnc,storeCells]
theorem kP7 (h:W.grownBy w' none):Below W.heap.size W w':=⟨h.os,h.tape,h.output,h.size,fun k hk=>h.block k hk Kc⟩
theorem zIr {size:Nat}{base:Nat}(h:w.ownsRow base t size (.slice A n c) n xs):VP (fun b=>base<=b/\b<w.heap.size) w A xs:=fun k u hu=>by
 obtain⟨A',c',e,_,_,hf⟩:=zC9 h;injection e with e1 e2 e3;subst e1 e3;obtain⟨g,e,h1,h2,h3⟩:=hf k u hu;exact⟨g,0,e,⟨h1,h2⟩,by rw[Nat.zero_add];exact h3⟩
theorem zPm {size:Nat}{base:Nat}(h:w.ownsRow base t size (.slice A n c) n xs):n<=c:=by
 obtain⟨A',c',e,h1,_,_⟩:=zC9 h;injection e with e1 e2 e3;rw[e3];exact h1
theorem kAr {o X:Obj}{row:Option Nat}(hg:(w4.alloc o).grownBy w6 row)(h:w4.heap[gO]? =some X)(hne:row≠some gO):w6.heap[gO]? =some X:=by
 have hl:=lt_of_block h;exact(hg.block gO Kf (fun e=>hne e.symm)).trans ((Below.heap_alloc w4 o gO hl).trans h)
theorem zBy {base:Nat}{size:Nat}(h:w.ownsRow base t size v n xs)(hb:base'<=base):w.ownsRow base' t size v n xs:=by
 refine⟨h.1,?_⟩;rcases h.2 with e|⟨g,cap,cur,e,hg,rest⟩
 ·exact .inl e
 ·exact .inr ⟨g,cap,cur,e,by omega,rest⟩
def zGj (w w':World):Prop:=∀b,b<w.heap.size->(∀cs fr,w.heap[b]? ≠some (.cells cs 26 fr))->w'.heap[b]? =w.heap[b]?
theorem zCs {base:Nat}{size:Nat}(h:w.ownsRow base t size v n xs)(ht:t≠26)(hk:zGj w w'):w'.ownsRow base t size v n xs:=by
 refine⟨h.1,?_⟩;rcases h.2 with e|⟨g,cap,cur,e,hg,hh,rest⟩
 ·exact .inl e
 ·refine .inr ⟨g,cap,cur,e,hg,(hk g (lt_of_block hh) fun cs fr e2=>?_).trans hh,rest⟩;rw[hh]at e2;injection e2 with e2;injection e2 with _ e3;exact ht e3
theorem zGj.of_below (h:Below w.heap.size w w'):zGj w w':=fun b hb _=>h.block b hb
theorem zGj.of_but (hg:w.heap[g]? =some (.cells cs 26 fr))(h:∀b,b≠g->b<w.heap.size->w'.heap[b]? =w.heap[b]?):zGj w w':=fun b hb hn=>h b (fun e=>hn cs fr (e▸hg)) hb
structure PT (w:World)(base:Nat)(gp:Option Addr)(cp:Nat)(gt:Option Addr)(ct:Nat)(ps:List Pr)(tx:List Int):Prop where
 p:w.ownsRow base 103 2 (.slice gp ps.length cp) ps.length (pv ps)
 t:w.ownsRow base 21 1 (.slice gt tx.length ct) tx.length (rv tx)
theorem PT.keep {base:Nat}{ct:Nat}{ps:List Pr}{tx:List Int}(h:PT w base gp cp gt ct ps tx)(hk:zGj w w'):PT w' base gp cp gt ct ps tx:=
 ⟨zCs h.p Kd hk,zCs h.t Kd hk⟩
def zVd (t:TypeId)(size n:Nat)(xs:List Value)(w:World)(e:Ending)(w':World):Prop:=
 ∃g c,e=.returned (.slice (some ⟨g,0,none⟩) n c)/\w'.ownsRow w.heap.size t size (.slice (some ⟨g,0,none⟩) n c) n xs/\Below w.heap.size w w'
theorem zVd.vp {size:Nat}(h:zVd t size n xs w e w'):∃g c,e=.returned (.slice (some ⟨g,0,none⟩) n c)/\VP (fun b=>w.heap.size<=b/\b<w'.heap.size) w' (some ⟨g,0,none⟩) xs/\Below w.heap.size w w'/\n<=c/\w'.ownsRow w.heap.size t size (.slice (some ⟨g,0,none⟩) n c) n xs:=by
 obtain⟨g,c,e,h1,h2⟩:=h;exact⟨g,c,e,zIr h1,h2,zPm h1,h1⟩
theorem zTx (A:Option Addr)(ps:List Pr)(c:Nat)(w:World)(hl:ps.length<=4398046511104)(hp:PL w w.heap.size A ps):Calls Tryz.prog 80 #[.slice A ps.length c] w (zVd 103 2 ps.length (pv ps) w):=by
 obtain⟨cs,hcs,hmk⟩:=zGt zZh ps.length Kb Kb;have hv:VL w w.heap.size A (pv ps):=hp.vl;have HV:=hd hv;have nW:=hd hcs;clear hp hv hcs;go_enter Tryz.func80,Tryz.ntmps80
 go_wp2_with(at_builtin;refine zBr zZh _ rfl (.tmp 5) (.tmp 6) rfl w.heap.size (.slice (some ⟨w.heap.size,0,none⟩) 0 ps.length) 0 [] rfl (World.ownsRow_made w cs ps.length Km Kg nW.o) A ps.length c w.heap.size (pv ps) rfl (by rw[zN8]<;>omega) (HV.o.below (Kl.alloc Km _)) (zZg ps) Kg Kb Kc rfl ?_;intro g cap w1 aI hg1)
 go_ret
 rw[Nat.zero_add,List.nil_append]at aI;exact⟨g,cap,rfl,aI,(Kl.alloc Km _).grown hg1 Kc (fun j hj=>by simp[Value.ownBlock]at hj;omega)⟩
theorem zTy (A:Option Addr)(ps:List Int)(c:Nat)(w:World)(hl:ps.length<=35184372088832)(hp:VL w w.heap.size A (rv ps)):Calls Tryz.prog 81 #[.slice A ps.length c] w (zVd 21 1 ps.length (rv ps) w):=by
 obtain⟨cs,hcs,hmk⟩:=zGt zTa ps.length Kb Kb;have hv:VL w w.heap.size A (rv ps):=hp;have HV:=hd hv;have nW:=hd hcs;clear hp hv hcs;go_enter Tryz.func81,Tryz.ntmps81
 go_wp2_with(at_builtin;refine zBr zTa _ rfl (.tmp 5) (.tmp 6) rfl w.heap.size (.slice (some ⟨w.heap.size,0,none⟩) 0 ps.length) 0 [] rfl (World.ownsRow_made w cs ps.length Km Kg nW.o) A ps.length c w.heap.size (rv ps) rfl (by rw[zCg]<;>omega) (HV.o.below (Kl.alloc Km _)) (zNz ps) Kg Kb Kc rfl ?_;intro g cap w1 aI hg1)
 go_ret
 rw[Nat.zero_add,List.nil_append]at aI;exact⟨g,cap,rfl,aI,(Kl.alloc Km _).grown hg1 Kc (fun j hj=>by simp[Value.ownBlock]at hj;omega)⟩
def zTz (base d:Nat)(w:World)(v:Value)(n:NT):Prop:=
 ∃(PA:Option Addr)(pc:Nat)(TA:Option Addr)(tc:Nat)(KA:Option Addr)(kc:Nat)(us:List Value),v=.agg #[.bool n.lf,.slice PA n.ps.length pc,.slice TA n.tx.length tc,.slice KA n.ks.length kc]/\w.ownsRow base 103 2 (.slice PA n.ps.length pc) n.ps.length (pv n.ps)/\w.ownsRow base 21 1 (.slice TA n.tx.length tc) n.tx.length (rv n.tx)/\
  w.ownsRow base 26 4 (.slice KA n.ks.length kc) n.ks.length (zGg us)/\zU0 n.ps n.tx.length n.ks.length pc tc kc/\us.length=n.ks.length/\∀(j:Nat)(m:NT),n.ks[j]? =some m->∃u,us[j]? =some u/\zAx (fun b=>base<=b/\b<w.heap.size/\some b≠(Value.slice KA 0 0).ownBlock) d w u m
theorem zTz.base {base:Nat}{n:NT}(h:zTz base d w v n)(hb:base'<=base):zTz base' d w v n:=by
 obtain⟨PA,pc,TA,tc,KA,kc,us,e,hp,ht,hk,hf,hl,hks⟩:=h;exact⟨PA,pc,TA,tc,KA,kc,us,e,zBy hp hb,zBy ht hb,zBy hk hb,hf,hl,fun j m hm=>by
  obtain⟨u,h1,h2⟩:=hks j m hm;exact⟨u,h1,h2.keep (fun b hb2=>⟨by omega,hb2.2⟩) (fun _ _=>⟨rfl,rfl⟩)⟩⟩
theorem zA8 {base:Nat}{size:Nat}(h:w.ownsRow base t size v n xs)(hk:∀b,base<=b->b<w.heap.size->w'.heap[b]? =w.heap[b]?):w'.ownsRow base t size v n xs:=by
 refine⟨h.1,?_⟩;rcases h.2 with e|⟨g,cap,cur,e,hg,hh,rest⟩
 ·exact .inl e
 ·exact .inr ⟨g,cap,cur,e,hg,(hk g hg (lt_of_block hh)).trans hh,rest⟩
theorem zTz.keep {base:Nat}{n:NT}(h:zTz base d w v n)(hs:w.heap.size<=w'.heap.size)(hk:∀b,base<=b->b<w.heap.size->w'.heap[b]? =w.heap[b]?):zTz base d w' v n:=by
 obtain⟨PA,pc,TA,tc,KA,kc,us,e,hp,ht,hkk,hf,hl,hks⟩:=h;exact⟨PA,pc,TA,tc,KA,kc,us,e,zA8 hp hk,zA8 ht hk,zA8 hkk hk,hf,hl,fun j m hm=>by
  obtain⟨u,h1,h2⟩:=hks j m hm;exact⟨u,h1,h2.keep (fun b hb2=>⟨hb2.1,by omega,hb2.2.2⟩) (fun p hp=>⟨World.cell?_of_block (hk _ hp.1 hp.2.1),World.frozen?_of_block (hk _ hp.1 hp.2.1)⟩)⟩⟩
theorem zTz.val {base:Nat}{n:NT}(h:zTz base d w v n):∃lf PA np pc TA nt tc KA nk kc,v=.agg #[.bool lf,.slice PA np pc,.slice TA nt tc,.slice KA nk kc]:=by
 obtain⟨PA,pc,TA,tc,KA,kc,us,e,_⟩:=h;exact⟨_,_,_,_,_,_,_,_,_,_,e⟩
theorem zTz.tree {base:Nat}{n:NT}(h:zTz base d w v n):zAx (fun b=>base<=b/\b<w.heap.size) (d+1) w v n:=by
 obtain⟨PA,pc,TA,tc,KA,kc,us,e,hp,ht,hkk,hf,hl,hks⟩:=h;refine⟨PA,pc,TA,tc,KA,kc,e,zIr hp,zIr ht,hf,fun k m hm=>?_⟩;have hfree:=zIr hkk;have h4:∀x ∈ us,x.cells.size=4:=fun x hx=>by
  obtain⟨j,hj,rfl⟩:=List.mem_iff_getElem.1 hx;obtain⟨u,hu,ht⟩:=hks j _ (List.getElem?_eq_getElem (by rw[<-hl];exact hj));rw[List.getElem?_eq_getElem hj]at hu;injection hu with hu;obtain⟨c0,c1,c2,c3,e⟩:=ht.four;rw[hu,e];rfl
 obtain⟨u,hu,htr⟩:=hks k m hm;obtain⟨c0,c1,c2,c3,e4⟩:=htr.four;have hc:=fun i c hi=>hfree (k*4+i) c (zJ5 us k u c0 c1 c2 c3 h4 hu e4 i c hi);obtain⟨g,o,hg,hgb,hc0⟩:=hc 0 c0 rfl;subst hg;have hc':∀i c,[c0,c1,c2,c3][i]? =some c->kKa w g (o+(k*4+i)) c:=fun i c hi=>by
  obtain⟨g',o',e',_,h5⟩:=hc i c hi;injection e' with e';injection e' with e1 e2;subst e1 e2;exact h5
 refine⟨g,o,u,rfl,hgb,htr.keep (fun b hb=>⟨hb.1,hb.2.1⟩) (fun _ _=>⟨rfl,rfl⟩),⟨c0,c1,c2,c3,e4,?_,?_,?_,?_⟩,?_⟩
 ·exact(hc' 0 c0 rfl).1
 ·exact(hc' 1 c1 rfl).1
 ·exact(hc' 2 c2 rfl).1
 ·exact(hc' 3 c3 rfl).1
 ·exact(hc' 0 c0 rfl).2
def zPu (d:Nat)(n:NT)(w:World)(e:Ending)(w':World):Prop:=
 ∃v,e=.returned v/\zTz w.heap.size d w' v n/\Below w.heap.size w w'
theorem zPu.copied {n:NT}(h:zPu d n w e w'):zVf (d+1) n w e w':=by
 obtain⟨v,h1,h2,h3⟩:=h;exact⟨v,h1,h2.tree,h3⟩
def kFt (w:World)(lf:Bool)(ps:List Pr)(tx:List Int)(kids:Value)(s4:Value)(wx:World):Prop:=
 ∃gO gp cp gt ct,s4=.pointer (some ⟨gO,0,none⟩)/\Below w.heap.size w wx/\wx.heap[w.heap.size+1]? =some (.cells #[.bool false,.slice none 0 0,.slice none 0 0,.slice none 0 0] 26)/\w.heap.size+2<=gO/\wx.cell? ⟨w.heap.size,3,none⟩=some kids/\
  wx.heap[gO]? =some (.cells #[.bool lf,.slice (some ⟨gp,0,none⟩) ps.length cp,.slice (some ⟨gt,0,none⟩) tx.length ct,.slice none 0 0] 26 (0,0))/\
  VP (fun b=>w.heap.size+2<=b/\b<wx.heap.size/\b≠gO) wx (some ⟨gp,0,none⟩) (pv ps)/\VP (fun b=>w.heap.size+2<=b/\b<wx.heap.size/\b≠gO) wx (some ⟨gt,0,none⟩) (rv tx)/\ps.length<=cp/\tx.length<=ct/\PT wx (w.heap.size+2) (some ⟨gp,0,none⟩) cp (some ⟨gt,0,none⟩) ct ps tx
theorem zNb {lf:Bool}{ps:List Pr}{tx:List Int}{kids s4:Value}{wx:World}{gp gt ct:Nat}{k0:Value}(h:kEw w lf ps tx kids s4 wx)(e:s4=.pointer (some ⟨gO,0,none⟩))(hO:wx.heap[gO]? =some (.cells #[.bool lf,.slice (some ⟨gp,0,none⟩) ps.length cp,.slice (some ⟨gt,0,none⟩) tx.length ct,k0] 26 fr))(hpt:PT w3 (w.heap.size+2) (some ⟨gp,0,none⟩) cp (some ⟨gt,0,none⟩) ct ps tx)(hk:zGj w3 wx):kFt w lf ps tx kids s4 wx:=by
 obtain⟨gO',gp',cp',gt',ct',e',h2,h3,h4,h5,h6,h7,h8,h9,h10⟩:=h;have eO:gO'=gO:=by rw[e]at e';injection e' with e';injection e' with e';injection e' with e';exact e'.symm
 subst eO;rw[hO]at h6;simp only[Option.some.injEq,Obj.cells.injEq,Array.mk.injEq,List.cons.injEq,Value.slice.injEq,Addr.mk.injEq,and_true,true_and]at h6;obtain⟨⟨⟨e1,e2⟩,⟨e3,e4⟩,e5⟩,e6⟩:=h6;subst e1 e2 e3 e4 e5 e6;exact⟨_,_,_,_,_,e,h2,h3,h4,h5,hO,h7,h8,h9,h10,hpt.keep hk⟩
theorem zT0 {W' w2:World}{ps:List Pr}{tx:List Int}{ct:Nat}(op:w2.ownsRow W.heap.size 103 2 (.slice gp ps.length cp) ps.length (pv ps))(ot:w3.ownsRow W'.heap.size 21 1 (.slice gt tx.length ct) tx.length (rv tx))(hb:Below w2.heap.size w2 w3)(hW:w.heap.size+2<=W.heap.size)(hW':w.heap.size+2<=W'.heap.size):PT w3 (w.heap.size+2) gp cp gt ct ps tx:=
 ⟨zBy (zA8 op fun b _ hl=>hb.block b hl) hW,zBy ot hW'⟩
theorem zOj {a b c d:Value}(h:w.heap[g]? =some (.cells cs 26 fr)):zGj w ((((w.setCell ⟨g,0,none⟩ a).setCell ⟨g,1,none⟩ b).setCell ⟨g,2,none⟩ c).setCell ⟨g,3,none⟩ d):=
 zGj.of_but h fun k hk _=>by iterate 4 rw[Below.heap_setCell _ _ _ _ (by simpa using hk)]
structure zGk (w:World)(d:Nat)(lf:Bool)(ps:List Pr)(tx:List Int)(ks:List NT)(gO gp cp gt ct k gk cap:Nat)(us:List Value)(wr:World):Prop where
 loop:zFs w d lf ps tx ks gO gp cp gt ct k gk cap us wr
 pt:PT wr (w.heap.size+2) (some ⟨gp,0,none⟩) cp (some ⟨gt,0,none⟩) ct ps tx
theorem zGj.trans {c:World}(h:zGj a b)(k:zGj b c)(hs:a.heap.size<=b.heap.size):zGj a c:=fun x hx hn=>by
 have h1:=h x hx hn;exact(k x Kb (fun cs fr e=>hn cs fr (h1.symm.trans e))).trans h1
theorem zXc {lf:Bool}{ps:List Pr}{tx:List Int}{ks:List NT}{gp gt ct k:Nat}{gI:List Value}{o o1:Obj}{x:Value}(h:zGk w d lf ps tx ks gO gp cp gt ct k gk cap us wr)
  (hb4:Below (wr.alloc o).drew.heap.size (wr.alloc o).drew w4) (hgrow:(w4.alloc o1).grownBy w6 (some gk)) (hst:zFs w d lf ps tx ks gO gp cp gt ct (k+1) g6 bz gI (w6.setCell ⟨gO,3,none⟩ x)):zGk w d lf ps tx ks gO gp cp gt ct (k+1) g6 bz gI (w6.setCell ⟨gO,3,none⟩ x):=by
 refine⟨hst,h.pt.keep fun b hb hn=>?_⟩;obtain⟨hs4,dY⟩:=zIk hb4;have e5:(w4.alloc o1).heap.size=w4.heap.size+1:=sz1;have hne:b≠gO:=fun e=>hn _ _ (e▸h.loop.o);have lG:b≠gk:=fun e=>by
  rcases h.loop.row.2 with⟨e1,_⟩|⟨g',cap',cur,e1,_,hh,_⟩
  ·cases e1
  ·injection e1 with e1;injection e1 with e1;injection e1 with e1;exact hn _ _ (e▸e1▸hh)
 rw[Below.heap_setCell _ _ _ _ (by simpa using hne),hgrow.block b (by rw[e5];omega) (by intro e;injection e with e;exact lG e),Below.heap_alloc _ _ _ Kb,dY b hb]
theorem kA3 {lf:Bool}{ps:List Pr}{tx:List Int}{ks:List NT}{gp gt ct:Nat}(hh:zGk w d lf ps tx ks gO gp cp gt ct ks.length gk cap us wr)(hf:zIo ps/\ps.length<=4398046511104/\tx.length<=35184372088832/\ks.length<=1759218604441/\ps.length<=cp/\tx.length<=ct)(hs:wr.heap.size<=w7.heap.size)
  (h7:∀b,b≠w.heap.size+1->w7.heap[b]? =wr.heap[b]?):
  zTz w.heap.size d w7 (.agg #[.bool lf,.slice (some ⟨gp,0,none⟩) ps.length cp,.slice (some ⟨gt,0,none⟩) tx.length ct,.slice (some ⟨gk,0,none⟩) ks.length cap]) (.mk lf ps tx ks):=by
 have h:=hh.loop;have o8:∀b,w.heap.size+2<=b->b<wr.heap.size->w7.heap[b]? =wr.heap[b]? :=fun b h1 _=>h7 b Kb;have hrow:=zA8 h.row o8;refine⟨_,_,_,_,_,_,us,rfl,zBy (zA8 hh.pt.p o8) Kb,zBy (zA8 hh.pt.t o8) Kb,zBy hrow Kb,⟨hf.1,hf.2.1,hf.2.2.1,hf.2.2.2.1,hf.2.2.2.2.1,hf.2.2.2.2.2,zPm hrow⟩,h.len,fun j m hm=>?_⟩;obtain⟨u,hu,ht⟩:=h.kids j m (List.getElem?_eq_some_iff.1 hm).1 hm;exact⟨u,hu,ht.keep (fun b hb=>⟨by omega,by omega,fun e=>by injection e with e;exact hb.2.2.2 e⟩) (fun p hp=>⟨World.cell?_of_block (h7 _ Kb),World.frozen?_of_block (h7 _ Kb)⟩)⟩
theorem zV1 (g:Nat):∀(d:Nat)(w:World)(v:Value)(n:NT),w.cell? ⟨g,0,none⟩=some (.func (.func 79) #[] #[.pointer (some ⟨g,0,none⟩)])->zV d w w.heap.size v n->
      Calls Tryz.prog 79 #[v,.pointer (some ⟨g,0,none⟩)] w (zPu (d-1) n w):=by
 intro d;induction d with
 |zero=>intro w v n _ h;exact h.elim
 | succ d ih=>
  have ih2:∀(w:World)(v:Value)(n:NT),w.cell? ⟨g,0,none⟩=some (.func (.func 79) #[] #[.pointer (some ⟨g,0,none⟩)])->zV d w w.heap.size v n->Calls Tryz.prog 79 #[v,.pointer (some ⟨g,0,none⟩)] w (zVf d n w):=by
   intro w v n h1 h2;cases d with
   |zero=>exact h2.elim
   |succ d0=>exact(ih w v n h1 h2).mono fun e w' hh=>hh.copied
  clear ih;intro w v n hg hn;obtain⟨d1,lf,ps,tx,ks,PA,pc,TA,tc,KA,kc,hd1,rfl,rfl,hp,ht,hf,hks⟩:=hn.open_;obtain rfl:d=d1:=Kb;obtain⟨wb,hwb⟩:∃wb,wb=(w.alloc (.cells #[.bool lf,.slice PA ps.length pc,.slice TA tx.length tc,.slice KA ks.length kc] 26)).alloc (.cells #[.bool false,.slice none 0 0,.slice none 0 0,.slice none 0 0] 26):=⟨_,rfl⟩;have hb1:Below w.heap.size w wb:=hwb▸kM Kl Km;have X:=(Box.new w (.bool lf) (.slice PA ps.length pc) (.slice TA tx.length tc) (.slice KA ks.length kc) 26).alloc (.cells #[.bool false,.slice none 0 0,.slice none 0 0,.slice none 0 0] 26);rw[<-hwb]at X;have HP:=fun(w':World)(hb0:Below wb.heap.size wb w')=>hd (zTx PA ps pc w' hf.2.1 ((hp.below (hb1.trans (hb0.mono hb1.size))).more (hb1.trans (hb0.mono hb1.size)).size));have HT:=fun(w':World)(hb0:Below wb.heap.size wb w')=>hd (zTy TA tx tc w' hf.2.2.1 ((ht.below (hb1.trans (hb0.mono hb1.size))).more (hb1.trans (hb0.mono hb1.size)).size));have cH:=hd (show wb.heap[w.heap.size+1]? =some (.cells #[.bool false,.slice none 0 0,.slice none 0 0,.slice none 0 0] 26) by rw[hwb,<-sz1 (w:=w) (A:=(.cells #[.bool lf,.slice PA ps.length pc,.slice TA tx.length tc,.slice KA ks.length kc] 26))];exact heap_alloc_new _ _);obtain⟨cs,hcs,hmk⟩:=zGt zWg ks.length (by have:=hf.2.2.2.1;omega) (by have:=hf.2.2.2.1;omega);have nW:=hd hcs;have bR:=hd hks;have HG:=hd hg;have HF:=hd hf;have HB:=hd hb1;have HX:=hd X;have bB:=hf.2.2.2.1;obtain⟨x0,x1,x2,x3⟩:=X;subst hwb;clear hn hp ht hf hks hd1 hb1 hg hcs;go_enter Tryz.func79,Tryz.ntmps79
  go_wp2_with fail
  go_upto_region 1 with fail
  go_cut [4] (fun s4 wx=>kFt w lf ps tx (.slice KA ks.length kc) s4 wx)
  case first=>
   go_region_held3(fun w'=>Below ((w.alloc (.cells #[.bool lf,.slice PA ps.length pc,.slice TA tx.length tc,.slice KA ks.length kc] 26)).alloc (.cells #[.bool false,.slice none 0 0,.slice none 0 0,.slice none 0 0] 26)).heap.size ((w.alloc (.cells #[.bool lf,.slice PA ps.length pc,.slice TA tx.length tc,.slice KA ks.length kc] 26)).alloc (.cells #[.bool false,.slice none 0 0,.slice none 0 0,.slice none 0 0] 26)) w'/\w'.cell? ⟨w.heap.size,0,none⟩=some (.bool lf)/\w'.cell? ⟨w.heap.size,1,none⟩=some (.slice PA ps.length pc)/\w'.cell? ⟨w.heap.size,2,none⟩=some (.slice TA tx.length tc)/\w'.cell? ⟨w.heap.size,3,none⟩=some (.slice KA ks.length kc))
    (first
     |assumption
     |exact⟨Kl.drew,x0,x1,x2,x3⟩
     |exact zXl ‹_› (Kl.alloc Km _)
     |exact kBg ‹_› Kf (by first|exact BH.1.size|simp))
    (first
     |(go_at_call 80;refine Calls.mono (HP _ ?hh).o ?_;(case hh=>(go_split_ands;assumption));intro e w2 h2;obtain⟨gp,cp,rfl,vp,b2,mf,ye⟩:=h2.vp;have BH:=zXl ‹_› b2;have mV:=hd vp;have mh:=hd ye;clear ye;(first|have sV:=hd (kBf (w:=w) (Z:=(.cells #[.bool false,.slice none 0 0,.slice none 0 0,.slice none 0 0] 26)) b2)|skip);clear h2 vp)
     |(go_at_call 81;refine Calls.mono (HT _ ?hh).o ?_;(case hh=>(go_split_ands;assumption));intro e w3 h3;obtain⟨gt,ct,rfl,vt,b3,hct,yf⟩:=h3.vp;have sZ:=zXl ‹_› b3;have mW:=hd vt;have vW:=hd yf;clear yf;(first|(have mi:=hd (kI sV.o b3);have nO:=zJ mi.o;obtain⟨q0,q1,q2,q3,q4,q5,q6,q7⟩:=nO)|(have mi:=hd (kFw (W0:=w2) (o:=(.cells #[.bool false,.slice none 0 0,.slice none 0 0,.slice none 0 0] 26)) b3 (g:=w2.heap.size) rfl);have nO:=zJ mi.o;obtain⟨q0,q1,q2,q3,q4,q5,q6,q7⟩:=nO)|skip);clear h3 vt))
   ·go_wp2_with fail
    go_meet
    exact zNb (w3:=w3) (zSb mf hct HB.o cH.o sZ mV.o mW.o b3 (by rw[sz2];exact Nat.le_refl _) (by have h:=b2.size;rw[sz2]at h;omega) (by have h:=b2.size;rw[sz2]at h;have:=b3.size;omega)) rfl (heap_alloc_new _ _) (zT0 mh.o vW.o b3 (by rw[sz2];exact Nat.le_refl _) (by have h:=b2.size;rw[sz2]at h;omega)) (zGj.of_below (Kl.alloc Km _))
   ·go_wp2_with fail
    go_meet
    exact zNb (w3:=w3) (zJ4 mf hct HB.o cH.o sZ mV.o mW.o (zEu b3) mi.o (by have h:=b2.size;rw[sz2]at h;omega) (by rw[sz2];exact Nat.le_refl _) (by rw[sz1];have h:=b2.size;rw[sz2]at h;omega) (fun b _ h=>by omega) (fun b h=>by rw[sz1]at h;omega)) rfl (kD mi.o) (zT0 mh.o vW.o (zEu b3) (by rw[sz2];exact Nat.le_refl _) (by rw[sz1];have h:=b2.size;rw[sz2]at h;omega)) (zOj mi.o)
   ·go_wp2_with fail
    go_meet
    exact zNb (w3:=w3) (zJ4 mf hct HB.o cH.o sZ mV.o mW.o b3 mi.o Kb (by rw[sz3];omega) (by have h:=b2.size;rw[sz3]at h;omega) (fun b h _=>by rw[sz3]at h;omega) (fun b h=>by have h2:=b2.size;rw[sz3]at h2;omega)) rfl (kD mi.o) (zT0 mh.o vW.o b3 (by rw[sz3];omega) (by have h:=b2.size;rw[sz3]at h;omega)) (zOj mi.o)
  case rest=>
   obtain⟨gO,gp,cp,gt,ct,rfl,aO,hr4,vH,k3,hO,mV,mW,mf,hct,hpt⟩:=hcut;have cD:=hd hpt;clear hpt;obtain⟨o0,o1,o2,o3,f0,f1,f2,f3⟩:=zJ hO;have pQ:=lt_of_block hO;have HO:=hd hO;have m8:=hd aO;have mV:=hd mV;have mW:=hd mW;have hk3:((wc.setCell ⟨gO,3,none⟩ (.slice (some ⟨wc.heap.size,0,none⟩) 0 ks.length)).alloc (.cells cs 26)).cell? ⟨w.heap.size,3,none⟩=some (.slice KA ks.length kc):=by
    rw[World.cell?_alloc_lt _ _ _ (by have:=kQ k3;simpa using this),World.cell?_setCell_other _ _ _ _ (by simp;try omega)];exact k3
   have qN:=hd (show zGk w d lf ps tx ks gO gp cp gt ct 0 wc.heap.size ks.length [] _ from⟨zOl (d:=d) (ks:=ks) vH hO aO hr4 mV.o mW.o nW.o bB,cD.o.keep ((zGj.of_but hO (fun b hb _=>Below.heap_setCell wc (a:=⟨gO,3,none⟩) (.slice (some ⟨wc.heap.size,0,none⟩) 0 ks.length) b (by simpa using hb))).trans (zGj.of_below (Kl.alloc Km _)) Kc)⟩);clear cD;clear hO aO hr4 HP HT x0 x1 x2 x3 HX HB mV mW cH;go_wp2_with fail
   clear hk3 k3 o0 o1 o2 o3 f0 f1 f2 f3 hmk;go_loopw [24] (fun i wr=>∃(k gk cap:Nat)(us:List Value),k<=ks.length/\i=.int .i64 k/\Kr (zGk w d lf ps tx ks gO gp cp gt ct k gk cap us wr)) (fun i _=>ks.length-(intOf i).toNat)
   case atStart=>exact⟨0,_,_,_,Nat.zero_le _,rfl,qN⟩
   case round=>
    obtain⟨k,gk,cap,us,hk,rfl,HL⟩:=hrel;clear qN;have hbr:=HL.o.loop.below;by_cases hlt:k<ks.length
    ·obtain⟨m,b,o,lf1,dh,dA,di,dt,dB,dv,dw,dC,kc1,hm,rfl,hbg,cK,c0,c1,c2,c3⟩:=(bR.o.below hbr).at_ hlt;have hsz:=hbr.size;have iD:=HL.o.loop.o;have ic:=lt_of_block iD;have HM:=hd hm;obtain⟨p0,p1,p2,p3,g0,g1,g2,g3⟩:=zJ iD;have nT:wr.cell? ⟨g,0,none⟩=some (.func (.func 79) #[] #[.pointer (some ⟨g,0,none⟩)]):=(hbr.cell (kQ HG.o)).trans HG.o;have hgl:=kQ nT;obtain⟨wk,hwk⟩:∃wk,wk=(wr.alloc (.cells #[.bool lf1,.slice dh dA di,.slice dt dB dv,.slice dw dC kc1] 26)).drew:=⟨_,rfl⟩;have hbk:Below wr.heap.size wr wk:=hwk▸(Kl.alloc Km _).drew;have HC:=hd (ih2 wk _ m ((hbk.cell (kQ nT)).trans nT) (((cK.more hsz).below hbk).more hbk.size));have eX:=hd hbk;have qh:wk.heap[gO]? =_:=(hbk.block _ ic).trans iD;have ba:=hd qh;have hks:=hd (show wk.heap.size=wr.heap.size+1 by rw[hwk];exact sz1);have fT:=kQ HG.o;have BI:=HL.o.loop.row.lt gk rfl;have jv:=HL.o.loop.apart;obtain⟨i0,hi,hz0,hz1,hz2⟩:=info_parts zJj;subst hwk;clear cK hbk hm iD hbr qh;go_upto_block 1 with fail
     go_cut [24] (fun s wx=>s=.int .i64 k/\∃(g6 bz:Nat)(gI:List Value),Kr (zGk w d lf ps tx ks gO gp cp gt ct (k+1) g6 bz gI wx))
     case first=>
      go_wp2_with fail
      go_region_law(first
        |((go_simp;go_at_call 79;refine HC.o.mono ?_;intro e w4 h4;obtain⟨v4,rfl,dD,hb4⟩:=h4;obtain⟨lf4,aW,br,aQ,aX,bv,aR,bl,bw,bn,rfl⟩:=(dD.at_ (B:=w4.heap.size) (fun b hb=>hb.2)).val;obtain⟨hs4,dY⟩:=zIk hb4;have vX:=hd ((dY gO ic).trans HL.o.loop.o);obtain⟨r0,r1,r2,r3,r4,r5,r6,r7⟩:=zJ vX.o;have BJ:gO<w4.heap.size:=Kb;have hrow4:=hd (zG5 HL.o.loop.row dY);have vY:=hd dY;clear dY;have aO:=hd hb4;have iT:=hd dD;clear dD hb4))
        |((refine step_append_lies _ Ke (.tmp 29) (.tmp 33) _ Ke (w.heap.size+2) 26 i0 _ 4 80 Tryz.underlying24 hi hz0 hz1 hz2 rfl Kb (.slice (some ⟨gk,0,none⟩) k cap) k (us.flatMap fun u=>u.cells.toList) (by first|rfl|simp[Act.eval]) (hrow4.o.alloc _) ⟨w4.heap.size,0,none⟩ 1 1 [.bool lf4,.slice aW br aQ,.slice aX bv aR,.slice bl bw bn] (by first|rfl|simp[Act.eval]) Ke (World.news_of_block (cs:=#[.bool lf4,.slice aW br aQ,.slice aX bv aR,.slice bl bw bn]) (t:=26) (fr:=(0,0)) (heap_alloc_new w4 _)) (by simp[Value.oneCell']) Kb Kg Kb Kf (w4.heap.size+1) Kc ?_;intro g6 bz w6 bI aG cX lU;have fV:=hd (zNe aG vX.o jv);obtain⟨s0,s1,s2,s3,s4,s5,s6,s7⟩:=zJ fV.o;have lV:=lt_of_block fV.o)))
      all_goals
       have HST:=hd (zXc HL.o aO.o aG (zSc HL.o.loop HM.o aO.o iT.o aG bI cX))
       clear aG bI cX s0 s1 s2 s3 s4 s5 s6 s7 r0 r1 r2 r3 r4 r5 r6 r7 hrow4 vX fV vY aO iT p0 p1 p2 p3 g0 g1 g2 g3 c0 c1 c2 c3
       go_wp2_with fail
       go_meet
       exact⟨rfl,g6,bz,_,HST⟩
     case rest=>
      obtain⟨rfl,g6,bz,gI,HST⟩:=hcut;clear p0 p1 p2 p3 g0 g1 g2 g3 c0 c1 c2 c3;go_wp2
      go_roundw
      case rel=>exact⟨k+1,g6,bz,gI,by omega,by go_num,HST⟩
      case measure=>simp[intOf];omega
    ·obtain rfl:k=ks.length:=Kb;have jy:=HL.o.loop.o;have ve:=lt_of_block jy;obtain⟨p0,p1,p2,p3,_,_,_,_⟩:=zJ jy;clear jy;obtain⟨q0,q1,q2,q3,q4,q5,q6,q7⟩:=zJ HL.o.loop.res;have vg:=hd HL.o.loop.res;have hbr:=HL.o.loop.below;go_wp2
     have h7:=kD (a:=.bool lf) (b:=.slice (some ⟨gp,0,none⟩) ps.length cp) (c:=.slice (some ⟨gt,0,none⟩) tx.length ct) (d:=.slice (some ⟨gk,0,none⟩) ks.length cap) vg.o;obtain⟨t0,t1,t2,t3,_,_,_,_⟩:=zJ h7;refine bodyPost_ret (v:=.agg #[.bool lf,.slice (some ⟨gp,0,none⟩) ps.length cp,.slice (some ⟨gt,0,none⟩) tx.length ct,.slice (some ⟨gk,0,none⟩) ks.length cap]) (by simp[results,Tryz.results79,go_sem,t0,t1,t2,t3]) rfl ⟨_,rfl,kA3 HL.o ⟨HF.o.1,HF.o.2.1,HF.o.2.2.1,HF.o.2.2.2.1,mf,hct⟩ Kc (fun b hb=>?_),?_⟩
     ·iterate 4 rw[Below.heap_setCell _ _ _ _ (by simpa using hb)]
     ·exact(((hbr.setCell (by show _<=w.heap.size+1;omega) _).setCell (by show _<=w.heap.size+1;omega) _).setCell (by show _<=w.heap.size+1;omega) _).setCell (by show _<=w.heap.size+1;omega) _
theorem zYx (d:Nat)(w:World)(v:Value)(n:NT)(hn:zV d w w.heap.size v n):Calls Tryz.prog 41 #[v] w (zPu (d-1) n w):=by
 have hn0:=hn;obtain⟨lf,PA,np,pc,TA,nt,tc,KA,nk,kc,rfl⟩:=hn.val;obtain⟨f0,lH⟩:∃f:Value,f=.func (.func 79) #[] #[.pointer (some ⟨w.heap.size+1+1,0,none⟩)]:=⟨_,rfl⟩;obtain⟨wa,fK⟩:∃wa,wa=((w.alloc (.cells #[.bool lf,.slice PA np pc,.slice TA nt tc,.slice KA nk kc] 26)).alloc (.cells #[.bool false,.slice none 0 0,.slice none 0 0,.slice none 0 0] 26)).alloc (.cells #[f0] 91):=⟨_,rfl⟩;have bY:Below w.heap.size w wa:=fK▸(kM Kl Km).alloc Kf _;have rE:wa.cell? ⟨w.heap.size+1+1,0,none⟩=some f0:=by rw[fK,World.cell?_alloc_at _ _ _ _ Kc];rfl
 have hsa:wa.heap.size=w.heap.size+3:=by rw[fK];simp
 have l8:wa.heap[w.heap.size+1]? =some (.cells #[.bool false,.slice none 0 0,.slice none 0 0,.slice none 0 0] 26):=by
  rw[fK,Below.heap_alloc _ _ _ Kc];rw[<-sz1 (w:=w) (A:=.cells #[.bool lf,.slice PA np pc,.slice TA nt tc,.slice KA nk kc] 26)];exact heap_alloc_new _ _
 have HC:=hd (zV1 (w.heap.size+1+1) d wa _ _ (lH▸rE) (hn0.later bY));have HB:=hd bY;have HR:=hd l8;have HS:=hd hsa;subst fK lH;clear hn hn0 bY rE l8 hsa;go_enter Tryz.func41,Tryz.ntmps41
 go_wp2_with(first|(refine HC.o.mono ?_;intro e w' h4;obtain⟨v4,rfl,dD,hb4⟩:=h4;obtain⟨lf4,aW,br,aQ,aX,bv,aR,bl,bw,bn,rfl⟩:=dD.val;have eF:=hd ((hb4.block (w.heap.size+1) (by rw[HS.o];omega)).trans HR.o);obtain⟨r0,r1,r2,r3,r4,r5,r6,r7⟩:=zJ eF.o;have iT:=hd dD;have aO:=hd hb4;clear dD hb4))
 have h7:=kD (a:=.bool lf4) (b:=.slice aW br aQ) (c:=.slice aX bv aR) (d:=.slice bl bw bn) eF.o;obtain⟨t0,t1,t2,t3,_,_,_,_⟩:=zJ h7;have hsz:=aO.o.size;rw[HS.o]at hsz;have yg:=iT.o;rw[HS.o]at yg;have uV:Below w.heap.size w w':=HB.o.trans (aO.o.mono (by rw[HS.o];omega));refine bodyPost_ret (v:=.agg #[.bool lf4,.slice aW br aQ,.slice aX bv aR,.slice bl bw bn]) (by simp[results,Tryz.results41,go_sem,t0,t1,t2,t3]) rfl ⟨_,rfl,(yg.keep Kc (fun b h1 _=>?_)).base Kb,?_⟩
 ·have hne:b≠w.heap.size+1:=Kb;iterate 4 rw[Below.heap_setCell _ _ _ _ (by simpa using hne)]
 ·exact(((uV.setCell (by show _<=w.heap.size+1;omega) _).setCell (by show _<=w.heap.size+1;omega) _).setCell (by show _<=w.heap.size+1;omega) _).setCell (by show _<=w.heap.size+1;omega) _
