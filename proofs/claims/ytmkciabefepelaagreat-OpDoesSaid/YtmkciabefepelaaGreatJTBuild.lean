import Derived.Test.YtmkciabefepelaaGreatJNCopy
set_option maxRecDepth 100000
set_option maxHeartbeats 8000000
namespace Go.Proofs.YtmkciabefepelaaGreat
open Go.RowKit
open Go.WideShapes (add_plain)
variable {B by_ c cp d g gO n pc tc:Nat}{W W' w w' w2 w3 w4 w6 wb wr:World}{P:Nat->Prop}{A TA gp gt:Option Addr}{b kids v vK:Value}{us xs:List Value}{t te ts:TypeId}{ops:Array Oper}{Q:Exit->Act->World->Prop}
structure Off (g:Nat)(w w':World):Prop where
 os:w'.os=w.os
 tape:w'.tape=w.tape
 output:w'.output=w.output
 size:w.heap.size<=w'.heap.size
 block:∀k,k<w.heap.size->k≠g->w'.heap[k]? =w.heap[k]?
theorem Off.refl (g:Nat)(w:World):Off g w w:=⟨rfl,rfl,rfl,Nat.le_refl _,fun _ _ _=>rfl⟩
theorem Off.of_below (h:Below w.heap.size w w'):Off g w w':=⟨h.os,h.tape,h.output,h.size,fun k hk _=>h.block k hk⟩
theorem Off.trans {a b c:World}(h:Off g a b)(k:Off g b c):Off g a c:=
 ⟨k.os.trans h.os,k.tape.trans h.tape,k.output.trans h.output,Nat.le_trans h.size k.size,fun i hi hg=>(k.block i (Nat.lt_of_lt_of_le hi h.size) hg).trans (h.block i hi hg)⟩
theorem Off.below (h:Off g w w')(hg:B<=g)(hB:B<=w.heap.size):Below B w w':=
 ⟨h.os,h.tape,h.output,h.size,fun k hk=>h.block k Kb Kb⟩
theorem Off.cell (h:Off g w w'){p:Addr}(hp:p.block<w.heap.size)(hg:p.block≠g):w'.cell? p=w.cell? p:=World.cell?_of_block (h.block p.block hp hg)
theorem zAx.deep :∀{d d':Nat}{v:Value}{n:NT},d<=d'->zAx P d w v n->zAx P d' w v n
 |0,_,_,_,_,h=>h.elim
 |d+1,0,_,_,h,_=>absurd h (Nat.not_succ_le_zero _)
 |d+1,d'+1,_,_,hd,⟨PA,pc,TA,tc,KA,kc,e,hp,ht,hf,hks⟩=>⟨PA,pc,TA,tc,KA,kc,e,hp,ht,hf,fun k m hm=>by
   obtain⟨b,o,u,e1,hb,hn,hc,hz⟩:=hks k m hm;exact⟨b,o,u,e1,hb,hn.deep (Nat.le_of_succ_le_succ hd),hc,hz⟩⟩
theorem zV.deep :∀{d d':Nat}{v:Value}{n:NT},d<=d'->zV d w B v n->zV d' w B v n
 |0,_,_,_,_,h=>h.elim
 |d+1,0,_,_,h,_=>absurd h (Nat.not_succ_le_zero _)
 |d+1,d'+1,_,_,hd,⟨PA,pc,TA,tc,KA,kc,e,hp,ht,hf,hks⟩=>⟨PA,pc,TA,tc,KA,kc,e,hp,ht,hf,fun k m hm=>by
   obtain⟨b,o,u,e1,hb,hn,hc⟩:=hks k m hm;exact⟨b,o,u,e1,hb,hn.deep (Nat.le_of_succ_le_succ hd),hc⟩⟩
theorem zPl :zU0 [] 0 0 0 0 0:=⟨⟨by simp,by simp⟩,by simp,by omega,by omega,by simp,by omega,by omega⟩
theorem zBs (P:Nat->Prop)(d:Nat)(w:World):zAx P (d+1) w (.agg #[.bool false,.slice none 0 0,.slice none 0 0,.slice none 0 0]) zeroT:=
 ⟨none,0,none,0,none,0,rfl,fun k u h=>by simp[pv,zeroT,NT.ps]at h,fun k u h=>by simp[rv,zeroT,NT.tx]at h,zPl,fun k m h=>by simp[zeroT,NT.ks]at h⟩
def kMo (P:Nat->Prop):Nat->World->Value->NT->Prop
 |0,_,_,_=>False
 |d+1,w,v,n=>∃PA pc TA tc KA kc,v=.agg #[.bool n.lf,.slice PA n.ps.length pc,.slice TA n.tx.length tc,.slice KA n.ks.length kc]/\
   VP (fun b=>P b/\some b≠(Value.slice KA 0 0).ownBlock) w PA (pv n.ps)/\VP (fun b=>P b/\some b≠(Value.slice KA 0 0).ownBlock) w TA (rv n.tx)/\zU0 n.ps n.tx.length n.ks.length pc tc kc/\
   (∀k m,n.ks[k]? =some m->∃g u,KA=some ⟨g,0,none⟩/\P g/\zAx (fun b=>P b/\some b≠(Value.slice KA 0 0).ownBlock) d w u m/\zK1 w g (0+k*4) u/\∀i,i<4->w.frozen? ⟨g,k*4+i,none⟩=false)
theorem kMo.tree :∀{d:Nat}{w:World}{v:Value}{n:NT},kMo P d w v n->zAx P d w v n
 |0,_,_,_,h=>h.elim
 |d+1,w,v,n,⟨PA,pc,TA,tc,KA,kc,e,hp,ht,hf,hks⟩=>⟨PA,pc,TA,tc,KA,kc,e,hp.keep (fun _ h=>h.1) (fun _ _=>⟨rfl,rfl⟩),ht.keep (fun _ h=>h.1) (fun _ _=>⟨rfl,rfl⟩),hf,fun k m hm=>by
   obtain⟨g,u,e1,hg,ht,hc,hz⟩:=hks k m hm;exact⟨g,0,u,e1,hg,ht.keep (fun _ h=>h.1) (fun _ _=>⟨rfl,rfl⟩),hc,by have:=hz 0 Kb;rw[Nat.zero_add];exact this⟩⟩
def zK8 (P:Nat->Prop)(g:Nat)(v:Value)(w:World)(b:Nat):Prop:=P b/\b<w.heap.size/\b≠g/\some b≠v.ownBlock
structure zNk (P:Nat->Prop)(wb:World)(base d:Nat)(lf:Bool)(ps:List Pr)(tx:List Int)(gO:Nat)(PA:Option Addr)(pc:Nat)(TA:Option Addr)(tc:Nat)(vK:Value)(n:Nat)(us:List Value)(ks:List NT)(wr:World):Prop where
 below:Below base wb wr
 bs:base<=wb.heap.size
 lo:base<=gO
 up:∀b,base<=b->P b
 o:wr.heap[gO]? =some (.cells #[.bool lf,.slice PA ps.length pc,.slice TA tx.length tc,vK] 26 (0,0))
 row:wr.ownsRow base 26 4 vK n (us.flatMap fun u=>u.cells.toList)
 len:us.length=n
 num:ks.length=n
 apart:vK.ownBlock≠some gO
 props:VP (zK8 P gO vK wr) wr PA (pv ps)
 text:VP (zK8 P gO vK wr) wr TA (rv tx)
 kids:∀(j:Nat)(m:NT),ks[j]? =some m->∃u,us[j]? =some u/\zAx (zK8 P gO vK wr) d wr u m
theorem zM9 (us vs:List Value):((us++vs).flatMap fun u=>u.cells.toList)=(us.flatMap fun u=>u.cells.toList)++(vs.flatMap fun u=>u.cells.toList):=by simp
theorem zOg {base:Nat}{lf:Bool}{ps:List Pr}{tx:List Int}{PA:Option Addr}{ks:List NT}
  (h:zNk P wb base d lf ps tx gO PA pc TA tc vK n us ks wr) {vK':Value} {n':Nat} {vs:List Value} {ms:List NT} (hn:n'=n+ms.length) (hl:vs.length=ms.length)
  (hb4:Below wr.heap.size wr w4) (hgrow:w4.grownBy w6 vK.ownBlock) (hown:w6.ownsRow base 26 4 vK' n' ((us.flatMap fun u=>u.cells.toList)++(vs.flatMap fun u=>u.cells.toList)))
  (hat:vK'.ownBlock=vK.ownBlock∨∃g,vK'.ownBlock=some g/\w4.heap.size<=g)
  (hm:∀(j:Nat)(m:NT),ms[j]? =some m->∃u,vs[j]? =some u/\zAx (zK8 P gO vK w4) d w4 u m):
  zNk P wb base d lf ps tx gO PA pc TA tc vK' n' (us++vs) (ks++ms) (w6.setCell ⟨gO,3,none⟩ vK'):=by
 have qh:=lt_of_block h.o;have hbs:=hb4.size;have CZ:=hgrow.size;have d9:=h.below.size;have hlo:=h.lo;have hbase:=h.bs;obtain⟨wx,hwx⟩:∃wx,wx=w6.setCell ⟨gO,3,none⟩ vK':=⟨_,rfl⟩;have ex:wx.heap.size=w6.heap.size:=by rw[hwx];simp
 have ra:∀b,b<w4.heap.size->b≠gO->some b≠vK.ownBlock->wx.heap[b]? =w4.heap[b]? :=fun b hb h1 h2=>by
  rw[hwx,Below.heap_setCell _ _ _ _ (by simpa using h1),hgrow.block b hb h2]
 have fK:∀b,vK.ownBlock=some b->base<=b/\b<wr.heap.size:=fun b e=>h.row.lt b e;have hapart:vK'.ownBlock≠some gO:=by
  rcases hat with e|⟨g,e,hg⟩
  ·rw[e];exact h.apart
  ·rw[e];intro e2;injection e2 with e2;omega
 have hP:∀b,zK8 P gO vK w4 b->zK8 P gO vK' wx b:=fun b hb=>⟨hb.1,by have:=hb.2.1;omega,hb.2.2.1,by
  rcases hat with e|⟨g,e,hg⟩
  ·rw[e];exact hb.2.2.2
  ·rw[e];intro e2;injection e2 with e2;have:=hb.2.1;omega⟩
 have hK:∀p:Addr,zK8 P gO vK w4 p.block->wx.cell? p=w4.cell? p/\wx.frozen? p=w4.frozen? p:=fun p hp=>
  ⟨World.cell?_of_block (ra _ hp.2.1 hp.2.2.1 hp.2.2.2),World.frozen?_of_block (ra _ hp.2.1 hp.2.2.1 hp.2.2.2)⟩
 have ve:∀b,zK8 P gO vK wr b->zK8 P gO vK w4 b:=fun b hb=>⟨hb.1,by have:=hb.2.1;omega,hb.2.2.1,hb.2.2.2⟩;have vg:∀p:Addr,zK8 P gO vK wr p.block->w4.cell? p=wr.cell? p/\w4.frozen? p=wr.frozen? p:=fun p hp=>⟨hb4.cell hp.2.1,hb4.frozen hp.2.1⟩;have hb0:Below base wb w4:=h.below.trans (hb4.mono Kb);have aN:Below base wb wx:=hwx▸(hb0.grown hgrow Kb (fun j hj=>(fK j hj).1)).setCell (by show _<=gO;omega) _;rw[<-hwx];refine⟨aN,h.bs,h.lo,h.up,?_,?_,by rw[List.length_append,h.len,hl,hn],by rw[List.length_append,h.num,hn],hapart,(h.props.keep ve vg).keep hP hK,(h.text.keep ve vg).keep hP hK,fun j m hj=>?_⟩
 ·have h6:w6.heap[gO]? =_:=(hgrow.block gO Kb (fun e=>h.apart e.symm)).trans ((hb4.block gO qh).trans h.o);rw[hwx,zG4 h6];rfl
 ·rw[hwx,zM9];exact ownsRow_setCell_other hown (a:=⟨gO,3,none⟩) hapart _
 ·rcases Nat.lt_or_ge j ks.length with hjk|hjk
  ·rw[List.getElem?_append_left hjk]at hj;obtain⟨u,hu,ht⟩:=h.kids j m hj;exact⟨u,by rw[List.getElem?_append_left (by rw[h.len,<-h.num];exact hjk)];exact hu,(ht.keep ve vg).keep hP hK⟩
  ·rw[List.getElem?_append_right hjk]at hj;obtain⟨u,hu,ht⟩:=hm _ m hj;refine⟨u,?_,ht.keep hP hK⟩;rw[List.getElem?_append_right (by rw[h.len,<-h.num];exact hjk),h.len,<-h.num];exact hu
theorem zOh {wk:World}{base:Nat}{lf:Bool}{ps:List Pr}{tx:List Int}{PA:Option Addr}{ks:List NT}
  (h:zNk P wb base d lf ps tx gO PA pc TA tc vK n us ks wr) {m:NT} {c0 c1 c2 c3:Value} {g6 bZ:Nat} (hbk:Below wr.heap.size wr wk)
  (hb4:Below wk.heap.size wk w4) (dt:zAx (fun b=>wk.heap.size<=b/\b<w4.heap.size) d w4 (.agg #[c0,c1,c2,c3]) m) (hgrow:(w4.alloc (.cells #[c0,c1,c2,c3] t)).grownBy w6 vK.ownBlock)
  (hown:w6.ownsRow base 26 4 (.slice (some ⟨g6,0,none⟩) (n+1) bZ) (n+1) ((us.flatMap fun u=>u.cells.toList)++[c0,c1,c2,c3])) (hat:vK.ownBlock=some g6∨g6=w4.heap.size+1):
  zNk P wb base d lf ps tx gO PA pc TA tc (.slice (some ⟨g6,0,none⟩) (n+1) bZ) (n+1) (us++[.agg #[c0,c1,c2,c3]]) (ks++[m]) (w6.setCell ⟨gO,3,none⟩ (.slice (some ⟨g6,0,none⟩) (n+1) bZ)):=by
 have hbs:=hbk.size;have sw:=hb4.size;have hbase:=h.bs;have d9:=h.below.size;have qh:=lt_of_block h.o;have e5:(w4.alloc (.cells #[c0,c1,c2,c3] t)).heap.size=w4.heap.size+1:=sz1;have sy:Below w4.heap.size w4 (w4.alloc (.cells #[c0,c1,c2,c3] t)):=Kk.alloc Kl _;have vh:Below wr.heap.size wr (w4.alloc (.cells #[c0,c1,c2,c3] t)):=(hbk.trans (hb4.mono hbs)).alloc Kb _;refine zOg h Kc Kc vh hgrow (by simpa[Value.cells]using hown) ?_ (fun j m' hj=>?_)
 ·rcases hat with e|e
  ·exact .inl (by rw[e];rfl)
  ·exact .inr ⟨g6,rfl,by omega⟩
 ·cases j with
  |zero=>
   simp only[List.getElem?_cons_zero,Option.some.injEq]at hj;subst hj;refine⟨_,rfl,dt.keep (fun b hb=>⟨h.up b Kb,by omega,by omega,fun e=>?_⟩) (fun p hp=>⟨sy.cell hp.2,sy.frozen hp.2⟩)⟩;have:=(h.row.lt b e.symm).2;omega
  |succ j=>simp at hj
theorem zC9 {size:Nat}{base:Nat}(h:w.ownsRow base t size v n xs):∃A c,v=.slice A n c/\n<=c/\c<=maxLen/\∀k u,xs[k]? =some u->∃g,A=some ⟨g,0,none⟩/\base<=g/\g<w.heap.size/\kKa w g k u:=by
 rcases h.2 with⟨e,h0⟩|⟨g,cap,cur,e,hb,hh,h1,h2,_⟩
 ·refine⟨none,0,by rw[e,h0],by omega,by unfold maxLen;omega,fun k u hu=>?_⟩;have:=(List.getElem?_eq_some_iff.1 hu).1;rw[h.1,h0]at this;omega
 ·refine⟨some ⟨g,0,none⟩,cap,e,h1,h2,fun k u hu=>⟨g,rfl,hb,lt_of_block hh,?_,by simp[World.frozen?,hh]⟩⟩;have:=h.cells (g:=g) (by rw[e];rfl) k u hu;rwa[add_plain,Nat.zero_add]at this
theorem kAq {w7:World}{base:Nat}{lf:Bool}{ps:List Pr}{tx:List Int}{PA:Option Addr}{ks:List NT}
  (h:zNk P wb base d lf ps tx gO PA pc TA tc vK n us ks wr) (hf:zIo ps/\ps.length<=4398046511104/\tx.length<=35184372088832/\ks.length<=1759218604441/\ps.length<=pc/\tx.length<=tc) (hs:wr.heap.size<=w7.heap.size) (h7:∀b,P b->b<wr.heap.size->w7.heap[b]? =wr.heap[b]?):
  kMo (fun b=>P b/\b<w7.heap.size) (d+1) w7 (.agg #[.bool lf,.slice PA ps.length pc,.slice TA tx.length tc,vK]) (.mk lf ps tx ks):=by
 have hrow:=h.row;obtain⟨KA,kc,rfl,hnc,hcm,hfree⟩:=zC9 hrow;have vk:(Value.slice KA 0 0).ownBlock=(Value.slice KA n kc).ownBlock:=by cases KA<;>rfl
 have hP:∀b,zK8 P gO (.slice KA n kc) wr b->((P b/\b<w7.heap.size)/\some b≠(Value.slice KA 0 0).ownBlock):=fun b hb=>⟨⟨hb.1,by have:=hb.2.1;omega⟩,by rw[vk];exact hb.2.2.2⟩;have hK:∀p:Addr,zK8 P gO (.slice KA n kc) wr p.block->w7.cell? p=wr.cell? p/\w7.frozen? p=wr.frozen? p:=fun p hp=>
  ⟨World.cell?_of_block (h7 _ hp.1 hp.2.1),World.frozen?_of_block (h7 _ hp.1 hp.2.1)⟩
 have h4:∀x ∈ us,x.cells.size=4:=fun x hx=>by
  obtain⟨j,hj,rfl⟩:=List.mem_iff_getElem.1 hx;obtain⟨u,hu,ht⟩:=h.kids j _ (List.getElem?_eq_getElem (by rw[h.num,<-h.len];exact hj));rw[List.getElem?_eq_getElem hj]at hu;injection hu with hu;obtain⟨c0,c1,c2,c3,e⟩:=ht.four;rw[hu,e];rfl
 refine⟨PA,pc,TA,tc,KA,kc,by rw[<-h.num];rfl,h.props.keep hP hK,h.text.keep hP hK,⟨hf.1,hf.2.1,hf.2.2.1,hf.2.2.2.1,hf.2.2.2.2.1,hf.2.2.2.2.2,by show ks.length<=kc;rw[h.num];exact hnc⟩,fun k m hm=>?_⟩;have hk:k<ks.length:=(List.getElem?_eq_some_iff.1 hm).1;obtain⟨u,hu,ht⟩:=h.kids k m hm;obtain⟨c0,c1,c2,c3,e⟩:=ht.four;have hc:=fun i c hi=>hfree (k*4+i) c (zJ5 us k u c0 c1 c2 c3 h4 hu e i c hi);obtain⟨g,hg,hgb,hgl,_,_⟩:=hc 0 c0 rfl;subst hg;have xS:w7.heap[g]? =wr.heap[g]? :=h7 g (h.up g hgb) hgl;have hc':∀i c,[c0,c1,c2,c3][i]? =some c->w7.cell? ⟨g,k*4+i,none⟩=some c/\w7.frozen? ⟨g,k*4+i,none⟩=false:=fun i c hi=>by
  obtain⟨g',e',_,_,h5,h6⟩:=hc i c hi;injection e' with e';injection e' with e';subst e';exact⟨(World.cell?_of_block (a:=⟨g,k*4+i,none⟩) xS).trans h5,(World.frozen?_of_block (a:=⟨g,k*4+i,none⟩) xS).trans h6⟩
 refine⟨g,u,rfl,⟨h.up g hgb,by omega⟩,ht.keep hP hK,⟨c0,c1,c2,c3,e,?_,?_,?_,?_⟩,fun i hi=>?_⟩
 ·rw[Nat.zero_add];exact(hc' 0 c0 rfl).1
 ·rw[Nat.zero_add];exact(hc' 1 c1 rfl).1
 ·rw[Nat.zero_add];exact(hc' 2 c2 rfl).1
 ·rw[Nat.zero_add];exact(hc' 3 c3 rfl).1
 ·match i,hi with
  |0,_=>exact(hc' 0 c0 rfl).2
  |1,_=>exact(hc' 1 c1 rfl).2
  |2,_=>exact(hc' 2 c2 rfl).2
  |3,_=>exact(hc' 3 c3 rfl).2
def kR0 (d:Nat)(n:NT)(w:World)(e:Ending)(w':World):Prop:=
 ∃v,e=.returned v/\kMo (fun b=>w.heap.size<=b/\b<w'.heap.size) d w' v n/\Below w.heap.size w w'
theorem kR0.copied {n:NT}{e:Ending}(h:kR0 d n w e w'):zVf d n w e w':=by
 obtain⟨v,h1,h2,h3⟩:=h;exact⟨v,h1,h2.tree,h3⟩
def zGg (us:List Value):List Value:=us.flatMap fun u=>u.cells.toList
theorem zEp {ty:TypeId}{base e size:Nat}{i:TypeInfo}(ht:Tryz.prog.underlying t=some (.slice e))(hi:Tryz.prog.info? e=some i)(hown:w.ownsRow base e size v n xs):
  (Builtin.append_ #[t,t] ty #[v,.slice A 0 c]).run Tryz.prog w=.ok v w:=by
 rcases hown.2 with⟨rfl,rfl⟩|⟨g,cap,cur,rfl,_,_,hnc,_⟩
 ·cases A<;>simp[Builtin.append_,run_underlying ht,sizeOf,typeInfo,hi,Builtin.lenOf,Builtin.firstCells,loadCells,loadCellsFrom]
 ·cases A<;>simp[Builtin.append_,run_underlying ht,sizeOf,typeInfo,hi,Builtin.lenOf,Builtin.firstCells,loadCells,loadCellsFrom,hnc,storeCells]
theorem kO4 {size:Nat}(E:zQ7 ts te size by_)(W:World)(ty:TypeId)(A:Option Addr)(m c B:Nat)(l:List Value)(hn:l.length=m*size)(hp:VL W B A l)(h1:∀u ∈ l,u.oneCell'=true)(h63:m<=maxLen)(hby:m*by_<=140737488355328):
  ∃A' c' w',(Builtin.append_ #[ts,ts] ty #[.slice none 0 0,.slice A m c]).run Tryz.prog W=.ok (.slice A' m c') w'/\w'.ownsRow W.heap.size te size (.slice A' m c') m l/\W.grownBy w' none:=by
 obtain⟨i0,z,hi,hz0,hz1,hz2,hz3⟩:=E.info;have hsz:=E.pos;have h0:=World.ownsRow_nil W W.heap.size te size;rcases Nat.eq_zero_or_pos m with hm|hm
 ·subst hm;have hl:l=[]:=List.eq_nil_of_length_eq_zero (by simpa using hn);subst hl;exact⟨none,0,W,zEp E.under hi h0,h0,rfl,rfl,rfl,Nat.le_refl _,fun _ _ _=>rfl⟩
 ·have hl:0<l.length:=by have:=Nat.mul_pos hm hsz;omega
  obtain⟨b,o,rfl,_,hc⟩:=hp (List.length_pos_iff.1 hl);obtain⟨g,cap,w',hr,h2,h3,_,_⟩:=run_append_lies (P:=Tryz.prog) W ts ty W.heap.size te i0 z size by_ E.under hi hz0 hz1 hz2 hz3 hsz (.slice none 0 0) 0 [] h0 ⟨b,o,none⟩ m c l hn (fun j u hj=>by rw[add_plain];exact hc j u hj) h1 hm Kb (by rw[Nat.zero_add];exact hby) Kl _ rfl;rw[Nat.zero_add]at hr h2;exact⟨some ⟨g,0,none⟩,cap,w',hr,h2,h3⟩
theorem kOx {size:Nat}(E:zQ7 ts te size by_)(W:World){o:Oper}{a:Act}{K:Act->World->Prop}{F:Prop}(hgd:o.guard=none)(s x:Operand)
  (ho:o.op=.call {callee:=.builtin .append,args:=#[s,x],argTypes:=#[ts,ts]}) (hs:a.eval s=.slice none 0 0)
  (A:Option Addr) (m c B:Nat) (l:List Value) (hx:a.eval x=.slice A m c) (hn:l.length=m*size) (hp:VL W B A l) (h1:∀u ∈ l,u.oneCell'=true) (h63:m<=maxLen) (hby:m*by_<=140737488355328)
  (h:∀A' c' w',w'.ownsRow W.heap.size te size (.slice A' m c') m l->W.grownBy w' none->K (a.put o.dst (.slice A' m c')) w'):
  if Region.wanted o (yielded ops a.tmps)=true then Oper.wp Tryz.prog o a W K Q else F:=by
 have hw:Region.wanted o (yielded ops a.tmps)=true:=by simp[Region.wanted,hgd]
 rw[if_pos hw];obtain⟨A',c',w',hr,h2,h3⟩:=kO4 E W o.type A m c B l hn hp h1 h63 hby;unfold Oper.wp execOp;simp only[ho,resolve,invoke,builtin,Sem.run_bind,Sem.run_pure,Result.andThen_ok,List.map_toArray,List.map_cons,List.map_nil,hs,hx,hr];exact h A' c' w' h2 h3
theorem kOg {size:Nat}(E:zQ7 ts te size by_)(W:World){rest:List Oper}{o:Oper}{a:Act}(hgd:o.guard=none)(s x:Operand)
  (ho:o.op=.call {callee:=.builtin .append,args:=#[s,x],argTypes:=#[ts,ts]}) (hs:a.eval s=.slice none 0 0)
  (A:Option Addr) (m c B:Nat) (l:List Value) (hx:a.eval x=.slice A m c) (hn:l.length=m*size) (hp:VL W B A l) (h1:∀u ∈ l,u.oneCell'=true) (h63:m<=maxLen) (hby:m*by_<=140737488355328)
  (h:∀A' c' w',w'.ownsRow W.heap.size te size (.slice A' m c') m l->W.grownBy w' none->wpList Tryz.prog ops Q rest (a.put o.dst (.slice A' m c')) w'):
  wpList Tryz.prog ops Q (o::rest) a W:=by
 refine wpList_plain hgd fun K hK=>?_;obtain⟨A',c',w',hr,h2,h3⟩:=kO4 E W o.type A m c B l hn hp h1 h63 hby;unfold Oper.wp execOp;simp only[ho,resolve,invoke,builtin,Sem.run_bind,Sem.run_pure,Result.andThen_ok,List.map_toArray,List.map_cons,List.map_nil,hs,hx,hr];exact hK _ _ (h A' c' w' h2 h3)
theorem kOc (h:W.grownBy w' none):Below W.heap.size W w':=⟨h.os,h.tape,h.output,h.size,fun k hk=>h.block k hk Kc⟩
theorem zIr {size:Nat}{base:Nat}(h:w.ownsRow base t size (.slice A n c) n xs):VP (fun b=>base<=b/\b<w.heap.size) w A xs:=fun k u hu=>by
 obtain⟨A',c',e,_,_,hf⟩:=zC9 h;injection e with e1 e2 e3;subst e1 e3;obtain⟨g,e,h1,h2,h3⟩:=hf k u hu;exact⟨g,0,e,⟨h1,h2⟩,by rw[Nat.zero_add];exact h3⟩
theorem zPm {size:Nat}{base:Nat}(h:w.ownsRow base t size (.slice A n c) n xs):n<=c:=by
 obtain⟨A',c',e,h1,_,_⟩:=zC9 h;injection e with e1 e2 e3;rw[e3];exact h1
def kY2 (n:Nat)(xs:List Value)(w:World)(e:Ending)(w':World):Prop:=
 ∃A c,e=.returned (.slice A n c)/\VP (fun b=>w.heap.size<=b/\b<w'.heap.size) w' A xs/\Below w.heap.size w w'/\n<=c
theorem kSw (A:Option Addr)(l:List Int)(n c:Nat)(w:World)(hn:l.length=n)(hl:n<=35184372088832)(hp:VL w w.heap.size A (rv l)):
  Calls Tryz.prog 39 #[.slice A n c] w (kY2 n (rv l) w):=by
 have HP:=hd hp;have HN:=hd hn;clear hp hn;go_enter Tryz.func39,Tryz.ntmps39
 go_wp2_with(at_builtin;refine kOg zTa w rfl _ _ rfl rfl A n c w.heap.size (rv l) rfl (by rw[zCg,HN.o,Nat.mul_one]) HP.o (zNz l) Kg Kb ?_;intro A' c' w1 aF hg1)
 go_ret
 exact⟨A',c',rfl,zIr aF,kOc hg1,zPm aF⟩
def kX8 (w:World)(lf:Bool)(ps:List Pr)(tx:List Int)(kids:Value)(s4:Value)(wx:World):Prop:=
 ∃(gO:Nat)(gp:Option Addr)(cp:Nat)(gt:Option Addr)(ct:Nat),s4=.pointer (some ⟨gO,0,none⟩)/\Below w.heap.size w wx/\wx.heap[w.heap.size+1]? =some (.cells #[.bool false,.slice none 0 0,.slice none 0 0,.slice none 0 0] 26)/\w.heap.size+2<=gO/\wx.cell? ⟨w.heap.size,3,none⟩=some kids/\
  wx.heap[gO]? =some (.cells #[.bool lf,.slice gp ps.length cp,.slice gt tx.length ct,.slice none 0 0] 26 (0,0))/\
  VP (fun b=>w.heap.size+2<=b/\b<wx.heap.size/\b≠gO) wx gp (pv ps)/\VP (fun b=>w.heap.size+2<=b/\b<wx.heap.size/\b≠gO) wx gt (rv tx)/\ps.length<=cp/\tx.length<=ct
theorem kSa {lf:Bool}{ps:List Pr}{tx:List Int}{a c:Value}{ct:Nat}(cT:ps.length<=cp)(hct:tx.length<=ct)
  (hwb:Below w.heap.size w wb) (hwr:wb.heap[w.heap.size+1]? =some (.cells #[.bool false,.slice none 0 0,.slice none 0 0,.slice none 0 0] 26)) (hS:Below wb.heap.size wb w3/\w3.cell? ⟨w.heap.size,0,none⟩=some a/\w3.cell? ⟨w.heap.size,1,none⟩=some b/\w3.cell? ⟨w.heap.size,2,none⟩=some c/\w3.cell? ⟨w.heap.size,3,none⟩=some kids)
  (hp:VP (fun b=>W.heap.size<=b/\b<w2.heap.size) w2 gp (pv ps)) (ht:VP (fun b=>W'.heap.size<=b/\b<w3.heap.size) w3 gt (rv tx)) (hb:Below w2.heap.size w2 w3) (hW:w.heap.size+2<=W.heap.size) (hW':w.heap.size+2<=W'.heap.size) (h2:w.heap.size+2<=w3.heap.size):
  kX8 w lf ps tx kids (.pointer (some ⟨w3.heap.size,0,none⟩)) (w3.alloc (.cells #[.bool lf,.slice gp ps.length cp,.slice gt tx.length ct,.slice none 0 0] 26)):=by
 have e:∀o:Obj,(w3.alloc o).heap.size=w3.heap.size+1:=fun o=>by simp
 have hbs:=hb.size;have hw3:Below w.heap.size w w3:=hwb.trans (hS.1.mono hwb.size);refine⟨w3.heap.size,gp,cp,gt,ct,rfl,hw3.alloc hw3.size _,(Below.heap_alloc _ _ _ Kb).trans ((hS.1.block _ (lt_of_block hwr)).trans hwr),h2,?_,heap_alloc_new w3 _,?_,?_,cT,hct⟩
 ·rw[World.cell?_alloc_lt _ _ _ (kQ hS.2.2.2.2)];exact hS.2.2.2.2
 ·refine hp.keep (fun b hb=>by rw[e];omega) (fun p hp=>?_);have hb3:Below w2.heap.size w2 (w3.alloc (.cells #[.bool lf,.slice gp ps.length cp,.slice gt tx.length ct,.slice none 0 0] 26)):=hb.alloc hbs _;exact⟨hb3.cell hp.2,hb3.frozen hp.2⟩
 ·refine ht.keep (fun b hb=>by rw[e];omega) (fun p hp=>?_);have hb3:Below w3.heap.size w3 (w3.alloc (.cells #[.bool lf,.slice gp ps.length cp,.slice gt tx.length ct,.slice none 0 0] 26)):=Kk.alloc Kl _;exact⟨hb3.cell hp.2,hb3.frozen hp.2⟩
theorem kPw {lf:Bool}{ps:List Pr}{tx:List Int}{a c z0 z1 z2 z3:Value}{ct:Nat}(cT:ps.length<=cp)(hct:tx.length<=ct)
  (hwb:Below w.heap.size w wb) (hwr:wb.heap[w.heap.size+1]? =some (.cells #[.bool false,.slice none 0 0,.slice none 0 0,.slice none 0 0] 26)) (hS:Below wb.heap.size wb w3/\w3.cell? ⟨w.heap.size,0,none⟩=some a/\w3.cell? ⟨w.heap.size,1,none⟩=some b/\w3.cell? ⟨w.heap.size,2,none⟩=some c/\w3.cell? ⟨w.heap.size,3,none⟩=some kids)
  (hp:VP (fun b=>W.heap.size<=b/\b<w2.heap.size) w2 gp (pv ps)) (ht:VP (fun b=>W'.heap.size<=b/\b<w3.heap.size) w3 gt (rv tx)) (hb:Below w2.heap.size w2 w3) (hO:w3.heap[gO]? =some (.cells #[z0,z1,z2,z3] 26 (0,0)))
  (h2:w.heap.size+2<=gO) (hW:w.heap.size+2<=W.heap.size) (hW':w.heap.size+2<=W'.heap.size) (jf:∀b,W.heap.size<=b->b<w2.heap.size->b≠gO) (mC:∀b,W'.heap.size<=b->b≠gO):
  kX8 w lf ps tx kids (.pointer (some ⟨gO,0,none⟩)) ((((w3.setCell ⟨gO,0,none⟩ (.bool lf)).setCell ⟨gO,1,none⟩ (.slice gp ps.length cp)).setCell ⟨gO,2,none⟩ (.slice gt tx.length ct)).setCell ⟨gO,3,none⟩ (.slice none 0 0)):=by
 have hbs:=hb.size;obtain⟨wx,hwx⟩:∃wx,wx=((((w3.setCell ⟨gO,0,none⟩ (.bool lf)).setCell ⟨gO,1,none⟩ (.slice gp ps.length cp)).setCell ⟨gO,2,none⟩ (.slice gt tx.length ct)).setCell ⟨gO,3,none⟩ (.slice none 0 0)):=⟨_,rfl⟩;have e:wx.heap.size=w3.heap.size:=by rw[hwx];simp
 have hblk:∀k,k≠gO->wx.heap[k]? =w3.heap[k]? :=fun k hk=>by
  rw[hwx];iterate 4 rw[Below.heap_setCell _ _ _ _ (by simpa using hk)]
 have hsame:∀p:Addr,p.block≠gO->wx.cell? p=w3.cell? p/\wx.frozen? p=w3.frozen? p:=fun p hp=>⟨World.cell?_of_block (hblk _ hp),World.frozen?_of_block (hblk _ hp)⟩;have hw3:Below w.heap.size w w3:=hwb.trans (hS.1.mono hwb.size);have aN:Below w.heap.size w wx:=hwx▸((((hw3.setCell (by show _<=gO;omega) _).setCell (by show _<=gO;omega) _).setCell (by show _<=gO;omega) _).setCell (by show _<=gO;omega) _);rw[<-hwx];refine⟨gO,gp,cp,gt,ct,rfl,aN,(hblk _ Kb).trans ((hS.1.block _ (lt_of_block hwr)).trans hwr),h2,?_,hwx▸kD hO,?_,?_,cT,hct⟩
 ·rw[(hsame ⟨w.heap.size,3,none⟩ (by show w.heap.size≠gO;omega)).1];exact hS.2.2.2.2
 ·refine hp.keep (fun b hb=>by have:=jf b hb.1 hb.2;rw[e];omega) (fun p hp=>?_);have h3:=hsame p (jf _ hp.1 hp.2);exact⟨h3.1.trans (hb.cell hp.2),h3.2.trans (hb.frozen hp.2)⟩
 ·refine ht.keep (fun b hb=>by have:=mC b hb.1;rw[e];omega) (fun p hp=>hsame p (mC _ hp.1))
theorem kAr {o X:Obj}{row:Option Nat}(hg:(w4.alloc o).grownBy w6 row)(h:w4.heap[gO]? =some X)(hne:row≠some gO):w6.heap[gO]? =some X:=by
 have hl:=lt_of_block h;exact(hg.block gO Kf (fun e=>hne e.symm)).trans ((Below.heap_alloc w4 o gO hl).trans h)
theorem kP4 {wc:World}{base:Nat}{lf:Bool}{ps:List Pr}{tx:List Int}{PA:Option Addr}(hbase:base<=wc.heap.size)(hlo:base<=gO)(hup:∀b,base<=b->P b)
  (hO:wc.heap[gO]? =some (.cells #[.bool lf,.slice PA ps.length pc,.slice TA tx.length tc,.slice none 0 0] 26 (0,0))) (hp:VP (fun b=>P b/\b<wc.heap.size/\b≠gO) wc PA (pv ps)) (ht:VP (fun b=>P b/\b<wc.heap.size/\b≠gO) wc TA (rv tx)):
  zNk P wc base d lf ps tx gO PA pc TA tc (.slice none 0 0) 0 [] [] wc:=
 ⟨Below.refl _ _,hbase,hlo,hup,hO,World.ownsRow_nil _ _ _ _,rfl,rfl,by simp[Value.ownBlock],hp.keep (fun b h=>⟨h.1,h.2.1,h.2.2,by simp[Value.ownBlock]⟩) (fun _ _=>⟨rfl,rfl⟩),ht.keep (fun b h=>⟨h.1,h.2.1,h.2.2,by simp[Value.ownBlock]⟩) (fun _ _=>⟨rfl,rfl⟩),fun j m hm=>by simp at hm⟩
theorem kMo.mono {Q:Nat->Prop}(im:∀b,P b->Q b):∀{d:Nat}{w:World}{v:Value}{n:NT},kMo P d w v n->kMo Q d w v n
 |0,_,_,_,h=>h.elim
 |d+1,w,v,n,⟨PA,pc,TA,tc,KA,kc,e,hp,ht,hf,hks⟩=>⟨PA,pc,TA,tc,KA,kc,e,hp.keep (fun _ h=>⟨im _ h.1,h.2⟩) (fun _ _=>⟨rfl,rfl⟩),ht.keep (fun _ h=>⟨im _ h.1,h.2⟩) (fun _ _=>⟨rfl,rfl⟩),hf,fun k m hm=>by
   obtain⟨g,u,e1,hg,ht,hc,hz⟩:=hks k m hm;exact⟨g,u,e1,im _ hg,ht.keep (fun _ h=>⟨im _ h.1,h.2⟩) (fun _ _=>⟨rfl,rfl⟩),hc,hz⟩⟩
theorem kOn :∀(d:Nat)(w:World)(v:Value)(n:NT),zV d w w.heap.size v n->Calls Tryz.prog 12 #[v] w (kR0 d n w):=by
 intro d;induction d with
 |zero=>intro w v n h;exact h.elim
 | succ d ih=>
  intro w v n hn;obtain⟨d1,lf,ps,tx,ks,PA,pc,TA,tc,KA,kc,hd1,rfl,rfl,hp,ht,hf,hks⟩:=hn.open_;obtain rfl:d=d1:=Kb;obtain⟨wb,hwb⟩:∃wb,wb=(w.alloc (.cells #[.bool lf,.slice PA ps.length pc,.slice TA tx.length tc,.slice KA ks.length kc] 26)).alloc (.cells #[.bool false,.slice none 0 0,.slice none 0 0,.slice none 0 0] 26):=⟨_,rfl⟩;have hb1:Below w.heap.size w wb:=hwb▸kM Kk Kl;have X:=(Box.new w (.bool lf) (.slice PA ps.length pc) (.slice TA tx.length tc) (.slice KA ks.length kc) 26).alloc (.cells #[.bool false,.slice none 0 0,.slice none 0 0,.slice none 0 0] 26);rw[<-hwb]at X;have aO:wb.heap.size=w.heap.size+2:=by rw[hwb];simp
  have HP:=hd hp;have HT:=hd ht;have cv:=hd hks;have HF:=hd hf;have HB:=hd hb1;have HX:=hd X;have nX:=hd aO;have bG:=hd (show wb.heap[w.heap.size+1]? =some (.cells #[.bool false,.slice none 0 0,.slice none 0 0,.slice none 0 0] 26) by rw[hwb,<-sz1 (w:=w) (A:=(.cells #[.bool lf,.slice PA ps.length pc,.slice TA tx.length tc,.slice KA ks.length kc] 26))];exact heap_alloc_new _ _);have bo:=hf.2.1;have hl2:=hf.2.2.1;have cC:=hf.2.2.2.1;obtain⟨x0,x1,x2,x3⟩:=X;subst hwb;clear hn hp ht hf hks hd1 hb1 aO;go_enter Tryz.func12,Tryz.ntmps12
  go_wp2_with fail
  have sA:=fun(w':World)(hb0:Below ((w.alloc (.cells #[.bool lf,.slice PA ps.length pc,.slice TA tx.length tc,.slice KA ks.length kc] 26)).alloc (.cells #[.bool false,.slice none 0 0,.slice none 0 0,.slice none 0 0] 26)).heap.size ((w.alloc (.cells #[.bool lf,.slice PA ps.length pc,.slice TA tx.length tc,.slice KA ks.length kc] 26)).alloc (.cells #[.bool false,.slice none 0 0,.slice none 0 0,.slice none 0 0] 26)) w')=>hd (HP.o.vl.below (HB.o.trans (hb0.mono HB.o.size)));have sB:=fun(w':World)(hb0:Below ((w.alloc (.cells #[.bool lf,.slice PA ps.length pc,.slice TA tx.length tc,.slice KA ks.length kc] 26)).alloc (.cells #[.bool false,.slice none 0 0,.slice none 0 0,.slice none 0 0] 26)).heap.size ((w.alloc (.cells #[.bool lf,.slice PA ps.length pc,.slice TA tx.length tc,.slice KA ks.length kc] 26)).alloc (.cells #[.bool false,.slice none 0 0,.slice none 0 0,.slice none 0 0] 26)) w')=>hd (kSw TA tx tx.length tc w' rfl Kb (HT.o.later (HB.o.trans (hb0.mono HB.o.size))));go_upto_region 1 with fail
  go_cut [3] (fun s3 wx=>kX8 w lf ps tx (.slice KA ks.length kc) s3 wx)
  case first=>
   go_region_held3(fun w'=>Below ((w.alloc (.cells #[.bool lf,.slice PA ps.length pc,.slice TA tx.length tc,.slice KA ks.length kc] 26)).alloc (.cells #[.bool false,.slice none 0 0,.slice none 0 0,.slice none 0 0] 26)).heap.size ((w.alloc (.cells #[.bool lf,.slice PA ps.length pc,.slice TA tx.length tc,.slice KA ks.length kc] 26)).alloc (.cells #[.bool false,.slice none 0 0,.slice none 0 0,.slice none 0 0] 26)) w'/\w'.cell? ⟨w.heap.size,0,none⟩=some (.bool lf)/\w'.cell? ⟨w.heap.size,1,none⟩=some (.slice PA ps.length pc)/\w'.cell? ⟨w.heap.size,2,none⟩=some (.slice TA tx.length tc)/\w'.cell? ⟨w.heap.size,3,none⟩=some (.slice KA ks.length kc))
    (first
     |assumption
     |exact⟨Kk.drew,x0,x1,x2,x3⟩
     |exact zXl ‹_› (Kk.alloc Kl _)
     |exact kBg ‹_› Kf (by first|exact rD.1.size|simp))
    (first
     |(go_at_call 39;refine Calls.mono (sB _ ?hh).o ?_;(case hh=>(go_split_ands;assumption));intro e w3 h3;obtain⟨gt,ct,rfl,vt,b3,hct⟩:=h3;have jg:=zXl ‹_› b3;have fD:=hd vt;(first|(have fg:=hd (kI mN.o b3))|(have fg:=hd (kBf (w:=w) (Z:=(.cells #[.bool false,.slice none 0 0,.slice none 0 0,.slice none 0 0] 26)) b3))|(have fg:=hd (kFw (W0:=w2) (o:=(.cells #[.bool false,.slice none 0 0,.slice none 0 0,.slice none 0 0] 26)) b3 (g:=w2.heap.size) rfl))|skip);(first|(have vo:=zJ fg.o;obtain⟨c0,c1,c2,c3,c4,c5,c6,c7⟩:=vo)|skip))
     |(refine kOx zZh _ rfl _ _ rfl rfl PA ps.length pc w.heap.size (pv ps) rfl (by rw[zN8]) (sA _ (by go_split_ands;assumption)).o (zZg ps) Kg Kb ?_;intro gp cp w2 az hg2;have b2:=kOc hg2;have rD:=zXl ‹_› b2;have fC:=hd (zIr az);have cT:=zPm az;(first|(have mN:=hd (kI fg.o b2))|(have mN:=hd (kBf (w:=w) (Z:=(.cells #[.bool false,.slice none 0 0,.slice none 0 0,.slice none 0 0] 26)) b2))|(have mN:=hd (kFw (W0:=w3) (o:=(.cells #[.bool false,.slice none 0 0,.slice none 0 0,.slice none 0 0] 26)) b2 (g:=w3.heap.size) rfl))|skip);(first|(have qj:=zJ mN.o;obtain⟨a0,a1,a2,a3,a4,a5,a6,a7⟩:=qj)|skip)))
   ·go_wp2_with fail
    go_meet
    exact kSa cT hct HB.o bG.o jg fC.o fD.o b3 (by rw[sz2];exact Nat.le_refl _) (by have h:=b2.size;rw[sz2]at h;omega) (by have h:=b2.size;rw[sz2]at h;have:=b3.size;omega)
   ·go_wp2_with fail
    go_meet
    exact kPw cT hct HB.o bG.o jg fC.o fD.o (zEu b3) fg.o (by have h:=b2.size;rw[sz2]at h;omega) (by rw[sz2];exact Nat.le_refl _) (by rw[sz1];have h:=b2.size;rw[sz2]at h;omega) (fun b _ h=>by omega) (fun b h=>by rw[sz1]at h;omega)
   ·go_wp2_with fail
    go_meet
    exact kPw cT hct HB.o bG.o jg fC.o fD.o b3 fg.o Kb (by rw[sz3];omega) (by have h:=b2.size;rw[sz3]at h;omega) (fun b h _=>by rw[sz3]at h;omega) (fun b h=>by have h2:=b2.size;rw[sz3]at h2;omega)
  case rest=>
   obtain⟨gO,gp,cp,gt,ct,rfl,cA,hr4,o7,k3,hO,fC,fD,cT,hct⟩:=hcut;have hb0:=kP4 (P:=fun b=>w.heap.size+2<=b) (d:=d) (base:=w.heap.size+2) (by have:=cA.size;have:=kQ k3;have:=lt_of_block hr4;simp at*;omega) o7 (fun _ h=>h) hO (fC.keep (fun _ h=>h) (fun _ _=>⟨rfl,rfl⟩)) (fD.keep (fun _ h=>h) (fun _ _=>⟨rfl,rfl⟩));have bw:=hd hb0;have ip:=hd cA;have pj:=hd hr4;have vq:=hd k3;clear hO fC fD cA hr4 x0 x1 x2 x3 HX HB HP HT sA sB bG nX hb0;go_wp2_with fail
   clear k3;go_loopw [18] (fun i wr=>∃(k:Nat)(vK:Value)(us:List Value),k<=ks.length/\i=.int .i64 k/\Kq (zNk (fun b=>w.heap.size+2<=b) wc (w.heap.size+2) d lf ps tx gO gp cp gt ct vK k us (ks.take k) wr)) (fun i _=>ks.length-(intOf i).toNat)
   case atStart=>exact⟨0,_,_,Nat.zero_le _,rfl,bw⟩
   case round=>
    obtain⟨k,vK,us,hk,rfl,HL⟩:=hrel;clear bw;have hbr:=ip.o.trans (HL.o.below.mono Kb);by_cases hlt:k<ks.length
    ·obtain⟨m,b,o,lf1,bJ,bS,bK,bL,bT,bM,bN,bU,bO,hm,rfl,hbg,dw,c0,c1,c2,c3⟩:=(cv.o.below hbr).at_ hlt;have hsz:=hbr.size;have fV:=HL.o.o;have fH:=lt_of_block fV;have HM:=hd hm;obtain⟨A,cap,rfl,hkc,hcm,_⟩:=zC9 HL.o.row;obtain⟨p0,p1,p2,p3,g0,g1,g2,g3⟩:=zJ fV;obtain⟨wk,hwk⟩:∃wk,wk=(wr.alloc (.cells #[.bool lf1,.slice bJ bS bK,.slice bL bT bM,.slice bN bU bO] 26)).drew:=⟨_,rfl⟩;have hbk:Below wr.heap.size wr wk:=hwk▸(Kk.alloc Kl _).drew;have HC:=hd (ih wk _ m (((dw.more hsz).below hbk).more hbk.size));have ej:=hd hbk;have gj:=HL.o.apart;have hbs:=HL.o.bs;have hbl:=HL.o.below.size;have lj:=hd (zPd hm);obtain⟨i0,hi,hz0,hz1,hz2⟩:=info_parts zJj;subst hwk;clear dw hbk hm fV hbr;go_upto_block 1 with fail
     go_cut [18] (fun s wx=>s=.int .i64 k/\∃(gK:Value)(eD:List Value),Kq (zNk (fun b=>w.heap.size+2<=b) wc (w.heap.size+2) d lf ps tx gO gp cp gt ct gK (k+1) eD (ks.take (k+1)) wx))
     case first=>
      go_wp2_with fail
      go_region_law(first
        |((go_simp;go_at_call 12;refine HC.o.mono ?_;intro e w4 h4;obtain⟨v4,rfl,dt,hb4⟩:=h4.copied;obtain⟨lf4,aU,bg,aS,aV,bh,aT,aZ,bi,bb,rfl⟩:=(dt.at_ (B:=w4.heap.size) (fun b hb=>hb.2)).val;obtain⟨hs4,cD⟩:=zIk hb4;have ji:=hd ((cD gO fH).trans HL.o.o);obtain⟨r0,r1,r2,r3,r4,r5,r6,r7⟩:=zJ ji.o;have rG:gO<w4.heap.size:=Kb;have hrow4:=hd (zG5 HL.o.row cD);have kq:=hd cD;clear cD;have cA:=hd hb4;have iq:=hd dt;clear dt hb4))
        |((refine step_append_lies _ Ke (.tmp 23) (.tmp 26) _ Ke (w.heap.size+2) 26 i0 _ 4 80 Tryz.underlying24 hi hz0 hz1 hz2 rfl Kb (.slice A k cap) k (us.flatMap fun u=>u.cells.toList) (by first|rfl|simp[Act.eval]) (hrow4.o.alloc _) ⟨w4.heap.size,0,none⟩ 1 1 [.bool lf4,.slice aU bg aS,.slice aV bh aT,.slice aZ bi bb] (by first|rfl|simp[Act.eval]) Ke (World.news_of_block (cs:=#[.bool lf4,.slice aU bg aS,.slice aV bh aT,.slice aZ bi bb]) (t:=26) (fr:=(0,0)) (heap_alloc_new w4 _)) (by simp[Value.oneCell']) Kb Kg Kb Kf (w4.heap.size+1) Kc ?_;intro g6 bZ w6 aQ aw bR jk;have eT:=hd (kAr aw ji.o gj);obtain⟨s0,s1,s2,s3,s4,s5,s6,s7⟩:=zJ eT.o;have jl:=lt_of_block eT.o)))
      all_goals
       have HST:=hd (zOh HL.o ej.o cA.o iq.o aw aQ bR)
       rw[<-lj.o]at HST
       clear aw aQ bR s0 s1 s2 s3 s4 s5 s6 s7 r0 r1 r2 r3 r4 r5 r6 r7 hrow4 ji eT kq cA iq p0 p1 p2 p3 g0 g1 g2 g3 c0 c1 c2 c3
       go_wp2_with fail
       go_meet
       exact⟨rfl,_,_,HST⟩
     case rest=>
      obtain⟨rfl,gK,eD,HST⟩:=hcut;clear p0 p1 p2 p3 g0 g1 g2 g3 c0 c1 c2 c3;go_wp2
      go_roundw
      case rel=>exact⟨k+1,gK,eD,by omega,by go_num,HST⟩
      case measure=>simp[intOf];omega
    ·obtain rfl:k=ks.length:=Kb;have eU:=HL.o.o;have oF:=lt_of_block eU;obtain⟨A,cap,rfl,_⟩:=zC9 HL.o.row;obtain⟨p0,p1,p2,p3,_,_,_,_⟩:=zJ eU;clear eU;have hres:wr.heap[w.heap.size+1]? =some (.cells #[.bool false,.slice none 0 0,.slice none 0 0,.slice none 0 0] 26):=(HL.o.below.block _ Kb).trans pj.o;obtain⟨q0,q1,q2,q3,q4,q5,q6,q7⟩:=zJ hres;have oG:=hd hres;have dA:=hd hbr;clear hres hbr;go_wp2
     have h7:=kD (a:=.bool lf) (b:=.slice gp ps.length cp) (c:=.slice gt tx.length ct) (d:=.slice A ks.length cap) oG.o;obtain⟨t0,t1,t2,t3,_,_,_,_⟩:=zJ h7;have hend:=fun w7 hs h7=>kAq (w7:=w7) HL.o (by rw[List.take_length];exact⟨HF.o.1,HF.o.2.1,HF.o.2.2.1,HF.o.2.2.2.1,cT,hct⟩) hs h7;rw[List.take_length]at hend;refine bodyPost_ret (v:=.agg #[.bool lf,.slice gp ps.length cp,.slice gt tx.length ct,.slice A ks.length cap]) (by simp[results,Tryz.results12,go_sem,t0,t1,t2,t3]) rfl ⟨_,rfl,(hend _ Kc (fun b hb _=>?_)).mono (fun b hb=>by omega),?_⟩
     ·iterate 4 rw[Below.heap_setCell _ _ _ _ (by show _≠w.heap.size+1;omega)]
     ·exact(((dA.o.setCell (by show _<=w.heap.size+1;omega) _).setCell (by show _<=w.heap.size+1;omega) _).setCell (by show _<=w.heap.size+1;omega) _).setCell (by show _<=w.heap.size+1;omega) _
