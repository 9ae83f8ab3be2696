import Derived.Test.YtmkciabefepelaaGreatJNRSame
import Derived.Deep.DeepCutAuto
import Derived.Deep.CutBlock
import Derived.Deep.RegionLaw
set_option maxRecDepth 100000
set_option maxHeartbeats 8000000
namespace Go.Proofs.YtmkciabefepelaaGreat
open Go.RowKit
variable {B cap cp d g gO gk gp gt k n:Nat}{us xs:List Value}{W W' w w' w2 w3 w4 w6 wb wr:World}{a b c kids v z0 z1 z2 z3:Value}{A Z:Obj}{t:TypeId}{cs:Array Value}
def zVf (d:Nat)(n:NT)(w:World)(e:Ending)(w':World):Prop:=
 ∃v,e=.returned v/\zAx (fun b=>w.heap.size<=b/\b<w'.heap.size) d w' v n/\Below w.heap.size w w'
theorem kC2.vp {size:Nat}{e:Ending}(h:kC2 size n xs w e w'):∃g c,e=.returned (.slice (some ⟨g,0,none⟩) n c)/\VP (fun b=>w.heap.size<=b/\b<w'.heap.size) w' (some ⟨g,0,none⟩) xs/\Below w.heap.size w w'/\n<=c:=by
 obtain⟨g,c,e,h1,h2,h3,h4,_,h5⟩:=h;exact⟨g,c,e,fun k u hu=>⟨g,0,rfl,⟨h1,h2⟩,by rw[Nat.zero_add];exact h3 k u hu⟩,h4,h5⟩
theorem zXl {d:Value}(h:Below w.heap.size w W/\W.cell? ⟨B,0,none⟩=some a/\W.cell? ⟨B,1,none⟩=some b/\W.cell? ⟨B,2,none⟩=some c/\W.cell? ⟨B,3,none⟩=some d)(hb:Below W.heap.size W W'):
  Below w.heap.size w W'/\W'.cell? ⟨B,0,none⟩=some a/\W'.cell? ⟨B,1,none⟩=some b/\W'.cell? ⟨B,2,none⟩=some c/\W'.cell? ⟨B,3,none⟩=some d:=by
 obtain⟨h0,h1,h2,h3,h4⟩:=h;exact⟨h0.trans (hb.mono h0.size),(hb.cell (kQ h1)).trans h1,(hb.cell (kQ h2)).trans h2,(hb.cell (kQ h3)).trans h3,(hb.cell (kQ h4)).trans h4⟩
theorem kBf {B:Obj}(h:Below ((((w.alloc A).alloc B).alloc Z).drew).heap.size ((((w.alloc A).alloc B).alloc Z).drew) w'):w'.heap[w.heap.size+1+1]? =some Z:=by
 have e:((w.alloc A).alloc B).heap.size=w.heap.size+1+1:=by simp
 rw[<-e];exact(h.block _ (by show _<(((w.alloc A).alloc B).alloc Z).heap.size;simp)).trans (heap_alloc_new _ Z)
theorem kBg {d y0 y1 y2 y3:Value}(h:Below w.heap.size w W/\W.cell? ⟨B,0,none⟩=some a/\W.cell? ⟨B,1,none⟩=some b/\W.cell? ⟨B,2,none⟩=some c/\W.cell? ⟨B,3,none⟩=some d)(hB:B<w.heap.size)(hg:w.heap.size<=gO):
  Below w.heap.size w ((((W.setCell ⟨gO,0,none⟩ y0).setCell ⟨gO,1,none⟩ y1).setCell ⟨gO,2,none⟩ y2).setCell ⟨gO,3,none⟩ y3)/\((((W.setCell ⟨gO,0,none⟩ y0).setCell ⟨gO,1,none⟩ y1).setCell ⟨gO,2,none⟩ y2).setCell ⟨gO,3,none⟩ y3).cell? ⟨B,0,none⟩=some a/\((((W.setCell ⟨gO,0,none⟩ y0).setCell ⟨gO,1,none⟩ y1).setCell ⟨gO,2,none⟩ y2).setCell ⟨gO,3,none⟩ y3).cell? ⟨B,1,none⟩=some b/\
   ((((W.setCell ⟨gO,0,none⟩ y0).setCell ⟨gO,1,none⟩ y1).setCell ⟨gO,2,none⟩ y2).setCell ⟨gO,3,none⟩ y3).cell? ⟨B,2,none⟩=some c/\((((W.setCell ⟨gO,0,none⟩ y0).setCell ⟨gO,1,none⟩ y1).setCell ⟨gO,2,none⟩ y2).setCell ⟨gO,3,none⟩ y3).cell? ⟨B,3,none⟩=some d:=by
 obtain⟨h0,h1,h2,h3,h4⟩:=h;have hb:Below w.heap.size w ((((W.setCell ⟨gO,0,none⟩ y0).setCell ⟨gO,1,none⟩ y1).setCell ⟨gO,2,none⟩ y2).setCell ⟨gO,3,none⟩ y3):=(((h0.setCell (by show _<=gO;exact hg) _).setCell (by show _<=gO;exact hg) _).setCell (by show _<=gO;exact hg) _).setCell (by show _<=gO;exact hg) _;have hk:∀o,((((W.setCell ⟨gO,0,none⟩ y0).setCell ⟨gO,1,none⟩ y1).setCell ⟨gO,2,none⟩ y2).setCell ⟨gO,3,none⟩ y3).cell? ⟨B,o,none⟩=W.cell? ⟨B,o,none⟩:=fun o=>(hb.cell (p:=⟨B,o,none⟩) hB).trans (h0.cell (p:=⟨B,o,none⟩) hB).symm;exact⟨hb,(hk _).trans h1,(hk _).trans h2,(hk _).trans h3,(hk _).trans h4⟩
theorem kFw {W0:World}{o:Obj}(h:Below (W0.alloc o).heap.size (W0.alloc o) w')(hg:W0.heap.size=g):w'.heap[g]? =some o:=hg▸(h.block _ Kc).trans (heap_alloc_new W0 o)
theorem kI {o:Obj}(h:W.heap[g]? =some o)(hb:Below W.heap.size W w'):w'.heap[g]? =some o:=(hb.block _ (lt_of_block h)).trans h
theorem zJ {d:Value}(h:w.heap[g]? =some (.cells #[a,b,c,d] t (0,0))):
  w.cell? ⟨g,0,none⟩=some a/\w.cell? ⟨g,1,none⟩=some b/\w.cell? ⟨g,2,none⟩=some c/\w.cell? ⟨g,3,none⟩=some d/\w.frozen? ⟨g,0,none⟩=false/\w.frozen? ⟨g,1,none⟩=false/\w.frozen? ⟨g,2,none⟩=false/\w.frozen? ⟨g,3,none⟩=false:=by
 refine⟨?_,?_,?_,?_,?_,?_,?_,?_⟩<;>simp[World.cell?,World.frozen?,h]
def kEw (w:World)(lf:Bool)(ps:List Pr)(tx:List Int)(kids:Value)(s4:Value)(wx:World):Prop:=
 ∃gO gp cp gt ct,s4=.pointer (some ⟨gO,0,none⟩)/\Below w.heap.size w wx/\wx.heap[w.heap.size+1]? =some (.cells #[.bool false,.slice none 0 0,.slice none 0 0,.slice none 0 0] 26)/\w.heap.size+2<=gO/\wx.cell? ⟨w.heap.size,3,none⟩=some kids/\
  wx.heap[gO]? =some (.cells #[.bool lf,.slice (some ⟨gp,0,none⟩) ps.length cp,.slice (some ⟨gt,0,none⟩) tx.length ct,.slice none 0 0] 26 (0,0))/\
  VP (fun b=>w.heap.size+2<=b/\b<wx.heap.size/\b≠gO) wx (some ⟨gp,0,none⟩) (pv ps)/\VP (fun b=>w.heap.size+2<=b/\b<wx.heap.size/\b≠gO) wx (some ⟨gt,0,none⟩) (rv tx)/\ps.length<=cp/\tx.length<=ct
theorem sz1 :(w.alloc A).heap.size=w.heap.size+1:=by simp
theorem sz2 {B:Obj}:((w.alloc A).alloc B).drew.heap.size=w.heap.size+2:=by show((w.alloc A).alloc B).heap.size=_;simp
theorem sz3 {B:Obj}:(((w.alloc A).alloc B).alloc Z).drew.heap.size=w.heap.size+3:=by show(((w.alloc A).alloc B).alloc Z).heap.size=_;simp
theorem zSb {lf:Bool}{ps:List Pr}{tx:List Int}{ct:Nat}(dt:ps.length<=cp)(hct:tx.length<=ct)
  (hwb:Below w.heap.size w wb) (hwr:wb.heap[w.heap.size+1]? =some (.cells #[.bool false,.slice none 0 0,.slice none 0 0,.slice none 0 0] 26)) (hS:Below wb.heap.size wb w3/\w3.cell? ⟨w.heap.size,0,none⟩=some a/\w3.cell? ⟨w.heap.size,1,none⟩=some b/\w3.cell? ⟨w.heap.size,2,none⟩=some c/\w3.cell? ⟨w.heap.size,3,none⟩=some kids)
  (hp:VP (fun b=>W.heap.size<=b/\b<w2.heap.size) w2 (some ⟨gp,0,none⟩) (pv ps)) (ht:VP (fun b=>W'.heap.size<=b/\b<w3.heap.size) w3 (some ⟨gt,0,none⟩) (rv tx)) (hb:Below w2.heap.size w2 w3) (hW:w.heap.size+2<=W.heap.size) (hW':w.heap.size+2<=W'.heap.size) (h2:w.heap.size+2<=w3.heap.size):
  kEw w lf ps tx kids (.pointer (some ⟨w3.heap.size,0,none⟩)) (w3.alloc (.cells #[.bool lf,.slice (some ⟨gp,0,none⟩) ps.length cp,.slice (some ⟨gt,0,none⟩) tx.length ct,.slice none 0 0] 26)):=by
 have e:∀o:Obj,(w3.alloc o).heap.size=w3.heap.size+1:=fun o=>by simp
 have hbs:=hb.size;have hw3:Below w.heap.size w w3:=hwb.trans (hS.1.mono hwb.size);refine⟨w3.heap.size,gp,cp,gt,ct,rfl,hw3.alloc hw3.size _,(Below.heap_alloc _ _ _ Kb).trans ((hS.1.block _ (lt_of_block hwr)).trans hwr),h2,?_,heap_alloc_new w3 _,?_,?_,dt,hct⟩
 ·rw[World.cell?_alloc_lt _ _ _ (kQ hS.2.2.2.2)];exact hS.2.2.2.2
 ·refine hp.keep (fun b hb=>by rw[e];omega) (fun p hp=>?_);have hb3:Below w2.heap.size w2 (w3.alloc (.cells #[.bool lf,.slice (some ⟨gp,0,none⟩) ps.length cp,.slice (some ⟨gt,0,none⟩) tx.length ct,.slice none 0 0] 26)):=hb.alloc hbs _;exact⟨hb3.cell hp.2,hb3.frozen hp.2⟩
 ·refine ht.keep (fun b hb=>by rw[e];omega) (fun p hp=>?_);have hb3:Below w3.heap.size w3 (w3.alloc (.cells #[.bool lf,.slice (some ⟨gp,0,none⟩) ps.length cp,.slice (some ⟨gt,0,none⟩) tx.length ct,.slice none 0 0] 26)):=Kl.alloc Km _;exact⟨hb3.cell hp.2,hb3.frozen hp.2⟩
theorem kD {d:Value}(h:w.heap[g]? =some (.cells #[z0,z1,z2,z3] t (0,0))):
  ((((w.setCell ⟨g,0,none⟩ a).setCell ⟨g,1,none⟩ b).setCell ⟨g,2,none⟩ c).setCell ⟨g,3,none⟩ d).heap[g]? =some (.cells #[a,b,c,d] t (0,0)):=by
 have key:∀(w:World)(cs:Array Value)(k:Nat)(x:Value),w.heap[g]? =some (.cells cs t (0,0))->(w.setCell ⟨g,k,none⟩ x).heap[g]? =some (.cells (cs.setIfInBounds k x) t (0,0)):=by
  intro w cs k x h;have hlt:=lt_of_block h;have h':w.heap[g]=.cells cs t (0,0):=by simpa[Array.getElem?_eq_getElem hlt]using h
  show(w.heap.modify g _)[g]? =_
  rw[Array.getElem?_eq_getElem (by simpa using hlt),Array.getElem_modify_self,h'];rfl
 have h1:=key _ _ 0 a h;have h2:=key _ _ 1 b h1;have h3:=key _ _ 2 c h2;have h4:=key _ _ 3 d h3;simpa using h4
theorem zJ4 {lf:Bool}{ps:List Pr}{tx:List Int}{ct:Nat}(dt:ps.length<=cp)(hct:tx.length<=ct)
  (hwb:Below w.heap.size w wb) (hwr:wb.heap[w.heap.size+1]? =some (.cells #[.bool false,.slice none 0 0,.slice none 0 0,.slice none 0 0] 26)) (hS:Below wb.heap.size wb w3/\w3.cell? ⟨w.heap.size,0,none⟩=some a/\w3.cell? ⟨w.heap.size,1,none⟩=some b/\w3.cell? ⟨w.heap.size,2,none⟩=some c/\w3.cell? ⟨w.heap.size,3,none⟩=some kids)
  (hp:VP (fun b=>W.heap.size<=b/\b<w2.heap.size) w2 (some ⟨gp,0,none⟩) (pv ps)) (ht:VP (fun b=>W'.heap.size<=b/\b<w3.heap.size) w3 (some ⟨gt,0,none⟩) (rv tx)) (hb:Below w2.heap.size w2 w3) (hO:w3.heap[gO]? =some (.cells #[z0,z1,z2,z3] 26 (0,0)))
  (h2:w.heap.size+2<=gO) (hW:w.heap.size+2<=W.heap.size) (hW':w.heap.size+2<=W'.heap.size) (mg:∀b,W.heap.size<=b->b<w2.heap.size->b≠gO) (qJ:∀b,W'.heap.size<=b->b≠gO):
  kEw w lf ps tx kids (.pointer (some ⟨gO,0,none⟩)) ((((w3.setCell ⟨gO,0,none⟩ (.bool lf)).setCell ⟨gO,1,none⟩ (.slice (some ⟨gp,0,none⟩) ps.length cp)).setCell ⟨gO,2,none⟩ (.slice (some ⟨gt,0,none⟩) tx.length ct)).setCell ⟨gO,3,none⟩ (.slice none 0 0)):=by
 have hbs:=hb.size;obtain⟨wx,hwx⟩:∃wx,wx=((((w3.setCell ⟨gO,0,none⟩ (.bool lf)).setCell ⟨gO,1,none⟩ (.slice (some ⟨gp,0,none⟩) ps.length cp)).setCell ⟨gO,2,none⟩ (.slice (some ⟨gt,0,none⟩) tx.length ct)).setCell ⟨gO,3,none⟩ (.slice none 0 0)):=⟨_,rfl⟩;have e:wx.heap.size=w3.heap.size:=by rw[hwx];simp
 have hblk:∀k,k≠gO->wx.heap[k]? =w3.heap[k]? :=fun k hk=>by
  rw[hwx];iterate 4 rw[Below.heap_setCell _ _ _ _ (by simpa using hk)]
 have hsame:∀p:Addr,p.block≠gO->wx.cell? p=w3.cell? p/\wx.frozen? p=w3.frozen? p:=fun p hp=>⟨World.cell?_of_block (hblk _ hp),World.frozen?_of_block (hblk _ hp)⟩;have hw3:Below w.heap.size w w3:=hwb.trans (hS.1.mono hwb.size);have aW:Below w.heap.size w wx:=hwx▸((((hw3.setCell (by show _<=gO;omega) _).setCell (by show _<=gO;omega) _).setCell (by show _<=gO;omega) _).setCell (by show _<=gO;omega) _);rw[<-hwx];refine⟨gO,gp,cp,gt,ct,rfl,aW,(hblk _ Kb).trans ((hS.1.block _ (lt_of_block hwr)).trans hwr),h2,?_,hwx▸kD hO,?_,?_,dt,hct⟩
 ·rw[(hsame ⟨w.heap.size,3,none⟩ (by show w.heap.size≠gO;omega)).1];exact hS.2.2.2.2
 ·refine hp.keep (fun b hb=>by have:=mg b hb.1 hb.2;rw[e];omega) (fun p hp=>?_);have h3:=hsame p (mg _ hp.1 hp.2);exact⟨h3.1.trans (hb.cell hp.2),h3.2.trans (hb.frozen hp.2)⟩
 ·refine ht.keep (fun b hb=>by have:=qJ b hb.1;rw[e];omega) (fun p hp=>hsame p (qJ _ hp.1))
structure zFs (w:World)(d:Nat)(lf:Bool)(ps:List Pr)(tx:List Int)(ks:List NT)(gO gp cp gt ct k gk cap:Nat)(us:List Value)(wr:World):Prop where
 below:Below w.heap.size w wr
 lo:w.heap.size+2<=gO
 res:wr.heap[w.heap.size+1]? =some (.cells #[.bool false,.slice none 0 0,.slice none 0 0,.slice none 0 0] 26)
 o:wr.heap[gO]? =some (.cells #[.bool lf,.slice (some ⟨gp,0,none⟩) ps.length cp,.slice (some ⟨gt,0,none⟩) tx.length ct,.slice (some ⟨gk,0,none⟩) k cap] 26 (0,0))
 row:wr.ownsRow (w.heap.size+2) 26 4 (.slice (some ⟨gk,0,none⟩) k cap) k (us.flatMap fun u=>u.cells.toList)
 len:us.length=k
 apart:gk≠gO
 props:VP (fun b=>w.heap.size+2<=b/\b<wr.heap.size/\b≠gO/\b≠gk) wr (some ⟨gp,0,none⟩) (pv ps)
 text:VP (fun b=>w.heap.size+2<=b/\b<wr.heap.size/\b≠gO/\b≠gk) wr (some ⟨gt,0,none⟩) (rv tx)
 kids:∀j m,j<k->ks[j]? =some m->∃u,us[j]? =some u/\zAx (fun b=>w.heap.size+2<=b/\b<wr.heap.size/\b≠gO/\b≠gk) d wr u m
theorem zG4 {x:Value}(h:w.heap[g]? =some (.cells cs t (0,0))):(w.setCell ⟨g,k,none⟩ x).heap[g]? =some (.cells (cs.setIfInBounds k x) t (0,0)):=by
 have hlt:=lt_of_block h;have h':w.heap[g]=.cells cs t (0,0):=by simpa[Array.getElem?_eq_getElem hlt]using h
 show(w.heap.modify g _)[g]? =_
 rw[Array.getElem?_eq_getElem (by simpa using hlt),Array.getElem_modify_self,h'];rfl
theorem zOl {wc:World}{lf:Bool}{ps:List Pr}{tx:List Int}{ks:List NT}{ct:Nat}(sy:w.heap.size+2<=gO)(hO:wc.heap[gO]? =some (.cells #[.bool lf,.slice (some ⟨gp,0,none⟩) ps.length cp,.slice (some ⟨gt,0,none⟩) tx.length ct,.slice none 0 0] 26 (0,0)))
  (hb:Below w.heap.size w wc) (hres:wc.heap[w.heap.size+1]? =some (.cells #[.bool false,.slice none 0 0,.slice none 0 0,.slice none 0 0] 26)) (hp:VP (fun b=>w.heap.size+2<=b/\b<wc.heap.size/\b≠gO) wc (some ⟨gp,0,none⟩) (pv ps)) (ht:VP (fun b=>w.heap.size+2<=b/\b<wc.heap.size/\b≠gO) wc (some ⟨gt,0,none⟩) (rv tx)) (hcs:cs.size=ks.length*4) (hl:ks.length<=1759218604441):
  zFs w d lf ps tx ks gO gp cp gt ct 0 wc.heap.size ks.length [] ((wc.setCell ⟨gO,3,none⟩ (.slice (some ⟨wc.heap.size,0,none⟩) 0 ks.length)).alloc (.cells cs 26)):=by
 have pd:=lt_of_block hO;obtain⟨w1,hw1⟩:∃w1,w1=wc.setCell ⟨gO,3,none⟩ (.slice (some ⟨wc.heap.size,0,none⟩) 0 ks.length):=⟨_,rfl⟩;have e1:w1.heap.size=wc.heap.size:=by rw[hw1];simp
 have e2:(w1.alloc (.cells cs 26)).heap.size=wc.heap.size+1:=by simp[e1]
 have hsame:∀p:Addr,p.block<wc.heap.size->p.block≠gO->(w1.alloc (.cells cs 26)).cell? p=wc.cell? p/\(w1.alloc (.cells cs 26)).frozen? p=wc.frozen? p:=fun p hp hn=>by
  have h:(w1.alloc (.cells cs 26)).heap[p.block]? =wc.heap[p.block]? :=by
   rw[Below.heap_alloc _ _ _ Kb,hw1,Below.heap_setCell _ _ _ _ (by simpa using hn)]
  exact⟨World.cell?_of_block h,World.frozen?_of_block h⟩
 rw[<-hw1];refine⟨(hw1▸hb.setCell (by show _<=gO;omega) _:Below w.heap.size w w1).alloc (by have:=hb.size;omega) _,sy,?_,?_,?_,rfl,by omega,?_,?_,fun j m hj=>absurd hj (Nat.not_lt_zero _)⟩
 ·rw[Below.heap_alloc _ _ _ Kb,hw1,Below.heap_setCell _ _ _ _ (by show _≠gO;omega)];exact hres
 ·rw[Below.heap_alloc _ _ _ Kb,hw1,zG4 hO];rfl
 ·have:=World.ownsRow_made (base:=w.heap.size+2) (e:=26) (size:=4) w1 cs ks.length Kb Kg hcs;rw[e1]at this;exact this
 ·exact hp.keep (fun b hb=>by rw[e2];omega) (fun p hp=>hsame p hp.2.1 hp.2.2)
 ·exact ht.keep (fun b hb=>by rw[e2];omega) (fun p hp=>hsame p hp.2.1 hp.2.2)
theorem kEx (wr:World)(o:Obj)(k:Nat)(hk:k<wr.heap.size):(wr.alloc o).drew.heap[k]? =wr.heap[k]? :=Below.heap_alloc wr o k hk
theorem zIk {o:Obj}(hb:Below (wr.alloc o).drew.heap.size (wr.alloc o).drew w4):wr.heap.size+1<=w4.heap.size/\∀k,k<wr.heap.size->w4.heap[k]? =wr.heap[k]? :=by
 have h1:=hb.size;have h2:(wr.alloc o).drew.heap.size=wr.heap.size+1:=sz1;rw[h2]at h1;exact⟨h1,fun k hk=>(hb.block k (by rw[h2];exact Nat.lt_succ_of_lt hk)).trans (kEx wr o k hk)⟩
theorem zNe {o X:Obj}(hg:(w4.alloc o).grownBy w6 (some gk))(h:w4.heap[gO]? =some X)(hne:gk≠gO):w6.heap[gO]? =some X:=by
 have hl:=lt_of_block h;exact(hg.block gO Kf (by intro e;injection e with e;exact hne e.symm)).trans ((Below.heap_alloc w4 o gO hl).trans h)
theorem zG5 {base size:Nat}(h:W.ownsRow base t size v n xs)(hk:∀k,k<W.heap.size->w'.heap[k]? =W.heap[k]?):w'.ownsRow base t size v n xs:=by
 refine⟨h.1,?_⟩;rcases h.2 with h4|⟨g,cap,cur,e2,hbg,hg,rest⟩
 ·exact .inl h4
 ·exact .inr ⟨g,cap,cur,e2,hbg,(hk g (lt_of_block hg)).trans hg,rest⟩
theorem zSc {lf:Bool}{ps:List Pr}{tx:List Int}{ks:List NT}{ct g6 aU:Nat}{m:NT}{o:Obj}{c0 c1 c2 c3:Value}(h:zFs w d lf ps tx ks gO gp cp gt ct k gk cap us wr)(hm:ks[k]? =some m)
  (hb4:Below (wr.alloc o).drew.heap.size (wr.alloc o).drew w4) (bV:zAx (fun b=>(wr.alloc o).drew.heap.size<=b/\b<w4.heap.size) d w4 (.agg #[c0,c1,c2,c3]) m) (hgrow:(w4.alloc (.cells #[c0,c1,c2,c3] 26)).grownBy w6 (some gk))
  (hown:w6.ownsRow (w.heap.size+2) 26 4 (.slice (some ⟨g6,0,none⟩) (k+1) aU) (k+1) ((us.flatMap fun u=>u.cells.toList)++[c0,c1,c2,c3])) (hat:some gk=some g6∨g6=w4.heap.size+1):
  zFs w d lf ps tx ks gO gp cp gt ct (k+1) g6 aU (us++[.agg #[c0,c1,c2,c3]]) (w6.setCell ⟨gO,3,none⟩ (.slice (some ⟨g6,0,none⟩) (k+1) aU)):=by
 obtain⟨hs4,cS⟩:=zIk hb4;have e0:(wr.alloc o).drew.heap.size=wr.heap.size+1:=sz1;rw[e0]at bV;have pd:=lt_of_block h.o;have hgl:=(h.row.lt gk rfl).2;have lA:=(h.row.lt gk rfl).1;have hne:=h.apart;have aw:=h.below.size;have hlo:=h.lo;have e6:=hgrow.size;have e5:(w4.alloc (.cells #[c0,c1,c2,c3] 26)).heap.size=w4.heap.size+1:=sz1;rw[e5]at e6;obtain⟨wx,hwx⟩:∃wx,wx=w6.setCell ⟨gO,3,none⟩ (.slice (some ⟨g6,0,none⟩) (k+1) aU):=⟨_,rfl⟩;have ex:wx.heap.size=w6.heap.size:=by rw[hwx];simp
 have sP:∀b,b<w4.heap.size->b≠gO->b≠gk->wx.heap[b]? =w4.heap[b]? :=fun b hb h1 h2=>by
  rw[hwx,Below.heap_setCell _ _ _ _ (by simpa using h1),hgrow.block b (by rw[e5];omega) (by intro e;injection e with e;exact h2 e),Below.heap_alloc _ _ _ hb]
 have xz:∀b,b<wr.heap.size->b≠gO->b≠gk->wx.heap[b]? =wr.heap[b]? :=fun b hb h1 h2=>(sP b Kb h1 h2).trans (cS b hb);have i7:g6≠gO/\(g6=gk∨w4.heap.size<g6):=by
  rcases hat with e|e
  ·injection e with e;exact⟨by omega,.inl e.symm⟩
  ·exact⟨by omega,.inr Kb⟩
 have hP:∀b,(w.heap.size+2<=b/\b<wr.heap.size/\b≠gO/\b≠gk)->(w.heap.size+2<=b/\b<wx.heap.size/\b≠gO/\b≠g6):=fun b hb=>by omega
 have hK:∀p:Addr,(w.heap.size+2<=p.block/\p.block<wr.heap.size/\p.block≠gO/\p.block≠gk)->wx.cell? p=wr.cell? p/\wx.frozen? p=wr.frozen? p:=fun p hp=>
  ⟨World.cell?_of_block (xz _ hp.2.1 hp.2.2.1 hp.2.2.2),World.frozen?_of_block (xz _ hp.2.1 hp.2.2.1 hp.2.2.2)⟩
 have xA:Below w.heap.size w w4:=((h.below.alloc aw o).drew).trans (hb4.mono (by rw[e0];omega));have aW:Below w.heap.size w wx:=hwx▸((xA.alloc Kb _).grown hgrow (by rw[e5];omega) (fun j hj=>by injection hj with hj;omega)).setCell (by show _<=gO;omega) _;rw[<-hwx];refine⟨aW,h.lo,(xz _ Kb Kb Kb).trans h.res,?_,?_,by simp[h.len],i7.1,h.props.keep hP hK,h.text.keep hP hK,fun j m' hj qO=>?_⟩
 ·have h6:w6.heap[gO]? =_:=zNe hgrow ((cS gO pd).trans h.o) hne;rw[hwx,zG4 h6];rfl
 ·rw[hwx];have:=ownsRow_setCell_other hown (a:=⟨gO,3,none⟩) (by simp[Value.ownBlock];exact i7.1) (.slice (some ⟨g6,0,none⟩) (k+1) aU);simpa[Value.cells]using this
 ·rcases Nat.lt_or_ge j k with hjk|hjk
  ·obtain⟨u,hu,ht⟩:=h.kids j m' hjk qO;exact⟨u,by rw[List.getElem?_append_left (by have:=(List.getElem?_eq_some_iff.1 hu).1;exact this)];exact hu,ht.keep hP hK⟩
  ·obtain rfl:j=k:=Kb;rw[hm]at qO;injection qO with qO;subst qO;refine⟨_,by rw[List.getElem?_append_right (by rw[h.len];exact Nat.le_refl _),h.len,Nat.sub_self];rfl,bV.keep (fun b hb=>by omega) (fun p hp=>?_)⟩;have:=sP p.block hp.2 Kb Kb;exact⟨World.cell?_of_block this,World.frozen?_of_block this⟩
theorem zJ5 (us:List Value):∀(j:Nat)(u c0 c1 c2 c3:Value),(∀x ∈ us,x.cells.size=4)->us[j]? =some u->u=.agg #[c0,c1,c2,c3]->∀i c,[c0,c1,c2,c3][i]? =some c->(us.flatMap fun u=>u.cells.toList)[j*4+i]? =some c:=by
 induction us with
 |nil=>intro j u c0 c1 c2 c3 _ h;simp at h
 |cons x r ih=>
  intro j u c0 c1 c2 c3 h4 hu he i c hi;have hx:x.cells.toList.length=4:=by rw[Array.length_toList];exact h4 x (List.mem_cons_self ..)
  have hil:i<4:=by have:=(List.getElem?_eq_some_iff.1 hi).1;simpa using this
  rw[List.flatMap_cons];cases j with
  |zero=>
   simp only[List.getElem?_cons_zero,Option.some.injEq]at hu;subst hu he;rw[Nat.zero_mul,Nat.zero_add,List.getElem?_append_left (by rw[hx];exact hil)];simpa[Value.cells]using hi
  |succ j=>
   simp only[List.getElem?_cons_succ]at hu;rw[List.getElem?_append_right (by rw[hx];omega),hx,show(j+1)*4+i-4=j*4+i by omega];exact ih j u c0 c1 c2 c3 (fun y hy=>h4 y (List.mem_cons_of_mem _ hy)) hu he i c hi
theorem zAx.four {P:Nat->Prop}{n:NT}(h:zAx P d w v n):∃c0 c1 c2 c3,v=.agg #[c0,c1,c2,c3]:=by
 cases d with
 |zero=>exact h.elim
 |succ d=>obtain⟨PA,pc,TA,tc,KA,kc,e,_⟩:=h;exact⟨_,_,_,_,e⟩
theorem kEy {w7:World}{lf:Bool}{ps:List Pr}{tx:List Int}{ks:List NT}{ct:Nat}(h:zFs w d lf ps tx ks gO gp cp gt ct ks.length gk cap us wr)(hf:zIo ps/\ps.length<=4398046511104/\tx.length<=35184372088832/\ks.length<=1759218604441/\ps.length<=cp/\tx.length<=ct)(hs:wr.heap.size<=w7.heap.size)
  (h7:∀b,b≠w.heap.size+1->w7.heap[b]? =wr.heap[b]?):
  zAx (fun b=>w.heap.size<=b/\b<w7.heap.size) (d+1) w7 (.agg #[.bool lf,.slice (some ⟨gp,0,none⟩) ps.length cp,.slice (some ⟨gt,0,none⟩) tx.length ct,.slice (some ⟨gk,0,none⟩) ks.length cap]) (.mk lf ps tx ks):=by
 have hK:∀p:Addr,(w.heap.size+2<=p.block/\p.block<wr.heap.size/\p.block≠gO/\p.block≠gk)->w7.cell? p=wr.cell? p/\w7.frozen? p=wr.frozen? p:=fun p hp=>
  ⟨World.cell?_of_block (h7 _ Kb),World.frozen?_of_block (h7 _ Kb)⟩
 have hP:∀b,(w.heap.size+2<=b/\b<wr.heap.size/\b≠gO/\b≠gk)->(w.heap.size<=b/\b<w7.heap.size):=fun b hb=>by omega
 obtain⟨hg1,hg2⟩:=h.row.lt gk rfl;have hrow:w7.ownsRow (w.heap.size+2) 26 4 (.slice (some ⟨gk,0,none⟩) ks.length cap) ks.length (us.flatMap fun u=>u.cells.toList):=by
  refine⟨h.row.1,?_⟩;rcases h.row.2 with⟨e,_⟩|⟨g',cap',cur,e,hb,hh,rest⟩
  ·simp at e
  ·exact .inr ⟨g',cap',cur,e,hb,(h7 g' Kb).trans hh,rest⟩
 obtain⟨_,_,hfree,hnc⟩:=zHn hrow;have h4:∀x ∈ us,x.cells.size=4:=fun x hx=>by
  obtain⟨j,hj,rfl⟩:=List.mem_iff_getElem.1 hx;rw[h.len]at hj;obtain⟨u,hu,ht⟩:=h.kids j _ hj (List.getElem?_eq_getElem hj);rw[List.getElem?_eq_getElem (by rw[h.len];exact hj)]at hu;injection hu with hu;obtain⟨c0,c1,c2,c3,e⟩:=ht.four;rw[hu,e];rfl
 refine⟨some ⟨gp,0,none⟩,cp,some ⟨gt,0,none⟩,ct,some ⟨gk,0,none⟩,cap,rfl,h.props.keep hP hK,h.text.keep hP hK,⟨hf.1,hf.2.1,hf.2.2.1,hf.2.2.2.1,hf.2.2.2.2.1,hf.2.2.2.2.2,hnc⟩,fun k m hm=>?_⟩;have hk:k<ks.length:=(List.getElem?_eq_some_iff.1 hm).1;obtain⟨u,hu,ht⟩:=h.kids k m hk hm;obtain⟨c0,c1,c2,c3,e⟩:=ht.four;have hc:=fun i c hi=>hfree (k*4+i) c (zJ5 us k u c0 c1 c2 c3 h4 hu e i c hi);refine⟨gk,0,u,rfl,by omega,ht.keep hP hK,⟨c0,c1,c2,c3,e,?_,?_,?_,?_⟩,?_⟩
 ·rw[Nat.zero_add];exact(hc 0 c0 rfl).1
 ·rw[Nat.zero_add];exact(hc 1 c1 rfl).1
 ·rw[Nat.zero_add];exact(hc 2 c2 rfl).1
 ·rw[Nat.zero_add];exact(hc 3 c3 rfl).1
 ·rw[Nat.zero_add];exact(hc 0 c0 rfl).2
theorem kBh (g:Nat):∀(d:Nat)(w:World)(v:Value)(n:NT),w.cell? ⟨g,0,none⟩=some (.func (.func 124) #[] #[.pointer (some ⟨g,0,none⟩)])->zV d w w.heap.size v n->
      Calls Tryz.prog 124 #[v,.pointer (some ⟨g,0,none⟩)] w (zVf d n w):=by
 intro d;induction d with
 |zero=>intro w v n _ h;exact h.elim
 | succ d ih=>
  intro w v n hg hn;obtain⟨d1,lf,ps,tx,ks,PA,pc,TA,tc,KA,kc,hd1,rfl,rfl,hp,ht,hf,hks⟩:=hn.open_;obtain rfl:d=d1:=Kb;obtain⟨wb,hwb⟩:∃wb,wb=(w.alloc (.cells #[.bool lf,.slice PA ps.length pc,.slice TA tx.length tc,.slice KA ks.length kc] 26)).alloc (.cells #[.bool false,.slice none 0 0,.slice none 0 0,.slice none 0 0] 26):=⟨_,rfl⟩;have hb1:Below w.heap.size w wb:=hwb▸kM Kl Km;have X:=(Box.new w (.bool lf) (.slice PA ps.length pc) (.slice TA tx.length tc) (.slice KA ks.length kc) 26).alloc (.cells #[.bool false,.slice none 0 0,.slice none 0 0,.slice none 0 0] 26);rw[<-hwb]at X;have HP:=fun(w':World)(hb0:Below wb.heap.size wb w')=>hd (zWh PA ps pc w' hf.2.1 ((hp.below (hb1.trans (hb0.mono hb1.size))).more (hb1.trans (hb0.mono hb1.size)).size));have HT:=fun(w':World)(hb0:Below wb.heap.size wb w')=>hd (zWi TA tx tc w' hf.2.2.1 ((ht.below (hb1.trans (hb0.mono hb1.size))).more (hb1.trans (hb0.mono hb1.size)).size));have bJ:=hd (show wb.heap[w.heap.size+1]? =some (.cells #[.bool false,.slice none 0 0,.slice none 0 0,.slice none 0 0] 26) by rw[hwb,<-sz1 (w:=w) (A:=(.cells #[.bool lf,.slice PA ps.length pc,.slice TA tx.length tc,.slice KA ks.length kc] 26))];exact heap_alloc_new _ _);obtain⟨cs,hcs,hmk⟩:=zGt zWg ks.length (by have:=hf.2.2.2.1;omega) (by have:=hf.2.2.2.1;omega);have iJ:=hd hcs;have bK:=hd hks;have HG:=hd hg;have HF:=hd hf;have HB:=hd hb1;have HX:=hd X;have cM:=hf.2.2.2.1;obtain⟨x0,x1,x2,x3⟩:=X;subst hwb;clear hn hp ht hf hks hd1 hb1 hg hcs;go_enter Tryz.func124,Tryz.ntmps124
  go_wp2_with fail
  go_upto_region 1 with fail
  go_cut [4] (fun s4 wx=>kEw w lf ps tx (.slice KA ks.length kc) s4 wx)
  case first=>
   go_region_held3(fun w'=>Below ((w.alloc (.cells #[.bool lf,.slice PA ps.length pc,.slice TA tx.length tc,.slice KA ks.length kc] 26)).alloc (.cells #[.bool false,.slice none 0 0,.slice none 0 0,.slice none 0 0] 26)).heap.size ((w.alloc (.cells #[.bool lf,.slice PA ps.length pc,.slice TA tx.length tc,.slice KA ks.length kc] 26)).alloc (.cells #[.bool false,.slice none 0 0,.slice none 0 0,.slice none 0 0] 26)) w'/\w'.cell? ⟨w.heap.size,0,none⟩=some (.bool lf)/\w'.cell? ⟨w.heap.size,1,none⟩=some (.slice PA ps.length pc)/\w'.cell? ⟨w.heap.size,2,none⟩=some (.slice TA tx.length tc)/\w'.cell? ⟨w.heap.size,3,none⟩=some (.slice KA ks.length kc))
    (first
     |assumption
     |exact⟨Kl.drew,x0,x1,x2,x3⟩
     |exact zXl ‹_› (Kl.alloc Km _)
     |exact kBg ‹_› Kf (by first|exact wK.1.size|simp))
    (first
     |(go_at_call 125;refine Calls.mono (HP _ ?hh).o ?_;(case hh=>(go_split_ands;assumption));intro e w2 h2;obtain⟨gp,cp,rfl,vp,b2,dt⟩:=h2.vp;have wK:=zXl ‹_› b2;have fT:=hd vp;(first|have mo:=hd (kBf (w:=w) (Z:=(.cells #[.bool false,.slice none 0 0,.slice none 0 0,.slice none 0 0] 26)) b2)|skip);clear h2 vp)
     |(go_at_call 126;refine Calls.mono (HT _ ?hh).o ?_;(case hh=>(go_split_ands;assumption));intro e w3 h3;obtain⟨gt,ct,rfl,vt,b3,hct⟩:=h3.vp;have nC:=zXl ‹_› b3;have fU:=hd vt;(first|(have dO:=hd (kI mo.o b3);have kj:=zJ dO.o;obtain⟨q0,q1,q2,q3,q4,q5,q6,q7⟩:=kj)|(have dO:=hd (kFw (W0:=w2) (o:=(.cells #[.bool false,.slice none 0 0,.slice none 0 0,.slice none 0 0] 26)) b3 (g:=w2.heap.size) rfl);have kj:=zJ dO.o;obtain⟨q0,q1,q2,q3,q4,q5,q6,q7⟩:=kj)|skip);clear h3 vt))
   ·go_wp2_with fail
    go_meet
    exact zSb dt hct HB.o bJ.o nC fT.o fU.o b3 (by rw[sz2];exact Nat.le_refl _) (by have h:=b2.size;rw[sz2]at h;omega) (by have h:=b2.size;rw[sz2]at h;have:=b3.size;omega)
   ·go_wp2_with fail
    go_meet
    exact zJ4 dt hct HB.o bJ.o nC fT.o fU.o (zEu b3) dO.o (by have h:=b2.size;rw[sz2]at h;omega) (by rw[sz2];exact Nat.le_refl _) (by rw[sz1];have h:=b2.size;rw[sz2]at h;omega) (fun b _ h=>by omega) (fun b h=>by rw[sz1]at h;omega)
   ·go_wp2_with fail
    go_meet
    exact zJ4 dt hct HB.o bJ.o nC fT.o fU.o b3 dO.o Kb (by rw[sz3];omega) (by have h:=b2.size;rw[sz3]at h;omega) (fun b h _=>by rw[sz3]at h;omega) (fun b h=>by have h2:=b2.size;rw[sz3]at h2;omega)
  case rest=>
   obtain⟨gO,gp,cp,gt,ct,rfl,aJ,hr4,sy,k3,hO,fT,fU,dt,hct⟩:=hcut;obtain⟨o0,o1,o2,o3,f0,f1,f2,f3⟩:=zJ hO;have pd:=lt_of_block hO;have HO:=hd hO;have gj:=hd aJ;have fT:=hd fT;have fU:=hd fU;have hk3:((wc.setCell ⟨gO,3,none⟩ (.slice (some ⟨wc.heap.size,0,none⟩) 0 ks.length)).alloc (.cells cs 26)).cell? ⟨w.heap.size,3,none⟩=some (.slice KA ks.length kc):=by
    rw[World.cell?_alloc_lt _ _ _ (by have:=kQ k3;simpa using this),World.cell?_setCell_other _ _ _ _ (by simp;try omega)];exact k3
   have ke:=hd (zOl (d:=d) (ks:=ks) sy hO aJ hr4 fT.o fU.o iJ.o cM);clear hO aJ hr4 HP HT x0 x1 x2 x3 HX HB fT fU bJ;go_wp2_with fail
   clear hk3 k3 o0 o1 o2 o3 f0 f1 f2 f3 hmk;go_loopw [24] (fun i wr=>∃(k gk cap:Nat)(us:List Value),k<=ks.length/\i=.int .i64 k/\Kr (zFs w d lf ps tx ks gO gp cp gt ct k gk cap us wr)) (fun i _=>ks.length-(intOf i).toNat)
   case atStart=>exact⟨0,_,_,_,Nat.zero_le _,rfl,ke⟩
   case round=>
    obtain⟨k,gk,cap,us,hk,rfl,HL⟩:=hrel;clear ke;have hbr:=HL.o.below;by_cases hlt:k<ks.length
    ·obtain⟨m,b,o,lf1,cD,cI,cE,cF,cJ,cG,bY,cK,bZ,hm,rfl,hbg,cL,c0,c1,c2,c3⟩:=(bK.o.below hbr).at_ hlt;have hsz:=hbr.size;have fV:=HL.o.o;have eG:=lt_of_block fV;have HM:=hd hm;obtain⟨p0,p1,p2,p3,g0,g1,g2,g3⟩:=zJ fV;have mr:wr.cell? ⟨g,0,none⟩=some (.func (.func 124) #[] #[.pointer (some ⟨g,0,none⟩)]):=(hbr.cell (kQ HG.o)).trans HG.o;have hgl:=kQ mr;obtain⟨wk,hwk⟩:∃wk,wk=(wr.alloc (.cells #[.bool lf1,.slice cD cI cE,.slice cF cJ cG,.slice bY cK bZ] 26)).drew:=⟨_,rfl⟩;have hbk:Below wr.heap.size wr wk:=hwk▸(Kl.alloc Km _).drew;have HC:=hd (ih wk _ m ((hbk.cell (kQ mr)).trans mr) (((cL.more hsz).below hbk).more hbk.size));have fh:=hd hbk;have mY:wk.heap[gO]? =_:=(hbk.block _ eG).trans fV;have bg:=hd mY;have hks:=hd (show wk.heap.size=wr.heap.size+1 by rw[hwk];exact sz1);have lA:=kQ HG.o;have wM:=HL.o.row.lt gk rfl;have gI:=HL.o.apart;obtain⟨i0,hi,hz0,hz1,hz2⟩:=info_parts zJj;subst hwk;clear cL hbk hm fV hbr mY;go_upto_block 1 with fail
     go_cut [24] (fun s wx=>s=.int .i64 k/\∃(g6 aU:Nat)(f4:List Value),Kr (zFs w d lf ps tx ks gO gp cp gt ct (k+1) g6 aU f4 wx))
     case first=>
      go_wp2_with fail
      go_region_law(first
        |((go_simp;go_at_call 124;refine HC.o.mono ?_;intro e w4 h4;obtain⟨v4,rfl,bV,hb4⟩:=h4;obtain⟨lf4,aO,aZ,aK,aP,ba,aL,aX,bb,aY,rfl⟩:=(bV.at_ (B:=w4.heap.size) (fun b hb=>hb.2)).val;obtain⟨hs4,cS⟩:=zIk hb4;have pj:=hd ((cS gO eG).trans HL.o.o);obtain⟨r0,r1,r2,r3,r4,r5,r6,r7⟩:=zJ pj.o;have wN:gO<w4.heap.size:=Kb;have hrow4:=hd (zG5 HL.o.row cS);have pn:=hd cS;clear cS;have aJ:=hd hb4;have fu:=hd bV;clear bV hb4))
        |((refine step_append_lies _ Ke (.tmp 29) (.tmp 33) _ Ke (w.heap.size+2) 26 i0 _ 4 80 Tryz.underlying24 hi hz0 hz1 hz2 rfl Kb (.slice (some ⟨gk,0,none⟩) k cap) k (us.flatMap fun u=>u.cells.toList) (by first|rfl|simp[Act.eval]) (hrow4.o.alloc _) ⟨w4.heap.size,0,none⟩ 1 1 [.bool lf4,.slice aO aZ aK,.slice aP ba aL,.slice aX bb aY] (by first|rfl|simp[Act.eval]) Ke (World.news_of_block (cs:=#[.bool lf4,.slice aO aZ aK,.slice aP ba aL,.slice aX bb aY]) (t:=26) (fr:=(0,0)) (heap_alloc_new w4 _)) (by simp[Value.oneCell']) Kb Kg Kb Kf (w4.heap.size+1) Kc ?_;intro g6 aU w6 aI ak bB kp;have eH:=hd (zNe ak pj.o gI);obtain⟨s0,s1,s2,s3,s4,s5,s6,s7⟩:=zJ eH.o;have kq:=lt_of_block eH.o)))
      all_goals
       have HST:=hd (zSc HL.o HM.o aJ.o fu.o ak aI bB)
       clear ak aI bB s0 s1 s2 s3 s4 s5 s6 s7 r0 r1 r2 r3 r4 r5 r6 r7 hrow4 pj eH pn aJ fu p0 p1 p2 p3 g0 g1 g2 g3 c0 c1 c2 c3
       go_wp2_with fail
       go_meet
       exact⟨rfl,g6,aU,_,HST⟩
     case rest=>
      obtain⟨rfl,g6,aU,f4,HST⟩:=hcut;clear p0 p1 p2 p3 g0 g1 g2 g3 c0 c1 c2 c3;go_wp2
      go_roundw
      case rel=>exact⟨k+1,g6,aU,f4,by omega,by go_num,HST⟩
      case measure=>simp[intOf];omega
    ·obtain rfl:k=ks.length:=Kb;have gJ:=HL.o.o;have sA:=lt_of_block gJ;obtain⟨p0,p1,p2,p3,_,_,_,_⟩:=zJ gJ;clear gJ;obtain⟨q0,q1,q2,q3,q4,q5,q6,q7⟩:=zJ HL.o.res;have sB:=hd HL.o.res;have hbr:=HL.o.below;go_wp2
     have h7:=kD (a:=.bool lf) (b:=.slice (some ⟨gp,0,none⟩) ps.length cp) (c:=.slice (some ⟨gt,0,none⟩) tx.length ct) (d:=.slice (some ⟨gk,0,none⟩) ks.length cap) sB.o;obtain⟨t0,t1,t2,t3,_,_,_,_⟩:=zJ h7;refine bodyPost_ret (v:=.agg #[.bool lf,.slice (some ⟨gp,0,none⟩) ps.length cp,.slice (some ⟨gt,0,none⟩) tx.length ct,.slice (some ⟨gk,0,none⟩) ks.length cap]) (by simp[results,Tryz.results124,go_sem,t0,t1,t2,t3]) rfl ⟨_,rfl,kEy HL.o ⟨HF.o.1,HF.o.2.1,HF.o.2.2.1,HF.o.2.2.2.1,dt,hct⟩ Kc (fun b hb=>?_),?_⟩
     ·iterate 4 rw[Below.heap_setCell _ _ _ _ (by simpa using hb)]
     ·exact(((hbr.setCell (by show _<=w.heap.size+1;omega) _).setCell (by show _<=w.heap.size+1;omega) _).setCell (by show _<=w.heap.size+1;omega) _).setCell (by show _<=w.heap.size+1;omega) _
theorem zEy (d:Nat)(w:World)(v:Value)(n:NT)(hn:zV d w w.heap.size v n):Calls Tryz.prog 75 #[v] w (zVf d n w):=by
 have hn0:=hn;obtain⟨lf,PA,np,pc,TA,nt,tc,KA,nk,kc,rfl⟩:=hn.val;obtain⟨f0,iY⟩:∃f:Value,f=.func (.func 124) #[] #[.pointer (some ⟨w.heap.size+1+1,0,none⟩)]:=⟨_,rfl⟩;obtain⟨wa,dN⟩:∃wa,wa=((w.alloc (.cells #[.bool lf,.slice PA np pc,.slice TA nt tc,.slice KA nk kc] 26)).alloc (.cells #[.bool false,.slice none 0 0,.slice none 0 0,.slice none 0 0] 26)).alloc (.cells #[f0] 38):=⟨_,rfl⟩;have bX:Below w.heap.size w wa:=dN▸(kM Kl Km).alloc Kf _;have mn:wa.cell? ⟨w.heap.size+1+1,0,none⟩=some f0:=by rw[dN,World.cell?_alloc_at _ _ _ _ Kc];rfl
 have hsa:wa.heap.size=w.heap.size+3:=by rw[dN];simp
 have iU:wa.heap[w.heap.size+1]? =some (.cells #[.bool false,.slice none 0 0,.slice none 0 0,.slice none 0 0] 26):=by
  rw[dN,Below.heap_alloc _ _ _ Kc];rw[<-sz1 (w:=w) (A:=.cells #[.bool lf,.slice PA np pc,.slice TA nt tc,.slice KA nk kc] 26)];exact heap_alloc_new _ _
 have HC:=hd (kBh (w.heap.size+1+1) d wa _ _ (iY▸mn) (hn0.later bX));have HB:=hd bX;have HR:=hd iU;have HS:=hd hsa;subst dN iY;clear hn hn0 bX mn iU hsa;go_enter Tryz.func75,Tryz.ntmps75
 go_wp2_with(first|(refine HC.o.mono ?_;intro e w' h4;obtain⟨v4,rfl,bV,hb4⟩:=h4;obtain⟨lf4,aO,aZ,aK,aP,ba,aL,aX,bb,aY,rfl⟩:=(bV.at_ (B:=w'.heap.size) (fun b hb=>hb.2)).val;have d7:=hd ((hb4.block (w.heap.size+1) (by rw[HS.o];omega)).trans HR.o);obtain⟨r0,r1,r2,r3,r4,r5,r6,r7⟩:=zJ d7.o;have fu:=hd bV;have aJ:=hd hb4;clear bV hb4))
 have h7:=kD (a:=.bool lf4) (b:=.slice aO aZ aK) (c:=.slice aP ba aL) (d:=.slice aX bb aY) d7.o;obtain⟨t0,t1,t2,t3,_,_,_,_⟩:=zJ h7;have hsz:=aJ.o.size;rw[HS.o]at hsz;have sD:=fu.o;rw[HS.o]at sD;have kf:Below w.heap.size w w':=HB.o.trans (aJ.o.mono (by rw[HS.o];omega));refine bodyPost_ret (v:=.agg #[.bool lf4,.slice aO aZ aK,.slice aP ba aL,.slice aX bb aY]) (by simp[results,Tryz.results75,go_sem,t0,t1,t2,t3]) rfl ⟨_,rfl,sD.keep (fun b hb=>by simp;omega) (fun p hp=>?_),?_⟩
 ·have hne:p.block≠w.heap.size+1:=Kb;constructor
  ·iterate 4 rw[World.cell?_setCell_other _ _ _ _ (by intro e;exact hne (by rw[<-e]))]
  ·iterate 4 rw[World.frozen?_of_block (Below.heap_setCell _ _ _ _ (by simpa using hne))]
 ·exact(((kf.setCell (by show _<=w.heap.size+1;omega) _).setCell (by show _<=w.heap.size+1;omega) _).setCell (by show _<=w.heap.size+1;omega) _).setCell (by show _<=w.heap.size+1;omega) _
