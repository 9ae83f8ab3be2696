import Derived.Test.YtmglnjmnabjjgaaGreatJNCheck
import Derived.Deep.DeepCutAuto
import Derived.Deep.CutBlock
import Derived.Deep.RegionLaw
set_option maxRecDepth 4000
namespace Go.Proofs.YtmglnjmnabjjgaaGreat
open Go.RowKit
open Go.WideShapes (add_plain)
variable {P Q:Nat->Prop}{W W' w w' w2 w3 w4 w6 wb wr:World}{A:Option Addr}{xs:List Value}{B by_ cp d g gO gk gp gt k n:Nat}{l:List Pr}{t te ts:TypeId}{a b c kids v z0 z1 z2 z3:Value}{cs:Array Value}
def kKa (w:World)(b q:Nat)(u:Value):Prop:=w.cell? ⟨b,q,none⟩=some u/\w.frozen? ⟨b,q,none⟩=false
def VP (P:Nat->Prop)(w:World)(A:Option Addr)(xs:List Value):Prop:=∀k u,xs[k]? =some u->∃b o,A=some ⟨b,o,none⟩/\P b/\kKa w b (o+k) u
def pv (l:List Pr):List Value:=l.flatMap fun p=>[.string p.1,.string p.2]
def zAx (P:Nat->Prop):Nat->World->Value->NT->Prop
 |0,_,_,_=>False
 |d+1,w,v,n=>∃PA pc TA tc KA kc,v=.agg #[.bool n.lf,.slice PA n.ps.length pc,.slice TA n.tx.length tc,.slice KA n.ks.length kc]/\VP P w PA (pv n.ps)/\VP P w TA (rv n.tx)/\zU0 n.ps n.tx.length n.ks.length pc tc kc/\
   ∀k m,n.ks[k]? =some m->∃b o u,KA=some ⟨b,o,none⟩/\P b/\zAx P d w u m/\zK1 w b (o+k*4) u/\w.frozen? ⟨b,o+k*4,none⟩=false
theorem VP.keep (h:VP P w A xs)(nj:∀b,P b->Q b)(hk:∀p:Addr,P p.block->w'.cell? p=w.cell? p/\w'.frozen? p=w.frozen? p):VP Q w' A xs:=fun k u hu=>by
 obtain⟨b,o,e,hb,h1,h2⟩:=h k u hu;exact⟨b,o,e,nj b hb,(hk ⟨b,o+k,none⟩ hb).1.trans h1,(hk ⟨b,o+k,none⟩ hb).2.trans h2⟩
theorem zAx.keep (nj:∀b,P b->Q b)(hk:∀p:Addr,P p.block->w'.cell? p=w.cell? p/\w'.frozen? p=w.frozen? p):∀{d:Nat}{v:Value}{n:NT},zAx P d w v n->zAx Q d w' v n
 |0,_,_,h=>h
 |d+1,_,_,⟨PA,pc,TA,tc,KA,kc,e,hp,ht,hf,hks⟩=>⟨PA,pc,TA,tc,KA,kc,e,hp.keep nj hk,ht.keep nj hk,hf,fun k m hm=>by
   obtain⟨b,o,u,e1,hb,hn,hc,hz⟩:=hks k m hm;exact⟨b,o,u,e1,nj b hb,hn.keep nj hk,hc.keep fun p hp=>(hk p (by rw[hp];exact hb)).1,(hk ⟨b,o+k*4,none⟩ hb).2.trans hz⟩⟩
theorem zZe (p:Pr)(l:List Pr):pv (p::l)=.string p.1::.string p.2::pv l:=rfl
theorem zN8 (l:List Pr):(pv l).length=l.length*2:=by
 induction l with
 |nil=>rfl
 |cons p r ih=>rw[zZe];simp only[List.length_cons,ih];omega
theorem zZf (l:List Pr):∀(k:Nat),k<l.length->(pv l)[k*2]? =some (.string (jU l k).1)/\(pv l)[k*2+1]? =some (.string (jU l k).2):=by
 induction l with
 |nil=>intro k hk;simp at hk
 |cons p r ih=>
  intro k hk;rw[zZe];cases k with
  |zero=>exact⟨rfl,rfl⟩
  |succ k=>
   have:=ih k (by simpa using hk);rw[show(k+1)*2=k*2+1+1 by omega,show k*2+1+1+1=k*2+1+1+1 from rfl];simp only[List.getElem?_cons_succ];exact this
theorem zZg (l:List Pr):∀u ∈ pv l,u.oneCell'=true:=by
 intro u hu;obtain⟨p,_,hp⟩:=List.mem_flatMap.1 hu;simp only[List.mem_cons,List.not_mem_nil,or_false]at hp;rcases hp with rfl|rfl<;>rfl
theorem VP.pl (h:VP P w A (pv l))(hP:∀b,P b->b<B):PL w B A l:=fun hn=>by
 have hl:0<l.length:=List.length_pos_iff.2 hn;obtain⟨b,o,e,hb,h0,_⟩:=h (0*2) _ (zZf l 0 hl).1;refine⟨b,o,e,hP b hb,fun k hk=>?_⟩;obtain⟨b1,o1,e1,_,h1,_⟩:=h (k*2) _ (zZf l k hk).1;obtain⟨b2,o2,e2,_,h2,_⟩:=h (k*2+1) _ (zZf l k hk).2;rw[e]at e1 e2;injection e1 with e1;injection e1 with a1 a2;injection e2 with e2;injection e2 with a3 a4;subst a1 a2 a3 a4;exact⟨h1,by rw[<-Nat.add_assoc]at h2;exact h2⟩
theorem VP.vl (h:VP P w A xs)(hP:∀b,P b->b<B):VL w B A xs:=fun hn=>by
 cases xs with
 |nil=>exact absurd rfl hn
 |cons x r=>
  obtain⟨b,o,e,hb,_,_⟩:=h 0 x rfl;refine⟨b,o,e,hP b hb,fun k u hk=>?_⟩;obtain⟨b1,o1,e1,_,h1,_⟩:=h k u hk;rw[e]at e1;injection e1 with e1;injection e1 with a1 a2;subst a1 a2;exact h1
theorem zAx.at_ (hP:∀b,P b->b<B):∀{d:Nat}{v:Value}{n:NT},zAx P d w v n->zV d w B v n
 |0,_,_,h=>h
 |d+1,_,_,⟨PA,pc,TA,tc,KA,kc,e,hp,ht,hf,hks⟩=>⟨PA,pc,TA,tc,KA,kc,e,hp.pl hP,ht.vl hP,hf,fun k m hm=>by
   obtain⟨b,o,u,e1,hb,hn,hc,_⟩:=hks k m hm;exact⟨b,o,u,e1,hP b hb,hn.at_ hP,hc⟩⟩
theorem PL.vl (h:PL w B A l):VL w B A (pv l):=fun hn=>by
 obtain⟨b,o,e,hb,hc⟩:=h (by rintro rfl;exact hn rfl);refine⟨b,o,e,hb,fun k u hu=>?_⟩;have hk:k<(pv l).length:=(List.getElem?_eq_some_iff.1 hu).1;rw[zN8]at hk;obtain⟨q,hq⟩:∃q,k=q*2∨k=q*2+1:=⟨k/2,by omega⟩;rcases hq with rfl|rfl
 ·rw[(zZf l q Kb).1]at hu;injection hu with hu;rw[<-hu];exact(hc q Kb).1
 ·rw[(zZf l q Kb).2]at hu;injection hu with hu;rw[<-hu,<-Nat.add_assoc];exact(hc q Kb).2
structure zQ7 (ts te:TypeId)(size by_:Nat):Prop where
 under:Tryz.prog.underlying ts=some (.slice te)
 info:∃i z,Tryz.prog.info? te=some i/\i.zero=some z/\i.size=size/\i.bytes=by_/\z.cells.size=size
 pos:0<size
theorem kC0 :(Tryz.prog.info? 103).map (fun i=>(i.zero,i.size,i.bytes))=some (some (.agg #[.string ByteArray.empty,.string ByteArray.empty]),2,32):=Ka
theorem zJj :(Tryz.prog.info? 26).map (fun i=>(i.zero,i.size,i.bytes))=some (some (.agg #[.bool false,.slice none 0 0,.slice none 0 0,.slice none 0 0]),4,80):=Ka
theorem zZh :zQ7 22 103 2 32:=⟨Tryz.underlying22,by
 obtain⟨i0,hi,hz0,hz1,hz2⟩:=info_parts kC0;exact⟨i0,_,hi,hz0,hz1,hz2,rfl⟩,by decide⟩
theorem zTa :zQ7 23 21 1 4:=⟨Tryz.underlying23,by
 obtain⟨i0,hi,hz0,hz1,hz2⟩:=info_parts zOt;exact⟨i0,_,hi,hz0,hz1,hz2,rfl⟩,by decide⟩
theorem zWg :zQ7 24 26 4 80:=⟨Tryz.underlying24,by
 obtain⟨i0,hi,hz0,hz1,hz2⟩:=info_parts zJj;exact⟨i0,_,hi,hz0,hz1,hz2,rfl⟩,by decide⟩
theorem kC1 {a b:Nat}(h:a*b<=140737488355328):(a:Int)*(b:Int)<=281474976710656:=by
 have h1:((a*b:Nat):Int)<=140737488355328:=Kb;rw[Int.natCast_mul]at h1;omega
theorem zGt {size:Nat}(E:zQ7 ts te size by_)(n:Nat)(hn:by_*n<=140737488355328)(h63:n<=9223372036854775807):∃cs:Array Value,cs.size=n*size/\∀w:World,(Instr.makeSlice ts (.int .i64 0) (.int .i64 (n:Int))).run Tryz.prog w=.ok (.slice (some ⟨w.heap.size,0,none⟩) 0 n) (w.alloc (.cells cs te)):=by
 obtain⟨i0,z,hi,hz0,hz1,hz2,hz3⟩:=E.info;refine⟨madeCells z.cells (n*size),size_madeCells _ _,fun w=>?_⟩;have h:=run_make (P:=Tryz.prog) w ts te i0 z E.under hi hz0 .i64 .i64 0 (n:Int) Kb Kb (by rw[hz2];exact kC1 hn) Kb;rw[h,hz1];simp
theorem zHn {size c:Nat}{base:Nat}(h:w'.ownsRow base t size (.slice (some ⟨g,0,none⟩) n c) n xs):base<=g/\g<w'.heap.size/\(∀k u,xs[k]? =some u->kKa w' g k u)/\n<=c:=by
 have hc:=h.cells (g:=g) rfl;rcases h.2 with⟨e,_⟩|⟨g',cap,cur,e,hb,hh,hnc,_⟩
 ·simp at e
 ·simp only[Value.slice.injEq,Option.some.injEq,Addr.mk.injEq,and_true,true_and]at e;obtain⟨rfl,e2⟩:=e;refine⟨hb,lt_of_block hh,fun k u hu=>⟨?_,by simp[World.frozen?,hh]⟩,by omega⟩;have:=hc k u hu;rwa[add_plain,Nat.zero_add]at this
theorem zBr {size:Nat}(E:zQ7 ts te size by_)(W:World){ops:Array Oper}{rest:List Oper}{o:Oper}{a:Act}{Q:Exit->Act->World->Prop}(hgd:o.guard=none)(s x:Operand)
  (ho:o.op=.call {callee:=.builtin .append,args:=#[s,x],argTypes:=#[ts,ts]})
  (b:Nat) (v:Value) (n:Nat) (k:List Value) (hs:a.eval s=v) {g0 n0 c0:Nat} (hO:W.ownsRow b te size v n k) (A:Option Addr) (m c B:Nat) (l:List Value) (hx:a.eval x=.slice A m c) (hn:l.length=m*size) (hp:VL W B A l) (h1:∀u ∈ l,u.oneCell'=true)
  (h63:n+m<=maxLen) (hby:(n+m)*by_<=140737488355328) (hb:b<=W.heap.size) (hv:v=.slice (some ⟨g0,0,none⟩) n0 c0)
  (hK:∀g cap w',w'.ownsRow b te size (.slice (some ⟨g,0,none⟩) (n+m) cap) (n+m) (k++l)->W.grownBy w' v.ownBlock->wpList Tryz.prog ops Q rest (a.put o.dst (.slice (some ⟨g,0,none⟩) (n+m) cap)) w'):
  wpList Tryz.prog ops Q (o::rest) a W:=by
 obtain⟨i0,z,hi,hz0,hz1,hz2,hz3⟩:=E.info;have hsz:=E.pos;rcases A with _|ad
 ·have hl:l=[]:=by
   rcases Classical.em (l=[])with h|h
   ·exact h
   ·obtain⟨_,_,h,_⟩:=hp h;cases h
  subst hl;have hm:m=0:=by
   rcases Nat.eq_zero_or_pos m with h|h
   ·exact h
   ·have:=Nat.mul_pos h hsz;simp at hn;omega
  subst hm;have pR:=hO;rcases hO.2 with⟨e,_⟩|⟨g,cap,cur,e,_⟩
  ·rw[hv]at e;cases e
  ·subst e;refine zDh hgd s x ts ho b te i0 size E.under hi _ n k hs pR c hx ?_;have:=hK g cap W (by simpa using pR) (⟨rfl,rfl,rfl,Nat.le_refl _,fun _ _ _=>rfl⟩);simpa using this
 ·refine wpList_append_own _ hgd s x ts ho b te i0 _ size by_ E.under hi hz0 hz1 hz2 hz3 hsz v n k hs hO ad m c l hx hn ?_ h1 h63 hby hb (fun v' w' h1 h2 h3=>?_)
  ·intro j u hj;have hjl:j<l.length:=(List.getElem?_eq_some_iff.1 hj).1;obtain⟨b',o',e,_,h⟩:=hp (by rintro rfl;simp at hjl);injection e with e;subst e;rw[add_plain,h j u hj]
  ·rcases h1.2 with⟨e,h0⟩|⟨g,cap,cur,e,_⟩
   ·exact absurd (h3.1 e).1 (by rw[hv];simp)
   ·subst e;exact hK g cap w' h1 h2
def zVf (d:Nat)(n:NT)(w:World)(e:Ending)(w':World):Prop:=
 ∃v,e=.returned v/\zAx (fun b=>w.heap.size<=b/\b<w'.heap.size) d w' v n/\Below w.heap.size w w'
theorem zXl {d:Value}(h:Below w.heap.size w W/\W.cell? ⟨B,0,none⟩=some a/\W.cell? ⟨B,1,none⟩=some b/\W.cell? ⟨B,2,none⟩=some c/\W.cell? ⟨B,3,none⟩=some d)(hb:Below W.heap.size W W'):
  Below w.heap.size w W'/\W'.cell? ⟨B,0,none⟩=some a/\W'.cell? ⟨B,1,none⟩=some b/\W'.cell? ⟨B,2,none⟩=some c/\W'.cell? ⟨B,3,none⟩=some d:=by
 obtain⟨h0,h1,h2,h3,h4⟩:=h;exact⟨h0.trans (hb.mono h0.size),(hb.cell (kQ h1)).trans h1,(hb.cell (kQ h2)).trans h2,(hb.cell (kQ h3)).trans h3,(hb.cell (kQ h4)).trans h4⟩
theorem kBf {A B Z:Obj}(h:Below ((((w.alloc A).alloc B).alloc Z).drew).heap.size ((((w.alloc A).alloc B).alloc Z).drew) w'):w'.heap[w.heap.size+1+1]? =some Z:=by
 have e:((w.alloc A).alloc B).heap.size=w.heap.size+1+1:=by simp
 rw[<-e];exact(h.block _ (by show _<(((w.alloc A).alloc B).alloc Z).heap.size;simp)).trans (heap_alloc_new _ Z)
theorem kBg {d y0 y1 y2 y3:Value}(h:Below w.heap.size w W/\W.cell? ⟨B,0,none⟩=some a/\W.cell? ⟨B,1,none⟩=some b/\W.cell? ⟨B,2,none⟩=some c/\W.cell? ⟨B,3,none⟩=some d)(hB:B<w.heap.size)(hg:w.heap.size<=gO):
  Below w.heap.size w ((((W.setCell ⟨gO,0,none⟩ y0).setCell ⟨gO,1,none⟩ y1).setCell ⟨gO,2,none⟩ y2).setCell ⟨gO,3,none⟩ y3)/\((((W.setCell ⟨gO,0,none⟩ y0).setCell ⟨gO,1,none⟩ y1).setCell ⟨gO,2,none⟩ y2).setCell ⟨gO,3,none⟩ y3).cell? ⟨B,0,none⟩=some a/\((((W.setCell ⟨gO,0,none⟩ y0).setCell ⟨gO,1,none⟩ y1).setCell ⟨gO,2,none⟩ y2).setCell ⟨gO,3,none⟩ y3).cell? ⟨B,1,none⟩=some b/\
   ((((W.setCell ⟨gO,0,none⟩ y0).setCell ⟨gO,1,none⟩ y1).setCell ⟨gO,2,none⟩ y2).setCell ⟨gO,3,none⟩ y3).cell? ⟨B,2,none⟩=some c/\((((W.setCell ⟨gO,0,none⟩ y0).setCell ⟨gO,1,none⟩ y1).setCell ⟨gO,2,none⟩ y2).setCell ⟨gO,3,none⟩ y3).cell? ⟨B,3,none⟩=some d:=by
 obtain⟨h0,h1,h2,h3,h4⟩:=h;have hb:Below w.heap.size w ((((W.setCell ⟨gO,0,none⟩ y0).setCell ⟨gO,1,none⟩ y1).setCell ⟨gO,2,none⟩ y2).setCell ⟨gO,3,none⟩ y3):=(((h0.setCell (by show _<=gO;exact hg) _).setCell (by show _<=gO;exact hg) _).setCell (by show _<=gO;exact hg) _).setCell (by show _<=gO;exact hg) _;have hk:∀o,((((W.setCell ⟨gO,0,none⟩ y0).setCell ⟨gO,1,none⟩ y1).setCell ⟨gO,2,none⟩ y2).setCell ⟨gO,3,none⟩ y3).cell? ⟨B,o,none⟩=W.cell? ⟨B,o,none⟩:=fun o=>(hb.cell (p:=⟨B,o,none⟩) hB).trans (h0.cell (p:=⟨B,o,none⟩) hB).symm;exact⟨hb,(hk _).trans h1,(hk _).trans h2,(hk _).trans h3,(hk _).trans h4⟩
theorem kFw {W0:World}{o:Obj}(h:Below (W0.alloc o).heap.size (W0.alloc o) w')(hg:W0.heap.size=g):w'.heap[g]? =some o:=hg▸(h.block _ Kc).trans (heap_alloc_new W0 o)
theorem kI {o:Obj}(h:W.heap[g]? =some o)(hb:Below W.heap.size W w'):w'.heap[g]? =some o:=(hb.block _ (lt_of_block h)).trans h
theorem zJ {d:Value}(h:w.heap[g]? =some (.cells #[a,b,c,d] t (0,0))):
  w.cell? ⟨g,0,none⟩=some a/\w.cell? ⟨g,1,none⟩=some b/\w.cell? ⟨g,2,none⟩=some c/\w.cell? ⟨g,3,none⟩=some d/\w.frozen? ⟨g,0,none⟩=false/\w.frozen? ⟨g,1,none⟩=false/\w.frozen? ⟨g,2,none⟩=false/\w.frozen? ⟨g,3,none⟩=false:=by
 refine⟨?_,?_,?_,?_,?_,?_,?_,?_⟩<;>simp[World.cell?,World.frozen?,h]
def kEw (w:World)(lf:Bool)(ps:List Pr)(tx:List Int)(kids:Value)(s4:Value)(wx:World):Prop:=
 ∃gO gp cp gt ct,s4=.pointer (some ⟨gO,0,none⟩)/\Below w.heap.size w wx/\wx.heap[w.heap.size+1]? =some (.cells #[.bool false,.slice none 0 0,.slice none 0 0,.slice none 0 0] 26)/\w.heap.size+2<=gO/\wx.cell? ⟨w.heap.size,3,none⟩=some kids/\
  wx.heap[gO]? =some (.cells #[.bool lf,.slice (some ⟨gp,0,none⟩) ps.length cp,.slice (some ⟨gt,0,none⟩) tx.length ct,.slice none 0 0] 26 (0,0))/\
  VP (fun b=>w.heap.size+2<=b/\b<wx.heap.size/\b≠gO) wx (some ⟨gp,0,none⟩) (pv ps)/\VP (fun b=>w.heap.size+2<=b/\b<wx.heap.size/\b≠gO) wx (some ⟨gt,0,none⟩) (rv tx)/\ps.length<=cp/\tx.length<=ct
theorem sz1 {A:Obj}:(w.alloc A).heap.size=w.heap.size+1:=by simp
theorem sz2 {A B:Obj}:((w.alloc A).alloc B).drew.heap.size=w.heap.size+2:=by show((w.alloc A).alloc B).heap.size=_;simp
theorem sz3 {A B Z:Obj}:(((w.alloc A).alloc B).alloc Z).drew.heap.size=w.heap.size+3:=by show(((w.alloc A).alloc B).alloc Z).heap.size=_;simp
theorem zSb {lf:Bool}{ps:List Pr}{tx:List Int}{ct:Nat}(cQ:ps.length<=cp)(hct:tx.length<=ct)
  (hwb:Below w.heap.size w wb) (hwr:wb.heap[w.heap.size+1]? =some (.cells #[.bool false,.slice none 0 0,.slice none 0 0,.slice none 0 0] 26)) (hS:Below wb.heap.size wb w3/\w3.cell? ⟨w.heap.size,0,none⟩=some a/\w3.cell? ⟨w.heap.size,1,none⟩=some b/\w3.cell? ⟨w.heap.size,2,none⟩=some c/\w3.cell? ⟨w.heap.size,3,none⟩=some kids)
  (hp:VP (fun b=>W.heap.size<=b/\b<w2.heap.size) w2 (some ⟨gp,0,none⟩) (pv ps)) (ht:VP (fun b=>W'.heap.size<=b/\b<w3.heap.size) w3 (some ⟨gt,0,none⟩) (rv tx)) (hb:Below w2.heap.size w2 w3) (hW:w.heap.size+2<=W.heap.size) (hW':w.heap.size+2<=W'.heap.size) (h2:w.heap.size+2<=w3.heap.size):
  kEw w lf ps tx kids (.pointer (some ⟨w3.heap.size,0,none⟩)) (w3.alloc (.cells #[.bool lf,.slice (some ⟨gp,0,none⟩) ps.length cp,.slice (some ⟨gt,0,none⟩) tx.length ct,.slice none 0 0] 26)):=by
 have e:∀o:Obj,(w3.alloc o).heap.size=w3.heap.size+1:=fun o=>by simp
 have hbs:=hb.size;have hw3:Below w.heap.size w w3:=hwb.trans (hS.1.mono hwb.size);refine⟨w3.heap.size,gp,cp,gt,ct,rfl,hw3.alloc hw3.size _,(Below.heap_alloc _ _ _ Kb).trans ((hS.1.block _ (lt_of_block hwr)).trans hwr),h2,?_,heap_alloc_new w3 _,?_,?_,cQ,hct⟩
 ·rw[World.cell?_alloc_lt _ _ _ (kQ hS.2.2.2.2)];exact hS.2.2.2.2
 ·refine hp.keep (fun b hb=>by rw[e];omega) (fun p hp=>?_);have hb3:Below w2.heap.size w2 (w3.alloc (.cells #[.bool lf,.slice (some ⟨gp,0,none⟩) ps.length cp,.slice (some ⟨gt,0,none⟩) tx.length ct,.slice none 0 0] 26)):=hb.alloc hbs _;exact⟨hb3.cell hp.2,hb3.frozen hp.2⟩
 ·refine ht.keep (fun b hb=>by rw[e];omega) (fun p hp=>?_);have hb3:Below w3.heap.size w3 (w3.alloc (.cells #[.bool lf,.slice (some ⟨gp,0,none⟩) ps.length cp,.slice (some ⟨gt,0,none⟩) tx.length ct,.slice none 0 0] 26)):=Kk.alloc Kl _;exact⟨hb3.cell hp.2,hb3.frozen hp.2⟩
theorem kD {d:Value}(h:w.heap[g]? =some (.cells #[z0,z1,z2,z3] t (0,0))):
  ((((w.setCell ⟨g,0,none⟩ a).setCell ⟨g,1,none⟩ b).setCell ⟨g,2,none⟩ c).setCell ⟨g,3,none⟩ d).heap[g]? =some (.cells #[a,b,c,d] t (0,0)):=by
 have key:∀(w:World)(cs:Array Value)(k:Nat)(x:Value),w.heap[g]? =some (.cells cs t (0,0))->(w.setCell ⟨g,k,none⟩ x).heap[g]? =some (.cells (cs.setIfInBounds k x) t (0,0)):=by
  intro w cs k x h;have hlt:=lt_of_block h;have h':w.heap[g]=.cells cs t (0,0):=by simpa[Array.getElem?_eq_getElem hlt]using h
  show(w.heap.modify g _)[g]? =_
  rw[Array.getElem?_eq_getElem (by simpa using hlt),Array.getElem_modify_self,h'];rfl
 have h1:=key _ _ 0 a h;have h2:=key _ _ 1 b h1;have h3:=key _ _ 2 c h2;have h4:=key _ _ 3 d h3;simpa using h4
theorem zJ4 {lf:Bool}{ps:List Pr}{tx:List Int}{ct:Nat}(cQ:ps.length<=cp)(hct:tx.length<=ct)
  (hwb:Below w.heap.size w wb) (hwr:wb.heap[w.heap.size+1]? =some (.cells #[.bool false,.slice none 0 0,.slice none 0 0,.slice none 0 0] 26)) (hS:Below wb.heap.size wb w3/\w3.cell? ⟨w.heap.size,0,none⟩=some a/\w3.cell? ⟨w.heap.size,1,none⟩=some b/\w3.cell? ⟨w.heap.size,2,none⟩=some c/\w3.cell? ⟨w.heap.size,3,none⟩=some kids)
  (hp:VP (fun b=>W.heap.size<=b/\b<w2.heap.size) w2 (some ⟨gp,0,none⟩) (pv ps)) (ht:VP (fun b=>W'.heap.size<=b/\b<w3.heap.size) w3 (some ⟨gt,0,none⟩) (rv tx)) (hb:Below w2.heap.size w2 w3) (hO:w3.heap[gO]? =some (.cells #[z0,z1,z2,z3] 26 (0,0)))
  (h2:w.heap.size+2<=gO) (hW:w.heap.size+2<=W.heap.size) (hW':w.heap.size+2<=W'.heap.size) (ij:∀b,W.heap.size<=b->b<w2.heap.size->b≠gO) (iL:∀b,W'.heap.size<=b->b≠gO):
  kEw w lf ps tx kids (.pointer (some ⟨gO,0,none⟩)) ((((w3.setCell ⟨gO,0,none⟩ (.bool lf)).setCell ⟨gO,1,none⟩ (.slice (some ⟨gp,0,none⟩) ps.length cp)).setCell ⟨gO,2,none⟩ (.slice (some ⟨gt,0,none⟩) tx.length ct)).setCell ⟨gO,3,none⟩ (.slice none 0 0)):=by
 have hbs:=hb.size;obtain⟨wx,hwx⟩:∃wx,wx=((((w3.setCell ⟨gO,0,none⟩ (.bool lf)).setCell ⟨gO,1,none⟩ (.slice (some ⟨gp,0,none⟩) ps.length cp)).setCell ⟨gO,2,none⟩ (.slice (some ⟨gt,0,none⟩) tx.length ct)).setCell ⟨gO,3,none⟩ (.slice none 0 0)):=⟨_,rfl⟩;have e:wx.heap.size=w3.heap.size:=by rw[hwx];simp
 have hblk:∀k,k≠gO->wx.heap[k]? =w3.heap[k]? :=fun k hk=>by
  rw[hwx];iterate 4 rw[Below.heap_setCell _ _ _ _ (by simpa using hk)]
 have hsame:∀p:Addr,p.block≠gO->wx.cell? p=w3.cell? p/\wx.frozen? p=w3.frozen? p:=fun p hp=>⟨World.cell?_of_block (hblk _ hp),World.frozen?_of_block (hblk _ hp)⟩;have hw3:Below w.heap.size w w3:=hwb.trans (hS.1.mono hwb.size);have aJ:Below w.heap.size w wx:=hwx▸((((hw3.setCell (by show _<=gO;omega) _).setCell (by show _<=gO;omega) _).setCell (by show _<=gO;omega) _).setCell (by show _<=gO;omega) _);rw[<-hwx];refine⟨gO,gp,cp,gt,ct,rfl,aJ,(hblk _ Kb).trans ((hS.1.block _ (lt_of_block hwr)).trans hwr),h2,?_,hwx▸kD hO,?_,?_,cQ,hct⟩
 ·rw[(hsame ⟨w.heap.size,3,none⟩ (by show w.heap.size≠gO;omega)).1];exact hS.2.2.2.2
 ·refine hp.keep (fun b hb=>by have:=ij b hb.1 hb.2;rw[e];omega) (fun p hp=>?_);have h3:=hsame p (ij _ hp.1 hp.2);exact⟨h3.1.trans (hb.cell hp.2),h3.2.trans (hb.frozen hp.2)⟩
 ·refine ht.keep (fun b hb=>by have:=iL b hb.1;rw[e];omega) (fun p hp=>hsame p (iL _ hp.1))
structure zFs (w:World)(d:Nat)(lf:Bool)(ps:List Pr)(tx:List Int)(ks:List NT)(gO gp cp gt ct k gk cap:Nat)(us:List Value)(wr:World):Prop where
 below:Below w.heap.size w wr
 lo:w.heap.size+2<=gO
 res:wr.heap[w.heap.size+1]? =some (.cells #[.bool false,.slice none 0 0,.slice none 0 0,.slice none 0 0] 26)
 o:wr.heap[gO]? =some (.cells #[.bool lf,.slice (some ⟨gp,0,none⟩) ps.length cp,.slice (some ⟨gt,0,none⟩) tx.length ct,.slice (some ⟨gk,0,none⟩) k cap] 26 (0,0))
 row:wr.ownsRow (w.heap.size+2) 26 4 (.slice (some ⟨gk,0,none⟩) k cap) k (us.flatMap fun u=>u.cells.toList)
 len:us.length=k
 apart:gk≠gO
 props:VP (fun b=>w.heap.size+2<=b/\b<wr.heap.size/\b≠gO/\b≠gk) wr (some ⟨gp,0,none⟩) (pv ps)
 text:VP (fun b=>w.heap.size+2<=b/\b<wr.heap.size/\b≠gO/\b≠gk) wr (some ⟨gt,0,none⟩) (rv tx)
 kids:∀j m,j<k->ks[j]? =some m->∃u,us[j]? =some u/\zAx (fun b=>w.heap.size+2<=b/\b<wr.heap.size/\b≠gO/\b≠gk) d wr u m
theorem zG4 {x:Value}(h:w.heap[g]? =some (.cells cs t (0,0))):(w.setCell ⟨g,k,none⟩ x).heap[g]? =some (.cells (cs.setIfInBounds k x) t (0,0)):=by
 have hlt:=lt_of_block h;have h':w.heap[g]=.cells cs t (0,0):=by simpa[Array.getElem?_eq_getElem hlt]using h
 show(w.heap.modify g _)[g]? =_
 rw[Array.getElem?_eq_getElem (by simpa using hlt),Array.getElem_modify_self,h'];rfl
theorem zOl {wc:World}{lf:Bool}{ps:List Pr}{tx:List Int}{ks:List NT}{ct:Nat}(rK:w.heap.size+2<=gO)(hO:wc.heap[gO]? =some (.cells #[.bool lf,.slice (some ⟨gp,0,none⟩) ps.length cp,.slice (some ⟨gt,0,none⟩) tx.length ct,.slice none 0 0] 26 (0,0)))
  (hb:Below w.heap.size w wc) (hres:wc.heap[w.heap.size+1]? =some (.cells #[.bool false,.slice none 0 0,.slice none 0 0,.slice none 0 0] 26)) (hp:VP (fun b=>w.heap.size+2<=b/\b<wc.heap.size/\b≠gO) wc (some ⟨gp,0,none⟩) (pv ps)) (ht:VP (fun b=>w.heap.size+2<=b/\b<wc.heap.size/\b≠gO) wc (some ⟨gt,0,none⟩) (rv tx)) (hcs:cs.size=ks.length*4) (hl:ks.length<=1759218604441):
  zFs w d lf ps tx ks gO gp cp gt ct 0 wc.heap.size ks.length [] ((wc.setCell ⟨gO,3,none⟩ (.slice (some ⟨wc.heap.size,0,none⟩) 0 ks.length)).alloc (.cells cs 26)):=by
 have nr:=lt_of_block hO;obtain⟨w1,hw1⟩:∃w1,w1=wc.setCell ⟨gO,3,none⟩ (.slice (some ⟨wc.heap.size,0,none⟩) 0 ks.length):=⟨_,rfl⟩;have e1:w1.heap.size=wc.heap.size:=by rw[hw1];simp
 have e2:(w1.alloc (.cells cs 26)).heap.size=wc.heap.size+1:=by simp[e1]
 have hsame:∀p:Addr,p.block<wc.heap.size->p.block≠gO->(w1.alloc (.cells cs 26)).cell? p=wc.cell? p/\(w1.alloc (.cells cs 26)).frozen? p=wc.frozen? p:=fun p hp hn=>by
  have h:(w1.alloc (.cells cs 26)).heap[p.block]? =wc.heap[p.block]? :=by
   rw[Below.heap_alloc _ _ _ Kb,hw1,Below.heap_setCell _ _ _ _ (by simpa using hn)]
  exact⟨World.cell?_of_block h,World.frozen?_of_block h⟩
 rw[<-hw1];refine⟨(hw1▸hb.setCell (by show _<=gO;omega) _:Below w.heap.size w w1).alloc (by have:=hb.size;omega) _,rK,?_,?_,?_,rfl,by omega,?_,?_,fun j m hj=>absurd hj (Nat.not_lt_zero _)⟩
 ·rw[Below.heap_alloc _ _ _ Kb,hw1,Below.heap_setCell _ _ _ _ (by show _≠gO;omega)];exact hres
 ·rw[Below.heap_alloc _ _ _ Kb,hw1,zG4 hO];rfl
 ·have:=World.ownsRow_made (base:=w.heap.size+2) (e:=26) (size:=4) w1 cs ks.length Kb Kg hcs;rw[e1]at this;exact this
 ·exact hp.keep (fun b hb=>by rw[e2];omega) (fun p hp=>hsame p hp.2.1 hp.2.2)
 ·exact ht.keep (fun b hb=>by rw[e2];omega) (fun p hp=>hsame p hp.2.1 hp.2.2)
theorem kEx (wr:World)(o:Obj)(k:Nat)(hk:k<wr.heap.size):(wr.alloc o).drew.heap[k]? =wr.heap[k]? :=Below.heap_alloc wr o k hk
theorem zIk {o:Obj}(hb:Below (wr.alloc o).drew.heap.size (wr.alloc o).drew w4):wr.heap.size+1<=w4.heap.size/\∀k,k<wr.heap.size->w4.heap[k]? =wr.heap[k]? :=by
 have h1:=hb.size;have h2:(wr.alloc o).drew.heap.size=wr.heap.size+1:=sz1;rw[h2]at h1;exact⟨h1,fun k hk=>(hb.block k (by rw[h2];exact Nat.lt_succ_of_lt hk)).trans (kEx wr o k hk)⟩
theorem zNe {o X:Obj}(hg:(w4.alloc o).grownBy w6 (some gk))(h:w4.heap[gO]? =some X)(hne:gk≠gO):w6.heap[gO]? =some X:=by
 have hl:=lt_of_block h;exact(hg.block gO Kf (by intro e;injection e with e;exact hne e.symm)).trans ((Below.heap_alloc w4 o gO hl).trans h)
theorem zG5 {base size:Nat}(h:W.ownsRow base t size v n xs)(hk:∀k,k<W.heap.size->w'.heap[k]? =W.heap[k]?):w'.ownsRow base t size v n xs:=by
 refine⟨h.1,?_⟩;rcases h.2 with h4|⟨g,cap,cur,e2,hbg,hg,rest⟩
 ·exact .inl h4
 ·exact .inr ⟨g,cap,cur,e2,hbg,(hk g (lt_of_block hg)).trans hg,rest⟩
theorem zSc {lf:Bool}{ps:List Pr}{tx:List Int}{ks:List NT}{ct cap g6 aT:Nat}{us:List Value}{m:NT}{o:Obj}{c0 c1 c2 c3:Value}(h:zFs w d lf ps tx ks gO gp cp gt ct k gk cap us wr)(hm:ks[k]? =some m)
  (hb4:Below (wr.alloc o).drew.heap.size (wr.alloc o).drew w4) (dN:zAx (fun b=>(wr.alloc o).drew.heap.size<=b/\b<w4.heap.size) d w4 (.agg #[c0,c1,c2,c3]) m) (hgrow:(w4.alloc (.cells #[c0,c1,c2,c3] 26)).grownBy w6 (some gk))
  (hown:w6.ownsRow (w.heap.size+2) 26 4 (.slice (some ⟨g6,0,none⟩) (k+1) aT) (k+1) ((us.flatMap fun u=>u.cells.toList)++[c0,c1,c2,c3])) (hat:some gk=some g6∨g6=w4.heap.size+1):
  zFs w d lf ps tx ks gO gp cp gt ct (k+1) g6 aT (us++[.agg #[c0,c1,c2,c3]]) (w6.setCell ⟨gO,3,none⟩ (.slice (some ⟨g6,0,none⟩) (k+1) aT)):=by
 obtain⟨hs4,dF⟩:=zIk hb4;have e0:(wr.alloc o).drew.heap.size=wr.heap.size+1:=sz1;rw[e0]at dN;have nr:=lt_of_block h.o;have hgl:=(h.row.lt gk rfl).2;have l5:=(h.row.lt gk rfl).1;have hne:=h.apart;have bA:=h.below.size;have hlo:=h.lo;have e6:=hgrow.size;have e5:(w4.alloc (.cells #[c0,c1,c2,c3] 26)).heap.size=w4.heap.size+1:=sz1;rw[e5]at e6;obtain⟨wx,hwx⟩:∃wx,wx=w6.setCell ⟨gO,3,none⟩ (.slice (some ⟨g6,0,none⟩) (k+1) aT):=⟨_,rfl⟩;have ex:wx.heap.size=w6.heap.size:=by rw[hwx];simp
 have o8:∀b,b<w4.heap.size->b≠gO->b≠gk->wx.heap[b]? =w4.heap[b]? :=fun b hb h1 h2=>by
  rw[hwx,Below.heap_setCell _ _ _ _ (by simpa using h1),hgrow.block b (by rw[e5];omega) (by intro e;injection e with e;exact h2 e),Below.heap_alloc _ _ _ hb]
 have rL:∀b,b<wr.heap.size->b≠gO->b≠gk->wx.heap[b]? =wr.heap[b]? :=fun b hb h1 h2=>(o8 b Kb h1 h2).trans (dF b hb);have uu:g6≠gO/\(g6=gk∨w4.heap.size<g6):=by
  rcases hat with e|e
  ·injection e with e;exact⟨by omega,.inl e.symm⟩
  ·exact⟨by omega,.inr Kb⟩
 have hP:∀b,(w.heap.size+2<=b/\b<wr.heap.size/\b≠gO/\b≠gk)->(w.heap.size+2<=b/\b<wx.heap.size/\b≠gO/\b≠g6):=fun b hb=>by omega
 have hK:∀p:Addr,(w.heap.size+2<=p.block/\p.block<wr.heap.size/\p.block≠gO/\p.block≠gk)->wx.cell? p=wr.cell? p/\wx.frozen? p=wr.frozen? p:=fun p hp=>
  ⟨World.cell?_of_block (rL _ hp.2.1 hp.2.2.1 hp.2.2.2),World.frozen?_of_block (rL _ hp.2.1 hp.2.2.1 hp.2.2.2)⟩
 have rM:Below w.heap.size w w4:=((h.below.alloc bA o).drew).trans (hb4.mono (by rw[e0];omega));have aJ:Below w.heap.size w wx:=hwx▸((rM.alloc Kb _).grown hgrow (by rw[e5];omega) (fun j hj=>by injection hj with hj;omega)).setCell (by show _<=gO;omega) _;rw[<-hwx];refine⟨aJ,h.lo,(rL _ Kb Kb Kb).trans h.res,?_,?_,by simp[h.len],uu.1,h.props.keep hP hK,h.text.keep hP hK,fun j m' hj nu=>?_⟩
 ·have h6:w6.heap[gO]? =_:=zNe hgrow ((dF gO nr).trans h.o) hne;rw[hwx,zG4 h6];rfl
 ·rw[hwx];have:=ownsRow_setCell_other hown (a:=⟨gO,3,none⟩) (by simp[Value.ownBlock];exact uu.1) (.slice (some ⟨g6,0,none⟩) (k+1) aT);simpa[Value.cells]using this
 ·rcases Nat.lt_or_ge j k with hjk|hjk
  ·obtain⟨u,hu,ht⟩:=h.kids j m' hjk nu;exact⟨u,by rw[List.getElem?_append_left (by have:=(List.getElem?_eq_some_iff.1 hu).1;exact this)];exact hu,ht.keep hP hK⟩
  ·obtain rfl:j=k:=Kb;rw[hm]at nu;injection nu with nu;subst nu;refine⟨_,by rw[List.getElem?_append_right (by rw[h.len];exact Nat.le_refl _),h.len,Nat.sub_self];rfl,dN.keep (fun b hb=>by omega) (fun p hp=>?_)⟩;have:=o8 p.block hp.2 Kb Kb;exact⟨World.cell?_of_block this,World.frozen?_of_block this⟩
theorem zJ5 (us:List Value):∀(j:Nat)(u c0 c1 c2 c3:Value),(∀x ∈ us,x.cells.size=4)->us[j]? =some u->u=.agg #[c0,c1,c2,c3]->∀i c,[c0,c1,c2,c3][i]? =some c->(us.flatMap fun u=>u.cells.toList)[j*4+i]? =some c:=by
 induction us with
 |nil=>intro j u c0 c1 c2 c3 _ h;simp at h
 |cons x r ih=>
  intro j u c0 c1 c2 c3 h4 hu he i c hi;have hx:x.cells.toList.length=4:=by rw[Array.length_toList];exact h4 x (List.mem_cons_self ..)
  have hil:i<4:=by have:=(List.getElem?_eq_some_iff.1 hi).1;simpa using this
  rw[List.flatMap_cons];cases j with
  |zero=>
   simp only[List.getElem?_cons_zero,Option.some.injEq]at hu;subst hu he;rw[Nat.zero_mul,Nat.zero_add,List.getElem?_append_left (by rw[hx];exact hil)];simpa[Value.cells]using hi
  |succ j=>
   simp only[List.getElem?_cons_succ]at hu;rw[List.getElem?_append_right (by rw[hx];omega),hx,show(j+1)*4+i-4=j*4+i by omega];exact ih j u c0 c1 c2 c3 (fun y hy=>h4 y (List.mem_cons_of_mem _ hy)) hu he i c hi
theorem zAx.four {n:NT}(h:zAx P d w v n):∃c0 c1 c2 c3,v=.agg #[c0,c1,c2,c3]:=by
 cases d with
 |zero=>exact h.elim
 |succ d=>obtain⟨PA,pc,TA,tc,KA,kc,e,_⟩:=h;exact⟨_,_,_,_,e⟩
