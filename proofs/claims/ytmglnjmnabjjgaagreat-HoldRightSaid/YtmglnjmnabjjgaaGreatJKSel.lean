import Derived.Test.YtmglnjmnabjjgaaGreatJTAt
import Derived.Lib.AppendZeros
set_option maxRecDepth 4000
set_option maxHeartbeats 8000000
namespace Go.Proofs.YtmglnjmnabjjgaaGreat
open Go.RowKit
variable {W w:World}{d k:Nat}{p q t:List Int}{K pos:Int}
structure Sl where
 is:Bool
 a:List Int×Int
 f:List Int×Int
def zF7 (s t:Sl):Bool:=s.is==t.is&&samP s.a t.a&&samP s.f t.f
def zE8 (n:NT)(s:Sl):Int:=if s.is=false then(if samP s.a ([],0)=true/\samP s.f ([],0)=true then 0 else 1)else if zK6 n s.a=0 then zK6 n s.f else zK6 n s.a
theorem kGy {g:Nat}{a b c d e:Value}{t:TypeId}(h:w.heap[g]? =some (.cells #[a,b,c,d,e] t (0,0))):w.cell? ⟨g,0,none⟩=some a/\w.cell? ⟨g,1,none⟩=some b/\w.cell? ⟨g,2,none⟩=some c/\w.cell? ⟨g,3,none⟩=some d/\w.cell? ⟨g,4,none⟩=some e:=by
 refine⟨?_,?_,?_,?_,?_⟩<;>simp[World.cell?,h]
theorem zI4.zero (w:World):zI4 w (.agg #[.slice none 0 0,.int .i64 0]) ([],0):=⟨none,0,0,rfl,rfl,by omega,Nat.le_refl _,IL.nil _ _ _⟩
theorem kRk {P:Prop}(h:P:=by
 go_wp2_with(first
  |(go_at_call 63;have _g:=aA;refine Calls.mono (fF.o _ aA.o) ?_;rintro e w2 ⟨rfl,b2⟩;have aX:=hd (aA.o.trans (b2.mono aA.o.size));clear b2)
  |(go_at_call 63;rw[HW.o];refine Calls.mono (bR.o _ Kk) ?_;rintro e w1 ⟨rfl,b1⟩;have aA:=hd b1;clear b1 x0 x1 x2 x3 x4 y0 y1 y2 y3 y4;obtain⟨x0,x1,x2,x3,x4,y0,y1,y2,y3,y4⟩:=HK.o _ aA.o)
  |fail)
 go_ret
 first
  |exact⟨kC Kc,ar.o.trans (aX.o.mono ar.o.size)⟩
  |exact⟨kC Kc,ar.o.trans (aA.o.mono ar.o.size)⟩
  |fail):P:=h
theorem zL4 (w:World)(s t:Sl)(A B C D:Option Addr)(na nb nc nd ca cb cc cd:Nat)(hA:zI4 w (.agg #[.slice A na ca,.int .i64 s.a.2]) s.a)(hB:zI4 w (.agg #[.slice B nb cb,.int .i64 s.f.2]) s.f)(hC:zI4 w (.agg #[.slice C nc cc,.int .i64 t.a.2]) t.a)(hD:zI4 w (.agg #[.slice D nd cd,.int .i64 t.f.2]) t.f):
  Calls Tryz.prog 64 #[.agg #[.bool s.is,.slice A na ca,.int .i64 s.a.2,.slice B nb cb,.int .i64 s.f.2],.agg #[.bool t.is,.slice C nc cc,.int .i64 t.a.2,.slice D nd cd,.int .i64 t.f.2]] w (jA (.bool (zF7 s t)) w):=by
 obtain⟨si,sa,sf⟩:=s;obtain⟨ti,ta,tf⟩:=t;simp only at hA hB hC hD⊢;obtain⟨W0,hW⟩:∃W0,(w.alloc (.cells #[.bool si,.slice A na ca,.int .i64 sa.2,.slice B nb cb,.int .i64 sf.2] 33)).alloc (.cells #[.bool ti,.slice C nc cc,.int .i64 ta.2,.slice D nd cd,.int .i64 tf.2] 33)=W0:=⟨_,rfl⟩;have hb0:Below w.heap.size w W0:=hW▸kM Kk Kl;have e0:=zK2 w (Obj.cells #[Value.bool si,.slice A na ca,.int .i64 sa.2,.slice B nb cb,.int .i64 sf.2] 33) (Obj.cells #[Value.bool ti,.slice C nc cc,.int .i64 ta.2,.slice D nd cd,.int .i64 tf.2] 33);rw[hW]at e0;have HK:=hd (show∀W,Below W0.heap.size W0 W->(W.cell? ⟨w.heap.size,0,none⟩=some (.bool si)/\W.cell? ⟨w.heap.size,1,none⟩=some (.slice A na ca)/\W.cell? ⟨w.heap.size,2,none⟩=some (.int .i64 sa.2)/\W.cell? ⟨w.heap.size,3,none⟩=some (.slice B nb cb)/\W.cell? ⟨w.heap.size,4,none⟩=some (.int .i64 sf.2)/\
   W.cell? ⟨w.heap.size+1,0,none⟩=some (.bool ti)/\W.cell? ⟨w.heap.size+1,1,none⟩=some (.slice C nc cc)/\W.cell? ⟨w.heap.size+1,2,none⟩=some (.int .i64 ta.2)/\W.cell? ⟨w.heap.size+1,3,none⟩=some (.slice D nd cd)/\W.cell? ⟨w.heap.size+1,4,none⟩=some (.int .i64 tf.2))from fun W h=>by
  obtain⟨h0,h1,h2,h3,h4⟩:=kGy (kI e0.1 h);obtain⟨g0,g1,g2,g3,g4⟩:=kGy (kI e0.2 h);exact⟨h0,h1,h2,h3,h4,g0,g1,g2,g3,g4⟩)
 obtain⟨x0,x1,x2,x3,x4,y0,y1,y2,y3,y4⟩:=HK.o _ Kk;have HW:=hd hW;have ar:=hd hb0;obtain⟨E1,dM⟩:∃E1,samP sa ta=E1:=⟨_,rfl⟩;obtain⟨E2,cP⟩:∃E2,samP sf tf=E2:=⟨_,rfl⟩;have bR:=hd (fun(W:World)(h:Below W0.heap.size W0 W)=>dM▸zYt (w:=W0) (W:=W) h (hA.later hb0) (hC.later hb0));have fF:=hd (fun(W:World)(h:Below W0.heap.size W0 W)=>cP▸zYt (w:=W0) (W:=W) h (hB.later hb0) (hD.later hb0));have hF:zF7 ⟨si,sa,sf⟩ ⟨ti,ta,tf⟩=(si==ti&&E1&&E2):=by unfold zF7;rw[dM,cP]
 rw[hF];clear hF dM cP hA hB hC hD hW hb0 e0;by_cases hi:si=ti
 ·subst hi;have g1:(si==si)=true:=by simp
  cases E1 with
  |true=>
   go_enter Tryz.func64,Tryz.ntmps64
   exact kRk
  |false=>
   go_enter Tryz.func64,Tryz.ntmps64
   exact kRk
 ·have g1:(si==ti)=false:=by simpa using hi
  clear hi;go_enter Tryz.func64,Tryz.ntmps64
  go_wp2_with(first
   |(go_at_call 63;have _g:=aA;refine Calls.mono (fF.o _ aA.o) ?_;rintro e w2 ⟨rfl,b2⟩;have aX:=hd (aA.o.trans (b2.mono aA.o.size));clear b2)
   |(go_at_call 63;rw[HW.o];refine Calls.mono (bR.o _ Kk) ?_;rintro e w1 ⟨rfl,b1⟩;have aA:=hd b1;clear b1 x0 x1 x2 x3 x4 y0 y1 y2 y3 y4;obtain⟨x0,x1,x2,x3,x4,y0,y1,y2,y3,y4⟩:=HK.o _ aA.o))
  rw[HW.o];go_ret
  exact⟨kC (by simp[g1]),ar.o⟩
theorem zUl {u v:Value}{n:NT}{p:List Int×Int}(hb:Below w.heap.size w W)(hn:zV d w w.heap.size u n)(hp:zI4 w v p):Calls Tryz.prog 57 #[u,v] W (jA (.int .i64 (zK6 n p)) W):=by
 obtain⟨A,m,c,rfl,h1,h2,_,h3⟩:=hp.later hb;exact zSt d W u n A p m c h1 h2 (hn.later hb) h3
theorem zK5 (d:Nat)(w:World)(v:Value)(n:NT)(p q:List Int×Int)(A B:Option Addr)(na nb ca cb:Nat)(hn:zV d w w.heap.size v n)(hA:zI4 w (.agg #[.slice A na ca,.int .i64 p.2]) p)(hB:zI4 w (.agg #[.slice B nb cb,.int .i64 q.2]) q):
  Calls Tryz.prog 66 #[v,.agg #[.bool true,.slice A na ca,.int .i64 p.2,.slice B nb cb,.int .i64 q.2]] w (jA (.int .i64 (zE8 n ⟨true,p,q⟩)) w):=by
 obtain⟨lf,PA,np,pc,TA,nt,tc,KA,nk,kc,rfl⟩:=hn.val;obtain⟨W0,hW⟩:∃W0,(w.alloc (.cells #[.bool lf,.slice PA np pc,.slice TA nt tc,.slice KA nk kc] 26)).alloc (.cells #[.bool true,.slice A na ca,.int .i64 p.2,.slice B nb cb,.int .i64 q.2] 33)=W0:=⟨_,rfl⟩;have hb0:Below w.heap.size w W0:=hW▸kM Kk Kl;have e0:=zK2 w (Obj.cells #[Value.bool lf,.slice PA np pc,.slice TA nt tc,.slice KA nk kc] 26) (Obj.cells #[Value.bool true,.slice A na ca,.int .i64 p.2,.slice B nb cb,.int .i64 q.2] 33);rw[hW]at e0;have HK:=hd (show∀W,Below W0.heap.size W0 W->(W.cell? ⟨w.heap.size,0,none⟩=some (.bool lf)/\W.cell? ⟨w.heap.size,1,none⟩=some (.slice PA np pc)/\W.cell? ⟨w.heap.size,2,none⟩=some (.slice TA nt tc)/\W.cell? ⟨w.heap.size,3,none⟩=some (.slice KA nk kc)/\
   W.cell? ⟨w.heap.size+1,0,none⟩=some (.bool true)/\W.cell? ⟨w.heap.size+1,1,none⟩=some (.slice A na ca)/\W.cell? ⟨w.heap.size+1,2,none⟩=some (.int .i64 p.2)/\W.cell? ⟨w.heap.size+1,3,none⟩=some (.slice B nb cb)/\W.cell? ⟨w.heap.size+1,4,none⟩=some (.int .i64 q.2))from fun W h=>by
  have h1:=zJ (kI e0.1 h);obtain⟨g0,g1,g2,g3,g4⟩:=kGy (kI e0.2 h);exact⟨h1.1,h1.2.1,h1.2.2.1,h1.2.2.2.1,g0,g1,g2,g3,g4⟩)
 obtain⟨x0,x1,x2,x3,y0,y1,y2,y3,y4⟩:=HK.o _ Kk;have HW:=hd hW;have ar:=hd hb0;obtain⟨E1,dM⟩:∃E1,zK6 n p=E1:=⟨_,rfl⟩;obtain⟨E2,cP⟩:∃E2,zK6 n q=E2:=⟨_,rfl⟩;have hF:zE8 n ⟨true,p,q⟩=if E1=0 then E2 else E1:=by unfold zE8;rw[if_neg Kc,dM,cP]
 rw[hF];have bR:=hd (fun(W:World)(h:Below W0.heap.size W0 W)=>dM▸zUl (w:=W0) (W:=W) h (hn.later hb0) (hA.later hb0));have fF:=hd (fun(W:World)(h:Below W0.heap.size W0 W)=>cP▸zUl (w:=W0) (W:=W) h (hn.later hb0) (hB.later hb0));clear hF dM cP hn hA hB hW hb0 e0;by_cases h0:E1=0
 ·subst h0;go_enter Tryz.func66,Tryz.ntmps66
  go_wp2_with(first
   |(go_at_call 57;have _g:=aA;refine Calls.mono (fF.o _ aA.o) ?_;rintro e w2 ⟨rfl,b2⟩;have aX:=hd (aA.o.trans (b2.mono aA.o.size));clear b2)
   |(go_at_call 57;rw[HW.o];refine Calls.mono (bR.o _ Kk) ?_;rintro e w1 ⟨rfl,b1⟩;have aA:=hd b1;clear b1 x0 x1 x2 x3 y0 y1 y2 y3 y4;obtain⟨x0,x1,x2,x3,y0,y1,y2,y3,y4⟩:=HK.o _ aA.o))
  go_ret
  exact⟨zAj Kc,ar.o.trans (aX.o.mono ar.o.size)⟩
 ·have g1:(E1 !=0)=true:=by simp[h0]
  rw[if_neg h0];clear h0;go_enter Tryz.func66,Tryz.ntmps66
  go_wp2_with(first
   |(go_at_call 57;rw[HW.o];refine Calls.mono (bR.o _ Kk) ?_;rintro e w1 ⟨rfl,b1⟩;have aA:=hd b1;clear b1 x0 x1 x2 x3 y0 y1 y2 y3 y4;obtain⟨x0,x1,x2,x3,y0,y1,y2,y3,y4⟩:=HK.o _ aA.o))
  go_ret
  exact⟨rfl,ar.o.trans (aA.o.mono ar.o.size)⟩
theorem zL5 (d:Nat)(w:World)(v:Value)(n:NT)(p q:List Int×Int)(A B:Option Addr)(na nb ca cb:Nat)(hn:zV d w w.heap.size v n)(hA:zI4 w (.agg #[.slice A na ca,.int .i64 p.2]) p)(hB:zI4 w (.agg #[.slice B nb cb,.int .i64 q.2]) q):
  Calls Tryz.prog 66 #[v,.agg #[.bool false,.slice A na ca,.int .i64 p.2,.slice B nb cb,.int .i64 q.2]] w (jA (.int .i64 (zE8 n ⟨false,p,q⟩)) w):=by
 obtain⟨lf,PA,np,pc,TA,nt,tc,KA,nk,kc,rfl⟩:=hn.val;obtain⟨W0,hW⟩:∃W0,(w.alloc (.cells #[.bool lf,.slice PA np pc,.slice TA nt tc,.slice KA nk kc] 26)).alloc (.cells #[.bool false,.slice A na ca,.int .i64 p.2,.slice B nb cb,.int .i64 q.2] 33)=W0:=⟨_,rfl⟩;have hb0:Below w.heap.size w W0:=hW▸kM Kk Kl;have e0:=zK2 w (Obj.cells #[Value.bool lf,.slice PA np pc,.slice TA nt tc,.slice KA nk kc] 26) (Obj.cells #[Value.bool false,.slice A na ca,.int .i64 p.2,.slice B nb cb,.int .i64 q.2] 33);rw[hW]at e0;have HK:=hd (show∀W,Below W0.heap.size W0 W->(W.cell? ⟨w.heap.size+1,0,none⟩=some (.bool false)/\W.cell? ⟨w.heap.size+1,1,none⟩=some (.slice A na ca)/\W.cell? ⟨w.heap.size+1,2,none⟩=some (.int .i64 p.2)/\W.cell? ⟨w.heap.size+1,3,none⟩=some (.slice B nb cb)/\W.cell? ⟨w.heap.size+1,4,none⟩=some (.int .i64 q.2))from fun W h=>kGy (kI e0.2 h));obtain⟨y0,y1,y2,y3,y4⟩:=HK.o _ Kk;have HW:=hd hW;have ar:=hd hb0;obtain⟨E,hE⟩:∃E,zF7 ⟨false,p,q⟩ ⟨false,([],0),([],0)⟩=E:=⟨_,rfl⟩;have HC:=hd (hE▸zL4 W0 ⟨false,p,q⟩ ⟨false,([],0),([],0)⟩ A B none none na nb 0 0 ca cb 0 0 (hA.later hb0) (hB.later hb0) (zI4.zero _) (zI4.zero _));have hF:zE8 n ⟨false,p,q⟩=if E=true then 0 else 1:=by
  unfold zE8;rw[if_pos rfl,<-hE];unfold zF7;simp
 rw[hF];clear hF hE hn hA hB hW hb0 e0;cases E<;>
 ·go_enter Tryz.func66,Tryz.ntmps66
  go_wp2_with(go_at_call 64;rw[HW.o];refine Calls.mono HC.o ?_;rintro e w1 ⟨rfl,b1⟩;have aA:=hd b1;clear b1)
  go_ret
  exact⟨rfl,ar.o.trans (aA.o.mono ar.o.size)⟩
theorem zSu {v:Value}{n:NT}{b:Bool}{p q:List Int×Int}{A B:Option Addr}{na nb ca cb:Nat}(h:Below w.heap.size w W)(hn:zV d w w.heap.size v n)(hA:zI4 w (.agg #[.slice A na ca,.int .i64 p.2]) p)(hB:zI4 w (.agg #[.slice B nb cb,.int .i64 q.2]) q):
  Calls Tryz.prog 66 #[v,.agg #[.bool b,.slice A na ca,.int .i64 p.2,.slice B nb cb,.int .i64 q.2]] W (jA (.int .i64 (zE8 n ⟨b,p,q⟩)) W):=by
 cases b
 ·exact zL5 d W v n p q A B na nb ca cb (hn.later h) (hA.later h) (hB.later h)
 ·exact zK5 d W v n p q A B na nb ca cb (hn.later h) (hA.later h) (hB.later h)
def jI (l:List Int):Bool:=l.all fun n=>decide (0<=n)&&decide (n<=1048576)
theorem zDf (l:List Int):jI l=true ↔∀k,k<l.length->0<=iAt l k/\iAt l k<=1048576:=by
 unfold jI;simp only[List.all_eq_true,Bool.and_eq_true,decide_eq_true_iff];constructor
 ·intro h k hk;rw[jY l k hk];exact h _ (List.getElem_mem hk)
 ·intro h x hx;obtain⟨k,hk,rfl⟩:=List.getElem_of_mem hx;have:=h k hk;rwa[jY l k hk]at this
theorem zQx (l:List Int)(k:Nat)(hk:k<l.length)(h:¬(0<=iAt l k/\iAt l k<=1048576)):jI l=false:=by
 cases e:jI l
 ·rfl
 ·exact absurd ((zDf l).1 e k hk) h
def zE9 (n:Int):Bool:=decide (0<=n)&&decide (n<=1048576)
theorem zN2 (n:Int):jI [n]=zE9 n:=by simp[jI,zE9]
theorem zKd (n:Int):zE9 n=true ↔ 0<=n/\n<=1048576:=by simp[zE9]
def addL (l:List Int)(k:Nat)(v:Int):List Int:=l.set k (iAt l k+v)
theorem zJe (l:List Int)(k:Nat)(v:Int):(addL l k v).length=l.length:=by simp[addL]
theorem zSv (l:List Int)(k:Nat)(v:Int)(h:k<l.length):iAt (addL l k v) k=iAt l k+v:=by
 rw[jY _ k (by rw[zJe];exact h)];simp[addL]
theorem zYu (l:List Int)(k j:Nat)(v:Int)(h:j≠k):iAt (addL l k v) j=iAt l j:=by
 unfold iAt addL;rw[List.getD_eq_getElem?_getD,List.getD_eq_getElem?_getD,List.getElem?_set_ne Kb]
theorem zL1 {l m:List Int}(h:l.length=m.length)(h2:∀k,k<l.length->iAt l k=iAt m k):l=m:=by
 apply List.ext_getElem h;intro i h3 h4;have:=h2 i h3;rwa[jY l i h3,jY m i h4]at this
def plusL (l:List Int)(k:Nat):List Int->List Int
 |[]=>l
 |v::by_=>plusL (addL l k v) (k+1) by_
theorem zJf (by_:List Int):∀(l:List Int)(k:Nat),(plusL l k by_).length=l.length:=by
 induction by_ with
 |nil=>intro l k;rfl
 |cons v r ih=>intro l k;rw[plusL,ih,zJe]
theorem zVx (r:List Int)(v:Int):∀(l:List Int)(k:Nat),plusL l k (r++[v])=addL (plusL l k r) (k+r.length) v:=by
 induction r with
 |nil=>intro l k;rfl
 |cons x r ih=>intro l k;rw[List.cons_append,plusL,plusL,ih];rw[show k+1+r.length=k+(x::r).length by simp;omega]
theorem zVy (by_:List Int)(l:List Int)(k n:Nat)(hn:n<by_.length):plusL l k (by_.take (n+1))=addL (plusL l k (by_.take n)) (k+n) (iAt by_ n):=by
 rw[List.take_add_one,List.getElem?_eq_getElem hn];simp only[Option.toList_some];rw[zVx,jY by_ n hn];congr 2
 simp;omega
theorem zN3 (by_:List Int):∀(l:List Int)(k j:Nat),k+by_.length<=j->iAt (plusL l k by_) j=iAt l j:=by
 induction by_ with
 |nil=>intro l k j h;rfl
 |cons v r ih=>intro l k j h;simp at h;rw[plusL,ih _ _ _ Kb,zYu _ _ _ _ Kb]
def zX (q p:List Int):Int:=if zFg q p then 1 else if zEd q p then 2 else if zBu q p then 3 else 0
theorem zIv (q p:List Int):zX q p=1 ↔ zFg q p=true:=by unfold zX;split<;>rename_i h<;>simp[h];split<;>(try split)<;>simp
theorem zYv (p:List Int):zFg p p=false:=by
 cases h:zFg p p
 ·rfl
 ·rw[zEe]at h;omega
theorem zVz (h:zBu q p=true):zFg q p=false:=by
 cases h2:zFg q p
 ·rfl
 ·rw[zEe]at h2;rw[zE0,<-zDg]at h;omega
theorem kI1 (h:zBu q p=true):zEd q p=false:=by
 cases h2:zEd q p
 ·rfl
 ·unfold zEd at h2;rw[of_decide_eq_true h2]at h;rw[zE0]at h;omega
theorem zAt (q p:List Int):(zX q p=1/\zFg q p=true/\zEd q p=false/\zBu q p=false)∨(zX q p=2/\zFg q p=false/\zEd q p=true/\zBu q p=false)∨(zX q p=3/\zFg q p=false/\zEd q p=false/\zBu q p=true)∨(zX q p=0/\zFg q p=false/\zEd q p=false/\zBu q p=false):=by
 unfold zX;cases h1:zFg q p
 ·cases h2:zEd q p
  ·cases h3:zBu q p
   ·simp
   ·simp
  ·have:q=p:=by unfold zEd at h2;exact of_decide_eq_true h2
   subst this;have:zBu q q=false:=by
    cases h3:zBu q q
    ·rfl
    ·rw[zE0]at h3;omega
   simp[this]
 ·have h2:zEd q p=false:=by
   cases h2:zEd q p
   ·rfl
   ·unfold zEd at h2;rw[of_decide_eq_true h2,zYv]at h1;cases h1
  have h3:zBu q p=false:=by
   cases h3:zBu q p
   ·rfl
   ·rw[zVz h3]at h1;cases h1
  simp[h2,h3]
def noR :List Int×Bool:=([],false)
def jH (k:Int)(q:List Int)(pos:Int)(p:List Int):List Int×Bool:=
 if q.length=0 then(p,true)
 else if k=1 then(if zX q p=0 then(p,true)else(plusL p (q.length-1) [1],true))
 else if k=2 then(if zX q p=0 then(p,true)else if zX q p=1 then(plusL p (q.length-1) [-1],true)else noR)
 else if k=3 then(if lastL q=0 then noR else if zX q p=0 then(p,true)else if zX q p=3 then(plusL p (q.length-1) [-1,pos],true)else(plusL p (q.length-1) [-1],true))
 else if k=4 then(if zX q p=1 then(plusL p (q.length-1) [1],true)else if zX q p=3/\pos<=iAt p q.length then(plusL p (q.length-1) [1,-pos],true)else(p,true))
 else(p,true)
def jF (k:Int)(q t:List Int)(pos:Int)(p:List Int):List Int×Bool:=
 if jI p&&jI q&&jI t&&zE9 pos then
  if k=5/\q.length≠0 then(if zX q p=2∨zX q p=3 then(t++p.drop q.length,true)else jH 1 t 0 (jH 2 q 0 p).1)
  else jH k q pos p
 else noR
theorem kCo (a b:List Int)(k:Nat)(h1:k<=a.length)(h2:k<=b.length)(h:∀j,j<k->iAt a j=iAt b j):k<=kO a b:=by
 rcases Nat.lt_or_ge (kO a b) k with hl|hg
 ·exact absurd (h _ hl) (zQl a b Kb Kb)
 ·exact hg
theorem zIt (hk:q.length=k+1):zX q p=1 ↔ k<p.length/\(∀j,j<k->iAt q j=iAt p j)/\iAt q k<iAt p k:=by
 rw[zIv,zEe];constructor
 ·rintro⟨h1,h2,h3⟩;have e:kO q p=k:=Kb;rw[e]at h2 h3;exact⟨h2,fun j hj=>zGp q p j Kb,h3⟩
 ·rintro⟨h1,h2,h3⟩;have e:kO q p=k:=zEc q p k Kb Kb h2 (fun _ _=>by omega);rw[e];exact⟨by omega,h1,h3⟩
theorem zCw :zX q p=2 ↔ q=p:=by
 rcases zAt q p with⟨h0,_,h2,_⟩|⟨h0,_,h2,_⟩|⟨h0,_,h2,_⟩|⟨h0,_,h2,_⟩
 ·rw[h0];unfold zEd at h2;have:=of_decide_eq_false h2;simp[this]
 ·rw[h0];unfold zEd at h2;have:=of_decide_eq_true h2;simp[this]
 ·rw[h0];unfold zEd at h2;have:=of_decide_eq_false h2;simp[this]
 ·rw[h0];unfold zEd at h2;have:=of_decide_eq_false h2;simp[this]
theorem zL6 :zX q p=3 ↔ q.length<p.length/\∀j,j<q.length->iAt q j=iAt p j:=by
 have hx:zBu q p=true ↔ q.length<p.length/\∀j,j<q.length->iAt q j=iAt p j:=by
  rw[zE0];constructor
  ·rintro⟨h1,h2⟩;exact⟨h1,fun j hj=>zYj h2 hj⟩
  ·rintro⟨h1,h2⟩;refine⟨h1,(zDg q p).1 ?_⟩;have:=kCo q p q.length Kl Kb h2;have:=(zHf q p).1;omega
 rw[<-hx];rcases zAt q p with⟨h0,_,_,h2⟩|⟨h0,_,_,h2⟩|⟨h0,_,_,h2⟩|⟨h0,_,_,h2⟩<;>simp[h0,h2]
theorem zJg (hk:q.length=k+1)(h:zX q p=2∨zX q p=3):k<p.length/\∀j,j<k+1->iAt q j=iAt p j:=by
 rcases h with h|h
 ·rw[zCw]at h;subst h;exact⟨by omega,fun _ _=>rfl⟩
 ·rw[zL6]at h;exact⟨by omega,fun j hj=>h.2 j Kb⟩
theorem zE6 (hk:q.length=k+1):zX q p≠0 ↔ k<p.length/\(∀j,j<k->iAt q j=iAt p j)/\iAt q k<=iAt p k:=by
 constructor
 ·intro h;rcases zAt q p with⟨h0,_⟩|⟨h0,_⟩|⟨h0,_⟩|⟨h0,_⟩
  ·have:=(zIt hk).1 h0;exact⟨this.1,this.2.1,by omega⟩
  ·have:=zJg hk (.inl h0);exact⟨this.1,fun j hj=>this.2 j Kb,by have:=this.2 k Kb;omega⟩
  ·have:=zJg hk (.inr h0);exact⟨this.1,fun j hj=>this.2 j Kb,by have:=this.2 k Kb;omega⟩
  ·exact absurd h0 h
 ·rintro⟨h1,h2,h3⟩ h0;have g1:zX q p≠1:=Kb;have g2:zX q p≠2:=Kb;have g3:zX q p≠3:=Kb;rw[Ne,zIt hk]at g1;have e:iAt q k=iAt p k:=by
   rcases Int.lt_or_le (iAt q k) (iAt p k)with h|h
   ·exact absurd ⟨h1,h2,h⟩ g1
   ·omega
  have ea:∀j,j<k+1->iAt q j=iAt p j:=fun j hj=>by
   rcases(show j<k∨j=k by omega)with h|rfl
   ·exact h2 j h
   ·exact e
  rcases(show k+1=p.length∨k+1<p.length by omega)with h|h
  ·rw[Ne,zCw]at g2;exact g2 (zL1 Kb (fun j hj=>ea j Kb))
  ·rw[Ne,zL6]at g3;exact g3 ⟨by omega,fun j hj=>ea j Kb⟩
theorem zF4 (q p:List Int):zX q p=0∨zX q p=1∨zX q p=2∨zX q p=3:=by
 rcases zAt q p with⟨h,_⟩|⟨h,_⟩|⟨h,_⟩|⟨h,_⟩<;>omega
theorem zOv (l:List Int)(k:Nat)(v:Int):plusL l k [v]=addL l k v:=rfl
theorem plus2 (l:List Int)(k:Nat)(v u:Int):plusL l k [v,u]=addL (addL l k v) (k+1) u:=rfl
theorem kFe (hk:q.length=k+1):jH 1 q 0 p=(if zX q p=0 then p else addL p k 1,true):=by
 unfold jH;rw[if_neg Kb,if_pos rfl,hk];split<;>rfl
theorem zQs (hk:q.length=k+1):jH 2 q 0 p=if zX q p=0 then(p,true)else if zX q p=1 then(addL p k (-1),true)else noR:=by
 unfold jH;rw[if_neg Kb,if_neg Kd,if_pos rfl,hk];rfl
theorem kCp (hk:q.length=k+1)(hq:jI q=true):zBg q=(addL q k 1,0):=by
 have q0:=(zDf q).1 hq k Kb;have hl:lastL q=iAt q k:=by rw[lastL,hk,Nat.add_sub_cancel]
 unfold zBg;rw[if_neg Kb,hl,if_neg Kb];unfold sib addL;rw[hk,Nat.add_sub_cancel]
theorem zHi (x:Int)(q:List Int):zX (x::q) []=0:=by
 rcases Classical.em (zX (x::q) []=0)with h|h
 ·exact h
 ·have:=((zE6 (k:=q.length) Kc).1 h).1;simp at this
theorem zF5 (x:Int)(q:List Int)(y:Int)(p:List Int)(hq:q≠[]):zX (x::q) (y::p)=if x=y then zX q p else 0:=by
 obtain⟨k,hk⟩:∃k,q.length=k+1:=⟨q.length-1,by have:=List.length_pos_iff.2 hq;omega⟩;by_cases e:x=y
 ·subst e;rw[if_pos rfl];unfold zX;have e1:zFg (x::q) (x::p)=zFg q p:=by
   unfold zFg;simp[kO,iAt]
  have e2:zEd (x::q) (x::p)=zEd q p:=by unfold zEd;simp
  rw[e1,e2,zIs]
 ·rw[if_neg e];rcases Classical.em (zX (x::q) (y::p)=0)with h|h
  ·exact h
  ·have:=((zE6 (k:=k+1) (by simp[hk])).1 h).2.1 0 Kb;simp[iAt]at this;exact absurd this e
theorem zL2 (x y:Int)(p:List Int):(zX [x] (y::p)=0 ↔ y<x)/\(zX [x] (y::p)=1 ↔ x<y):=by
 have h1:=zE6 (q:=[x]) (p:=y::p) (k:=0) rfl;have h2:=zIt (q:=[x]) (p:=y::p) (k:=0) rfl;simp[iAt]at h1 h2;exact⟨⟨fun h=>by omega,fun h=>by omega⟩,h2⟩
theorem jD {x:List Int}(h:jF K q t pos p=(x,true))(hK:K≠5):jH K q pos p=(x,true):=by
 unfold jF at h;split at h
 ·rw[if_neg (fun h=>hK h.1)]at h;exact h
 ·cases h
theorem zJc (hK:K=1∨K=2):jH K q pos p=jH K q 0 p:=by rcases hK with rfl|rfl<;>rfl
theorem zL7 :(jH K q pos p).1.length<=p.length:=by
 unfold jH;repeat' split
 all_goals simp[noR,zJf]
theorem zQy :(jF K q t pos p).1.length<=p.length+t.length:=by
 unfold jF;split
 ·split
  ·split
   ·simp;omega
   ·have h1:=zL7 (K:=1) (pos:=0) (q:=t) (p:=(jH 2 q 0 p).1);have h2:=zL7 (K:=2) (pos:=0) (q:=q) (p:=p);omega
  ·have:=zL7 (K:=K) (pos:=pos) (q:=q) (p:=p);omega
 ·simp[noR]
structure OpP where
 k:Int
 q:List Int
 t:List Int
 z:Int
 n:NT
 o:List Pr
 w:List Pr
 x:List Int
 f:Sl
 g:Sl
def zeroS :Sl:=⟨false,([],0),([],0)⟩
def zeroO :OpP:=⟨0,[],[],0,zeroT,[],[],[],zeroS,zeroS⟩
noncomputable def eqO (a b:OpP):Bool:=@decide (a=b) (Classical.propDecidable _)
theorem kCq (a:OpP):eqO a a=true:=by unfold eqO;exact@decide_eq_true _ (Classical.propDecidable _) rfl
theorem zSw {a b:OpP}(h:a=b):eqO a b=true:=by subst h;exact kCq a
theorem kJz {a b:OpP}(h:a≠b):eqO a b=false:=by unfold eqO;exact@decide_eq_false _ (Classical.propDecidable _) h
theorem kFf {a b:OpP}(h:eqO a b=true):a=b:=by
 rcases Classical.em (a=b)with e|e
 ·exact e
 ·rw[kJz e]at h;cases h
theorem zSx (a b:OpP):eqO a b=true ↔ a=b:=⟨kFf,zSw⟩
theorem zIw (a b:NT):eqT a b=true ↔ a=b:=⟨fun h=>Classical.byContradiction fun e=>(by rw[zUx e]at h;cases h),zPc⟩
theorem zC4 (s t:Sl):zF7 s t=true ↔ s=t:=by
 obtain⟨a,b,c⟩:=s;obtain⟨d,e,f⟩:=t;simp[zF7,samP,and_assoc]
theorem zYw (a b:OpP):eqO a b=(a.k==b.k&&zEd a.q b.q&&zEd a.t b.t&&(a.z==b.z)&&eqT a.n b.n&&decide (a.o=b.o)&&decide (a.w=b.w)&&sameL a.x b.x&&zF7 a.f b.f&&zF7 a.g b.g):=by
 rw[Bool.eq_iff_iff,zSx];simp only[Bool.and_eq_true,beq_iff_eq,zIw,zC4,zEd,sameL,decide_eq_true_iff];obtain⟨a1,a2,a3,a4,a5,a6,a7,a8,a9,wn⟩:=a;obtain⟨b1,b2,b3,b4,b5,b6,b7,b8,b9,pL⟩:=b;simp only[OpP.mk.injEq,and_assoc]
def zA0 (k:Int):Int:=if k=1 then 2 else if k=2 then 1 else if k=3 then 4 else if k=4 then 3 else if k=5 then 5 else if k=6 then 6 else if k=7 then 8 else if k=8 then 7 else if k=9 then 9 else 0
def kindB (k:Int):Bool:=decide (1<=k)&&decide (k<=9)
theorem zV0 {k:Int}(h:1<=k)(h2:k<=9):k=1∨k=2∨k=3∨k=4∨k=5∨k=6∨k=7∨k=8∨k=9:=Kb
theorem zH7 (k:Int):zA0 k=0 ↔ kindB k=false:=by
 by_cases h1:1<=k
 ·by_cases h2:k<=9
  ·rcases zV0 h1 h2 with rfl|rfl|rfl|rfl|rfl|rfl|rfl|rfl|rfl<;>decide
  ·simp only[zA0,kindB,decide_eq_false h2,Bool.and_false,iff_true];rw[if_neg Kb,if_neg Kb,if_neg Kb,if_neg Kb,if_neg Kb,if_neg Kb,if_neg Kb,if_neg Kb,if_neg Kb]
 ·simp only[zA0,kindB,decide_eq_false h1,Bool.false_and,iff_true];rw[if_neg Kb,if_neg Kb,if_neg Kb,if_neg Kb,if_neg Kb,if_neg Kb,if_neg Kb,if_neg Kb,if_neg Kb]
def jB (o:OpP):OpP:=
 if o.k=1 then{o with q:=[],n:=zeroT}else if o.k=2 then{o with q:=[],n:=zeroT}else if o.k=3 then{o with q:=[],z:=0,o:=[]}else if o.k=4 then{o with q:=[],z:=0,w:=[]}else
 if o.k=5 then{o with q:=[],t:=[]}else if o.k=6 then{o with q:=[],o:=[],w:=[]}else if o.k=7 then{o with q:=[],z:=0,x:=[]}else if o.k=8 then{o with q:=[],z:=0,x:=[]}else if o.k=9 then{o with f:=zeroS,g:=zeroS}else o
def fieldsO (o:OpP):OpP:=
 if o.k=1 then{zeroO with k:=o.k,q:=o.q,n:=o.n}else if o.k=2 then{zeroO with k:=o.k,q:=o.q,n:=o.n}else if o.k=3 then{zeroO with k:=o.k,q:=o.q,z:=o.z,o:=o.o}else if o.k=4 then{zeroO with k:=o.k,q:=o.q,z:=o.z,w:=o.w}else
 if o.k=5 then{zeroO with k:=o.k,q:=o.q,t:=o.t}else if o.k=6 then{zeroO with k:=o.k,q:=o.q,o:=o.o,w:=o.w}else if o.k=7 then{zeroO with k:=o.k,q:=o.q,z:=o.z,x:=o.x}else if o.k=8 then{zeroO with k:=o.k,q:=o.q,z:=o.z,x:=o.x}else if o.k=9 then{zeroO with k:=o.k,f:=o.f,g:=o.g}else{zeroO with k:=o.k,q:=o.q}
noncomputable def bareB (o:OpP):Bool:=eqO o {zeroO with k:=o.k}
noncomputable def zCx (o:OpP):Int:=if zA0 o.k=0 then 1 else if bareB (jB o)=true then 0 else 1
theorem zSy (o:OpP)(h:kindB o.k=true):bareB (jB o)=eqO (fieldsO o) o:=by
 simp only[kindB,Bool.and_eq_true,decide_eq_true_iff]at h;rw[Bool.eq_iff_iff,bareB,zSx,zSx];obtain⟨k,q,t,z,n,o,w,x,f,g⟩:=o;simp only at h;rcases zV0 h.1 h.2 with rfl|rfl|rfl|rfl|rfl|rfl|rfl|rfl|rfl<;>(constructor<;>(intro h;simp[jB,fieldsO,zeroO]at h⊢;(try simp only[@eq_comm _ zeroS,@eq_comm _ zeroT,@eq_comm _ (0:Int)]at h);simp[h]))
theorem zL8 (o:OpP):zCx o=if(kindB o.k&&eqO (fieldsO o) o)=true then 0 else 1:=by
 unfold zCx;cases h:kindB o.k
 ·rw[if_pos ((zH7 _).2 h)];rfl
 ·rw[if_neg (fun e=>by rw[(zH7 _).1 e]at h;cases h),zSy o h];simp
theorem zSz (o:OpP):zCx o=0∨zCx o=1:=by unfold zCx;split<;>(try split)<;>simp
theorem zOy {o:OpP}(h:zCx o=0):kindB o.k=true/\fieldsO o=o:=by
 rw[zL8]at h;split at h
 ·rename_i hh
  rw[Bool.and_eq_true]at hh;exact⟨hh.1,kFf hh.2⟩
 ·cases h
def zAp (o:OpP):OpP×Int:=
 if o.k=3 then(if(jV o.q).2=0 then({o with k:=4,q:=(jV o.q).1,o:=o.w,w:=o.o},0)else(zeroO,(jV o.q).2))else
 if o.k=4 then(if(zBg o.q).2=0 then({o with k:=3,q:=(zBg o.q).1,o:=o.w,w:=o.o},0)else(zeroO,(zBg o.q).2))else
 if o.k=6 then({o with k:=6,o:=o.w,w:=o.o},0)else if o.k=5 then({o with k:=5,q:=o.t,t:=o.q},0)else if o.k=9 then({o with k:=9,f:=o.g,g:=o.f},0)else({o with k:=zA0 o.k},0)
noncomputable def zGl (o:OpP):OpP×Int:=if zCx o=0 then zAp o else(zeroO,1)
open Go.WideShapes (add_plain)
theorem kQf {P:Prop}(h:P:=by
 clear HA;go_wp2
 go_ret
 exact kW (zA3 (by rw[HF.o])) Ki):P:=h
theorem zXf (A:Option Addr)(l:List Int)(n c:Nat)(w:World)(hn:l.length=n)(hl:n<=9223372036854775807)(hp:IL w w.heap.size A l):
  Calls Tryz.prog 82 #[.slice A n c] w (zHa (.bool (jI l)) w):=by
 have HP:=hd hp;have HN:=hd hn;clear hp hn;go_enter Tryz.func82,Tryz.ntmps82
 go_wp2
 go_loopw [7] (fun i wr=>∃k:Nat,k<=n/\i=.int .i64 k/\(∃m,wr=w.drewN m)/\Kq (∀j,j<k->0<=iAt l j/\iAt l j<=1048576)) (fun i _=>n-(intOf i).toNat)
 case atStart=>exact⟨0,Nat.zero_le _,rfl,⟨0,rfl⟩,fun j hj=>absurd hj (Nat.not_lt_zero _)⟩
 case round=>
  obtain⟨k,hk,rfl,⟨kd,rfl⟩,HA⟩:=hrel;by_cases hlt:k<n
  ·obtain⟨b1,o1,rfl,aY,c1⟩:=HP.o.at_ (show k<l.length by have:=HN.o;omega);by_cases h1:iAt l k<0
   ·have HF:=hd (zQx l k (by have:=HN.o;omega) Kb);exact kQf
   ·by_cases h2:1048576<iAt l k
    ·have HF:=hd (zQx l k (by have:=HN.o;omega) Kb);exact kQf
    ·have HB:=zBm (p:=fun j=>0<=iAt l j/\iAt l j<=1048576) HA ⟨by omega,by omega⟩;clear HA;go_wp2
     go_roundw
     case rel=>exact⟨k+1,by omega,by first|go_num|rfl,Ki,HB⟩
     case measure=>first|(simp[intOf];done)|(simp[intOf];omega)
  ·have HF:=hd ((zDf l).2 (fun j hj=>HA.o j (by have:=HN.o;omega)));exact kQf
theorem kA9 (A B:Option Addr)(l m:List Int)(n k c d:Nat)(w:World)(hn:l.length=n)(hk:m.length=k)(hl:n<=1000000)(hm:k<=1000000)(hp:IL w w.heap.size A l)(hq:IL w w.heap.size B m):
  Calls Tryz.prog 84 #[.slice A n c,.slice B k d] w (zHa (.int .i64 (zX l m)) w):=by
 subst hn hk;have HL:=hd (fun j=>kAs A B l m c d (w.drewN j) Kb Kb hp hq);have HS:=hd (fun j=>zQi A B l m c d (w.drewN j) Kb Kb hp hq);have HA:=hd (fun j=>zYe A B l m c d (w.drewN j) Kb Kb hp hq);clear hp hq;rcases zAt l m with⟨h0,h1,h2,h3⟩|⟨h0,h1,h2,h3⟩|⟨h0,h1,h2,h3⟩|⟨h0,h1,h2,h3⟩;all_goals
  rw[h1]at HL
  rw[h2]at HS
  rw[h3]at HA
  have H0:=hd h0
  clear h0 h1 h2 h3
  go_enter Tryz.func84,Tryz.ntmps84
  go_wp2_with(first
   |(go_at_call 115;refine Calls.mono (HL.o 0) ?_;rintro e w1 ⟨rfl,j1,rfl⟩)
   |(go_at_call 23;refine Calls.mono (HS.o _) ?_;rintro e w1 ⟨rfl,j2,rfl⟩)
   |(go_at_call 116;refine Calls.mono (HA.o _) ?_;rintro e w1 ⟨rfl,j3,rfl⟩))
  go_ret
  exact kW (zF2 (by rw[H0.o])) (by first|exact⟨_,rfl⟩|(simp only[World.drewN_drewN];exact⟨_,rfl⟩))
theorem zXg :madeCells #[Value.int .i64 0] 0=#[]:=by simp[madeCells,Array.range]
theorem zXh (A:Option Addr)(l:List Int)(n c:Nat)(w:World)(hn:l.length=n)(hl:n<=1000)(hp:IL w w.heap.size A l):
  Calls Tryz.prog 77 #[.slice A n c] w (zVq w l):=by
 have HP:=hd hp;have HN:=hd hn;clear hp hn;rcases A with _|a
 ·have hnil:=fun W=>Go.Lib.run_eql_slice_nil (P:=Tryz.prog) W 27 3 none n c 0 0 Tryz.underlying27;have HL:=hd (show l=[] by
   rcases Classical.em (l=[])with h|h
   ·exact h
   ·obtain⟨_,_,h,_⟩:=HP.o h;cases h)
  go_enter Tryz.func77,Tryz.ntmps77
  go_wp2
  go_ret
  exact⟨_,rfl,by rw[HL.o];exact zBt.nil _ _,Below.refl _ _⟩
 ·have hnil:=fun W=>Go.Lib.run_eql_slice_nil (P:=Tryz.prog) W 27 3 (some a) n c 0 0 Tryz.underlying27;go_enter Tryz.func77,Tryz.ntmps77
  have HO:=hd (show zBt (w.alloc (.cells #[] 3)) w.heap.size (.slice (some ⟨w.heap.size,0,none⟩) 0 0) []from zXg▸zBt.made w w.heap.size 0 Kb Kl);go_wp2_with(at_builtin;(refine zCf _ rfl (.tmp 5) (.tmp 6) rfl w.heap.size (.slice (some ⟨w.heap.size,0,none⟩) 0 0) [] l rfl HO.o (some a) n c w.heap.size rfl HN.o (HP.o.below (Kk.alloc Kl _)) (by have:=HN.o;simp;omega) Kc ?_;intro v' w1 aB hg1))
  go_ret
  exact⟨v',rfl,by simpa using aB,hg1.below _ _ Kl Kc (Kk.alloc Kl _)⟩
theorem kEm (A B:Option Addr)(l r:List Int)(n m k c d:Nat)(w:World)(hn:l.length=n)(hm:r.length=m)(hl:n<=1000)(hk:m≠0->k+m<=n)(hL:∀j,j<n-> -4000000<=iAt l j/\iAt l j<=4000000)(hR:∀j,j<m-> -4000000<=iAt r j/\iAt r j<=4000000)(hp:IL w w.heap.size A l)(hq:IL w w.heap.size B r):
  Calls Tryz.prog 83 #[.slice A n c,.int .i64 k,.slice B m d] w (zVq w (plusL l k r)):=by
 have HC:=hd (zXh A l n c w hn hl hp);have HN:=hd hn;have HM:=hd hm;have HL:=hd hL;have HR:=hd hR;have HQ:=hd hq;have rc:=hd (fun j=>zJf (r.take j) l k);clear hn hm hL hR hp hq;go_enter Tryz.func83,Tryz.ntmps83
 go_wp2_with(go_at_call 77;refine Calls.mono HC.o ?_;rintro e w1 ⟨v1,rfl,ho,hb⟩;obtain⟨A1,c1,rfl,h1,h2⟩:=ho.open_at n HN.o;have HO:=hd ho;have HB:=hd hb;clear h2 ho hb)
 go_loopw [14] (fun i wr=>∃j:Nat,j<=m/\i=.int .i64 j/\Kq (zBt wr w.heap.size (.slice A1 n c1) (plusL l k (r.take j)))/\Kq (Below w.heap.size w wr)) (fun i _=>m-(intOf i).toNat)
 case atStart=>exact⟨0,Nat.zero_le _,rfl,HO,HB⟩
 case round=>
  obtain⟨j,hj,rfl,uf,rf⟩:=hrel;by_cases hlt:j<m
  ·have hk:=hk Kb;obtain⟨b2,o2,rfl,hl2,e2⟩:=(HQ.o.below rf.o).at_ (show j<r.length by have:=HM.o;omega);obtain⟨g,c2,e,g1,g2,g3,g4,g5,g6,g7⟩:=uf.o.form (by rw[rc.o,HN.o];omega);rw[rc.o,HN.o]at e;injection e with ea _ ec;subst ea ec;have e3:=g5 (k+j) (by rw[rc.o,HN.o];omega);rw[zN3 _ _ _ _ (by rw[List.length_take];have:=HM.o;omega)]at e3;have e4:=g6 (k+j);have H7:=hd (g7 (k+j) (iAt l (k+j)+iAt r j));have b3:=HL.o (k+j) Kb;have b4:=HR.o j hlt;have HX:=hd (show plusL l k (r.take (j+1))=(plusL l k (r.take j)).set (k+j) (iAt l (k+j)+iAt r j) by
    rw[zVy _ _ _ _ (by have:=HM.o;omega),addL,zN3 _ _ _ _ (by rw[List.length_take];have:=HM.o;omega)])
   have aX:=hd (rf.o.setCell g3 (p:=⟨g,k+j,none⟩) (.int .i64 (iAt l (k+j)+iAt r j)));clear g1 g2 g5 g6 g7;go_wp2
   go_roundw
   case rel=>exact⟨j+1,by omega,by first|go_num|rfl,hd (by rw[HX.o];exact H7.o),aX⟩
   case measure=>first|(simp[intOf];done)|(simp[intOf];omega)
  ·obtain rfl:j=m:=Kb;have HX:=hd (show r.take j=r by rw[<-HM.o,List.take_length]);go_wp2
   go_ret
   exact⟨_,rfl,by have:=uf.o;rwa[HX.o]at this,rf.o⟩
theorem kBa (n:Nat)(h0:0<n)(hn:n<=10000)(w:World)(ty:TypeId):∃cap cells,(Builtin.append_ #[27,3] ty #[.slice none 0 0,.int .i64 n]).run Tryz.prog w=.ok (.slice (some ⟨w.heap.size,0,none⟩) n cap) (w.drew.alloc (.cells cells 3))/\n<=cap/\cap<=maxLen/\cells.size=cap:=by
 obtain⟨i0,hi,hz0,hz1,hz2⟩:=info_parts zSm;have hc:=grownCap_ge w n 0 3;refine⟨_,_,Lib.run_append_nil_zeros w 27 3 ty 3 i0 _ .i64 .i64 Tryz.underlying27 Tryz.underlying3 hi hz0 n h0 Kb Kb (by rw[hz2];omega),hc,grownCap_le_maxLen w n 0 _ Kg,?_⟩;simp[Builtin.zeroCells,Value.cells];omega
theorem kEn (n:Nat)(w:World)(hn:n<=10000):Calls Tryz.prog 117 #[.slice none 0 0,.int .i64 n] w (zVq w []):=by
 by_cases h0:0<n
 ·obtain⟨cap,cells,hrun,h1,h2,h3⟩:=kBa n h0 hn w 27;have H3:=hd h3;have l9:=hd hrun;have ra:(0:Int)<n:=Kb;clear h3 hrun;go_enter Tryz.func117,Tryz.ntmps117
  go_wp2_with(at_builtin;refine Lib.wpList_append_run _ rfl (.tmp 20) (.tmp 21) _ _ rfl (.slice none 0 0) (.int .i64 n) rfl rfl _ _ l9.o ?_)
  go_ret
  exact⟨_,rfl,zBt.of_own (World.ownsRow_made w.drew cells cap Kl h2 (by rw[H3.o];simp)) rfl,((zZ Kk 1).alloc Kl _)⟩
 ·obtain rfl:n=0:=Kb;go_enter Tryz.func117,Tryz.ntmps117
  go_wp2
  go_ret
  exact⟨_,rfl,zBt.nil _ _,Below.refl _ _⟩
def zR8 (L:Nat->List Int):Nat->List Int
 |0=>[]
 |k+1=>zR8 L k++L k
theorem kEo (L:Nat->List Int)(N:Nat)(h:∀k,k<N->(L k).length<=1000)(k:Nat)(hk:k<=N):(zR8 L k).length<=k*1000:=by
 induction k with
 |zero=>simp[zR8]
 |succ k ih=>
  have:=ih Kb;have:=h k Kb;simp[zR8];omega
theorem zXi (b o N c:Nat)(As:Nat->Option Addr)(L:Nat->List Int)(cs:Nat->Nat)(w:World)(hN:N<=4)(hlen:∀k,k<N->(L k).length<=1000)(hcell:∀k,k<N->w.cell? ⟨b,o+k,none⟩=some (.slice (As k) (L k).length (cs k)))(hb:b<w.heap.size)
  (hv:∀k,k<N->IL w w.heap.size (As k) (L k)):Calls Tryz.prog 85 #[.slice (some ⟨b,o,none⟩) N c] w (zVq w (zR8 L N)):=by
 have HL:=hd hlen;have HC:=hd hcell;have HV:=hd hv;have HT:=hd (kEo L N hlen);clear hlen hcell hv;go_enter Tryz.func85,Tryz.ntmps85
 go_wp2
 go_loop [3,11] (fun s i=>∃k:Nat,k<=N/\i=.int .i64 k/\s=.int .i64 (zR8 L k).length) (fun _ i=>N-(intOf i).toNat)
 case atStart=>exact⟨0,Nat.zero_le _,rfl,rfl⟩
 case round=>
  obtain⟨k,hk,rfl,rfl⟩:=hrel;have ht:=HT.o k hk;have ht2:k*1000<=4000:=Kb;by_cases hlt:k<N
  ·have hc:=HC.o k hlt;have hl:=HL.o k hlt;have HX:=hd (show((zR8 L (k+1)).length:Int)=(zR8 L k).length+(L k).length by simp[zR8]);go_wp2
   go_round
   case rel=>exact⟨k+1,by omega,by go_num,by rw[HX.o]⟩
   case measure=>simp[intOf];omega
  ·obtain rfl:k=N:=Kb;clear hlt;go_wp2_with fail
   refine(kEn (zR8 L k).length w Kb).mono ?_;rintro e w1 ⟨v1,rfl,aB,hb1⟩;have iM:=hd (show zBt w1 w.heap.size v1 (zR8 L 0)from aB);clear aB;go_wp2_with fail
   go_loopw [6,27] (fun v i wr=>∃j:Nat,j<=k/\i=.int .i64 j/\Kq (zBt wr w.heap.size v (zR8 L j))/\Below w.heap.size w wr) (fun _ i _=>k-(intOf i).toNat)
   case atStart=>exact⟨0,Nat.zero_le _,rfl,iM,hb1⟩
   case round=>
    obtain⟨j,hj,rfl,ho,hbr⟩:=hrel;by_cases hlt:j<k
    ·have hc:=(hbr.cell (p:=⟨b,o+j,none⟩) hb).trans (HC.o j hlt);have rh:=hd ((HV.o j hlt).below hbr);have hl:=HL.o j hlt;have wC:=HT.o j hj;have hl2:(zR8 L j).length+(L j).length<=10000:=Kb;go_wp2_with(at_builtin;refine zCf _ rfl (.tmp 31) (.tmp 32) rfl w.heap.size _ (zR8 L j) (L j) rfl ho.o (As j) (L j).length (cs j) w.heap.size rfl rfl rh.o hl2 hbr.size ?_;intro v2 w2 ay hg2)
     have iN:=hd (show zBt w2 w.heap.size v2 (zR8 L (j+1))from ay);have hb2:=hg2.below w.heap.size w Kl hbr.size hbr;clear ay;go_roundw
     case rel=>exact⟨j+1,by omega,by go_num,iN,hb2⟩
     case measure=>simp[intOf];omega
    ·obtain rfl:j=k:=Kb;go_wp2
     go_ret
     exact⟨_,rfl,ho.o,hbr⟩
