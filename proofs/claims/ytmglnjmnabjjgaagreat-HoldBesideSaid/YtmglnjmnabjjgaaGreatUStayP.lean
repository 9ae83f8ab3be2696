import Derived.Test.YtmglnjmnabjjgaaGreatJUFresh
import Derived.Great.BuildSlice
set_option maxRecDepth 4000
namespace Go.Proofs.YtmglnjmnabjjgaaGreat
open Go.RowKit
variable {w:World}{p q:List Int×Int}{t ts ty:TypeId}{b g j s:Nat}{ops:Array Oper}{rest:List Oper}{op:Oper}{a:Act}{Q:Exit->Act->World->Prop}{r z:Array Value}
theorem zB4 {c:PC}{o:OC}{a:OpP}{r:(List Int×Int)×Bool}(hp:kAw w c p)(ho:OkA w o a)(ta:zAf a)(hl:p.1.length<=60)(hr:zEr a.k a.q a.t a.z a.x.length 1 p=r):Calls Tryz.prog 20 #[.agg c.row,.agg o.row,.int .i64 1] w (kK5 w r):=by
 have h1:=ta.hq;have h2:=ta.ht;have h3:=ta.hx;have h4:=ho.hnx;have hm:=zXz (K:=a.k) (q:=a.q) (t:=a.t) (pos:=a.z) (n:=a.x.length) (aff:=1) (p:=p);rw[hr]at hm;rw[ho.hk,ho.hz,h4]at hr;refine(kEt hp.pa (ho.xq12 ta) (ho.xt12 ta) Kb hr).mono fun e w' h=>?_;obtain⟨v,rfl,h5,h6⟩:=h;obtain⟨A,k,d,rfl,e1,e2,e3,e4⟩:=XA.own h5 Kb;exact⟨⟨A,k,d,r.1.2⟩,rfl,⟨rfl,e1,e3,e2,e4⟩,h6⟩
theorem zB5 {c d:PC}{E:Bool}(hp:kAw w c p)(hq:kAw w d q)(hE:samP p q=E):Calls Tryz.prog 63 #[.agg c.row,.agg d.row] w (jA (.bool E) w):=by
 subst hE;have:=zQj c.A d.A p q c.n d.n c.c d.c w hp.hn hq.hn (by have:=hp.hm;omega) (by have:=hq.hm;omega) hp.hA hq.hA;rw[hp.hx,hq.hx]at this;exact this
noncomputable def kEu (p:List Int×Int)(o:OpP):Bool:=decide (zEr o.k o.q o.t o.z o.x.length 1 p=(p,true))
theorem zSa (p:List Int×Int)(o:OpP):zBl p o=(kEu p o&&kEu p (zGl o).1):=rfl
theorem zPx {o:OpP}{b:Bool}(h:zEr o.k o.q o.t o.z o.x.length 1 p=(q,b)):kEu p o=(b&&samP p q):=by
 unfold kEu;rw[h,Bool.eq_iff_iff];simp only[Bool.and_eq_true,decide_eq_true_eq,kH8,Prod.mk.injEq];constructor
 ·rintro⟨rfl,rfl⟩;exact⟨rfl,rfl⟩
 ·rintro⟨rfl,rfl⟩;exact⟨rfl,rfl⟩
theorem zIj {a b:Array Value}(h:w.heap[g]? =some (.cells (a++b) t (0,0))):w.rangeAt g 0 a.toList/\w.rangeAt g a.size b.toList:=by
 refine⟨fun i v hi=>?_,fun i v hi=>?_⟩
 ·have hl:i<a.size:=by have:=(List.getElem?_eq_some_iff.1 hi).1;simpa using this
  rw[Nat.zero_add];have e:(a++b)[i]? =some v:=by rw[Array.getElem?_append_left hl];simpa using hi
  simp[World.cell?,h,e]
 ·have hl:i<b.size:=by have:=(List.getElem?_eq_some_iff.1 hi).1;simpa using this
  have e:(a++b)[a.size+i]? =some v:=by rw[Array.getElem?_append_right Kb,Nat.add_sub_cancel_left];simpa using hi
  simp[World.cell?,h,e]
theorem kK {n:Nat}(hrow:kC5 ty n)(h:w.rangeAt g j r.toList)(hn:r.size=n)
  (x:Operand) (ho:op.op=.load ty x) (hgd:op.guard=none) (hx:a.eval x=.pointer (some ⟨g,j,none⟩)) (hk:wpList Tryz.prog ops Q rest (a.put op.dst (.agg r)) w):wpList Tryz.prog ops Q (op::rest) a w:=by
 obtain⟨d,h1,h2,h3⟩:=hrow;exact wpList_load_mid hgd ty x ho g j hx r.toList d h h1 h2 (by rw[h3,<-hn];simp) hk
theorem zE4 {w':World}{r:List Value}(h:w.rangeAt g j r)(hb:Below w.heap.size w w'):w'.rangeAt g j r:=fun i v hi=>(hb.cell (kQ (h i v hi))).trans (h i v hi)
theorem zPy (hu:Tryz.prog.underlying ts=some (.slice t))(hinfo:(Tryz.prog.info? t).map (fun i=>(i.zero,i.size,i.bytes))=some (some (.agg z),s,b))(hs:0<s)(hs2:s<=1000)(W:World)(c d:Array Value)(hc:c.size=s)(hd:d.size=s):
  (Instr.buildSlice ts 2 #[(0,.agg c),(1,.agg d)]).run Tryz.prog W=.ok (.slice (some ⟨W.heap.size,0,none⟩) 2 2) (W.alloc (.cells (c++d) t)):=by
 obtain⟨i0,hi,hz0,hz1,hz2⟩:=info_parts hinfo;refine run_buildSlice (P:=Tryz.prog) W ts t 2 #[(0,.agg c),(1,.agg d)] (c++d) i0 _ hu hi hz0 (by rw[hz1];omega) (by rw[hz1];omega) ?_;rw[hz1];have h:=Great.fill_whole (s:=s) hs [Value.agg c,Value.agg d] ((Array.range (2*s)).map ((Value.agg z).cells[· % (Value.agg z).cells.size]!)) (by intro v hv;simp at hv;rcases hv with rfl|rfl<;>assumption) Kc;exact h.trans (by simp[Value.cells])
theorem zEq (hu:Tryz.prog.underlying ts=some (.slice t))(hinfo:(Tryz.prog.info? t).map (fun i=>(i.zero,i.size,i.bytes))=some (some (.agg z),s,b))(hs:0<s)(hs2:s<=1000){o:Oper}{W:World}{c d:Array Value}(hc:c.size=s)(hd:d.size=s)(x y:Operand)(ho:o.op=.buildSlice ts 2 #[(0,x),(1,y)])(hgd:o.guard=none)(hx:a.eval x=.agg c)(hy:a.eval y=.agg d)
  (hk:wpList Tryz.prog ops Q rest (a.put o.dst (.slice (some ⟨W.heap.size,0,none⟩) 2 2)) (W.alloc (.cells (c++d) t))):wpList Tryz.prog ops Q (o::rest) a W:=by
 refine wpList_plain hgd fun K hK=>?_;unfold Oper.wp execOp;simp only[ho,List.map_toArray,List.map_cons,List.map_nil,hx,hy,Sem.run_bind,zPy hu hinfo hs hs2 W c d hc hd,Result.andThen_ok];exact hK _ _ hk
theorem zEa (h:jT t w g r){vs:List Value}
  (hrow:∃d,Tryz.prog.underlying ty=some d/\d.isRow=true/\(Tryz.prog.info? ty).map (·.size)=some vs.length) (x:Operand) (ho:op.op=.load ty x) (hgd:op.guard=none) (hx:a.eval x=.pointer (some ⟨g,j,none⟩)) (hv:(r.extract j (j+vs.length)).toList=vs) (hk:wpList Tryz.prog ops Q rest (a.put op.dst (.agg vs.toArray)) w):wpList Tryz.prog ops Q (op::rest) a w:=by
 obtain⟨d,h1,h2,h3⟩:=hrow;refine wpList_load_mid hgd ty x ho g j hx vs d (fun i v hi=>?_) h1 h2 h3 hk;refine h.cell (j+i) v ?_;rw[<-hv]at hi;simp only[Array.toList_extract,List.extract_eq_take_drop,List.getElem?_take,List.getElem?_drop]at hi;split at hi
 ·simpa using hi
 ·cases hi
theorem kEv :(Tryz.prog.info? 35).map (fun i=>(i.zero,i.size,i.bytes))=some (some (.agg OC.zero.row),21,360):=Ka
theorem zNd {P:Program}{dst:Option Nat}{k:Nat}{ps:Array (Nat×Operand)}{pos:String}{af:Array Edge}(h:wpList P ops Q ({dst:=dst,op:=.buildSlice ty k ps,type:=t,pos:=pos,after:=af,guard:=none}::rest) a w):wpList P ops Q ({dst:=dst,op:=.buildSlice ty k ps,type:=t,pos:=pos,after:=af,guard:=none}::rest) a w:=h
theorem kFv :(Tryz.prog.info? 29).map (fun i=>(i.zero,i.size,i.bytes))=some (some (.agg #[.slice none 0 0,.int .i64 0]),2,32):=Ka
