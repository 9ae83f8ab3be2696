import Derived.Test.YtmglnjmnabjjgaaGreatJNOpen
set_option maxRecDepth 4000
namespace Go.Proofs.YtmglnjmnabjjgaaGreat
open Go.RowKit
variable {c:OC}{rest:List Oper}{op:Oper}{a:Act}{P:Program}{x:Operand}{pos:String}{d:TypeDesc}{A:Option Addr}{us:List kNj}
def zU4 (cs:Array Value):Nat->List Value->Array Value
 |_,[]=>cs
 |j,v::r=>zU4 (cs.setIfInBounds j v) (j+1) r
theorem zHr (g:Nat)(t:TypeId):∀(vs:List Value)(j:Nat)(w:World)(cs:Array Value),w.heap[g]? =some (.cells cs t (0,0))->(w.setCells g j vs).heap[g]? =some (.cells (zU4 cs j vs) t (0,0))/\Off g w (w.setCells g j vs)
 |[],j,w,cs,h=>⟨h,Off.refl g w⟩
 |v::r,j,w,cs,h=>by
  obtain⟨h1,h2⟩:=zHr g t r (j+1) _ _ (kAk w g t cs j v h);have h3:Off g w (w.setCell ⟨g,j,none⟩ v):=⟨rfl,rfl,rfl,by show _<=(w.heap.modify g _).size;simp,fun k _ hne=>Below.heap_setCell w ⟨g,j,none⟩ v k (by simpa using hne)⟩;exact⟨h1,h3.trans h2⟩
theorem jR.off {w w':World}{g g':Nat}(h:jR w g c)(ho:Off g' w w')(hne:g≠g'):jR w' g c:=(ho.block g h.lt hne).trans h
theorem zL {ty:TypeId}{n:Nat}(hsz:(Tryz.prog.info? ty).map (·.size)=some n){ops:Array Oper}{W:World}{Q:Exit->Act->World->Prop}{g:Nat}(h:jR W g c)(x y:Operand)(ho:op.op=.store ty x y)(hgd:op.guard=none)(hd:op.dst=none)
  (j:Nat) (v:Value) (vs:List Value) (c':OC) (hx:a.eval x=.pointer (some ⟨g,j,none⟩)) (hy:a.eval y=v) (hv:v.cells=vs.toArray) (hn:vs.length=n) (h1:∀u ∈ vs,u.oneCell'=true) (hj:j+vs.length<=21) (hc:zU4 c.row j vs=c'.row)
  (hk:∀W',jR W' g c'->Off g W W'->wpList Tryz.prog ops Q rest a W'):wpList Tryz.prog ops Q (op::rest) a W:=by
 have hcell:∀i,i<vs.length->(W.cell? ⟨g,j+i,none⟩).isSome=true/\W.frozen? ⟨g,j+i,none⟩=false:=fun i hi=>by
  refine⟨?_,h.thaw _⟩;have hs:j+i<c.row.size:=by rw[OC.size];omega
  rw[h.cell (j+i) _ (Array.getElem?_eq_getElem hs)];rfl
 have hrun:=run_storeCells_cells (P:=Tryz.prog) g j vs 0 W (fun i hi=>by simpa using(hcell i hi).1) (fun i hi=>by simpa using(hcell i hi).2) h1;have hst:(storeVar ty ⟨g,j,none⟩ v).run Tryz.prog W=.ok () (W.setCells g j vs):=by
  cases hq:Tryz.prog.info? ty with
  |none=>simp[hq]at hsz
  |some i=>
   have hs:i.size=vs.length:=by simp[hq]at hsz;omega
   simp only[Nat.add_zero]at hrun;simp[storeVar,sizeOf,typeInfo,hq,hv,hs,hrun]
 refine wpList_plain hgd fun K hK=>?_;unfold Oper.wp execOp;simp only[ho,hx,hy,Instr.storeAt,Instr.sureAddr,Sem.run_bind,Sem.run_pure,Result.andThen_ok,hst];obtain⟨r1,r2⟩:=zHr g _ vs j W _ h;rw[hc]at r1;exact hK _ _ (by rw[hd];exact hk _ r1 r2)
theorem zF {ops:Array Oper}{Q:Exit->Act->World->Prop}{dst:Option Nat}{ty:TypeId}{y:Operand}{t:TypeId}{af:Array Edge}{w:World}(h:wpList P ops Q ({dst:=dst,op:=.store ty x y,type:=t,pos:=pos,after:=af,guard:=none}::rest) a w):wpList P ops Q ({dst:=dst,op:=.store ty x y,type:=t,pos:=pos,after:=af,guard:=none}::rest) a w:=h
theorem zC {ops:Array Oper}{Q:Exit->Act->World->Prop}{dst:Option Nat}{ty:TypeId}{t:TypeId}{af:Array Edge}{w:World}(h:wpList P ops Q ({dst:=dst,op:=.load ty x,type:=t,pos:=pos,after:=af,guard:=none}::rest) a w):wpList P ops Q ({dst:=dst,op:=.load ty x,type:=t,pos:=pos,after:=af,guard:=none}::rest) a w:=h
theorem kH {ops:Array Oper}{Q:Exit->Act->World->Prop}{dst:Option Nat}{ty:TypeId}{t:TypeId}{af:Array Edge}{gq:Nat×Bool}{w:World}(h:wpList P ops Q ({dst:=dst,op:=.load ty x,type:=t,pos:=pos,after:=af,guard:=some gq}::rest) a w):wpList P ops Q ({dst:=dst,op:=.load ty x,type:=t,pos:=pos,after:=af,guard:=some gq}::rest) a w:=h
theorem zDq {ops:Array Oper}{w:World}{Q:Exit->Act->World->Prop}{g:Nat}(h:jR w g c)
  (x:Operand) (ho:op.op=.load 35 x) (hw:Region.wanted op (yielded ops a.tmps)=true) (hx:a.eval x=.pointer (some ⟨g,0,none⟩)) (hk:wpList Tryz.prog ops Q rest (a.put op.dst (.agg c.row)) w):wpList Tryz.prog ops Q (op::rest) a w:=by
 obtain⟨d,h1,h2,h3⟩:=zK4;refine wpList_step fun K hK=>?_;rw[if_pos hw];exact wp_load_mid 35 x ho g 0 hx c.row.toList d h.range h1 h2 h3 (hK _ _ hk)
theorem zD3 {ty:TypeId}(hu:Tryz.prog.underlying ty=some d)(hd:d.isRow=false){w:World}{a:Addr}{v:Value}(hc:w.cell? a=some v):(loadVar ty a).run Tryz.prog w=.ok v w:=by
 have hagg:(isAgg ty).run Tryz.prog w=.ok false w:=by
  unfold isAgg;rw[Sem.run_bind,run_underlying hu w];cases d<;>simp_all
 simp[loadVar,Sem.run_bind,hagg,hc]
theorem zE {ty:TypeId}{ops:Array Oper}{w:World}{Q:Exit->Act->World->Prop}{g:Nat}(h:jR w g c){j:Nat}{v:Value}
  (x:Operand) (ho:op.op=.load ty x) (hgd:op.guard=none) (hx:a.eval x=.pointer (some ⟨g,j,none⟩)) (hv:c.row[j]? =some v) (hu:Tryz.prog.underlying ty=some d) (hd:d.isRow=false) (hk:wpList Tryz.prog ops Q rest (a.put op.dst v) w):wpList Tryz.prog ops Q (op::rest) a w:=by
 have hc:=h.cell j v hv;have hl:=zD3 hu hd hc;refine wpList_plain hgd fun K hK=>?_;unfold Oper.wp execOp;simp only[ho,hx,Instr.loadAt,Instr.sureAddr,Sem.run_bind,Sem.run_pure,Result.andThen_ok,hl];exact hK _ _ hk
theorem kR {ty:TypeId}{ops:Array Oper}{w:World}{Q:Exit->Act->World->Prop}{g:Nat}(h:jR w g c){j:Nat}{vs:List Value}
  (hrow:∃d,Tryz.prog.underlying ty=some d/\d.isRow=true/\(Tryz.prog.info? ty).map (·.size)=some vs.length) (x:Operand) (ho:op.op=.load ty x) (hgd:op.guard=none) (hx:a.eval x=.pointer (some ⟨g,j,none⟩)) (hv:(c.row.extract j (j+vs.length)).toList=vs) (hk:wpList Tryz.prog ops Q rest (a.put op.dst (.agg vs.toArray)) w):wpList Tryz.prog ops Q (op::rest) a w:=by
 obtain⟨d,h1,h2,h3⟩:=hrow;refine wpList_load_mid hgd ty x ho g j hx vs d (fun i v hi=>?_) h1 h2 h3 hk;refine h.cell (j+i) v ?_;rw[<-hv]at hi;simp only[Array.toList_extract,List.extract_eq_take_drop,List.getElem?_take,List.getElem?_drop]at hi;split at hi
 ·simpa using hi
 ·cases hi
theorem zCp :∃d,Tryz.prog.underlying 26=some d/\d.isRow=true/\(Tryz.prog.info? 26).map (·.size)=some 4:=⟨.struct (Tryz.prog.fieldsOf 26),by kernel_rfl,rfl,by kernel_rfl⟩
theorem zD4 :∃d,Tryz.prog.underlying 33=some d/\d.isRow=true/\(Tryz.prog.info? 33).map (·.size)=some 5:=⟨.struct (Tryz.prog.fieldsOf 33),by kernel_rfl,rfl,by kernel_rfl⟩
theorem zHs :(Tryz.prog.info? 3).map (·.size)=some 1:=Ka
theorem zCa :(Tryz.prog.info? 27).map (·.size)=some 1:=Ka
theorem zCq :(Tryz.prog.info? 22).map (·.size)=some 1:=Ka
theorem zFu :(Tryz.prog.info? 23).map (·.size)=some 1:=Ka
theorem zKq :(Tryz.prog.info? 26).map (·.size)=some 4:=Ka
theorem zJu :(Tryz.prog.info? 33).map (·.size)=some 5:=Ka
theorem zHt {v:Value}(h:v.oneCell'=true):∀u ∈ [v],u.oneCell'=true:=by simpa using h
theorem zBb (w:World)(c:OC):∃W0,(w.alloc (.cells c.row 35)).alloc (.cells #[.int .i64 0,.slice none 0 0,.slice none 0 0,.int .i64 0,.bool false,.slice none 0 0,.slice none 0 0,.slice none 0 0,.slice none 0 0,.slice none 0 0,.slice none 0 0,.bool false,.slice none 0 0,.int .i64 0,.slice none 0 0,.int .i64 0,.bool false,.slice none 0 0,.int .i64 0,.slice none 0 0,.int .i64 0] 35)=W0/\Below w.heap.size w W0/\W0.heap.size=w.heap.size+1+1/\jR W0 w.heap.size c/\jR W0 (w.heap.size+1) OC.zero:=by
 have h:=zK2 w (.cells c.row 35) (.cells OC.zero.row 35);exact⟨_,rfl,kM Kk Kl,by simp,h.1,h.2⟩
theorem zN {w W W':World}{g:Nat}(hb:Below w.heap.size w W)(ho:Off g W W')(hg:w.heap.size<=g):Below w.heap.size w W':=hb.trans (ho.below hg hb.size)
def kC5 (t:TypeId)(n:Nat):Prop:=∃d,Tryz.prog.underlying t=some d/\d.isRow=true/\(Tryz.prog.info? t).map (·.size)=some n
def jT (t:TypeId)(w:World)(g:Nat)(r:Array Value):Prop:=w.heap[g]? =some (.cells r t (0,0))
section
variable {t:TypeId}{w w':World}{g:Nat}{r r':Array Value}
theorem jT.lt (h:jT t w g r):g<w.heap.size:=(Array.getElem?_eq_some_iff.1 h).1
theorem jT.keep (h:jT t w g r)(hb:Below w.heap.size w w'):jT t w' g r:=(hb.block _ h.lt).trans h
theorem jT.off {k:Nat}(h:jT t w g r)(ho:Off k w w')(hne:g≠k):jT t w' g r:=(ho.block _ h.lt hne).trans h
theorem jT.new (w:World)(t:TypeId)(r:Array Value):jT t (w.alloc (.cells r t)) w.heap.size r:=heap_alloc_new w _
theorem jT.alloc (h:jT t w g r)(o:Obj):jT t (w.alloc o) g r:=h.keep (Kk.alloc Kl _)
theorem jT.cell (h:jT t w g r)(j:Nat)(v:Value)(hv:r[j]? =some v):w.cell? ⟨g,j,none⟩=some v:=by
 unfold jT at h;simp[World.cell?,h,hv]
end
theorem zB {t:TypeId}{n:Nat}(hrow:kC5 t n){ops:Array Oper}{w:World}{Q:Exit->Act->World->Prop}{g:Nat}{r:Array Value}(h:jT t w g r)(hn:r.size=n)
  (x:Operand) (ho:op.op=.load t x) (hgd:op.guard=none) (hx:a.eval x=.pointer (some ⟨g,0,none⟩)) (hk:wpList Tryz.prog ops Q rest (a.put op.dst (.agg r)) w):wpList Tryz.prog ops Q (op::rest) a w:=by
 obtain⟨d,h1,h2,h3⟩:=hrow;exact wpList_load_mid hgd t x ho g 0 hx r.toList d (fun i v hi=>by rw[Nat.zero_add];exact h.cell i v (by simpa using hi)) h1 h2 (by rw[h3,<-hn];simp) hk
theorem zK {t:TypeId}{n:Nat}(hrow:kC5 t n){ops:Array Oper}{w:World}{Q:Exit->Act->World->Prop}{g:Nat}{r:Array Value}(h:jT t w g r)(hn:r.size=n)
  (x:Operand) (ho:op.op=.load t x) (hw:Region.wanted op (yielded ops a.tmps)=true) (hx:a.eval x=.pointer (some ⟨g,0,none⟩)) (hk:wpList Tryz.prog ops Q rest (a.put op.dst (.agg r)) w):wpList Tryz.prog ops Q (op::rest) a w:=by
 obtain⟨d,h1,h2,h3⟩:=hrow;refine wpList_step fun K hK=>?_;rw[if_pos hw];exact wp_load_mid t x ho g 0 hx r.toList d (fun i v hi=>by rw[Nat.zero_add];exact h.cell i v (by simpa using hi)) h1 h2 (by rw[h3,<-hn];simp) (hK _ _ hk)
theorem zA {t:TypeId}{n:Nat}(hrow:kC5 t n){ops:Array Oper}{W:World}{Q:Exit->Act->World->Prop}{g:Nat}{r0 r:Array Value}(h:jT t W g r0)(hn0:r0.size=n)(hn:r.size=n)(hone:r.all (·.oneCell')=true)(x y:Operand)(ho:op.op=.store t x y)(hgd:op.guard=none)(hd:op.dst=none)(hx:a.eval x=.pointer (some ⟨g,0,none⟩))(hy:a.eval y=.agg r)
  (hk:∀W',jT t W' g r->Off g W W'->wpList Tryz.prog ops Q rest a W'):wpList Tryz.prog ops Q (op::rest) a W:=by
 obtain⟨d,h3,h4,h5⟩:=hrow;refine wpList_store_row hgd t x y ho g _ hx hy t r0 h (by rw[h5,<-hn]) (by rw[hn0,hn]) hone ?_;rw[hd];exact hk _ (setRow_heap _ _ r0 r _ (0,0) h) (zKw _ _ _ _ _ h)
theorem zD :kC5 26 4:=zCp
theorem kNm :kC5 33 5:=zD4
theorem zMk :kC5 35 21:=zK4
theorem jR.toR {w:World}{g:Nat}(h:jR w g c):jT 35 w g c.row:=h
structure NC where
 lf:Bool
 P:Option Addr
 np:Nat
 pc:Nat
 X:Option Addr
 nt:Nat
 tc:Nat
 K:Option Addr
 nk:Nat
 kc:Nat
def NC.row (c:NC):Array Value:=#[.bool c.lf,.slice c.P c.np c.pc,.slice c.X c.nt c.tc,.slice c.K c.nk c.kc]
theorem NC.size (c:NC):c.row.size=4:=rfl
theorem NC.one (c:NC):c.row.all (·.oneCell')=true:=Ka
structure SC where
 is:Bool
 A:Option Addr
 n:Nat
 c:Nat
 x:Int
 B:Option Addr
 m:Nat
 d:Nat
 y:Int
def SC.row (c:SC):Array Value:=#[.bool c.is,.slice c.A c.n c.c,.int .i64 c.x,.slice c.B c.m c.d,.int .i64 c.y]
theorem SC.one (c:SC):c.row.all (·.oneCell')=true:=Ka
def kS (w:World)(c:NC)(n:NT):Prop:=∃d,zV d w w.heap.size (.agg c.row) n
def zB1 (w:World)(c:SC)(s:Sl):Prop:=zIi w c.is c.A c.n c.c c.x c.B c.m c.d c.y s
theorem kS.later {w w':World}{c:NC}{n:NT}(h:kS w c n)(hb:Below w.heap.size w w'):kS w' c n:=by
 obtain⟨d,h⟩:=h;exact⟨d,h.later hb⟩
theorem zB1.later {w w':World}{c:SC}{s:Sl}(h:zB1 w c s)(hb:Below w.heap.size w w'):zB1 w' c s:=zIi.later h hb
theorem zFo {d:Nat}{w:World}{v:Value}{n:NT}(h:zV d w w.heap.size v n):∃c:NC,v=.agg c.row/\kS w c n:=by
 cases d with
 |zero=>exact h.elim
 |succ d=>
  obtain⟨PA,pc,TA,tc,KA,kc,rfl,hp,ht,hf,hks⟩:=h;exact⟨⟨n.lf,PA,n.ps.length,pc,TA,n.tx.length,tc,KA,n.ks.length,kc⟩,rfl,d+1,PA,pc,TA,tc,KA,kc,rfl,hp,ht,hf,hks⟩
def zTd (w:World)(r:(NT×Sl)×Int)(e:Ending)(w':World):Prop:=
 ∃(c:NC)(s:SC),e=.returned (.tuple #[.agg c.row,.agg s.row,.int .i64 r.2])/\kS w' c r.1.1/\zB1 w' s r.1.2/\Below w.heap.size w w'
structure RC where
 id:Int
 kind:Int
 aff:Int
 live:Bool
 P:Option Addr
 np:Nat
 cp:Nat
 Q:Option Addr
 nq:Nat
 cq:Nat
 qo:Int
 A:Option Addr
 na:Nat
 ca:Nat
 ao:Int
 F:Option Addr
 nf:Nat
 cf:Nat
 fo:Int
def RC.row (c:RC):Array Value:=#[.int .i64 c.id,.int .i64 c.kind,.int .i64 c.aff,.bool c.live,.slice c.P c.np c.cp,.slice c.Q c.nq c.cq,.int .i64 c.qo,.slice c.A c.na c.ca,.int .i64 c.ao,.slice c.F c.nf c.cf,.int .i64 c.fo]
def RC.zero :RC:=⟨0,0,0,false,none,0,0,none,0,0,0,none,0,0,0,none,0,0,0⟩
theorem RC.one (c:RC):c.row.all (·.oneCell')=true:=Ka
theorem kNu :kC5 37 11:=⟨.struct (Tryz.prog.fieldsOf 37),by kernel_rfl,rfl,by kernel_rfl⟩
theorem kNo :kC5 29 2:=⟨.struct (Tryz.prog.fieldsOf 29),by kernel_rfl,rfl,by kernel_rfl⟩
theorem kN3 :kC5 31 4:=⟨.struct (Tryz.prog.fieldsOf 31),by kernel_rfl,rfl,by kernel_rfl⟩
structure kNt (w:World)(A:Option Addr)(n c:Nat)(l:List Int):Prop where
 len:l.length=n
 cap:n<=c
 max:n<=9223372036854775807
 il:IL w w.heap.size A l
theorem kNt.later {w w':World}{n c:Nat}{l:List Int}(h:kNt w A n c l)(hb:Below w.heap.size w w'):kNt w' A n c l:=⟨h.len,h.cap,h.max,h.il.later hb⟩
theorem kNt.nil (w:World):kNt w none 0 0 []:=⟨rfl,Nat.le_refl _,by decide,IL.nil _ _ _⟩
theorem kNt.pt {w:World}{n c:Nat}{p:List Int×Int}{o:Int}(h:kNt w A n c p.1)(ho:p.2=o)(hl:n<=10000000):zI4 w (.agg #[.slice A n c,.int .i64 o]) p:=⟨A,n,c,by rw[ho],h.len,hl,h.cap,h.il⟩
structure RkA (w:World)(c:RC)(r:kNj):Prop where
 hid:r.id=c.id
 hk:r.kind=c.kind
 ha:r.aff=c.aff
 hlv:r.live=c.live
 hp:kNt w c.P c.np c.cp r.p
 hq:kNt w c.Q c.nq c.cq r.q.1
 hqo:r.q.2=c.qo
 haa:kNt w c.A c.na c.ca r.a.1
 hao:r.a.2=c.ao
 hf:kNt w c.F c.nf c.cf r.f.1
 hfo:r.f.2=c.fo
 hkw:(Lit.int .i64 c.kind).wf=true
theorem RkA.later {w w':World}{c:RC}{r:kNj}(h:RkA w c r)(hb:Below w.heap.size w w'):RkA w' c r:=
 {h with hp:=h.hp.later hb,hq:=h.hq.later hb,haa:=h.haa.later hb,hf:=h.hf.later hb}
theorem RkA.zero (w:World):RkA w RC.zero kVy:=⟨rfl,rfl,rfl,rfl,kNt.nil _,kNt.nil _,rfl,kNt.nil _,rfl,kNt.nil _,rfl,rfl⟩
def cellsR (cs:List RC):List Value:=cs.flatMap fun c=>c.row.toList
theorem kN5 (cs:List RC):(cellsR cs).length=cs.length*11:=by
 induction cs with
 |nil=>rfl
 |cons c r ih=>rw[cellsR,List.flatMap_cons,List.length_append,<-cellsR,ih,List.length_cons];show 11+_=_;omega
theorem kR5 (c:RC):cellsR [c]=c.row.toList:=by simp[cellsR]
theorem kPr :∀{cs:List RC}{k:Nat}{c:RC},cs[k]? =some c->∀j v,c.row.toList[j]? =some v->(cellsR cs)[k*11+j]? =some v
 |[],_,_,h,_,_,_=>by simp at h
 |d::r,0,c,h,j,v,hv=>by
  simp only[List.getElem?_cons_zero,Option.some.injEq]at h;subst h;have hj:=(List.getElem?_eq_some_iff.1 hv).1;rw[cellsR,List.flatMap_cons,Nat.zero_mul,Nat.zero_add,List.getElem?_append_left hj];exact hv
 |d::r,k+1,c,h,j,v,hv=>by
  rw[List.getElem?_cons_succ]at h;have h2:=kPr h j v hv;rw[cellsR,List.flatMap_cons,List.getElem?_append_right (by show 11<=_;omega),show(k+1)*11+j-d.row.toList.length=k*11+j by show _-11=_;omega];exact h2
theorem kR6 (cs:List RC):∀u ∈ cellsR cs,u.oneCell'=true:=fun u hu=>by
 obtain⟨c,_,hc⟩:=List.mem_flatMap.1 hu;exact Array.all_eq_true'.1 c.one u (by simpa using hc)
structure LR (w:World)(A:Option Addr)(cs:List RC)(us:List kNj):Prop where
 hv:VL w w.heap.size A (cellsR cs)
 hl:cs.length=us.length
 ha:∀(k:Nat)(c:RC)(a:kNj),cs[k]? =some c->us[k]? =some a->RkA w c a
theorem LR.later {w w':World}{cs:List RC}(h:LR w A cs us)(hb:Below w.heap.size w w'):LR w' A cs us:=
 ⟨h.hv.later hb,h.hl,fun k c a h1 h2=>(h.ha k c a h1 h2).later hb⟩
theorem LR.nil (w:World)(A:Option Addr):LR w A [] []:=⟨VL.nil _ _ _,rfl,fun k c a h=>by simp at h⟩
theorem LR.at_ {w:World}{cs:List RC}(h:LR w A cs us){k:Nat}(hk:k<us.length):
  ∃b o c a,A=some ⟨b,o,none⟩/\b<w.heap.size/\cs[k]? =some c/\us[k]? =some a/\RkA w c a/\w.rangeAt b (o+k*11) c.row.toList:=by
 have hk2:k<cs.length:=by rw[h.hl];exact hk
 have e1:cs[k]? =some cs[k]:=List.getElem?_eq_getElem hk2;have e2:us[k]? =some us[k]:=List.getElem?_eq_getElem hk;obtain⟨b,o,e,hb,hc⟩:=h.hv (fun e=>by have:=kN5 cs;rw[e]at this;simp at this;omega);exact⟨b,o,cs[k],us[k],e,hb,e1,e2,h.ha k _ _ e1 e2,fun j v hv=>by rw[Nat.add_assoc];exact hc _ _ (kPr e1 j v hv)⟩
theorem kOo {ops:Array Oper}{w:World}{Q:Exit->Act->World->Prop}{g off:Nat}{c:RC}(h:w.rangeAt g off c.row.toList)
  (x:Operand) (ho:op.op=.load 37 x) (hgd:op.guard=none) (hx:a.eval x=.pointer (some ⟨g,off,none⟩)) (hk:wpList Tryz.prog ops Q rest (a.put op.dst (.agg c.row)) w):wpList Tryz.prog ops Q (op::rest) a w:=by
 obtain⟨d,h1,h2,h3⟩:=kNu;exact wpList_load_mid hgd 37 x ho g off hx c.row.toList d h h1 h2 h3 hk
open Go.ChangeShapes Go.WideShapes Go.RowKit Go.Deep
theorem kRb :Tryz.prog.underlying 31=some (.struct (Tryz.prog.fieldsOf 31)):=Ka
theorem kVe :((Tryz.prog.fieldsOf 31)[0]?).map (fun f=>(f.type,f.offset))=some (29,0):=Ka
theorem kVf :((Tryz.prog.fieldsOf 31)[1]?).map (fun f=>(f.type,f.offset))=some (29,2):=Ka
theorem kSm :(Tryz.prog.fieldsOf 31).size=2:=Ka
theorem kP6 :Tryz.prog.cellsOf 31=4:=Ka
theorem kRc :Tryz.prog.cellsOf 4=1:=Ka
theorem kP7 :Tryz.prog.underlying 37=some (.struct (Tryz.prog.fieldsOf 37)):=Ka
theorem kV5 :((Tryz.prog.fieldsOf 37)[0]?).map (fun f=>(f.type,f.offset))=some (3,0):=Ka
theorem kV6 :((Tryz.prog.fieldsOf 37)[1]?).map (fun f=>(f.type,f.offset))=some (3,1):=Ka
theorem kV7 :((Tryz.prog.fieldsOf 37)[2]?).map (fun f=>(f.type,f.offset))=some (3,2):=Ka
theorem kV8 :((Tryz.prog.fieldsOf 37)[3]?).map (fun f=>(f.type,f.offset))=some (4,3):=Ka
theorem kV9 :((Tryz.prog.fieldsOf 37)[4]?).map (fun f=>(f.type,f.offset))=some (27,4):=Ka
theorem kWa :((Tryz.prog.fieldsOf 37)[5]?).map (fun f=>(f.type,f.offset))=some (29,5):=Ka
theorem kWb :((Tryz.prog.fieldsOf 37)[6]?).map (fun f=>(f.type,f.offset))=some (31,7):=Ka
theorem kTq :(Tryz.prog.fieldsOf 37).size=7:=Ka
theorem kSn :Tryz.prog.cellsOf 37=11:=Ka
section
variable {H:Type}{enc:TypeId×Value->H}{W:World}{base:Nat}{held:Bool}
theorem kR7 {fuel:Nat}{cs:List Value}{x:DataW H×List MemPlace}(h:DataW.trod enc Tryz.prog W base (fun _=>true) held fuel 31 cs=some x):∃c0 c1 c2 c3 p q,cs=[c0,c1,c2,c3]/\zMh W c0 c1 p/\zMh W c2 c3 q:=by
 obtain⟨xs,f1,rfl,rfl,hcl,hxl,hf⟩:=DataW.trod_struct kRb h;rw[kP6]at hcl;rw[kSm]at hxl;obtain⟨t0,e0,g0⟩:=Option.map_eq_some_iff.1 kVe;obtain⟨t1,e1,g1⟩:=Option.map_eq_some_iff.1 kVf;simp only[Prod.mk.injEq]at g0 g1;have r0:=hf 0 t0 e0;have r1:=hf 1 t1 e1;rw[g0.1,g0.2,zO2]at r0;rw[g1.1,g1.2,zO2]at r1;match cs,hcl,xs,hxl with
 |[c0,c1,c2,c3],_,[x0,x1],_=>
  simp only[List.drop_zero,List.take_succ_cons,List.take_zero,List.drop_succ_cons,List.getElem?_cons_zero,List.getElem?_cons_succ]at r0 r1;obtain⟨a0,a1,p,k0,h0⟩:=zUo r0;obtain⟨a2,a3,q,k1,h1⟩:=zUo r1;simp only[List.cons.injEq,and_true]at k0 k1;obtain⟨rfl,rfl⟩:=k0;obtain⟨rfl,rfl⟩:=k1;exact⟨_,_,_,_,p,q,rfl,h0,h1⟩
theorem kTr {fuel:Nat}{cs:List Value}{x:DataW H×List MemPlace}(h:DataW.trod enc Tryz.prog W base (fun _=>true) held fuel 37 cs=some x):∃c a,cs=c.row.toList/\RkA W c a:=by
 obtain⟨xs,f1,rfl,rfl,hcl,hxl,hf⟩:=DataW.trod_struct kP7 h;rw[kSn]at hcl;rw[kTq]at hxl;obtain⟨t0,e0,g0⟩:=Option.map_eq_some_iff.1 kV5;obtain⟨t1,e1,g1⟩:=Option.map_eq_some_iff.1 kV6;obtain⟨t2,e2,g2⟩:=Option.map_eq_some_iff.1 kV7;obtain⟨t3,e3,g3⟩:=Option.map_eq_some_iff.1 kV8;obtain⟨t4,e4,g4⟩:=Option.map_eq_some_iff.1 kV9;obtain⟨t5,e5,g5⟩:=Option.map_eq_some_iff.1 kWa;obtain⟨t6,e6,g6⟩:=Option.map_eq_some_iff.1 kWb;simp only[Prod.mk.injEq]at g0 g1 g2 g3 g4 g5 g6;have r0:=hf 0 t0 e0;have r1:=hf 1 t1 e1;have r2:=hf 2 t2 e2;have r3:=hf 3 t3 e3;have r4:=hf 4 t4 e4;have r5:=hf 5 t5 e5;have r6:=hf 6 t6 e6;rw[g0.1,g0.2,zHm]at r0;rw[g1.1,g1.2,zHm]at r1;rw[g2.1,g2.2,zHm]at r2;rw[g3.1,g3.2,kRc]at r3;rw[g4.1,g4.2,zKh]at r4;rw[g5.1,g5.2,zO2]at r5;rw[g6.1,g6.2,kP6]at r6;clear hf h e0 e1 e2 e3 e4 e5 e6 g0 g1 g2 g3 g4 g5 g6;match cs,hcl,xs,hxl with
 |[c0,c1,c2,c3,c4,c5,c6,c7,c8,c9,c10],_,[x0,x1,x2,x3,x4,x5,x6],_=>
  simp only[List.drop_zero,List.take_succ_cons,List.take_zero,List.drop_succ_cons,List.getElem?_cons_zero,List.getElem?_cons_succ]at r0 r1 r2 r3 r4 r5 r6;obtain⟨n0,k0,_,_⟩:=DataW.trod_int Tryz.underlying3 r0;obtain⟨n1,k1,_,w1⟩:=DataW.trod_int Tryz.underlying3 r1;obtain⟨n2,k2,_,_⟩:=DataW.trod_int Tryz.underlying3 r2;obtain⟨b3,k3,_⟩:=DataW.trod_bool Tryz.underlying4 r3;obtain⟨A4,l4,d4,k4,h4,i4,j4⟩:=zWc r4;obtain⟨a5,a6,p5,k5,⟨A5,d5,rfl,rfl,h5,i5,j5⟩⟩:=zUo r5;obtain⟨a7,a8,a9,wn,p7,p9,k7,⟨A7,d7,rfl,rfl,h7,i7,j7⟩,⟨A9,d9,rfl,rfl,h9,i9,j9⟩⟩:=kR7 r6;simp only[List.cons.injEq,and_true]at k0 k1 k2 k3 k4 k5 k7;obtain rfl:=k0;obtain rfl:=k1;obtain rfl:=k2;obtain rfl:=k3;obtain rfl:=k4;obtain⟨rfl,rfl⟩:=k5;obtain⟨rfl,rfl,rfl,rfl⟩:=k7;exact⟨⟨n0,n1,n2,b3,A4,l4.length,d4,A5,p5.1.length,d5,p5.2,A7,p7.1.length,d7,p7.2,A9,p9.1.length,d9,p9.2⟩,⟨n0,n1,n2,b3,l4,p5,p7,p9⟩,rfl,⟨rfl,rfl,rfl,rfl,⟨rfl,i4,h4,j4⟩,⟨rfl,i5,h5,j5⟩,rfl,⟨rfl,i7,h7,j7⟩,rfl,⟨rfl,i9,h9,j9⟩,rfl,w1⟩⟩
theorem kTs {r:Reach}{b0:Nat}{v:Value}{d:DataW H}{p:List MemPlace}(hv:Value.okWide Tryz.prog W r b0 37 v)(h:DataW.Trod enc Tryz.prog W base (fun _=>true) held 37 v d p):∃(c:RC)(a:kNj),v=.agg c.row/\RkA W c a:=by
 obtain⟨fuel,hf⟩:=h;obtain⟨c,a,hcs,hok⟩:=kTr hf;obtain⟨cs,rfl,hcz⟩:=okWide_struct kP7 hv;have e:cs=c.row:=by
  apply Array.toList_inj.1;simpa[Value.cells]using hcs
 subst e;exact⟨c,a,rfl,hok⟩
end
