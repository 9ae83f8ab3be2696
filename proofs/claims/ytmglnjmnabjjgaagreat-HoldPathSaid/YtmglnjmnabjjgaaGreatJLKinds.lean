import Derived.Test.YtmglnjmnabjjgaaGreatJUDo
set_option maxRecDepth 100000
set_option maxHeartbeats 8000000
namespace Go.Proofs.YtmglnjmnabjjgaaGreat
open Go.RowKit Go.Maps
variable {W W' w w':World}{B b g j k m n:Nat}{D:DataW Value}{ops:Array Oper}{rest:List Oper}{a:Act}{Q:Exit->Act->World->Prop}{A:Option Addr}{cs ds:List RC}{c d:RC}{r:kNx}{F:Nat->Prop}{us:List kNx}
structure KC where
 last:Int
 chk:Value
 along:Value
def KC.row (c:KC):Array Value:=#[.int .i64 c.last,c.chk,c.along]
def fnV (f:FuncId):Value:=.func (.func f) #[] #[]
def kc1 :KC:=⟨0,fnV 53,fnV 55⟩
def kc2 :KC:=⟨2,fnV 56,fnV 58⟩
def kc3 :KC:=⟨4,fnV 59,fnV 61⟩
def kc0 :KC:=⟨0,.nilFunc,.nilFunc⟩
def kPf (k:Int):KC×Bool:=if k=1 then(kc1,true)else if k=2 then(kc2,true)else if k=3 then(kc3,true)else(kc0,false)
def kW0 (v:Value):Option (DataW Value×List MemPlace):=some (.held v,[])
def KM (w:World)(b n:Nat)(D:DataW Value):Prop:=w.ownsMap Tryz.prog 3 kW0 b n D
abbrev ki (k:Int):Lit:=.int .i64 k
def kS9 :DataW Value:=(((DataW.map []).put (ki 1) (.held (.agg kc1.row))).put (ki 2) (.held (.agg kc2.row))).put (ki 3) (.held (.agg kc3.row))
def kOv (w:World)(b:Nat):Prop:=KM w b 3 kS9
theorem kWh :Keyed Tryz.prog 3:=int_keyed Tryz.underlying3
theorem kW1 (w:World):(zeroValue 76).run Tryz.prog w=.ok (.agg kc0.row) w:=Ka
theorem KM.lt (h:KM w b n D):b<w.heap.size:=World.ownsMap.lt h
theorem KM.below (h:KM w b n D)(hb:Below w.heap.size w w'):KM w' b n D:=World.ownsMap.kept (row:=none) h ⟨hb.os,hb.tape,hb.output,hb.size,fun i hi _=>hb.block i hi⟩ Kc
theorem KM.off (h:KM w b n D)(ho:Off g w w')(hne:b≠g):KM w' b n D:=World.ownsMap.kept (row:=some g) h ⟨ho.os,ho.tape,ho.output,ho.size,fun i hi hg=>ho.block i hi (fun e=>hg (by rw[e]))⟩ (by simpa using hne)
theorem kVx :IsMap (H:=Value) (.map []):=⟨[],rfl⟩
theorem kSs (k:Int):kS9.atKey (ki k) (.held (.agg kc0.row))=.held (.agg (kPf k).1.row)/\Maps.has kS9 (ki k)=(kPf k).2:=by
 have i0:=kVx;have i1:IsMap ((DataW.map (H:=Value) []).put (ki 1) (.held (.agg kc1.row))):=i0.put _ _;have i2:IsMap (((DataW.map (H:=Value) []).put (ki 1) (.held (.agg kc1.row))).put (ki 2) (.held (.agg kc2.row))):=i1.put _ _;have hne:∀{a b:Int},a≠b->ki a≠ki b:=fun h e=>h (by injection e);unfold kS9 kPf;by_cases h3:k=3
 ·subst h3;rw[atKey_put_same i2 (show WideAt.IsKeyLit (ki 3)from trivial),has_put_same i2 (show WideAt.IsKeyLit (ki 3)from trivial)];exact⟨rfl,rfl⟩
 rw[atKey_put_other (hne h3),has_put_other (hne h3)];by_cases h2:k=2
 ·subst h2;rw[atKey_put_same i1 (show WideAt.IsKeyLit (ki 2)from trivial),has_put_same i1 (show WideAt.IsKeyLit (ki 2)from trivial)];exact⟨rfl,rfl⟩
 rw[atKey_put_other (hne h2),has_put_other (hne h2)];by_cases h1:k=1
 ·subst h1;rw[atKey_put_same i0 (show WideAt.IsKeyLit (ki 1)from trivial),has_put_same i0 (show WideAt.IsKeyLit (ki 1)from trivial)];exact⟨rfl,rfl⟩
 rw[atKey_put_other (hne h1),has_put_other (hne h1),if_neg h1,if_neg h2,if_neg h3];exact⟨rfl,rfl⟩
theorem kTa (h:kOv w b){k:Int}(hk:(Lit.int .i64 k).wf=true):(Instr.lookup 78 (.map (some b)) (.int .i64 k) true).run Tryz.prog w=.ok (.tuple #[.agg (kPf k).1.row,.bool (kPf k).2]) w:=by
 obtain⟨v,ps,hrun,hv⟩:=World.ownsMap.look_ok h kWh Tryz.underlying78 (kW1 w) (zd:=.held (.agg kc0.row)) (zp:=[]) rfl (keyOf_int_mk Tryz.underlying3 hk);obtain⟨e1,e2⟩:=kSs k;rw[show Lit.int .i64 k=ki k from rfl]at hrun hv;rw[e1]at hv;rw[e2]at hrun;unfold kW0 at hv;injection hv with hv;injection hv with hv;injection hv with hv;rw[hrun,hv]
theorem kSt {o:Oper}{k:Int}(h:kOv w b)(hk:(Lit.int .i64 k).wf=true)(hg:o.guard=none)(m x:Operand)(hop:o.op=Op.lookup 78 m x true)(hm:a.eval m=.map (some b))(hx:a.eval x=.int .i64 k)
  (hK:wpList Tryz.prog ops Q rest (a.put o.dst (.tuple #[.agg (kPf k).1.row,.bool (kPf k).2])) w):wpList Tryz.prog ops Q (o::rest) a w:=by
 refine wpList_plain hg fun K' hK'=>?_;unfold Oper.wp;simp[execOp,hop,hm,hx,kTa h hk,Result.andThen];exact hK' _ _ hK
theorem kO6 (w:World){o:Oper}(hg:o.guard=none)(m x v:Operand)(hop:o.op=Op.insert 78 m x v)
  (b n:Nat) (D:DataW Value) (k:Int) (u:Value) (hm:a.eval m=.map (some b)) (hown:KM w b n D) (hl:n<maxLen) (hx:a.eval x=.int .i64 k) (hv:a.eval v=u) (hk:(Lit.int .i64 k).wf=true)
  (hK:∀w',KM w' b (n+1) (D.put (ki k) (.held u))->w.grownBy w' (some b)->wpList Tryz.prog ops Q rest (a.put o.dst undef) w'):wpList Tryz.prog ops Q (o::rest) a w:=by
 refine wpList_plain hg fun K' hK'=>?_;obtain⟨w',hrun,r1,r2⟩:=World.ownsMap.update hown kWh Tryz.underlying78 hl (keyOf_int_mk Tryz.underlying3 hk) (val:=u) (d:=.held u) (ps:=[]) rfl;unfold Oper.wp;simp[execOp,hop,hm,hx,hv,hrun,Result.andThen];exact hK' _ _ (hK w' r1 r2)
theorem kQs {P:Program}{dst:Option Nat}{t ty:TypeId}{m x v:Operand}{pos:String}{af:Array Edge}(h:wpList P ops Q ({dst:=dst,op:=.insert t m x v,type:=ty,pos:=pos,after:=af,guard:=none}::rest) a w):wpList P ops Q ({dst:=dst,op:=.insert t m x v,type:=ty,pos:=pos,after:=af,guard:=none}::rest) a w:=h
def kYh (w:World)(e:Ending)(w':World):Prop:=∃b,e=.returned (.map (some b))/\kOv w' b/\w.heap.size<=b/\Below w.heap.size w w'
theorem kO7 (w:World):Calls Tryz.prog 27 #[] w (kYh w):=by
 have hmm:=@run_makeMap Tryz.prog;have xM:=hd (World.ownsMap_made (H:=Value) w Tryz.prog 3 kW0);have aB:=hd ((Below.refl w.heap.size w).alloc Km (.map #[] 0));go_enter Tryz.func27,Tryz.ntmps27
 go_wp2_with(first
  |((with_reducible refine kQs ?_);have _g:=xM;refine kO6 _ rfl _ _ _ rfl w.heap.size 0 _ 1 (.agg kc1.row) rfl xM.o Kd rfl rfl rfl ?_;clear xM;intro w1 h1 g1;have lO:=hd h1;have aO:=hd (kO0 aB.o g1 (fun j hj=>by injection hj with hj;omega));clear h1 g1)
  |((with_reducible refine kQs ?_);have _g:=lO;refine kO6 _ rfl _ _ _ rfl w.heap.size 1 _ 2 (.agg kc2.row) rfl lO.o Kd rfl rfl rfl ?_;clear lO;intro w2 h2 g2;have qq:=hd h2;have aL:=hd (kO0 aO.o g2 (fun j hj=>by injection hj with hj;omega));clear h2 g2)
  |((with_reducible refine kQs ?_);have _g:=qq;refine kO6 _ rfl _ _ _ rfl w.heap.size 2 _ 3 (.agg kc3.row) rfl qq.o Kd rfl rfl rfl ?_;clear qq;intro w3 h3 g3;have Dg:=hd h3;have bT:=hd (kO0 aL.o g3 (fun j hj=>by injection hj with hj;omega));clear h3 g3))
 go_ret
 exact⟨w.heap.size,rfl,Dg.o,Nat.le_refl _,bT.o⟩
open Go.RowKit
open Go.WideShapes (add_plain)
def kXt (w:World)(n:Nat)(cs:List RC)(e:Ending)(w':World):Prop:=∃A c,e=.returned (.slice A n c)/\w'.ownsRow w.heap.size 37 11 (.slice A n c) n (cellsR cs)/\Below w.heap.size w w'
theorem kQ7 {c:Nat}(hn:cs.length=n)(hl:n<=10000)(hp:VL w w.heap.size A (cellsR cs)):Calls Tryz.prog 78 #[.slice A n c] w (kXt w n cs):=by
 have HV:=hd hp;have HN:=hd hn;clear hp hn;rcases A with _|a
 ·have hnil:=fun W=>Go.Lib.run_eql_slice_nil (P:=Tryz.prog) W 42 37 none n c 0 0 Tryz.underlying42;have HL:=hd (show cs=[] by
   rcases Classical.em (cs=[])with h|h
   ·exact h
   ·obtain⟨_,_,h2,_⟩:=HV.o (by
     intro e;have h3:=kOq cs;rw[e]at h3;exact h (List.eq_nil_of_length_eq_zero (by simp at h3;omega)))
    cases h2)
  have hz:n=0:=by rw[<-HN.o,HL.o];rfl
  subst hz;go_enter Tryz.func78,Tryz.ntmps78
  go_wp2
  go_ret
  exact⟨none,0,rfl,by rw[HL.o];exact World.ownsRow_nil _ _ _ _,Below.refl _ _⟩
 ·have hnil:=fun W=>Go.Lib.run_eql_slice_nil (P:=Tryz.prog) W 42 37 (some a) n c 0 0 Tryz.underlying42;go_enter Tryz.func78,Tryz.ntmps78
  go_wp2_with(at_builtin;refine zK7 kYq _ rfl (.tmp 5) (.tmp 6) rfl w.heap.size (.slice (some ⟨w.heap.size,0,none⟩) 0 0) 0 [] rfl (World.ownsRow_made w #[] 0 Km Kg Kc) (some a) n c w.heap.size (cellsR cs) rfl (by rw[kOq,HN.o]) (HV.o.below (Kl.alloc Km _)) (kTy cs) Kg Kb Kc ?_;intro A1 c1 w1 aQ hg1 Dh)
  go_ret
  rw[Nat.zero_add,List.nil_append]at aQ;refine⟨A1,c1,rfl,aQ,kO0 (Kl.alloc Km _) hg1 (fun j hj=>?_)⟩;simp[Value.ownBlock]at hj;omega
def kPz (w:World)(g:Nat)(ds:List RC):Prop:=∃cur:Array Value,w.heap[g]? =some (.cells cur 37 (0,0))/\∀(j:Nat)(v:Value),(cellsR ds)[j]? =some v->cur[j]? =some v
theorem kPz.lt (h:kPz w g ds):g<w.heap.size:=by
 obtain⟨cur,h,_⟩:=h;exact(Array.getElem?_eq_some_iff.1 h).1
theorem kPz.keep (h:kPz w g ds)(hb:Below w.heap.size w w'):kPz w' g ds:=by
 have hl:=h.lt;obtain⟨cur,h,h2⟩:=h;exact⟨cur,(hb.block _ hl).trans h,h2⟩
theorem kPz.cell (h:kPz w g ds){v:Value}(hv:(cellsR ds)[j]? =some v):w.cell? ⟨g,j,none⟩=some v:=by
 obtain⟨cur,h,h2⟩:=h;simp[World.cell?,h,h2 j v hv]
theorem kPz.frozen (h:kPz w g ds)(j:Nat):w.frozen? ⟨g,j,none⟩=false:=by
 obtain⟨cur,h,h2⟩:=h;simp[World.frozen?,h]
theorem kPz.vl (h:kPz w g ds):VL w w.heap.size (some ⟨g,0,none⟩) (cellsR ds):=fun _=>⟨g,0,rfl,h.lt,fun k u hk=>by rw[Nat.zero_add];exact h.cell hk⟩
theorem kQ8 :∀{ds:List RC}{k j:Nat}{c c':RC}{x:Value},ds[k]? =some c->j<11->c'.row.toList=c.row.toList.set j x->cellsR (ds.set k c')=(cellsR ds).set (k*11+j) x
 |[],_,_,_,_,_,h,_,_=>by simp at h
 |d::r,0,j,c,c',x,h,hj,hc=>by
  simp only[List.getElem?_cons_zero,Option.some.injEq]at h;subst h;rw[List.set_cons_zero,cellsR,List.flatMap_cons,cellsR,List.flatMap_cons,Nat.zero_mul,Nat.zero_add,List.set_append_left _ _ (show j<11 from hj),hc]
 |d::r,k+1,j,c,c',x,h,hj,hc=>by
  rw[List.getElem?_cons_succ]at h;have ih:=kQ8 h hj hc;rw[List.set_cons_succ,cellsR,List.flatMap_cons,cellsR,List.flatMap_cons,<-cellsR,<-cellsR,ih,List.set_append_right _ _ (show 11<=_ by omega)];have e:d.row.toList.length=11:=rfl;rw[e,show(k+1)*11+j-11=k*11+j by omega]
theorem kPz.set (h:kPz w g ds){c':RC}{x:Value}(hk:ds[k]? =some c)(hj:j<11)(hc:c'.row.toList=c.row.toList.set j x):kPz (w.setCell ⟨g,k*11+j,none⟩ x) g (ds.set k c'):=by
 obtain⟨cur,h,h2⟩:=h;refine⟨_,kAk w g _ cur (k*11+j) x h,fun i v hv=>?_⟩;rw[kQ8 hk hj hc,List.getElem?_set]at hv;rw[Array.getElem?_setIfInBounds];split at hv
 ·rename_i e
  rw[if_pos e];split at hv
  ·rename_i hl
   obtain⟨u,hu⟩:∃u,(cellsR ds)[k*11+j]? =some u:=⟨_,List.getElem?_eq_getElem hl⟩;have:=(Array.getElem?_eq_some_iff.1 (h2 _ _ hu)).1;rw[if_pos this];exact hv
  ·cases hv
 ·rename_i e
  rw[if_neg e];exact h2 i v hv
theorem kTs {c:Nat}(h:w.ownsRow B 37 11 (.slice A n c) n (cellsR ds))(hn:0<n):∃g,A=some ⟨g,0,none⟩/\B<=g/\kPz w g ds:=by
 rcases h.2 with⟨_,h0⟩|⟨g,cap,cur,e,hb,hh,_,_,_,qu⟩
 ·omega
 ·injection e with e1;refine⟨g,e1,hb,cur,hh,fun j v hv=>?_⟩;rw[<-qu,List.getElem?_take]at hv;split at hv
  ·simpa using hv
  ·cases hv
def kVa :Nat->Nat
 |0=>4
 |1=>5
 |2=>7
 |_=>9
theorem kW2 :∀j,kVa j<11
 |0=>by decide
 |1=>by decide
 |2=>by decide
 |_+3=>by show 9<11;decide
def RC.pth (c:RC):Nat->Option Addr×Nat×Nat
 |0=>(c.P,c.np,c.cp)
 |1=>(c.Q,c.nq,c.cq)
 |2=>(c.A,c.na,c.ca)
 |_=>(c.F,c.nf,c.cf)
def RC.setP (c:RC)(A:Option Addr)(m:Nat):Nat->RC
 |0=>{c with P:=A,cp:=m}
 |1=>{c with Q:=A,cq:=m}
 |2=>{c with A:=A,ca:=m}
 |_=>{c with F:=A,cf:=m}
def kNx.pth (r:kNx):Nat->List Int
 |0=>r.p
 |1=>r.q.1
 |2=>r.a.1
 |_=>r.f.1
theorem RC.row_pth (c:RC):∀j,c.row.toList[kVa j]? =some (.slice (c.pth j).1 (c.pth j).2.1 (c.pth j).2.2)
 |0=>rfl
 |1=>rfl
 |2=>rfl
 |_+3=>rfl
theorem RC.row_setP (c:RC)(A:Option Addr)(m:Nat):∀j,(c.setP A m j).row.toList=c.row.toList.set (kVa j) (.slice A (c.pth j).2.1 m)
 |0=>rfl
 |1=>rfl
 |2=>rfl
 |_+3=>rfl
theorem RkA.pth (h:RkA w c r):∀j,kNz w (c.pth j).1 (c.pth j).2.1 (c.pth j).2.2 (r.pth j)
 |0=>h.hp
 |1=>h.hq
 |2=>h.haa
 |_+3=>h.hf
theorem RkA.setP (h:RkA w c r):∀j,kNz w A (c.pth j).2.1 m (r.pth j)->RkA w (c.setP A m j) r
 |0,g=>{h with hp:=g}
 |1,g=>{h with hq:=g}
 |2,g=>{h with haa:=g}
 |_+3,g=>{h with hf:=g}
def kOp (r:kNx):Prop:=r.p.length<=1000/\r.q.1.length<=1000/\r.a.1.length<=1000/\r.f.1.length<=1000
theorem kOp.pth (h:kOp r):∀j,(r.pth j).length<=1000
 |0=>h.1
 |1=>h.2.1
 |2=>h.2.2.1
 |_+3=>h.2.2.2
theorem kTb (h:kWi r=true):kOp r:=by
 obtain⟨a,b,c,d⟩:=kV7 h;exact⟨by omega,by omega,by omega,by omega⟩
structure kQ0 (F:Nat->Prop)(w w':World):Prop where
 os:w'.os=w.os
 tape:w'.tape=w.tape
 output:w'.output=w.output
 size:w.heap.size<=w'.heap.size
 block:∀k,k<w.heap.size->¬F k->w'.heap[k]? =w.heap[k]?
theorem kQ0.refl (F:Nat->Prop)(w:World):kQ0 F w w:=⟨rfl,rfl,rfl,Nat.le_refl _,fun _ _ _=>rfl⟩
theorem kQ0.of_off (h:Off g w w')(hg:F g):kQ0 F w w':=⟨h.os,h.tape,h.output,h.size,fun k hk hF=>h.block k hk (fun e=>hF (e▸hg))⟩
theorem kQ0.of_below (h:Below w.heap.size w w'):kQ0 F w w':=⟨h.os,h.tape,h.output,h.size,fun k hk _=>h.block k hk⟩
theorem kQ0.trans {a b c:World}(h:kQ0 F a b)(k:kQ0 F b c):kQ0 F a c:=⟨k.os.trans h.os,k.tape.trans h.tape,k.output.trans h.output,Nat.le_trans h.size k.size,fun i hi hF=>(k.block i (Nat.lt_of_lt_of_le hi h.size) hF).trans (h.block i hi hF)⟩
theorem kQ0.below (h:kQ0 F w w')(hB:B<=w.heap.size)(hF:∀k,F k->B<=k):Below B w w':=⟨h.os,h.tape,h.output,h.size,fun k hk=>h.block k Kb (fun e=>absurd (hF k e) Kb)⟩
theorem kQ0.high {lo:Nat}(h:kQ0 F w w')(hF:∀k,F k->k<lo):zA5 lo w w':=⟨h.size,fun k h1 h2=>h.block k h2 (fun e=>absurd (hF k e) Kb)⟩
def kQf (F:Nat->Prop)(w:World)(ds:List RC)(us:List kNx):Prop:=∀W,kQ0 F w W->RkL W ds us
theorem kQf.off (h:kQf F w ds us)(ho:kQ0 F w w'):kQf F w' ds us:=fun W h3=>h W (ho.trans h3)
theorem kQf.rk (h:kQf F w ds us):RkL w ds us:=h w (kQ0.refl _ _)
theorem kQf.plain (h:RkL w ds us):kQf (fun _=>False) w ds us:=fun _ ho=>h.later (ho.below Km (fun _ h=>h.elim))
theorem RkL.set (h:RkL w ds us)(hu:us[k]? =some r)(hc:RkA w c r):RkL w (ds.set k c) us:=⟨by rw[List.length_set];exact h.1,fun j d a h1 h2=>by
 rw[List.getElem?_set]at h1;split at h1
 ·rename_i e
  subst e;split at h1
  ·injection h1 with h1;subst h1;rw[hu]at h2;injection h2 with h2;subst h2;exact hc
  ·cases h1
 ·exact h.2 j d a h1 h2⟩
structure Fr (w:World)(F:Nat->Prop)(g:Nat)(us:List kNx)(ds:List RC)(W:World):Prop where
 row:kPz W g ds
 held:kQf (fun k=>k=g∨F k) W ds us
 below:Below w.heap.size w W
 hi:w.heap.size<=g
 lo:∀k,F k->k<w.heap.size
theorem Fr.call (h:Fr w F g us ds W)(hb:Below W.heap.size W W'):Fr w F g us ds W':=⟨h.row.keep hb,h.held.off (kQ0.of_below hb),h.below.trans (hb.mono h.below.size),h.hi,h.lo⟩
theorem Fr.start (hr:kQf F w ds us)(h:kPz W g ds)(hb:Below w.heap.size w W)(hg:w.heap.size<=g)(hF:∀k,F k->k<w.heap.size):Fr w F g us ds W:=
 ⟨h,fun W' ho=>hr W' ⟨ho.os.trans hb.os,ho.tape.trans hb.tape,ho.output.trans hb.output,Nat.le_trans hb.size ho.size,fun k hk hn=>(ho.block k (Nat.lt_of_lt_of_le hk hb.size) (fun e=>e.elim (fun e=>by omega) hn)).trans (hb.block k hk)⟩,hb,hg,hF⟩
theorem Fr.lr (h:Fr w F g us ds W):LR W (some ⟨g,0,none⟩) ds us:=h.held.rk.lr h.row.vl
theorem Fr.at_ (h:Fr w F g us ds W)(hk:k<us.length):∃c r,ds[k]? =some c/\us[k]? =some r/\RkA W c r:=by
 have hk2:k<ds.length:=by rw[h.held.rk.1];exact hk
 exact⟨ds[k],us[k],List.getElem?_eq_getElem hk2,List.getElem?_eq_getElem hk,h.held.rk.2 k _ _ (List.getElem?_eq_getElem hk2) (List.getElem?_eq_getElem hk)⟩
theorem Fr.set (h:Fr w F g us ds W)(hc:ds[k]? =some c)(hu:us[k]? =some r)(hb:Below W.heap.size W W')(hm:(c.pth j).2.1<=m)(hs:zH3 W.heap.size W' (fun X=>IL X X.heap.size A (r.pth j))):
  Fr w F g us (ds.set k (c.setP A m j)) (W'.setCell ⟨g,k*11+kVa j,none⟩ (.slice A (c.pth j).2.1 m)):=by
 have h':=h.call hb;have hgl:=h.row.lt;have ho:Off g W' (W'.setCell ⟨g,k*11+kVa j,none⟩ (.slice A (c.pth j).2.1 m)):=by
  obtain⟨cur,h1,_⟩:=h'.row;exact⟨rfl,rfl,rfl,by simp[World.setCell],fun i _ hne=>Below.heap_setCell _ _ _ _ hne⟩
 have xN:kQ0 (fun k=>k=g∨F k) W' (W'.setCell ⟨g,k*11+kVa j,none⟩ (.slice A (c.pth j).2.1 m)):=kQ0.of_off ho (.inl rfl);refine⟨h'.row.set hc (kW2 j) (RC.row_setP c A m j),fun X hX=>(h'.held X (xN.trans hX)).set hu ?_,(h'.below).trans (ho.below h.hi h'.below.size),h.hi,h.lo⟩;have hk:=(h'.held X (xN.trans hX)).2 k c r hc hu;have hp:=hk.pth j;exact hk.setP j ⟨hp.len,hm,hp.max,hs X ((xN.trans hX).high (fun i hi=>hi.elim (fun e=>by omega) (fun e=>by have:=h.lo i e;have:=h.below.size;omega)))⟩
theorem LR.one (h:LR w A cs [r]):∃b o c,A=some ⟨b,o,none⟩/\b<w.heap.size/\RkA w c r/\w.rangeAt b o c.row.toList:=by
 obtain⟨b,o,c,a,h1,h2,_,h4,h5,h6⟩:=h.at_ (k:=0) Kc;simp only[List.getElem?_cons_zero,Option.some.injEq]at h4;subst h4;rw[Nat.zero_mul,Nat.add_zero]at h6;exact⟨b,o,c,h1,h2,h5,h6⟩
def kW3 (w:World)(us:List kNx)(e:Ending)(w':World):Prop:=∃A n cap cs,e=.returned (.slice A n cap)/\us.length=n/\n<=cap/\LR w' A cs us/\Below w.heap.size w w'
def kVy (w:World)(F:Nat->Prop)(us:List kNx)(e:Ending)(w':World):Prop:=∃A n cap ds,e=.returned (.slice A n cap)/\us.length=n/\n<=cap/\(0<n->∃g,A=some ⟨g,0,none⟩/\Fr w F g us ds w')/\LR w' A ds us/\Below w.heap.size w w'
theorem kXu (w:World)(t u:TypeId)(r s:Array Value):∃W0,(w.alloc (.cells r t)).alloc (.cells s u)=W0/\Below w.heap.size w W0/\jT t W0 w.heap.size r/\jT u W0 (w.heap.size+1) s:=by
 have h1:=(jT.new w t r).alloc (.cells s u);have h2:=jT.new (w.alloc (.cells r t)) u s;have e1:(w.alloc (.cells r t)).heap.size=w.heap.size+1:=by simp
 rw[e1]at h2;exact⟨_,rfl,(Kl.alloc Km _).alloc (by rw[e1];omega) _,h1,h2⟩
theorem jT.node {c:NC}(h:jT 26 W g c.row):W.cell? ⟨g,0,none⟩=some (.bool c.lf)/\W.cell? ⟨g,1,none⟩=some (.slice c.P c.np c.pc)/\W.cell? ⟨g,2,none⟩=some (.slice c.X c.nt c.tc)/\W.cell? ⟨g,3,none⟩=some (.slice c.K c.nk c.kc):=h.four
theorem RkA.ptT (h:RkA w c r)(ht:kOp r):zI4 w (.agg #[.slice c.Q c.nq c.cq,.int .i64 c.qo]) r.q:=h.hq.pt h.hqo (by have:=h.hq.len;have:=ht.2.1;omega)
theorem RkA.paT (h:RkA w c r)(ht:kOp r):zI4 w (.agg #[.slice c.A c.na c.ca,.int .i64 c.ao]) r.a:=h.haa.pt h.hao (by have:=h.haa.len;have:=ht.2.2.1;omega)
theorem RkA.pfT (h:RkA w c r)(ht:kOp r):zI4 w (.agg #[.slice c.F c.nf c.cf,.int .i64 c.fo]) r.f:=h.hf.pt h.hfo (by have:=h.hf.len;have:=ht.2.2.2;omega)
theorem kVz {u v:Value}{p q:List Int×Int}{E:Bool}(hp:zI4 w u p)(hq:zI4 w v q)(hE:samP p q=E):Calls Tryz.prog 63 #[u,v] w (jA (.bool E) w):=hE▸zYt Kl hp hq
theorem kUv {E:Bool}(h:RkA w d r)(ht:kOp r)(hE:(zP r.a&&zP r.f)=E):Calls Tryz.prog 64 #[.agg #[.bool false,.slice d.A d.na d.ca,.int .i64 d.ao,.slice d.F d.nf d.cf,.int .i64 d.fo],.agg #[.bool false,.slice none 0 0,.int .i64 0,.slice none 0 0,.int .i64 0]] w (jA (.bool E) w):=by
 have h2:=zL4 w ⟨false,r.a,r.f⟩ ⟨false,([],0),([],0)⟩ d.A d.F none none d.na d.nf 0 0 d.ca d.cf 0 0 (by rw[h.hao];exact h.paT ht) (by rw[h.hfo];exact h.pfT ht) (zI4.zero _) (zI4.zero _);rw[<-hE];have e:zF7 ⟨false,r.a,r.f⟩ ⟨false,([],0),([],0)⟩=(zP r.a&&zP r.f):=by
  unfold zF7 zP;simp
 rw[e]at h2;simp only at h2;rw[h.hao,h.hfo]at h2;exact h2
def kPg (k1 k2 k3:Bool)(np:Nat)(E1 E2:Bool):Bool:=(k1&&decide (0<np))||((k2&& !E1)||(k3&& !E2))
theorem kP0 {k1 k2 k3 E1 E2:Bool}(hr:RkA w d r)(ht:kOp r)(e1:(d.kind !=1)=k1)(e2:(d.kind !=2)=k2)(e3:(d.kind !=3)=k3)(mA:zP r.q=E1)(jf:(zP r.a&&zP r.f)=E2):Calls Tryz.prog 28 #[.agg d.row] w (jA (.bool (kPg k1 k2 k3 d.np E1 E2)) w):=by
 obtain⟨W0,hW⟩:∃W0,w.alloc (.cells d.row 37)=W0:=⟨_,rfl⟩;have hv:=(kN3 w d).1;have hb:=(kN3 w d).2;rw[hW]at hv hb;have HK:=hd (fun W(h:Below W0.heap.size W0 W)=>(hv.keep h).eleven);have HR:=hd (fun W(h:Below W0.heap.size W0 W)=>(hr.later hb).later h);have HT:=hd ht;have hm:=hr.hp.max;have H1:=hd mA;have H2:=hd jf;have HW:=hd hW;have HB:=hd hb;have ae:=hd (Below.refl W0.heap.size W0);clear hW hb hv hr ht mA jf;obtain⟨⟨u0,u1,u2,u3⟩,u4,⟨u5,u6⟩,u7,u8,u9,AO⟩:=HK.o _ ae.o;go_enter Tryz.func28,Tryz.ntmps28
 go_upto_region 1 with fail
 rw[HW.o];go_wp2_with(first
  |(go_at_call 63;refine Calls.mono (kVz ((HR.o _ ae.o).ptT HT.o) (zI4.zero _) H1.o) ?_;rintro e w9 ⟨rfl,b9⟩;have ae:=hd (zI ae.o b9);clear b9 u0 u1 u2 u3 u4 u5 u6 u7 u8 u9 AO;obtain⟨⟨u0,u1,u2,u3⟩,u4,⟨u5,u6⟩,u7,u8,u9,AO⟩:=HK.o _ ae.o)
  |(go_at_call 64;refine Calls.mono (kUv (HR.o _ ae.o) HT.o H2.o) ?_;rintro e w9 ⟨rfl,b9⟩;have ae:=hd (zI ae.o b9);clear b9))
 all_goals(go_ret;refine⟨kC ?_,HB.o.trans (ae.o.mono HB.o.size)⟩)
 all_goals first
  |(unfold kPg;simp_all;done)
  |(unfold kPg;simp_all;omega)
  |(unfold kPg;simp_all;intros;simp_all;omega)
theorem kUw {n k:NT}{i:Int}{r:List Int}(h:zBh n i=some k):(zGm n (i::r)).2=(zGm k r).2:=by unfold zGm;rw[kB,h]
theorem kR9 {n:NT}{i:Int}{r:List Int}(h:zBh n i=none):(zGm n (i::r)).2=5:=by unfold zGm;rw[kB,h]
structure kYi (w:World)(n:NT)(p:List Int)(k:Nat)(c:NC)(m:NT)(W:World):Prop where
 at_:∃d,zV d w w.heap.size (.agg c.row) m
 ans:(zGm n p).2=(zGm m (p.drop k)).2
 below:Below w.heap.size w W
 var:jT 26 W w.heap.size c.row
theorem kTt {c:NC}{n:NT}{p:List Int}{lp cap:Nat}{E:Int}(hn:kS w c n)(bc:p.length=lp)(hl:lp<=10000)(hp:IL w w.heap.size A p)(hE:(zGm n p).2=E):Calls Tryz.prog 54 #[.agg c.row,.slice A lp cap] w (jA (.int .i64 E) w):=by
 subst hE;have HD:=hd (show kYi w n p 0 c n (w.alloc (.cells c.row 26))from⟨hn,rfl,Kl.alloc Km _,jT.new w _ _⟩);have HP:=hd hp;have HL:=hd bc;obtain⟨W0,hW⟩:∃W0,w.alloc (.cells c.row 26)=W0:=⟨_,rfl⟩;rw[hW]at HD;have HW:=hd hW;clear hn hp bc hW;go_enter Tryz.func54,Tryz.ntmps54
 go_upto_region 1 with fail
 rw[HW.o];go_wp2_with fail
 go_loopw [9] (fun i wr=>∃k:Nat,k<=lp/\i=.int .i64 k/\∃c m,Kr (kYi w n p k c m wr)) (fun i _=>lp-(intOf i).toNat)
 case atStart=>exact⟨0,Nat.zero_le _,rfl,c,n,HD⟩
 case round=>
  obtain⟨k,hk,rfl,c,m,HD⟩:=hrel;by_cases hlt:k<lp
  ·obtain⟨b,o,rfl,hb,hc⟩:=HP.o.at_ (k:=k) (by rw[HL.o];exact hlt);have hx:=(HD.o.below.cell (p:=⟨b,o+k,none⟩) hb).trans hc;obtain⟨v,hv⟩:∃v,iAt p k=v:=⟨_,rfl⟩;have hdr:p.drop k=v::p.drop (k+1):=by
    rw[List.drop_eq_getElem_cons (by rw[HL.o];exact hlt),<-hv,jY p k (by rw[HL.o];exact hlt)]
   rw[hv]at hx;have xO:=hd hdr;obtain⟨n0,n1,n2,n3⟩:=HD.o.var.node;obtain⟨d,jc⟩:=HD.o.at_;obtain⟨d',lf,ps,tx,ks,PA,pc,TA,tc,KA,kc,rfl,hm,hcr,_,_,hfit,hks⟩:=jc.open_;have iH:c.nk=ks.length:=by
    unfold NC.row at hcr;simp at hcr;exact hcr.2.2.2.2.1
   have Di:c.K=KA:=by
    unfold NC.row at hcr;simp at hcr;exact hcr.2.2.2.1
   have hkl:m.ks=ks:=by rw[hm];rfl
   have Dj:ks.length<=1759218604441:=hfit.2.2.2.1;clear hcr hfit hm;subst Di;rw[iH]at n3;by_cases hv0:v<0
   ·have HE:=hd (show(zGm n p).2=5 by rw[HD.o.ans,xO.o,kR9 (zJx (by unfold zOf;simp;omega))]);clear hks hdr hkl iH;go_wp2_with fail
    go_ret
    exact⟨zAj HE.o.symm,HD.o.below⟩
   obtain⟨vn,rfl⟩:∃vn:Nat,v=vn:=⟨v.toNat,by omega⟩;clear hv0;by_cases hvl:vn<ks.length
   ·obtain⟨m2,b2,o2,lf2,ie,ig,ij,ik,im,ip,iq,ir,kc2,hm2,e2,hb2,tS,c0,c1,c2,c3⟩:=hks.at_ hvl;rw[e2]at n3;have c0:=(HD.o.below.cell (p:=⟨b2,o2+vn*4,none⟩) hb2).trans c0;have c1:=(HD.o.below.cell (p:=⟨b2,o2+vn*4+1,none⟩) hb2).trans c1;have c2:=(HD.o.below.cell (p:=⟨b2,o2+vn*4+2,none⟩) hb2).trans c2;have c3:=(HD.o.below.cell (p:=⟨b2,o2+vn*4+3,none⟩) hb2).trans c3;have nr:=hd tS;have xP:=hd (show(zGm n p).2=(zGm m2 (p.drop (k+1))).2 by
     rw[HD.o.ans,xO.o,kUw (k:=m2)];unfold zBh;rw[if_pos Kb,hkl];simpa using hm2)
    clear hks hdr hkl iH hm2 tS e2;go_wp2_with(first
     |((with_reducible refine zF (ty:=26) (x:=.tmp 2) ?_);refine zA zD (r:=(⟨lf2,ie,ig,ij,ik,im,ip,iq,ir,kc2⟩:NC).row) HD.o.var rfl rfl Ka _ _ rfl rfl rfl rfl rfl ?_;intro W9 av aj;have HD:=hd (show kYi w n p (k+1) ⟨lf2,ie,ig,ij,ik,im,ip,iq,ir,kc2⟩ m2 W9 from⟨⟨_,nr.o⟩,xP.o,zN HD.o.below aj Km,av⟩);clear av aj))
    go_roundw
    case rel=>exact⟨k+1,by omega,by go_num,_,_,HD⟩
    case measure=>simp[intOf];omega
   ·have HE:=hd (show(zGm n p).2=5 by rw[HD.o.ans,xO.o,kR9 (zJx (by unfold zOf;rw[hkl];simp;omega))]);clear hks hdr hkl iH;go_wp2_with fail
    go_ret
    exact⟨zAj HE.o.symm,HD.o.below⟩
  ·obtain rfl:k=lp:=Kb;have HE:=hd (show(zGm n p).2=0 by rw[HD.o.ans,List.drop_of_length_le (Nat.le_of_eq HL.o)];rfl);clear hlt;go_wp2_with fail
   go_ret
   exact⟨zAj HE.o.symm,HD.o.below⟩
theorem kV0 (c:RC)(i0:TypeInfo)(hz1:i0.size=11):Instr.fill (fun i=>some (i*i0.size,i0.size)) ((Array.range (1*i0.size)).map ((Value.agg RC.zero.row).cells[· % (Value.agg RC.zero.row).cells.size]!)) #[(0,Value.agg c.row)].toList=some c.row:=by
 rw[hz1];have h:=Great.fill_whole (s:=11) Kb [Value.agg c.row] ((Array.range (1*11)).map ((Value.agg RC.zero.row).cells[· % (Value.agg RC.zero.row).cells.size]!)) (by intro v hv;simp at hv;subst hv;rfl) Kc;exact h.trans (by simp[Value.cells])
theorem kRp (W:World)(c:RC):(Instr.buildSlice 42 1 #[(0,.agg c.row)]).run Tryz.prog W=.ok (.slice (some ⟨W.heap.size,0,none⟩) 1 1) (W.alloc (.cells c.row 37)):=by
 obtain⟨i0,hi,hz0,hz1,hz2⟩:=info_parts kU5;exact run_buildSlice (P:=Tryz.prog) W 42 37 1 #[(0,.agg c.row)] c.row i0 _ Tryz.underlying42 hi hz0 (by rw[hz1];decide) (by rw[hz1];decide) (kV0 c i0 hz1)
theorem kRq (W:World)(c:RC):VL (W.alloc (.cells c.row 37)) (W.alloc (.cells c.row 37)).heap.size (some ⟨W.heap.size,0,none⟩) (cellsR [c]):=fun _=>
 ⟨W.heap.size,0,rfl,by simp,fun k u hk=>by
  rw[kTx]at hk;rw[Nat.zero_add,World.cell?_alloc_at _ _ _ _ rfl];simpa using hk⟩
theorem kN0 {o:Oper}(x:Operand)(ho:o.op=.buildSlice 42 1 #[(0,x)])(hgd:o.guard=none)(hx:a.eval x=.agg c.row)
  (hk:wpList Tryz.prog ops Q rest (a.put o.dst (.slice (some ⟨W.heap.size,0,none⟩) 1 1)) (W.alloc (.cells c.row 37))):wpList Tryz.prog ops Q (o::rest) a W:=by
 refine wpList_plain hgd fun K hK=>?_;unfold Oper.wp execOp;simp only[ho,List.map_toArray,List.map_cons,List.map_nil,hx,Sem.run_bind,kRp,Result.andThen_ok];exact hK _ _ hk
theorem kO8 {t:TypeId}(hrow:kC5 t n){o:Oper}{r:Array Value}(h:jT t W g r)(hn:r.size=n)(x:Operand)(ho:o.op=.load t x)(hx:a.eval x=.pointer (some ⟨g,0,none⟩)):(execOp a.eval o).run Tryz.prog W=.ok (.value (.agg r)) W:=by
 obtain⟨d,h1,h2,h3⟩:=hrow;have hr:=run_loadAt_mid W g 0 t r.toList d (fun i v hi=>by rw[Nat.zero_add];exact h.cell i v (by simpa using hi)) h1 h2 (by rw[h3,<-hn];simp);unfold execOp;simp only[Instr.loadAt,Instr.sureAddr,Sem.run_bind,Sem.run_pure,Result.andThen_ok]at hr;simp only[ho,hx,Instr.loadAt,Instr.sureAddr,Sem.run_bind,Sem.run_pure,Result.andThen_ok,hr]
theorem kXv (h:RkA W d r):LR (W.alloc (.cells d.row 37)) (some ⟨W.heap.size,0,none⟩) [d] [r]:=(RkL.one (h.later (kN3 W d).2)).lr (kRq W d)
