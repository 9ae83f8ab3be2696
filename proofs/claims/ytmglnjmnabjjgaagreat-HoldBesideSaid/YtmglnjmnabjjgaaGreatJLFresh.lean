import Derived.Test.YtmglnjmnabjjgaaGreatJUDo
set_option maxRecDepth 100000
set_option maxHeartbeats 8000000
namespace Go.Proofs.YtmglnjmnabjjgaaGreat
open Go.RowKit
open Go.WideShapes (add_plain)
variable {W W' w w':World}{A:Option Addr}{cs ds:List RC}{B cap g j k m n:Nat}{c d:RC}{r:kN5}{F:Nat->Prop}{us:List kN5}{a:OpP}{Q:Exit->Act->World->Prop}
def kVl (w:World)(n:Nat)(cs:List RC)(e:Ending)(w':World):Prop:=∃A c,e=.returned (.slice A n c)/\w'.ownsRow w.heap.size 37 11 (.slice A n c) n (cellsR cs)/\Below w.heap.size w w'
theorem kP3 {c:Nat}(hn:cs.length=n)(hl:n<=10000)(hp:VL w w.heap.size A (cellsR cs)):Calls Tryz.prog 78 #[.slice A n c] w (kVl w n cs):=by
 have HV:=hd hp;have HN:=hd hn;clear hp hn;rcases A with _|a
 ·have hnil:=fun W=>Go.Lib.run_eql_slice_nil (P:=Tryz.prog) W 42 37 none n c 0 0 Tryz.underlying42;have HL:=hd (show cs=[] by
   rcases Classical.em (cs=[])with h|h
   ·exact h
   ·obtain⟨_,_,h2,_⟩:=HV.o (by
     intro e;have h3:=kOd cs;rw[e]at h3;exact h (List.eq_nil_of_length_eq_zero (by simp at h3;omega)))
    cases h2)
  have hz:n=0:=by rw[<-HN.o,HL.o];rfl
  subst hz;go_enter Tryz.func78,Tryz.ntmps78
  go_wp2
  go_ret
  exact⟨none,0,rfl,by rw[HL.o];exact World.ownsRow_nil _ _ _ _,Below.refl _ _⟩
 ·have hnil:=fun W=>Go.Lib.run_eql_slice_nil (P:=Tryz.prog) W 42 37 (some a) n c 0 0 Tryz.underlying42;go_enter Tryz.func78,Tryz.ntmps78
  go_wp2_with(at_builtin;refine zK7 kWf _ rfl (.tmp 5) (.tmp 6) rfl w.heap.size (.slice (some ⟨w.heap.size,0,none⟩) 0 0) 0 [] rfl (World.ownsRow_made w #[] 0 Km Kg Kc) (some a) n c w.heap.size (cellsR cs) rfl (by rw[kOd,HN.o]) (HV.o.below (Kl.alloc Km _)) (kSh cs) Kg Kb Kc ?_;intro A1 c1 w1 aI hg1 Bb)
  go_ret
  rw[Nat.zero_add,List.nil_append]at aI;refine⟨A1,c1,rfl,aI,kOi (Kl.alloc Km _) hg1 (fun j hj=>?_)⟩;simp[Value.ownBlock]at hj;omega
def kO4 (w:World)(g:Nat)(ds:List RC):Prop:=∃cur:Array Value,w.heap[g]? =some (.cells cur 37 (0,0))/\∀(j:Nat)(v:Value),(cellsR ds)[j]? =some v->cur[j]? =some v
theorem kO4.lt (h:kO4 w g ds):g<w.heap.size:=by
 obtain⟨cur,h,_⟩:=h;exact(Array.getElem?_eq_some_iff.1 h).1
theorem kO4.keep (h:kO4 w g ds)(hb:Below w.heap.size w w'):kO4 w' g ds:=by
 have hl:=h.lt;obtain⟨cur,h,h2⟩:=h;exact⟨cur,(hb.block _ hl).trans h,h2⟩
theorem kO4.cell (h:kO4 w g ds){v:Value}(hv:(cellsR ds)[j]? =some v):w.cell? ⟨g,j,none⟩=some v:=by
 obtain⟨cur,h,h2⟩:=h;simp[World.cell?,h,h2 j v hv]
theorem kO4.frozen (h:kO4 w g ds)(j:Nat):w.frozen? ⟨g,j,none⟩=false:=by
 obtain⟨cur,h,h2⟩:=h;simp[World.frozen?,h]
theorem kO4.vl (h:kO4 w g ds):VL w w.heap.size (some ⟨g,0,none⟩) (cellsR ds):=fun _=>⟨g,0,rfl,h.lt,fun k u hk=>by rw[Nat.zero_add];exact h.cell hk⟩
theorem kP4 :∀{ds:List RC}{k j:Nat}{c c':RC}{x:Value},ds[k]? =some c->j<11->c'.row.toList=c.row.toList.set j x->cellsR (ds.set k c')=(cellsR ds).set (k*11+j) x
 |[],_,_,_,_,_,h,_,_=>by simp at h
 |d::r,0,j,c,c',x,h,hj,hc=>by
  simp only[List.getElem?_cons_zero,Option.some.injEq]at h;subst h;rw[List.set_cons_zero,cellsR,List.flatMap_cons,cellsR,List.flatMap_cons,Nat.zero_mul,Nat.zero_add,List.set_append_left _ _ (show j<11 from hj),hc]
 |d::r,k+1,j,c,c',x,h,hj,hc=>by
  rw[List.getElem?_cons_succ]at h;have ih:=kP4 h hj hc;rw[List.set_cons_succ,cellsR,List.flatMap_cons,cellsR,List.flatMap_cons,<-cellsR,<-cellsR,ih,List.set_append_right _ _ (show 11<=_ by omega)];have e:d.row.toList.length=11:=rfl;rw[e,show(k+1)*11+j-11=k*11+j by omega]
theorem kO4.set (h:kO4 w g ds){c':RC}{x:Value}(hk:ds[k]? =some c)(hj:j<11)(hc:c'.row.toList=c.row.toList.set j x):kO4 (w.setCell ⟨g,k*11+j,none⟩ x) g (ds.set k c'):=by
 obtain⟨cur,h,h2⟩:=h;refine⟨_,kAk w g _ cur (k*11+j) x h,fun i v hv=>?_⟩;rw[kP4 hk hj hc,List.getElem?_set]at hv;rw[Array.getElem?_setIfInBounds];split at hv
 ·rename_i e
  rw[if_pos e];split at hv
  ·rename_i hl
   obtain⟨u,hu⟩:∃u,(cellsR ds)[k*11+j]? =some u:=⟨_,List.getElem?_eq_getElem hl⟩;have:=(Array.getElem?_eq_some_iff.1 (h2 _ _ hu)).1;rw[if_pos this];exact hv
  ·cases hv
 ·rename_i e
  rw[if_neg e];exact h2 i v hv
theorem kSb {c:Nat}(h:w.ownsRow B 37 11 (.slice A n c) n (cellsR ds))(hn:0<n):∃g,A=some ⟨g,0,none⟩/\B<=g/\kO4 w g ds:=by
 rcases h.2 with⟨_,h0⟩|⟨g,cap,cur,e,hb,hh,_,_,_,ov⟩
 ·omega
 ·injection e with e1;refine⟨g,e1,hb,cur,hh,fun j v hv=>?_⟩;rw[<-ov,List.getElem?_take]at hv;split at hv
  ·simpa using hv
  ·cases hv
def kTk :Nat->Nat
 |0=>4
 |1=>5
 |2=>7
 |_=>9
theorem kUy :∀j,kTk j<11
 |0=>by decide
 |1=>by decide
 |2=>by decide
 |_+3=>by show 9<11;decide
def RC.pth (c:RC):Nat->Option Addr×Nat×Nat
 |0=>(c.P,c.np,c.cp)
 |1=>(c.Q,c.nq,c.cq)
 |2=>(c.A,c.na,c.ca)
 |_=>(c.F,c.nf,c.cf)
def RC.setP (c:RC)(A:Option Addr)(m:Nat):Nat->RC
 |0=>{c with P:=A,cp:=m}
 |1=>{c with Q:=A,cq:=m}
 |2=>{c with A:=A,ca:=m}
 |_=>{c with F:=A,cf:=m}
def kN5.pth (r:kN5):Nat->List Int
 |0=>r.p
 |1=>r.q.1
 |2=>r.a.1
 |_=>r.f.1
theorem RC.row_pth (c:RC):∀j,c.row.toList[kTk j]? =some (.slice (c.pth j).1 (c.pth j).2.1 (c.pth j).2.2)
 |0=>rfl
 |1=>rfl
 |2=>rfl
 |_+3=>rfl
theorem RC.row_setP (c:RC)(A:Option Addr)(m:Nat):∀j,(c.setP A m j).row.toList=c.row.toList.set (kTk j) (.slice A (c.pth j).2.1 m)
 |0=>rfl
 |1=>rfl
 |2=>rfl
 |_+3=>rfl
theorem RkA.pth (h:RkA w c r):∀j,kOh w (c.pth j).1 (c.pth j).2.1 (c.pth j).2.2 (r.pth j)
 |0=>h.hp
 |1=>h.hq
 |2=>h.haa
 |_+3=>h.hf
theorem RkA.setP (h:RkA w c r):∀j,kOh w A (c.pth j).2.1 m (r.pth j)->RkA w (c.setP A m j) r
 |0,g=>{h with hp:=g}
 |1,g=>{h with hq:=g}
 |2,g=>{h with haa:=g}
 |_+3,g=>{h with hf:=g}
def kQ0 (r:kN5):Prop:=r.p.length<=1000/\r.q.1.length<=1000/\r.a.1.length<=1000/\r.f.1.length<=1000
theorem kQ0.pth (h:kQ0 r):∀j,(r.pth j).length<=1000
 |0=>h.1
 |1=>h.2.1
 |2=>h.2.2.1
 |_+3=>h.2.2.2
structure kPw (F:Nat->Prop)(w w':World):Prop where
 os:w'.os=w.os
 tape:w'.tape=w.tape
 output:w'.output=w.output
 size:w.heap.size<=w'.heap.size
 block:∀k,k<w.heap.size->¬F k->w'.heap[k]? =w.heap[k]?
theorem kPw.refl (F:Nat->Prop)(w:World):kPw F w w:=⟨rfl,rfl,rfl,Nat.le_refl _,fun _ _ _=>rfl⟩
theorem kPw.of_off (h:Off g w w')(hg:F g):kPw F w w':=⟨h.os,h.tape,h.output,h.size,fun k hk hF=>h.block k hk (fun e=>hF (e▸hg))⟩
theorem kPw.of_below (h:Below w.heap.size w w'):kPw F w w':=⟨h.os,h.tape,h.output,h.size,fun k hk _=>h.block k hk⟩
theorem kPw.trans {a b c:World}(h:kPw F a b)(k:kPw F b c):kPw F a c:=⟨k.os.trans h.os,k.tape.trans h.tape,k.output.trans h.output,Nat.le_trans h.size k.size,fun i hi hF=>(k.block i (Nat.lt_of_lt_of_le hi h.size) hF).trans (h.block i hi hF)⟩
theorem kPw.below (h:kPw F w w')(hB:B<=w.heap.size)(hF:∀k,F k->B<=k):Below B w w':=⟨h.os,h.tape,h.output,h.size,fun k hk=>h.block k Kb (fun e=>absurd (hF k e) Kb)⟩
theorem kPw.high {lo:Nat}(h:kPw F w w')(hF:∀k,F k->k<lo):zA5 lo w w':=⟨h.size,fun k h1 h2=>h.block k h2 (fun e=>absurd (hF k e) Kb)⟩
def kPa (F:Nat->Prop)(w:World)(ds:List RC)(us:List kN5):Prop:=∀W,kPw F w W->RkL W ds us
theorem kPa.off (h:kPa F w ds us)(ho:kPw F w w'):kPa F w' ds us:=fun W h3=>h W (ho.trans h3)
theorem kPa.rk (h:kPa F w ds us):RkL w ds us:=h w (kPw.refl _ _)
theorem kPa.plain (h:RkL w ds us):kPa (fun _=>False) w ds us:=fun _ ho=>h.later (ho.below Km (fun _ h=>h.elim))
theorem RkL.set (h:RkL w ds us)(hu:us[k]? =some r)(hc:RkA w c r):RkL w (ds.set k c) us:=⟨by rw[List.length_set];exact h.1,fun j d a h1 h2=>by
 rw[List.getElem?_set]at h1;split at h1
 ·rename_i e
  subst e;split at h1
  ·injection h1 with h1;subst h1;rw[hu]at h2;injection h2 with h2;subst h2;exact hc
  ·cases h1
 ·exact h.2 j d a h1 h2⟩
structure Fr (w:World)(F:Nat->Prop)(g:Nat)(us:List kN5)(ds:List RC)(W:World):Prop where
 row:kO4 W g ds
 held:kPa (fun k=>k=g∨F k) W ds us
 below:Below w.heap.size w W
 hi:w.heap.size<=g
 lo:∀k,F k->k<w.heap.size
theorem Fr.call (h:Fr w F g us ds W)(hb:Below W.heap.size W W'):Fr w F g us ds W':=⟨h.row.keep hb,h.held.off (kPw.of_below hb),h.below.trans (hb.mono h.below.size),h.hi,h.lo⟩
theorem Fr.start (hr:kPa F w ds us)(h:kO4 W g ds)(hb:Below w.heap.size w W)(hg:w.heap.size<=g)(hF:∀k,F k->k<w.heap.size):Fr w F g us ds W:=
 ⟨h,fun W' ho=>hr W' ⟨ho.os.trans hb.os,ho.tape.trans hb.tape,ho.output.trans hb.output,Nat.le_trans hb.size ho.size,fun k hk hn=>(ho.block k (Nat.lt_of_lt_of_le hk hb.size) (fun e=>e.elim (fun e=>by omega) hn)).trans (hb.block k hk)⟩,hb,hg,hF⟩
theorem Fr.lr (h:Fr w F g us ds W):LR W (some ⟨g,0,none⟩) ds us:=h.held.rk.lr h.row.vl
theorem Fr.at_ (h:Fr w F g us ds W)(hk:k<us.length):∃c r,ds[k]? =some c/\us[k]? =some r/\RkA W c r:=by
 have hk2:k<ds.length:=by rw[h.held.rk.1];exact hk
 exact⟨ds[k],us[k],List.getElem?_eq_getElem hk2,List.getElem?_eq_getElem hk,h.held.rk.2 k _ _ (List.getElem?_eq_getElem hk2) (List.getElem?_eq_getElem hk)⟩
theorem Fr.set (h:Fr w F g us ds W)(hc:ds[k]? =some c)(hu:us[k]? =some r)(hb:Below W.heap.size W W')(hm:(c.pth j).2.1<=m)(hs:zH3 W.heap.size W' (fun X=>IL X X.heap.size A (r.pth j))):
  Fr w F g us (ds.set k (c.setP A m j)) (W'.setCell ⟨g,k*11+kTk j,none⟩ (.slice A (c.pth j).2.1 m)):=by
 have h':=h.call hb;have hgl:=h.row.lt;have ho:Off g W' (W'.setCell ⟨g,k*11+kTk j,none⟩ (.slice A (c.pth j).2.1 m)):=by
  obtain⟨cur,h1,_⟩:=h'.row;exact⟨rfl,rfl,rfl,by simp[World.setCell],fun i _ hne=>Below.heap_setCell _ _ _ _ hne⟩
 have vz:kPw (fun k=>k=g∨F k) W' (W'.setCell ⟨g,k*11+kTk j,none⟩ (.slice A (c.pth j).2.1 m)):=kPw.of_off ho (.inl rfl);refine⟨h'.row.set hc (kUy j) (RC.row_setP c A m j),fun X hX=>(h'.held X (vz.trans hX)).set hu ?_,(h'.below).trans (ho.below h.hi h'.below.size),h.hi,h.lo⟩;have hk:=(h'.held X (vz.trans hX)).2 k c r hc hu;have hp:=hk.pth j;exact hk.setP j ⟨hp.len,hm,hp.max,hs X ((vz.trans hX).high (fun i hi=>hi.elim (fun e=>by omega) (fun e=>by have:=h.lo i e;have:=h.below.size;omega)))⟩
theorem LR.one (h:LR w A cs [r]):∃b o c,A=some ⟨b,o,none⟩/\b<w.heap.size/\RkA w c r/\w.rangeAt b o c.row.toList:=by
 obtain⟨b,o,c,a,h1,h2,_,h4,h5,h6⟩:=h.at_ (k:=0) Kc;simp only[List.getElem?_cons_zero,Option.some.injEq]at h4;subst h4;rw[Nat.zero_mul,Nat.add_zero]at h6;exact⟨b,o,c,h1,h2,h5,h6⟩
def kVm (w:World)(us:List kN5)(e:Ending)(w':World):Prop:=∃A n cap cs,e=.returned (.slice A n cap)/\us.length=n/\n<=cap/\LR w' A cs us/\Below w.heap.size w w'
def kTx (w:World)(F:Nat->Prop)(us:List kN5)(e:Ending)(w':World):Prop:=∃A n cap ds,e=.returned (.slice A n cap)/\us.length=n/\n<=cap/\(0<n->∃g,A=some ⟨g,0,none⟩/\Fr w F g us ds w')/\LR w' A ds us/\Below w.heap.size w w'
theorem kTy (c:RC)(i0:TypeInfo)(hz1:i0.size=11):Instr.fill (fun i=>some (i*i0.size,i0.size)) ((Array.range (1*i0.size)).map ((Value.agg RC.zero.row).cells[· % (Value.agg RC.zero.row).cells.size]!)) #[(0,Value.agg c.row)].toList=some c.row:=by
 rw[hz1];have h:=Great.fill_whole (s:=11) Kb [Value.agg c.row] ((Array.range (1*11)).map ((Value.agg RC.zero.row).cells[· % (Value.agg RC.zero.row).cells.size]!)) (by intro v hv;simp at hv;subst hv;rfl) Kc;exact h.trans (by simp[Value.cells])
theorem kQj (W:World)(c:RC):(Instr.buildSlice 42 1 #[(0,.agg c.row)]).run Tryz.prog W=.ok (.slice (some ⟨W.heap.size,0,none⟩) 1 1) (W.alloc (.cells c.row 37)):=by
 obtain⟨i0,hi,hz0,hz1,hz2⟩:=info_parts kTf;exact run_buildSlice (P:=Tryz.prog) W 42 37 1 #[(0,.agg c.row)] c.row i0 _ Tryz.underlying42 hi hz0 (by rw[hz1];decide) (by rw[hz1];decide) (kTy c i0 hz1)
theorem kUz (W:World)(c:RC):VL (W.alloc (.cells c.row 37)) (W.alloc (.cells c.row 37)).heap.size (some ⟨W.heap.size,0,none⟩) (cellsR [c]):=fun _=>
 ⟨W.heap.size,0,rfl,by simp,fun k u hk=>by
  rw[kSg]at hk;rw[Nat.zero_add,World.cell?_alloc_at _ _ _ _ rfl];simpa using hk⟩
theorem kPb {ops:Array Oper}{rest:List Oper}{o:Oper}{a:Act}(x:Operand)(ho:o.op=.buildSlice 42 1 #[(0,x)])(hgd:o.guard=none)(hx:a.eval x=.agg c.row)
  (hk:wpList Tryz.prog ops Q rest (a.put o.dst (.slice (some ⟨W.heap.size,0,none⟩) 1 1)) (W.alloc (.cells c.row 37))):wpList Tryz.prog ops Q (o::rest) a W:=by
 refine wpList_plain hgd fun K hK=>?_;unfold Oper.wp execOp;simp only[ho,List.map_toArray,List.map_cons,List.map_nil,hx,Sem.run_bind,kQj,Result.andThen_ok];exact hK _ _ hk
theorem kQ1 {t:TypeId}(hrow:kC5 t n){a:Act}{o:Oper}{r:Array Value}(h:jT t W g r)(hn:r.size=n)(x:Operand)(ho:o.op=.load t x)(hx:a.eval x=.pointer (some ⟨g,0,none⟩)):(execOp a.eval o).run Tryz.prog W=.ok (.value (.agg r)) W:=by
 obtain⟨d,h1,h2,h3⟩:=hrow;have hr:=run_loadAt_mid W g 0 t r.toList d (fun i v hi=>by rw[Nat.zero_add];exact h.cell i v (by simpa using hi)) h1 h2 (by rw[h3,<-hn];simp);unfold execOp;simp only[Instr.loadAt,Instr.sureAddr,Sem.run_bind,Sem.run_pure,Result.andThen_ok]at hr;simp only[ho,hx,Instr.loadAt,Instr.sureAddr,Sem.run_bind,Sem.run_pure,Result.andThen_ok,hr]
theorem kVn (h:RkA W d r):LR (W.alloc (.cells d.row 37)) (some ⟨W.heap.size,0,none⟩) [d] [r]:=(RkL.one (h.later (kTe W d).2)).lr (kUz W d)
theorem kS6 :kC5 76 3:=⟨.struct (Tryz.prog.fieldsOf 76),by kernel_rfl,rfl,by kernel_rfl⟩
theorem kTz (k:Int):(kPc k).1.chk.oneCell'=true/\(kPc k).1.along.oneCell'=true:=by
 unfold kPc;split
 ·exact⟨rfl,rfl⟩
 ·split
  ·exact⟨rfl,rfl⟩
  ·split
   ·exact⟨rfl,rfl⟩
   ·exact⟨rfl,rfl⟩
theorem kVo {kc:KC}(h:kc.chk.oneCell'=true/\kc.along.oneCell'=true):∀u ∈ [Value.int .i64 kc.last,kc.chk,kc.along],u.oneCell'=true:=by
 intro u hu;simp at hu;rcases hu with rfl|rfl|rfl
 ·rfl
 ·exact h.1
 ·exact h.2
def kSc (r:kN5):kN5:={kVv with id:=r.id,kind:=r.kind,aff:=r.aff}
def kV8 (xs:List Value):Nat->List Value->List Value
 |_,[]=>xs
 |j,v::r=>kV8 (xs.set j v) (j+1) r
theorem kRu :∀(vs:List Value)(j:Nat)(xs:List Value)(cur:Array Value),(∀(i:Nat)(v:Value),xs[i]? =some v->cur[i]? =some v)->∀(i:Nat)(v:Value),(kV8 xs j vs)[i]? =some v->(zU4 cur j vs)[i]? =some v
 |[],_,_,_,h=>h
 | u ::r,j,xs,cur,h=>kRu r (j+1) (xs.set j u) (cur.setIfInBounds j u) fun i v hv=>by
   rw[List.getElem?_set]at hv;rw[Array.getElem?_setIfInBounds];split at hv
   ·rename_i e
    rw[if_pos e];split at hv
    ·rename_i hl
     obtain⟨x,hx⟩:∃x,xs[j]? =some x:=⟨_,List.getElem?_eq_getElem hl⟩;rw[if_pos (Array.getElem?_eq_some_iff.1 (h _ _ hx)).1];exact hv
    ·cases hv
   ·rename_i e
    rw[if_neg e];exact h i v hv
theorem kP5 {ty:TypeId}(hsz:(Tryz.prog.info? ty).map (·.size)=some n){op:Oper}{a:Act}{K:Act->World->Prop}(h:kO4 W g ds)(x y:Operand)(ho:op.op=.store ty x y)(hd:op.dst=none)
  (j:Nat) (v:Value) (vs:List Value) (ds':List RC) (hx:a.eval x=.pointer (some ⟨g,j,none⟩)) (hy:a.eval y=v) (hv:v.cells=vs.toArray) (hn:vs.length=n) (h1:∀u ∈ vs,u.oneCell'=true) (hp:0<n) (hj:j+vs.length<=(cellsR ds).length) (hds:cellsR ds'=kV8 (cellsR ds) j vs)
  (hk:∀W',kO4 W' g ds'->Off g W W'->K a W'):Oper.wp Tryz.prog op a W K Q:=by
 obtain⟨cur,hc,hcc⟩:=h;have hl:j+vs.length<=cur.size:=by
  have hi:j+vs.length-1<(cellsR ds).length:=Kb;have:=(Array.getElem?_eq_some_iff.1 (hcc _ _ (List.getElem?_eq_getElem hi))).1;omega
 refine zY hsz hc x y ho hd j v vs hx hy hv hn h1 hl (fun W' hv' ho'=>hk W' ⟨_,hv',fun i u hu=>?_⟩ ho');rw[hds]at hu;exact kRu vs j _ cur hcc i u hu
theorem kS7 :(Tryz.prog.info? 27).map (·.size)=some 1:=Ka
theorem kT0 {c:Nat}:∀u ∈ [Value.slice A n c],u.oneCell'=true:=by
 intro u hu;simp at hu;subst hu;rfl
def kS8 (g:Nat)(d:RC)(res:kN5×Bool)(W:World)(e:Ending)(w':World):Prop:=∃d',e=.returned (.bool res.2)/\kO4 w' g [d']/\Off g W w'/\d'.id=d.id/\d'.kind=d.kind/\d'.aff=d.aff/\(res.2=true->RkA w' d' res.1)
theorem OkA.xqa {o:OC}(ho:OkA w o a)(ta:zAf a):XA w (.slice o.Q o.lq o.cq) a.q:=⟨_,_,_,rfl,ho.hlq,by have:=ta.hq;have:=ho.hlq;omega,ho.hcq,ho.hq⟩
theorem OkA.xta {o:OC}(ho:OkA w o a)(ta:zAf a):XA w (.slice o.T o.lt o.ct) a.t:=⟨_,_,_,rfl,ho.hlt,by have:=ta.ht;have:=ho.hlt;omega,ho.hct,ho.ht⟩
theorem kT1 {c:Nat}{o:OC}{p:List Int}{r:List Int×Bool}(hp:kOh w A n c p)(hl:p.length<=1000)(ho:OkA w o a)(ta:zAf a)(hr:jF a.k a.q a.t a.z p=r):Calls Tryz.prog 46 #[.slice A n c,.agg o.row] w (kBb w r):=by
 have hx:XA w (.slice A n c) p:=⟨A,n,c,rfl,hp.len,by have:=hp.len;omega,hp.cap,hp.il⟩;have hk:=ho.hk;have hz:=ho.hz;rw[hk,hz]at hr;exact kIh hx (ho.xqa ta) (ho.xta ta) hr
theorem kU0 {o:OC}{x:List Int}{b:Bool}(hrow:kO4 w g [d])(hk:∀W,Off g w W->RkA W d r)(ho:OkA w o a)(ta:zAf a)(hl:r.p.length<=1000)(hm:jF a.k a.q a.t a.z r.p=(x,b)):
  Calls Tryz.prog 55 #[.pointer (some ⟨g,0,none⟩),.agg o.row] w (kS8 g d ({r with p:=x},b) w):=by
 have hv:=jT.new w 35 o.row;have hb:Below w.heap.size w (w.alloc (.cells o.row 35)):=Kl.alloc Km _;have HO:=hd (ho.later hb);have bH:=hd hk;have ax:=hd ta;have HM:=hd hm;have HL:=hd hl;have fW:=hd (hrow.keep hb);have HV:=hd hv;have hgl:=hrow.lt;have fI:=hd (Off.of_below (g:=g) hb);obtain⟨W0,hW⟩:∃W0,w.alloc (.cells o.row 35)=W0:=⟨_,rfl⟩;rw[hW]at HO fW HV fI;have HW:=hd hW;clear hrow hk ho ta hm hl hv hb hW;go_enter Tryz.func55,Tryz.ntmps55
 go_upto_region 1 with fail
 rw[HW.o];refine kTd (S:=fun W'=>kO4 W' g [d]/\jT 35 W' w.heap.size o.row) (m:=6) Ka ?_;have aa:=hd (show kO4 W0.drew g [d]/\jT 35 W0.drew w.heap.size o.row from⟨fW.o,HV.o⟩);refine kOa (i:=0) (n:=13) (.pointer (some ⟨g,0,none⟩)) rfl Ka Ka Ka Ka (fun _ _ _ h=>h) Ke (fun W9=>?_) aa.o ?_
 ·go_simp
 simp only[Act.put,List.setIfInBounds_toArray,List.set_cons_succ,List.set_cons_zero,List.getElem_toArray,List.getElem_cons_zero];refine kOa (i:=1) (n:=12) (.pointer (some ⟨g,0,none⟩)) rfl Ka Ka Ka Ka (fun _ _ _ h=>h) Ke (fun W9=>?_) aa.o ?_
 ·go_simp
 simp only[Act.put,List.setIfInBounds_toArray,List.set_cons_succ,List.set_cons_zero,List.getElem_toArray,List.getElem_cons_succ,List.getElem_cons_zero];refine kOa (i:=2) (n:=11) (.pointer (some ⟨g,0,none⟩)) rfl Ka Ka Ka Ka (fun _ _ _ h=>h) Ke (fun W9=>?_) aa.o ?_
 ·go_simp
 simp only[Act.put,List.setIfInBounds_toArray,List.set_cons_succ,List.set_cons_zero,List.getElem_toArray,List.getElem_cons_succ,List.getElem_cons_zero];refine kOa (i:=3) (n:=10) (.pointer (some ⟨g,4,none⟩)) rfl Ka Ka Ka Ka (fun _ _ _ h=>h) Ke (fun W9=>?_) aa.o ?_
 ·go_simp
 simp only[Act.put,List.setIfInBounds_toArray,List.set_cons_succ,List.set_cons_zero,List.getElem_toArray,List.getElem_cons_succ,List.getElem_cons_zero];refine kQ4 (i:=4) (n:=9) (.slice d.P d.np d.cp) rfl Ka Ka Ka Ka Ka (fun _ _ _ h=>h) Ke (fun W9 ag=>?_) aa.o ?_
 ·have h9:W9.cell? ⟨g,4,none⟩=some (.slice d.P d.np d.cp):=ag.1.cell rfl;go_simp
 simp only[Act.put,List.setIfInBounds_toArray,List.set_cons_succ,List.set_cons_zero,List.getElem_toArray,List.getElem_cons_succ,List.getElem_cons_zero];refine kQ4 (i:=5) (n:=8) (.agg o.row) rfl Ka Ka Ka Ka Ka (fun _ _ _ h=>h) Ke (fun W9 ag=>?_) aa.o ?_
 ·exact kQ1 zMk ag.2 rfl _ rfl rfl
 simp only[Act.put,List.setIfInBounds_toArray,List.set_cons_succ,List.set_cons_zero,List.getElem_toArray,List.getElem_cons_succ,List.getElem_cons_zero];have fI:=hd (fI.o.trans (Off.of_below (Below.refl W0.heap.size W0).drew));have HO:=hd (HO.o.later (Below.refl W0.heap.size W0).drew);obtain⟨W1,hW1⟩:∃W1,W0.drew=W1:=⟨_,rfl⟩;rw[hW1]at aa fI HO⊢;clear hW1;refine kVu (n:=7) Ka rfl Ka (fun K hK=>?_);rw[if_pos Ke];go_simp;go_at_call 46
 refine(kT1 (bH.o _ fI.o).hp HL.o HO.o ax.o HM.o).mono ?_;rintro e w2 ⟨v,rfl,hv,b9⟩;have hlx:=hv.open_;simp only at hlx hv;obtain⟨lx,hle⟩:∃k,x.length=k:=⟨_,rfl⟩;rw[hle]at hlx;obtain⟨X,cx,rfl,hcx,hmx,hil⟩:=hlx;have qI:=hd hle;have Bc:=hd hmx;clear hle hmx;have xN:=hd (zI6 hv);have xO:=hd hcx;have fW:=hd (aa.o.1.keep b9);have fI:=hd (fI.o.trans (Off.of_below b9));have vA:=aa.o.1.lt;clear hv hil b9 hcx aa;refine hK _ _ ?_;clear hK K;simp only;refine Ko 7 6 (.tuple #[.slice X lx cx,.bool b]) (fun W9 _=>?_) trivial ?_
 ·go_simp
 simp only[Act.put,List.setIfInBounds_toArray,List.set_cons_succ,List.set_cons_zero,List.getElem_toArray,List.getElem_cons_succ,List.getElem_cons_zero];refine Ko 8 5 (.slice X lx cx) (fun W9 _=>?_) trivial ?_
 ·go_simp
 simp only[Act.put,List.setIfInBounds_toArray,List.set_cons_succ,List.set_cons_zero,List.getElem_toArray,List.getElem_cons_succ,List.getElem_cons_zero];refine Ko 9 4 (.bool b) (fun W9 _=>?_) trivial ?_
 ·go_simp
 simp only[Act.put,List.setIfInBounds_toArray,List.set_cons_succ,List.set_cons_zero,List.getElem_toArray,List.getElem_cons_succ,List.getElem_cons_zero];refine Ko 10 3 (.pointer (some ⟨g,0,none⟩)) (fun W9 _=>?_) trivial ?_
 ·go_simp
 simp only[Act.put,List.setIfInBounds_toArray,List.set_cons_succ,List.set_cons_zero,List.getElem_toArray,List.getElem_cons_succ,List.getElem_cons_zero];refine Ko 11 2 (.pointer (some ⟨g,4,none⟩)) (fun W9 _=>?_) trivial ?_
 ·go_simp
 simp only[Act.put,List.setIfInBounds_toArray,List.set_cons_succ,List.set_cons_zero,List.getElem_toArray,List.getElem_cons_succ,List.getElem_cons_zero];refine Kq 12 1 (fun K hK=>?_);rw[if_pos Ke];refine kP5 kS7 fW.o _ _ rfl rfl 4 (.slice X lx cx) [.slice X lx cx] [{d with P:=X,np:=lx,cp:=cx}] rfl rfl rfl rfl kT0 Kd (by rw[kOd];show 4+1<=1*11;decide) rfl ?_;intro W5 xP l9;have fW:=hd xP;have fI:=hd (fI.o.trans l9);have mC:=hd (show RkA W5 {d with P:=X,np:=lx,cp:=cx} {r with p:=x}from{bH.o _ fI.o with hp:=⟨qI.o,xO.o,Nat.le_trans xO.o (by have h1:=Bc.o;unfold maxLen at h1;omega),xN.o W5 (zA5.off l9 vA)⟩});clear xP l9 xN;refine hK _ _ (fun _=>trivial) ?_;clear hK K;refine Kq 13 0 (fun K hK=>?_);rw[if_pos Ke];go_simp;refine hK _ _ (fun _=>trivial) (zAl Ka ?_);clear hK K;go_wp2_with fail
 go_ret
 exact⟨_,rfl,fW.o,fI.o,rfl,rfl,rfl,fun _=>mC.o⟩
theorem kT2 :Calls Tryz.prog 36 #[.slice A 0 cap] w (kTx w F []):=by
 have HC:=hd (kP3 (cs:=[]) (n:=0) (c:=cap) rfl Kb (VL.nil w w.heap.size A));go_enter Tryz.func36,Tryz.ntmps36
 go_wp2_with(go_at_call 78;refine HC.o.mono ?_;rintro e w1 ⟨A1,c1,rfl,aI,hb1⟩)
 go_loopw [12] (fun i wr=>i=.int .i64 0/\wr=w1) (fun _ _=>0)
 case atStart=>exact⟨rfl,rfl⟩
 case round=>
  obtain⟨rfl,rfl⟩:=hrel;go_wp2
  go_ret
  exact⟨A1,0,c1,[],rfl,rfl,Nat.zero_le _,fun h=>absurd h (Nat.lt_irrefl _),LR.nil _ _,hb1⟩
theorem kT3 (h:LR w A cs us)(hh:kPa F w cs us)(hF:∀k,F k->k<w.heap.size)(hn:us.length=n)(hl:n<=10000)(h0:0<n)(ht:∀r ∈ us,kQ0 r):Calls Tryz.prog 36 #[.slice A n cap] w (kTx w F us):=by
 have HC:=hd (kP3 (n:=n) (c:=cap) (by rw[h.hl];exact hn) hl h.hv);have HK:=hd hh;have sO:=hd hF;have HN:=hd hn;have HT:=hd ht;clear h hn ht hh hF;go_enter Tryz.func36,Tryz.ntmps36
 go_wp2_with(go_at_call 78;refine HC.o.mono ?_;rintro e w1 ⟨A1,c1,rfl,aI,hb1⟩;have hle:n<=c1:=(kU7 aI).1;obtain⟨g,rfl,hg,hrow⟩:=kSb aI h0;have HF:=hd (Fr.start HK.o hrow hb1 hg sO.o);clear aI hb1 hg hrow)
 go_loopw [12] (fun i wr=>∃k:Nat,k<=n/\i=.int .i64 k/\∃ds,Kr (Fr w F g us ds wr)) (fun i _=>n-(intOf i).toNat)
 case atStart=>exact⟨0,Nat.zero_le _,rfl,cs,HF⟩
 case round=>
  obtain⟨k,hk1,rfl,ds,HF⟩:=hrel;by_cases hlt:k<n
  ·go_upto_region 6 with fail
   refine jO (S:=fun _=>True) (z:=fun _=>false) Ka ?_;have aa:=hd trivial;refine Kp 0 19 (.pointer (some ⟨g,k*11,none⟩)) aa.o ?_;simp only[Act.put,List.setIfInBounds_toArray,List.set_cons_succ,List.set_cons_zero,List.getElem_toArray,List.getElem_cons_zero];refine Kp 1 18 (.pointer (some ⟨g,k*11,none⟩)) aa.o ?_;simp only[Act.put,List.setIfInBounds_toArray,List.set_cons_succ,List.set_cons_zero,List.getElem_toArray,List.getElem_cons_succ,List.getElem_cons_zero];refine Kp 2 17 (.pointer (some ⟨g,k*11+4,none⟩)) aa.o ?_;simp only[Act.put,List.setIfInBounds_toArray,List.set_cons_succ,List.set_cons_zero,List.getElem_toArray,List.getElem_cons_succ,List.getElem_cons_zero];refine Kp 3 16 (.pointer (some ⟨g,k*11,none⟩)) aa.o ?_;simp only[Act.put,List.setIfInBounds_toArray,List.set_cons_succ,List.set_cons_zero,List.getElem_toArray,List.getElem_cons_succ,List.getElem_cons_zero];refine Kp 4 15 (.pointer (some ⟨g,k*11,none⟩)) aa.o ?_;simp only[Act.put,List.setIfInBounds_toArray,List.set_cons_succ,List.set_cons_zero,List.getElem_toArray,List.getElem_cons_succ,List.getElem_cons_zero];refine Kp 5 14 (.pointer (some ⟨g,k*11+5,none⟩)) aa.o ?_;simp only[Act.put,List.setIfInBounds_toArray,List.set_cons_succ,List.set_cons_zero,List.getElem_toArray,List.getElem_cons_succ,List.getElem_cons_zero];refine Kp 6 13 (.pointer (some ⟨g,k*11+5,none⟩)) aa.o ?_;simp only[Act.put,List.setIfInBounds_toArray,List.set_cons_succ,List.set_cons_zero,List.getElem_toArray,List.getElem_cons_succ,List.getElem_cons_zero];refine Kp 7 12 (.pointer (some ⟨g,k*11,none⟩)) aa.o ?_;simp only[Act.put,List.setIfInBounds_toArray,List.set_cons_succ,List.set_cons_zero,List.getElem_toArray,List.getElem_cons_succ,List.getElem_cons_zero];refine Kp 8 11 (.pointer (some ⟨g,k*11,none⟩)) aa.o ?_;simp only[Act.put,List.setIfInBounds_toArray,List.set_cons_succ,List.set_cons_zero,List.getElem_toArray,List.getElem_cons_succ,List.getElem_cons_zero];refine Kp 9 10 (.pointer (some ⟨g,k*11+7,none⟩)) aa.o ?_;simp only[Act.put,List.setIfInBounds_toArray,List.set_cons_succ,List.set_cons_zero,List.getElem_toArray,List.getElem_cons_succ,List.getElem_cons_zero];refine Kp 10 9 (.pointer (some ⟨g,k*11+7,none⟩)) aa.o ?_;simp only[Act.put,List.setIfInBounds_toArray,List.set_cons_succ,List.set_cons_zero,List.getElem_toArray,List.getElem_cons_succ,List.getElem_cons_zero];refine Kp 11 8 (.pointer (some ⟨g,k*11+7,none⟩)) aa.o ?_;simp only[Act.put,List.setIfInBounds_toArray,List.set_cons_succ,List.set_cons_zero,List.getElem_toArray,List.getElem_cons_succ,List.getElem_cons_zero];refine Kp 12 7 (.pointer (some ⟨g,k*11,none⟩)) aa.o ?_;simp only[Act.put,List.setIfInBounds_toArray,List.set_cons_succ,List.set_cons_zero,List.getElem_toArray,List.getElem_cons_succ,List.getElem_cons_zero];refine Kp 13 6 (.pointer (some ⟨g,k*11,none⟩)) aa.o ?_;simp only[Act.put,List.setIfInBounds_toArray,List.set_cons_succ,List.set_cons_zero,List.getElem_toArray,List.getElem_cons_succ,List.getElem_cons_zero];refine Kp 14 5 (.pointer (some ⟨g,k*11+7,none⟩)) aa.o ?_;simp only[Act.put,List.setIfInBounds_toArray,List.set_cons_succ,List.set_cons_zero,List.getElem_toArray,List.getElem_cons_succ,List.getElem_cons_zero];refine Kp 15 4 (.pointer (some ⟨g,k*11+9,none⟩)) aa.o ?_;simp only[Act.put,List.setIfInBounds_toArray,List.set_cons_succ,List.set_cons_zero,List.getElem_toArray,List.getElem_cons_succ,List.getElem_cons_zero];refine Kp 16 3 (.pointer (some ⟨g,k*11+9,none⟩)) aa.o ?_;simp only[Act.put,List.setIfInBounds_toArray,List.set_cons_succ,List.set_cons_zero,List.getElem_toArray,List.getElem_cons_succ,List.getElem_cons_zero];refine Kp 19 2 (.int .i64 0) aa.o ?_;simp only[Act.put,List.setIfInBounds_toArray,List.set_cons_succ,List.set_cons_zero,List.getElem_toArray,List.getElem_cons_succ,List.getElem_cons_zero];have HF:=hd (HF.o.call (Below.refl wr.heap.size wr).drew);generalize wr.drew=W at HF⊢
   refine Kq 17 1 (fun K hK=>?_);rw[if_pos Ke];go_simp;have hgl:=HF.o.row.lt;have HH:=hd (show∀j,j<4->(W.alloc (.cells #[.pointer (some ⟨g,k*11+4,none⟩),.pointer (some ⟨g,k*11+5,none⟩),.pointer (some ⟨g,k*11+7,none⟩),.pointer (some ⟨g,k*11+9,none⟩)] 122)).cell? ⟨W.heap.size,j,none⟩=some (.pointer (some ⟨g,k*11+kTk j,none⟩))from fun j hj=>by
    rw[World.cell?_alloc_at _ _ _ _ rfl];match j,hj with
    |0,_=>rfl
    |1,_=>rfl
    |2,_=>rfl
    |3,_=>rfl)
   have HF:=hd (HF.o.call ((Below.refl W.heap.size W).alloc Km (.cells #[.pointer (some ⟨g,k*11+4,none⟩),.pointer (some ⟨g,k*11+5,none⟩),.pointer (some ⟨g,k*11+7,none⟩),.pointer (some ⟨g,k*11+9,none⟩)] 122)));have qZ:W.heap.size<(W.alloc (.cells #[.pointer (some ⟨g,k*11+4,none⟩),.pointer (some ⟨g,k*11+5,none⟩),.pointer (some ⟨g,k*11+7,none⟩),.pointer (some ⟨g,k*11+9,none⟩)] 122)).heap.size:=by simp
   generalize W.alloc (.cells #[.pointer (some ⟨g,k*11+4,none⟩),.pointer (some ⟨g,k*11+5,none⟩),.pointer (some ⟨g,k*11+7,none⟩),.pointer (some ⟨g,k*11+9,none⟩)] 122)=W1 at HF HH qZ⊢
   obtain⟨h,hh⟩:∃h,W.heap.size=h:=⟨_,rfl⟩;rw[hh]at HH qZ hgl⊢;refine hK _ _ (fun _=>trivial) ?_;clear hK K;refine Kq 18 0 (fun K hK=>?_);rw[if_pos Ke];go_simp;refine hK _ _ (fun _=>trivial) (zAl Ka ?_);clear hK K;go_wp2_with fail
   go_loopw [37] (fun i wr2=>∃j:Nat,j<=4/\i=.int .i64 j/\(∃ds,Kr (Fr w F g us ds wr2))/\Kr (∀j,j<4->wr2.cell? ⟨h,j,none⟩=some (.pointer (some ⟨g,k*11+kTk j,none⟩)))/\h<wr2.heap.size) (fun i _=>4-(intOf i).toNat)
   case atStart=>exact⟨0,Nat.zero_le _,rfl,⟨ds,HF⟩,HH,qZ⟩
   case round=>
    obtain⟨j,hj,rfl,⟨Bd,fJ⟩,xQ,qZ⟩:=hrel;clear HF HH;by_cases Be:j<4
    ·obtain⟨c,r,hc,hu,cJ⟩:=fJ.o.at_ (k:=k) (by rw[HN.o];exact hlt);have HS:=hd (fun A m W' b hm hs=>fJ.o.set (W':=W') (j:=j) (A:=A) (m:=m) hc hu b hm hs);have hq:=cJ.pth j;have hx:=fJ.o.row.cell (kPt hc (kTk j) _ (RC.row_pth c j));have hpt:=xQ.o j Be;have vB:=(HT.o r (List.mem_of_getElem? hu)).pth j;obtain⟨of,hof⟩:∃of,kTk j=of:=⟨_,rfl⟩;rw[hof]at hx hpt HS;obtain⟨⟨PA,PN,PC⟩,bA⟩:∃q,c.pth j=q:=⟨_,rfl⟩;rw[bA]at hx hq HS;simp only at hx hq HS;have Bh:=hd (zFz PA (r.pth j) PN PC wr hq.len (by have:=hq.len;omega) hq.il);clear hc hu cJ hq vB hof bA;go_wp2_with(go_at_call 77;refine Bh.o.mono ?_;rintro e w5 ⟨A2,c2,rfl,hc2,hst,b9⟩;have HST:=hd hst;have aN:=hd b9;have pN:=hd hc2;have x0:=aN.o.cell (p:=⟨g,k*11+of,none⟩) fJ.o.row.lt;rw[hx]at x0;have f0:=(fJ.o.call aN.o).row.frozen (k*11+of);clear b9 hst hx hc2)
     go_roundw
     case rel=>
      refine⟨j+1,by omega,by go_num,⟨_,hd (HS.o A2 c2 _ aN.o pN.o HST.o)⟩,hd (fun j' hj'=>?_),?_⟩
      ·exact(World.cell?_of_block (Below.heap_setCell _ _ _ _ (show h≠g by omega))).trans ((aN.o.cell (p:=⟨h,j',none⟩) qZ).trans (xQ.o j' hj'))
      ·have:=aN.o.size;simp only[World.size_setCell];omega
     case measure=>simp[intOf];omega
    ·obtain rfl:j=4:=Kb;go_wp2_with fail
     go_roundw
     case rel=>exact⟨k+1,by omega,by go_num,Bd,fJ⟩
     case measure=>simp[intOf];omega
  ·obtain rfl:k=n:=Kb;go_wp2_with fail
   go_ret
   exact⟨some ⟨g,0,none⟩,k,c1,ds,rfl,HN.o,hle,fun _=>⟨g,rfl,HF.o⟩,HF.o.lr,HF.o.below⟩
theorem kT4 (h:LR w A cs us)(hh:kPa F w cs us)(hF:∀k,F k->k<w.heap.size)(hn:us.length=n)(hl:n<=10000)(ht:∀r ∈ us,kQ0 r):Calls Tryz.prog 36 #[.slice A n cap] w (kTx w F us):=by
 rcases Nat.eq_zero_or_pos n with h0|h0
 ·subst h0;obtain rfl:=List.eq_nil_of_length_eq_zero hn;exact kT2
 ·exact kT3 h hh hF hn hl h0 ht
theorem kSd (h:LR w A cs us)(hn:us.length=n)(hl:n<=10000)(ht:∀r ∈ us,kQ0 r):Calls Tryz.prog 36 #[.slice A n cap] w (kTx w (fun _=>False) us):=
 kT4 h (kPa.plain h.rk) (fun _ h=>h.elim) hn hl ht
