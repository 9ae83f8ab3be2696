import Derived.Test.YtmglnjmnabjjgaaGreatJUDo
set_option maxRecDepth 100000
set_option maxHeartbeats 8000000
namespace Go.Proofs.YtmglnjmnabjjgaaGreat
open Go.RowKit
variable {W W' w w':World}{B b cap g j k m n:Nat}{a:Act}{c d:RC}{ops:Array Oper}{rest:List Oper}{op:Oper}{Q:Exit->Act->World->Prop}{A:Option Addr}{cs ds:List RC}{us:List kNj}{E:Bool}{t ty:TypeId}{r:kNj}{D:DataW Value}{P:Program}{dst:Option Nat}{pos:String}{af:Array Edge}{F:Nat->Prop}
theorem kPu {o:Nat}{cs:List Value}(h:w.rangeAt b o cs)(hb:b<w.heap.size)(ho:Below w.heap.size w w'):w'.rangeAt b o cs:=fun j v hv=>by
 rw[ho.cell (p:=⟨b,o+j,none⟩) hb];exact h j v hv
theorem kOk {o:Oper}{off:Nat}(h:W.rangeAt g off c.row.toList)(x:Operand)(ho:o.op=.load 37 x)(hx:a.eval x=.pointer (some ⟨g,off,none⟩)):(execOp a.eval o).run Tryz.prog W=.ok (.value (.agg c.row)) W:=by
 obtain⟨d,h1,h2,h3⟩:=kNu;have hr:=run_loadAt_mid W g off 37 c.row.toList d h h1 h2 h3;unfold execOp;simp only[Instr.loadAt,Instr.sureAddr,Sem.run_bind,Sem.run_pure,Result.andThen_ok]at hr;simp only[ho,hx,Instr.loadAt,Instr.sureAddr,Sem.run_bind,Sem.run_pure,Result.andThen_ok,hr]
theorem kNx (w:World)(c:RC):jT 37 (w.alloc (.cells c.row 37)) w.heap.size c.row/\Below w.heap.size w (w.alloc (.cells c.row 37)):=⟨jT.new w _ _,Kk.alloc Kl _⟩
theorem kOn {old:Array Value}(x y:Operand)(ho:op.op=.store 37 x y)(hgd:op.guard=none)(hd:op.dst=none)(hx:a.eval x=.pointer (some ⟨g,0,none⟩))(hy:a.eval y=.agg c.row)(hg:W.heap.size=g)(hold:old.size=11)
  (hk:wpList Tryz.prog ops Q rest a (W.alloc (.cells c.row 37))):wpList Tryz.prog ops Q (op::rest) a (W.alloc (.cells old 37)):=by
 subst hg;obtain⟨d,h3,h4,h5⟩:=kNu;have hrun:=run_storeVar_row (P:=Tryz.prog) (W.alloc (.cells old 37)) W.heap.size 37 37 old c.row (heap_alloc_new _ _) h5 hold c.one;rw[zXk]at hrun;refine wpList_plain hgd fun K hK=>?_;unfold Oper.wp execOp;simp only[ho,hx,hy,Instr.storeAt,Instr.sureAddr,Sem.run_bind,Sem.run_pure,Result.andThen_ok,hrun];show K (a.put op.dst undef) _
 rw[hd];exact hK _ _ hk
theorem kOq {P:Prop}(h:P:=by
 go_wp2_with(first
  |((with_reducible refine zC (ty:=37) (x:=.tmp 9) ?_);refine kOo HR.o _ rfl rfl rfl ?_)
  |((with_reducible refine zF (ty:=37) (x:=.tmp 4) ?_);refine kOn (c:=c) _ _ rfl rfl rfl rfl rfl rfl rfl ?_;have ak:=(kNx wr c).1;have HB:=hd (zI HB.o (kNx wr c).2);obtain⟨_,u4,⟨u5,_⟩,u7,_,u9,_⟩:=ak.eleven;clear ak)
  |fail)
 go_ret
 first
  |exact⟨by rw[HZ.o];rfl,HB.o⟩
  |exact⟨kC (by rw[HZ.o,HN.o];simp;omega),HB.o⟩
  |fail):P:=h
theorem kPn (h:LR w A cs us)(hn:us.length=n)(h63:n<=9223372036854775807)(hE:kO9 us=E):Calls Tryz.prog 9 #[.slice A n cap] w (jA (.bool E) w):=by
 subst hE;have HL:=hd h;have HN:=hd hn;clear h hn;go_enter Tryz.func9,Tryz.ntmps9
 go_wp2_with fail
 go_loopw [7] (fun i wr=>∃k:Nat,k<=n/\i=.int .i64 k/\Kq (∀(j:Nat)(a:kNj),j<k->us[j]? =some a->kO1 a=true)/\Kq (Below w.heap.size w wr)) (fun i _=>n-(intOf i).toNat)
 case atStart=>exact⟨0,Nat.zero_le _,rfl,hd (fun j a hj=>absurd hj (Nat.not_lt_zero _)),hd Kk⟩
 case round=>
  obtain⟨k,hk1,rfl,HA,HB⟩:=hrel;by_cases hlt:k<n
  ·obtain⟨b,o,c,a,rfl,hb,hc,ha,hok,hrg⟩:=(HL.o.later HB.o).at_ (k:=k) (by rw[HN.o];exact hlt);have HR:=hd hrg;have um:=hd ha;have HM:=hd (show c.np<=9223372036854775807/\c.nq<=9223372036854775807/\c.na<=9223372036854775807/\c.nf<=9223372036854775807 from⟨hok.hp.max,hok.hq.max,hok.haa.max,hok.hf.max⟩);have HE:=hd (show kO1 a=(decide (c.np<=50)&&(decide (c.nq<=50)&&(decide (c.na<=50)&&decide (c.nf<=50)))) by rw[kO1,hok.hp.len,hok.hq.len,hok.haa.len,hok.hf.len]);clear hb hc ha hok hrg;by_cases hf:kO1 a=true
   ·have iK:=hd (show∀(j:Nat)(a:kNj),j<k+1->us[j]? =some a->kO1 a=true from fun j x hj hx=>by
     rcases Nat.lt_or_ge j k with h1|h1
     ·exact HA.o j x h1 hx
     ·obtain rfl:j=k:=Kb;rw[um.o]at hx;injection hx with hx;subst hx;exact hf)
    rw[HE.o]at hf;obtain⟨f1,f2,f3,f4⟩:c.np<=50/\c.nq<=50/\c.na<=50/\c.nf<=50:=by simpa[and_assoc]using hf
    clear hf HA;go_wp2_with(first
     |((with_reducible refine zC (ty:=37) (x:=.tmp 9) ?_);refine kOo HR.o _ rfl rfl rfl ?_)
     |((with_reducible refine zF (ty:=37) (x:=.tmp 4) ?_);refine kOn (c:=c) _ _ rfl rfl rfl rfl rfl rfl rfl ?_;have ak:=(kNx wr c).1;have HB:=hd (zI HB.o (kNx wr c).2);obtain⟨_,u4,⟨u5,_⟩,u7,_,u9,_⟩:=ak.eleven;clear ak))
    go_roundw
    case rel=>exact⟨k+1,by omega,by go_num,iK,HB⟩
    case measure=>simp[intOf];omega
   ·have HZ:=hd (kUg um.o (by simpa using hf));rw[HE.o]at hf;clear HA HE;obtain⟨m1,m2,m3,m4⟩:=HM.o;by_cases f1:c.np<=50
    ·by_cases f2:c.nq<=50
     ·by_cases f3:c.na<=50
      ·have f4:¬c.nf<=50:=fun f4=>hf (by simp[f1,f2,f3,f4]);clear hf;exact kOq
      ·clear hf;exact kOq
     ·clear hf;exact kOq
    ·clear hf;exact kOq
  ·obtain rfl:k=n:=Kb;have HZ:=hd (kTa (l:=us) (fun j a hj=>HA.o j a (by rw[<-HN.o];exact(List.getElem?_eq_some_iff.1 hj).1) hj));clear HA hk1 hlt;exact kOq
theorem kO6 (hb:Below w.heap.size w W)(ho:Off g W W')(hg:w.heap.size<=g):Below w.heap.size w W':=zN hb ho hg
theorem kSy :(Tryz.prog.info? 37).map (fun i=>(i.zero,i.size,i.bytes))=some (some (.agg RC.zero.row),11,152):=Ka
theorem kWi :zQ7 42 37 11 152:=⟨Tryz.underlying42,by
 obtain⟨i0,hi,hz0,hz1,hz2⟩:=info_parts kSy;exact⟨i0,_,hi,hz0,hz1,hz2,rfl⟩,by decide⟩
theorem kUv {size c:Nat}{xs:List Value}(h:w.ownsRow b t size (.slice A n c) n xs):n<=c/\VL w w.heap.size A xs:=by
 rcases h.2 with⟨e,_⟩|⟨g,cap,cur,e,hbg,hg,hnc,_,hsz,lD⟩
 ·injection e with e1 e2 e3;subst e1 e2 e3;exact⟨Nat.le_refl _,fun hn=>absurd (List.eq_nil_of_length_eq_zero (by have:=h.1;omega)) hn⟩
 ·injection e with e1 e2 e3;subst e1 e3;refine⟨hnc,fun _=>⟨g,0,rfl,(Array.getElem?_eq_some_iff.1 hg).1,fun k u hk=>?_⟩⟩;rw[<-lD,List.getElem?_take]at hk;split at hk
  ·simp only[World.cell?,hg,Nat.zero_add];simpa using hk
  ·cases hk
theorem kOl {o:Option Nat}(hb:Below w.heap.size w W)(g:W.grownBy W' o)(ho:∀j,o=some j->w.heap.size<=j):Below w.heap.size w W':=
 hb.trans ⟨g.os,g.tape,g.output,g.size,fun k hk=>g.block k (Nat.lt_of_lt_of_le hk hb.size) (fun e=>absurd (ho k e.symm) Kb)⟩
def RkL (w:World)(cs:List RC)(us:List kNj):Prop:=cs.length=us.length/\∀(k:Nat)(c:RC)(a:kNj),cs[k]? =some c->us[k]? =some a->RkA w c a
theorem RkL.later (h:RkL w cs us)(hb:Below w.heap.size w w'):RkL w' cs us:=⟨h.1,fun k c a h1 h2=>(h.2 k c a h1 h2).later hb⟩
theorem LR.rk (h:LR w A cs us):RkL w cs us:=⟨h.hl,h.ha⟩
theorem RkL.one (h:RkA w c r):RkL w [c] [r]:=⟨rfl,fun j d a h1 h2=>by
 match j with
 |0=>
  simp only[List.getElem?_cons_zero,Option.some.injEq]at h1 h2;subst h1 h2;exact h
 |j+1=>simp at h1⟩
theorem RkL.lr (h:RkL w cs us)(hv:VL w w.heap.size A (cellsR cs)):LR w A cs us:=⟨hv,h.1,h.2⟩
open Go.RowKit Go.Maps
structure KC where
 last:Int
 chk:Value
 along:Value
def KC.row (c:KC):Array Value:=#[.int .i64 c.last,c.chk,c.along]
def fnV (f:FuncId):Value:=.func (.func f) #[] #[]
def kc1 :KC:=⟨0,fnV 53,fnV 55⟩
def kc2 :KC:=⟨2,fnV 56,fnV 58⟩
def kc3 :KC:=⟨4,fnV 59,fnV 61⟩
def kc0 :KC:=⟨0,.nilFunc,.nilFunc⟩
def kOz (k:Int):KC×Bool:=if k=1 then(kc1,true)else if k=2 then(kc2,true)else if k=3 then(kc3,true)else(kc0,false)
def kUw (v:Value):Option (DataW Value×List MemPlace):=some (.held v,[])
def KM (w:World)(b n:Nat)(D:DataW Value):Prop:=w.ownsMap Tryz.prog 3 kUw b n D
abbrev ki (k:Int):Lit:=.int .i64 k
def kRo :DataW Value:=(((DataW.map []).put (ki 1) (.held (.agg kc1.row))).put (ki 2) (.held (.agg kc2.row))).put (ki 3) (.held (.agg kc3.row))
def kOm (w:World)(b:Nat):Prop:=KM w b 3 kRo
theorem kUl :Keyed Tryz.prog 3:=int_keyed Tryz.underlying3
theorem kUx (w:World):(zeroValue 76).run Tryz.prog w=.ok (.agg kc0.row) w:=Ka
theorem KM.lt (h:KM w b n D):b<w.heap.size:=World.ownsMap.lt h
theorem KM.below (h:KM w b n D)(hb:Below w.heap.size w w'):KM w' b n D:=World.ownsMap.kept (row:=none) h ⟨hb.os,hb.tape,hb.output,hb.size,fun i hi _=>hb.block i hi⟩ Kc
theorem KM.off (h:KM w b n D)(ho:Off g w w')(hne:b≠g):KM w' b n D:=World.ownsMap.kept (row:=some g) h ⟨ho.os,ho.tape,ho.output,ho.size,fun i hi hg=>ho.block i hi (fun e=>hg (by rw[e]))⟩ (by simpa using hne)
theorem kT2 :IsMap (H:=Value) (.map []):=⟨[],rfl⟩
theorem kRe (k:Int):kRo.atKey (ki k) (.held (.agg kc0.row))=.held (.agg (kOz k).1.row)/\Maps.has kRo (ki k)=(kOz k).2:=by
 have i0:=kT2;have i1:IsMap ((DataW.map (H:=Value) []).put (ki 1) (.held (.agg kc1.row))):=i0.put _ _;have i2:IsMap (((DataW.map (H:=Value) []).put (ki 1) (.held (.agg kc1.row))).put (ki 2) (.held (.agg kc2.row))):=i1.put _ _;have hne:∀{a b:Int},a≠b->ki a≠ki b:=fun h e=>h (by injection e);unfold kRo kOz;by_cases h3:k=3
 ·subst h3;rw[atKey_put_same i2 (show WideAt.IsKeyLit (ki 3)from trivial),has_put_same i2 (show WideAt.IsKeyLit (ki 3)from trivial)];exact⟨rfl,rfl⟩
 rw[atKey_put_other (hne h3),has_put_other (hne h3)];by_cases h2:k=2
 ·subst h2;rw[atKey_put_same i1 (show WideAt.IsKeyLit (ki 2)from trivial),has_put_same i1 (show WideAt.IsKeyLit (ki 2)from trivial)];exact⟨rfl,rfl⟩
 rw[atKey_put_other (hne h2),has_put_other (hne h2)];by_cases h1:k=1
 ·subst h1;rw[atKey_put_same i0 (show WideAt.IsKeyLit (ki 1)from trivial),has_put_same i0 (show WideAt.IsKeyLit (ki 1)from trivial)];exact⟨rfl,rfl⟩
 rw[atKey_put_other (hne h1),has_put_other (hne h1),if_neg h1,if_neg h2,if_neg h3];exact⟨rfl,rfl⟩
theorem kRp (h:kOm w b){k:Int}(hk:(Lit.int .i64 k).wf=true):(Instr.lookup 78 (.map (some b)) (.int .i64 k) true).run Tryz.prog w=.ok (.tuple #[.agg (kOz k).1.row,.bool (kOz k).2]) w:=by
 obtain⟨v,ps,hrun,hv⟩:=World.ownsMap.look_ok h kUl Tryz.underlying78 (kUx w) (zd:=.held (.agg kc0.row)) (zp:=[]) rfl (keyOf_int_mk Tryz.underlying3 hk);obtain⟨e1,e2⟩:=kRe k;rw[show Lit.int .i64 k=ki k from rfl]at hrun hv;rw[e1]at hv;rw[e2]at hrun;unfold kUw at hv;injection hv with hv;injection hv with hv;injection hv with hv;rw[hrun,hv]
theorem kRf {o:Oper}{k:Int}(h:kOm w b)(hk:(Lit.int .i64 k).wf=true)(hg:o.guard=none)(m x:Operand)(hop:o.op=Op.lookup 78 m x true)(hm:a.eval m=.map (some b))(hx:a.eval x=.int .i64 k)
  (hK:wpList Tryz.prog ops Q rest (a.put o.dst (.tuple #[.agg (kOz k).1.row,.bool (kOz k).2])) w):wpList Tryz.prog ops Q (o::rest) a w:=by
 refine wpList_plain hg fun K' hK'=>?_;unfold Oper.wp;simp[execOp,hop,hm,hx,kRp h hk,Result.andThen];exact hK' _ _ hK
theorem kOr (w:World){o:Oper}(hg:o.guard=none)(m x v:Operand)(hop:o.op=Op.insert 78 m x v)
  (b n:Nat) (D:DataW Value) (k:Int) (u:Value) (hm:a.eval m=.map (some b)) (hown:KM w b n D) (hl:n<maxLen) (hx:a.eval x=.int .i64 k) (hv:a.eval v=u) (hk:(Lit.int .i64 k).wf=true)
  (hK:∀w',KM w' b (n+1) (D.put (ki k) (.held u))->w.grownBy w' (some b)->wpList Tryz.prog ops Q rest (a.put o.dst undef) w'):wpList Tryz.prog ops Q (o::rest) a w:=by
 refine wpList_plain hg fun K' hK'=>?_;obtain⟨w',hrun,r1,r2⟩:=World.ownsMap.update hown kUl Tryz.underlying78 hl (keyOf_int_mk Tryz.underlying3 hk) (val:=u) (d:=.held u) (ps:=[]) rfl;unfold Oper.wp;simp[execOp,hop,hm,hx,hv,hrun,Result.andThen];exact hK' _ _ (hK w' r1 r2)
theorem kPv {m x v:Operand}(h:wpList P ops Q ({dst:=dst,op:=.insert t m x v,type:=ty,pos:=pos,after:=af,guard:=none}::rest) a w):wpList P ops Q ({dst:=dst,op:=.insert t m x v,type:=ty,pos:=pos,after:=af,guard:=none}::rest) a w:=h
def kWe (w:World)(e:Ending)(w':World):Prop:=∃b,e=.returned (.map (some b))/\kOm w' b/\w.heap.size<=b/\Below w.heap.size w w'
theorem kOs (w:World):Calls Tryz.prog 27 #[] w (kWe w):=by
 have hmm:=@run_makeMap Tryz.prog;have rC:=hd (World.ownsMap_made (H:=Value) w Tryz.prog 3 kUw);have ar:=hd ((Below.refl w.heap.size w).alloc Kl (.map #[] 0));go_enter Tryz.func27,Tryz.ntmps27
 go_wp2_with(first
  |((with_reducible refine kPv ?_);have _g:=rC;refine kOr _ rfl _ _ _ rfl w.heap.size 0 _ 1 (.agg kc1.row) rfl rC.o Kd rfl rfl rfl ?_;clear rC;intro w1 h1 g1;have gI:=hd h1;have aA:=hd (kOl ar.o g1 (fun j hj=>by injection hj with hj;omega));clear h1 g1)
  |((with_reducible refine kPv ?_);have _g:=gI;refine kOr _ rfl _ _ _ rfl w.heap.size 1 _ 2 (.agg kc2.row) rfl gI.o Kd rfl rfl rfl ?_;clear gI;intro w2 h2 g2;have lF:=hd h2;have aX:=hd (kOl aA.o g2 (fun j hj=>by injection hj with hj;omega));clear h2 g2)
  |((with_reducible refine kPv ?_);have _g:=lF;refine kOr _ rfl _ _ _ rfl w.heap.size 2 _ 3 (.agg kc3.row) rfl lF.o Kd rfl rfl rfl ?_;clear lF;intro w3 h3 g3;have wP:=hd h3;have eD:=hd (kOl aX.o g3 (fun j hj=>by injection hj with hj;omega));clear h3 g3))
 go_ret
 exact⟨w.heap.size,rfl,wP.o,Nat.le_refl _,eD.o⟩
open Go.WideShapes (add_plain)
def kVo (w:World)(n:Nat)(cs:List RC)(e:Ending)(w':World):Prop:=∃A c,e=.returned (.slice A n c)/\w'.ownsRow w.heap.size 37 11 (.slice A n c) n (cellsR cs)/\Below w.heap.size w w'
theorem kP8 {c:Nat}(hn:cs.length=n)(hl:n<=10000)(hp:VL w w.heap.size A (cellsR cs)):Calls Tryz.prog 78 #[.slice A n c] w (kVo w n cs):=by
 have HV:=hd hp;have HN:=hd hn;clear hp hn;rcases A with _|a
 ·have hnil:=fun W=>Go.Lib.run_eql_slice_nil (P:=Tryz.prog) W 42 37 none n c 0 0 Tryz.underlying42;have HL:=hd (show cs=[] by
   rcases Classical.em (cs=[])with h|h
   ·exact h
   ·obtain⟨_,_,h2,_⟩:=HV.o (by
     intro e;have h3:=kN5 cs;rw[e]at h3;exact h (List.eq_nil_of_length_eq_zero (by simp at h3;omega)))
    cases h2)
  have hz:n=0:=by rw[<-HN.o,HL.o];rfl
  subst hz;go_enter Tryz.func78,Tryz.ntmps78
  go_wp2
  go_ret
  exact⟨none,0,rfl,by rw[HL.o];exact World.ownsRow_nil _ _ _ _,Below.refl _ _⟩
 ·have hnil:=fun W=>Go.Lib.run_eql_slice_nil (P:=Tryz.prog) W 42 37 (some a) n c 0 0 Tryz.underlying42;go_enter Tryz.func78,Tryz.ntmps78
  go_wp2_with(at_builtin;refine zK7 kWi _ rfl (.tmp 5) (.tmp 6) rfl w.heap.size (.slice (some ⟨w.heap.size,0,none⟩) 0 0) 0 [] rfl (World.ownsRow_made w #[] 0 Kl Kg Kc) (some a) n c w.heap.size (cellsR cs) rfl (by rw[kN5,HN.o]) (HV.o.below (Kk.alloc Kl _)) (kR6 cs) Kg Kb Kc ?_;intro A1 c1 w1 aB hg1 wQ)
  go_ret
  rw[Nat.zero_add,List.nil_append]at aB;refine⟨A1,c1,rfl,aB,kOl (Kk.alloc Kl _) hg1 (fun j hj=>?_)⟩;simp[Value.ownBlock]at hj;omega
def kOx (w:World)(g:Nat)(ds:List RC):Prop:=∃cur:Array Value,w.heap[g]? =some (.cells cur 37 (0,0))/\∀(j:Nat)(v:Value),(cellsR ds)[j]? =some v->cur[j]? =some v
theorem kOx.lt (h:kOx w g ds):g<w.heap.size:=by
 obtain⟨cur,h,_⟩:=h;exact(Array.getElem?_eq_some_iff.1 h).1
theorem kOx.keep (h:kOx w g ds)(hb:Below w.heap.size w w'):kOx w' g ds:=by
 have hl:=h.lt;obtain⟨cur,h,h2⟩:=h;exact⟨cur,(hb.block _ hl).trans h,h2⟩
theorem kOx.cell (h:kOx w g ds){v:Value}(hv:(cellsR ds)[j]? =some v):w.cell? ⟨g,j,none⟩=some v:=by
 obtain⟨cur,h,h2⟩:=h;simp[World.cell?,h,h2 j v hv]
theorem kOx.frozen (h:kOx w g ds)(j:Nat):w.frozen? ⟨g,j,none⟩=false:=by
 obtain⟨cur,h,h2⟩:=h;simp[World.frozen?,h]
theorem kOx.vl (h:kOx w g ds):VL w w.heap.size (some ⟨g,0,none⟩) (cellsR ds):=fun _=>⟨g,0,rfl,h.lt,fun k u hk=>by rw[Nat.zero_add];exact h.cell hk⟩
theorem kP9 :∀{ds:List RC}{k j:Nat}{c c':RC}{x:Value},ds[k]? =some c->j<11->c'.row.toList=c.row.toList.set j x->cellsR (ds.set k c')=(cellsR ds).set (k*11+j) x
 |[],_,_,_,_,_,h,_,_=>by simp at h
 |d::r,0,j,c,c',x,h,hj,hc=>by
  simp only[List.getElem?_cons_zero,Option.some.injEq]at h;subst h;rw[List.set_cons_zero,cellsR,List.flatMap_cons,cellsR,List.flatMap_cons,Nat.zero_mul,Nat.zero_add,List.set_append_left _ _ (show j<11 from hj),hc]
 |d::r,k+1,j,c,c',x,h,hj,hc=>by
  rw[List.getElem?_cons_succ]at h;have ih:=kP9 h hj hc;rw[List.set_cons_succ,cellsR,List.flatMap_cons,cellsR,List.flatMap_cons,<-cellsR,<-cellsR,ih,List.set_append_right _ _ (show 11<=_ by omega)];have e:d.row.toList.length=11:=rfl;rw[e,show(k+1)*11+j-11=k*11+j by omega]
theorem kOx.set (h:kOx w g ds){c':RC}{x:Value}(hk:ds[k]? =some c)(hj:j<11)(hc:c'.row.toList=c.row.toList.set j x):kOx (w.setCell ⟨g,k*11+j,none⟩ x) g (ds.set k c'):=by
 obtain⟨cur,h,h2⟩:=h;refine⟨_,kAk w g _ cur (k*11+j) x h,fun i v hv=>?_⟩;rw[kP9 hk hj hc,List.getElem?_set]at hv;rw[Array.getElem?_setIfInBounds];split at hv
 ·rename_i e
  rw[if_pos e];split at hv
  ·rename_i hl
   obtain⟨u,hu⟩:∃u,(cellsR ds)[k*11+j]? =some u:=⟨_,List.getElem?_eq_getElem hl⟩;have:=(Array.getElem?_eq_some_iff.1 (h2 _ _ hu)).1;rw[if_pos this];exact hv
  ·cases hv
 ·rename_i e
  rw[if_neg e];exact h2 i v hv
theorem kSa {c:Nat}(h:w.ownsRow B 37 11 (.slice A n c) n (cellsR ds))(hn:0<n):∃g,A=some ⟨g,0,none⟩/\B<=g/\kOx w g ds:=by
 rcases h.2 with⟨_,h0⟩|⟨g,cap,cur,e,hb,hh,_,_,_,lD⟩
 ·omega
 ·injection e with e1;refine⟨g,e1,hb,cur,hh,fun j v hv=>?_⟩;rw[<-lD,List.getElem?_take]at hv;split at hv
  ·simpa using hv
  ·cases hv
def kTo :Nat->Nat
 |0=>4
 |1=>5
 |2=>7
 |_=>9
theorem kUy :∀j,kTo j<11
 |0=>by decide
 |1=>by decide
 |2=>by decide
 |_+3=>by show 9<11;decide
def RC.pth (c:RC):Nat->Option Addr×Nat×Nat
 |0=>(c.P,c.np,c.cp)
 |1=>(c.Q,c.nq,c.cq)
 |2=>(c.A,c.na,c.ca)
 |_=>(c.F,c.nf,c.cf)
def RC.setP (c:RC)(A:Option Addr)(m:Nat):Nat->RC
 |0=>{c with P:=A,cp:=m}
 |1=>{c with Q:=A,cq:=m}
 |2=>{c with A:=A,ca:=m}
 |_=>{c with F:=A,cf:=m}
def kNj.pth (r:kNj):Nat->List Int
 |0=>r.p
 |1=>r.q.1
 |2=>r.a.1
 |_=>r.f.1
theorem RC.row_pth (c:RC):∀j,c.row.toList[kTo j]? =some (.slice (c.pth j).1 (c.pth j).2.1 (c.pth j).2.2)
 |0=>rfl
 |1=>rfl
 |2=>rfl
 |_+3=>rfl
theorem RC.row_setP (c:RC)(A:Option Addr)(m:Nat):∀j,(c.setP A m j).row.toList=c.row.toList.set (kTo j) (.slice A (c.pth j).2.1 m)
 |0=>rfl
 |1=>rfl
 |2=>rfl
 |_+3=>rfl
theorem RkA.pth (h:RkA w c r):∀j,kNt w (c.pth j).1 (c.pth j).2.1 (c.pth j).2.2 (r.pth j)
 |0=>h.hp
 |1=>h.hq
 |2=>h.haa
 |_+3=>h.hf
theorem RkA.setP (h:RkA w c r):∀j,kNt w A (c.pth j).2.1 m (r.pth j)->RkA w (c.setP A m j) r
 |0,g=>{h with hp:=g}
 |1,g=>{h with hq:=g}
 |2,g=>{h with haa:=g}
 |_+3,g=>{h with hf:=g}
def kOf (r:kNj):Prop:=r.p.length<=1000/\r.q.1.length<=1000/\r.a.1.length<=1000/\r.f.1.length<=1000
theorem kOf.pth (h:kOf r):∀j,(r.pth j).length<=1000
 |0=>h.1
 |1=>h.2.1
 |2=>h.2.2.1
 |_+3=>h.2.2.2
theorem kQk (h:kO1 r=true):kOf r:=by
 obtain⟨a,b,c,d⟩:=kPa h;exact⟨by omega,by omega,by omega,by omega⟩
structure kP5 (F:Nat->Prop)(w w':World):Prop where
 os:w'.os=w.os
 tape:w'.tape=w.tape
 output:w'.output=w.output
 size:w.heap.size<=w'.heap.size
 block:∀k,k<w.heap.size->¬F k->w'.heap[k]? =w.heap[k]?
theorem kP5.refl (F:Nat->Prop)(w:World):kP5 F w w:=⟨rfl,rfl,rfl,Nat.le_refl _,fun _ _ _=>rfl⟩
theorem kP5.of_off (h:Off g w w')(hg:F g):kP5 F w w':=⟨h.os,h.tape,h.output,h.size,fun k hk hF=>h.block k hk (fun e=>hF (e▸hg))⟩
theorem kP5.of_below (h:Below w.heap.size w w'):kP5 F w w':=⟨h.os,h.tape,h.output,h.size,fun k hk _=>h.block k hk⟩
theorem kP5.trans {a b c:World}(h:kP5 F a b)(k:kP5 F b c):kP5 F a c:=⟨k.os.trans h.os,k.tape.trans h.tape,k.output.trans h.output,Nat.le_trans h.size k.size,fun i hi hF=>(k.block i (Nat.lt_of_lt_of_le hi h.size) hF).trans (h.block i hi hF)⟩
theorem kP5.below (h:kP5 F w w')(hB:B<=w.heap.size)(hF:∀k,F k->B<=k):Below B w w':=⟨h.os,h.tape,h.output,h.size,fun k hk=>h.block k Kb (fun e=>absurd (hF k e) Kb)⟩
theorem kP5.high {lo:Nat}(h:kP5 F w w')(hF:∀k,F k->k<lo):zA5 lo w w':=⟨h.size,fun k h1 h2=>h.block k h2 (fun e=>absurd (hF k e) Kb)⟩
def kPk (F:Nat->Prop)(w:World)(ds:List RC)(us:List kNj):Prop:=∀W,kP5 F w W->RkL W ds us
theorem kPk.off (h:kPk F w ds us)(ho:kP5 F w w'):kPk F w' ds us:=fun W h3=>h W (ho.trans h3)
theorem kPk.rk (h:kPk F w ds us):RkL w ds us:=h w (kP5.refl _ _)
theorem kPk.plain (h:RkL w ds us):kPk (fun _=>False) w ds us:=fun _ ho=>h.later (ho.below Kl (fun _ h=>h.elim))
theorem RkL.set (h:RkL w ds us)(hu:us[k]? =some r)(hc:RkA w c r):RkL w (ds.set k c) us:=⟨by rw[List.length_set];exact h.1,fun j d a h1 h2=>by
 rw[List.getElem?_set]at h1;split at h1
 ·rename_i e
  subst e;split at h1
  ·injection h1 with h1;subst h1;rw[hu]at h2;injection h2 with h2;subst h2;exact hc
  ·cases h1
 ·exact h.2 j d a h1 h2⟩
structure Fr (w:World)(F:Nat->Prop)(g:Nat)(us:List kNj)(ds:List RC)(W:World):Prop where
 row:kOx W g ds
 held:kPk (fun k=>k=g∨F k) W ds us
 below:Below w.heap.size w W
 hi:w.heap.size<=g
 lo:∀k,F k->k<w.heap.size
theorem Fr.call (h:Fr w F g us ds W)(hb:Below W.heap.size W W'):Fr w F g us ds W':=⟨h.row.keep hb,h.held.off (kP5.of_below hb),h.below.trans (hb.mono h.below.size),h.hi,h.lo⟩
theorem Fr.start (hr:kPk F w ds us)(h:kOx W g ds)(hb:Below w.heap.size w W)(hg:w.heap.size<=g)(hF:∀k,F k->k<w.heap.size):Fr w F g us ds W:=
 ⟨h,fun W' ho=>hr W' ⟨ho.os.trans hb.os,ho.tape.trans hb.tape,ho.output.trans hb.output,Nat.le_trans hb.size ho.size,fun k hk hn=>(ho.block k (Nat.lt_of_lt_of_le hk hb.size) (fun e=>e.elim (fun e=>by omega) hn)).trans (hb.block k hk)⟩,hb,hg,hF⟩
theorem Fr.lr (h:Fr w F g us ds W):LR W (some ⟨g,0,none⟩) ds us:=h.held.rk.lr h.row.vl
theorem Fr.at_ (h:Fr w F g us ds W)(hk:k<us.length):∃c r,ds[k]? =some c/\us[k]? =some r/\RkA W c r:=by
 have hk2:k<ds.length:=by rw[h.held.rk.1];exact hk
 exact⟨ds[k],us[k],List.getElem?_eq_getElem hk2,List.getElem?_eq_getElem hk,h.held.rk.2 k _ _ (List.getElem?_eq_getElem hk2) (List.getElem?_eq_getElem hk)⟩
theorem Fr.set (h:Fr w F g us ds W)(hc:ds[k]? =some c)(hu:us[k]? =some r)(hb:Below W.heap.size W W')(hm:(c.pth j).2.1<=m)(hs:zH3 W.heap.size W' (fun X=>IL X X.heap.size A (r.pth j))):
  Fr w F g us (ds.set k (c.setP A m j)) (W'.setCell ⟨g,k*11+kTo j,none⟩ (.slice A (c.pth j).2.1 m)):=by
 have h':=h.call hb;have hgl:=h.row.lt;have ho:Off g W' (W'.setCell ⟨g,k*11+kTo j,none⟩ (.slice A (c.pth j).2.1 m)):=by
  obtain⟨cur,h1,_⟩:=h'.row;exact⟨rfl,rfl,rfl,by simp[World.setCell],fun i _ hne=>Below.heap_setCell _ _ _ _ hne⟩
 have rD:kP5 (fun k=>k=g∨F k) W' (W'.setCell ⟨g,k*11+kTo j,none⟩ (.slice A (c.pth j).2.1 m)):=kP5.of_off ho (.inl rfl);refine⟨h'.row.set hc (kUy j) (RC.row_setP c A m j),fun X hX=>(h'.held X (rD.trans hX)).set hu ?_,(h'.below).trans (ho.below h.hi h'.below.size),h.hi,h.lo⟩;have hk:=(h'.held X (rD.trans hX)).2 k c r hc hu;have hp:=hk.pth j;exact hk.setP j ⟨hp.len,hm,hp.max,hs X ((rD.trans hX).high (fun i hi=>hi.elim (fun e=>by omega) (fun e=>by have:=h.lo i e;have:=h.below.size;omega)))⟩
theorem LR.one (h:LR w A cs [r]):∃b o c,A=some ⟨b,o,none⟩/\b<w.heap.size/\RkA w c r/\w.rangeAt b o c.row.toList:=by
 obtain⟨b,o,c,a,h1,h2,_,h4,h5,h6⟩:=h.at_ (k:=0) Kc;simp only[List.getElem?_cons_zero,Option.some.injEq]at h4;subst h4;rw[Nat.zero_mul,Nat.add_zero]at h6;exact⟨b,o,c,h1,h2,h5,h6⟩
def kT3 (w:World)(us:List kNj)(e:Ending)(w':World):Prop:=∃A n cap cs,e=.returned (.slice A n cap)/\us.length=n/\n<=cap/\LR w' A cs us/\Below w.heap.size w w'
def kT4 (w:World)(F:Nat->Prop)(us:List kNj)(e:Ending)(w':World):Prop:=∃A n cap ds,e=.returned (.slice A n cap)/\us.length=n/\n<=cap/\(0<n->∃g,A=some ⟨g,0,none⟩/\Fr w F g us ds w')/\LR w' A ds us/\Below w.heap.size w w'
theorem kQa (w:World)(t u:TypeId)(r s:Array Value):∃W0,(w.alloc (.cells r t)).alloc (.cells s u)=W0/\Below w.heap.size w W0/\jT t W0 w.heap.size r/\jT u W0 (w.heap.size+1) s:=by
 have h1:=(jT.new w t r).alloc (.cells s u);have h2:=jT.new (w.alloc (.cells r t)) u s;have e1:(w.alloc (.cells r t)).heap.size=w.heap.size+1:=by simp
 rw[e1]at h2;exact⟨_,rfl,(Kk.alloc Kl _).alloc (by rw[e1];omega) _,h1,h2⟩
theorem jT.node {c:NC}(h:jT 26 W g c.row):W.cell? ⟨g,0,none⟩=some (.bool c.lf)/\W.cell? ⟨g,1,none⟩=some (.slice c.P c.np c.pc)/\W.cell? ⟨g,2,none⟩=some (.slice c.X c.nt c.tc)/\W.cell? ⟨g,3,none⟩=some (.slice c.K c.nk c.kc):=h.four
theorem RkA.ptT (h:RkA w c r)(ht:kOf r):zI4 w (.agg #[.slice c.Q c.nq c.cq,.int .i64 c.qo]) r.q:=h.hq.pt h.hqo (by have:=h.hq.len;have:=ht.2.1;omega)
theorem RkA.paT (h:RkA w c r)(ht:kOf r):zI4 w (.agg #[.slice c.A c.na c.ca,.int .i64 c.ao]) r.a:=h.haa.pt h.hao (by have:=h.haa.len;have:=ht.2.2.1;omega)
theorem RkA.pfT (h:RkA w c r)(ht:kOf r):zI4 w (.agg #[.slice c.F c.nf c.cf,.int .i64 c.fo]) r.f:=h.hf.pt h.hfo (by have:=h.hf.len;have:=ht.2.2.2;omega)
theorem kRq {u v:Value}{p q:List Int×Int}(hp:zI4 w u p)(hq:zI4 w v q)(hE:samP p q=E):Calls Tryz.prog 63 #[u,v] w (jA (.bool E) w):=hE▸zYt Kk hp hq
theorem kSz (h:RkA w d r)(ht:kOf r)(hE:(zP r.a&&zP r.f)=E):Calls Tryz.prog 64 #[.agg #[.bool false,.slice d.A d.na d.ca,.int .i64 d.ao,.slice d.F d.nf d.cf,.int .i64 d.fo],.agg #[.bool false,.slice none 0 0,.int .i64 0,.slice none 0 0,.int .i64 0]] w (jA (.bool E) w):=by
 have h2:=zL4 w ⟨false,r.a,r.f⟩ ⟨false,([],0),([],0)⟩ d.A d.F none none d.na d.nf 0 0 d.ca d.cf 0 0 (by rw[h.hao];exact h.paT ht) (by rw[h.hfo];exact h.pfT ht) (zI4.zero _) (zI4.zero _);rw[<-hE];have e:zF7 ⟨false,r.a,r.f⟩ ⟨false,([],0),([],0)⟩=(zP r.a&&zP r.f):=by
  unfold zF7 zP;simp
 rw[e]at h2;simp only at h2;rw[h.hao,h.hfo]at h2;exact h2
def kO0 (k1 k2 k3:Bool)(np:Nat)(E1 E2:Bool):Bool:=(k1&&decide (0<np))||((k2&& !E1)||(k3&& !E2))
theorem kPf {k1 k2 k3 E1 E2:Bool}(hr:RkA w d r)(ht:kOf r)(e1:(d.kind !=1)=k1)(e2:(d.kind !=2)=k2)(e3:(d.kind !=3)=k3)(dM:zP r.q=E1)(cP:(zP r.a&&zP r.f)=E2):Calls Tryz.prog 28 #[.agg d.row] w (jA (.bool (kO0 k1 k2 k3 d.np E1 E2)) w):=by
 obtain⟨W0,hW⟩:∃W0,w.alloc (.cells d.row 37)=W0:=⟨_,rfl⟩;have hv:=(kNx w d).1;have hb:=(kNx w d).2;rw[hW]at hv hb;have HK:=hd (fun W(h:Below W0.heap.size W0 W)=>(hv.keep h).eleven);have HR:=hd (fun W(h:Below W0.heap.size W0 W)=>(hr.later hb).later h);have HT:=hd ht;have hm:=hr.hp.max;have H1:=hd dM;have H2:=hd cP;have HW:=hd hW;have HB:=hd hb;have ac:=hd (Below.refl W0.heap.size W0);clear hW hb hv hr ht dM cP;obtain⟨⟨u0,u1,u2,u3⟩,u4,⟨u5,u6⟩,u7,u8,u9,pP⟩:=HK.o _ ac.o;go_enter Tryz.func28,Tryz.ntmps28
 go_upto_region 1 with fail
 rw[HW.o];go_wp2_with(first
  |(go_at_call 63;refine Calls.mono (kRq ((HR.o _ ac.o).ptT HT.o) (zI4.zero _) H1.o) ?_;rintro e w9 ⟨rfl,b9⟩;have ac:=hd (zI ac.o b9);clear b9 u0 u1 u2 u3 u4 u5 u6 u7 u8 u9 pP;obtain⟨⟨u0,u1,u2,u3⟩,u4,⟨u5,u6⟩,u7,u8,u9,pP⟩:=HK.o _ ac.o)
  |(go_at_call 64;refine Calls.mono (kSz (HR.o _ ac.o) HT.o H2.o) ?_;rintro e w9 ⟨rfl,b9⟩;have ac:=hd (zI ac.o b9);clear b9))
 all_goals(go_ret;refine⟨kC ?_,HB.o.trans (ac.o.mono HB.o.size)⟩)
 all_goals first
  |(unfold kO0;simp_all;done)
  |(unfold kO0;simp_all;omega)
  |(unfold kO0;simp_all;intros;simp_all;omega)
theorem kS0 {n k:NT}{i:Int}{r:List Int}(h:zBh n i=some k):(zGm n (i::r)).2=(zGm k r).2:=by unfold zGm;rw[kB,h]
theorem kQz {n:NT}{i:Int}{r:List Int}(h:zBh n i=none):(zGm n (i::r)).2=5:=by unfold zGm;rw[kB,h]
structure kWf (w:World)(n:NT)(p:List Int)(k:Nat)(c:NC)(m:NT)(W:World):Prop where
 at_:∃d,zV d w w.heap.size (.agg c.row) m
 ans:(zGm n p).2=(zGm m (p.drop k)).2
 below:Below w.heap.size w W
 var:jT 26 W w.heap.size c.row
theorem kSb {c:NC}{n:NT}{p:List Int}{lp:Nat}{E:Int}(hn:kS w c n)(aO:p.length=lp)(hl:lp<=10000)(hp:IL w w.heap.size A p)(hE:(zGm n p).2=E):Calls Tryz.prog 54 #[.agg c.row,.slice A lp cap] w (jA (.int .i64 E) w):=by
 subst hE;have HD:=hd (show kWf w n p 0 c n (w.alloc (.cells c.row 26))from⟨hn,rfl,Kk.alloc Kl _,jT.new w _ _⟩);have HP:=hd hp;have HL:=hd aO;obtain⟨W0,hW⟩:∃W0,w.alloc (.cells c.row 26)=W0:=⟨_,rfl⟩;rw[hW]at HD;have HW:=hd hW;clear hn hp aO hW;go_enter Tryz.func54,Tryz.ntmps54
 go_upto_region 1 with fail
 rw[HW.o];go_wp2_with fail
 go_loopw [9] (fun i wr=>∃k:Nat,k<=lp/\i=.int .i64 k/\∃c m,Kq (kWf w n p k c m wr)) (fun i _=>lp-(intOf i).toNat)
 case atStart=>exact⟨0,Nat.zero_le _,rfl,c,n,HD⟩
 case round=>
  obtain⟨k,hk,rfl,c,m,HD⟩:=hrel;by_cases hlt:k<lp
  ·obtain⟨b,o,rfl,hb,hc⟩:=HP.o.at_ (k:=k) (by rw[HL.o];exact hlt);have hx:=(HD.o.below.cell (p:=⟨b,o+k,none⟩) hb).trans hc;obtain⟨v,hv⟩:∃v,iAt p k=v:=⟨_,rfl⟩;have hdr:p.drop k=v::p.drop (k+1):=by
    rw[List.drop_eq_getElem_cons (by rw[HL.o];exact hlt),<-hv,jY p k (by rw[HL.o];exact hlt)]
   rw[hv]at hx;have rE:=hd hdr;obtain⟨n0,n1,n2,n3⟩:=HD.o.var.node;obtain⟨d,ip⟩:=HD.o.at_;obtain⟨d',lf,ps,tx,ks,PA,pc,TA,tc,KA,kc,rfl,hm,hcr,_,_,hfit,hks⟩:=ip.open_;have fE:c.nk=ks.length:=by
    unfold NC.row at hcr;simp at hcr;exact hcr.2.2.2.2.1
   have wR:c.K=KA:=by
    unfold NC.row at hcr;simp at hcr;exact hcr.2.2.2.1
   have hkl:m.ks=ks:=by rw[hm];rfl
   have wS:ks.length<=1759218604441:=hfit.2.2.2.1;clear hcr hfit hm;subst wR;rw[fE]at n3;by_cases hv0:v<0
   ·have HE:=hd (show(zGm n p).2=5 by rw[HD.o.ans,rE.o,kQz (zJx (by unfold zOf;simp;omega))]);clear hks hdr hkl fE;go_wp2_with fail
    go_ret
    exact⟨zAj HE.o.symm,HD.o.below⟩
   obtain⟨vn,rfl⟩:∃vn:Nat,v=vn:=⟨v.toNat,by omega⟩;clear hv0;by_cases hvl:vn<ks.length
   ·obtain⟨m2,b2,o2,lf2,eJ,eK,eN,eP,eQ,eT,eU,eV,kc2,hm2,e2,hb2,nW,c0,c1,c2,c3⟩:=hks.at_ hvl;rw[e2]at n3;have c0:=(HD.o.below.cell (p:=⟨b2,o2+vn*4,none⟩) hb2).trans c0;have c1:=(HD.o.below.cell (p:=⟨b2,o2+vn*4+1,none⟩) hb2).trans c1;have c2:=(HD.o.below.cell (p:=⟨b2,o2+vn*4+2,none⟩) hb2).trans c2;have c3:=(HD.o.below.cell (p:=⟨b2,o2+vn*4+3,none⟩) hb2).trans c3;have iK:=hd nW;have rF:=hd (show(zGm n p).2=(zGm m2 (p.drop (k+1))).2 by
     rw[HD.o.ans,rE.o,kS0 (k:=m2)];unfold zBh;rw[if_pos Kb,hkl];simpa using hm2)
    clear hks hdr hkl fE hm2 nW e2;go_wp2_with(first
     |((with_reducible refine zF (ty:=26) (x:=.tmp 2) ?_);refine zA zD (r:=(⟨lf2,eJ,eK,eN,eP,eQ,eT,eU,eV,kc2⟩:NC).row) HD.o.var rfl rfl Ka _ _ rfl rfl rfl rfl rfl ?_;intro W9 ak ag;have HD:=hd (show kWf w n p (k+1) ⟨lf2,eJ,eK,eN,eP,eQ,eT,eU,eV,kc2⟩ m2 W9 from⟨⟨_,iK.o⟩,rF.o,zN HD.o.below ag Kl,ak⟩);clear ak ag))
    go_roundw
    case rel=>exact⟨k+1,by omega,by go_num,_,_,HD⟩
    case measure=>simp[intOf];omega
   ·have HE:=hd (show(zGm n p).2=5 by rw[HD.o.ans,rE.o,kQz (zJx (by unfold zOf;rw[hkl];simp;omega))]);clear hks hdr hkl fE;go_wp2_with fail
    go_ret
    exact⟨zAj HE.o.symm,HD.o.below⟩
  ·obtain rfl:k=lp:=Kb;have HE:=hd (show(zGm n p).2=0 by rw[HD.o.ans,List.drop_of_length_le (Nat.le_of_eq HL.o)];rfl);clear hlt;go_wp2_with fail
   go_ret
   exact⟨zAj HE.o.symm,HD.o.below⟩
theorem kN6 (hsz:(Tryz.prog.info? ty).map (·.size)=some 1){r:Array Value}(h:jT t W g r)(x y:Operand)(ho:op.op=.store ty x y)(hgd:op.guard=none)(hd:op.dst=none)
  (j:Nat) (v:Value) (hx:a.eval x=.pointer (some ⟨g,j,none⟩)) (hy:a.eval y=v) (hv:v.cells=[v].toArray) (h1:v.oneCell'=true) (hj:j<r.size)
  (hk:∀W',jT t W' g (r.setIfInBounds j v)->Off g W W'->wpList Tryz.prog ops Q rest a W'):wpList Tryz.prog ops Q (op::rest) a W:=by
 have hc:(W.cell? ⟨g,j,none⟩).isSome=true:=by rw[h.cell j _ (Array.getElem?_eq_getElem hj)];rfl
 have hf:W.frozen? ⟨g,j,none⟩=false:=by
  unfold jT at h;simp[World.frozen?,h]
 have hrun:=run_storeCells_cells (P:=Tryz.prog) g j [v] 0 W (fun i hi=>by
  have:i=0:=by simpa using hi
  subst this;simpa using hc) (fun i hi=>by
  have:i=0:=by simpa using hi
  subst this;simpa using hf) (by simpa using h1)
 have hst:(storeVar ty ⟨g,j,none⟩ v).run Tryz.prog W=.ok () (W.setCells g j [v]):=by
  cases hq:Tryz.prog.info? ty with
  |none=>simp[hq]at hsz
  |some i=>
   have hs:i.size=1:=by simpa[hq]using hsz
   simp only[Nat.add_zero]at hrun;simp[storeVar,sizeOf,typeInfo,hq,hv,hs,hrun]
 refine wpList_plain hgd fun K hK=>?_;unfold Oper.wp execOp;simp only[ho,hx,hy,Instr.storeAt,Instr.sureAddr,Sem.run_bind,Sem.run_pure,Result.andThen_ok,hst];obtain⟨r1,r2⟩:=zHr g _ [v] j W _ h;exact hK _ _ (by rw[hd];exact hk _ r1 r2)
theorem kQl :(Tryz.prog.info? 4).map (·.size)=some 1:=Ka
theorem kT5 (c:RC)(i0:TypeInfo)(hz1:i0.size=11):Instr.fill (fun i=>some (i*i0.size,i0.size)) ((Array.range (1*i0.size)).map ((Value.agg RC.zero.row).cells[· % (Value.agg RC.zero.row).cells.size]!)) #[(0,Value.agg c.row)].toList=some c.row:=by
 rw[hz1];have h:=Great.fill_whole (s:=11) Kb [Value.agg c.row] ((Array.range (1*11)).map ((Value.agg RC.zero.row).cells[· % (Value.agg RC.zero.row).cells.size]!)) (by intro v hv;simp at hv;subst hv;rfl) Kc;exact h.trans (by simp[Value.cells])
theorem kO7 (W:World)(c:RC):(Instr.buildSlice 42 1 #[(0,.agg c.row)]).run Tryz.prog W=.ok (.slice (some ⟨W.heap.size,0,none⟩) 1 1) (W.alloc (.cells c.row 37)):=by
 obtain⟨i0,hi,hz0,hz1,hz2⟩:=info_parts kSy;exact run_buildSlice (P:=Tryz.prog) W 42 37 1 #[(0,.agg c.row)] c.row i0 _ Tryz.underlying42 hi hz0 (by rw[hz1];decide) (by rw[hz1];decide) (kT5 c i0 hz1)
theorem kUz (W:World)(c:RC):VL (W.alloc (.cells c.row 37)) (W.alloc (.cells c.row 37)).heap.size (some ⟨W.heap.size,0,none⟩) (cellsR [c]):=fun _=>
 ⟨W.heap.size,0,rfl,by simp,fun k u hk=>by
  rw[kR5]at hk;rw[Nat.zero_add,World.cell?_alloc_at _ _ _ _ rfl];simpa using hk⟩
theorem kNv {o:Oper}(x:Operand)(ho:o.op=.buildSlice 42 1 #[(0,x)])(hgd:o.guard=none)(hx:a.eval x=.agg c.row)
  (hk:wpList Tryz.prog ops Q rest (a.put o.dst (.slice (some ⟨W.heap.size,0,none⟩) 1 1)) (W.alloc (.cells c.row 37))):wpList Tryz.prog ops Q (o::rest) a W:=by
 refine wpList_plain hgd fun K hK=>?_;unfold Oper.wp execOp;simp only[ho,List.map_toArray,List.map_cons,List.map_nil,hx,Sem.run_bind,kO7,Result.andThen_ok];exact hK _ _ hk
theorem kNz (hrow:kC5 t n){o:Oper}{r:Array Value}(h:jT t W g r)(hn:r.size=n)(x:Operand)(ho:o.op=.load t x)(hx:a.eval x=.pointer (some ⟨g,0,none⟩)):(execOp a.eval o).run Tryz.prog W=.ok (.value (.agg r)) W:=by
 obtain⟨d,h1,h2,h3⟩:=hrow;have hr:=run_loadAt_mid W g 0 t r.toList d (fun i v hi=>by rw[Nat.zero_add];exact h.cell i v (by simpa using hi)) h1 h2 (by rw[h3,<-hn];simp);unfold execOp;simp only[Instr.loadAt,Instr.sureAddr,Sem.run_bind,Sem.run_pure,Result.andThen_ok]at hr;simp only[ho,hx,Instr.loadAt,Instr.sureAddr,Sem.run_bind,Sem.run_pure,Result.andThen_ok,hr]
theorem kNs {o:Oper}(x:Operand)(ho:o.op=.buildSlice 42 1 #[(0,x)])(hw:Region.wanted o (yielded ops a.tmps)=true)(hx:a.eval x=.agg c.row)
  (hk:wpList Tryz.prog ops Q rest (a.put o.dst (.slice (some ⟨W.heap.size,0,none⟩) 1 1)) (W.alloc (.cells c.row 37))):wpList Tryz.prog ops Q (o::rest) a W:=by
 refine wpList_step fun K hK=>?_;rw[if_pos hw];unfold Oper.wp execOp;simp only[ho,List.map_toArray,List.map_cons,List.map_nil,hx,Sem.run_bind,kO7,Result.andThen_ok];exact hK _ _ hk
theorem kO8 {ps:Array (Nat×Operand)}{gq:Nat×Bool}(h:wpList P ops Q ({dst:=dst,op:=.buildSlice ty k ps,type:=t,pos:=pos,after:=af,guard:=some gq}::rest) a w):wpList P ops Q ({dst:=dst,op:=.buildSlice ty k ps,type:=t,pos:=pos,after:=af,guard:=some gq}::rest) a w:=h
theorem kPi (h:RkA W d r):LR (W.alloc (.cells d.row 37)) (some ⟨W.heap.size,0,none⟩) [d] [r]:=(RkL.one (h.later (kNx W d).2)).lr (kUz W d)
