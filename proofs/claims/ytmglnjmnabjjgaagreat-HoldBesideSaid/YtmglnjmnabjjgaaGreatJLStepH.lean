import Derived.Test.YtmglnjmnabjjgaaGreatJLFresh
set_option maxRecDepth 100000
set_option maxHeartbeats 8000000
namespace Go.Proofs.YtmglnjmnabjjgaaGreat
open Go.RowKit
variable {W w:World}{d:RC}{r:kN5}{P:Program}{ops:Array Oper}{Q:Exit->Act->World->Prop}{dst:Option Nat}{t ty:TypeId}{pos:String}{af:Array Edge}{rest:List Oper}{a:Act}{b cap:Nat}{kc:KC}{A:Option Addr}
theorem kRk (c:RC):(Value.agg c.row).cells=c.row.toList.toArray:=rfl
theorem kT5 (c:RC):∀u ∈ c.row.toList,u.oneCell'=true:=fun u hu=>Array.all_eq_true'.1 c.one u (by simpa using hu)
theorem kT6 :(Tryz.prog.info? 37).map (·.size)=some 11:=Ka
theorem kU1 (h:RkA w d r):∀W,RkA W {RC.zero with id:=d.id,kind:=d.kind,aff:=d.aff} (kSc r):=fun W=>{RkA.zero W with hid:=h.hid,hk:=h.hk,ha:=h.ha,hlv:=rfl,hkw:=h.hkw}
theorem kUh {g:Nat}(h:kO4 w g [d])(hr:RkA w d r):LR w (some ⟨g,0,none⟩) [d] [r]:=(RkL.one hr).lr h.vl
theorem kS9 {m x:Operand}{ok:Bool}(h:wpList P ops Q ({dst:=dst,op:=.lookup t m x ok,type:=ty,pos:=pos,after:=af,guard:=none}::rest) a w):wpList P ops Q ({dst:=dst,op:=.lookup t m x ok,type:=ty,pos:=pos,after:=af,guard:=none}::rest) a w:=h
theorem kQ2 {o:Oper}{k:Int}{is:Bool}(h:kQm w b)(hk:(Lit.int .i64 k).wf=true)(hkk:kPc k=(kc,is))(hg:o.guard=none)(m x:Operand)(hop:o.op=Op.lookup 78 m x true)(hm:a.eval m=.map (some b))(hx:a.eval x=.int .i64 k)
  (hK:wpList Tryz.prog ops Q rest (a.put o.dst (.tuple #[.agg kc.row,.bool is])) w):wpList Tryz.prog ops Q (o::rest) a w:=
 kRn h hk hg m x hop hm hx (by rw[hkk];exact hK)
theorem kU2 (h:kc.chk.oneCell'=true/\kc.along.oneCell'=true):kc.row.all (·.oneCell')=true:=by
 rw[Array.all_eq_true'];intro u hu;exact kVo h u (by simpa[KC.row]using hu)
theorem kT7 {r':kN5}{o:OC}{a:OpP}{fid:FuncId}{b:Bool}(h:LR w A [d] [r])(_hcap:1<=cap)(ht:kQ0 r)(hlv:r.live=true)(ho:OkA w o a)(hkk:kPc d.kind=(kc,true))(hfn:kc.along=.func (.func fid) #[] #[])(hent:∀args w,(callFunc fid args).run Tryz.prog w=.ok (.enter fid args) w)
  (hal:∀(W:World)(g:Nat)(e:RC),kO4 W g [e]->(∀W',Off g W W'->RkA W' e r)->OkA W o a->Calls Tryz.prog fid #[.pointer (some ⟨g,0,none⟩),.agg o.row] W (kS8 g e (r',b) W)):Calls Tryz.prog 13 #[.slice A 1 cap,.agg o.row] w (kVm w [if b=true then r' else kSc r]):=by
 obtain⟨res,hres⟩:∃res,(if b=true then r' else kSc r)=res:=⟨_,rfl⟩;rw[hres];have cH:=hd hres;clear hres;have eN:=hd hkk;have xR:=hd (kTz d.kind);rw[hkk]at xR;have Bi:=hd hfn;have xS:=hd hal;have Bj:=hd hlv;have Bl:=hd (show r.kind=d.kind from(h.ha 0 d r rfl rfl).hk);have Bn:=hd (show∀x ∈ [r],kQ0 x from fun x hx=>by
  simp at hx;subst hx;exact ht)
 have hb:Below w.heap.size w (w.alloc (.cells o.row 35)):=Kl.alloc Km _;have HL:=hd (h.later hb);have HV:=hd (jT.new w 35 o.row);have HO:=hd (ho.later hb);have HB:=hd hb;obtain⟨W0,hW⟩:∃W0,w.alloc (.cells o.row 35)=W0:=⟨_,rfl⟩;rw[hW]at HL HV HO HB;have HW:=hd hW;clear h hlv ht ho hkk hfn hal hb hW;go_enter Tryz.func13,Tryz.ntmps13
 go_upto_region 1 with fail
 rw[HW.o];go_upto_region 2 with(first
  |(go_at_call 27;refine(kTg _).mono ?_;rintro e w1 ⟨mb,rfl,kq,_,b9⟩;have lX:=hd kq;have HL:=hd (HL.o.later b9);have HV:=hd (HV.o.keep b9);have HO:=hd (HO.o.later b9);have HB:=hd (zI HB.o b9);have aT:=HB;clear kq b9)
  |(go_at_call 36;refine(kSd HL.o rfl Kc Bn.o).mono ?_;rintro e w2 ⟨A2,n2,c2,ds,rfl,lW,hc2,xU,_,b9⟩;have lX:=hd (lX.o.below b9);have HV:=hd (HV.o.keep b9);have HO:=hd (HO.o.later b9);have HB:=hd (zI HB.o b9);clear b9;simp only[List.length_cons,List.length_nil]at lW;subst lW;obtain⟨g,rfl,rf⟩:=xU Kb;clear xU;have HF:=hd rf;clear rf))
 go_wp2_with fail
 go_loopw [16] (fun i wr=>(i=.int .i64 0/\wr=w2)∨(i=.int .i64 1/\Kr (∃d',LR wr (some ⟨g,0,none⟩) [d'] [res])/\Kr (Below w.heap.size w wr))) (fun i _=>1-(intOf i).toNat)
 case atStart=>exact .inl ⟨rfl,rfl⟩
 case round=>
  rcases hrel with⟨rfl,rfl⟩|⟨rfl,lY,bQ⟩
  ·obtain⟨e,rfl⟩:∃e,ds=[e]:=List.length_eq_one_iff.1 HF.o.held.rk.1;have cJ:=HF.o.held.rk.2 0 e r rfl rfl;have sS:e.kind=d.kind:=cJ.hk.symm.trans Bl.o;have vC:=cJ.hkw;have hel:e.live=true:=cJ.hlv.symm.trans Bj.o;have Bo:=hd (fun W'(h:Off g wr W')=>(HF.o.held W' (kPw.of_off h (.inl rfl))).2 0 e r rfl rfl);have fW:=hd HF.o.row;have u1:wr.cell? ⟨g,1,none⟩=some (.int .i64 d.kind):=sS▸fW.o.cell rfl;have u3:wr.cell? ⟨g,3,none⟩=some (.bool true):=hel▸fW.o.cell rfl;rw[sS]at vC;have Bp:=hd vC;have sI:=hd HF.o.hi;have mC:=hd cJ;have CN:=hd sS;clear cJ sS vC hel HF;go_upto_region 8 with(first
    |((with_reducible refine kS9 ?_);refine kQ2 lX.o Bp.o eN.o rfl _ _ rfl rfl rfl ?_)
    |((with_reducible refine zF (ty:=76) (x:=.tmp 9) ?_);refine zA kS6 (r:=kc.row) (jT.new wr 76 kc0.row) rfl rfl (kU2 xR.o) _ _ rfl rfl rfl rfl rfl ?_;intro W5 mH l9;have aU:=zN ((Below.refl wr.heap.size wr).alloc Km (.cells kc0.row 76)) l9 Km;have qw:=hd mH;have HO:=hd (HO.o.later aU);have HV:=hd (HV.o.keep aU);have fW:=hd (fW.o.keep aU);have fI:=hd (Off.of_below (g:=g) aU);have HB:=hd (zI HB.o aU);clear mH l9 aU u1 u3))
   have g2:W5.cell? ⟨wr.heap.size,2,none⟩=some (.func (.func fid) #[] #[]):=(qw.o.cell 2 _ rfl).trans (congrArg some Bi.o);have rh:=hd (fun W'(h:Off g W5 W')=>Bo.o W' (fI.o.trans h));cases b
   ·have HZ:=hd (show kSc r=res from cH.o);go_upto_region 9 with(first
     |((with_reducible refine kH (ty:=35) (x:=.tmp 3) ?_);refine zK zMk HV.o rfl _ rfl Ke rfl ?_;have w6:=True.intro)
     |(have _g:=w6;refine(xS.o W5 g e fW.o rh.o HO.o).mono ?_;rintro x w7 ⟨d',rfl,rp,aV,i1,i2,i3,_⟩;have fW:=hd rp;have HB:=hd (zN HB.o aV (by have:=sI.o;have:=aT.o.size;omega));have HI:=hd (And.intro i1 (And.intro i2 i3));clear rp aV i1 i2 i3 w6))
    refine kTd (S:=fun W'=>kO4 W' g [d']) (m:=13) Ka ?_;have aa:=hd (show kO4 w7.drew g [d']from fW.o);refine kOa (i:=0) (n:=15) (.pointer (some ⟨g,0,none⟩)) rfl Ka Ka Ka Ka (fun _ _ _ h=>h) Ke (fun W9=>?_) aa.o ?_
    ·go_simp
    simp only[Act.put,List.setIfInBounds_toArray,List.set_cons_succ,List.set_cons_zero,List.getElem_toArray,List.getElem_cons_zero];refine kOa (i:=1) (n:=14) (.pointer (some ⟨g,0,none⟩)) rfl Ka Ka Ka Ka (fun _ _ _ h=>h) Ke (fun W9=>?_) aa.o ?_
    ·go_simp
    simp only[Act.put,List.setIfInBounds_toArray,List.set_cons_succ,List.set_cons_zero,List.getElem_toArray,List.getElem_cons_succ,List.getElem_cons_zero];refine kOa (i:=2) (n:=13) (.pointer (some ⟨g,0,none⟩)) rfl Ka Ka Ka Ka (fun _ _ _ h=>h) Ke (fun W9=>?_) aa.o ?_
    ·go_simp
    simp only[Act.put,List.setIfInBounds_toArray,List.set_cons_succ,List.set_cons_zero,List.getElem_toArray,List.getElem_cons_succ,List.getElem_cons_zero];refine kOa (i:=3) (n:=12) (.pointer (some ⟨g,0,none⟩)) rfl Ka Ka Ka Ka (fun _ _ _ h=>h) Ke (fun W9=>?_) aa.o ?_
    ·go_simp
    simp only[Act.put,List.setIfInBounds_toArray,List.set_cons_succ,List.set_cons_zero,List.getElem_toArray,List.getElem_cons_succ,List.getElem_cons_zero];refine kQ4 (i:=4) (n:=11) (.int .i64 d'.id) rfl Ka Ka Ka Ka Ka (fun _ _ _ h=>h) Ke (fun W9 ag=>?_) aa.o ?_
    ·have h9:W9.cell? ⟨g,0,none⟩=some (.int .i64 d'.id):=ag.cell rfl;go_simp
    simp only[Act.put,List.setIfInBounds_toArray,List.set_cons_succ,List.set_cons_zero,List.getElem_toArray,List.getElem_cons_succ,List.getElem_cons_zero];refine kOa (i:=5) (n:=10) (.pointer (some ⟨g,0,none⟩)) rfl Ka Ka Ka Ka (fun _ _ _ h=>h) Ke (fun W9=>?_) aa.o ?_
    ·go_simp
    simp only[Act.put,List.setIfInBounds_toArray,List.set_cons_succ,List.set_cons_zero,List.getElem_toArray,List.getElem_cons_succ,List.getElem_cons_zero];refine kOa (i:=6) (n:=9) (.pointer (some ⟨g,0,none⟩)) rfl Ka Ka Ka Ka (fun _ _ _ h=>h) Ke (fun W9=>?_) aa.o ?_
    ·go_simp
    simp only[Act.put,List.setIfInBounds_toArray,List.set_cons_succ,List.set_cons_zero,List.getElem_toArray,List.getElem_cons_succ,List.getElem_cons_zero];refine kOa (i:=7) (n:=8) (.pointer (some ⟨g,1,none⟩)) rfl Ka Ka Ka Ka (fun _ _ _ h=>h) Ke (fun W9=>?_) aa.o ?_
    ·go_simp
    simp only[Act.put,List.setIfInBounds_toArray,List.set_cons_succ,List.set_cons_zero,List.getElem_toArray,List.getElem_cons_succ,List.getElem_cons_zero];refine kQ4 (i:=8) (n:=7) (.int .i64 d'.kind) rfl Ka Ka Ka Ka Ka (fun _ _ _ h=>h) Ke (fun W9 ag=>?_) aa.o ?_
    ·have h9:W9.cell? ⟨g,1,none⟩=some (.int .i64 d'.kind):=ag.cell rfl;go_simp
    simp only[Act.put,List.setIfInBounds_toArray,List.set_cons_succ,List.set_cons_zero,List.getElem_toArray,List.getElem_cons_succ,List.getElem_cons_zero];refine kOa (i:=9) (n:=6) (.pointer (some ⟨g,0,none⟩)) rfl Ka Ka Ka Ka (fun _ _ _ h=>h) Ke (fun W9=>?_) aa.o ?_
    ·go_simp
    simp only[Act.put,List.setIfInBounds_toArray,List.set_cons_succ,List.set_cons_zero,List.getElem_toArray,List.getElem_cons_succ,List.getElem_cons_zero];refine kOa (i:=10) (n:=5) (.pointer (some ⟨g,0,none⟩)) rfl Ka Ka Ka Ka (fun _ _ _ h=>h) Ke (fun W9=>?_) aa.o ?_
    ·go_simp
    simp only[Act.put,List.setIfInBounds_toArray,List.set_cons_succ,List.set_cons_zero,List.getElem_toArray,List.getElem_cons_succ,List.getElem_cons_zero];refine kOa (i:=11) (n:=4) (.pointer (some ⟨g,2,none⟩)) rfl Ka Ka Ka Ka (fun _ _ _ h=>h) Ke (fun W9=>?_) aa.o ?_
    ·go_simp
    simp only[Act.put,List.setIfInBounds_toArray,List.set_cons_succ,List.set_cons_zero,List.getElem_toArray,List.getElem_cons_succ,List.getElem_cons_zero];refine kQ4 (i:=12) (n:=3) (.int .i64 d'.aff) rfl Ka Ka Ka Ka Ka (fun _ _ _ h=>h) Ke (fun W9 ag=>?_) aa.o ?_
    ·have h9:W9.cell? ⟨g,2,none⟩=some (.int .i64 d'.aff):=ag.cell rfl;go_simp
    simp only[Act.put,List.setIfInBounds_toArray,List.set_cons_succ,List.set_cons_zero,List.getElem_toArray,List.getElem_cons_succ,List.getElem_cons_zero];refine kVu (n:=2) Ka rfl Ka (fun K hK=>?_);rw[if_pos Ke];go_simp;refine hK _ _ ?_;clear hK K;refine Ko 14 1 (.pointer (some ⟨g,0,none⟩)) (fun W9 _=>?_) trivial ?_
    ·go_simp
    simp only[Act.put,List.setIfInBounds_toArray,List.set_cons_succ,List.set_cons_zero,List.getElem_toArray,List.getElem_cons_succ,List.getElem_cons_zero];refine Kq 15 0 (fun K hK=>?_);rw[if_pos Ke];refine kP5 kT6 aa.o _ _ rfl rfl 0 (.agg ({RC.zero with id:=d'.id,kind:=d'.kind,aff:=d'.aff}:RC).row) ({RC.zero with id:=d'.id,kind:=d'.kind,aff:=d'.aff}:RC).row.toList [{RC.zero with id:=d'.id,kind:=d'.kind,aff:=d'.aff}] rfl rfl (kRk _) rfl (kT5 _) Kd (by rw[kOd];show 0+11<=1*11;decide) rfl ?_;intro W8 xV bg;have HB:=hd (zN (HB.o.trans ((Below.refl w7.heap.size w7).drew.mono HB.o.size)) bg (by have:=sI.o;have:=aT.o.size;omega));have lY:=hd (kUh xV (show RkA W8 {RC.zero with id:=d'.id,kind:=d'.kind,aff:=d'.aff} (kSc r) by
     obtain⟨i1,i2,i3⟩:=HI.o;rw[i1,i2,i3];exact kU1 mC.o W8))
    clear xV bg;refine hK _ _ (fun _=>trivial) (zAl Ka ?_);clear hK K;go_wp2_with fail
    go_roundw
    case rel=>exact .inr ⟨by go_num,hd ⟨_,HZ.o▸lY.o⟩,HB⟩
    case measure=>simp[intOf]
   ·have HZ:=hd (show r'=res from cH.o);go_wp2_with(first
     |((with_reducible refine kH (ty:=35) (x:=.tmp 3) ?_);refine zK zMk HV.o rfl _ rfl Ke rfl ?_;have w6:=True.intro)
     |(have _g:=w6;refine(xS.o W5 g e fW.o rh.o HO.o).mono ?_;rintro x w7 ⟨d',rfl,rp,aV,_,_,_,h8⟩;have HB:=hd (zN HB.o aV (by have:=sI.o;have:=aT.o.size;omega));have lY:=hd (kUh rp (h8 rfl));clear rp aV w6))
    go_roundw
    case rel=>exact .inr ⟨by go_num,hd ⟨d',HZ.o▸lY.o⟩,HB⟩
    case measure=>simp[intOf]
  ·go_wp2_with fail
   go_ret
   obtain⟨d',hd'⟩:=lY.o;exact⟨_,1,c2,_,rfl,rfl,hc2,hd',bQ.o⟩
theorem kU3 {o:OC}{a:OpP}{x:List Int}{b:Bool}(h:LR w A [d] [r])(hcap:1<=cap)(ht:kQ0 r)(hlv:r.live=true)(hk:r.kind=1)(ho:OkA w o a)(ta:zAf a)(hm:jF a.k a.q a.t a.z r.p=(x,b)):Calls Tryz.prog 13 #[.slice A 1 cap,.agg o.row] w (kVm w [if b=true then{r with p:=x}else kSc r]):=by
 have hd1:d.kind=1:=(h.ha 0 d r rfl rfl).hk.symm.trans hk;exact kT7 (kc:=kc1) (fid:=55) h hcap ht hlv ho (by rw[hd1];rfl) rfl (fun _ _=>by kernel_rfl) (fun W g e g1 g2 g3=>kU0 g1 g2 g3 ta ht.1 hm)
def exR :kN5:=⟨4,1,0,true,[0],([],0),([],0),([],0)⟩
def exC (b:Nat):RC:=⟨4,1,0,true,some ⟨b,0,none⟩,1,1,none,0,0,0,none,0,0,0,none,0,0,0⟩
def exP :OpP:={zeroO with k:=1,q:=[0]}
theorem kT8 :zAf exP:=by constructor<;>simp[exP,zeroO,zeroS]
theorem kT9 :jF exP.k exP.q exP.t exP.z exR.p=([1],true):=by decide
def kWe (b:Nat):OC:=OC.mk 1 (some ⟨b,0,none⟩) 1 1 none 0 0 0 false none 0 0 none 0 0 none 0 0 none 0 0 none 0 0 none 0 0 false none 0 0 0 none 0 0 0 false none 0 0 0 none 0 0 0
theorem kVp (h:IL W W.heap.size (some ⟨b,0,none⟩) [0]):OkA W (kWe b) exP:=
 ((OkA.zero W).setK (k:=1) (by unfold zFf;omega)).setQ (l:=[0]) (n:=1) (d:=1) rfl Kb Kb h (fun j hj=>by
  obtain rfl:j=0:=by simp at hj;omega
  exact⟨by decide,by decide⟩)
theorem kVq (h:IL W W.heap.size (some ⟨b,0,none⟩) [0]):RkA W (exC b) exR:=⟨rfl,rfl,rfl,rfl,⟨rfl,Nat.le_refl _,(by show 1<=9223372036854775807;decide),h⟩,kOh.nil _,rfl,kOh.nil _,rfl,kOh.nil _,rfl,rfl⟩
theorem kSe {k:Nat}{ps:Array (Nat×Operand)}(h:wpList P ops Q ({dst:=dst,op:=.buildSlice ty k ps,type:=t,pos:=pos,after:=af,guard:=none}::rest) a w):wpList P ops Q ({dst:=dst,op:=.buildSlice ty k ps,type:=t,pos:=pos,after:=af,guard:=none}::rest) a w:=h
theorem kV9 (W:World)(x:Int)(t:TypeId):IL (W.alloc (.cells #[.int .i64 x] t)) (W.alloc (.cells #[.int .i64 x] t)).heap.size (some ⟨W.heap.size,0,none⟩) [x]:=fun _=>⟨W.heap.size,0,rfl,by simp,fun k hk=>by
 rw[World.cell?_alloc_at _ _ _ _ rfl];match k,hk with
 |0,_=>rfl⟩
theorem kO5 (w:World):Calls Tryz.prog 6 #[] w (jA (.bool true) w):=by
 have aT:=hd ((Below.refl w.heap.size w).alloc Km (.cells #[.int .i64 0] 3));have vD:=hd (kV9 w 0 3);obtain⟨w1,hw1⟩:∃W,w.alloc (.cells #[.int .i64 0] 3)=W:=⟨_,rfl⟩;rw[hw1]at aT vD;have sH:=hd hw1;have HR:=hd (kVq vD.o);have lY:=hd (kVn HR.o);have aL:=hd (zI aT.o (kTe w1 (exC w.heap.size)).2);obtain⟨w2,hw2⟩:∃W,w1.alloc (.cells (exC w.heap.size).row 37)=W:=⟨_,rfl⟩;rw[hw2]at lY aL;have pJ:=hd hw2;have rq:=hd (kV9 w2 0 3);have cE:=hd ((Below.refl w2.heap.size w2).alloc Km (.cells #[.int .i64 0] 3));have pO:=hd (lY.o.later cE.o);have cE:=hd (zI aL.o cE.o);obtain⟨w3,hw3⟩:∃W,w2.alloc (.cells #[.int .i64 0] 3)=W:=⟨_,rfl⟩;rw[hw3]at rq pO cE;have Bq:=hd hw3;have HO:=hd (kVp rq.o);have HC:=hd (kU3 (cap:=1) pO.o Km ⟨by decide,by decide,by decide,by decide⟩ rfl rfl HO.o kT8 kT9);clear hw1 hw2 hw3 vD HR lY aT aL rq pO HO;go_enter Tryz.func6,Tryz.ntmps6
 go_wp2_with(first
  |((with_reducible refine kSe (ty:=42) (k:=1) ?_);rw[sH.o];refine kPb (c:=exC w.heap.size) _ rfl rfl rfl ?_;rw[pJ.o])
  |(go_at_call 13;rw[Bq.o];refine Calls.mono HC.o ?_;rintro e w4 ⟨A4,n4,c4,ds,rfl,ru,CO,hlr,b9⟩;simp only[List.length_cons,List.length_nil]at ru;subst ru;rw[if_pos rfl]at hlr;obtain⟨b,q,c,rfl,hb,cJ,hrg⟩:=hlr.one;have HB:=hd (zI cE.o b9);have HP:=hd cJ.hp;have y3:w4.cell? ⟨b,q+3,none⟩=some (.bool true):=(hrg 3 _ rfl).trans (congrArg (fun z=>some (Value.bool z)) cJ.hlv.symm);have y0:w4.cell? ⟨b,q,none⟩=some (.int .i64 4):=(hrg 0 _ rfl).trans (congrArg (fun z=>some (Value.int .i64 z)) cJ.hid.symm);have y4:=hrg 4 _ rfl;clear hlr cJ hrg b9 hb)
  |(go_at_call 23;have b9:=(Below.refl w4.heap.size w4).alloc Km (.cells #[.int .i64 1] 3);refine Calls.mono (kEp (show XA _ (.slice c.P c.np c.cp) [1]from⟨_,_,_,rfl,(HP.o.later b9).len,by have h1:=HP.o.len;simp at h1;omega,(HP.o.later b9).cap,(HP.o.later b9).il⟩) (show XA _ (.slice (some ⟨w4.heap.size,0,none⟩) 1 1) [1]from⟨_,_,_,rfl,rfl,by decide,by decide,kV9 w4 1 3⟩) (show zEd [1] [1]=true from rfl)) ?_;rintro e w5 ⟨rfl,b8⟩;have HB:=hd (zI (zI HB.o b9) b8);clear b8 b9))
 go_ret
 exact⟨rfl,HB.o⟩
