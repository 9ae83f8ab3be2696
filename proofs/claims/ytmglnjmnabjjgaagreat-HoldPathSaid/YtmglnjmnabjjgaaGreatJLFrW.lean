import Derived.Test.YtmglnjmnabjjgaaGreatJLChkW
set_option maxRecDepth 100000
set_option maxHeartbeats 8000000
namespace Go.Proofs.YtmglnjmnabjjgaaGreat
open Go.RowKit
variable {W w:World}{F:Nat->Prop}{A:Option Addr}{b cap i:Nat}{cs:List RC}{us:List kNx}{k n:NT}{d:RC}{r:kNx}{P:Program}{ops:Array Oper}{Q:Exit->Act->World->Prop}{dst:Option Nat}{t ty:TypeId}{pos:String}{af:Array Edge}{rest:List Oper}{a:OpP}{kc:KC}{c:NC}{E l:Int}
theorem kVo :Calls Tryz.prog 36 #[.slice A 0 cap] w (kVy w F []):=by
 have HC:=hd (kQ7 (cs:=[]) (n:=0) (c:=cap) rfl Kb (VL.nil w w.heap.size A));go_enter Tryz.func36,Tryz.ntmps36
 go_wp2_with(go_at_call 78;refine HC.o.mono ?_;rintro e w1 ⟨A1,c1,rfl,aQ,hb1⟩)
 go_loopw [12] (fun i wr=>i=.int .i64 0/\wr=w1) (fun _ _=>0)
 case atStart=>exact⟨rfl,rfl⟩
 case round=>
  obtain⟨rfl,rfl⟩:=hrel;go_wp2
  go_ret
  exact⟨A1,0,c1,[],rfl,rfl,Nat.zero_le _,fun h=>absurd h (Nat.lt_irrefl _),LR.nil _ _,hb1⟩
theorem kVp {n:Nat}(h:LR w A cs us)(hh:kQf F w cs us)(hF:∀k,F k->k<w.heap.size)(hn:us.length=n)(hl:n<=10000)(h0:0<n)(ht:∀r ∈ us,kOp r):Calls Tryz.prog 36 #[.slice A n cap] w (kVy w F us):=by
 have HC:=hd (kQ7 (n:=n) (c:=cap) (by rw[h.hl];exact hn) hl h.hv);have HK:=hd hh;have vF:=hd hF;have HN:=hd hn;have HT:=hd ht;clear h hn ht hh hF;go_enter Tryz.func36,Tryz.ntmps36
 go_wp2_with(go_at_call 78;refine HC.o.mono ?_;rintro e w1 ⟨A1,c1,rfl,aQ,hb1⟩;have hle:n<=c1:=(kXa aQ).1;obtain⟨g,rfl,hg,hrow⟩:=kTs aQ h0;have HF:=hd (Fr.start HK.o hrow hb1 hg vF.o);clear aQ hb1 hg hrow)
 go_loopw [12] (fun i wr=>∃k:Nat,k<=n/\i=.int .i64 k/\∃ds,Kr (Fr w F g us ds wr)) (fun i _=>n-(intOf i).toNat)
 case atStart=>exact⟨0,Nat.zero_le _,rfl,cs,HF⟩
 case round=>
  obtain⟨k,hk1,rfl,ds,HF⟩:=hrel;by_cases hlt:k<n
  ·go_upto_region 6 with fail
   refine jO (S:=fun _=>True) (z:=fun _=>false) Ka ?_;have aa:=hd trivial;refine Kp 0 19 (.pointer (some ⟨g,k*11,none⟩)) aa.o ?_;simp only[Act.put,List.setIfInBounds_toArray,List.set_cons_succ,List.set_cons_zero,List.getElem_toArray,List.getElem_cons_zero];refine Kp 1 18 (.pointer (some ⟨g,k*11,none⟩)) aa.o ?_;simp only[Act.put,List.setIfInBounds_toArray,List.set_cons_succ,List.set_cons_zero,List.getElem_toArray,List.getElem_cons_succ,List.getElem_cons_zero];refine Kp 2 17 (.pointer (some ⟨g,k*11+4,none⟩)) aa.o ?_;simp only[Act.put,List.setIfInBounds_toArray,List.set_cons_succ,List.set_cons_zero,List.getElem_toArray,List.getElem_cons_succ,List.getElem_cons_zero];refine Kp 3 16 (.pointer (some ⟨g,k*11,none⟩)) aa.o ?_;simp only[Act.put,List.setIfInBounds_toArray,List.set_cons_succ,List.set_cons_zero,List.getElem_toArray,List.getElem_cons_succ,List.getElem_cons_zero];refine Kp 4 15 (.pointer (some ⟨g,k*11,none⟩)) aa.o ?_;simp only[Act.put,List.setIfInBounds_toArray,List.set_cons_succ,List.set_cons_zero,List.getElem_toArray,List.getElem_cons_succ,List.getElem_cons_zero];refine Kp 5 14 (.pointer (some ⟨g,k*11+5,none⟩)) aa.o ?_;simp only[Act.put,List.setIfInBounds_toArray,List.set_cons_succ,List.set_cons_zero,List.getElem_toArray,List.getElem_cons_succ,List.getElem_cons_zero];refine Kp 6 13 (.pointer (some ⟨g,k*11+5,none⟩)) aa.o ?_;simp only[Act.put,List.setIfInBounds_toArray,List.set_cons_succ,List.set_cons_zero,List.getElem_toArray,List.getElem_cons_succ,List.getElem_cons_zero];refine Kp 7 12 (.pointer (some ⟨g,k*11,none⟩)) aa.o ?_;simp only[Act.put,List.setIfInBounds_toArray,List.set_cons_succ,List.set_cons_zero,List.getElem_toArray,List.getElem_cons_succ,List.getElem_cons_zero];refine Kp 8 11 (.pointer (some ⟨g,k*11,none⟩)) aa.o ?_;simp only[Act.put,List.setIfInBounds_toArray,List.set_cons_succ,List.set_cons_zero,List.getElem_toArray,List.getElem_cons_succ,List.getElem_cons_zero];refine Kp 9 10 (.pointer (some ⟨g,k*11+7,none⟩)) aa.o ?_;simp only[Act.put,List.setIfInBounds_toArray,List.set_cons_succ,List.set_cons_zero,List.getElem_toArray,List.getElem_cons_succ,List.getElem_cons_zero];refine Kp 10 9 (.pointer (some ⟨g,k*11+7,none⟩)) aa.o ?_;simp only[Act.put,List.setIfInBounds_toArray,List.set_cons_succ,List.set_cons_zero,List.getElem_toArray,List.getElem_cons_succ,List.getElem_cons_zero];refine Kp 11 8 (.pointer (some ⟨g,k*11+7,none⟩)) aa.o ?_;simp only[Act.put,List.setIfInBounds_toArray,List.set_cons_succ,List.set_cons_zero,List.getElem_toArray,List.getElem_cons_succ,List.getElem_cons_zero];refine Kp 12 7 (.pointer (some ⟨g,k*11,none⟩)) aa.o ?_;simp only[Act.put,List.setIfInBounds_toArray,List.set_cons_succ,List.set_cons_zero,List.getElem_toArray,List.getElem_cons_succ,List.getElem_cons_zero];refine Kp 13 6 (.pointer (some ⟨g,k*11,none⟩)) aa.o ?_;simp only[Act.put,List.setIfInBounds_toArray,List.set_cons_succ,List.set_cons_zero,List.getElem_toArray,List.getElem_cons_succ,List.getElem_cons_zero];refine Kp 14 5 (.pointer (some ⟨g,k*11+7,none⟩)) aa.o ?_;simp only[Act.put,List.setIfInBounds_toArray,List.set_cons_succ,List.set_cons_zero,List.getElem_toArray,List.getElem_cons_succ,List.getElem_cons_zero];refine Kp 15 4 (.pointer (some ⟨g,k*11+9,none⟩)) aa.o ?_;simp only[Act.put,List.setIfInBounds_toArray,List.set_cons_succ,List.set_cons_zero,List.getElem_toArray,List.getElem_cons_succ,List.getElem_cons_zero];refine Kp 16 3 (.pointer (some ⟨g,k*11+9,none⟩)) aa.o ?_;simp only[Act.put,List.setIfInBounds_toArray,List.set_cons_succ,List.set_cons_zero,List.getElem_toArray,List.getElem_cons_succ,List.getElem_cons_zero];refine Kp 19 2 (.int .i64 0) aa.o ?_;simp only[Act.put,List.setIfInBounds_toArray,List.set_cons_succ,List.set_cons_zero,List.getElem_toArray,List.getElem_cons_succ,List.getElem_cons_zero];have HF:=hd (HF.o.call (Below.refl wr.heap.size wr).drew);generalize wr.drew=W at HF⊢
   refine Kq 17 1 (fun K hK=>?_);rw[if_pos Ke];go_simp;have hgl:=HF.o.row.lt;have HH:=hd (show∀j,j<4->(W.alloc (.cells #[.pointer (some ⟨g,k*11+4,none⟩),.pointer (some ⟨g,k*11+5,none⟩),.pointer (some ⟨g,k*11+7,none⟩),.pointer (some ⟨g,k*11+9,none⟩)] 122)).cell? ⟨W.heap.size,j,none⟩=some (.pointer (some ⟨g,k*11+kVa j,none⟩))from fun j hj=>by
    rw[World.cell?_alloc_at _ _ _ _ rfl];match j,hj with
    |0,_=>rfl
    |1,_=>rfl
    |2,_=>rfl
    |3,_=>rfl)
   have HF:=hd (HF.o.call ((Below.refl W.heap.size W).alloc Km (.cells #[.pointer (some ⟨g,k*11+4,none⟩),.pointer (some ⟨g,k*11+5,none⟩),.pointer (some ⟨g,k*11+7,none⟩),.pointer (some ⟨g,k*11+9,none⟩)] 122)));have tM:W.heap.size<(W.alloc (.cells #[.pointer (some ⟨g,k*11+4,none⟩),.pointer (some ⟨g,k*11+5,none⟩),.pointer (some ⟨g,k*11+7,none⟩),.pointer (some ⟨g,k*11+9,none⟩)] 122)).heap.size:=by simp
   generalize W.alloc (.cells #[.pointer (some ⟨g,k*11+4,none⟩),.pointer (some ⟨g,k*11+5,none⟩),.pointer (some ⟨g,k*11+7,none⟩),.pointer (some ⟨g,k*11+9,none⟩)] 122)=W1 at HF HH tM⊢
   obtain⟨h,hh⟩:∃h,W.heap.size=h:=⟨_,rfl⟩;rw[hh]at HH tM hgl⊢;refine hK _ _ (fun _=>trivial) ?_;clear hK K;refine Kq 18 0 (fun K hK=>?_);rw[if_pos Ke];go_simp;refine hK _ _ (fun _=>trivial) (zAl Ka ?_);clear hK K;go_wp2_with fail
   go_loopw [37] (fun i wr2=>∃j:Nat,j<=4/\i=.int .i64 j/\(∃ds,Kr (Fr w F g us ds wr2))/\Kr (∀j,j<4->wr2.cell? ⟨h,j,none⟩=some (.pointer (some ⟨g,k*11+kVa j,none⟩)))/\h<wr2.heap.size) (fun i _=>4-(intOf i).toNat)
   case atStart=>exact⟨0,Nat.zero_le _,rfl,⟨ds,HF⟩,HH,tM⟩
   case round=>
    obtain⟨j,hj,rfl,⟨Da,dw⟩,AH,tM⟩:=hrel;clear HF HH;by_cases Db:j<4
    ·obtain⟨c,r,hc,hu,dB⟩:=dw.o.at_ (k:=k) (by rw[HN.o];exact hlt);have HS:=hd (fun A m W' b hm hs=>dw.o.set (W':=W') (j:=j) (A:=A) (m:=m) hc hu b hm hs);have hq:=dB.pth j;have hx:=dw.o.row.cell (kQy hc (kVa j) _ (RC.row_pth c j));have hpt:=AH.o j Db;have xI:=(HT.o r (List.mem_of_getElem? hu)).pth j;obtain⟨of,hof⟩:∃of,kVa j=of:=⟨_,rfl⟩;rw[hof]at hx hpt HS;obtain⟨⟨PA,PN,PC⟩,bg⟩:∃q,c.pth j=q:=⟨_,rfl⟩;rw[bg]at hx hq HS;simp only at hx hq HS;have xG:=hd (zFz PA (r.pth j) PN PC wr hq.len (by have:=hq.len;omega) hq.il);clear hc hu dB hq xI hof bg;go_wp2_with(go_at_call 77;refine xG.o.mono ?_;rintro e w5 ⟨A2,c2,rfl,hc2,hst,b9⟩;have HST:=hd hst;have bw:=hd b9;have rU:=hd hc2;have x0:=bw.o.cell (p:=⟨g,k*11+of,none⟩) dw.o.row.lt;rw[hx]at x0;have f0:=(dw.o.call bw.o).row.frozen (k*11+of);clear b9 hst hx hc2)
     go_roundw
     case rel=>
      refine⟨j+1,by omega,by go_num,⟨_,hd (HS.o A2 c2 _ bw.o rU.o HST.o)⟩,hd (fun j' hj'=>?_),?_⟩
      ·exact(World.cell?_of_block (Below.heap_setCell _ _ _ _ (show h≠g by omega))).trans ((bw.o.cell (p:=⟨h,j',none⟩) tM).trans (AH.o j' hj'))
      ·have:=bw.o.size;simp only[World.size_setCell];omega
     case measure=>simp[intOf];omega
    ·obtain rfl:j=4:=Kb;go_wp2_with fail
     go_roundw
     case rel=>exact⟨k+1,by omega,by go_num,Da,dw⟩
     case measure=>simp[intOf];omega
  ·obtain rfl:k=n:=Kb;go_wp2_with fail
   go_ret
   exact⟨some ⟨g,0,none⟩,k,c1,ds,rfl,HN.o,hle,fun _=>⟨g,rfl,HF.o⟩,HF.o.lr,HF.o.below⟩
theorem kVq {n:Nat}(h:LR w A cs us)(hh:kQf F w cs us)(hF:∀k,F k->k<w.heap.size)(hn:us.length=n)(hl:n<=10000)(ht:∀r ∈ us,kOp r):Calls Tryz.prog 36 #[.slice A n cap] w (kVy w F us):=by
 rcases Nat.eq_zero_or_pos n with h0|h0
 ·subst h0;obtain rfl:=List.eq_nil_of_length_eq_zero hn;exact kVo
 ·exact kVp h hh hF hn hl h0 ht
theorem kTq {n:Nat}(h:LR w A cs us)(hn:us.length=n)(hl:n<=10000)(ht:∀r ∈ us,kOp r):Calls Tryz.prog 36 #[.slice A n cap] w (kVy w (fun _=>False) us):=
 kVq h (kQf.plain h.rk) (fun _ h=>h.elim) hn hl ht
theorem kSp (c:RC):(Value.agg c.row).cells=c.row.toList.toArray:=rfl
theorem kVr (c:RC):∀u ∈ c.row.toList,u.oneCell'=true:=fun u hu=>Array.all_eq_true'.1 c.one u (by simpa using hu)
theorem kVs :(Tryz.prog.info? 37).map (·.size)=some 11:=Ka
theorem kWy (h:RkA w d r):∀W,RkA W {RC.zero with id:=d.id,kind:=d.kind,aff:=d.aff} (kPj r):=fun W=>{RkA.zero W with hid:=h.hid,hk:=h.hk,ha:=h.ha,hlv:=rfl,hkw:=h.hkw}
theorem kWe {g:Nat}(h:kPz w g [d])(hr:RkA w d r):LR w (some ⟨g,0,none⟩) [d] [r]:=(RkL.one hr).lr h.vl
theorem kUr {m x:Operand}{ok:Bool}{a:Act}(h:wpList P ops Q ({dst:=dst,op:=.lookup t m x ok,type:=ty,pos:=pos,after:=af,guard:=none}::rest) a w):wpList P ops Q ({dst:=dst,op:=.lookup t m x ok,type:=ty,pos:=pos,after:=af,guard:=none}::rest) a w:=h
theorem kR8 {o:Oper}{a:Act}{k:Int}{is:Bool}(h:kOv w b)(hk:(Lit.int .i64 k).wf=true)(hkk:kPf k=(kc,is))(hg:o.guard=none)(m x:Operand)(hop:o.op=Op.lookup 78 m x true)(hm:a.eval m=.map (some b))(hx:a.eval x=.int .i64 k)
  (hK:wpList Tryz.prog ops Q rest (a.put o.dst (.tuple #[.agg kc.row,.bool is])) w):wpList Tryz.prog ops Q (o::rest) a w:=
 kSt h hk hg m x hop hm hx (by rw[hkk];exact hK)
theorem kWz (h:kc.chk.oneCell'=true/\kc.along.oneCell'=true):kc.row.all (·.oneCell')=true:=by
 rw[Array.all_eq_true'];intro u hu;exact kUm h u (by simpa[KC.row]using hu)
theorem kVt {r':kNx}{o:OC}{fid:FuncId}{b:Bool}(h:LR w A [d] [r])(_hcap:1<=cap)(ht:kOp r)(hlv:r.live=true)(ho:OkA w o a)(hkk:kPf d.kind=(kc,true))(hfn:kc.along=.func (.func fid) #[] #[])(hent:∀args w,(callFunc fid args).run Tryz.prog w=.ok (.enter fid args) w)
  (hal:∀(W:World)(g:Nat)(e:RC),kPz W g [e]->(∀W',Off g W W'->RkA W' e r)->OkA W o a->Calls Tryz.prog fid #[.pointer (some ⟨g,0,none⟩),.agg o.row] W (kUq g e (r',b) W)):Calls Tryz.prog 13 #[.slice A 1 cap,.agg o.row] w (kW3 w [if b=true then r' else kPj r]):=by
 obtain⟨res,hres⟩:∃res,(if b=true then r' else kPj r)=res:=⟨_,rfl⟩;rw[hres];have dz:=hd hres;clear hres;have dF:=hd hkk;have oN:=hd (kRn d.kind);rw[hkk]at oN;have vE:=hd hfn;have AJ:=hd hal;have Dc:=hd hlv;have Dd:=hd (show r.kind=d.kind from(h.ha 0 d r rfl rfl).hk);have De:=hd (show∀x ∈ [r],kOp x from fun x hx=>by
  simp at hx;subst hx;exact ht)
 have hb:Below w.heap.size w (w.alloc (.cells o.row 35)):=Kl.alloc Km _;have HL:=hd (h.later hb);have HV:=hd (jT.new w 35 o.row);have HO:=hd (ho.later hb);have HB:=hd hb;obtain⟨W0,hW⟩:∃W0,w.alloc (.cells o.row 35)=W0:=⟨_,rfl⟩;rw[hW]at HL HV HO HB;have HW:=hd hW;clear h hlv ht ho hkk hfn hal hb hW;go_enter Tryz.func13,Tryz.ntmps13
 go_upto_region 1 with fail
 rw[HW.o];go_upto_region 2 with(first
  |(go_at_call 27;refine(kO7 _).mono ?_;rintro e w1 ⟨mb,rfl,dQ,_,b9⟩;have nB:=hd dQ;have HL:=hd (HL.o.later b9);have HV:=hd (HV.o.keep b9);have HO:=hd (HO.o.later b9);have HB:=hd (zI HB.o b9);have aO:=HB;clear dQ b9)
  |(go_at_call 36;refine(kTq HL.o rfl Kc De.o).mono ?_;rintro e w2 ⟨A2,n2,c2,ds,rfl,nA,hc2,AK,_,b9⟩;have nB:=hd (nB.o.below b9);have HV:=hd (HV.o.keep b9);have HO:=hd (HO.o.later b9);have HB:=hd (zI HB.o b9);clear b9;simp only[List.length_cons,List.length_nil]at nA;subst nA;obtain⟨g,rfl,tN⟩:=AK Kb;clear AK;have HF:=hd tN;clear tN))
 go_wp2_with fail
 go_loopw [16] (fun i wr=>(i=.int .i64 0/\wr=w2)∨(i=.int .i64 1/\Kr (∃d',LR wr (some ⟨g,0,none⟩) [d'] [res])/\Kr (Below w.heap.size w wr))) (fun i _=>1-(intOf i).toNat)
 case atStart=>exact .inl ⟨rfl,rfl⟩
 case round=>
  rcases hrel with⟨rfl,rfl⟩|⟨rfl,fA,aK⟩
  ·obtain⟨e,rfl⟩:∃e,ds=[e]:=List.length_eq_one_iff.1 HF.o.held.rk.1;have dB:=HF.o.held.rk.2 0 e r rfl rfl;have vG:e.kind=d.kind:=dB.hk.symm.trans Dd.o;have xJ:=dB.hkw;have hel:e.live=true:=dB.hlv.symm.trans Dc.o;have Df:=hd (fun W'(h:Off g wr W')=>(HF.o.held W' (kQ0.of_off h (.inl rfl))).2 0 e r rfl rfl);have ic:=hd HF.o.row;have u1:wr.cell? ⟨g,1,none⟩=some (.int .i64 d.kind):=vG▸ic.o.cell rfl;have u3:wr.cell? ⟨g,3,none⟩=some (.bool true):=hel▸ic.o.cell rfl;rw[vG]at xJ;have qm:=hd xJ;have vA:=hd HF.o.hi;have o8:=hd dB;have EW:=hd vG;clear dB vG xJ hel HF;go_upto_region 8 with(first
    |((with_reducible refine kUr ?_);refine kR8 nB.o qm.o dF.o rfl _ _ rfl rfl rfl ?_)
    |((with_reducible refine zF (ty:=76) (x:=.tmp 9) ?_);refine zA kUk (r:=kc.row) (jT.new wr 76 kc0.row) rfl rfl (kWz oN.o) _ _ rfl rfl rfl rfl rfl ?_;intro W5 iI eD;have aY:=zN ((Below.refl wr.heap.size wr).alloc Km (.cells kc0.row 76)) eD Km;have sY:=hd iI;have HO:=hd (HO.o.later aY);have HV:=hd (HV.o.keep aY);have ic:=hd (ic.o.keep aY);have gK:=hd (Off.of_below (g:=g) aY);have HB:=hd (zI HB.o aY);clear iI eD aY u1 u3))
   have g2:W5.cell? ⟨wr.heap.size,2,none⟩=some (.func (.func fid) #[] #[]):=(sY.o.cell 2 _ rfl).trans (congrArg some vE.o);have tO:=hd (fun W'(h:Off g W5 W')=>Df.o W' (gK.o.trans h));cases b
   ·have HZ:=hd (show kPj r=res from dz.o);go_upto_region 9 with(first
     |((with_reducible refine kH (ty:=35) (x:=.tmp 3) ?_);refine zK zMk HV.o rfl _ rfl Ke rfl ?_;have w6:=True.intro)
     |(have _g:=w6;refine(AJ.o W5 g e ic.o tO.o HO.o).mono ?_;rintro x w7 ⟨d',rfl,tP,aU,i1,i2,i3,_⟩;have ic:=hd tP;have HB:=hd (zN HB.o aU (by have:=vA.o;have:=aO.o.size;omega));have HI:=hd (And.intro i1 (And.intro i2 i3));clear tP aU i1 i2 i3 w6))
    refine kU4 (S:=fun W'=>kPz W' g [d']) (m:=13) Ka ?_;have aa:=hd (show kPz w7.drew g [d']from ic.o);refine kOl (i:=0) (n:=15) (.pointer (some ⟨g,0,none⟩)) rfl Ka Ka Ka Ka (fun _ _ _ h=>h) Ke (fun W9=>?_) aa.o ?_
    ·go_simp
    simp only[Act.put,List.setIfInBounds_toArray,List.set_cons_succ,List.set_cons_zero,List.getElem_toArray,List.getElem_cons_zero];refine kOl (i:=1) (n:=14) (.pointer (some ⟨g,0,none⟩)) rfl Ka Ka Ka Ka (fun _ _ _ h=>h) Ke (fun W9=>?_) aa.o ?_
    ·go_simp
    simp only[Act.put,List.setIfInBounds_toArray,List.set_cons_succ,List.set_cons_zero,List.getElem_toArray,List.getElem_cons_succ,List.getElem_cons_zero];refine kOl (i:=2) (n:=13) (.pointer (some ⟨g,0,none⟩)) rfl Ka Ka Ka Ka (fun _ _ _ h=>h) Ke (fun W9=>?_) aa.o ?_
    ·go_simp
    simp only[Act.put,List.setIfInBounds_toArray,List.set_cons_succ,List.set_cons_zero,List.getElem_toArray,List.getElem_cons_succ,List.getElem_cons_zero];refine kOl (i:=3) (n:=12) (.pointer (some ⟨g,0,none⟩)) rfl Ka Ka Ka Ka (fun _ _ _ h=>h) Ke (fun W9=>?_) aa.o ?_
    ·go_simp
    simp only[Act.put,List.setIfInBounds_toArray,List.set_cons_succ,List.set_cons_zero,List.getElem_toArray,List.getElem_cons_succ,List.getElem_cons_zero];refine kSe (i:=4) (n:=11) (.int .i64 d'.id) rfl Ka Ka Ka Ka Ka (fun _ _ _ h=>h) Ke (fun W9 ag=>?_) aa.o ?_
    ·have h9:W9.cell? ⟨g,0,none⟩=some (.int .i64 d'.id):=ag.cell rfl;go_simp
    simp only[Act.put,List.setIfInBounds_toArray,List.set_cons_succ,List.set_cons_zero,List.getElem_toArray,List.getElem_cons_succ,List.getElem_cons_zero];refine kOl (i:=5) (n:=10) (.pointer (some ⟨g,0,none⟩)) rfl Ka Ka Ka Ka (fun _ _ _ h=>h) Ke (fun W9=>?_) aa.o ?_
    ·go_simp
    simp only[Act.put,List.setIfInBounds_toArray,List.set_cons_succ,List.set_cons_zero,List.getElem_toArray,List.getElem_cons_succ,List.getElem_cons_zero];refine kOl (i:=6) (n:=9) (.pointer (some ⟨g,0,none⟩)) rfl Ka Ka Ka Ka (fun _ _ _ h=>h) Ke (fun W9=>?_) aa.o ?_
    ·go_simp
    simp only[Act.put,List.setIfInBounds_toArray,List.set_cons_succ,List.set_cons_zero,List.getElem_toArray,List.getElem_cons_succ,List.getElem_cons_zero];refine kOl (i:=7) (n:=8) (.pointer (some ⟨g,1,none⟩)) rfl Ka Ka Ka Ka (fun _ _ _ h=>h) Ke (fun W9=>?_) aa.o ?_
    ·go_simp
    simp only[Act.put,List.setIfInBounds_toArray,List.set_cons_succ,List.set_cons_zero,List.getElem_toArray,List.getElem_cons_succ,List.getElem_cons_zero];refine kSe (i:=8) (n:=7) (.int .i64 d'.kind) rfl Ka Ka Ka Ka Ka (fun _ _ _ h=>h) Ke (fun W9 ag=>?_) aa.o ?_
    ·have h9:W9.cell? ⟨g,1,none⟩=some (.int .i64 d'.kind):=ag.cell rfl;go_simp
    simp only[Act.put,List.setIfInBounds_toArray,List.set_cons_succ,List.set_cons_zero,List.getElem_toArray,List.getElem_cons_succ,List.getElem_cons_zero];refine kOl (i:=9) (n:=6) (.pointer (some ⟨g,0,none⟩)) rfl Ka Ka Ka Ka (fun _ _ _ h=>h) Ke (fun W9=>?_) aa.o ?_
    ·go_simp
    simp only[Act.put,List.setIfInBounds_toArray,List.set_cons_succ,List.set_cons_zero,List.getElem_toArray,List.getElem_cons_succ,List.getElem_cons_zero];refine kOl (i:=10) (n:=5) (.pointer (some ⟨g,0,none⟩)) rfl Ka Ka Ka Ka (fun _ _ _ h=>h) Ke (fun W9=>?_) aa.o ?_
    ·go_simp
    simp only[Act.put,List.setIfInBounds_toArray,List.set_cons_succ,List.set_cons_zero,List.getElem_toArray,List.getElem_cons_succ,List.getElem_cons_zero];refine kOl (i:=11) (n:=4) (.pointer (some ⟨g,2,none⟩)) rfl Ka Ka Ka Ka (fun _ _ _ h=>h) Ke (fun W9=>?_) aa.o ?_
    ·go_simp
    simp only[Act.put,List.setIfInBounds_toArray,List.set_cons_succ,List.set_cons_zero,List.getElem_toArray,List.getElem_cons_succ,List.getElem_cons_zero];refine kSe (i:=12) (n:=3) (.int .i64 d'.aff) rfl Ka Ka Ka Ka Ka (fun _ _ _ h=>h) Ke (fun W9 ag=>?_) aa.o ?_
    ·have h9:W9.cell? ⟨g,2,none⟩=some (.int .i64 d'.aff):=ag.cell rfl;go_simp
    simp only[Act.put,List.setIfInBounds_toArray,List.set_cons_succ,List.set_cons_zero,List.getElem_toArray,List.getElem_cons_succ,List.getElem_cons_zero];refine kX2 (n:=2) Ka rfl Ka (fun K hK=>?_);rw[if_pos Ke];go_simp;refine hK _ _ ?_;clear hK K;refine Ko 14 1 (.pointer (some ⟨g,0,none⟩)) (fun W9 _=>?_) trivial ?_
    ·go_simp
    simp only[Act.put,List.setIfInBounds_toArray,List.set_cons_succ,List.set_cons_zero,List.getElem_toArray,List.getElem_cons_succ,List.getElem_cons_zero];refine Kq 15 0 (fun K hK=>?_);rw[if_pos Ke];refine kQ6 kVs aa.o _ _ rfl rfl 0 (.agg ({RC.zero with id:=d'.id,kind:=d'.kind,aff:=d'.aff}:RC).row) ({RC.zero with id:=d'.id,kind:=d'.kind,aff:=d'.aff}:RC).row.toList [{RC.zero with id:=d'.id,kind:=d'.kind,aff:=d'.aff}] rfl rfl (kSp _) rfl (kVr _) Kd (by rw[kOq];show 0+11<=1*11;decide) rfl ?_;intro W8 AL bb;have HB:=hd (zN (HB.o.trans ((Below.refl w7.heap.size w7).drew.mono HB.o.size)) bb (by have:=vA.o;have:=aO.o.size;omega));have fA:=hd (kWe AL (show RkA W8 {RC.zero with id:=d'.id,kind:=d'.kind,aff:=d'.aff} (kPj r) by
     obtain⟨i1,i2,i3⟩:=HI.o;rw[i1,i2,i3];exact kWy o8.o W8))
    clear AL bb;refine hK _ _ (fun _=>trivial) (zAl Ka ?_);clear hK K;go_wp2_with fail
    go_roundw
    case rel=>exact .inr ⟨by go_num,hd ⟨_,HZ.o▸fA.o⟩,HB⟩
    case measure=>simp[intOf]
   ·have HZ:=hd (show r'=res from dz.o);go_wp2_with(first
     |((with_reducible refine kH (ty:=35) (x:=.tmp 3) ?_);refine zK zMk HV.o rfl _ rfl Ke rfl ?_;have w6:=True.intro)
     |(have _g:=w6;refine(AJ.o W5 g e ic.o tO.o HO.o).mono ?_;rintro x w7 ⟨d',rfl,tP,aU,_,_,_,h8⟩;have HB:=hd (zN HB.o aU (by have:=vA.o;have:=aO.o.size;omega));have fA:=hd (kWe tP (h8 rfl));clear tP aU w6))
    go_roundw
    case rel=>exact .inr ⟨by go_num,hd ⟨d',HZ.o▸fA.o⟩,HB⟩
    case measure=>simp[intOf]
  ·go_wp2_with fail
   go_ret
   obtain⟨d',hd'⟩:=fA.o;exact⟨_,1,c2,_,rfl,rfl,hc2,hd',aK.o⟩
theorem kUs {o:OC}{x:List Int}{b:Bool}(h:LR w A [d] [r])(hcap:1<=cap)(ht:kOp r)(hlv:r.live=true)(hk:r.kind=1)(ho:OkA w o a)(ta:zAf a)(hm:jF a.k a.q a.t a.z r.p=(x,b)):Calls Tryz.prog 13 #[.slice A 1 cap,.agg o.row] w (kW3 w [if b=true then{r with p:=x}else kPj r]):=by
 have hd1:d.kind=1:=(h.ha 0 d r rfl rfl).hk.symm.trans hk;exact kVt (kc:=kc1) (fid:=55) h hcap ht hlv ho (by rw[hd1];rfl) rfl (fun _ _=>by kernel_rfl) (fun W g e g1 g2 g3=>kWx g1 g2 g3 ta ht.1 hm)
def exR :kNx:=⟨4,1,0,true,[0],([],0),([],0),([],0)⟩
def exC (b:Nat):RC:=⟨4,1,0,true,some ⟨b,0,none⟩,1,1,none,0,0,0,none,0,0,0,none,0,0,0⟩
def exP :OpP:={zeroO with k:=1,q:=[0]}
theorem kVu :zAf exP:=by constructor<;>simp[exP,zeroO,zeroS]
theorem kVv :jF exP.k exP.q exP.t exP.z exR.p=([1],true):=by decide
def kYo (b:Nat):OC:=OC.mk 1 (some ⟨b,0,none⟩) 1 1 none 0 0 0 false none 0 0 none 0 0 none 0 0 none 0 0 none 0 0 none 0 0 false none 0 0 0 none 0 0 0 false none 0 0 0 none 0 0 0
theorem kXq (h:IL W W.heap.size (some ⟨b,0,none⟩) [0]):OkA W (kYo b) exP:=
 ((OkA.zero W).setK (k:=1) (by unfold zFf;omega)).setQ (l:=[0]) (n:=1) (d:=1) rfl Kb Kb h (fun j hj=>by
  obtain rfl:j=0:=by simp at hj;omega
  exact⟨by decide,by decide⟩)
theorem kXr (h:IL W W.heap.size (some ⟨b,0,none⟩) [0]):RkA W (exC b) exR:=⟨rfl,rfl,rfl,rfl,⟨rfl,Nat.le_refl _,(by show 1<=9223372036854775807;decide),h⟩,kNz.nil _,rfl,kNz.nil _,rfl,kNz.nil _,rfl,rfl⟩
theorem kTr {k:Nat}{ps:Array (Nat×Operand)}{a:Act}(h:wpList P ops Q ({dst:=dst,op:=.buildSlice ty k ps,type:=t,pos:=pos,after:=af,guard:=none}::rest) a w):wpList P ops Q ({dst:=dst,op:=.buildSlice ty k ps,type:=t,pos:=pos,after:=af,guard:=none}::rest) a w:=h
theorem kYg (W:World)(x:Int)(t:TypeId):IL (W.alloc (.cells #[.int .i64 x] t)) (W.alloc (.cells #[.int .i64 x] t)).heap.size (some ⟨W.heap.size,0,none⟩) [x]:=fun _=>⟨W.heap.size,0,rfl,by simp,fun k hk=>by
 rw[World.cell?_alloc_at _ _ _ _ rfl];match k,hk with
 |0,_=>rfl⟩
theorem kPc (w:World):Calls Tryz.prog 6 #[] w (jA (.bool true) w):=by
 have aO:=hd ((Below.refl w.heap.size w).alloc Km (.cells #[.int .i64 0] 3));have xK:=hd (kYg w 0 3);obtain⟨w1,hw1⟩:∃W,w.alloc (.cells #[.int .i64 0] 3)=W:=⟨_,rfl⟩;rw[hw1]at aO xK;have vz:=hd hw1;have HR:=hd (kXr xK.o);have fA:=hd (kXv HR.o);have aL:=hd (zI aO.o (kN3 w1 (exC w.heap.size)).2);obtain⟨w2,hw2⟩:∃W,w1.alloc (.cells (exC w.heap.size).row 37)=W:=⟨_,rfl⟩;rw[hw2]at fA aL;have m9:=hd hw2;have tQ:=hd (kYg w2 0 3);have bT:=hd ((Below.refl w2.heap.size w2).alloc Km (.cells #[.int .i64 0] 3));have rV:=hd (fA.o.later bT.o);have bT:=hd (zI aL.o bT.o);obtain⟨w3,hw3⟩:∃W,w2.alloc (.cells #[.int .i64 0] 3)=W:=⟨_,rfl⟩;rw[hw3]at tQ rV bT;have xL:=hd hw3;have HO:=hd (kXq tQ.o);have HC:=hd (kUs (cap:=1) rV.o Km ⟨by decide,by decide,by decide,by decide⟩ rfl rfl HO.o kVu kVv);clear hw1 hw2 hw3 xK HR fA aO aL tQ rV HO;go_enter Tryz.func6,Tryz.ntmps6
 go_wp2_with(first
  |((with_reducible refine kTr (ty:=42) (k:=1) ?_);rw[vz.o];refine kN0 (c:=exC w.heap.size) _ rfl rfl rfl ?_;rw[m9.o])
  |(go_at_call 13;rw[xL.o];refine Calls.mono HC.o ?_;rintro e w4 ⟨A4,n4,c4,ds,rfl,tR,EX,hlr,b9⟩;simp only[List.length_cons,List.length_nil]at tR;subst tR;rw[if_pos rfl]at hlr;obtain⟨b,q,c,rfl,hb,dB,hrg⟩:=hlr.one;have HB:=hd (zI bT.o b9);have HP:=hd dB.hp;have y3:w4.cell? ⟨b,q+3,none⟩=some (.bool true):=(hrg 3 _ rfl).trans (congrArg (fun z=>some (Value.bool z)) dB.hlv.symm);have y0:w4.cell? ⟨b,q,none⟩=some (.int .i64 4):=(hrg 0 _ rfl).trans (congrArg (fun z=>some (Value.int .i64 z)) dB.hid.symm);have y4:=hrg 4 _ rfl;clear hlr dB hrg b9 hb)
  |(go_at_call 23;have b9:=(Below.refl w4.heap.size w4).alloc Km (.cells #[.int .i64 1] 3);refine Calls.mono (kEp (show XA _ (.slice c.P c.np c.cp) [1]from⟨_,_,_,rfl,(HP.o.later b9).len,by have h1:=HP.o.len;simp at h1;omega,(HP.o.later b9).cap,(HP.o.later b9).il⟩) (show XA _ (.slice (some ⟨w4.heap.size,0,none⟩) 1 1) [1]from⟨_,_,_,rfl,rfl,by decide,by decide,kYg w4 1 3⟩) (show zEd [1] [1]=true from rfl)) ?_;rintro e w5 ⟨rfl,b8⟩;have HB:=hd (zI (zI HB.o b9) b8);clear b8 b9))
 go_ret
 exact⟨rfl,HB.o⟩
theorem kNy {o:OC}(h1:zI5 100 n=true)(h3:zT3 a=true)(hn:kS w c n)(ho:OkA w o a):zRb n zeroS a/\(zAh n=0->sizeT n<=100)/\(zAh a.n=0->sizeT a.n<=100):=by
 obtain⟨d,hd⟩:=hn;obtain⟨d2,hd2⟩:=ho.hn;have e1:zAh n=0->sizeT n<=100:=fun hk=>by have:=zRa hd (m:=100) Kb Kb hk h1;omega
 have e2:zAh a.n=0->sizeT a.n<=100:=fun hk=>by
  have hf:zI5 100 a.n=true:=by
   simp only[zT3,Bool.and_eq_true]at h3;exact h3.1.1.1.1.2
  have:=zRa hd2 (m:=100) Kb Kb hk hf;omega
 exact⟨⟨rfl,zXu h3,fun hk=>by have:=e1 hk;omega,fun hk=>by have:=e2 hk;omega⟩,e1,e2⟩
theorem kS6 {o:OC}{x:NT}{tl:Sl}(h1:zI5 100 n=true)(h2:zT3 a=true)(hn:kS w c n)(ho:OkA w o a)(hap:jL n zeroS a=((x,tl),0)):
  zCx a=0/\(1<=a.k/\a.k<=8/\doO n a=(x,0)∨a.k=9/\x=n)/\sizeT n<=100/\zAh n=0/\(a.k=1->sizeT a.n<=100):=by
 obtain⟨_,e1,e2⟩:=kNy h1 h2 hn ho;obtain⟨g1,g2,g3,g4,g5⟩:=zH8 hap;have hc:=e1 (zC1 g1);rcases g5 with⟨e9,_,_,hx⟩|⟨k1,k8,hd,_,_⟩
 ·exact⟨g4,.inr ⟨e9,congrArg Prod.fst hx⟩,hc,zC1 g1,fun e=>by omega⟩
 ·refine⟨g4,.inl ⟨k1,k8,hd⟩,hc,zC1 g1,fun e=>?_⟩;rcases zC7 k1 k8 hd with⟨_,h⟩|⟨e',_⟩|⟨e',_⟩|⟨e',_⟩|⟨e',_⟩|⟨e',_⟩|⟨e',_⟩|⟨e',_⟩
  case inl=>exact e2 (zC1 (zCd h).1)
  all_goals omega
theorem kVw (hn:kS w c n)(hr:RkA w d r)(hf:kOp r)(hE:chkR n r=E):Calls Tryz.prog 10 #[.agg c.row,.agg d.row] w (jA (.int .i64 E) w):=by
 by_cases h1:d.kind=1
 ·refine kUn (kc:=kc1) (fid:=53) (st:=kPg false true true d.np (zP r.q) (zP r.a&&zP r.f)) (G:=(zGm n r.p).2) hn hr hf (by rw[h1];rfl) rfl (fun _ _=>by kernel_rfl) (fun W g=>kP0 g hf (by rw[h1];rfl) (by rw[h1];rfl) (by rw[h1];rfl) rfl rfl) (fun W g1 g2=>kXl g1 g2 hf rfl) ?_;rw[<-hE,chkR,hr.hk,if_pos h1,hr.ha];unfold kXp kPg;have e0:kc1.last=0:=rfl;rw[e0];cases zP r.q<;>cases(zP r.a&&zP r.f)<;>simp<;>omega
 by_cases h2:d.kind=2
 ·refine kUn (kc:=kc2) (fid:=56) (st:=kPg true false true d.np (zP r.q) (zP r.a&&zP r.f)) (G:=zK6 n r.q) hn hr hf (by rw[h2];rfl) rfl (fun _ _=>by kernel_rfl) (fun W g=>kP0 g hf (by rw[h2];rfl) (by rw[h2];rfl) (by rw[h2];rfl) rfl rfl) (fun W g1 g2=>kXm g1 g2 hf rfl) ?_;rw[<-hE,chkR,hr.hk,if_neg h1,if_pos h2,hr.ha,hr.hp.len];unfold kXp kPg;have e0:kc2.last=2:=rfl;rw[e0];cases zP r.q<;>cases(zP r.a&&zP r.f)<;>simp<;>omega
 by_cases h3:d.kind=3
 ·refine kUn (kc:=kc3) (fid:=59) (st:=kPg true true false d.np (zP r.q) (zP r.a&&zP r.f)) (G:=if zK6 n r.a≠0 then zK6 n r.a else zK6 n r.f) hn hr hf (by rw[h3];rfl) rfl (fun _ _=>by kernel_rfl) (fun W g=>kP0 g hf (by rw[h3];rfl) (by rw[h3];rfl) (by rw[h3];rfl) rfl rfl) (fun W g1 g2=>kXn g1 g2 hf rfl rfl rfl) ?_;rw[<-hE,chkR,hr.hk,if_neg h1,if_neg h2,if_pos h3,hr.ha,hr.hp.len];unfold kXp kPg;have e0:kc3.last=4:=rfl;rw[e0];generalize(if zK6 n r.a≠0 then zK6 n r.a else zK6 n r.f)=G
  cases zP r.q<;>cases(zP r.a&&zP r.f)<;>simp<;>omega
 ·rw[<-hE,kUo hr h1 h2 h3];exact kXo (kc:=kc0) hn hr hf (by unfold kPf;rw[if_neg h1,if_neg h2,if_neg h3])
theorem kXs (hn:kS w c n)(hr:RkA w d r)(hf:kWi r=true)(hE:chkR n r=E):Calls Tryz.prog 10 #[.agg c.row,.agg d.row] w (jA (.int .i64 E) w):=kVw hn hr (kTb hf) hE
theorem kQh (hn:kS w c n)(hr:RkA w d r)(hf:kWi r=true)(hE:chkR n r=E):Calls Tryz.prog 10 #[.agg c.row,.agg d.row] w (jA (.int .i64 E) w):=kXs hn hr hf hE
theorem kSq {o:OC}(h:LR w A [d] [r])(hcap:1<=cap)(hf:kWi r=true)(ho:OkA w o a)(ta:zAf a)(hk:r.kind=1)(hlv:r.live=true)(hz:r={kPj r with live:=true,p:=r.p}):Calls Tryz.prog 13 #[.slice A 1 cap,.agg o.row] w (kW3 w [kRo a r]):=by
 obtain⟨⟨x,b⟩,hm⟩:∃z,jF a.k a.q a.t a.z r.p=z:=⟨_,rfl⟩;have e:kRo a r=if b=true then{r with p:=x}else kPj r:=by
  unfold kRo;rw[if_neg (by rw[hlv];simp),if_pos hk,hm];cases b
  ·rfl
  ·rw[if_pos rfl,if_pos rfl];conv=>rhs;rw[hz]
 rw[e];exact kUs h hcap (kTb hf) hlv hk ho ta hm
mutual
def cntT (l:Int):NT->Nat
 |.mk _ _ tx ks=>(if tx.head?=some l then 1 else 0)+cntK l ks
def cntK (l:Int):List NT->Nat
 |[]=>0
 |k::r=>cntT l k+cntK l r
end
theorem kOj (l:Int):∀(a b:List NT),cntK l (a++b)=cntK l a+cntK l b
 |[],b=>by simp[cntK]
 |k::r,b=>by rw[List.cons_append,cntK,cntK,kOj l r b];omega
def kWf (l:Int)(tx:List Int):Nat:=if tx.head?=some l then 1 else 0
theorem kO5 (l:Int)(n:NT):cntT l n=kWf l n.tx+cntK l n.ks:=by obtain⟨a,b,c,d⟩:=n;rfl
theorem kPk {ks:List NT}(h:ks[i]? =some k):cntK l ks=cntK l (ks.take i)+(cntT l k+cntK l (ks.drop (i+1))):=by
 have e:ks=ks.take i++(k::ks.drop (i+1)):=by
  obtain⟨h1,h2⟩:=List.getElem?_eq_some_iff.1 h;rw[<-h2,<-List.drop_eq_getElem_cons h1,List.take_append_drop]
 conv=>lhs;rw[e]
 rw[kOj,cntK]
theorem kOt (l:Int):∀(p:List Int)(n x x':NT),kB n p=some x->cntT l (putT n p x')+cntT l x=cntT l n+cntT l x'
 |[],n,x,x',h=>by
  rw[kB]at h;injection h with h;subst h;rw[putT];omega
 |i::r,n,x,x',h=>by
  rw[kB]at h;cases hk:zBh n i with
  |none=>rw[hk]at h;cases h
  |some k=>
   rw[hk]at h;obtain⟨j,rfl,hj⟩:=zDa hk;have ih:=kOt l r k x x' h;have hlt:=(List.getElem?_eq_some_iff.1 hj).1;rw[kRr hj,kO5 l n,kPk (l:=l) hj,kO5];show kWf l n.tx+cntK l (n.ks.set j (putT k r x'))+_=_
   rw[kPk (l:=l) (i:=j) (k:=putT k r x') (by simp[hlt]),List.take_set_of_le Km,List.drop_set_of_lt Kb];omega
theorem kPx (l:Int)(x:NT)(i m:Nat)(os:List NT):cntT l (jS x i m os)+cntK l ((x.ks.drop i).take m)=cntT l x+cntK l os:=by
 have e:cntK l x.ks=cntK l (x.ks.take i)+(cntK l ((x.ks.drop i).take m)+cntK l (x.ks.drop (i+m))):=by
  rw[<-kOj,<-List.drop_drop,List.take_append_drop,<-kOj,List.take_append_drop]
 rw[kO5 l x,e,kO5];show kWf l x.tx+cntK l (spl x.ks i m os)+_=_
 unfold spl;rw[kOj,kOj];omega
theorem kQr {ks:List NT}(h:ks[i]? =some k):(ks.drop i).take 1=[k]:=by
 obtain⟨h1,h2⟩:=List.getElem?_eq_some_iff.1 h;rw[List.drop_eq_getElem_cons h1,h2];rfl
theorem kUt {ks:List NT}{b:NT}(h:ks[i]? =some b)(g:ks[i+1]? =some k):(ks.drop i).take 2=[b,k]:=by
 obtain⟨h1,h2⟩:=List.getElem?_eq_some_iff.1 h;obtain⟨g1,g2⟩:=List.getElem?_eq_some_iff.1 g;rw[List.drop_eq_getElem_cons h1,h2,List.drop_eq_getElem_cons g1,g2];rfl
theorem kOu :∀{p:List Int}{n y:NT},kB n p=some y->cntT l y<=cntT l n:=fun{p n y} h=>by
 have h1:=kOt l p n y (.mk false [] [] []) h;have h2:cntT l (.mk false [] [] [])=0:=by simp[cntT,cntK]
 omega
theorem kS7 :∀{ks:List NT}{i j:Nat}{a b:NT},i≠j->ks[i]? =some a->ks[j]? =some b->cntT l a+cntT l b<=cntK l ks
 |[],_,_,_,_,_,h,_=>by simp at h
 |k::r,0,0,_,_,h,_,_=>absurd rfl h
 |k::r,0,j+1,a,b,_,h1,h2=>by
  simp at h1 h2;subst h1;rw[cntK];have:=kPk (l:=l) h2;omega
 |k::r,i+1,0,a,b,_,h1,h2=>by
  simp at h1 h2;subst h2;rw[cntK];have:=kPk (l:=l) h1;omega
 |k::r,i+1,j+1,a,b,hne,h1,h2=>by
  have:=kS7 (ks:=r) (i:=i) (j:=j) Kb (by simpa using h1) (by simpa using h2);rw[cntK];omega
theorem kOn {y:NT}(h:kOo y=some l):1<=cntT l y:=by
 rw[kO5];unfold kWf kOo at*;rw[if_pos h];omega
theorem kSr :∀{p q:List Int}{n y z:NT},kB n p=some y->kB n q=some z->kOo y=some l->kOo z=some l->p≠q->2<=cntT l n
 |[],[],_,_,_,_,_,_,_,h=>absurd rfl h
 |[],j::s,n,y,z,h1,h2,h3,h4,_=>by
  rw[kB]at h1;injection h1 with h1;subst h1;rw[kB]at h2;cases hk:zBh n j with
  |none=>rw[hk]at h2;cases h2
  |some k=>
   rw[hk]at h2;obtain⟨j',rfl,hj⟩:=zDa hk;have e1:=kOu (l:=l) h2;have e2:=kOn h4;have e3:=kPk (l:=l) hj;rw[kO5];have e4:kWf l n.tx=1:=by unfold kWf;exact if_pos h3
   omega
 |i::r,[],n,y,z,h1,h2,h3,h4,_=>by
  rw[kB]at h2;injection h2 with h2;subst h2;rw[kB]at h1;cases hk:zBh n i with
  |none=>rw[hk]at h1;cases h1
  |some k=>
   rw[hk]at h1;obtain⟨j',rfl,hj⟩:=zDa hk;have e1:=kOu (l:=l) h1;have e2:=kOn h3;have e3:=kPk (l:=l) hj;rw[kO5];have e4:kWf l n.tx=1:=by unfold kWf;exact if_pos h4
   omega
 | i ::r,j::s,n,y,z,h1,h2,h3,h4,hne=>by
  rw[kB]at h1 h2;cases hk:zBh n i with
  |none=>rw[hk]at h1;cases h1
  | some k=>
   cases hk2:zBh n j with
   |none=>rw[hk2]at h2;cases h2
   |some k2=>
    rw[hk]at h1;rw[hk2]at h2;obtain⟨i',rfl,hi⟩:=zDa hk;obtain⟨j',rfl,hj⟩:=zDa hk2;rw[kO5];by_cases e:i'=j'
    ·subst e;rw[hi]at hj;injection hj with hj;subst hj;have:=kSr h1 h2 h3 h4 (fun e=>hne (by rw[e]));have:=kPk (l:=l) hi;omega
    ·have:=kS7 (l:=l) e hi hj;have:=kOu (l:=l) h1;have:=kOu (l:=l) h2;have:=kOn h3;have:=kOn h4;omega
mutual
theorem kPy (l:Int):∀(n:NT)(f:Int),cntT l (kQe n f)<=1/\(1<=cntT l (kQe n f)->f<=l/\l<f+sizeT n)
 |.mk _ _ tx ks,f=>by
  have ih:=kS8 l ks (f+1+tx.length);simp only[kQe,cntT,List.head?_cons,Option.some.injEq,sizeT];by_cases e:f=l
  ·rw[if_pos e];omega
  ·rw[if_neg e];omega
theorem kS8 (l:Int):∀(ks:List NT)(f:Int),cntK l (kQ4 ks f)<=1/\(1<=cntK l (kQ4 ks f)->f<=l/\l<f+sizeK ks)
 |[],f=>by simp[kQ4,cntK]
 |k::r,f=>by
  have h1:=kPy l k f;have h2:=kS8 l r (f+sizeT k);simp only[kQ4,cntK,sizeK];omega
end
mutual
theorem kWg (h:0<=l):∀(n:NT),cntT l (fgT n)=0
 |.mk _ _ tx ks=>by
  have ih:=kUu h ks;simp only[fgT,cntT,ih];cases tx with
  |nil=>simp
  |cons a b=>simp[List.replicate_succ];omega
theorem kUu (h:0<=l):∀(ks:List NT),cntK l (fgK ks)=0
 |[]=>by simp[fgK,cntK]
 |k::r=>by simp only[fgK,cntK,kWg h k,kUu h r]
end
