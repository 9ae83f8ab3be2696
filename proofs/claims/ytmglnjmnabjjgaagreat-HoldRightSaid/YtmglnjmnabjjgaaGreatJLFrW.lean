import Derived.Test.YtmglnjmnabjjgaaGreatJLChkW
set_option maxRecDepth 100000
set_option maxHeartbeats 8000000
namespace Go.Proofs.YtmglnjmnabjjgaaGreat
open Go.RowKit
variable {W w:World}{F:Nat->Prop}{A:Option Addr}{b cap:Nat}{cs:List RC}{us:List kNj}{n:NT}{d:RC}{r:kNj}{P:Program}{ops:Array Oper}{Q:Exit->Act->World->Prop}{dst:Option Nat}{t ty:TypeId}{pos:String}{af:Array Edge}{rest:List Oper}{a:OpP}{kc:KC}{c:NC}{E:Int}
theorem kTv :Calls Tryz.prog 36 #[.slice A 0 cap] w (kT4 w F []):=by
 have HC:=hd (kP8 (cs:=[]) (n:=0) (c:=cap) rfl Kb (VL.nil w w.heap.size A));go_enter Tryz.func36,Tryz.ntmps36
 go_wp2_with(go_at_call 78;refine HC.o.mono ?_;rintro e w1 ⟨A1,c1,rfl,aB,hb1⟩)
 go_loopw [12] (fun i wr=>i=.int .i64 0/\wr=w1) (fun _ _=>0)
 case atStart=>exact⟨rfl,rfl⟩
 case round=>
  obtain⟨rfl,rfl⟩:=hrel;go_wp2
  go_ret
  exact⟨A1,0,c1,[],rfl,rfl,Nat.zero_le _,fun h=>absurd h (Nat.lt_irrefl _),LR.nil _ _,hb1⟩
theorem kTw {n:Nat}(h:LR w A cs us)(hh:kPk F w cs us)(hF:∀k,F k->k<w.heap.size)(hn:us.length=n)(hl:n<=10000)(h0:0<n)(ht:∀r ∈ us,kOf r):Calls Tryz.prog 36 #[.slice A n cap] w (kT4 w F us):=by
 have HC:=hd (kP8 (n:=n) (c:=cap) (by rw[h.hl];exact hn) hl h.hv);have HK:=hd hh;have ik:=hd hF;have HN:=hd hn;have HT:=hd ht;clear h hn ht hh hF;go_enter Tryz.func36,Tryz.ntmps36
 go_wp2_with(go_at_call 78;refine HC.o.mono ?_;rintro e w1 ⟨A1,c1,rfl,aB,hb1⟩;have hle:n<=c1:=(kUv aB).1;obtain⟨g,rfl,hg,hrow⟩:=kSa aB h0;have HF:=hd (Fr.start HK.o hrow hb1 hg ik.o);clear aB hb1 hg hrow)
 go_loopw [12] (fun i wr=>∃k:Nat,k<=n/\i=.int .i64 k/\∃ds,Kq (Fr w F g us ds wr)) (fun i _=>n-(intOf i).toNat)
 case atStart=>exact⟨0,Nat.zero_le _,rfl,cs,HF⟩
 case round=>
  obtain⟨k,hk1,rfl,ds,HF⟩:=hrel;by_cases hlt:k<n
  ·go_upto_region 6 with fail
   refine jO (S:=fun _=>True) (z:=fun _=>false) Ka ?_;have aa:=hd trivial;refine Ko 0 19 (.pointer (some ⟨g,k*11,none⟩)) aa.o ?_;simp only[Act.put,List.setIfInBounds_toArray,List.set_cons_succ,List.set_cons_zero,List.getElem_toArray,List.getElem_cons_zero];refine Ko 1 18 (.pointer (some ⟨g,k*11,none⟩)) aa.o ?_;simp only[Act.put,List.setIfInBounds_toArray,List.set_cons_succ,List.set_cons_zero,List.getElem_toArray,List.getElem_cons_succ,List.getElem_cons_zero];refine Ko 2 17 (.pointer (some ⟨g,k*11+4,none⟩)) aa.o ?_;simp only[Act.put,List.setIfInBounds_toArray,List.set_cons_succ,List.set_cons_zero,List.getElem_toArray,List.getElem_cons_succ,List.getElem_cons_zero];refine Ko 3 16 (.pointer (some ⟨g,k*11,none⟩)) aa.o ?_;simp only[Act.put,List.setIfInBounds_toArray,List.set_cons_succ,List.set_cons_zero,List.getElem_toArray,List.getElem_cons_succ,List.getElem_cons_zero];refine Ko 4 15 (.pointer (some ⟨g,k*11,none⟩)) aa.o ?_;simp only[Act.put,List.setIfInBounds_toArray,List.set_cons_succ,List.set_cons_zero,List.getElem_toArray,List.getElem_cons_succ,List.getElem_cons_zero];refine Ko 5 14 (.pointer (some ⟨g,k*11+5,none⟩)) aa.o ?_;simp only[Act.put,List.setIfInBounds_toArray,List.set_cons_succ,List.set_cons_zero,List.getElem_toArray,List.getElem_cons_succ,List.getElem_cons_zero];refine Ko 6 13 (.pointer (some ⟨g,k*11+5,none⟩)) aa.o ?_;simp only[Act.put,List.setIfInBounds_toArray,List.set_cons_succ,List.set_cons_zero,List.getElem_toArray,List.getElem_cons_succ,List.getElem_cons_zero];refine Ko 7 12 (.pointer (some ⟨g,k*11,none⟩)) aa.o ?_;simp only[Act.put,List.setIfInBounds_toArray,List.set_cons_succ,List.set_cons_zero,List.getElem_toArray,List.getElem_cons_succ,List.getElem_cons_zero];refine Ko 8 11 (.pointer (some ⟨g,k*11,none⟩)) aa.o ?_;simp only[Act.put,List.setIfInBounds_toArray,List.set_cons_succ,List.set_cons_zero,List.getElem_toArray,List.getElem_cons_succ,List.getElem_cons_zero];refine Ko 9 10 (.pointer (some ⟨g,k*11+7,none⟩)) aa.o ?_;simp only[Act.put,List.setIfInBounds_toArray,List.set_cons_succ,List.set_cons_zero,List.getElem_toArray,List.getElem_cons_succ,List.getElem_cons_zero];refine Ko 10 9 (.pointer (some ⟨g,k*11+7,none⟩)) aa.o ?_;simp only[Act.put,List.setIfInBounds_toArray,List.set_cons_succ,List.set_cons_zero,List.getElem_toArray,List.getElem_cons_succ,List.getElem_cons_zero];refine Ko 11 8 (.pointer (some ⟨g,k*11+7,none⟩)) aa.o ?_;simp only[Act.put,List.setIfInBounds_toArray,List.set_cons_succ,List.set_cons_zero,List.getElem_toArray,List.getElem_cons_succ,List.getElem_cons_zero];refine Ko 12 7 (.pointer (some ⟨g,k*11,none⟩)) aa.o ?_;simp only[Act.put,List.setIfInBounds_toArray,List.set_cons_succ,List.set_cons_zero,List.getElem_toArray,List.getElem_cons_succ,List.getElem_cons_zero];refine Ko 13 6 (.pointer (some ⟨g,k*11,none⟩)) aa.o ?_;simp only[Act.put,List.setIfInBounds_toArray,List.set_cons_succ,List.set_cons_zero,List.getElem_toArray,List.getElem_cons_succ,List.getElem_cons_zero];refine Ko 14 5 (.pointer (some ⟨g,k*11+7,none⟩)) aa.o ?_;simp only[Act.put,List.setIfInBounds_toArray,List.set_cons_succ,List.set_cons_zero,List.getElem_toArray,List.getElem_cons_succ,List.getElem_cons_zero];refine Ko 15 4 (.pointer (some ⟨g,k*11+9,none⟩)) aa.o ?_;simp only[Act.put,List.setIfInBounds_toArray,List.set_cons_succ,List.set_cons_zero,List.getElem_toArray,List.getElem_cons_succ,List.getElem_cons_zero];refine Ko 16 3 (.pointer (some ⟨g,k*11+9,none⟩)) aa.o ?_;simp only[Act.put,List.setIfInBounds_toArray,List.set_cons_succ,List.set_cons_zero,List.getElem_toArray,List.getElem_cons_succ,List.getElem_cons_zero];refine Ko 19 2 (.int .i64 0) aa.o ?_;simp only[Act.put,List.setIfInBounds_toArray,List.set_cons_succ,List.set_cons_zero,List.getElem_toArray,List.getElem_cons_succ,List.getElem_cons_zero];have HF:=hd (HF.o.call (Below.refl wr.heap.size wr).drew);generalize wr.drew=W at HF⊢
   refine Kp 17 1 (fun K hK=>?_);rw[if_pos Ke];go_simp;have hgl:=HF.o.row.lt;have HH:=hd (show∀j,j<4->(W.alloc (.cells #[.pointer (some ⟨g,k*11+4,none⟩),.pointer (some ⟨g,k*11+5,none⟩),.pointer (some ⟨g,k*11+7,none⟩),.pointer (some ⟨g,k*11+9,none⟩)] 122)).cell? ⟨W.heap.size,j,none⟩=some (.pointer (some ⟨g,k*11+kTo j,none⟩))from fun j hj=>by
    rw[World.cell?_alloc_at _ _ _ _ rfl];match j,hj with
    |0,_=>rfl
    |1,_=>rfl
    |2,_=>rfl
    |3,_=>rfl)
   have HF:=hd (HF.o.call ((Below.refl W.heap.size W).alloc Kl (.cells #[.pointer (some ⟨g,k*11+4,none⟩),.pointer (some ⟨g,k*11+5,none⟩),.pointer (some ⟨g,k*11+7,none⟩),.pointer (some ⟨g,k*11+9,none⟩)] 122)));have nQ:W.heap.size<(W.alloc (.cells #[.pointer (some ⟨g,k*11+4,none⟩),.pointer (some ⟨g,k*11+5,none⟩),.pointer (some ⟨g,k*11+7,none⟩),.pointer (some ⟨g,k*11+9,none⟩)] 122)).heap.size:=by simp
   generalize W.alloc (.cells #[.pointer (some ⟨g,k*11+4,none⟩),.pointer (some ⟨g,k*11+5,none⟩),.pointer (some ⟨g,k*11+7,none⟩),.pointer (some ⟨g,k*11+9,none⟩)] 122)=W1 at HF HH nQ⊢
   obtain⟨h,hh⟩:∃h,W.heap.size=h:=⟨_,rfl⟩;rw[hh]at HH nQ hgl⊢;refine hK _ _ (fun _=>trivial) ?_;clear hK K;refine Kp 18 0 (fun K hK=>?_);rw[if_pos Ke];go_simp;refine hK _ _ (fun _=>trivial) (zAl Ka ?_);clear hK K;go_wp2_with fail
   go_loopw [37] (fun i wr2=>∃j:Nat,j<=4/\i=.int .i64 j/\(∃ds,Kq (Fr w F g us ds wr2))/\Kq (∀j,j<4->wr2.cell? ⟨h,j,none⟩=some (.pointer (some ⟨g,k*11+kTo j,none⟩)))/\h<wr2.heap.size) (fun i _=>4-(intOf i).toNat)
   case atStart=>exact⟨0,Nat.zero_le _,rfl,⟨ds,HF⟩,HH,nQ⟩
   case round=>
    obtain⟨j,hj,rfl,⟨wH,dQ⟩,uh,nQ⟩:=hrel;clear HF HH;by_cases wI:j<4
    ·obtain⟨c,r,hc,hu,bB⟩:=dQ.o.at_ (k:=k) (by rw[HN.o];exact hlt);have HS:=hd (fun A m W' b hm hs=>dQ.o.set (W':=W') (j:=j) (A:=A) (m:=m) hc hu b hm hs);have hq:=bB.pth j;have hx:=dQ.o.row.cell (kPr hc (kTo j) _ (RC.row_pth c j));have hpt:=uh.o j wI;have rq:=(HT.o r (List.mem_of_getElem? hu)).pth j;obtain⟨of,hof⟩:∃of,kTo j=of:=⟨_,rfl⟩;rw[hof]at hx hpt HS;obtain⟨⟨PA,PN,PC⟩,iQ⟩:∃q,c.pth j=q:=⟨_,rfl⟩;rw[iQ]at hx hq HS;simp only at hx hq HS;have rp:=hd (zFz PA (r.pth j) PN PC wr hq.len (by have:=hq.len;omega) hq.il);clear hc hu bB hq rq hof iQ;go_wp2_with(go_at_call 77;refine rp.o.mono ?_;rintro e w5 ⟨A2,c2,rfl,hc2,hst,b9⟩;have HST:=hd hst;have aH:=hd b9;have fF:=hd hc2;have x0:=aH.o.cell (p:=⟨g,k*11+of,none⟩) dQ.o.row.lt;rw[hx]at x0;have f0:=(dQ.o.call aH.o).row.frozen (k*11+of);clear b9 hst hx hc2)
     go_roundw
     case rel=>
      refine⟨j+1,by omega,by go_num,⟨_,hd (HS.o A2 c2 _ aH.o fF.o HST.o)⟩,hd (fun j' hj'=>?_),?_⟩
      ·exact(World.cell?_of_block (Below.heap_setCell _ _ _ _ (show h≠g by omega))).trans ((aH.o.cell (p:=⟨h,j',none⟩) nQ).trans (uh.o j' hj'))
      ·have:=aH.o.size;simp only[World.size_setCell];omega
     case measure=>simp[intOf];omega
    ·obtain rfl:j=4:=Kb;go_wp2_with fail
     go_roundw
     case rel=>exact⟨k+1,by omega,by go_num,wH,dQ⟩
     case measure=>simp[intOf];omega
  ·obtain rfl:k=n:=Kb;go_wp2_with fail
   go_ret
   exact⟨some ⟨g,0,none⟩,k,c1,ds,rfl,HN.o,hle,fun _=>⟨g,rfl,HF.o⟩,HF.o.lr,HF.o.below⟩
theorem kTx {n:Nat}(h:LR w A cs us)(hh:kPk F w cs us)(hF:∀k,F k->k<w.heap.size)(hn:us.length=n)(hl:n<=10000)(ht:∀r ∈ us,kOf r):Calls Tryz.prog 36 #[.slice A n cap] w (kT4 w F us):=by
 rcases Nat.eq_zero_or_pos n with h0|h0
 ·subst h0;obtain rfl:=List.eq_nil_of_length_eq_zero hn;exact kTv
 ·exact kTw h hh hF hn hl h0 ht
theorem kR8 {n:Nat}(h:LR w A cs us)(hn:us.length=n)(hl:n<=10000)(ht:∀r ∈ us,kOf r):Calls Tryz.prog 36 #[.slice A n cap] w (kT4 w (fun _=>False) us):=
 kTx h (kPk.plain h.rk) (fun _ h=>h.elim) hn hl ht
theorem kRd (c:RC):(Value.agg c.row).cells=c.row.toList.toArray:=rfl
theorem kTy (c:RC):∀u ∈ c.row.toList,u.oneCell'=true:=fun u hu=>Array.all_eq_true'.1 c.one u (by simpa using hu)
theorem kTz :(Tryz.prog.info? 37).map (·.size)=some 11:=Ka
theorem kUr (h:RkA w d r):∀W,RkA W {RC.zero with id:=d.id,kind:=d.kind,aff:=d.aff} (kNr r):=fun W=>{RkA.zero W with hid:=h.hid,hk:=h.hk,ha:=h.ha,hlv:=rfl,hkw:=h.hkw}
theorem kUk {g:Nat}(h:kOx w g [d])(hr:RkA w d r):LR w (some ⟨g,0,none⟩) [d] [r]:=(RkL.one hr).lr h.vl
theorem kSv {m x:Operand}{ok:Bool}{a:Act}(h:wpList P ops Q ({dst:=dst,op:=.lookup t m x ok,type:=ty,pos:=pos,after:=af,guard:=none}::rest) a w):wpList P ops Q ({dst:=dst,op:=.lookup t m x ok,type:=ty,pos:=pos,after:=af,guard:=none}::rest) a w:=h
theorem kQy {o:Oper}{a:Act}{k:Int}{is:Bool}(h:kOm w b)(hk:(Lit.int .i64 k).wf=true)(hkk:kOz k=(kc,is))(hg:o.guard=none)(m x:Operand)(hop:o.op=Op.lookup 78 m x true)(hm:a.eval m=.map (some b))(hx:a.eval x=.int .i64 k)
  (hK:wpList Tryz.prog ops Q rest (a.put o.dst (.tuple #[.agg kc.row,.bool is])) w):wpList Tryz.prog ops Q (o::rest) a w:=
 kRf h hk hg m x hop hm hx (by rw[hkk];exact hK)
theorem kUs (h:kc.chk.oneCell'=true/\kc.along.oneCell'=true):kc.row.all (·.oneCell')=true:=by
 rw[Array.all_eq_true'];intro u hu;exact kSr h u (by simpa[KC.row]using hu)
theorem kQi {r':kNj}{o:OC}{fid:FuncId}{b:Bool}(h:LR w A [d] [r])(_hcap:1<=cap)(ht:kOf r)(hlv:r.live=true)(ho:OkA w o a)(hkk:kOz d.kind=(kc,true))(hfn:kc.along=.func (.func fid) #[] #[])(hent:∀args w,(callFunc fid args).run Tryz.prog w=.ok (.enter fid args) w)
  (hal:∀(W:World)(g:Nat)(e:RC),kOx W g [e]->(∀W',Off g W W'->RkA W' e r)->OkA W o a->Calls Tryz.prog fid #[.pointer (some ⟨g,0,none⟩),.agg o.row] W (kQh g e (r',b) W)):Calls Tryz.prog 13 #[.slice A 1 cap,.agg o.row] w (kT3 w [if b=true then r' else kNr r]):=by
 obtain⟨res,hres⟩:∃res,(if b=true then r' else kNr r)=res:=⟨_,rfl⟩;rw[hres];have bW:=hd hres;clear hres;have cN:=hd hkk;have dR:=hd (kQg d.kind);rw[hkk]at dR;have pN:=hd hfn;have ui:=hd hal;have ru:=hd hlv;have wJ:=hd (show r.kind=d.kind from(h.ha 0 d r rfl rfl).hk);have rx:=hd (show∀x ∈ [r],kOf x from fun x hx=>by
  simp at hx;subst hx;exact ht)
 have hb:Below w.heap.size w (w.alloc (.cells o.row 35)):=Kk.alloc Kl _;have HL:=hd (h.later hb);have HV:=hd (jT.new w 35 o.row);have HO:=hd (ho.later hb);have HB:=hd hb;obtain⟨W0,hW⟩:∃W0,w.alloc (.cells o.row 35)=W0:=⟨_,rfl⟩;rw[hW]at HL HV HO HB;have HW:=hd hW;clear h hlv ht ho hkk hfn hal hb hW;go_enter Tryz.func13,Tryz.ntmps13
 go_upto_region 1 with fail
 rw[HW.o];go_upto_region 2 with(first
  |(go_at_call 27;refine(kOs _).mono ?_;rintro e w1 ⟨mb,rfl,bD,_,b9⟩;have iR:=hd bD;have HL:=hd (HL.o.later b9);have HV:=hd (HV.o.keep b9);have HO:=hd (HO.o.later b9);have HB:=hd (zI HB.o b9);have aA:=HB;clear bD b9)
  |(go_at_call 36;refine(kR8 HL.o rfl Kc rx.o).mono ?_;rintro e w2 ⟨A2,n2,c2,ds,rfl,iL,hc2,uj,_,b9⟩;have iR:=hd (iR.o.below b9);have HV:=hd (HV.o.keep b9);have HO:=hd (HO.o.later b9);have HB:=hd (zI HB.o b9);clear b9;simp only[List.length_cons,List.length_nil]at iL;subst iL;obtain⟨g,rfl,nR⟩:=uj Kb;clear uj;have HF:=hd nR;clear nR))
 go_wp2_with fail
 go_loopw [16] (fun i wr=>(i=.int .i64 0/\wr=w2)∨(i=.int .i64 1/\Kq (∃d',LR wr (some ⟨g,0,none⟩) [d'] [res])/\Kq (Below w.heap.size w wr))) (fun i _=>1-(intOf i).toNat)
 case atStart=>exact .inl ⟨rfl,rfl⟩
 case round=>
  rcases hrel with⟨rfl,rfl⟩|⟨rfl,bU,cu⟩
  ·obtain⟨e,rfl⟩:∃e,ds=[e]:=List.length_eq_one_iff.1 HF.o.held.rk.1;have bB:=HF.o.held.rk.2 0 e r rfl rfl;have im:e.kind=d.kind:=bB.hk.symm.trans wJ.o;have ry:=bB.hkw;have hel:e.live=true:=bB.hlv.symm.trans ru.o;have wK:=hd (fun W'(h:Off g wr W')=>(HF.o.held W' (kP5.of_off h (.inl rfl))).2 0 e r rfl rfl);have bL:=hd HF.o.row;have u1:wr.cell? ⟨g,1,none⟩=some (.int .i64 d.kind):=im▸bL.o.cell rfl;have u3:wr.cell? ⟨g,3,none⟩=some (.bool true):=hel▸bL.o.cell rfl;rw[im]at ry;have lA:=hd ry;have rz:=hd HF.o.hi;have bb:=hd bB;have za:=hd im;clear bB im ry hel HF;go_upto_region 8 with(first
    |((with_reducible refine kSv ?_);refine kQy iR.o lA.o cN.o rfl _ _ rfl rfl rfl ?_)
    |((with_reducible refine zF (ty:=76) (x:=.tmp 9) ?_);refine zA kSp (r:=kc.row) (jT.new wr 76 kc0.row) rfl rfl (kUs dR.o) _ _ rfl rfl rfl rfl rfl ?_;intro W5 eB bF;have bv:=zN ((Below.refl wr.heap.size wr).alloc Kl (.cells kc0.row 76)) bF Kl;have wL:=hd eB;have HO:=hd (HO.o.later bv);have HV:=hd (HV.o.keep bv);have bL:=hd (bL.o.keep bv);have ba:=hd (Off.of_below (g:=g) bv);have HB:=hd (zI HB.o bv);clear eB bF bv u1 u3))
   have g2:W5.cell? ⟨wr.heap.size,2,none⟩=some (.func (.func fid) #[] #[]):=(wL.o.cell 2 _ rfl).trans (congrArg some pN.o);have nS:=hd (fun W'(h:Off g W5 W')=>wK.o W' (ba.o.trans h));cases b
   ·have HZ:=hd (show kNr r=res from bW.o);go_upto_region 9 with(first
     |((with_reducible refine kH (ty:=35) (x:=.tmp 3) ?_);refine zK zMk HV.o rfl _ rfl Ke rfl ?_;have w6:=True.intro)
     |(have _g:=w6;refine(ui.o W5 g e bL.o nS.o HO.o).mono ?_;rintro x w7 ⟨d',rfl,nT,aI,i1,i2,i3,_⟩;have bL:=hd nT;have HB:=hd (zN HB.o aI (by have:=rz.o;have:=aA.o.size;omega));have HI:=hd (And.intro i1 (And.intro i2 i3));clear nT aI i1 i2 i3 w6))
    refine kQn (S:=fun W'=>kOx W' g [d']) (m:=13) Ka ?_;have aa:=hd (show kOx w7.drew g [d']from bL.o);refine kNl (i:=0) (n:=15) (.pointer (some ⟨g,0,none⟩)) rfl Ka Ka Ka Ka (fun _ _ _ h=>h) Ke (fun W9=>?_) aa.o ?_
    ·go_simp
    simp only[Act.put,List.setIfInBounds_toArray,List.set_cons_succ,List.set_cons_zero,List.getElem_toArray,List.getElem_cons_zero];refine kNl (i:=1) (n:=14) (.pointer (some ⟨g,0,none⟩)) rfl Ka Ka Ka Ka (fun _ _ _ h=>h) Ke (fun W9=>?_) aa.o ?_
    ·go_simp
    simp only[Act.put,List.setIfInBounds_toArray,List.set_cons_succ,List.set_cons_zero,List.getElem_toArray,List.getElem_cons_succ,List.getElem_cons_zero];refine kNl (i:=2) (n:=13) (.pointer (some ⟨g,0,none⟩)) rfl Ka Ka Ka Ka (fun _ _ _ h=>h) Ke (fun W9=>?_) aa.o ?_
    ·go_simp
    simp only[Act.put,List.setIfInBounds_toArray,List.set_cons_succ,List.set_cons_zero,List.getElem_toArray,List.getElem_cons_succ,List.getElem_cons_zero];refine kNl (i:=3) (n:=12) (.pointer (some ⟨g,0,none⟩)) rfl Ka Ka Ka Ka (fun _ _ _ h=>h) Ke (fun W9=>?_) aa.o ?_
    ·go_simp
    simp only[Act.put,List.setIfInBounds_toArray,List.set_cons_succ,List.set_cons_zero,List.getElem_toArray,List.getElem_cons_succ,List.getElem_cons_zero];refine kOu (i:=4) (n:=11) (.int .i64 d'.id) rfl Ka Ka Ka Ka Ka (fun _ _ _ h=>h) Ke (fun W9 aj=>?_) aa.o ?_
    ·have h9:W9.cell? ⟨g,0,none⟩=some (.int .i64 d'.id):=aj.cell rfl;go_simp
    simp only[Act.put,List.setIfInBounds_toArray,List.set_cons_succ,List.set_cons_zero,List.getElem_toArray,List.getElem_cons_succ,List.getElem_cons_zero];refine kNl (i:=5) (n:=10) (.pointer (some ⟨g,0,none⟩)) rfl Ka Ka Ka Ka (fun _ _ _ h=>h) Ke (fun W9=>?_) aa.o ?_
    ·go_simp
    simp only[Act.put,List.setIfInBounds_toArray,List.set_cons_succ,List.set_cons_zero,List.getElem_toArray,List.getElem_cons_succ,List.getElem_cons_zero];refine kNl (i:=6) (n:=9) (.pointer (some ⟨g,0,none⟩)) rfl Ka Ka Ka Ka (fun _ _ _ h=>h) Ke (fun W9=>?_) aa.o ?_
    ·go_simp
    simp only[Act.put,List.setIfInBounds_toArray,List.set_cons_succ,List.set_cons_zero,List.getElem_toArray,List.getElem_cons_succ,List.getElem_cons_zero];refine kNl (i:=7) (n:=8) (.pointer (some ⟨g,1,none⟩)) rfl Ka Ka Ka Ka (fun _ _ _ h=>h) Ke (fun W9=>?_) aa.o ?_
    ·go_simp
    simp only[Act.put,List.setIfInBounds_toArray,List.set_cons_succ,List.set_cons_zero,List.getElem_toArray,List.getElem_cons_succ,List.getElem_cons_zero];refine kOu (i:=8) (n:=7) (.int .i64 d'.kind) rfl Ka Ka Ka Ka Ka (fun _ _ _ h=>h) Ke (fun W9 aj=>?_) aa.o ?_
    ·have h9:W9.cell? ⟨g,1,none⟩=some (.int .i64 d'.kind):=aj.cell rfl;go_simp
    simp only[Act.put,List.setIfInBounds_toArray,List.set_cons_succ,List.set_cons_zero,List.getElem_toArray,List.getElem_cons_succ,List.getElem_cons_zero];refine kNl (i:=9) (n:=6) (.pointer (some ⟨g,0,none⟩)) rfl Ka Ka Ka Ka (fun _ _ _ h=>h) Ke (fun W9=>?_) aa.o ?_
    ·go_simp
    simp only[Act.put,List.setIfInBounds_toArray,List.set_cons_succ,List.set_cons_zero,List.getElem_toArray,List.getElem_cons_succ,List.getElem_cons_zero];refine kNl (i:=10) (n:=5) (.pointer (some ⟨g,0,none⟩)) rfl Ka Ka Ka Ka (fun _ _ _ h=>h) Ke (fun W9=>?_) aa.o ?_
    ·go_simp
    simp only[Act.put,List.setIfInBounds_toArray,List.set_cons_succ,List.set_cons_zero,List.getElem_toArray,List.getElem_cons_succ,List.getElem_cons_zero];refine kNl (i:=11) (n:=4) (.pointer (some ⟨g,2,none⟩)) rfl Ka Ka Ka Ka (fun _ _ _ h=>h) Ke (fun W9=>?_) aa.o ?_
    ·go_simp
    simp only[Act.put,List.setIfInBounds_toArray,List.set_cons_succ,List.set_cons_zero,List.getElem_toArray,List.getElem_cons_succ,List.getElem_cons_zero];refine kOu (i:=12) (n:=3) (.int .i64 d'.aff) rfl Ka Ka Ka Ka Ka (fun _ _ _ h=>h) Ke (fun W9 aj=>?_) aa.o ?_
    ·have h9:W9.cell? ⟨g,2,none⟩=some (.int .i64 d'.aff):=aj.cell rfl;go_simp
    simp only[Act.put,List.setIfInBounds_toArray,List.set_cons_succ,List.set_cons_zero,List.getElem_toArray,List.getElem_cons_succ,List.getElem_cons_zero];refine kUi (n:=2) Ka rfl Ka (fun K hK=>?_);rw[if_pos Ke];go_simp;refine hK _ _ ?_;clear hK K;refine Kn 14 1 (.pointer (some ⟨g,0,none⟩)) (fun W9 _=>?_) trivial ?_
    ·go_simp
    simp only[Act.put,List.setIfInBounds_toArray,List.set_cons_succ,List.set_cons_zero,List.getElem_toArray,List.getElem_cons_succ,List.getElem_cons_zero];refine Kp 15 0 (fun K hK=>?_);rw[if_pos Ke];refine kOv kTz aa.o _ _ rfl rfl 0 (.agg ({RC.zero with id:=d'.id,kind:=d'.kind,aff:=d'.aff}:RC).row) ({RC.zero with id:=d'.id,kind:=d'.kind,aff:=d'.aff}:RC).row.toList [{RC.zero with id:=d'.id,kind:=d'.kind,aff:=d'.aff}] rfl rfl (kRd _) rfl (kTy _) Kd (by rw[kN5];show 0+11<=1*11;decide) rfl ?_;intro W8 ul aQ;have HB:=hd (zN (HB.o.trans ((Below.refl w7.heap.size w7).drew.mono HB.o.size)) aQ (by have:=rz.o;have:=aA.o.size;omega));have bU:=hd (kUk ul (show RkA W8 {RC.zero with id:=d'.id,kind:=d'.kind,aff:=d'.aff} (kNr r) by
     obtain⟨i1,i2,i3⟩:=HI.o;rw[i1,i2,i3];exact kUr bb.o W8))
    clear ul aQ;refine hK _ _ (fun _=>trivial) (zAl Ka ?_);clear hK K;go_wp2_with fail
    go_roundw
    case rel=>exact .inr ⟨by go_num,hd ⟨_,HZ.o▸bU.o⟩,HB⟩
    case measure=>simp[intOf]
   ·have HZ:=hd (show r'=res from bW.o);go_wp2_with(first
     |((with_reducible refine kH (ty:=35) (x:=.tmp 3) ?_);refine zK zMk HV.o rfl _ rfl Ke rfl ?_;have w6:=True.intro)
     |(have _g:=w6;refine(ui.o W5 g e bL.o nS.o HO.o).mono ?_;rintro x w7 ⟨d',rfl,nT,aI,_,_,_,h8⟩;have HB:=hd (zN HB.o aI (by have:=rz.o;have:=aA.o.size;omega));have bU:=hd (kUk nT (h8 rfl));clear nT aI w6))
    go_roundw
    case rel=>exact .inr ⟨by go_num,hd ⟨d',HZ.o▸bU.o⟩,HB⟩
    case measure=>simp[intOf]
  ·go_wp2_with fail
   go_ret
   obtain⟨d',hd'⟩:=bU.o;exact⟨_,1,c2,_,rfl,rfl,hc2,hd',cu.o⟩
theorem kSw {o:OC}{x:List Int}{b:Bool}(h:LR w A [d] [r])(hcap:1<=cap)(ht:kOf r)(hlv:r.live=true)(hk:r.kind=1)(ho:OkA w o a)(ta:zAf a)(hm:jF a.k a.q a.t a.z r.p=(x,b)):Calls Tryz.prog 13 #[.slice A 1 cap,.agg o.row] w (kT3 w [if b=true then{r with p:=x}else kNr r]):=by
 have hd1:d.kind=1:=(h.ha 0 d r rfl rfl).hk.symm.trans hk;exact kQi (kc:=kc1) (fid:=55) h hcap ht hlv ho (by rw[hd1];rfl) rfl (fun _ _=>by kernel_rfl) (fun W g e g1 g2 g3=>kUq g1 g2 g3 ta ht.1 hm)
def exR :kNj:=⟨4,1,0,true,[0],([],0),([],0),([],0)⟩
def exC (b:Nat):RC:=⟨4,1,0,true,some ⟨b,0,none⟩,1,1,none,0,0,0,none,0,0,0,none,0,0,0⟩
def exP :OpP:={zeroO with k:=1,q:=[0]}
theorem kT0 :zAf exP:=by constructor<;>simp[exP,zeroO,zeroS]
theorem kT1 :jF exP.k exP.q exP.t exP.z exR.p=([1],true):=by decide
def kWh (b:Nat):OC:=OC.mk 1 (some ⟨b,0,none⟩) 1 1 none 0 0 0 false none 0 0 none 0 0 none 0 0 none 0 0 none 0 0 none 0 0 false none 0 0 0 none 0 0 0 false none 0 0 0 none 0 0 0
theorem kVl (h:IL W W.heap.size (some ⟨b,0,none⟩) [0]):OkA W (kWh b) exP:=
 ((OkA.zero W).setK (k:=1) (by unfold zFf;omega)).setQ (l:=[0]) (n:=1) (d:=1) rfl Kb Kb h (fun j hj=>by
  obtain rfl:j=0:=by simp at hj;omega
  exact⟨by decide,by decide⟩)
theorem kVm (h:IL W W.heap.size (some ⟨b,0,none⟩) [0]):RkA W (exC b) exR:=⟨rfl,rfl,rfl,rfl,⟨rfl,Nat.le_refl _,(by show 1<=9223372036854775807;decide),h⟩,kNt.nil _,rfl,kNt.nil _,rfl,kNt.nil _,rfl,rfl⟩
theorem kR9 {k:Nat}{ps:Array (Nat×Operand)}{a:Act}(h:wpList P ops Q ({dst:=dst,op:=.buildSlice ty k ps,type:=t,pos:=pos,after:=af,guard:=none}::rest) a w):wpList P ops Q ({dst:=dst,op:=.buildSlice ty k ps,type:=t,pos:=pos,after:=af,guard:=none}::rest) a w:=h
theorem kWd (W:World)(x:Int)(t:TypeId):IL (W.alloc (.cells #[.int .i64 x] t)) (W.alloc (.cells #[.int .i64 x] t)).heap.size (some ⟨W.heap.size,0,none⟩) [x]:=fun _=>⟨W.heap.size,0,rfl,by simp,fun k hk=>by
 rw[World.cell?_alloc_at _ _ _ _ rfl];match k,hk with
 |0,_=>rfl⟩
theorem kOw (w:World):Calls Tryz.prog 6 #[] w (jA (.bool true) w):=by
 have aA:=hd ((Below.refl w.heap.size w).alloc Kl (.cells #[.int .i64 0] 3));have rA:=hd (kWd w 0 3);obtain⟨w1,hw1⟩:∃W,w.alloc (.cells #[.int .i64 0] 3)=W:=⟨_,rfl⟩;rw[hw1]at aA rA;have wM:=hd hw1;have HR:=hd (kVm rA.o);have bU:=hd (kPi HR.o);have aX:=hd (zI aA.o (kNx w1 (exC w.heap.size)).2);obtain⟨w2,hw2⟩:∃W,w1.alloc (.cells (exC w.heap.size).row 37)=W:=⟨_,rfl⟩;rw[hw2]at bU aX;have pO:=hd hw2;have nU:=hd (kWd w2 0 3);have eD:=hd ((Below.refl w2.heap.size w2).alloc Kl (.cells #[.int .i64 0] 3));have mZ:=hd (bU.o.later eD.o);have eD:=hd (zI aX.o eD.o);obtain⟨w3,hw3⟩:∃W,w2.alloc (.cells #[.int .i64 0] 3)=W:=⟨_,rfl⟩;rw[hw3]at nU mZ eD;have wN:=hd hw3;have HO:=hd (kVl nU.o);have HC:=hd (kSw (cap:=1) mZ.o Kl ⟨by decide,by decide,by decide,by decide⟩ rfl rfl HO.o kT0 kT1);clear hw1 hw2 hw3 rA HR bU aA aX nU mZ HO;go_enter Tryz.func6,Tryz.ntmps6
 go_wp2_with(first
  |((with_reducible refine kR9 (ty:=42) (k:=1) ?_);rw[wM.o];refine kNv (c:=exC w.heap.size) _ rfl rfl rfl ?_;rw[pO.o])
  |(go_at_call 13;rw[wN.o];refine Calls.mono HC.o ?_;rintro e w4 ⟨A4,n4,c4,ds,rfl,nV,zb,hlr,b9⟩;simp only[List.length_cons,List.length_nil]at nV;subst nV;rw[if_pos rfl]at hlr;obtain⟨b,q,c,rfl,hb,bB,hrg⟩:=hlr.one;have HB:=hd (zI eD.o b9);have HP:=hd bB.hp;have y3:w4.cell? ⟨b,q+3,none⟩=some (.bool true):=(hrg 3 _ rfl).trans (congrArg (fun z=>some (Value.bool z)) bB.hlv.symm);have y0:w4.cell? ⟨b,q,none⟩=some (.int .i64 4):=(hrg 0 _ rfl).trans (congrArg (fun z=>some (Value.int .i64 z)) bB.hid.symm);have y4:=hrg 4 _ rfl;clear hlr bB hrg b9 hb)
  |(go_at_call 23;have b9:=(Below.refl w4.heap.size w4).alloc Kl (.cells #[.int .i64 1] 3);refine Calls.mono (kEp (show XA _ (.slice c.P c.np c.cp) [1]from⟨_,_,_,rfl,(HP.o.later b9).len,by have h1:=HP.o.len;simp at h1;omega,(HP.o.later b9).cap,(HP.o.later b9).il⟩) (show XA _ (.slice (some ⟨w4.heap.size,0,none⟩) 1 1) [1]from⟨_,_,_,rfl,rfl,by decide,by decide,kWd w4 1 3⟩) (show zEd [1] [1]=true from rfl)) ?_;rintro e w5 ⟨rfl,b8⟩;have HB:=hd (zI (zI HB.o b9) b8);clear b8 b9))
 go_ret
 exact⟨rfl,HB.o⟩
theorem kNw {o:OC}(h1:zI5 100 n=true)(h3:zT3 a=true)(hn:kS w c n)(ho:OkA w o a):zRb n zeroS a/\(zAh n=0->sizeT n<=100)/\(zAh a.n=0->sizeT a.n<=100):=by
 obtain⟨d,hd⟩:=hn;obtain⟨d2,hd2⟩:=ho.hn;have e1:zAh n=0->sizeT n<=100:=fun hk=>by have:=zRa hd (m:=100) Kb Kb hk h1;omega
 have e2:zAh a.n=0->sizeT a.n<=100:=fun hk=>by
  have hf:zI5 100 a.n=true:=by
   simp only[zT3,Bool.and_eq_true]at h3;exact h3.1.1.1.1.2
  have:=zRa hd2 (m:=100) Kb Kb hk hf;omega
 exact⟨⟨rfl,zXu h3,fun hk=>by have:=e1 hk;omega,fun hk=>by have:=e2 hk;omega⟩,e1,e2⟩
theorem kRm {o:OC}{x:NT}{tl:Sl}(h1:zI5 100 n=true)(h2:zT3 a=true)(hn:kS w c n)(ho:OkA w o a)(hap:jL n zeroS a=((x,tl),0)):
  zCx a=0/\(1<=a.k/\a.k<=8/\doO n a=(x,0)∨a.k=9/\x=n)/\sizeT n<=100/\zAh n=0/\(a.k=1->sizeT a.n<=100):=by
 obtain⟨_,e1,e2⟩:=kNw h1 h2 hn ho;obtain⟨g1,g2,g3,g4,g5⟩:=zH8 hap;have hc:=e1 (zC1 g1);rcases g5 with⟨e9,_,_,hx⟩|⟨k1,k8,hd,_,_⟩
 ·exact⟨g4,.inr ⟨e9,congrArg Prod.fst hx⟩,hc,zC1 g1,fun e=>by omega⟩
 ·refine⟨g4,.inl ⟨k1,k8,hd⟩,hc,zC1 g1,fun e=>?_⟩;rcases zC7 k1 k8 hd with⟨_,h⟩|⟨e',_⟩|⟨e',_⟩|⟨e',_⟩|⟨e',_⟩|⟨e',_⟩|⟨e',_⟩|⟨e',_⟩
  case inl=>exact e2 (zC1 (zCd h).1)
  all_goals omega
structure S3 (w:World)(c:NC)(o:OC)(t:TypeId)(r:Array Value)(W:World):Prop where
 v4:jT 26 W w.heap.size c.row
 v5:jR W (w.heap.size+1) o
 v6:jT t W (w.heap.size+1+1) r
 below:Below w.heap.size w W
theorem S3.call {W':World}{o:OC}{r:Array Value}(h:S3 w c o t r W)(hb:Below W.heap.size W W'):S3 w c o t r W':=⟨h.v4.keep hb,(hb.block _ h.v5.lt).trans h.v5,h.v6.keep hb,zI h.below hb⟩
theorem kQj (w:World)(c:NC)(o:OC)(t:TypeId)(r:Array Value):∃W0,((w.alloc (.cells c.row 26)).alloc (.cells o.row 35)).alloc (.cells r t)=W0/\S3 w c o t r W0:=by
 have e1:(w.alloc (.cells c.row 26)).heap.size=w.heap.size+1:=by simp
 have e2:((w.alloc (.cells c.row 26)).alloc (.cells o.row 35)).heap.size=w.heap.size+1+1:=by simp
 have h1:=((jT.new w 26 c.row).alloc (.cells o.row 35)).alloc (.cells r t);have h2:=(jT.new (w.alloc (.cells c.row 26)) 35 o.row).alloc (.cells r t);have h3:=jT.new ((w.alloc (.cells c.row 26)).alloc (.cells o.row 35)) t r;rw[e1]at h2;rw[e2]at h3;exact⟨_,rfl,h1,h2,h3,((Kk.alloc Kl _).alloc (by rw[e1];omega) _).alloc (by rw[e2];omega) _⟩
theorem kRn (hn:kS w c n)(hr:RkA w d r)(hf:kOf r)(hE:chkR n r=E):Calls Tryz.prog 10 #[.agg c.row,.agg d.row] w (jA (.int .i64 E) w):=by
 by_cases h1:d.kind=1
 ·refine kSs (kc:=kc1) (fid:=53) (st:=kO0 false true true d.np (zP r.q) (zP r.a&&zP r.f)) (G:=(zGm n r.p).2) hn hr hf (by rw[h1];rfl) rfl (fun _ _=>by kernel_rfl) (fun W g=>kPf g hf (by rw[h1];rfl) (by rw[h1];rfl) (by rw[h1];rfl) rfl rfl) (fun W g1 g2=>kVg g1 g2 hf rfl) ?_;rw[<-hE,chkR,hr.hk,if_pos h1,hr.ha];unfold kVk kO0;have e0:kc1.last=0:=rfl;rw[e0];cases zP r.q<;>cases(zP r.a&&zP r.f)<;>simp<;>omega
 by_cases h2:d.kind=2
 ·refine kSs (kc:=kc2) (fid:=56) (st:=kO0 true false true d.np (zP r.q) (zP r.a&&zP r.f)) (G:=zK6 n r.q) hn hr hf (by rw[h2];rfl) rfl (fun _ _=>by kernel_rfl) (fun W g=>kPf g hf (by rw[h2];rfl) (by rw[h2];rfl) (by rw[h2];rfl) rfl rfl) (fun W g1 g2=>kVh g1 g2 hf rfl) ?_;rw[<-hE,chkR,hr.hk,if_neg h1,if_pos h2,hr.ha,hr.hp.len];unfold kVk kO0;have e0:kc2.last=2:=rfl;rw[e0];cases zP r.q<;>cases(zP r.a&&zP r.f)<;>simp<;>omega
 by_cases h3:d.kind=3
 ·refine kSs (kc:=kc3) (fid:=59) (st:=kO0 true true false d.np (zP r.q) (zP r.a&&zP r.f)) (G:=if zK6 n r.a≠0 then zK6 n r.a else zK6 n r.f) hn hr hf (by rw[h3];rfl) rfl (fun _ _=>by kernel_rfl) (fun W g=>kPf g hf (by rw[h3];rfl) (by rw[h3];rfl) (by rw[h3];rfl) rfl rfl) (fun W g1 g2=>kVi g1 g2 hf rfl rfl rfl) ?_;rw[<-hE,chkR,hr.hk,if_neg h1,if_neg h2,if_pos h3,hr.ha,hr.hp.len];unfold kVk kO0;have e0:kc3.last=4:=rfl;rw[e0];generalize(if zK6 n r.a≠0 then zK6 n r.a else zK6 n r.f)=G
  cases zP r.q<;>cases(zP r.a&&zP r.f)<;>simp<;>omega
 ·rw[<-hE,kSt hr h1 h2 h3];exact kVj (kc:=kc0) hn hr hf (by unfold kOz;rw[if_neg h1,if_neg h2,if_neg h3])
theorem kVn (hn:kS w c n)(hr:RkA w d r)(hf:kO1 r=true)(hE:chkR n r=E):Calls Tryz.prog 10 #[.agg c.row,.agg d.row] w (jA (.int .i64 E) w):=kRn hn hr (kQk hf) hE
theorem kPm (hn:kS w c n)(hr:RkA w d r)(hf:kO1 r=true)(hE:chkR n r=E):Calls Tryz.prog 10 #[.agg c.row,.agg d.row] w (jA (.int .i64 E) w):=kVn hn hr hf hE
theorem kUt {o:OC}(h:LR w A [d] [r])(hcap:1<=cap)(hf:kO1 r=true)(ho:OkA w o a)(ta:zAf a)(hk:r.kind=1)(hlv:r.live=true)(hz:r={kNr r with live:=true,p:=r.p}):Calls Tryz.prog 13 #[.slice A 1 cap,.agg o.row] w (kT3 w [kOc a r]):=by
 obtain⟨⟨x,b⟩,hm⟩:∃z,jF a.k a.q a.t a.z r.p=z:=⟨_,rfl⟩;have e:kOc a r=if b=true then{r with p:=x}else kNr r:=by
  unfold kOc;rw[if_neg (by rw[hlv];simp),if_pos hk,hm];cases b
  ·rfl
  ·rw[if_pos rfl,if_pos rfl];conv=>rhs;rw[hz]
 rw[e];exact kSw h hcap (kQk hf) hlv hk ho ta hm
theorem kSx {u qs:List Int}{i:Nat}(e:a.k=3)(hq:a.q=u++[((i+1:Nat):Int)])(hm:jF a.k a.q a.t a.z a.q=(qs,true)):qs=u++[(i:Int)]:=by
 have hb:=jD hm Kb;rw[e]at hb;unfold jH at hb;rw[hq,if_neg Kc,if_neg Kd,if_neg Kd,if_pos rfl,zC0,if_neg Kb,zGa,if_neg Kd,if_neg Kd]at hb;have h1:=(zO hb).1;rw[<-h1,show(u++[((i+1:Nat):Int)]).length-1=u.length by simp];show addL _ _ _=_
 rw[zAv];congr 2
 omega
theorem kUu {a:NT}{o:OpP}{p q:List Int×Int}{aff:Int}(hm:∀u x,kB n u=some x->x.ks.length<9223372036854775807)(hn:zAh n=0)(h1:1<=o.k)(h8:o.k<=8)(h:doO n o=(a,0))(hp:zK6 n p=0)(hmv:zEr o.k o.q o.t o.z (o.x.length:Int) aff p=(q,true)):zK6 a q=0:=by
 obtain⟨m,hg,hl,l1,l2⟩:=zCm.1 hp;obtain⟨x,_,_,_,hx,hown⟩:=zKc hmv;by_cases hq:o.q=p.1
 case neg=>
  rw[if_neg hq]at hown;injection hown with hown _;obtain⟨y',g1,g2⟩:=zTg hm hn h1 h8 h hg hx;obtain⟨g3,g4⟩:=(g2 (fun e=>hq e.symm)).1;rw[<-hown];exact zCm.2 ⟨y',g1,g3.trans hl,l1,by show p.2<=(y'.tx.length:Int);omega⟩
 rw[if_pos hq]at hown;obtain⟨p1,off⟩:=p;simp only at hq hg l1 l2 hown hx;subst hq;rcases zC7 h1 h8 h with⟨e,h⟩|⟨e,h⟩|⟨e,h⟩|⟨e,h⟩|⟨e,h⟩|⟨e,h⟩|⟨e,h⟩|⟨e,h⟩
 ·obtain⟨u,i,xx,hf⟩:=zD7 (zCd h).2;have hb:=jD hx Kb;rw[e,zJc (.inl rfl),hf.path]at hb;have hg2:=hg;rw[hf.path]at hg2;obtain⟨y',g1,g2⟩:=zJl (m:=o.n) hf.at_ hf.le hg2;rw[hb,<-hf.eq]at g1;unfold zXx at hown;rw[if_neg Kb,if_neg Kb,if_neg (fun h=>by omega),if_neg (fun h=>by omega)]at hown;injection hown with hown _;rw[<-hown];exact zCm.2 ⟨y',g1,g2.1.trans hl,l1,by show off<=(y'.tx.length:Int);rw[g2.2];exact l2⟩
 ·obtain⟨u,i,xx,k,hf⟩:=zBn (n:=n) (p:=o.q) (by rw[(zCl h).1]);have hb:=jD hx Kb;exact absurd e (zCn (by rw[hf.path];simp) hb).2.1
 ·obtain⟨u,i,xx,b,k,hf⟩:=zC5 h;have bD:k=m:=by
   rw[hf.path,zAc hf.at_,zA9,hf.k_]at hg;injection hg
  subst bD;have rB:=zA6 n u xx hn hf.at_;have hbl:=(kX (zAk rB hf.b_)).1 (hf.leaf.trans hl);have hlen:=(List.getElem?_eq_some_iff.1 hf.b_).1;have hz:o.z=(b.tx.length:Int):=by rw[<-hf.pos];unfold zG9;rw[hbl];simp
  have gH:x=u++[(i:Int)]:=kSx e hf.path hx;unfold zXx at hown;rw[if_neg Kb,if_neg Kb,if_pos ⟨e,by rw[hf.path];simp⟩]at hown;injection hown with hown _;rw[<-hown,gH,hz];have eI:(spl xx.ks i 2 [zAo b k])[i]? =some (zAo b k):=by
   have:=zAz (ks:=xx.ks) (o:=[zAo b k]) (i:=i) (m:=2) (j:=0) Kc Kb;simpa using this
  refine zCm.2 ⟨zAo b k,?_,hf.leaf.trans hl,by show 0<=off+(b.tx.length:Int);omega,?_⟩
  ·rw[hf.eq];exact zAw (x':=jS xx i 2 [zAo b k]) hf.at_ i [] eI
  ·show off+(b.tx.length:Int)<=((b.tx++k.tx).length:Int)
   rw[List.length_append];omega
 ·obtain⟨u,i,xx,k,hf⟩:=zCc hm h;have bD:k=m:=by
   rw[hf.path,zAc hf.at_,zA9,hf.kid]at hg;injection hg
  subst bD;have rB:=zA6 n u xx hn hf.at_;have hks:=(kX (zAk rB hf.kid)).1 hl;have hlen:=(List.getElem?_eq_some_iff.1 hf.kid).1;have hlo:=hf.lo;have hhi:o.z<=(k.tx.length:Int):=by have:=hf.hi;unfold zG9 at this;rw[hks]at this;simpa using this
  have hin:=fun(c:Nat)(hc:c<2)=>zAz (ks:=xx.ks) (o:=[jN k o.z.toNat,zA2 k o.z.toNat o.w]) (i:=i) (m:=1) (j:=c) (by simpa using hc) Kb;have hb:=jD hx Kb;have gH:x=o.q:=by
   rw[e]at hb;unfold jH at hb;rw[if_neg (by rw[hf.path];simp),if_neg Kd,if_neg Kd,if_neg Kd,if_pos rfl,hf.path,zGa,if_neg Kd,if_neg (fun h=>absurd h.1 Kd)]at hb;rw[hf.path];exact(zO hb).1.symm
  have hh:jN k o.z.toNat=.mk k.lf k.ps (k.tx.take o.z.toNat) k.ks:=by unfold jN;rw[if_pos hl]
  have ht:zA2 k o.z.toNat o.w=.mk k.lf o.w (k.tx.drop o.z.toNat) []:=by unfold zA2;rw[if_pos hl]
  unfold zXx at hown;rw[if_neg Kb,if_neg Kb,if_neg (fun h=>by omega),if_pos ⟨e,by rw[hf.path];simp⟩]at hown;split at hown
  ·injection hown with _ hown;cases hown
  ·split at hown
   ·rename_i hps
    injection hown with hown _;have wO:o.z<=off:=by unfold zEl at hps;simp at hps;omega
    rw[<-hown,hf.path,show(u++[(i:Int)]).length-1=u.length by simp,zAv];refine zCm.2 ⟨zA2 k o.z.toNat o.w,?_,by rw[ht];exact hl,by show 0<=off-o.z;omega,?_⟩
    ·rw[hf.eq];have h9:=zAw (x':=jS xx i 1 [jN k o.z.toNat,zA2 k o.z.toNat o.w]) hf.at_ (i+1) [] (by show(spl xx.ks i 1 _)[i+1]? =_;simpa using hin 1 Kb);rw[show((i+1:Nat):Int)=(i:Int)+1 by omega]at h9;exact h9
    ·rw[ht];show off-o.z<=((k.tx.drop o.z.toNat).length:Int)
     rw[List.length_drop];omega
   ·rename_i hps
    injection hown with hown _;have wO:off<=o.z:=by unfold zEl at hps;simp at hps;omega
    rw[<-hown,gH,hf.path];refine zCm.2 ⟨jN k o.z.toNat,?_,by rw[hh];exact hl,l1,?_⟩
    ·rw[hf.eq];exact zAw (x':=jS xx i 1 [jN k o.z.toNat,zA2 k o.z.toNat o.w]) hf.at_ i [] (by show(spl xx.ks i 1 _)[i]? =_;simpa using hin 0 Kb)
    ·rw[hh];show off<=((k.tx.take o.z.toNat).length:Int)
     rw[List.length_take];omega
 ·obtain⟨h2,h3⟩:=zBz h;obtain⟨u,i,xx,k,hf⟩:=zBn h2;obtain⟨u2,i2,x2,hf2⟩:=zD7 h3;have bD:k=m:=by
   have:=hf.whole;rw[hg]at this;injection this with this;exact this.symm
  subst bD;have gH:x=o.t:=by
   have hx2:=hx;unfold jF at hx2;split at hx2
   ·rw[if_pos ⟨e,by rw[hf.path];simp⟩,if_pos (.inl (by rw[hf.path];exact zGa u i))]at hx2;have:=(zO hx2).1;simpa using this.symm
   ·cases hx2
  unfold zXx at hown;rw[if_neg Kb,if_neg Kb,if_neg (fun h=>by omega),if_neg (fun h=>by omega)]at hown;injection hown with hown _;rw[<-hown,gH,hf2.path];have hin:=zAz (ks:=x2.ks) (o:=[zE3 n o.q]) (i:=i2) (m:=0) (j:=0) Kc hf2.le;refine zCm.2 ⟨k,?_,hl,l1,l2⟩;rw[hf2.eq];rw[hf.got]at hin⊢;exact zAw (x':=jS x2 i2 0 [k]) hf2.at_ i2 [] (by show(spl x2.ks i2 0 [k])[i2]? =some k;simpa using hin)
 ·obtain⟨k,hq0,jE,hc,rfl⟩:=zC6 h;have bD:k=m:=by rw[jE]at hg;injection hg
  subst bD;have hb:=jD hx Kb;rw[zDz Kb]at hb;have gH:=(zO hb).1;unfold zXx at hown;rw[if_neg Kb,if_neg Kb,if_neg (fun h=>by omega),if_neg (fun h=>by omega)]at hown;injection hown with hown _;rw[<-hown,<-gH];exact zCm.2 ⟨_,jX n o.q _ k jE,hl,l1,l2⟩
 ·obtain⟨k,jE,hkl,h0,rfl⟩:=jZ h;have bD:k=m:=by rw[jE]at hg;injection hg
  subst bD;have h4:=zKi (r:=k.tx) (s:=o.x) (p:=o.z) (l:=(zFx k.tx o.z o.x).1) (Prod.ext rfl h0);have hb:=jD hx Kb;rw[zDz Kb]at hb;have gH:=(zO hb).1;unfold zXx at hown;rw[if_pos e]at hown;injection hown with hown _;rw[<-hown,<-gH];refine zCm.2 ⟨_,jX n o.q _ k jE,hkl,?_,?_⟩
  ·dsimp only;split<;>omega
  ·rw[show(zCz k (zFx k.tx o.z o.x).1).tx=(zFx k.tx o.z o.x).1 from rfl];dsimp only;split<;>omega
 ·obtain⟨k,jE,hkl,h0,rfl⟩:=jZ h;have bD:k=m:=by rw[jE]at hg;injection hg
  subst bD;have hb:=jD hx Kb;rw[zDz Kb]at hb;have gH:=(zO hb).1;obtain⟨j,hj,hjl⟩:=kTb (r:=k.tx) (s:=o.x) (p:=o.z) (l:=(zFe k.tx o.z o.x).1) (Prod.ext rfl h0);have h4:=zKj (r:=k.tx) (s:=o.x) (p:=o.z) (l:=(zFe k.tx o.z o.x).1) (Prod.ext rfl h0);unfold zXx at hown;rw[if_neg Kb,if_pos e]at hown;injection hown with hown _;rw[<-hown,<-gH];refine zCm.2 ⟨_,jX n o.q _ k jE,hkl,?_,?_⟩
  ·dsimp only;split<;>omega
  ·rw[show(zCz k (zFe k.tx o.z o.x).1).tx=(zFe k.tx o.z o.x).1 from rfl];dsimp only;split<;>omega
