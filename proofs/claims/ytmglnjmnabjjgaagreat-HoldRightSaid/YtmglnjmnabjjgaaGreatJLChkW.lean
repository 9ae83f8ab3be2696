import Derived.Test.YtmglnjmnabjjgaaGreatJLList
set_option maxRecDepth 100000
set_option maxHeartbeats 8000000
namespace Go.Proofs.YtmglnjmnabjjgaaGreat
open Go.RowKit
variable {W w:World}{c:NC}{n:NT}{E:Int}{g:Nat}{a:OpP}{d:RC}{r:kNj}{Q:Exit->Act->World->Prop}{kc:KC}{A:Option Addr}
theorem kUp (A:Option Addr)(l:List Int)(n c:Nat)(w:World)(hn:l.length=n)(hl:n<=1000)(hp:IL w w.heap.size A l):
  Calls Tryz.prog 60 #[.slice A n c] w fun e w'=>e=.returned (.int .i64 (orL l))/\w'=w:=by
 have HP:=hd hp;have HN:=hd hn;clear hp hn;go_enter Tryz.func60,Tryz.ntmps60
 go_wp2
 go_loopw [8] (fun i wr=>∃k:Nat,k<=n/\i=.int .i64 k/\wr=w/\Kq (∀j,j<k->iAt l j=0)) (fun i _=>n-(intOf i).toNat)
 case atStart=>exact⟨0,Nat.zero_le _,rfl,by trivial,fun j hj=>absurd hj (Nat.not_lt_zero _)⟩
 case round=>
  obtain⟨k,hk,rfl,rfl,HA⟩:=hrel;by_cases hlt:k<n
  ·obtain⟨b,o,rfl,hbl,hc⟩:=HP.o.at_ (k:=k) (by rw[HN.o];exact hlt);by_cases hz:iAt l k=0
   ·have HB:=zBm (p:=fun j=>iAt l j=0) HA hz;have hx:(iAt l k !=0)=false:=by simp[hz]
    clear HA hz;go_wp2
    go_roundw
    case rel=>exact⟨k+1,by omega,by go_num,by trivial,HB⟩
    case measure=>simp[intOf];omega
   ·have HF:=hd (kE8 l k (by rw[HN.o];exact hlt) HA.o hz);have hx:(iAt l k !=0)=true:=by simp[hz]
    clear HA hz;go_wp2
    go_ret
    exact⟨zAj HF.o.symm,by trivial⟩
  ·have HF:=hd (zUc l fun j hj=>HA.o j (by rw[HN.o]at hj;omega));clear HA;go_wp2
   go_ret
   exact⟨zAj HF.o.symm,by trivial⟩
theorem kPt {v:Value}{p:List Int×Int}(hn:kS w c n)(hp:zI4 w v p)(hE:zK6 n p=E):Calls Tryz.prog 57 #[.agg c.row,v] w (jA (.int .i64 E) w):=by
 obtain⟨d,hn⟩:=hn;exact hE▸zUl Kk hn hp
theorem jT.pts {c:RC}(h:jT 37 W g c.row):W.rangeAt g 5 [.slice c.Q c.nq c.cq,.int .i64 c.qo]/\W.rangeAt g 7 [.slice c.A c.na c.ca,.int .i64 c.ao]/\W.rangeAt g 9 [.slice c.F c.nf c.cf,.int .i64 c.fo]/\W.rangeAt g 7 [.slice c.A c.na c.ca,.int .i64 c.ao,.slice c.F c.nf c.cf,.int .i64 c.fo]:=by
 refine⟨fun j v hv=>?_,fun j v hv=>?_,fun j v hv=>?_,fun j v hv=>?_⟩
 ·exact h.cell _ _ (match j,hv with
   |0,hv=>hv
   |1,hv=>hv
   |_+2,hv=>by simp at hv)
 ·exact h.cell _ _ (match j,hv with
   |0,hv=>hv
   |1,hv=>hv
   |_+2,hv=>by simp at hv)
 ·exact h.cell _ _ (match j,hv with
   |0,hv=>hv
   |1,hv=>hv
   |_+2,hv=>by simp at hv)
 ·exact h.cell _ _ (match j,hv with
   |0,hv=>hv
   |1,hv=>hv
   |2,hv=>hv
   |3,hv=>hv
   |_+4,hv=>by simp at hv)
theorem kOg {t:TypeId}{n:Nat}(hrow:kC5 t n){a:Act}{o:Oper}{off:Nat}{vs:List Value}(h:W.rangeAt g off vs)(hn:vs.length=n)(x:Operand)(ho:o.op=.load t x)(hx:a.eval x=.pointer (some ⟨g,off,none⟩)):(execOp a.eval o).run Tryz.prog W=.ok (.value (.agg vs.toArray)) W:=by
 obtain⟨d,h1,h2,h3⟩:=hrow;have hr:=run_loadAt_mid W g off t vs d h h1 h2 (by rw[h3,<-hn]);unfold execOp;simp only[Instr.loadAt,Instr.sureAddr,Sem.run_bind,Sem.run_pure,Result.andThen_ok]at hr;simp only[ho,hx,Instr.loadAt,Instr.sureAddr,Sem.run_bind,Sem.run_pure,Result.andThen_ok,hr]
theorem or2 (a b:Int):orL [a,b]=if a≠0 then a else b:=by
 by_cases h:a=0
 ·by_cases g:b=0
  ·simp[orL,h,g]
  ·simp[orL,h,g]
 ·simp[orL,h]
structure S2H (w:World)(c:NC)(d:RC)(n:NT)(r:kNj)(W:World):Prop where
 v1:jT 26 W w.heap.size c.row
 v2:jT 37 W (w.heap.size+1) d.row
 hn:kS W c n
 hr:RkA W d r
 below:Below w.heap.size w W
theorem S2H.call {W':World}(h:S2H w c d n r W)(hb:Below W.heap.size W W'):S2H w c d n r W':=⟨h.v1.keep hb,h.v2.keep hb,h.hn.later hb,h.hr.later hb,h.below.trans (hb.mono h.below.size)⟩
theorem kO4 (hn:kS w c n)(hr:RkA w d r):∃W0,(w.alloc (.cells c.row 26)).alloc (.cells d.row 37)=W0/\S2H w c d n r W0:=by
 obtain⟨W0,hW,hb0,v1,v2⟩:=kQa w 26 37 c.row d.row;exact⟨W0,hW,v1,v2,hn.later hb0,hr.later hb0,hb0⟩
theorem kVg (hn:kS w c n)(hr:RkA w d r)(ht:kOf r)(hE:(zGm n r.p).2=E):Calls Tryz.prog 53 #[.agg c.row,.agg d.row] w (jA (.int .i64 E) w):=by
 obtain⟨W0,hW,hst⟩:=kO4 hn hr;have HW:=hd hW;have HS:=hd hst;have HT:=hd ht;have HE:=hd hE;clear hW hst hn hr ht hE;go_enter Tryz.func53,Tryz.ntmps53
 go_upto_region 1 with fail
 rw[HW.o];obtain⟨_,u4,_⟩:=HS.o.v2.eleven;go_wp2_with(first
  |((with_reducible refine zC (ty:=26) (x:=.tmp 2) ?_);refine zB zD HS.o.v1 rfl _ rfl rfl rfl ?_)
  |(go_at_call 54;refine Calls.mono (kSb HS.o.hn HS.o.hr.hp.len (by have h1:=HT.o.1;have h2:=HS.o.hr.hp.len;omega) HS.o.hr.hp.il HE.o) ?_;rintro e w9 ⟨rfl,b9⟩;have HS:=hd (HS.o.call b9);clear b9))
 go_ret
 exact⟨rfl,HS.o.below⟩
theorem kVh (hn:kS w c n)(hr:RkA w d r)(ht:kOf r)(hE:zK6 n r.q=E):Calls Tryz.prog 56 #[.agg c.row,.agg d.row] w (jA (.int .i64 E) w):=by
 obtain⟨W0,hW,hst⟩:=kO4 hn hr;have HW:=hd hW;have HS:=hd hst;have HT:=hd ht;have HE:=hd hE;clear hW hst hn hr ht hE;go_enter Tryz.func56,Tryz.ntmps56
 go_upto_region 1 with fail
 rw[HW.o];obtain⟨_,_,⟨u5,u6⟩,_⟩:=HS.o.v2.eleven;go_wp2_with(first
  |((with_reducible refine zC (ty:=26) (x:=.tmp 2) ?_);refine zB zD HS.o.v1 rfl _ rfl rfl rfl ?_)
  |(go_at_call 57;refine Calls.mono (kPt HS.o.hn (HS.o.hr.ptT HT.o) HE.o) ?_;rintro e w9 ⟨rfl,b9⟩;have HS:=hd (HS.o.call b9);clear b9))
 go_ret
 exact⟨rfl,HS.o.below⟩
theorem kVi {E1 E2:Int}(hn:kS w c n)(hr:RkA w d r)(ht:kOf r)(hE:zK6 n r.a=E1)(cP:zK6 n r.f=E2)(mY:(if E1≠0 then E1 else E2)=E):Calls Tryz.prog 59 #[.agg c.row,.agg d.row] w (jA (.int .i64 E) w):=by
 have wD:=hd ((or2 E1 E2).trans mY);clear mY;have wE:=hd cP;clear cP;obtain⟨W0,hW,hst⟩:=kO4 hn hr;have HW:=hd hW;have HS:=hd hst;have HT:=hd ht;have HE:=hd hE;clear hW hst hn hr ht hE;go_enter Tryz.func59,Tryz.ntmps59
 go_upto_region 1 with fail
 rw[HW.o];refine jO (S:=fun W'=>S2H w c d n r W') (z:=fun _=>false) Ka ?_;have aa:=hd (HS.o.call (Below.refl W0.heap.size W0).drew);refine Kn 0 12 (.agg c.row) (fun W9 aj=>?_) aa.o ?_
 ·exact kNz zD aj.v1 rfl _ rfl rfl
 simp only[Act.put,List.setIfInBounds_toArray,List.set_cons_succ,List.set_cons_zero,List.getElem_toArray,List.getElem_cons_zero];refine Ko 1 11 (.pointer (some ⟨w.heap.size+1,7,none⟩)) aa.o ?_;simp only[Act.put,List.setIfInBounds_toArray,List.set_cons_succ,List.set_cons_zero,List.getElem_toArray,List.getElem_cons_succ,List.getElem_cons_zero];refine Ko 2 10 (.pointer (some ⟨w.heap.size+1,7,none⟩)) aa.o ?_;simp only[Act.put,List.setIfInBounds_toArray,List.set_cons_succ,List.set_cons_zero,List.getElem_toArray,List.getElem_cons_succ,List.getElem_cons_zero];refine Kn 3 9 (.agg #[.slice d.A d.na d.ca,.int .i64 d.ao]) (fun W9 aj=>?_) aa.o ?_
 ·exact kOg kNo aj.v2.pts.2.1 rfl _ rfl rfl
 simp only[Act.put,List.setIfInBounds_toArray,List.set_cons_succ,List.set_cons_zero,List.getElem_toArray,List.getElem_cons_succ,List.getElem_cons_zero];refine Kn 5 8 (.agg c.row) (fun W9 aj=>?_) aa.o ?_
 ·exact kNz zD aj.v1 rfl _ rfl rfl
 simp only[Act.put,List.setIfInBounds_toArray,List.set_cons_succ,List.set_cons_zero,List.getElem_toArray,List.getElem_cons_succ,List.getElem_cons_zero];refine Ko 6 7 (.pointer (some ⟨w.heap.size+1,7,none⟩)) aa.o ?_;simp only[Act.put,List.setIfInBounds_toArray,List.set_cons_succ,List.set_cons_zero,List.getElem_toArray,List.getElem_cons_succ,List.getElem_cons_zero];refine Ko 7 6 (.pointer (some ⟨w.heap.size+1,9,none⟩)) aa.o ?_;simp only[Act.put,List.setIfInBounds_toArray,List.set_cons_succ,List.set_cons_zero,List.getElem_toArray,List.getElem_cons_succ,List.getElem_cons_zero];refine Kn 8 5 (.agg #[.slice d.F d.nf d.cf,.int .i64 d.fo]) (fun W9 aj=>?_) aa.o ?_
 ·exact kOg kNo aj.v2.pts.2.2.1 rfl _ rfl rfl
 simp only[Act.put,List.setIfInBounds_toArray,List.set_cons_succ,List.set_cons_zero,List.getElem_toArray,List.getElem_cons_succ,List.getElem_cons_zero];refine Kp 4 4 (fun K hK=>?_);rw[if_pos Ke];go_simp;go_at_call 57
 refine(kPt aa.o.hn (aa.o.hr.paT HT.o) HE.o).mono ?_;rintro e w2 ⟨rfl,b9⟩;have aa:=hd (aa.o.call b9);clear b9;refine hK _ _ (fun _=>aa.o) ?_;clear hK K;refine Kp 9 3 (fun K hK=>?_);rw[if_pos Ke];go_simp;go_at_call 57
 refine(kPt aa.o.hn (aa.o.hr.pfT HT.o) wE.o).mono ?_;rintro e w3 ⟨rfl,b9⟩;have aa:=hd (aa.o.call b9);clear b9;refine hK _ _ (fun _=>aa.o) ?_;clear hK K;refine Kp 10 2 (fun K hK=>?_);rw[if_pos Ke];go_simp;have aZ:Below w3.heap.size w3 (w3.alloc (.cells #[.int .i64 E1,.int .i64 E2] 43)):=Kk.alloc Kl _;have aa:=hd (aa.o.call aZ);have pM:=hd (show IL (w3.alloc (.cells #[.int .i64 E1,.int .i64 E2] 43)) (w3.alloc (.cells #[.int .i64 E1,.int .i64 E2] 43)).heap.size (some ⟨w3.heap.size,0,none⟩) [E1,E2]from fun _=>⟨w3.heap.size,0,rfl,by simp,fun k hk=>by
  rw[World.cell?_alloc_at _ _ _ _ rfl];match k,hk with
  |0,_=>rfl
  |1,_=>rfl⟩)
 clear aZ;refine hK _ _ (fun _=>aa.o) ?_;clear hK K;refine Kp 11 1 (fun K hK=>?_);rw[if_pos Ke];go_simp;go_at_call 60
 refine(kUp (some ⟨w3.heap.size,0,none⟩) [E1,E2] 2 2 _ rfl Kb pM.o).mono ?_;rintro e w5 ⟨rfl,rfl⟩;refine hK _ _ (fun _=>aa.o) ?_;clear hK K;refine Kp 12 0 (fun K hK=>?_);rw[if_pos Ke];go_simp;refine hK _ _ (fun _=>aa.o) (zAl Ka ?_);clear hK K;go_wp2_with fail
 go_ret
 exact⟨zAj wD.o,aa.o.below⟩
theorem kQv {P:Program}{ops:Array Oper}{S S':World->Prop}{z:Nat->Bool}(hS:∀w,S' w->S w):∀{n:Nat}{listed:Array Bool}{a:Act}{w:World},zCu P ops Q S' z n listed a w->zCu P ops Q S z n listed a w
 |0,_,_,_,h=>h
 |_+1,_,_,_,h=>⟨h.1,fun i hi=>wpOp_mono (fun _ _w' h'=>⟨fun hz=>hS _ (h'.1 hz),kQv hS h'.2⟩) (h.2 i hi)⟩
theorem kO5 {a:Act}{o:Oper}{b:Nat}{k:Int}{is:Bool}(h:kOm W b)(hk:(Lit.int .i64 k).wf=true)(hkk:kOz k=(kc,is))(m x:Operand)(hop:o.op=Op.lookup 78 m x true)(hm:a.eval m=.map (some b))(hx:a.eval x=.int .i64 k):(execOp a.eval o).run Tryz.prog W=.ok (.value (.tuple #[.agg kc.row,.bool is])) W:=by
 have h2:=kRp h hk;rw[hkk]at h2;simp[execOp,hop,hm,hx,h2,Result.andThen]
theorem kSp :kC5 76 3:=⟨.struct (Tryz.prog.fieldsOf 76),by kernel_rfl,rfl,by kernel_rfl⟩
theorem kSq :(Tryz.prog.info? 76).map (·.size)=some 3:=Ka
theorem kQg (k:Int):(kOz k).1.chk.oneCell'=true/\(kOz k).1.along.oneCell'=true:=by
 unfold kOz;split
 ·exact⟨rfl,rfl⟩
 ·split
  ·exact⟨rfl,rfl⟩
  ·split
   ·exact⟨rfl,rfl⟩
   ·exact⟨rfl,rfl⟩
theorem kSr (h:kc.chk.oneCell'=true/\kc.along.oneCell'=true):∀u ∈ [Value.int .i64 kc.last,kc.chk,kc.along],u.oneCell'=true:=by
 intro u hu;simp at hu;rcases hu with rfl|rfl|rfl
 ·rfl
 ·exact h.1
 ·exact h.2
theorem kQw {P:Prop}(h:P:=by
 refine Kp 8 1 (fun K hK=>?_);rw[if_pos Ke];refine zY kSq HV.o _ _ rfl rfl 0 _ [.int .i64 kc.last,kc.chk,kc.along] rfl rfl rfl rfl (kSr dR.o) Km ?_;intro W5 eB bF;have HV:=hd (show jT 76 W5 g kc.row from eB);have aa:=hd (And.intro (bV.o.call (zN dS.o bF iO.o)) (KM.off aa.o.2 bF iP.o));clear eB bF bV dS iO iP;refine hK _ _ (fun _=>aa.o) ?_;clear hK K;refine Kp 9 0 (fun K hK=>?_);rw[if_pos Ke];go_simp;refine hK _ _ (fun _=>aa.o) (zAl Ka ?_);clear hK K;have HS:=hd aa.o.1;go_wp2_with fail
 go_ret
 exact⟨rfl,HS.o.below⟩):P:=h
theorem kVj (hn:kS w c n)(hr:RkA w d r)(ht:kOf r)(hkk:kOz d.kind=(kc,false)):Calls Tryz.prog 10 #[.agg c.row,.agg d.row] w (jA (.int .i64 1) w):=by
 have hE:=True.intro;have cN:=hd hkk;have lA:=hd hr.hkw;have dR:=hd (kQg d.kind);rw[hkk]at dR;clear hkk;obtain⟨W0,hW,hst⟩:=kO4 hn hr;have HW:=hd hW;have HS:=hd hst;have HT:=hd ht;have HE:=hd hE;clear hW hst hn hr ht hE;go_enter Tryz.func10,Tryz.ntmps10
 go_upto_region 1 with fail
 rw[HW.o];refine jO (S:=fun W'=>S2H w c d n r W') (z:=fun _=>false) Ka ?_;have aa:=hd (HS.o.call (Below.refl W0.heap.size W0).drew);refine Ko 1 9 (.pointer (some ⟨w.heap.size+1,1,none⟩)) aa.o ?_;simp only[Act.put,List.setIfInBounds_toArray,List.set_cons_succ,List.set_cons_zero,List.getElem_toArray,List.getElem_cons_succ,List.getElem_cons_zero];refine Kn 2 8 (.int .i64 d.kind) (fun W9 aj=>?_) aa.o ?_
 ·have h9:W9.cell? ⟨w.heap.size+1,1,none⟩=some (.int .i64 d.kind):=aj.v2.cell 1 _ rfl;go_simp
 simp only[Act.put,List.setIfInBounds_toArray,List.set_cons_succ,List.set_cons_zero,List.getElem_toArray,List.getElem_cons_succ,List.getElem_cons_zero];refine kB9 (i:=0) (j:=7) (n:=7) Ka rfl rfl (fun K hK=>?_) (fun K hK=>?_)
 ·rw[if_pos Ke];go_simp;go_at_call 27
  refine(kOs _).mono ?_;rintro e w2 ⟨mb,rfl,bD,_,b9⟩;have lB:=hd bD;have aa:=hd (aa.o.call b9);clear b9 bD;refine hK _ _ (fun _=>aa.o) ?_;clear hK K;refine kQv (S':=fun W'=>S2H w c d n r W'/\kOm W' mb) (fun _ h=>h.1) ?_;have aa:=hd (And.intro aa.o lB.o);refine Kn 3 6 (.tuple #[.agg kc.row,.bool false]) (fun W9 aj=>?_) aa.o ?_
  ·exact kO5 aj.2 lA.o cN.o _ _ rfl rfl rfl
  simp only[Act.put,List.setIfInBounds_toArray,List.set_cons_succ,List.set_cons_zero,List.getElem_toArray,List.getElem_cons_succ,List.getElem_cons_zero];refine Ko 4 5 (.tuple #[.agg kc.row,.bool false]) aa.o ?_;simp only[Act.put,List.setIfInBounds_toArray,List.set_cons_succ,List.set_cons_zero,List.getElem_toArray,List.getElem_cons_succ,List.getElem_cons_zero];refine Ko 5 4 (.agg kc.row) aa.o ?_;simp only[Act.put,List.setIfInBounds_toArray,List.set_cons_succ,List.set_cons_zero,List.getElem_toArray,List.getElem_cons_succ,List.getElem_cons_zero];refine Ko 6 3 (.bool false) aa.o ?_;simp only[Act.put,List.setIfInBounds_toArray,List.set_cons_succ,List.set_cons_zero,List.getElem_toArray,List.getElem_cons_succ,List.getElem_cons_zero];refine Kp 7 2 (fun K hK=>?_);rw[if_pos Ke];go_simp;have HV:=hd (jT.new w2 76 kc0.row);have hb:=(Below.refl w2.heap.size w2).alloc Kl (.cells kc0.row 76);have bV:=hd aa.o.1;have iP:=hd (Nat.ne_of_lt aa.o.2.lt);have iO:=hd (Nat.le_refl w2.heap.size);have aa:=hd (And.intro (bV.o.call hb) (aa.o.2.below hb));have dS:=hd hb;clear hb;obtain⟨g,hg⟩:∃g,w2.heap.size=g:=⟨_,rfl⟩;obtain⟨W4,eH⟩:∃W4,w2.alloc (.cells kc0.row 76)=W4:=⟨_,rfl⟩;have e4:w2.alloc (.cells #[.int .i64 0,.nilFunc,.nilFunc] 76)=W4:=eH;rw[eH]at HV aa dS;rw[e4];rw[hg]at HV iP;have iO:=hd (show w2.heap.size<=g by omega);rw[hg];clear eH e4 hg;refine hK _ _ (fun _=>aa.o) ?_;clear hK K;exact kQw
 ·rw[if_pos Ke];go_simp;have HV:=hd (jT.new W0.drew 76 kc0.row);have hb:=(Below.refl W0.drew.heap.size W0.drew).alloc Kl (.cells kc0.row 76);have bV:=hd aa.o;have aa:=hd (bV.o.call hb);have dS:=hd hb;clear hb;obtain⟨g,hg⟩:∃g,W0.heap.size=g:=⟨_,rfl⟩;obtain⟨W4,eH⟩:∃W4,W0.drew.alloc (.cells kc0.row 76)=W4:=⟨_,rfl⟩;have e4:(W0.alloc (.cells #[.int .i64 0,.nilFunc,.nilFunc] 76)).drew=W4:=eH;rw[eH]at HV aa dS;rw[e4];have HV:=hd (show jT 76 W4 W0.heap.size kc0.row from HV.o);rw[hg]at HV;have iO:=hd (show W0.drew.heap.size<=g from Nat.le_of_eq hg);rw[hg];clear eH e4 hg;refine hK _ _ (fun _=>aa.o) ?_;clear hK K;refine Kp 0 6 (fun K hK=>?_);rw[if_pos Ke];go_simp;go_at_call 27
  refine(kOs _).mono ?_;rintro e w2 ⟨mb,rfl,bD,hmb,b9⟩;have iP:=hd (show mb≠g by have:=HV.o.lt;omega);have lB:=hd bD;have HV:=hd (HV.o.keep b9);have aa:=hd (aa.o.call b9);have dS:=hd (dS.o.trans (b9.mono dS.o.size));clear b9 bD hmb;refine hK _ _ (fun _=>aa.o) ?_;clear hK K;refine kQv (S':=fun W'=>S2H w c d n r W'/\kOm W' mb) (fun _ h=>h.1) ?_;have aa:=hd (And.intro aa.o lB.o);refine Kn 3 5 (.tuple #[.agg kc.row,.bool false]) (fun W9 aj=>?_) aa.o ?_
  ·exact kO5 aj.2 lA.o cN.o _ _ rfl rfl rfl
  simp only[Act.put,List.setIfInBounds_toArray,List.set_cons_succ,List.set_cons_zero,List.getElem_toArray,List.getElem_cons_succ,List.getElem_cons_zero];refine Ko 4 4 (.tuple #[.agg kc.row,.bool false]) aa.o ?_;simp only[Act.put,List.setIfInBounds_toArray,List.set_cons_succ,List.set_cons_zero,List.getElem_toArray,List.getElem_cons_succ,List.getElem_cons_zero];refine Ko 5 3 (.agg kc.row) aa.o ?_;simp only[Act.put,List.setIfInBounds_toArray,List.set_cons_succ,List.set_cons_zero,List.getElem_toArray,List.getElem_cons_succ,List.getElem_cons_zero];refine Ko 6 2 (.bool false) aa.o ?_;simp only[Act.put,List.setIfInBounds_toArray,List.set_cons_succ,List.set_cons_zero,List.getElem_toArray,List.getElem_cons_succ,List.getElem_cons_zero];exact kQw
def kVk (aff last:Int)(st:Bool)(G:Int):Int:=if aff<0∨last<aff∨st=true then 1 else G
theorem kQx {P:Prop}(h:P:=by
 refine Kp 8 1 (fun K hK=>?_);rw[if_pos Ke];refine zY kSq HV.o _ _ rfl rfl 0 _ [.int .i64 kc.last,kc.chk,kc.along] rfl rfl rfl rfl (kSr dR.o) Km ?_;intro W5 eB bF;have HV:=hd (show jT 76 W5 g kc.row from eB);have aa:=hd (And.intro (bV.o.call (zN dS.o bF iO.o)) (KM.off aa.o.2 bF iP.o));clear eB bF bV dS iO iP;refine hK _ _ (fun _=>aa.o) ?_;clear hK K;refine Kp 9 0 (fun K hK=>?_);rw[if_pos Ke];go_simp;refine hK _ _ (fun _=>aa.o) (zAl Ka ?_);clear hK K;have HS:=hd aa.o.1;obtain⟨⟨_,_,u2,_⟩,_⟩:=HS.o.v2.eleven;have g0:W5.cell? ⟨g,0,none⟩=some (.int .i64 kc.last):=HV.o.cell 0 _ rfl;have g1:W5.cell? ⟨g,1,none⟩=some (.func (.func fid) #[] #[]):=(HV.o.cell 1 _ rfl).trans (congrArg some pN.o);go_wp2_with(first
  |((with_reducible refine kH (ty:=37) (x:=.tmp 3) ?_);refine zK kNu HS.o.v2 rfl _ rfl Ke rfl ?_)
  |(go_at_call 28;refine Calls.mono (HST.o _ HS.o.hr) ?_;rintro e w6 ⟨rfl,b9⟩;have HS:=hd (HS.o.call b9);have HV:=hd (HV.o.keep b9);clear b9 g1 g0 u2;have g1:w6.cell? ⟨g,1,none⟩=some (.func (.func fid) #[] #[]):=(HV.o.cell 1 _ rfl).trans (congrArg some pN.o))
  |((with_reducible refine zC (ty:=26) (x:=.tmp 2) ?_);refine zB zD HS.o.v1 rfl _ rfl rfl rfl ?_)
  |((with_reducible refine zC (ty:=37) (x:=.tmp 3) ?_);refine zB kNu HS.o.v2 rfl _ rfl rfl rfl ?_;have _g:=HS)
  |(have _g:=w6;refine(rp.o _ HS.o.hn HS.o.hr).mono ?_;rintro e w7 ⟨rfl,b9⟩;have HS:=hd (HS.o.call b9);clear b9))
 all_goals(go_ret;refine⟨zAj ?_,HS.o.below⟩)
 all_goals(rw[<-fX.o];unfold kVk)
 all_goals first
  |(simp_all;done)
  |(simp_all;omega)
  |(rw[if_pos (.inr (.inr rfl))])
  |(rename_i h3;rw[if_pos (or_assoc.1 h3)])):P:=h
theorem kSs {fid:FuncId}{G:Int}{st:Bool}(hn:kS w c n)(hr:RkA w d r)(ht:kOf r)(hkk:kOz d.kind=(kc,true))(hfn:kc.chk=.func (.func fid) #[] #[])(hent:∀args w,(callFunc fid args).run Tryz.prog w=.ok (.enter fid args) w)
  (hst:∀W,RkA W d r->Calls Tryz.prog 28 #[.agg d.row] W (jA (.bool st) W)) (hcl:∀W,kS W c n->RkA W d r->Calls Tryz.prog fid #[.agg c.row,.agg d.row] W (jA (.int .i64 G) W)) (he:kVk d.aff kc.last st G=E):Calls Tryz.prog 10 #[.agg c.row,.agg d.row] w (jA (.int .i64 E) w):=by
 have hE:=True.intro;have pN:=hd hfn;have HST:=hd hst;have rp:=hd hcl;have fX:=hd he;clear hfn hst hcl he;have cN:=hd hkk;have lA:=hd hr.hkw;have dR:=hd (kQg d.kind);rw[hkk]at dR;clear hkk;obtain⟨W0,hW,hst⟩:=kO4 hn hr;have HW:=hd hW;have HS:=hd hst;have HT:=hd ht;have HE:=hd hE;clear hW hst hn hr ht hE;go_enter Tryz.func10,Tryz.ntmps10
 go_upto_region 1 with fail
 rw[HW.o];refine jO (S:=fun W'=>S2H w c d n r W') (z:=fun _=>false) Ka ?_;have aa:=hd (HS.o.call (Below.refl W0.heap.size W0).drew);refine Ko 1 9 (.pointer (some ⟨w.heap.size+1,1,none⟩)) aa.o ?_;simp only[Act.put,List.setIfInBounds_toArray,List.set_cons_succ,List.set_cons_zero,List.getElem_toArray,List.getElem_cons_succ,List.getElem_cons_zero];refine Kn 2 8 (.int .i64 d.kind) (fun W9 aj=>?_) aa.o ?_
 ·have h9:W9.cell? ⟨w.heap.size+1,1,none⟩=some (.int .i64 d.kind):=aj.v2.cell 1 _ rfl;go_simp
 simp only[Act.put,List.setIfInBounds_toArray,List.set_cons_succ,List.set_cons_zero,List.getElem_toArray,List.getElem_cons_succ,List.getElem_cons_zero];refine kB9 (i:=0) (j:=7) (n:=7) Ka rfl rfl (fun K hK=>?_) (fun K hK=>?_)
 ·rw[if_pos Ke];go_simp;go_at_call 27
  refine(kOs _).mono ?_;rintro e w2 ⟨mb,rfl,bD,_,b9⟩;have lB:=hd bD;have aa:=hd (aa.o.call b9);clear b9 bD;refine hK _ _ (fun _=>aa.o) ?_;clear hK K;refine kQv (S':=fun W'=>S2H w c d n r W'/\kOm W' mb) (fun _ h=>h.1) ?_;have aa:=hd (And.intro aa.o lB.o);refine Kn 3 6 (.tuple #[.agg kc.row,.bool true]) (fun W9 aj=>?_) aa.o ?_
  ·exact kO5 aj.2 lA.o cN.o _ _ rfl rfl rfl
  simp only[Act.put,List.setIfInBounds_toArray,List.set_cons_succ,List.set_cons_zero,List.getElem_toArray,List.getElem_cons_succ,List.getElem_cons_zero];refine Ko 4 5 (.tuple #[.agg kc.row,.bool true]) aa.o ?_;simp only[Act.put,List.setIfInBounds_toArray,List.set_cons_succ,List.set_cons_zero,List.getElem_toArray,List.getElem_cons_succ,List.getElem_cons_zero];refine Ko 5 4 (.agg kc.row) aa.o ?_;simp only[Act.put,List.setIfInBounds_toArray,List.set_cons_succ,List.set_cons_zero,List.getElem_toArray,List.getElem_cons_succ,List.getElem_cons_zero];refine Ko 6 3 (.bool true) aa.o ?_;simp only[Act.put,List.setIfInBounds_toArray,List.set_cons_succ,List.set_cons_zero,List.getElem_toArray,List.getElem_cons_succ,List.getElem_cons_zero];refine Kp 7 2 (fun K hK=>?_);rw[if_pos Ke];go_simp;have HV:=hd (jT.new w2 76 kc0.row);have hb:=(Below.refl w2.heap.size w2).alloc Kl (.cells kc0.row 76);have bV:=hd aa.o.1;have iP:=hd (Nat.ne_of_lt aa.o.2.lt);have iO:=hd (Nat.le_refl w2.heap.size);have aa:=hd (And.intro (bV.o.call hb) (aa.o.2.below hb));have dS:=hd hb;clear hb;obtain⟨g,hg⟩:∃g,w2.heap.size=g:=⟨_,rfl⟩;obtain⟨W4,eH⟩:∃W4,w2.alloc (.cells kc0.row 76)=W4:=⟨_,rfl⟩;have e4:w2.alloc (.cells #[.int .i64 0,.nilFunc,.nilFunc] 76)=W4:=eH;rw[eH]at HV aa dS;rw[e4];rw[hg]at HV iP;have iO:=hd (show w2.heap.size<=g by omega);rw[hg];clear eH e4 hg;refine hK _ _ (fun _=>aa.o) ?_;clear hK K;exact kQx
 ·rw[if_pos Ke];go_simp;have HV:=hd (jT.new W0.drew 76 kc0.row);have hb:=(Below.refl W0.drew.heap.size W0.drew).alloc Kl (.cells kc0.row 76);have bV:=hd aa.o;have aa:=hd (bV.o.call hb);have dS:=hd hb;clear hb;obtain⟨g,hg⟩:∃g,W0.heap.size=g:=⟨_,rfl⟩;obtain⟨W4,eH⟩:∃W4,W0.drew.alloc (.cells kc0.row 76)=W4:=⟨_,rfl⟩;have e4:(W0.alloc (.cells #[.int .i64 0,.nilFunc,.nilFunc] 76)).drew=W4:=eH;rw[eH]at HV aa dS;rw[e4];have HV:=hd (show jT 76 W4 W0.heap.size kc0.row from HV.o);rw[hg]at HV;have iO:=hd (show W0.drew.heap.size<=g from Nat.le_of_eq hg);rw[hg];clear eH e4 hg;refine hK _ _ (fun _=>aa.o) ?_;clear hK K;refine Kp 0 6 (fun K hK=>?_);rw[if_pos Ke];go_simp;go_at_call 27
  refine(kOs _).mono ?_;rintro e w2 ⟨mb,rfl,bD,hmb,b9⟩;have iP:=hd (show mb≠g by have:=HV.o.lt;omega);have lB:=hd bD;have HV:=hd (HV.o.keep b9);have aa:=hd (aa.o.call b9);have dS:=hd (dS.o.trans (b9.mono dS.o.size));clear b9 bD hmb;refine hK _ _ (fun _=>aa.o) ?_;clear hK K;refine kQv (S':=fun W'=>S2H w c d n r W'/\kOm W' mb) (fun _ h=>h.1) ?_;have aa:=hd (And.intro aa.o lB.o);refine Kn 3 5 (.tuple #[.agg kc.row,.bool true]) (fun W9 aj=>?_) aa.o ?_
  ·exact kO5 aj.2 lA.o cN.o _ _ rfl rfl rfl
  simp only[Act.put,List.setIfInBounds_toArray,List.set_cons_succ,List.set_cons_zero,List.getElem_toArray,List.getElem_cons_succ,List.getElem_cons_zero];refine Ko 4 4 (.tuple #[.agg kc.row,.bool true]) aa.o ?_;simp only[Act.put,List.setIfInBounds_toArray,List.set_cons_succ,List.set_cons_zero,List.getElem_toArray,List.getElem_cons_succ,List.getElem_cons_zero];refine Ko 5 3 (.agg kc.row) aa.o ?_;simp only[Act.put,List.setIfInBounds_toArray,List.set_cons_succ,List.set_cons_zero,List.getElem_toArray,List.getElem_cons_succ,List.getElem_cons_zero];refine Ko 6 2 (.bool true) aa.o ?_;simp only[Act.put,List.setIfInBounds_toArray,List.set_cons_succ,List.set_cons_zero,List.getElem_toArray,List.getElem_cons_succ,List.getElem_cons_zero];exact kQx
theorem kSt (hr:RkA w d r)(h1:d.kind≠1)(h2:d.kind≠2)(h3:d.kind≠3):chkR n r=1:=by rw[chkR,hr.hk,if_neg h1,if_neg h2,if_neg h3]
def kN8 (an fo:List Int×Int)(aff:Int):Int×Int:=
 if aff=3 then(if samP an fo=true then(1,1)else if kFb fo an<0 then(2,1)else(1,2))
 else if aff=4 then(if kFb fo an<0 then(1,2)else(2,1))
 else(aff,aff)
def kP4 (a:OpP)(an fo:List Int×Int)(aff:Int):((List Int×Int)×(List Int×Int))×Bool:=
 let m:=zEr a.k a.q a.t a.z a.x.length (kN8 an fo aff).1 an
 let l:=zEr a.k a.q a.t a.z a.x.length (kN8 an fo aff).2 fo
 if m.2=true/\l.2=true then((m.1,l.1),true)else((([],0),([],0)),false)
def kNr (r:kNj):kNj:={kVy with id:=r.id,kind:=r.kind,aff:=r.aff}
def kOc (a:OpP)(r:kNj):kNj:=
 if r.live=false then r
 else if r.kind=1 then(if(jF a.k a.q a.t a.z r.p).2=true then{kNr r with live:=true,p:=(jF a.k a.q a.t a.z r.p).1}else kNr r)
 else if r.kind=2 then(if(zEr a.k a.q a.t a.z a.x.length r.aff r.q).2=true then{kNr r with live:=true,q:=(zEr a.k a.q a.t a.z a.x.length r.aff r.q).1}else kNr r)
 else if r.kind=3 then(if(kP4 a r.a r.f r.aff).2=true then{kNr r with live:=true,a:=(kP4 a r.a r.f r.aff).1.1,f:=(kP4 a r.a r.f r.aff).1.2}else kNr r)
 else kNr r
def kWc (xs:List Value):Nat->List Value->List Value
 |_,[]=>xs
 |j,v::r=>kWc (xs.set j v) (j+1) r
theorem kRl :∀(vs:List Value)(j:Nat)(xs:List Value)(cur:Array Value),(∀(i:Nat)(v:Value),xs[i]? =some v->cur[i]? =some v)->∀(i:Nat)(v:Value),(kWc xs j vs)[i]? =some v->(zU4 cur j vs)[i]? =some v
 |[],_,_,_,h=>h
 | u ::r,j,xs,cur,h=>kRl r (j+1) (xs.set j u) (cur.setIfInBounds j u) fun i v hv=>by
   rw[List.getElem?_set]at hv;rw[Array.getElem?_setIfInBounds];split at hv
   ·rename_i e
    rw[if_pos e];split at hv
    ·rename_i hl
     obtain⟨x,hx⟩:∃x,xs[j]? =some x:=⟨_,List.getElem?_eq_getElem hl⟩;rw[if_pos (Array.getElem?_eq_some_iff.1 (h _ _ hx)).1];exact hv
    ·cases hv
   ·rename_i e
    rw[if_neg e];exact h i v hv
theorem kOv {ty:TypeId}{n:Nat}(hsz:(Tryz.prog.info? ty).map (·.size)=some n){op:Oper}{a:Act}{K:Act->World->Prop}{ds:List RC}(h:kOx W g ds)(x y:Operand)(ho:op.op=.store ty x y)(hd:op.dst=none)
  (j:Nat) (v:Value) (vs:List Value) (ds':List RC) (hx:a.eval x=.pointer (some ⟨g,j,none⟩)) (hy:a.eval y=v) (hv:v.cells=vs.toArray) (hn:vs.length=n) (h1:∀u ∈ vs,u.oneCell'=true) (hp:0<n) (hj:j+vs.length<=(cellsR ds).length) (hds:cellsR ds'=kWc (cellsR ds) j vs)
  (hk:∀W',kOx W' g ds'->Off g W W'->K a W'):Oper.wp Tryz.prog op a W K Q:=by
 obtain⟨cur,hc,hcc⟩:=h;have hl:j+vs.length<=cur.size:=by
  have hi:j+vs.length-1<(cellsR ds).length:=Kb;have:=(Array.getElem?_eq_some_iff.1 (hcc _ _ (List.getElem?_eq_getElem hi))).1;omega
 refine zY hsz hc x y ho hd j v vs hx hy hv hn h1 hl (fun W' hv' ho'=>hk W' ⟨_,hv',fun i u hu=>?_⟩ ho');rw[hds]at hu;exact kRl vs j _ cur hcc i u hu
theorem kSu :(Tryz.prog.info? 27).map (·.size)=some 1:=Ka
theorem kTt {n c:Nat}:∀u ∈ [Value.slice A n c],u.oneCell'=true:=by
 intro u hu;simp at hu;subst hu;rfl
def kQh (g:Nat)(d:RC)(res:kNj×Bool)(W:World)(e:Ending)(w':World):Prop:=∃d',e=.returned (.bool res.2)/\kOx w' g [d']/\Off g W w'/\d'.id=d.id/\d'.kind=d.kind/\d'.aff=d.aff/\(res.2=true->RkA w' d' res.1)
theorem OkA.xqa {o:OC}(ho:OkA w o a)(ta:zAf a):XA w (.slice o.Q o.lq o.cq) a.q:=⟨_,_,_,rfl,ho.hlq,by have:=ta.hq;have:=ho.hlq;omega,ho.hcq,ho.hq⟩
theorem OkA.xta {o:OC}(ho:OkA w o a)(ta:zAf a):XA w (.slice o.T o.lt o.ct) a.t:=⟨_,_,_,rfl,ho.hlt,by have:=ta.ht;have:=ho.hlt;omega,ho.hct,ho.ht⟩
theorem kTu {n c:Nat}{o:OC}{p:List Int}{r:List Int×Bool}(hp:kNt w A n c p)(hl:p.length<=1000)(ho:OkA w o a)(ta:zAf a)(hr:jF a.k a.q a.t a.z p=r):Calls Tryz.prog 46 #[.slice A n c,.agg o.row] w (kBb w r):=by
 have hx:XA w (.slice A n c) p:=⟨A,n,c,rfl,hp.len,by have:=hp.len;omega,hp.cap,hp.il⟩;have hk:=ho.hk;have hz:=ho.hz;rw[hk,hz]at hr;exact kIh hx (ho.xqa ta) (ho.xta ta) hr
theorem kUq {o:OC}{x:List Int}{b:Bool}(hrow:kOx w g [d])(hk:∀W,Off g w W->RkA W d r)(ho:OkA w o a)(ta:zAf a)(hl:r.p.length<=1000)(hm:jF a.k a.q a.t a.z r.p=(x,b)):
  Calls Tryz.prog 55 #[.pointer (some ⟨g,0,none⟩),.agg o.row] w (kQh g d ({r with p:=x},b) w):=by
 have hv:=jT.new w 35 o.row;have hb:Below w.heap.size w (w.alloc (.cells o.row 35)):=Kk.alloc Kl _;have HO:=hd (ho.later hb);have aR:=hd hk;have aw:=hd ta;have HM:=hd hm;have HL:=hd hl;have bL:=hd (hrow.keep hb);have HV:=hd hv;have hgl:=hrow.lt;have ba:=hd (Off.of_below (g:=g) hb);obtain⟨W0,hW⟩:∃W0,w.alloc (.cells o.row 35)=W0:=⟨_,rfl⟩;rw[hW]at HO bL HV ba;have HW:=hd hW;clear hrow hk ho ta hm hl hv hb hW;go_enter Tryz.func55,Tryz.ntmps55
 go_upto_region 1 with fail
 rw[HW.o];refine kQn (S:=fun W'=>kOx W' g [d]/\jT 35 W' w.heap.size o.row) (m:=6) Ka ?_;have aa:=hd (show kOx W0.drew g [d]/\jT 35 W0.drew w.heap.size o.row from⟨bL.o,HV.o⟩);refine kNl (i:=0) (n:=13) (.pointer (some ⟨g,0,none⟩)) rfl Ka Ka Ka Ka (fun _ _ _ h=>h) Ke (fun W9=>?_) aa.o ?_
 ·go_simp
 simp only[Act.put,List.setIfInBounds_toArray,List.set_cons_succ,List.set_cons_zero,List.getElem_toArray,List.getElem_cons_zero];refine kNl (i:=1) (n:=12) (.pointer (some ⟨g,0,none⟩)) rfl Ka Ka Ka Ka (fun _ _ _ h=>h) Ke (fun W9=>?_) aa.o ?_
 ·go_simp
 simp only[Act.put,List.setIfInBounds_toArray,List.set_cons_succ,List.set_cons_zero,List.getElem_toArray,List.getElem_cons_succ,List.getElem_cons_zero];refine kNl (i:=2) (n:=11) (.pointer (some ⟨g,0,none⟩)) rfl Ka Ka Ka Ka (fun _ _ _ h=>h) Ke (fun W9=>?_) aa.o ?_
 ·go_simp
 simp only[Act.put,List.setIfInBounds_toArray,List.set_cons_succ,List.set_cons_zero,List.getElem_toArray,List.getElem_cons_succ,List.getElem_cons_zero];refine kNl (i:=3) (n:=10) (.pointer (some ⟨g,4,none⟩)) rfl Ka Ka Ka Ka (fun _ _ _ h=>h) Ke (fun W9=>?_) aa.o ?_
 ·go_simp
 simp only[Act.put,List.setIfInBounds_toArray,List.set_cons_succ,List.set_cons_zero,List.getElem_toArray,List.getElem_cons_succ,List.getElem_cons_zero];refine kOu (i:=4) (n:=9) (.slice d.P d.np d.cp) rfl Ka Ka Ka Ka Ka (fun _ _ _ h=>h) Ke (fun W9 aj=>?_) aa.o ?_
 ·have h9:W9.cell? ⟨g,4,none⟩=some (.slice d.P d.np d.cp):=aj.1.cell rfl;go_simp
 simp only[Act.put,List.setIfInBounds_toArray,List.set_cons_succ,List.set_cons_zero,List.getElem_toArray,List.getElem_cons_succ,List.getElem_cons_zero];refine kOu (i:=5) (n:=8) (.agg o.row) rfl Ka Ka Ka Ka Ka (fun _ _ _ h=>h) Ke (fun W9 aj=>?_) aa.o ?_
 ·exact kNz zMk aj.2 rfl _ rfl rfl
 simp only[Act.put,List.setIfInBounds_toArray,List.set_cons_succ,List.set_cons_zero,List.getElem_toArray,List.getElem_cons_succ,List.getElem_cons_zero];have ba:=hd (ba.o.trans (Off.of_below (Below.refl W0.heap.size W0).drew));have HO:=hd (HO.o.later (Below.refl W0.heap.size W0).drew);obtain⟨W1,hW1⟩:∃W1,W0.drew=W1:=⟨_,rfl⟩;rw[hW1]at aa ba HO⊢;clear hW1;refine kUi (n:=7) Ka rfl Ka (fun K hK=>?_);rw[if_pos Ke];go_simp;go_at_call 46
 refine(kTu (aR.o _ ba.o).hp HL.o HO.o aw.o HM.o).mono ?_;rintro e w2 ⟨v,rfl,hv,b9⟩;have hlx:=hv.open_;simp only at hlx hv;obtain⟨lx,hle⟩:∃k,x.length=k:=⟨_,rfl⟩;rw[hle]at hlx;obtain⟨X,cx,rfl,hcx,hmx,hil⟩:=hlx;have nP:=hd hle;have wG:=hd hmx;clear hle hmx;have pM:=hd (zI6 hv);have ug:=hd hcx;have bL:=hd (aa.o.1.keep b9);have ba:=hd (ba.o.trans (Off.of_below b9));have fN:=aa.o.1.lt;clear hv hil b9 hcx aa;refine hK _ _ ?_;clear hK K;simp only;refine Kn 7 6 (.tuple #[.slice X lx cx,.bool b]) (fun W9 _=>?_) trivial ?_
 ·go_simp
 simp only[Act.put,List.setIfInBounds_toArray,List.set_cons_succ,List.set_cons_zero,List.getElem_toArray,List.getElem_cons_succ,List.getElem_cons_zero];refine Kn 8 5 (.slice X lx cx) (fun W9 _=>?_) trivial ?_
 ·go_simp
 simp only[Act.put,List.setIfInBounds_toArray,List.set_cons_succ,List.set_cons_zero,List.getElem_toArray,List.getElem_cons_succ,List.getElem_cons_zero];refine Kn 9 4 (.bool b) (fun W9 _=>?_) trivial ?_
 ·go_simp
 simp only[Act.put,List.setIfInBounds_toArray,List.set_cons_succ,List.set_cons_zero,List.getElem_toArray,List.getElem_cons_succ,List.getElem_cons_zero];refine Kn 10 3 (.pointer (some ⟨g,0,none⟩)) (fun W9 _=>?_) trivial ?_
 ·go_simp
 simp only[Act.put,List.setIfInBounds_toArray,List.set_cons_succ,List.set_cons_zero,List.getElem_toArray,List.getElem_cons_succ,List.getElem_cons_zero];refine Kn 11 2 (.pointer (some ⟨g,4,none⟩)) (fun W9 _=>?_) trivial ?_
 ·go_simp
 simp only[Act.put,List.setIfInBounds_toArray,List.set_cons_succ,List.set_cons_zero,List.getElem_toArray,List.getElem_cons_succ,List.getElem_cons_zero];refine Kp 12 1 (fun K hK=>?_);rw[if_pos Ke];refine kOv kSu bL.o _ _ rfl rfl 4 (.slice X lx cx) [.slice X lx cx] [{d with P:=X,np:=lx,cp:=cx}] rfl rfl rfl rfl kTt Kd (by rw[kN5];show 4+1<=1*11;decide) rfl ?_;intro W5 lC bF;have bL:=hd lC;have ba:=hd (ba.o.trans bF);have bb:=hd (show RkA W5 {d with P:=X,np:=lx,cp:=cx} {r with p:=x}from{aR.o _ ba.o with hp:=⟨nP.o,ug.o,Nat.le_trans ug.o (by have h1:=wG.o;unfold maxLen at h1;omega),pM.o W5 (zA5.off bF fN)⟩});clear lC bF pM;refine hK _ _ (fun _=>trivial) ?_;clear hK K;refine Kp 13 0 (fun K hK=>?_);rw[if_pos Ke];go_simp;refine hK _ _ (fun _=>trivial) (zAl Ka ?_);clear hK K;go_wp2_with fail
 go_ret
 exact⟨_,rfl,bL.o,ba.o,rfl,rfl,rfl,fun _=>bb.o⟩
