import Derived.Test.YtmglnjmnabjjgaaGreatJIPath
import Derived.Deep.RegionHeld3
import Derived.Laws.AppendOwnNone
set_option maxRecDepth 100000
set_option maxHeartbeats 8000000
namespace Go.Proofs.YtmglnjmnabjjgaaGreat
open Go.RowKit
variable {P:Prop}{w w':World}{B b k:Nat}{v:Value}{l:List Pr}{A:Option Addr}
theorem zSk (x:Int)(w:World):Calls Tryz.prog 142 #[.int .i64 x] w fun e w'=>e=.returned (.bool false)/\w=w':=by
 go_enter Tryz.func142,Tryz.ntmps142
 go_wp2
 go_ret
 exact⟨kC Kc,rfl⟩
theorem zOo (x y:Int)(w:World):Calls Tryz.prog 121 #[.int .i64 x,.int .i64 y] w fun e w'=>e=.returned (.int .i64 (zQm x y))/\w=w':=by
 by_cases h1:x<y
 ·go_enter Tryz.func121,Tryz.ntmps121
  go_wp2_with(go_at_call 142;refine(zSk _ _).mono ?_;rintro e w' ⟨rfl,rfl⟩)
  go_ret
  exact⟨zAj (by unfold zQm;rw[if_pos h1]),rfl⟩
 ·by_cases h2:y<x
  ·go_enter Tryz.func121,Tryz.ntmps121
   go_wp2_with(go_at_call 142;refine(zSk _ _).mono ?_;rintro e w' ⟨rfl,rfl⟩)
   go_ret
   exact⟨zAj (by unfold zQm;rw[if_neg Kb,if_pos h2]),rfl⟩
  ·go_enter Tryz.func121,Tryz.ntmps121
   go_wp2_with(go_at_call 142;refine(zSk _ _).mono ?_;rintro e w' ⟨rfl,rfl⟩)
   go_ret
   exact⟨zAj (by unfold zQm;rw[if_neg Kb,if_neg Kb]),rfl⟩
theorem zYf (x y:Int)(w:World)(a n:Nat):Calls Tryz.prog 121 #[.int .i64 x,.int .i64 y] (w.drewN (a+n)) fun e w'=>e=.returned (.int .i64 (zQm x y))/\∃m,w'=w.drewN (a+m):=
 (zOo x y _).mono fun _ _⟨he,hw⟩=>⟨he,n,hw.symm⟩
theorem kQs (h:P:=by
 go_wp2_with(first
  |(go_at_call 51;refine HC.o.mono ?_;rintro e w' ⟨rfl,kd,rfl⟩)
  |(go_at_call 121;refine(zOo _ _ _).mono ?_;rintro e w' ⟨rfl,rfl⟩)
  |fail)
 go_ret
 exact kW (zF2 (by rw[HF.o])) Ki):P:=h
theorem zSl (A B:Option Addr)(l m:List Int)(c d:Nat)(w:World)(hl:l.length<=9223372036854775807)(hm:m.length<=9223372036854775807)(hp:IL w w.heap.size A l)(hq:IL w w.heap.size B m):
  Calls Tryz.prog 120 #[.slice A l.length c,.slice B m.length d] w (zHa (.int .i64 (zLv l m)) w):=by
 have HC:=hd (zH5 A B l m c d w hl hm hp hq);have hN:=zHf l m;have HI:=hd (zYi l m);have HO:=hd (zUe l m);obtain⟨K,hK⟩:∃K,K=kO l m:=⟨_,rfl⟩;rw[<-hK]at HC hN HI HO;clear hK;by_cases h1:K<l.length/\K<m.length
 ·obtain⟨h1,h2⟩:=h1;obtain⟨b1,o1,rfl,aY,c1⟩:=hp.at_ h1;obtain⟨b2,o2,rfl,hl2,c2⟩:=hq.at_ h2;have HF:=hd (HI.o h1 h2);clear hp hq HI HO hN;go_enter Tryz.func120,Tryz.ntmps120
  go_wp2_with(go_at_call 51;refine HC.o.mono ?_;rintro e w' ⟨rfl,kd,rfl⟩)
  go_quiet((go_at_call 121;exact zYf _ _ _ _ _))
  go_wp2
  go_ret
  exact kW (zF2 (by rw[HF.o])) Ki
 ·have HF:=hd (HO.o Kb);clear hp hq HI HO;by_cases h3:K<l.length
  ·have h4:decide (K<m.length)=false:=decide_eq_false Kb;clear hN h1;go_enter Tryz.func120,Tryz.ntmps120
   exact kQs
  ·have h4:decide (K<l.length)=false:=decide_eq_false Kb;clear hN h1 h3;go_enter Tryz.func120,Tryz.ntmps120
   exact kQs
def orL :List Int->Int
 |[]=>0
 |x::r=>if x=0 then orL r else x
theorem kE8 :∀(l:List Int)(n:Nat),n<l.length->(∀j,j<n->iAt l j=0)->iAt l n≠0->orL l=iAt l n
 |[],n,h,_,_=>by simp at h
 |x::r,0,_,_,h=>by
  have:x≠0:=by simpa[iAt]using h
  rw[orL,if_neg this];rfl
 |x::r,n+1,hn,h0,h=>by
  have hx:x=0:=by simpa[iAt]using h0 0 Kb
  rw[orL,if_pos hx];have:=kE8 r n (by simpa using hn) (fun j hj=>by simpa[iAt]using h0 (j+1) Kb) (by simpa[iAt]using h);rw[this];simp[iAt]
theorem zUc :∀(l:List Int),(∀j,j<l.length->iAt l j=0)->orL l=0
 |[],_=>rfl
 |x::r,h0=>by
  have hx:x=0:=by simpa[iAt]using h0 0 Kc
  rw[orL,if_pos hx];exact zUc r fun j hj=>by simpa[iAt]using h0 (j+1) (by simpa using hj)
theorem kGs (a b:List Int×Int):orL [zLv a.1 b.1,zQm a.2 b.2]=kFb a b:=by
 unfold kFb;rw[orL,orL,orL];split
 ·split
  ·rename_i h;exact h.symm
  ·rfl
 ·rfl
theorem kJp (A:Option Addr)(l:List Int)(n c:Nat)(w:World)(hn:l.length=n)(hl:n<=1000)(hp:IL w w.heap.size A l):
  Calls Tryz.prog 119 #[.slice A n c] w fun e w'=>e=.returned (.int .i64 (orL l))/\w'=w:=by
 have HP:=hd hp;have HN:=hd hn;clear hp hn;go_enter Tryz.func119,Tryz.ntmps119
 go_wp2
 go_loopw [8] (fun i wr=>∃k:Nat,k<=n/\i=.int .i64 k/\wr=w/\Kq (∀j,j<k->iAt l j=0)) (fun i _=>n-(intOf i).toNat)
 case atStart=>exact⟨0,Nat.zero_le _,rfl,by trivial,fun j hj=>absurd hj (Nat.not_lt_zero _)⟩
 case round=>
  obtain⟨k,hk,rfl,rfl,HA⟩:=hrel;by_cases hlt:k<n
  ·obtain⟨b,o,rfl,hbl,hc⟩:=HP.o.at_ (k:=k) (by rw[HN.o];exact hlt);by_cases hz:iAt l k=0
   ·have HB:=zBm (p:=fun j=>iAt l j=0) HA hz;have hx:(iAt l k !=0)=false:=by simp[hz]
    clear HA hz;go_wp2
    go_roundw
    case rel=>exact⟨k+1,by omega,by go_num,by trivial,HB⟩
    case measure=>simp[intOf];omega
   ·have HF:=hd (kE8 l k (by rw[HN.o];exact hlt) HA.o hz);have hx:(iAt l k !=0)=true:=by simp[hz]
    clear HA hz;go_wp2
    go_ret
    exact⟨zAj HF.o.symm,by trivial⟩
  ·have HF:=hd (zUc l fun j hj=>HA.o j (by rw[HN.o]at hj;omega));clear HA;go_wp2
   go_ret
   exact⟨zAj HF.o.symm,by trivial⟩
theorem kE9 (w:World)(a b c d:Value)(t t':TypeId):((w.alloc (.cells #[a,b] t)).alloc (.cells #[c,d] t')).cell? ⟨w.heap.size,0,none⟩=some a/\((w.alloc (.cells #[a,b] t)).alloc (.cells #[c,d] t')).cell? ⟨w.heap.size,1,none⟩=some b/\
  ((w.alloc (.cells #[a,b] t)).alloc (.cells #[c,d] t')).cell? ⟨w.heap.size+1,0,none⟩=some c/\((w.alloc (.cells #[a,b] t)).alloc (.cells #[c,d] t')).cell? ⟨w.heap.size+1,1,none⟩=some d:=by
 have h1:=(Below.refl (w.alloc (.cells #[a,b] t)).heap.size (w.alloc (.cells #[a,b] t))).alloc Kl (.cells #[c,d] t');refine⟨(h1.cell Kc).trans ?_,(h1.cell Kc).trans ?_,?_,?_⟩
 ·rw[World.cell?_alloc_at _ _ _ _ rfl];rfl
 ·rw[World.cell?_alloc_at _ _ _ _ rfl];rfl
 ·rw[World.cell?_alloc_at _ _ _ _ Kc];rfl
 ·rw[World.cell?_alloc_at _ _ _ _ Kc];rfl
theorem kJq {x y:Int}(hb:b<w.heap.size)(hx:w.cell? ⟨b,0,none⟩=some (.int .i64 x))(hy:w.cell? ⟨b,1,none⟩=some (.int .i64 y)):IL w w.heap.size (some ⟨b,0,none⟩) [x,y]:=fun _=>
 ⟨b,0,rfl,hb,fun k hk=>by
  match k,hk with
  |0,_=>exact hx
  |1,_=>exact hy⟩
theorem zKy (A B:Option Addr)(p q:List Int×Int)(n m c d:Nat)(w:World)(hn:p.1.length=n)(hm:q.1.length=m)(hl:n<=9223372036854775807)(hl2:m<=9223372036854775807)(hp:IL w w.heap.size A p.1)(hq:IL w w.heap.size B q.1):
  Calls Tryz.prog 92 #[.agg #[.slice A n c,.int .i64 p.2],.agg #[.slice B m d,.int .i64 q.2]] w (jA (.int .i64 (kFb p q)) w):=by
 subst hn hm;have HE:=hd (kGs p q);obtain⟨x,hx⟩:∃x,x=zLv p.1 q.1:=⟨_,rfl⟩;obtain⟨y,hy⟩:∃y,y=zQm p.2 q.2:=⟨_,rfl⟩;rw[<-hx,<-hy]at HE;have HC:=hd (fun(W:World)(h:Below w.heap.size w W)=>hx▸zSl A B p.1 q.1 c d W hl hl2 (hp.later h) (hq.later h));have HI:=hd (fun(W:World)=>hy▸zOo p.2 q.2 W);have HO:=hd (fun(W:World)(g:Nat)(h1:g<W.heap.size)(h2:W.cell? ⟨g,0,none⟩=some (.int .i64 x))(h3:W.cell? ⟨g,1,none⟩=some (.int .i64 y))=>HE.o▸kJp _ [x,y] 2 2 W rfl Kb (kJq h1 h2 h3));clear hp hq hx hy;obtain⟨W0,hW⟩:∃W0,W0=(w.alloc (.cells #[.slice A p.1.length c,.int .i64 p.2] 29)).alloc (.cells #[.slice B q.1.length d,.int .i64 q.2] 29):=⟨_,rfl⟩;have hz:W0.heap.size=w.heap.size+2:=by rw[hW];simp
 have hb0:Below w.heap.size w W0:=hW▸((Below.refl w.heap.size w).alloc Kl _).alloc Kc _;have e0:W0.cell? ⟨w.heap.size,0,none⟩=some (.slice A p.1.length c)/\W0.cell? ⟨w.heap.size,1,none⟩=some (.int .i64 p.2)/\W0.cell? ⟨w.heap.size+1,0,none⟩=some (.slice B q.1.length d)/\W0.cell? ⟨w.heap.size+1,1,none⟩=some (.int .i64 q.2):=hW▸kE9 w _ _ _ _ _ _;have eG:=hd (show∀W,Below W0.heap.size W0 W->(Below W0.heap.size W0 W/\W.cell? ⟨w.heap.size,0,none⟩=some (.slice A p.1.length c)/\W.cell? ⟨w.heap.size,1,none⟩=some (.int .i64 p.2)/\W.cell? ⟨w.heap.size+1,0,none⟩=some (.slice B q.1.length d)/\W.cell? ⟨w.heap.size+1,1,none⟩=some (.int .i64 q.2))from fun W h=>
  ⟨h,(h.cell (show w.heap.size<_ by omega)).trans e0.1,(h.cell (show w.heap.size<_ by omega)).trans e0.2.1,(h.cell (show w.heap.size+1<_ by omega)).trans e0.2.2.1,(h.cell (show w.heap.size+1<_ by omega)).trans e0.2.2.2⟩)
 have ar:=hd hb0;have HZ:=hd hz;have HW:=hd hW;clear hW e0 hz hb0;go_enter Tryz.func92,Tryz.ntmps92
 go_wp2
 rw[<-HW.o];have gG:=hd (eG.o W0.drew Kk.drew);go_region_held3(fun W=>Below W0.heap.size W0 W/\W.cell? ⟨w.heap.size,0,none⟩=some (.slice A p.1.length c)/\W.cell? ⟨w.heap.size,1,none⟩=some (.int .i64 p.2)/\W.cell? ⟨w.heap.size+1,0,none⟩=some (.slice B q.1.length d)/\W.cell? ⟨w.heap.size+1,1,none⟩=some (.int .i64 q.2))
  (first
   |(with_reducible exact l7.o)
   |(with_reducible exact l8.o)
   |(with_reducible exact yZ.o)
   |(with_reducible exact gG.o))
  (first
   |(go_at_call 119;refine(HO.o _ _ (by show w1.heap.size<_;simp) (by rw[World.cell?_alloc_at _ _ _ _ rfl];rfl) (by rw[World.cell?_alloc_at _ _ _ _ rfl];rfl)).mono ?_;rintro e w3 ⟨rfl,rfl⟩)
   |(go_at_call 121;refine(HI.o _).mono ?_;rintro e w2 ⟨rfl,rfl⟩;have l7:=hd (eG.o (w1.alloc (.cells #[.int .i64 x,.int .i64 y] 3)) (nN.o.alloc nN.o.size _)))
   |(go_at_call 120;refine(HC.o _ (ar.o.trans (Kk.drew.mono ar.o.size))).mono ?_;rintro e w1 ⟨rfl,k,e1⟩;have nN:=hd (show Below W0.heap.size W0 w1 from e1▸zZ (Below.refl W0.heap.size W0).drew k);have l8:=hd (eG.o _ nN.o);clear e1))
 go_wp2
 go_ret
 exact⟨rfl,ar.o.trans ((nN.o.alloc nN.o.size _).mono ar.o.size)⟩
theorem zNu (a b c d:Value)(t t':TypeId):∃W0,(w.alloc (.cells #[a,b] t)).alloc (.cells #[c,d] t')=W0/\Below w.heap.size w W0/\W0.heap.size=w.heap.size+2/\
  ∀W,Below W0.heap.size W0 W->(Below W0.heap.size W0 W/\W.cell? ⟨w.heap.size,0,none⟩=some a/\W.cell? ⟨w.heap.size,1,none⟩=some b/\W.cell? ⟨w.heap.size+1,0,none⟩=some c/\W.cell? ⟨w.heap.size+1,1,none⟩=some d):=by
 refine⟨_,rfl,((Below.refl w.heap.size w).alloc Kl _).alloc Kc _,by simp,fun W h=>?_⟩;have e0:=kE9 w a b c d t t';exact⟨h,(h.cell Kf).trans e0.1,(h.cell Kf).trans e0.2.1,(h.cell Kc).trans e0.2.2.1,(h.cell Kc).trans e0.2.2.2⟩
theorem zQj (A B:Option Addr)(p q:List Int×Int)(n m c d:Nat)(w:World)(hn:p.1.length=n)(hm:q.1.length=m)(hl:n<=9223372036854775807)(hl2:m<=9223372036854775807)(hp:IL w w.heap.size A p.1)(hq:IL w w.heap.size B q.1):
  Calls Tryz.prog 63 #[.agg #[.slice A n c,.int .i64 p.2],.agg #[.slice B m d,.int .i64 q.2]] w (jA (.bool (samP p q)) w):=by
 have HE:=hd (kGt p q);have HC:=hd (fun(W:World)(h:Below w.heap.size w W)=>zKy A B p q n m c d W hn hm hl hl2 (hp.later h) (hq.later h));obtain⟨W0,hW,hb0,hz,hk⟩:=zNu (w:=w) (.slice A n c) (.int .i64 p.2) (.slice B m d) (.int .i64 q.2) 29 29;have HW:=hd hW;have ar:=hd hb0;have e0:=hk W0 Kk;obtain⟨_,x0,x1,y0,y1⟩:=e0;clear hp hq hn hm hW hb0 hz hk;go_enter Tryz.func63,Tryz.ntmps63
 go_wp2_with(go_at_call 92;rw[HW.o];refine(HC.o _ ar.o).mono ?_;rintro e w1 ⟨rfl,b1⟩)
 go_ret
 exact⟨kC (by rw[HE.o];rfl),ar.o.trans (b1.mono ar.o.size)⟩
theorem zVw (A B:Option Addr)(p q:List Int×Int)(n m c d:Nat)(w:World)(hn:p.1.length=n)(hm:q.1.length=m)(hl:n<=9223372036854775807)(hl2:m<=9223372036854775807)(hp:IL w w.heap.size A p.1)(hq:IL w w.heap.size B q.1):
  Calls Tryz.prog 38 #[.agg #[.slice A n c,.int .i64 p.2],.agg #[.slice B m d,.int .i64 q.2]] w (jA (.bool (samP p q)) w):=by
 subst hn hm;obtain⟨x,hx⟩:∃x,x=zEd p.1 q.1:=⟨_,rfl⟩;have HC:=hd (fun(W:World)(h:Below w.heap.size w W)=>hx▸zVv A B p.1 q.1 c d W hl hl2 (hp.later h) (hq.later h));obtain⟨W0,hW,hb0,hz,hk⟩:=zNu (w:=w) (.slice A p.1.length c) (.int .i64 p.2) (.slice B q.1.length d) (.int .i64 q.2) 29 29;have HW:=hd hW;have ar:=hd hb0;obtain⟨_,x0,x1,y0,y1⟩:=hk W0 Kk;by_cases h0:p.2=q.2
 ·have HF:=hd (show samP p q=x by
   rw[hx];unfold samP zEd;rw[decide_eq_decide];exact⟨fun h=>by rw[h],fun h=>Prod.ext h h0⟩)
  have g0:(p.2==q.2)=true:=by simp[h0]
  clear hp hq hx hW hb0 hz hk h0;go_enter Tryz.func38,Tryz.ntmps38
  go_wp2_with(go_at_call 37;rw[HW.o];refine(HC.o _ ar.o).mono ?_;rintro e w1 ⟨rfl,k,e1⟩;have aA:=hd (show Below W0.heap.size W0 w1 from e1▸zZ (Below.refl W0.heap.size W0) k);clear e1)
  go_ret
  exact⟨kC HF.o.symm,ar.o.trans (aA.o.mono ar.o.size)⟩
 ·have HF:=hd (show samP p q=false by unfold samP;rw[decide_eq_false_iff_not];intro h;exact h0 (by rw[h]));have g0:(p.2==q.2)=false:=by simp[h0]
  clear hp hq hx hW hz hk h0;go_enter Tryz.func38,Tryz.ntmps38
  go_wp2
  go_ret
  exact⟨kC HF.o.symm,by rw[HW.o];exact ar.o⟩
open Go.WideShapes (add_plain)
theorem zSm :(Tryz.prog.info? 3).map (fun i=>(i.zero,i.size,i.bytes))=some (some (.int .i64 0),1,8):=Ka
theorem zCf (W:World){ops:Array Oper}{rest:List Oper}{o:Oper}{a:Act}{Q:Exit->Act->World->Prop}(hgd:o.guard=none)(s x:Operand)
  (ho:o.op=.call {callee:=.builtin .append,args:=#[s,x],argTypes:=#[27,27]})
  (b:Nat) (v:Value) (k l:List Int) (hs:a.eval s=v) (hO:zBt W b v k) (A:Option Addr) (n c B:Nat) (hx:a.eval x=.slice A n c) (hn:l.length=n) (hp:IL W B A l) (hlen:k.length+l.length<=10000) (hb:b<=W.heap.size)
  (hK:∀v' w',zBt w' b v' (k++l)->kBq b v W w'->wpList Tryz.prog ops Q rest (a.put o.dst v') w'):
  wpList Tryz.prog ops Q (o::rest) a W:=by
 subst hn;obtain⟨i0,hi,hz0,hz1,hz2⟩:=info_parts zSm;rcases A with _|ad
 ·have hl:l=[]:=by
   rcases Classical.em (l=[])with h|h
   ·exact h
   ·obtain⟨_,_,h,_⟩:=hp h;cases h
  subst hl;refine zDh hgd s x 27 ho b 3 i0 1 Tryz.underlying27 hi v k.length (k.map (Value.int .i64)) hs hO.own c hx ?_;exact hK v W (by rw[List.append_nil];exact hO) (kBq.refl _ _ _)
 ·have hc:∀j u,(l.map (Value.int .i64))[j]? =some u->W.cell? (ad.add j)=some u:=by
   intro j u hj;have hjl:j<l.length:=by have:=(List.getElem?_eq_some_iff.1 hj).1;simpa using this
   obtain⟨b',o',e,_,h⟩:=hp (by rintro rfl;simp at hjl);injection e with e;subst e;rw[add_plain,h j hjl,<-hj];simp[jY l j hjl,hjl]
  refine wpList_append_own _ hgd s x 27 ho b 3 i0 _ 1 8 Tryz.underlying27 hi hz0 hz1 hz2 rfl Kd v k.length (k.map (Value.int .i64)) hs hO.own ad l.length c (l.map (Value.int .i64)) hx Kc hc (by simp[Value.oneCell'])
   Kg Kb hb (fun v' w' h1 h2 _=>hK v' w' (zBt.of_own (n:=k.length+l.length) (by rw[List.map_append];exact h1) Kc) ?_)
  exact⟨h2.size,fun B w0 hB qX hb0=>hb0.grown h2 qX (fun j hj=>Nat.le_trans hB (hO.lt hj).1),fun p hp hne=>World.cell?_of_block (h2.block p.block hp hne)⟩
def zVq (w:World)(l:List Int)(e:Ending)(w':World):Prop:=∃v,e=.returned v/\zBt w' w.heap.size v l/\Below w.heap.size w w'
def zOp (w:World)(r:List Int×Int)(e:Ending)(w':World):Prop:=∃v,e=.returned (.tuple #[v,.int .i64 r.2])/\zBt w' w.heap.size v r.1/\Below w.heap.size w w'
theorem zVr (n:Nat)(hn:n<=10000)(w:World):(Instr.makeSlice 27 (.int .i64 0) (.int .i64 (n:Int))).run Tryz.prog w=.ok (.slice (some ⟨w.heap.size,0,none⟩) 0 n) (w.alloc (.cells (madeCells #[.int .i64 0] n) 3)):=by
 obtain⟨i0,hi,hz0,hz1,hz2⟩:=info_parts zSm;have h:=run_makeSlice (P:=Tryz.prog) w 27 3 i0 _ Tryz.underlying27 hi hz0 .i64 .i64 0 (n:Int) Kb Kb (by rw[hz1];simp;omega) (by rw[hz2];omega) Kb;rw[h,hz1];simp[Value.cells]
theorem zBt.made (w:World)(b n:Nat)(hn:n<=10000)(hb:b<=w.heap.size):zBt (w.alloc (.cells (madeCells #[.int .i64 0] n) 3)) b (.slice (some ⟨w.heap.size,0,none⟩) 0 n) []:=
 zBt.of_own (World.ownsRow_made w _ n hb Kg (by rw[size_madeCells];omega)) rfl
theorem zNv (A:Option Addr)(l:List Int)(n c:Nat)(w:World)(hn:l.length=n)(hl:n<=1000)(hp:IL w w.heap.size A l):
  Calls Tryz.prog 88 #[.slice A n c] w (zVq w l):=by
 have HP:=hd hp;have HN:=hd hn;have hmk:=fun W=>zVr n Kb W;clear hp hn;go_enter Tryz.func88,Tryz.ntmps88
 go_wp2_with(at_builtin;refine zCf _ rfl (.tmp 5) (.tmp 6) rfl w.heap.size (.slice (some ⟨w.heap.size,0,none⟩) 0 n) [] l rfl (zBt.made _ _ _ Kb Kl) A n c w.heap.size rfl HN.o (HP.o.below (Kk.alloc Kl _)) (by have:=HN.o;simp;omega) Kc ?_;intro v' w1 aB hg1)
 go_ret
 exact⟨v',rfl,by simpa using aB,hg1.below _ _ Kl Kc (Kk.alloc Kl _)⟩
theorem zBt.form {l:List Int}(h:zBt w b v l)(hl:0<l.length):∃g c,v=.slice (some ⟨g,0,none⟩) l.length c/\l.length<=c/\c<=maxLen/\b<=g/\g<w.heap.size/\
  (∀k,k<l.length->w.cell? ⟨g,k,none⟩=some (.int .i64 (iAt l k)))/\(∀k,w.frozen? ⟨g,k,none⟩=false)/\∀k u,zBt (w.setCell ⟨g,k,none⟩ (.int .i64 u)) b v (l.set k u):=by
 obtain⟨A,c,rfl,h1,h2,h3⟩:=h;obtain⟨g,cap,hv,hbg,hlt⟩:=h3.form hl;injection hv with hA _ hcap;subst hA hcap;refine⟨g,c,rfl,h1,h2,hbg,hlt,fun k hk=>?_,fun k=>h3.frozenAt k,fun k u=>?_⟩
 ·rw[h3.cellAt k Kb];simp[jY l k hk,hk]
 ·refine zBt.of_own (n:=l.length) ?_ Kc;have:=(h3.stored k (.int .i64 u)).1;rwa[<-List.map_set]at this
theorem zEb {r:List Int×Int}{l:List Int}{e:Int}(h:r=(l,e))(ho:zBt w' w.heap.size v l)(hb:Below w.heap.size w w'):zOp w r (.returned (.tuple #[v,.int .i64 e])) w':=by
 subst h;exact⟨v,rfl,ho,hb⟩
theorem zQk (l:List Int)(k:Nat)(h:l.length=k+1)(v:Int):sib l v=l.set k v:=by unfold sib;rw[h];rfl
theorem zSn (l:List Int)(k:Nat)(h:l.length=k+1):lastL l=iAt l k:=by unfold lastL;rw[h];rfl
theorem zNw (A:Option Addr)(l:List Int)(k c:Nat)(v:Int)(w:World)(hn:l.length=k+1)(hl:k<1000)(hp:IL w w.heap.size A l):
  Calls Tryz.prog 52 #[.slice A (k+1) c,.int .i64 v] w (zVq w (sib l v)):=by
 have HC:=hd (zNv A l (k+1) c w hn Kb hp);have HN:=hd hn;clear hn hp;go_enter Tryz.func52,Tryz.ntmps52
 go_wp2_with fail
 refine HC.o.mono ?_;rintro e w1 ⟨v1,rfl,ho,hb⟩;obtain⟨g,c1,rfl,h1,h2,h3,h4,h5,h6,h7⟩:=ho.form (by have:=HN.o;omega);have hc:=h5 k (by have:=HN.o;omega);have hf:=h6 k;have H7:=hd (h7 k v);rw[HN.o]at h1 H7;rw[HN.o];clear ho h5 h6 h7;go_wp2
 go_ret
 exact⟨_,rfl,by rw[zQk l k HN.o];exact H7.o,hb.setCell h3 _⟩
theorem zNx (A:Option Addr)(l:List Int)(n c:Nat)(w:World)(hn:l.length=n)(hl:n<=1000)(hc:n<=c)(hp:IL w w.heap.size A l):
  Calls Tryz.prog 105 #[.slice A n c] w (zOp w (zGq l)):=by
 rcases n with _|k
 ·have HF:=hd (show zGq l=([],6) by unfold zGq;rw[if_pos hn]);clear hn hp;go_enter Tryz.func105,Tryz.ntmps105
  go_wp2
  go_ret2
  exact zEb HF.o (zBt.nil _ _) Kk
 ·have HF:=hd (show zGq l=(l.take k,0) by unfold zGq;rw[if_neg Kb,hn];rfl);have HC:=hd (zNv A (l.take k) k c w Kf Kb (hp.take k));clear hn hp;go_enter Tryz.func105,Tryz.ntmps105
  go_wp2_with fail
  refine HC.o.mono ?_;rintro e w1 ⟨v1,rfl,ho,hb⟩;go_wp2
  go_ret2
  exact zEb HF.o ho hb
theorem zOq (A:Option Addr)(l:List Int)(n c:Nat)(w:World)(hn:l.length=n)(hl:n<=1000)(hW:∀k,k<l.length->iAt l k<=9223372036854775807/\ -9223372036854775808<=iAt l k)(hp:IL w w.heap.size A l):
  Calls Tryz.prog 86 #[.slice A n c] w (zOp w (zBg l)):=by
 rcases n with _|k
 ·have HF:=hd (show zBg l=([],6) by unfold zBg;rw[if_pos hn]);clear hn hp hW;go_enter Tryz.func86,Tryz.ntmps86
  go_wp2
  go_ret2
  exact zEb HF.o (zBt.nil _ _) Kk
 ·have hL:=zSn l k hn;have hw:=hW k Kb;obtain⟨b,o,rfl,hb0,hc⟩:=hp.at_ (show k<l.length by omega);have HC:=hd (fun v=>zNw (some ⟨b,o,none⟩) l k c v w hn Kb hp);by_cases hm:iAt l k=9223372036854775807
  ·have HF:=hd (show zBg l=([],8) by unfold zBg;rw[if_neg Kb,if_pos Kb]);have h1:(iAt l k==9223372036854775807)=true:=by simp[hm]
   clear hn hp hW hL hm;go_enter Tryz.func86,Tryz.ntmps86
   go_wp2
   go_ret2
   exact zEb HF.o (zBt.nil _ _) Kk
  ·have HF:=hd (show zBg l=(sib l (iAt l k+1),0) by unfold zBg;rw[if_neg Kb,hL,if_neg hm]);have h1:(iAt l k==9223372036854775807)=false:=by simp[hm]
   have h2:iAt l k+1<=9223372036854775807:=Kb;clear hn hp hW hL hm;go_enter Tryz.func86,Tryz.ntmps86
   go_wp2_with fail
   refine(HC.o _).mono ?_;rintro e w1 ⟨v1,rfl,ho,hb⟩;go_wp2
   go_ret2
   exact zEb HF.o ho hb
theorem zUd (A:Option Addr)(l:List Int)(n c:Nat)(w:World)(hn:l.length=n)(hl:n<=1000)(hW:∀k,k<l.length->iAt l k<=9223372036854775807/\ -9223372036854775808<=iAt l k)(hp:IL w w.heap.size A l):
  Calls Tryz.prog 24 #[.slice A n c] w (zOp w (jV l)):=by
 rcases n with _|k
 ·have HF:=hd (show jV l=([],6) by unfold jV;rw[if_pos hn]);clear hn hp hW;go_enter Tryz.func24,Tryz.ntmps24
  go_wp2
  go_ret2
  exact zEb HF.o (zBt.nil _ _) Kk
 ·have hL:=zSn l k hn;have hw:=hW k Kb;obtain⟨b,o,rfl,hb0,hc⟩:=hp.at_ (show k<l.length by omega);have HC:=hd (fun v=>zNw (some ⟨b,o,none⟩) l k c v w hn Kb hp);by_cases hm:iAt l k<=0
  ·have HF:=hd (show jV l=([],8) by unfold jV;rw[if_neg Kb,if_pos Kb]);clear hn hp hW hL;go_enter Tryz.func24,Tryz.ntmps24
   go_wp2
   go_ret2
   exact zEb HF.o (zBt.nil _ _) Kk
  ·have HF:=hd (show jV l=(sib l (iAt l k-1),0) by unfold jV;rw[if_neg Kb,hL,if_neg hm]);clear hn hp hW hL;go_enter Tryz.func24,Tryz.ntmps24
   go_wp2_with fail
   refine(HC.o _).mono ?_;rintro e w1 ⟨v1,rfl,ho,hb⟩;go_wp2
   go_ret2
   exact zEb HF.o ho hb
def PL (w:World)(B:Nat)(A:Option Addr)(l:List Pr):Prop:=
 l≠[]->∃b o,A=some ⟨b,o,none⟩/\b<B/\∀k,k<l.length->w.cell? ⟨b,o+k*2,none⟩=some (.string (jU l k).1)/\w.cell? ⟨b,o+k*2+1,none⟩=some (.string (jU l k).2)
theorem PL.keep (h:PL w B A l)(hk:∀p:Addr,p.block<B->w'.cell? p=w.cell? p):PL w' B A l:=fun hn=>by
 obtain⟨b,o,e,hb,hc⟩:=h hn;exact⟨b,o,e,hb,fun k hkl=>⟨(hk _ hb).trans (hc k hkl).1,(hk _ hb).trans (hc k hkl).2⟩⟩
theorem PL.below (h:PL w B A l)(hb:Below B w w'):PL w' B A l:=h.keep fun _ hp=>hb.cell hp
theorem PL.more {B':Nat}(h:PL w B A l)(hB:B<=B'):PL w B' A l:=fun hn=>by
 obtain⟨b,o,e,hb,hc⟩:=h hn;exact⟨b,o,e,by omega,hc⟩
theorem PL.at_ (h:PL w B A l)(hk:k<l.length):∃b o,A=some ⟨b,o,none⟩/\b<B/\w.cell? ⟨b,o+k*2,none⟩=some (.string (jU l k).1)/\w.cell? ⟨b,o+k*2+1,none⟩=some (.string (jU l k).2):=by
 obtain⟨b,o,e,hb,hc⟩:=h (by intro e;subst e;simp at hk);exact⟨b,o,e,hb,(hc k hk).1,(hc k hk).2⟩
theorem PL.nil (w:World)(B:Nat)(A:Option Addr):PL w B A []:=fun h=>absurd rfl h
theorem zB7 (l:List Pr)(k:Nat)(hk:k<l.length):jU l k=l[k]:=by
 unfold jU;rw[List.getD_eq_getElem?_getD,List.getElem?_eq_getElem hk];rfl
def zIo (l:List Pr):Prop:=l.length<=9223372036854775807/\∀p ∈ l,p.1.size<=9223372036854775807/\p.2.size<=9223372036854775807
theorem zIo.at_ (h:zIo l)(hk:k<l.length):(jU l k).1.size<=9223372036854775807/\(jU l k).2.size<=9223372036854775807:=by
 rw[zB7 l k hk];exact h.2 _ (List.getElem_mem hk)
theorem zYg (s:ByteArray)(b:Bool)(h:zVt s=b)(w:World)(hs:s.size<=9223372036854775807):Calls Tryz.prog 125 #[.string s] w fun e w'=>e=.returned (.bool b)/\w=w':=h▸kGv s w hs
theorem kFa (s:ByteArray)(b:Bool)(h:zXo s=b)(w:World)(hs:s.size<=9223372036854775807):Calls Tryz.prog 126 #[.string s] w fun e w'=>e=.returned (.bool b)/\w=w':=h▸kGw s w hs
theorem kQt (h:P:=by
 clear hk hv HA hp hF;go_wp2_with(first|(go_at_call 125;refine(hC _).o.mono ?_;rintro e w' ⟨rfl,rfl⟩)|(go_at_call 126;refine(hD _).o.mono ?_;rintro e w' ⟨rfl,rfl⟩))
 go_quiet(fail)
 go_wp2
 go_roundw
 case rel=>exact⟨n+1,by omega,by go_num,zZ (hb.alloc hb.size _) _,HB⟩
 case measure=>simp[intOf];omega):P:=h
theorem zKb (A:Option Addr)(l:List Pr)(c:Nat)(w:World)(hF:zIo l)(hp:PL w w.heap.size A l):
  Calls Tryz.prog 100 #[.slice A l.length c] w fun e w'=>e=.returned (.int .i64 (chk l))/\Below w.heap.size w w':=by
 have qY:=hF.1;by_cases j6:(16:Int)<(l.length:Int)
 ·go_enter Tryz.func100,Tryz.ntmps100
  go_wp2
  go_ret
  exact⟨zAj (by unfold chk;rw[if_pos Kb]),Below.refl _ _⟩
 ·have hK:Kq (chk l=zN0 l):=hd (by unfold chk;rw[if_neg Kb]);go_enter Tryz.func100,Tryz.ntmps100
  go_wp2
  go_loopw [10] (fun i wr=>∃n:Nat,n<=l.length/\i=.int .i64 n/\Below w.heap.size w wr/\Kq (∀j,j<n->zEt l j=0)) (fun i _=>l.length-(intOf i).toNat)
  case atStart=>exact⟨0,Nat.zero_le _,rfl,Below.refl _ _,fun j hj=>absurd hj (Nat.not_lt_zero _)⟩
  case round=>
   obtain⟨n,hn,rfl,hb,HA⟩:=hrel;by_cases hlt:n<l.length
   ·obtain⟨b,o,rfl,hlb,c1,c2⟩:=(hp.below hb).at_ hlt;obtain⟨s1,s2⟩:=hF.at_ hlt;have hbs:=Nat.lt_of_lt_of_le hlb hb.size;cases hk:zVt (jU l n).1
    ·have HS:=hd (zI9 l n hlt HA.o (by unfold zEt;rw[hk];simp));have HV:=hd (show zEt l n=3 by unfold zEt;rw[hk];rfl);have hC:=fun W=>hd (zYg (jU l n).1 _ hk W Kb);clear hk HA hp hF;go_wp2_with(go_at_call 125;refine(hC _).o.mono ?_;rintro e w' ⟨rfl,rfl⟩)
     go_ret
     exact⟨zAj (by rw[hK.o,HS.o,HV.o]),hb.alloc hb.size _⟩
    ·cases hv:zXo (jU l n).2
     ·have HS:=hd (zI9 l n hlt HA.o (by unfold zEt;rw[hk,hv];simp));have HV:=hd (show zEt l n=3 by unfold zEt;rw[hk,hv];rfl);have hC:=fun W=>hd (zYg (jU l n).1 _ hk W Kb);have hD:=fun W=>hd (kFa (jU l n).2 _ hv W Kb);clear hk hv HA hp hF;go_wp2_with(first|(go_at_call 125;refine(hC _).o.mono ?_;rintro e w' ⟨rfl,rfl⟩)|(go_at_call 126;refine(hD _).o.mono ?_;rintro e w' ⟨rfl,rfl⟩))
      go_ret
      exact⟨zAj (by rw[hK.o,HS.o,HV.o]),hb.alloc hb.size _⟩
     ·have hC:=fun W=>hd (zYg (jU l n).1 _ hk W Kb);have hD:=fun W=>hd (kFa (jU l n).2 _ hv W Kb);by_cases h0:0<n
      ·obtain⟨b',o',e',qZ,d1,d2⟩:=(hp.below hb).at_ (show n-1<l.length by omega);obtain⟨rfl,rfl⟩:b=b'/\o=o':=by simpa using e'
       clear e' d2 qZ;have ra:(0:Int)<(n:Int):=Kb;cases hle:(Op.bytesLess (jU l n).1.toList (jU l (n-1)).1.toList||(jU l n).1.toList==(jU l (n-1)).1.toList)
       ·have HB:=zBm (p:=fun j=>zEt l j=0) HA (by unfold zEt leB;rw[hk,hv,hle];simp);exact kQt
       ·have HV:=hd (show zEt l n=1 by unfold zEt leB;rw[hk,hv,hle];simp[h0]);have HS:=hd (zI9 l n hlt HA.o (by rw[HV.o];decide));clear hk hv HA hp hF;go_wp2_with(first|(go_at_call 125;refine(hC _).o.mono ?_;rintro e w' ⟨rfl,rfl⟩)|(go_at_call 126;refine(hD _).o.mono ?_;rintro e w' ⟨rfl,rfl⟩))
        go_quiet(fail)
        go_wp2
        go_ret
        exact⟨zAj (by rw[hK.o,HS.o,HV.o]),zZ (hb.alloc hb.size _) _⟩
      ·have ra:decide ((0:Int)<(n:Int))=false:=zQr Kb;have HB:=zBm (p:=fun j=>zEt l j=0) HA (by unfold zEt;rw[hk,hv,zQr h0];simp);exact kQt
   ·have HF:=hd (zLz l (fun j hj=>HA.o j Kb));clear HA hp hF;go_wp2
    go_ret
    exact⟨zAj (by rw[hK.o,HF.o]),hb⟩
def zJr (x y:Pr):Bool:=x.1.toList==y.1.toList&&x.2.toList==y.2.toList
theorem toList_inj {a b:ByteArray}(h:a.toList=b.toList):a=b:=by
 rw[ByteArray.toList_eq,ByteArray.toList_eq]at h;exact ByteArray.ext (Array.toList_inj.1 h)
theorem zIa (x y:Pr):zJr x y=true ↔ x=y:=by
 unfold zJr;constructor
 ·intro h;simp only[Bool.and_eq_true,beq_iff_eq]at h;exact Prod.ext (toList_inj h.1) (toList_inj h.2)
 ·rintro rfl;simp
theorem kDl :Tryz.prog.underlying 103=some (.struct (Tryz.prog.fieldsOf 103)):=Ka
theorem kHk :Tryz.prog.stoodInHeld 103=false:=Ka
theorem zZw :Tryz.prog.eqGuardType Tryz.prog.depth 103=false:=Ka
theorem kHl (a b c d:ByteArray)(w:World):(Op.equalIn 10000 103 (.agg #[.string a,.string b]) (.agg #[.string c,.string d])).run Tryz.prog w=.ok (a.toList==c.toList&&b.toList==d.toList) w:=by
 have u9:=Tryz.underlying9;have a9:=Tryz.isAgg9;have z9:=Tryz.sizeOf9;rw[show(10000:Nat)=9999+1 from rfl,run_equalIn_agg w 9999 103 _ _ kDl kHk];simp only[Program.fieldsOf,Tryz.underlying103];go_simp;by_cases h1:a.toList=c.toList<;>by_cases h2:b.toList=d.toList<;>simp[h1,h2]
theorem kKm (a b c d:ByteArray)(w:World):(binOp .neq 103 (.agg #[.string a,.string b]) (.agg #[.string c,.string d])).run Tryz.prog w=.ok (.bool (!(a.toList==c.toList&&b.toList==d.toList))) w:=by
 rw[run_neq_struct,kHl];rfl
theorem zZx (l m:List Pr)(h:l.length=m.length)(h0:∀j,j<l.length->zJr (jU l j) (jU m j)=true):decide (l=m)=true:=by
 rw[decide_eq_true_iff];apply List.ext_getElem h;intro i h1 h2;have:=(zIa _ _).1 (h0 i h1);rwa[zB7 l i h1,zB7 m i h2]at this
theorem zUv (l m:List Pr)(n:Nat)(_h1:n<l.length)(h2:n<m.length)(h:zJr (jU l n) (jU m n)=false):decide (l=m)=false:=by
 rw[decide_eq_false_iff_not];rintro rfl;rw[(zIa _ _).2 rfl]at h;cases h
theorem kQu (h:P:=by
 go_wp2
 go_loopw [13] (fun i wr=>∃n:Nat,n<=l.length/\i=.int .i64 n/\Below w.heap.size w wr/\Kq (∀j,j<n->zJr (jU l j) (jU m j)=true)) (fun i _=>l.length-(intOf i).toNat)
 case atStart=>exact⟨0,Nat.zero_le _,rfl,Below.refl _ _,fun j hj=>absurd hj (Nat.not_lt_zero _)⟩
 case round=>
  obtain⟨n,hn,rfl,hb,HA⟩:=hrel;by_cases hlt:n<l.length
  ·have nO:n<m.length:=by have:=HL.o;omega
   obtain⟨b1,o1,rfl,aY,c1,c2⟩:=(hp.below hb).at_ hlt;obtain⟨b2,o2,rfl,hl2,d1,d2⟩:=(hq.below hb).at_ nO;have hne:=fun W=>kKm (jU l n).1 (jU l n).2 (jU m n).1 (jU m n).2 W;have hgd:=fun(x y:Operand)(op:BinOp)(W:World)=>run_eqGuard_agg (P:=Tryz.prog) W op 103 x y #[.string (jU l n).1,.string (jU l n).2] #[.string (jU m n).1,.string (jU m n).2] zZw;clear hp hq;cases hs:((jU l n).1.toList==(jU m n).1.toList&&(jU l n).2.toList==(jU m n).2.toList)
   ·have HF:=hd (zUv l m n hlt nO hs);clear HA;simp only[hs]at hne;clear hs;go_wp2_with fail
    go_quiet(fail)
    go_wp2
    go_ret
    exact⟨kC HF.o.symm,zZ hb _⟩
   ·have HB:=zBm (p:=fun j=>zJr (jU l j) (jU m j)=true) HA hs;clear HA;simp only[hs]at hne;clear hs;go_wp2_with fail
    go_quiet(fail)
    go_wp2
    go_roundw
    case rel=>exact⟨n+1,by omega,by go_num,zZ hb _,HB⟩
    case measure=>simp[intOf];omega
  ·have HF:=hd (zZx l m HL.o (fun j hj=>HA.o j Kb));clear HA hp hq;go_wp2
   go_ret
   exact⟨kC HF.o.symm,hb⟩):P:=h
theorem zWp (A B:Option Addr)(l m:List Pr)(c d:Nat)(w:World)(hl:l.length<=9223372036854775807)(hm:m.length<=9223372036854775807)(hp:PL w w.heap.size A l)(hq:PL w w.heap.size B m):
  Calls Tryz.prog 129 #[.slice A l.length c,.slice B m.length d] w fun e w'=>e=.returned (.bool (decide (l=m)))/\Below w.heap.size w w':=by
 by_cases hlm:l.length=m.length
 ·have hx:((l.length:Int) !=(m.length:Int))=false:=by simp;omega
  have HL:=hd hlm;clear hlm;go_enter Tryz.func129,Tryz.ntmps129
  exact kQu
 ·have hx:((l.length:Int) !=(m.length:Int))=true:=by simp;omega
  have HF:=hd (show decide (l=m)=false by rw[decide_eq_false_iff_not];rintro rfl;exact hlm rfl);clear hlm;go_enter Tryz.func129,Tryz.ntmps129
  go_wp2
  go_ret
  exact⟨kC HF.o.symm,Below.refl _ _⟩
theorem zWq (A B:Option Addr)(l m:List Pr)(c d:Nat)(w:World)(hl:l.length<=9223372036854775807)(hm:m.length<=9223372036854775807)(hp:PL w w.heap.size A l)(hq:PL w w.heap.size B m):
  Calls Tryz.prog 34 #[.slice A l.length c,.slice B m.length d] w fun e w'=>e=.returned (.bool (decide (l=m)))/\Below w.heap.size w w':=by
 by_cases hlm:l.length=m.length
 ·have hx:((l.length:Int) !=(m.length:Int))=false:=by simp;omega
  have HL:=hd hlm;clear hlm;go_enter Tryz.func34,Tryz.ntmps34
  exact kQu
 ·have hx:((l.length:Int) !=(m.length:Int))=true:=by simp;omega
  have HF:=hd (show decide (l=m)=false by rw[decide_eq_false_iff_not];rintro rfl;exact hlm rfl);clear hlm;go_enter Tryz.func34,Tryz.ntmps34
  go_wp2
  go_ret
  exact⟨kC HF.o.symm,Below.refl _ _⟩
theorem zRf (A B:Option Addr)(l m:List Pr)(c d:Nat)(w:World)(hl:l.length<=9223372036854775807)(hm:m.length<=9223372036854775807)(hp:PL w w.heap.size A l)(hq:PL w w.heap.size B m):
  Calls Tryz.prog 103 #[.slice A l.length c,.slice B m.length d] w fun e w'=>e=.returned (.bool (decide (l=m)))/\Below w.heap.size w w':=by
 have hC:=hd (zWp A B l m c d w hl hm hp hq);clear hp hq;go_enter Tryz.func103,Tryz.ntmps103
 go_wp2_with(go_at_call 129;refine hC.o.mono ?_;rintro e w' ⟨rfl,hb⟩)
 go_ret
 exact⟨rfl,hb⟩
