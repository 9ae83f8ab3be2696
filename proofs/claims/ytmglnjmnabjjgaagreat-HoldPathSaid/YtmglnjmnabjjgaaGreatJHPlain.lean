import Derived.Test.YtmglnjmnabjjgaaGreatJOVar
set_option maxRecDepth 100000
set_option maxHeartbeats 8000000
namespace Go.Proofs.YtmglnjmnabjjgaaGreat
open Go.RowKit
variable {A:Option Addr}{t tb:TypeId}
def kVh (a:Int)(n:Nat):List Int:=(List.range n).map fun i=>a+(i:Nat)
theorem kPb (a:Int)(n:Nat):(kVh a n).length=n:=by simp[kVh]
theorem kUb (a:Int)(n:Nat):kVh a (n+1)=kVh a n++[a+n]:=by simp[kVh,List.range_succ]
theorem kO4 :∀(l:List NT),l.length<=sizeK l
 |[]=>by simp
 |k::r=>by have:=zJs k;have:=kO4 r;simp only[List.length_cons,sizeK];omega
mutual
def kQe :NT->Int->NT
 |.mk _ _ tx ks,f=>.mk false [] (f::kVh (f+1) tx.length) (kQ4 ks (f+1+tx.length))
def kQ4 :List NT->Int->List NT
 |[],_=>[]
 |k::r,f=>kQe k f::kQ4 r (f+sizeT k)
end
theorem kSy :∀(ks:List NT)(f:Int),(kQ4 ks f).length=ks.length
 |[],_=>rfl
 |k::r,f=>by rw[kQ4,List.length_cons,List.length_cons,kSy r]
theorem kSz :∀(ks:List NT)(f:Int)(j:Nat)(m:NT),ks[j]? =some m->(kQ4 ks f)[j]? =some (kQe m (f+sizeK (ks.take j)))
 |[],_,j,m,h=>by simp at h
 |k::r,f,0,m,h=>by
  simp only[List.getElem?_cons_zero,Option.some.injEq]at h;subst h;simp[kQ4,sizeK]
 |k::r,f,j+1,m,h=>by
  rw[List.getElem?_cons_succ]at h;rw[kQ4,List.getElem?_cons_succ,kSz r _ j m h,List.take_succ_cons,sizeK];congr 2
  omega
structure GhO (w:World)(b:Nat)(lab:Int)(rs:List Int)(ks:List NT)(R K:Value)(us:List Value)(Fs:Nat->Nat->Prop)(F:Nat->Prop):Prop where
 hb:jT 64 w b #[.int .i64 lab,R,K]
 hF:F b
 hr:w.ownsRow 0 3 1 R rs.length (rs.map (Value.int .i64))
 hk:w.ownsRow 0 53 1 K ks.length us
 hl:us.length=ks.length
 fr:∀q,R.ownBlock=some q->F q/\q≠b
 fk:∀q,K.ownBlock=some q->F q/\q≠b/\R.ownBlock≠some q
 kids:∀j m u,ks[j]? =some m->us[j]? =some u->Gh w u m (Fs j)
 sub:∀j q,Fs j q->F q/\q≠b/\R.ownBlock≠some q/\K.ownBlock≠some q
 dis:∀i j q,i≠j->Fs i q->¬Fs j q
theorem Gh.opened {w:World}{v:Value}{n:NT}{F:Nat->Prop}(h:Gh w v n F):∃b lab rs ks RA rc KA kc us Fs,v=.pointer (some ⟨b,0,none⟩)/\n=.mk false [] (lab::rs) ks/\GhO w b lab rs ks (.slice RA rs.length rc) (.slice KA ks.length kc) us Fs F:=by
 cases h with
 |mk F b lab rs ks R K us Fs hb hF hr hk hl fr fk kids sub dis=>
  obtain⟨RA,rc,rfl,_⟩:=zC9 hr;obtain⟨KA,kc,rfl,_⟩:=zC9 hk;exact⟨b,lab,rs,ks,RA,rc,KA,kc,us,Fs,rfl,rfl,hb,hF,hr,hk,hl,fr,fk,kids,sub,dis⟩
theorem GhO.gh {w:World}{b:Nat}{lab:Int}{rs:List Int}{ks:List NT}{R K:Value}{us:List Value}{Fs:Nat->Nat->Prop}{F:Nat->Prop}(h:GhO w b lab rs ks R K us Fs F):Gh w (.pointer (some ⟨b,0,none⟩)) (.mk false [] (lab::rs) ks) F:=
 .mk F b lab rs ks R K us Fs h.hb h.hF h.hr h.hk h.hl h.fr h.fk h.kids h.sub h.dis
structure Tch (F:Nat->Prop)(w w':World):Prop where
 os:w'.os=w.os
 tape:w'.tape=w.tape
 output:w'.output=w.output
 size:w.heap.size<=w'.heap.size
 block:∀k,k<w.heap.size->¬F k->w'.heap[k]? =w.heap[k]?
theorem Tch.of_below {F:Nat->Prop}{w w':World}(h:Below w.heap.size w w'):Tch F w w':=⟨h.os,h.tape,h.output,h.size,fun k hk _=>h.block k hk⟩
theorem Tch.of_off {F:Nat->Prop}{g:Nat}{w w':World}(h:Off g w w')(hg:F g):Tch F w w':=⟨h.os,h.tape,h.output,h.size,fun k hk hn=>h.block k hk fun e=>hn (e▸hg)⟩
theorem Tch.trans {F G:Nat->Prop}{w w' w'':World}(h:Tch F w w')(k:Tch G w' w'')(hs:∀q,q<w.heap.size->G q->F q):Tch F w w'':=
 ⟨k.os.trans h.os,k.tape.trans h.tape,k.output.trans h.output,Nat.le_trans h.size k.size,fun q hq hn=>(k.block q (Nat.lt_of_lt_of_le hq h.size) fun e=>hn (hs q hq e)).trans (h.block q hq hn)⟩
theorem Tch.below {F:Nat->Prop}{B:Nat}{w w':World}(h:Tch F w w')(hB:B<=w.heap.size)(hF:∀q,q<w.heap.size->F q->B<=q):Below B w w':=⟨h.os,h.tape,h.output,h.size,fun k hk=>h.block k (Nat.lt_of_lt_of_le hk hB) fun e=>by have:=hF k (Nat.lt_of_lt_of_le hk hB) e;omega⟩
theorem kQm (A:Option Addr)(n c k:Nat)(hk:k<=c):∀W:World,(Instr.slice 62 (.slice A n c) none (some (.int .i64 (k:Int))) none).run Tryz.prog W=.ok (.slice A k c) W:=fun W=>by
 have he:Tryz.prog.elem 62=53:=Ka;have hs:∀W,(sizeOf 53).run Tryz.prog W=.ok 1 W:=fun _=>by kernel_rfl
 rw[run_slice_h W 62 A n c (by rw[he];exact Tryz.underlying62) .i64 _ Kb Kb,he,hs];have e:(A.map fun x=>x.add 0)=A:=by
  cases A
  ·rfl
  ·simp[Addr.add]
 simp[Result.andThen,sliced,e]
theorem kRj (A:Option Addr)(n c k:Nat)(hk:k<=n)(hc:n<=c):∃D:Option Addr,(∀(w:World)(B:Nat)(xs:List Value),VL w B A xs->xs.length=n->VL w B D (xs.drop k))/\
  (∀W:World,(Instr.slice 62 (.slice A n c) (some (.int .i64 (k:Int))) none none).run Tryz.prog W=.ok (.slice D (n-k) (c-k)) W):=by
 refine⟨if c=k then A else A.map (·.add (k*1)),fun w B xs h hx=>h.drop k c n hx.symm hc,fun W=>?_⟩;have he:Tryz.prog.elem 62=53:=Ka;have hs:∀W,(sizeOf 53).run Tryz.prog W=.ok 1 W:=fun _=>by kernel_rfl
 rw[run_slice_l W 62 A n c (by rw[he];exact Tryz.underlying62) .i64 _ Kb Kb,he,hs];simp[Result.andThen,sliced]
theorem kS0 {α:Type}(l:List α)(i j:Nat)(hi:i<l.length):(l.take i++l.drop (i+1))[j]? =l[if j<i then j else j+1]? :=by
 by_cases h:j<i
 ·rw[if_pos h,List.getElem?_append_left Kf,List.getElem?_take_of_lt h]
 ·rw[if_neg h,List.getElem?_append_right Kf,List.length_take,List.getElem?_drop];congr 1
  omega
theorem kS1 {α:Type}(l:List α)(i j:Nat)(x:α)(hi:i<=l.length):(l.take i++[x]++l.drop i)[j]? =if j=i then some x else l[if j<i then j else j-1]? :=by
 by_cases h:j<i
 ·rw[if_neg Kb,if_pos h,List.append_assoc,List.getElem?_append_left Kf,List.getElem?_take_of_lt h]
 ·by_cases h2:j=i
  ·subst h2;rw[if_pos rfl,List.append_assoc,List.getElem?_append_right Kf,List.length_take];rw[show j-min j l.length=0 by omega];rfl
  ·rw[if_neg h2,if_neg h,List.getElem?_append_right Kf,List.getElem?_drop];congr 1
   simp;omega
section
variable {w w':World}{b:Nat}{lab:Int}{rs:List Int}{ks:List NT}{R K K':Value}{us:List Value}{Fs:Nat->Nat->Prop}{F:Nat->Prop}
theorem GhO.took {i:Nat}(h:GhO w b lab rs ks R K us Fs F)(hi:i<ks.length)(hF:∀q,F q->q<w.heap.size)(hv:jT 64 w' b #[.int .i64 lab,R,K'])(hk:∀q,q<w.heap.size->q≠b->w'.heap[q]? =w.heap[q]?)
  (hr:w'.ownsRow w.heap.size 53 1 K' (ks.length-1) (us.take i++us.drop (i+1))):
  Gh w' (.pointer (some ⟨b,0,none⟩)) (.mk false [] (lab::rs) (ks.take i++ks.drop (i+1))) (fun q=>(F q/\¬Fs i q)∨(w.heap.size<=q/\q<w'.heap.size)):=by
 have hn:∀q,K'.ownBlock=some q->w.heap.size<=q/\q<w'.heap.size:=fun q hq=>hr.lt q hq;have bl:(ks.take i++ks.drop (i+1)).length=ks.length-1:=by simp;omega
 have ne:∀j,(if j<i then j else j+1)≠i:=fun j=>by split<;>omega
 have hbl:b<w.heap.size:=h.hb.lt;refine .mk _ b lab rs _ R K' (us.take i++us.drop (i+1)) (fun j q=>Fs (if j<i then j else j+1) q) hv (.inl ⟨h.hF,fun e=>(h.sub i b e).2.1 rfl⟩) (kNl h.hr fun q hq=>hk q (hF q (h.fr q hq).1) (h.fr q hq).2) (by rw[bl];exact kNq hr fun _ _=>Nat.zero_le _)
  (by have:=h.hl;simp;omega) (fun q hq=>⟨.inl ⟨(h.fr q hq).1,fun e=>(h.sub i q e).2.2.1 hq⟩,(h.fr q hq).2⟩) (fun q hq=>⟨.inr (hn q hq),by have:=hn q hq;omega,fun e=>by have:=hn q hq;have:=hF q (h.fr q e).1;omega⟩)
  (fun j m u e1 e2=>?_) (fun j q hq=>?_) (fun i1 i2 q hne h1 h2=>h.dis _ _ q (by split<;>split<;>omega) h1 h2)
 ·rw[kS0 _ _ _ hi]at e1;rw[kS0 _ _ _ (by rw[h.hl];exact hi)]at e2;exact(h.kids _ m u e1 e2).frame fun q hq=>hk q (hF q (h.sub _ q hq).1) (h.sub _ q hq).2.1
 ·have:=h.sub _ q hq;exact⟨.inl ⟨this.1,fun e=>h.dis _ i q (ne j) hq e⟩,this.2.1,this.2.2.1,fun e=>by have:=hn q e;have:=hF q (h.sub _ q hq).1;omega⟩
theorem GhO.put {i:Nat}{m:NT}{p:Value}{Fk:Nat->Prop}(h:GhO w b lab rs ks R K us Fs F)(hi:i<=ks.length)(hF:∀q,F q->q<w.heap.size)(hm:Gh w p m Fk)(iT:∀q,Fk q->q<w.heap.size/\¬F q)(hv:jT 64 w' b #[.int .i64 lab,R,K'])(hk:∀q,q<w.heap.size->q≠b->w'.heap[q]? =w.heap[q]?)
  (hr:w'.ownsRow w.heap.size 53 1 K' (ks.length+1) (us.take i++[p]++us.drop i)):
  Gh w' (.pointer (some ⟨b,0,none⟩)) (.mk false [] (lab::rs) (ks.take i++[m]++ks.drop i)) (fun q=>F q∨Fk q∨(w.heap.size<=q/\q<w'.heap.size)):=by
 have hn:∀q,K'.ownBlock=some q->w.heap.size<=q/\q<w'.heap.size:=fun q hq=>hr.lt q hq;have bl:(ks.take i++[m]++ks.drop i).length=ks.length+1:=by simp;omega
 have hbl:b<w.heap.size:=h.hb.lt;refine .mk _ b lab rs _ R K' (us.take i++[p]++us.drop i) (fun j q=>if j=i then Fk q else Fs (if j<i then j else j-1) q) hv (.inl h.hF) (kNl h.hr fun q hq=>hk q (hF q (h.fr q hq).1) (h.fr q hq).2) (by rw[bl];exact kNq hr fun _ _=>Nat.zero_le _)
  (by have:=h.hl;simp;omega) (fun q hq=>⟨.inl (h.fr q hq).1,(h.fr q hq).2⟩) (fun q hq=>⟨.inr (.inr (hn q hq)),by have:=hn q hq;omega,fun e=>by have:=hn q hq;have:=hF q (h.fr q e).1;omega⟩)
  (fun j m2 u e1 e2=>?_) (fun j q hq=>?_) (fun i1 i2 q hne h1 h2=>?_)
 ·rw[kS1 _ _ _ _ hi]at e1;rw[kS1 _ _ _ _ (by rw[h.hl];exact hi)]at e2;by_cases e:j=i
  ·rw[if_pos e]at e1 e2;injection e1 with e1;injection e2 with e2;subst e1 e2;rw[show(fun q=>if j=i then Fk q else Fs (if j<i then j else j-1) q)=Fk from funext fun q=>if_pos e];exact hm.frame fun q hq=>hk q (iT q hq).1 fun e=>(iT q hq).2 (e▸h.hF)
  ·rw[if_neg e]at e1 e2;rw[show(fun q=>if j=i then Fk q else Fs (if j<i then j else j-1) q)=Fs (if j<i then j else j-1)from funext fun q=>if_neg e];exact(h.kids _ m2 u e1 e2).frame fun q hq=>hk q (hF q (h.sub _ q hq).1) (h.sub _ q hq).2.1
 ·by_cases e:j=i
  ·rw[if_pos e]at hq;have:=iT q hq;exact⟨.inr (.inl hq),fun e=>this.2 (e▸h.hF),fun e=>this.2 (h.fr q e).1,fun e=>by have:=hn q e;omega⟩
  ·rw[if_neg e]at hq;have:=h.sub _ q hq;exact⟨.inl this.1,this.2.1,this.2.2.1,fun e=>by have:=hn q e;have:=hF q (h.sub _ q hq).1;omega⟩
 ·by_cases e1:i1=i
  ·have e2:i2≠i:=fun h=>hne (e1.trans h.symm);rw[if_pos e1]at h1;rw[if_neg e2]at h2;exact(iT q h1).2 (h.sub _ q h2).1
  ·rw[if_neg e1]at h1;by_cases e2:i2=i
   ·rw[if_pos e2]at h2;exact(iT q h2).2 (h.sub _ q h1).1
   ·rw[if_neg e2]at h2;exact h.dis _ _ q (by split<;>split<;>omega) h1 h2
end
theorem kPn {u v:List Int}{k:Nat}(h:k<u.length):iAt (u++v) k=iAt u k:=by
 unfold iAt;rw[List.getD_eq_getElem?_getD,List.getD_eq_getElem?_getD,List.getElem?_append_left h]
theorem zKt.up {w:World}{l c:Nat}{u:List Int}{i:Int}(h:zKt w A l c (u++[i])):zKt w A (l-1) c u:=by
 have hl:=h.len;rw[List.length_append,List.length_singleton]at hl;have hle:=h.le;have hc:=h.cap;refine⟨by omega,by omega,by omega,fun hn=>?_,fun j hj=>?_⟩
 ·obtain⟨b,o,e,hb,hk⟩:=h.il Kc;refine⟨b,o,e,hb,fun k hk2=>?_⟩;rw[hk k Kf,kPn hk2]
 ·rw[<-kPn (v:=[i]) hj];exact h.inn j Kf
theorem jT.grew {w w':World}{g:Nat}{r:Array Value}{row:Option Nat}(h:jT t w g r)(hg:w.grownBy w' row)(hn:row≠some g):jT t w' g r:=(hg.block g h.lt (fun e=>hn e.symm)).trans h
theorem kN9 {w w':World}{base g:Nat}{size:Nat}{v:Value}{n:Nat}{xs:List Value}(h:w.ownsRow base t size v n xs)(ho:Off g w w')(hg:v.ownBlock≠some g):w'.ownsRow base t size v n xs:=
 kNl h fun q hq=>ho.block q (h.lt q hq).2 fun e=>hg (e▸hq)
structure kOs (w:World)(nd:Array Value)(f:Int)(gks:List NT)(rs:List Int)(k:Nat)(R K:Value)(us:List Value)(Fs:Nat->Nat->Prop)(W:World):Prop where
 v2:jT 26 W w.heap.size nd
 v6:jT 64 W (w.heap.size+1) #[.int .i64 f,R,K]
 below:Below w.heap.size w W
 r:W.ownsRow (w.heap.size+2) 3 1 R rs.length (rs.map (Value.int .i64))
 rk:W.ownsRow (w.heap.size+2) 53 1 K k us
 ra:∀q,R.ownBlock=some q->K.ownBlock≠some q
 ul:us.length=k
 kids:∀j m u,gks[j]? =some m->us[j]? =some u->Gh W u m (Fs j)
 sub:∀j q,Fs j q->w.heap.size+2<=q/\q<W.heap.size/\R.ownBlock≠some q/\K.ownBlock≠some q
 dis:∀i j q,i≠j->Fs i q->¬Fs j q
section
variable {w W W2 W5:World}{nd:Array Value}{f:Int}{gks:List NT}{rs:List Int}{k:Nat}{R K:Value}{us:List Value}{Fs:Nat->Nat->Prop}
theorem kOs.lt (h:kOs w nd f gks rs k R K us Fs W):w.heap.size+1<W.heap.size:=h.v6.lt
theorem kOs.rune {y:Int}{c:Nat}(h:kOs w nd f gks rs 0 R (.slice none 0 0) [] (fun _ _=>False) W)(hown:W2.ownsRow (w.heap.size+2) 3 1 (.slice A (rs.length+1) c) (rs.length+1) (rs.map (Value.int .i64)++[.int .i64 y]))
  (hg:(W.alloc (.cells #[.int .i64 y] tb)).grownBy W2 R.ownBlock) (hv:jT 64 W5 (w.heap.size+1) #[.int .i64 f,.slice A (rs.length+1) c,.slice none 0 0]) (ho:Off (w.heap.size+1) W2 W5):
  kOs w nd f gks (rs++[y]) 0 (.slice A (rs.length+1) c) (.slice none 0 0) [] (fun _ _=>False) W5:=by
 have hR:∀q,R.ownBlock=some q->w.heap.size+2<=q:=fun q hq=>(h.r.lt q hq).1;have hb:=(h.below.alloc h.below.size (.cells #[.int .i64 y] tb)).grown hg (by have:=h.lt;simp;omega) (fun j hj=>by have:=hR j hj;omega);refine⟨((h.v2.alloc _).grew hg fun e=>by have:=hR _ e;omega).off ho Kb,hv,hb.trans (ho.below Kb hb.size),?_,World.ownsRow_nil _ _ _ _,fun q _ e=>(by cases e),rfl,fun j m u _ e=>(by simp at e),fun _ _ h=>h.elim,fun _ _ _ _ h=>h.elim⟩;rw[List.length_append,List.map_append];exact kN9 hown ho fun e=>by have:=hown.lt _ e;omega
theorem kOs.kid {m:NT}{p:Value}{W1 W4:World}{nk:Array Value}{tn:TypeId}{c:Nat}(h:kOs w nd f gks rs k R K us Fs W)(hm:gks[k]? =some m)(h1:W1=W.alloc (.cells nk tn))(hG:Gh W4 p m (fun q=>W1.heap.size<=q/\q<W4.heap.size))(hB:Below W1.heap.size W1 W4)
  (hown:W2.ownsRow (w.heap.size+2) 53 1 (.slice A (k+1) c) (k+1) (us++[p])) (hg:(W4.alloc (.cells #[p] tb)).grownBy W2 K.ownBlock) (hat:(Value.slice A (k+1) c).ownBlock=K.ownBlock∨∃q,(Value.slice A (k+1) c).ownBlock=some q/\W4.heap.size+1<=q)
  (hv:jT 64 W5 (w.heap.size+1) #[.int .i64 f,R,.slice A (k+1) c]) (ho:Off (w.heap.size+1) W2 W5):
  kOs w nd f gks rs (k+1) R (.slice A (k+1) c) (us++[p]) (fun j q=>if j=k then W1.heap.size<=q/\q<W4.heap.size else Fs j q) W5:=by
 have hK:∀q,K.ownBlock=some q->w.heap.size+2<=q/\q<W.heap.size:=fun q hq=>h.rk.lt q hq;have hR:∀q,R.ownBlock=some q->w.heap.size+2<=q/\q<W.heap.size:=fun q hq=>h.r.lt q hq;have hs1:W1.heap.size=W.heap.size+1:=by rw[h1];simp
 have ET:=hB.size;have hlt:=h.lt;have hs2:=hg.size;simp only[World.size_alloc]at hs2;have EU:=ho.size;--blocks that lay there ahead of the round,but the variable and the row of zKn
 have keep:∀q,q<W.heap.size->q≠w.heap.size+1->K.ownBlock≠some q->W5.heap[q]? =W.heap[q]? :=fun q hq hne hk=>by
  rw[ho.block q Kb hne,hg.block q Kf (fun e=>hk e.symm),Below.heap_alloc W4 _ q Kb,hB.block q Kb,h1,Below.heap_alloc W _ q hq]
 have tF:∀q,W1.heap.size<=q->q<W4.heap.size->W5.heap[q]? =W4.heap[q]? :=fun q h2 h3=>by
  rw[ho.block q Kb Kb,hg.block q Kf (fun e=>by have:=hK q e.symm;omega),Below.heap_alloc W4 _ q h3]
 have hb4:Below w.heap.size w W4:=(h1▸(h.below.alloc h.below.size (.cells nk tn)):Below w.heap.size w W1).trans (hB.mono Kb);have hb:=(hb4.alloc hb4.size (.cells #[p] tb)).grown hg Kf (fun j hj=>by have:=hK j hj;omega);have hKn:∀q,(Value.slice A (k+1) c).ownBlock=some q->q<W.heap.size/\K.ownBlock=some q∨W4.heap.size+1<=q:=fun q hq=>by
  rcases hat with e|⟨q',e,hq'⟩
  ·rw[e]at hq;exact .inl ⟨(hK q hq).2,hq⟩
  ·rw[e]at hq;injection hq with hq;exact .inr Kb
 refine⟨(keep _ h.v2.lt Kb fun e=>by have:=hK _ e;omega).trans h.v2,hv,hb.trans (ho.below Kb hb.size),kNl h.r fun q hq=>keep q (hR q hq).2 (by have:=hR q hq;omega) (h.ra q hq),kN9 hown ho fun e=>by have:=hown.lt _ e;omega,fun q hq e=>?_,by simp[h.ul],fun j m' u e1 e2=>?_,fun j q hq=>?_,fun i j q hne hq1 hq2=>?_⟩
 ·rcases hKn q e with⟨_,e2⟩|e2
  ·exact h.ra q hq e2
  ·have:=hR q hq;omega
 ·by_cases e:j=k
  ·subst e;rw[hm]at e1;rw[List.getElem?_append_right (by rw[h.ul];exact Nat.le_refl _),h.ul,Nat.sub_self]at e2;simp only[List.getElem?_cons_zero,Option.some.injEq]at e1 e2;subst e1 e2;rw[show(fun q=>if j=j then W1.heap.size<=q/\q<W4.heap.size else Fs j q)=fun q=>W1.heap.size<=q/\q<W4.heap.size from funext fun q=>if_pos rfl];exact hG.frame fun q hq=>tF q hq.1 hq.2
  ·have hj:j<us.length:=by
    have:=(List.getElem?_eq_some_iff.1 e2).1;rw[List.length_append,List.length_singleton]at this;have:=h.ul;omega
   rw[List.getElem?_append_left hj]at e2;rw[show(fun q=>if j=k then W1.heap.size<=q/\q<W4.heap.size else Fs j q)=Fs j from funext fun q=>if_neg e];exact(h.kids j m' u e1 e2).frame fun q hq=>by
    have:=h.sub j q hq;exact keep q this.2.1 Kb this.2.2.2
 ·by_cases e:j=k
  ·rw[if_pos e]at hq;refine⟨by omega,by omega,fun e=>by have:=hR q e;omega,fun e=>?_⟩;rcases hKn q e with e2|e2<;>omega
  ·rw[if_neg e]at hq;have:=h.sub j q hq;refine⟨this.1,by omega,this.2.2.1,fun e=>?_⟩;rcases hKn q e with e2|e2
   ·exact this.2.2.2 e2.2
   ·omega
 ·by_cases e1:i=k
  ·have e2:j≠k:=fun h=>hne (e1.trans h.symm);rw[if_pos e1]at hq1;rw[if_neg e2]at hq2;have:=h.sub j q hq2;omega
  ·rw[if_neg e1]at hq1;by_cases e2:j=k
   ·rw[if_pos e2]at hq2;have:=h.sub i q hq1;omega
   ·rw[if_neg e2]at hq2;exact h.dis i j q hne hq1 hq2
theorem Gh.ptr {p:Value}{m:NT}{F:Nat->Prop}(h:Gh W p m F):∃b,p=.pointer (some ⟨b,0,none⟩):=by cases h;exact⟨_,rfl⟩
theorem Gh.one {p:Value}{m:NT}{F:Nat->Prop}(h:Gh W p m F):p.oneCell'=true:=by cases h;rfl
theorem kOs.v6_call {o:Obj}{W4:World}(h:kOs w nd f gks rs k R K us Fs W)(hB:Below (W.alloc o).heap.size (W.alloc o) W4):jT 64 W4 (w.heap.size+1) #[.int .i64 f,R,K]:=(h.v6.alloc o).keep hB
theorem kOs.rk_call {o:Obj}{W4:World}(h:kOs w nd f gks rs k R K us Fs W)(hB:Below (W.alloc o).heap.size (W.alloc o) W4):W4.ownsRow (w.heap.size+2) 53 1 K k us:=
 kNl h.rk fun q hq=>by
  have:=(h.rk.lt q hq).2;rw[hB.block q Kf,Below.heap_alloc W _ q this]
theorem kOs.done (h:kOs w nd f gks rs gks.length R K us Fs W):Gh W (.pointer (some ⟨w.heap.size+1,0,none⟩)) (.mk false [] (f::rs) gks) (fun q=>w.heap.size<=q/\q<W.heap.size):=by
 have hlt:=h.lt;have hK:=h.rk.lt;have hR:=h.r.lt;exact .mk _ (w.heap.size+1) f rs gks R K us Fs h.v6 ⟨by omega,hlt⟩ (kNq h.r fun _ _=>Nat.zero_le _) (kNq h.rk fun _ _=>Nat.zero_le _) h.ul (fun q hq=>⟨⟨by have:=hR q hq;omega,(hR q hq).2⟩,by have:=hR q hq;omega⟩)
  (fun q hq=>⟨⟨by have:=hK q hq;omega,(hK q hq).2⟩,by have:=hK q hq;omega,fun e=>h.ra q e hq⟩) h.kids (fun j q hq=>by have:=h.sub j q hq;exact⟨⟨by omega,this.2.1⟩,by omega,this.2.2⟩) h.dis
end
theorem kQ5 :(Tryz.prog.info? 62).map (·.size)=some 1:=Ka
def kYk (f:Int)(n:NT)(w:World)(e:Ending)(w':World):Prop:=∃p,e=.returned (.tuple #[p,.int .i64 (f+sizeT n)])/\Gh w' p (kQe n f) (fun q=>w.heap.size<=q/\q<w'.heap.size)/\Below w.heap.size w w'
theorem kTp :∀(d:Nat)(w:World)(v:Value)(n:NT)(f:Int),zV d w w.heap.size v n->0<=f->f+sizeT n<=500000->Calls Tryz.prog 16 #[v,.int .i64 f] w (kYk f n w):=by
 intro d;induction d with
 |zero=>intro w v n f h;exact h.elim
 | succ d ih=>
  intro w v n f hn nv tG;obtain⟨d',lf,ps,tx,ks,PA,pc,TA,tc,KA,kc,hd',rfl,rfl,hp,ht,hf,hks⟩:=hn.open_;obtain rfl:d=d':=Kb;simp only[sizeT]at tG;have hkl:ks.length<=500000:=by have:=kO4 ks;omega
  have hl:=hf.2.2.1;have cY:=hf.2.2.2.1;obtain⟨nd,hnd⟩:∃nd:Array Value,#[.bool lf,.slice PA ps.length pc,.slice TA tx.length tc,.slice KA ks.length kc]=nd:=⟨_,rfl⟩;obtain⟨wb,hwb⟩:∃wb,(w.alloc (.cells #[.bool lf,.slice PA ps.length pc,.slice TA tx.length tc,.slice KA ks.length kc] 26)).alloc (.cells #[.int .i64 f,.slice none 0 0,.slice none 0 0] 64)=wb:=⟨_,rfl⟩;have hM:kOs w nd f (kQ4 ks (f+1+tx.length)) [] 0 (.slice none 0 0) (.slice none 0 0) [] (fun _ _=>False) wb:=by
   have e1:(w.alloc (.cells nd 26)).heap.size=w.heap.size+1:=by simp
   have h2:=jT.new (w.alloc (.cells nd 26)) 64 #[.int .i64 f,.slice none 0 0,.slice none 0 0];rw[e1]at h2;rw[<-hwb,hnd];exact⟨(jT.new w 26 nd).alloc _,h2,(Kl.alloc Km _).alloc (by rw[e1];omega) _,World.ownsRow_nil _ _ _ _,World.ownsRow_nil _ _ _ _,fun q e=>(by cases e),rfl,fun j m u _ e=>(by simp at e),fun _ _ h=>h.elim,fun _ _ _ _ h=>h.elim⟩
  have HW:=hd hwb;have HM:=hd hM;have bU:=hd hks;have ny:=hd hnd;have HF:=hd tG;clear hn hp ht hf hks hd' hwb hM;have e2:nd[2]? =some (.slice TA tx.length tc):=by rw[<-hnd];rfl
  have e3:nd[3]? =some (.slice KA ks.length kc):=by rw[<-hnd];rfl
  have E2:=hd e2;have E3:=hd e3;clear hnd e2 e3;go_enter Tryz.func16,Tryz.ntmps16
  go_upto_region 2 with fail
  rw[HW.o];clear HW;have c2:=HM.o.v2.cell 2 _ E2.o;have CM:f+1<=1000000:=by have:=HF.o;omega
  go_wp2
  clear c2;go_loopw [1,19] (fun z i wr=>∃(k:Nat)(y:Int)(A:Option Addr)(c:Nat),k<=tx.length/\z=.int .i64 y/\i=.int .i64 k/\0<=y/\y<=1000000/\Kr (y=f+1+k)/\Kr (kOs w nd f (kQ4 ks (f+1+tx.length)) (kVh (f+1) k) 0 (.slice A k c) (.slice none 0 0) [] (fun _ _=>False) wr)) (fun _ i _=>tx.length-(intOf i).toNat)
  case atStart=>exact⟨0,f+1,none,0,Nat.zero_le _,rfl,rfl,by omega,by omega,hd Kc,HM⟩
  case round=>
   obtain⟨k,y,A,c,hk,rfl,rfl,hy0,hy1,HY,HG⟩:=hrel;by_cases hlt:k<tx.length
   ·have c1:=HG.o.v6.cell 1 (.slice A k c) rfl;have AC:y+1<=1000000:=by have:=HY.o;have:=HF.o;omega
    go_wp2_with(first
     |(at_builtin;refine kOw giG wr rfl (.tmp 25) (.tmp 27) rfl (w.heap.size+2) (.slice A k c) k ((kVh (f+1) k).map (Value.int .i64)) [.int .i64 y] rfl (by have h:=HG.o.r;rw[kPb]at h;exact h) rfl rfl (by simp[Value.oneCell']) Kb Kd (by have:=HG.o.lt;omega) ?_;intro A2 c2 w2 hown hgr hat;have HOWN:=hd hown;have cu:=hd hgr;have HV:=hd ((HG.o.v6.alloc _).grew hgr (fun e=>by have:=HG.o.r.lt _ e;omega));clear hown hgr hat)
     |((with_reducible refine zF (ty:=27) (x:=.tmp 30) ?_);refine zFd zCa (r':=#[.int .i64 f,.slice A2 (k+1) c2,.slice none 0 0]) HV.o _ _ rfl rfl rfl 1 (.slice A2 (k+1) c2) rfl rfl rfl rfl (by show(1:Nat)<3;decide) rfl ?_;intro W5 hv ho;have HN:=hd (kOs.rune (y:=y) HG.o (by rw[kPb];exact HOWN.o) cu.o (by rw[kPb];exact hv) ho);clear hv ho))
    go_roundw
    case rel=>exact⟨k+1,y+1,A2,c2,by omega,by go_num,by go_num,by omega,by omega,hd (by rw[HY.o];omega),hd (by have h:=HN.o;rw[kPb,HY.o,<-kUb]at h;exact h)⟩
    case measure=>simp[intOf];omega
   ·obtain rfl:k=tx.length:=Kb;have c3:=HG.o.v2.cell 3 _ E3.o;have hgl:=kSy ks (f+1+tx.length);go_wp2
    clear c3;go_loopw [1,37] (fun z i wr2=>∃(k:Nat)(y2:Int)(A2:Option Addr)(c2:Nat)(us:List Value)(Fs:Nat->Nat->Prop),k<=ks.length/\z=.int .i64 y2/\i=.int .i64 k/\0<=y2/\y2<=1000000/\Kr (y2=f+1+tx.length+sizeK (ks.take k))/\Kr (kOs w nd f (kQ4 ks (f+1+tx.length)) (kVh (f+1) tx.length) k (.slice A tx.length c) (.slice A2 k c2) us Fs wr2)) (fun _ i _=>ks.length-(intOf i).toNat)
    case atStart=>exact⟨0,y,none,0,[],fun _ _=>False,Nat.zero_le _,rfl,rfl,hy0,hy1,hd (by rw[HY.o];simp[sizeK]),HG⟩
    case round=>
     obtain⟨k,y2,A2,c2,us,Fs,hk2,rfl,rfl,hz0,hz1,HZ,HH⟩:=hrel;clear HG HY hk;by_cases br:k<ks.length
     ·obtain⟨m,b,o,lf1,cI,cP,cJ,cK,cQ,cL,cM,cR,kc1,hm,rfl,hbg,cV,d0,d1,d2,d3⟩:=(bU.o.below HH.o.below).at_ br;have hsz:=HH.o.below.size;obtain⟨wk,hwk⟩:∃wk,wk=wr.alloc (.cells #[.bool lf1,.slice cI cP cJ,.slice cK cQ cL,.slice cM cR kc1] 26):=⟨_,rfl⟩;have hbk:Below wr.heap.size wr wk:=hwk▸Kl.alloc Km _;have hst:=kQ3 hm;have xx:sizeK ks=sizeK (ks.take (k+1))+sizeK (ks.drop (k+1)):=by rw[<-kZ,List.take_append_drop]
      have CR:y2+sizeT m<=500000:=by have:=HZ.o;have:=HF.o;omega
      have HC:=hd (ih wk _ m y2 (((cV.more hsz).below hbk).more hbk.size) hz0 CR);have fR:=hd (kSz ks (f+1+tx.length) k m hm);have HST:=hd hst;have lJ:=hd HH.o.lt;subst hwk;clear hm cV hbk hst xx;go_wp2_with(first
       |(go_at_call 16;refine HC.o.mono ?_;rintro e w4 ⟨p,rfl,hG,hB⟩;obtain⟨bp,rfl⟩:=hG.ptr;have HP:=hd hG;have bf:=hd hB;have hs4:=hB.size;have HV:=hd (HH.o.v6_call hB);have c5:=HV.o.cell 2 (.slice A2 k c2) rfl;clear hG hB)
       |(at_builtin;refine kOw gpG w4 rfl (.tmp 51) (.tmp 53) rfl (w.heap.size+2) (.slice A2 k c2) k us [.pointer (some ⟨bp,0,none⟩)] rfl (HH.o.rk_call bf.o) rfl rfl (by simp[Value.oneCell']) Kb Kd (by have:=lJ.o;simp at hs4;omega) ?_;intro A3 c6 w5 hown hgr hat;have HOWN:=hd hown;have cu:=hd hgr;have jd:=hd hat;have HV:=hd ((HV.o.alloc _).grew hgr (fun e=>by have:=HH.o.rk.lt _ e;omega));clear hown hgr hat c5)
       |((with_reducible refine zF (ty:=62) (x:=.tmp 56) ?_);refine zFd kQ5 (r':=#[.int .i64 f,.slice A tx.length c,.slice A3 (k+1) c6]) HV.o _ _ rfl rfl rfl 2 (.slice A3 (k+1) c6) rfl rfl rfl rfl (by show(2:Nat)<3;decide) rfl ?_;intro W5 hv ho;have HN:=hd (kOs.kid (m:=kQe m y2) HH.o (by rw[HZ.o];exact fR.o) rfl HP.o bf.o HOWN.o cu.o jd.o hv ho);clear hv ho))
      go_roundw
      case rel=>exact⟨k+1,y2+sizeT m,A3,c6,_,_,by omega,rfl,by go_num,by omega,by omega,hd (by rw[HST.o,HZ.o];omega),HN⟩
      case measure=>simp[intOf];omega
     ·obtain rfl:k=ks.length:=Kb;have HE:=hd (show y2=f+sizeT (.mk lf ps tx ks) by rw[HZ.o,List.take_of_length_le Km];simp only[sizeT];omega);have HD:=hd (by have h:=HH.o;rw[<-hgl]at h;exact h.done);go_wp2
      go_ret2
      refine⟨_,by rw[<-HE.o];rfl,HD.o,HH.o.below⟩
def kYn (F:Nat->Prop)(v:Value)(n k:NT)(w:World)(e:Ending)(w':World):Prop:=∃p Fk F',e=.returned p/\Gh w' p k Fk/\Gh w' v n F'/\(∀q,Fk q->¬F' q)/\(∀q,Fk q∨F' q->F q∨(w.heap.size<=q/\q<w'.heap.size))/\Tch F w w'
def kXj (F Fk:Nat->Prop)(v:Value)(n:NT)(w:World)(e:Ending)(w':World):Prop:=∃F',e=.returned (.tuple #[])/\Gh w' v n F'/\(∀q,F' q->F q∨Fk q∨(w.heap.size<=q/\q<w'.heap.size))/\Tch F w w'
theorem kVi {w:World}{b:Nat}{lab:Int}{rs:List Int}{ks:List NT}{R:Value}{c:Nat}{us:List Value}{Fs:Nat->Nat->Prop}{F:Nat->Prop}(h:GhO w b lab rs ks R (.slice A ks.length c) us Fs F):VL w w.heap.size A us:=VP.vl (kW6 h.hk fun g hg=>(h.hk.lt g hg).2) (fun _ h=>h)
theorem kQn {w:World}{b:Nat}{lab:Int}{rs:List Int}{ks:List NT}{R K:Value}{us:List Value}{Fs:Nat->Nat->Prop}{F:Nat->Prop}(h:GhO w b lab rs ks R K us Fs F):∀u ∈ us,u.oneCell'=true:=fun u hu=>by
 obtain⟨j,hj,rfl⟩:=List.mem_iff_getElem.1 hu;exact(h.kids j _ _ (List.getElem?_eq_getElem (by rw[<-h.hl];exact hj)) (List.getElem?_eq_getElem hj)).one
theorem kQo (u:List Int)(i:Int):iAt (u++[i]) u.length=i:=by unfold iAt;simp[List.getD_eq_getElem?_getD]
theorem kRk {w:World}{v:Value}{n x k:NT}{F:Nat->Prop}{u:List Int}{lq cq i:Nat}(hg:Gh w v n F)(hF:∀q,F q->q<w.heap.size)(hq:zKt w A lq cq (u++[(i:Int)]))(hx:kB n u=some x)(hi:x.ks[i]? =some k)(hs:x.ks.length<=500000):
  Calls Tryz.prog 44 #[v,.slice A lq cq] w (kYn F v (putT n u (jS x i 1 [])) k w):=by
 obtain⟨pu,Fm,hpt,d9,hsub,bv⟩:=Gh.sub u hg hx;obtain⟨b,lab,rs,ks,RA,rc,KA,kc,us,Fs,rfl,rfl,hO⟩:=d9.opened;have hi':ks[i]? =some k:=hi;have hik:i<ks.length:=(List.getElem?_eq_some_iff.1 hi').1;have hsl:ks.length<=500000:=hs;obtain⟨pk,hpk⟩:∃p,us[i]? =some p:=⟨_,List.getElem?_eq_getElem (by rw[hO.hl];exact hik)⟩;have qh:=hO.kids i k pk hi' hpk;obtain⟨bk,rfl⟩:=qh.ptr;obtain⟨KA',kc',eK,hkc,_,hfree⟩:=zC9 hO.hk;injection eK with kG _ lg;subst kG lg;obtain⟨g,rfl,_,_,hcell,_⟩:=hfree i _ hpk;have hvl:=kVi hO;have fS:=kQn hO;have iU:=hO.hl;obtain⟨D,hD,ax⟩:=kRj (some ⟨g,0,none⟩) ks.length kc (i+1) Kb hkc;have aC:=kQm (some ⟨g,0,none⟩) ks.length kc i Kb;have aA:∀W:World,(Instr.slice 62 (.slice (some ⟨g,0,none⟩) ks.length kc) (some (.int .i64 ((i:Int)+1))) none none).run Tryz.prog W=.ok (.slice D (ks.length-(i+1)) (kc-(i+1))) W:=by
  rw[show((i:Int)+1)=((i+1:Nat):Int) by omega];exact ax
 obtain⟨ul,eQ⟩:∃l,u.length=l:=⟨_,rfl⟩;have hlq:=hq.len;rw[List.length_append,List.length_singleton,eQ]at hlq;subst hlq;have nz:=hq.up;have hle:=hq.le;have hcap:=hq.cap;obtain⟨b0,o0,rfl,hb0,hc⟩:=hq.il.at_ (k:=ul) (by rw[List.length_append,eQ];simp);rw[<-eQ,kQo,eQ]at hc;have hbl:=hO.hb.lt;have c2:=hO.hb.cell 2 (.slice (some ⟨g,0,none⟩) ks.length kc) rfl;have cZ:=hd hpt;have xy:=hd nz;have HO:=hd hO;have fF:=hd hvl;have lK:=hd fS;have HD:=hd hD;have dt:=hd bv;have CS:=hd qh;have aG:=hd hsub;have qi:=hd hF;have qj:=hd iU;have ke:=hd hi';have km:=hd hpk;clear hpt nz hq hO hvl fS hD bv qh hsub hF hfree hg hx hi hi' hpk ax d9 hs iU;go_enter Tryz.func44,Tryz.ntmps44
 go_wp2_with(first
  |(go_at_call 21;refine Calls.mono (kOx cZ.o xy.o) ?_;rintro e w1 ⟨rfl,hw1⟩;have hw1:=hw1.symm;subst hw1)
  |(at_builtin;refine kNu gpG w rfl (.tmp 29) (.tmp 35) rfl w.heap.size rfl (some ⟨g,0,none⟩) i kc w.heap.size (us.take i) rfl (by have:=qj.o;simp;omega) (fF.o.take i) (fun u hu=>lK.o u (List.mem_of_mem_take hu)) Kg Kb Km ?_;intro A1 c1 w2 hown hb2 hat;have HOWN:=hd hown;have aL:=hd hb2;have HV:=hd (HO.o.hb.keep hb2);have c2:=HV.o.cell 2 (.slice (some ⟨g,0,none⟩) ks.length kc) rfl;clear hown hb2 hat)
  |(at_builtin;refine zK7 gpG w2 rfl (.tmp 38) (.tmp 45) rfl w.heap.size (.slice A1 i c1) i (us.take i) rfl HOWN.o D (ks.length-(i+1)) (kc-(i+1)) w.heap.size (us.drop (i+1)) rfl (by have:=qj.o;simp;omega) ((HD.o _ _ _ fF.o qj.o).below aL.o) (fun u hu=>lK.o u (List.mem_of_mem_drop hu)) Kg Kb aL.o.size ?_;intro A2 c3 w3 hown hgr hat;have fI:=hd hown;have cu:=hd hgr;have HV:=hd (HV.o.grew hgr (fun e=>by have:=(HOWN.o.lt _ e).1;omega));clear hown hgr hat c2)
  |((with_reducible refine zF (ty:=62) (x:=.tmp 48) ?_);refine zFd kQ5 (r':=#[.int .i64 lab,.slice RA rs.length rc,.slice A2 (i+(ks.length-(i+1))) c3]) HV.o _ _ rfl rfl rfl 2 (.slice A2 (i+(ks.length-(i+1))) c3) rfl rfl rfl rfl (by show(2:Nat)<3;decide) rfl ?_;intro W5 hv ho;have dH:=hd hv;have lL:=hd ho;clear hv ho))
 go_ret
 have iE:=qi.o;have hsub:=aG.o;have hs2:=aL.o.size;have hs3:=cu.o.size;have hs5:=lL.o.size;have e1:i+(ks.length-(i+1))=ks.length-1:=Kb;have iI:=dH.o;have hown:=fI.o;rw[e1]at iI hown;have keep:∀q,q<w.heap.size->q≠b->W5.heap[q]? =w.heap[q]? :=fun q hq hne=>by
  rw[lL.o.block q Kb hne,cu.o.block q Kb (fun e=>by have:=(HOWN.o.lt _ e.symm).1;omega),aL.o.block q hq]
 have G1:=HO.o.took hik (fun q h=>iE q (hsub q h)) iI keep (kN9 hown lL.o fun e=>by have:=(hown.lt _ e).1;omega);have iF:F b:=hsub b HO.o.hF;have G2:=dt.o W5 _ _ G1 (fun q h1 h2=>keep q (iE q h1) fun e=>h2 (e▸HO.o.hF)) (fun q h1 h2 h3=>by
  rcases h1 with h1|h1
  ·exact h2 h1.1
  ·have:=iE q h3;omega)
 have e2:jS (.mk false [] (lab::rs) ks) i 1 []=.mk false [] (lab::rs) (ks.take i++ks.drop (i+1)):=by
  show NT.mk false [] (lab::rs) (spl ks i 1 [])=_
  unfold spl;rw[List.append_nil]
 refine⟨_,Fs i,_,rfl,CS.o.frame fun q h=>keep q (iE q (hsub q (HO.o.sub i q h).1)) (HO.o.sub i q h).2.1,by rw[e2];exact G2,fun q h1 h2=>?_,fun q h1=>?_,?_⟩
 ·rcases h2 with h2|h2|h2
  ·exact h2.2 (HO.o.sub i q h1).1
  ·exact h2.2 h1
  ·have:=iE q (hsub q (HO.o.sub i q h1).1);omega
 ·rcases h1 with h1|h1|h1|h1
  ·exact .inl (hsub q (HO.o.sub i q h1).1)
  ·exact .inl h1.1
  ·exact .inl (hsub q h1.1)
  ·exact .inr h1
 ·refine(Tch.of_below aL.o).trans (Tch.trans (F:=fun q=>w.heap.size<=q∨F q) ⟨cu.o.os,cu.o.tape,cu.o.output,hs3,fun q hq hn=>cu.o.block q hq fun e=>hn (.inl (HOWN.o.lt _ e.symm).1)⟩ (Tch.of_off lL.o (F:=F) iF) (fun q _ h=>.inr h)) (fun q hq h=>?_);rcases h with h|h
  ·omega
  ·exact h
theorem kRl {w:World}{v pm:Value}{n x m:NT}{F Fk:Nat->Prop}{u:List Int}{lq cq i:Nat}(hg:Gh w v n F)(hF:∀q,F q->q<w.heap.size)(hm:Gh w pm m Fk)(iT:∀q,Fk q->q<w.heap.size/\¬F q)(hq:zKt w A lq cq (u++[(i:Int)]))(hx:kB n u=some x)(hi:i<=x.ks.length)(hs:x.ks.length<=500000):
  Calls Tryz.prog 43 #[v,.slice A lq cq,pm] w (kXj F Fk v (putT n u (jS x i 0 [m])) w):=by
 obtain⟨pu,Fm,hpt,d9,hsub,bv⟩:=Gh.sub u hg hx;obtain⟨b,lab,rs,ks,RA,rc,KA,kc,us,Fs,rfl,rfl,hO⟩:=d9.opened;have hik:i<=ks.length:=hi;have hsl:ks.length<=500000:=hs;obtain⟨bk,rfl⟩:=hm.ptr;obtain⟨KA',kc',eK,hkc,_,_⟩:=zC9 hO.hk;injection eK with kG _ lg;subst kG lg;have hvl:=kVi hO;have fS:=kQn hO;have iU:=hO.hl;obtain⟨D,hD,aA⟩:=kRj KA ks.length kc i hik hkc;have aC:=kQm KA ks.length kc i Kb;obtain⟨ul,eQ⟩:∃l,u.length=l:=⟨_,rfl⟩;have hlq:=hq.len;rw[List.length_append,List.length_singleton,eQ]at hlq;subst hlq;have nz:=hq.up;have hle:=hq.le;have hcap:=hq.cap;obtain⟨b0,o0,rfl,hb0,hc⟩:=hq.il.at_ (k:=ul) (by rw[List.length_append,eQ];simp);rw[<-eQ,kQo,eQ]at hc;have hbl:=hO.hb.lt;have c2:=hO.hb.cell 2 (.slice KA ks.length kc) rfl;have cZ:=hd hpt;have xy:=hd nz;have HO:=hd hO;have fF:=hd hvl;have lK:=hd fS;have HD:=hd hD;have dt:=hd bv;have HM:=hd hm;have CU:=hd iT;have aG:=hd hsub;have qi:=hd hF;have qj:=hd iU;clear hpt nz hq hO hvl fS hD bv hm iT hsub hF hg hx hi d9 hs iU;go_enter Tryz.func43,Tryz.ntmps43
 go_wp2_with(first
  |(go_at_call 21;refine Calls.mono (kOx cZ.o xy.o) ?_;rintro e w1 ⟨rfl,hw1⟩;have hw1:=hw1.symm;subst hw1)
  |(at_builtin;refine kNu gpG w rfl (.tmp 22) (.tmp 28) rfl w.heap.size rfl KA i kc w.heap.size (us.take i) rfl (by have:=qj.o;simp;omega) (fF.o.take i) (fun u hu=>lK.o u (List.mem_of_mem_take hu)) Kg Kb Km ?_;intro A1 c1 w2 hown hb2 hat;have HOWN:=hd hown;have aL:=hd hb2;have HV:=hd (HO.o.hb.keep hb2);clear hown hb2 hat)
  |(at_builtin;refine kOw gpG w2 rfl (.tmp 30) (.tmp 32) rfl w.heap.size (.slice A1 i c1) i (us.take i) [.pointer (some ⟨bk,0,none⟩)] rfl HOWN.o rfl rfl (by simp[Value.oneCell']) Kb Kd aL.o.size ?_;intro A3 c4 w3 hown hgr hat;have iJ:=hd hown;have CV:=hd hgr;have HV:=hd ((HV.o.alloc _).grew hgr (fun e=>by have:=(HOWN.o.lt _ e).1;omega));have bT:=hd ((aL.o.alloc aL.o.size _).grown hgr (by have:=aL.o.size;simp;omega) (fun j hj=>by have:=(HOWN.o.lt _ hj).1;omega));have c2:=HV.o.cell 2 (.slice KA ks.length kc) rfl;clear hown hgr hat)
  |(at_builtin;refine zK7 gpG w3 rfl (.tmp 35) (.tmp 41) rfl w.heap.size (.slice A3 (i+1) c4) (i+1) (us.take i++[.pointer (some ⟨bk,0,none⟩)]) rfl iJ.o D (ks.length-i) (kc-i) w.heap.size (us.drop i) rfl (by have:=qj.o;simp;omega) ((HD.o _ _ _ fF.o qj.o).below bT.o) (fun u hu=>lK.o u (List.mem_of_mem_drop hu)) Kg Kb bT.o.size ?_;intro A2 c3 w4 hown hgr hat;have fI:=hd hown;have cu:=hd hgr;have HV:=hd (HV.o.grew hgr (fun e=>by have:=(iJ.o.lt _ e).1;omega));clear hown hgr hat c2)
  |((with_reducible refine zF (ty:=62) (x:=.tmp 44) ?_);refine zFd kQ5 (r':=#[.int .i64 lab,.slice RA rs.length rc,.slice A2 (i+1+(ks.length-i)) c3]) HV.o _ _ rfl rfl rfl 2 (.slice A2 (i+1+(ks.length-i)) c3) rfl rfl rfl rfl (by show(2:Nat)<3;decide) rfl ?_;intro W5 hv ho;have dH:=hd hv;have lL:=hd ho;clear hv ho))
 go_end0
 have iE:=qi.o;have hsub:=aG.o;have tC:=CU.o;have hs2:=bT.o.size;have hs3:=cu.o.size;have hs5:=lL.o.size;have e1:i+1+(ks.length-i)=ks.length+1:=Kb;have iI:=dH.o;have hown:=fI.o;rw[e1]at iI hown;have keep:∀q,q<w.heap.size->q≠b->W5.heap[q]? =w.heap[q]? :=fun q hq hne=>by
  rw[lL.o.block q Kb hne,cu.o.block q Kb (fun e=>by have:=(iJ.o.lt _ e.symm).1;omega),bT.o.block q hq]
 have iF:F b:=hsub b HO.o.hF;have G1:=HO.o.put hik (fun q h=>iE q (hsub q h)) HM.o (fun q h=>⟨(tC q h).1,fun e=>(tC q h).2 (hsub q e)⟩) iI keep (kN9 hown lL.o fun e=>by have:=(hown.lt _ e).1;omega);have G2:=dt.o W5 _ _ G1 (fun q h1 h2=>keep q (iE q h1) fun e=>h2 (e▸HO.o.hF)) (fun q h1 h2 h3=>by
  rcases h1 with h1|h1|h1
  ·exact h2 h1
  ·exact(tC q h1).2 h3
  ·have:=iE q h3;omega)
 have e2:jS (.mk false [] (lab::rs) ks) i 0 [m]=.mk false [] (lab::rs) (ks.take i++[m]++ks.drop i):=rfl;refine⟨_,rfl,by rw[e2];exact G2,fun q h1=>?_,?_⟩
 ·rcases h1 with h1|h1|h1|h1
  ·exact .inl h1.1
  ·exact .inl (hsub q h1)
  ·exact .inr (.inl h1)
  ·exact .inr (.inr h1)
 ·refine(Tch.of_below bT.o).trans (Tch.trans (F:=fun q=>w.heap.size<=q∨F q) ⟨cu.o.os,cu.o.tape,cu.o.output,hs3,fun q hq hn=>cu.o.block q hq fun e=>hn (.inl (iJ.o.lt _ e.symm).1)⟩ (Tch.of_off lL.o (F:=F) iF) (fun q _ h=>.inr h)) (fun q hq h=>?_);rcases h with h|h
  ·omega
  ·exact h
