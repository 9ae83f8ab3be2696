import Derived.Test.YtmglnjmnabjjgaaGreatJBFew
set_option maxRecDepth 4000
namespace Go.Proofs.YtmglnjmnabjjgaaGreat
open Go.RowKit
variable {a k n n' x y:NT}{l p p' q u:List Int}{i j m z:Int}{s:Sl}{rest:List Oper}{op:Oper}{E:Bool}
theorem zTb (ks:List NT)(i m:Nat):sizeK ks=sizeK (ks.take i)+sizeK ((ks.drop i).take m)+sizeK (ks.drop (i+m)):=by
 have e:ks=ks.take i++((ks.drop i).take m++ks.drop (i+m)):=by
  conv=>lhs;rw[<-List.take_append_drop i ks,<-List.take_append_drop m (ks.drop i),List.drop_drop]
 conv=>lhs;rw[e]
 rw[kZ,kZ];omega
theorem kC3 (x:NT)(i m:Nat)(o:List NT):sizeT (jS x i m o)+sizeK ((x.ks.drop i).take m)=sizeT x+sizeK o:=by
 have h:=zTb x.ks i m;rw[jC (jS x i m o),jC x];show 1+x.tx.length+sizeK (spl x.ks i m o)+_=_
 unfold spl;rw[kZ,kZ];omega
theorem zGu (h:kB n u=some x)(i m:Nat)(o:List NT):sizeT (putT n u (jS x i m o))+sizeK ((x.ks.drop i).take m)=sizeT n+sizeK o:=by
 have h1:=zBo n u (jS x i m o) x h;have h2:=kC3 x i m o;omega
theorem zCk {ks:List NT}{i:Nat}(h:ks[i]? =some k):(ks.drop i).take 1=[k]:=by
 rw[zCo h];rfl
theorem zGv (k:NT)(i:Nat)(w:List Pr):sizeT (jN k i)+sizeT (zA2 k i w)=sizeT k+1:=by
 unfold jN zA2;by_cases h:k.lf=true
 ·rw[if_pos h,if_pos h,jC k];simp only[sizeT,sizeK,List.length_take,List.length_drop];omega
 ·rw[if_neg h,if_neg h,jC k];simp only[sizeT,List.length_nil];have:sizeK k.ks=sizeK (k.ks.take i)+sizeK (k.ks.drop i):=by rw[<-kZ,List.take_append_drop]
  omega
theorem zZk {lf:Bool}{ps:List Pr}{tx:List Int}{nk:Nat}:zPb lf ps tx nk=0 ↔ chk ps=0/\(lf=true->nk=0)/\(lf=false->tx=[])/\zNh tx=0:=by
 unfold zPb;by_cases h1:chk ps=0
 case neg=>rw[if_pos h1];exact⟨fun h=>absurd h h1,fun h=>absurd h.1 h1⟩
 rw[if_neg (by simp[h1])];cases lf
 ·by_cases h2:tx=[]
  ·subst h2;simp[h1]
  ·have:0<tx.length:=by cases tx<;>simp_all
   simp[h1,h2,this]
 ·by_cases h2:nk=0
  ·subst h2;simp[h1]
  ·have:0<nk:=Kb;simp[h1,h2,this]
theorem kC4 (n:NT):zAh n=0 ↔ zPb n.lf n.ps n.tx n.ks.length=0/\kBr n.ks=0:=by
 cases n with
 |mk lf ps tx ks=>
  rw[zAh];simp only[NT.lf,NT.ps,NT.tx,NT.ks];by_cases h:zPb lf ps tx ks.length=0
  ·rw[if_neg (by simp[h])];simp[h]
  ·rw[if_pos h];simp[h]
theorem zUr :∀(l:List NT),kBr l=0 ↔∀k ∈ l,zAh k=0
 |[]=>by simp[kBr]
 |k::r=>by
  rw[kBr];by_cases h:zAh k=0
  ·rw[if_neg (by simp[h]),zUr r];simp[h]
  ·rw[if_pos h];simp[h]
theorem kY (n:NT):zAh n=0 ↔ chk n.ps=0/\(n.lf=true->n.ks=[])/\(n.lf=false->n.tx=[])/\zNh n.tx=0/\∀k ∈ n.ks,zAh k=0:=by
 rw[kC4,zZk,zUr];constructor
 ·rintro⟨⟨h1,h2,h3,h4⟩,h5⟩;exact⟨h1,fun e=>List.eq_nil_of_length_eq_zero (h2 e),h3,h4,h5⟩
 ·rintro⟨h1,h2,h3,h4,h5⟩;exact⟨⟨h1,fun e=>by rw[h2 e];rfl,h3,h4⟩,h5⟩
theorem zAk {i:Nat}(h:zAh n=0)(hk:n.ks[i]? =some k):zAh k=0:=((kY n).1 h).2.2.2.2 k (List.mem_of_getElem? hk)
theorem zA6 :∀(n:NT)(p:List Int)(x:NT),zAh n=0->kB n p=some x->zAh x=0
 |n,[],x=>fun h hg=>by injection hg with hg;subst hg;exact h
 |n,i::r,x=>by
  rw[zR];cases hk:zBh n i with
  |none=>intro _ h2;cases h2
  |some k=>
   intro h h2;exact zA6 k r x (zAk h (zA1 hk).2.2) h2
def zDm (u p:List Int):Prop:=∃j r,p=u++j::r
theorem zF9 {a b:Int}:zDm (a::u) (b::p) ↔ a=b/\zDm u p:=by
 constructor
 ·rintro⟨j,r,h⟩;rw[List.cons_append]at h;injection h with h1 h2;exact⟨h1.symm,j,r,h2⟩
 ·rintro⟨rfl,j,r,rfl⟩;exact⟨j,r,rfl⟩
theorem zCh :∀(u:List Int)(i:Int)(p:List Int),¬zDm u p->zX (u++[i]) p=0
 |[],i,[],_=>zHi i []
 |[],i,y::p,h=>absurd ⟨y,p,rfl⟩ h
 |x::u,i,[],_=>zHi x (u++[i])
 |x::u,i,y::p,h=>by
  rw[List.cons_append,zF5 x (u++[i]) y p Kc];by_cases e:x=y
  ·rw[if_pos e];exact zCh u i p (fun h2=>h (zF9.2 ⟨e,h2⟩))
  ·rw[if_neg e]
theorem zAn :∀(u:List Int)(i j:Int)(r:List Int),zX (u++[i]) (u++j::r)=if j<i then 0 else if i<j then 1 else if r=[]then 2 else 3
 | [],i,j,r=>by
  obtain⟨h1,h2⟩:=zL2 i j r;rw[List.nil_append,List.nil_append];by_cases e1:j<i
  ·rw[if_pos e1];exact h1.2 e1
  rw[if_neg e1];by_cases e2:i<j
  ·rw[if_pos e2];exact h2.2 e2
  rw[if_neg e2];obtain rfl:i=j:=Kb;by_cases e3:r=[]
  ·subst e3;rw[if_pos rfl];exact zCw.2 rfl
  ·rw[if_neg e3];rcases zF4 [i] (i::r)with h|h|h|h
   ·exact absurd (h1.1 h) e1
   ·exact absurd (h2.1 h) e2
   ·have:=zCw.1 h;injection this with _ h5;exact absurd h5.symm e3
   ·exact h
 |x::u,i,j,r=>by
  rw[List.cons_append,List.cons_append,zF5 x (u++[i]) x (u++j::r) Kc,if_pos rfl];exact zAn u i j r
theorem zAv (u:List Int)(j v:Int)(r:List Int):addL (u++j::r) u.length v=u++(j+v)::r:=by
 unfold addL;have e:iAt (u++j::r) u.length=j:=by
  rw[jY _ _ Kc];simp
 rw[e,List.set_append_right _ _ Km,Nat.sub_self];rfl
theorem zFb (u:List Int)(j l v:Int)(r:List Int):addL (u++j::l::r) (u.length+1) v=u++j::(l+v)::r:=by
 have h:=zAv (u++[j]) l v r;rw[List.length_append,List.length_singleton]at h;simpa using h
theorem zKl (u:List Int)(j l:Int)(r:List Int):iAt (u++j::l::r) (u.length+1)=l:=by
 rw[jY _ _ Kc];rw[List.getElem_append_right Kb];simp
def kE (y y':NT):Prop:=y'.lf=y.lf/\y'.tx=y.tx
theorem kE.refl (y:NT):kE y y:=⟨rfl,rfl⟩
theorem zAc (h:kB n u=some x)(j:Int)(r:List Int):kB n (u++j::r)=(zBh x j).bind fun k=>kB k r:=by
 rw[jJ,h];show kB x (j::r)=_;exact zR
theorem zDn :∀(n:NT)(u p:List Int)(x x' y:NT),kB n u=some x->kE x x'->kB n p=some y->¬zDm u p->∃y',kB (putT n u x') p=some y'/\kE y y'
 |n,[],[],x,x',y=>fun h1 h2 h3 _=>by
  injection h1 with h1;injection h3 with h3;subst h1;subst h3;exact⟨x',rfl,h2⟩
 |n,[],j::r,x,x',y=>fun _ _ _ h=>absurd ⟨j,r,rfl⟩ h
 |n,i::u,[],x,x',y=>fun h1 _ h3 _=>by
  rw[zR]at h1;injection h3 with h3;subst h3;cases hk:zBh n i with
  |none=>rw[hk]at h1;cases h1
  |some k=>simp only[putT,hk];exact⟨_,rfl,rfl,rfl⟩
 | n,i::u,j::r,x,x',y=>fun h1 h2 h3 h4=>by
  rw[zR]at h1 h3;cases hk:zBh n i with
  |none=>rw[hk]at h1;cases h1
  |some k=>
   rw[hk]at h1;simp only[putT,hk];rw[zR];by_cases e:j=i
   ·subst e;rw[hk]at h3;rw[zIg (zCy hk)];exact zDn k u r x x' y h1 h2 h3 (fun h5=>h4 (zF9.2 ⟨rfl,h5⟩))
   ·rw[zF3 (zCy hk) e];exact⟨y,h3,kE.refl y⟩
theorem zDa (h:zBh x j=some k):∃i:Nat,j=(i:Int)/\x.ks[i]? =some k:=by
 obtain⟨h1,h2,h3⟩:=zA1 h;exact⟨j.toNat,by omega,h3⟩
theorem zAw {x':NT}(h:kB n u=some x)(j:Nat)(r:List Int)(hk:x'.ks[j]? =some k):kB (putT n u x') (u++(j:Int)::r)=kB k r:=by
 rw[zAc (jX n u x' x h),zA9,hk];rfl
theorem zJl {m:NT}{i:Nat}(hg:kB n u=some x)(hi:i<=x.ks.length)(hy:kB n p=some y):
  ∃y',kB (putT n u (jS x i 0 [m])) (jH 1 (u++[(i:Int)]) 0 p).1=some y'/\kE y y':=by
 rw[kFe (q:=u++[(i:Int)]) (k:=u.length) Kc];by_cases hU:zDm u p
 ·obtain⟨j,r,rfl⟩:=hU;rw[zAc hg]at hy;cases hk:zBh x j with
  |none=>rw[hk]at hy;cases hy
  |some k=>
   rw[hk]at hy;obtain⟨jj,rfl,hkk⟩:=zDa hk;rw[zAn];by_cases hlt:(jj:Int)<i
   ·rw[if_pos hlt,if_pos rfl];exact⟨y,(zAw (x':=jS x i 0 [m]) hg jj r (show(spl x.ks i 0 [m])[jj]? =some k by rw[zBp Kb hi];exact hkk)).trans hy,kE.refl y⟩
   ·rw[if_neg hlt,if_neg (by split<;>(try split)<;>omega),zAv];refine⟨y,?_,kE.refl y⟩;have:=zCj (ks:=x.ks) (o:=[m]) (i:=i) (m:=0) (j:=jj-i) Kb;rw[show i+[m].length+(jj-i)=jj+1 by simp;omega,show i+0+(jj-i)=jj by omega,hkk]at this;exact(zAw (x':=jS x i 0 [m]) hg (jj+1) r this).trans hy
 ·rw[zCh u i p hU,if_pos rfl];exact zDn n u p x _ y hg ⟨rfl,rfl⟩ hy hU
theorem zJm {i:Nat}(hg:kB n u=some x)(hi:i<x.ks.length)(hy:kB n p=some y)(hm:jH 2 (u++[(i:Int)]) 0 p=(p',true)):
  ∃y',kB (putT n u (jS x i 1 [])) p'=some y'/\kE y y':=by
 rw[zQs (q:=u++[(i:Int)]) (k:=u.length) Kc]at hm;by_cases hU:zDm u p
 ·obtain⟨j,r,rfl⟩:=hU;rw[zAc hg]at hy;cases hk:zBh x j with
  |none=>rw[hk]at hy;cases hy
  | some k=>
   rw[hk]at hy;obtain⟨jj,rfl,hkk⟩:=zDa hk;rw[zAn]at hm;by_cases hlt:(jj:Int)<i
   ·rw[if_pos hlt,if_pos rfl]at hm;rw[<-(zO hm).1];exact⟨y,(zAw (x':=jS x i 1 []) hg jj r (show(spl x.ks i 1 [])[jj]? =some k by rw[zBp Kb Kb];exact hkk)).trans hy,kE.refl y⟩
   ·rw[if_neg hlt]at hm;by_cases hgt:(i:Int)<jj
    ·rw[if_pos hgt,if_neg Kd,if_pos rfl,zAv]at hm;rw[<-(zO hm).1];refine⟨y,?_,kE.refl y⟩;have:=zCj (ks:=x.ks) (o:=[]) (i:=i) (m:=1) (j:=jj-i-1) Kb;rw[show i+([]:List NT).length+(jj-i-1)=jj-1 by simp;omega,show i+1+(jj-i-1)=jj by omega,hkk]at this;have h2:=(zAw (x':=jS x i 1 []) hg (jj-1) r this).trans hy;rw[show((jj-1:Nat):Int)=(jj:Int)+ -1 by omega]at h2;exact h2
    ·rw[if_neg hgt]at hm;rw[if_neg (by split<;>decide),if_neg (by split<;>decide)]at hm;exact absurd (zO hm).2 Kd
 ·rw[zCh u i p hU,if_pos rfl]at hm;rw[<-(zO hm).1];exact zDn n u p x _ y hg ⟨rfl,rfl⟩ hy hU
theorem zGw (u:List Int)(r:List Int)(h:j<i):zX (u++[i]) (u++j::r)=0:=by rw[zAn,if_pos h]
theorem zJn (u:List Int)(r:List Int)(h:i<j):zX (u++[i]) (u++j::r)=1:=by rw[zAn,if_neg Kb,if_pos h]
theorem zGa (u:List Int)(i:Int):zX (u++[i]) (u++[i])=2:=zCw.2 rfl
theorem zGb (u:List Int)(i l:Int)(r:List Int):zX (u++[i]) (u++i::l::r)=3:=by rw[zAn,if_neg Kb,if_neg Kb,if_neg Kc]
theorem zO6 {b m:NT}{i:Nat}(hg:kB n u=some x)(hb:x.ks[i]? =some b)(hk:x.ks[i+1]? =some k)(hmk:m.ks=b.ks++k.ks)(hz:k.ks≠[]->z=b.ks.length)(hy:kB n p=some y)(hm:jH 3 (u++[((i+1:Nat):Int)]) z p=(p',true)):
  ∃y',kB (putT n u (jS x i 2 [m])) p'=some y'/\(if p=u++[(i:Int)]∨p=u++[((i+1:Nat):Int)]then y'=m else kE y y'):=by
 have hlen:=(List.getElem?_eq_some_iff.1 hk).1;have hmid:(spl x.ks i 2 [m])[i]? =some m:=by
  have:=zAz (ks:=x.ks) (o:=[m]) (i:=i) (m:=2) (j:=0) Kc Kb;simpa using this
 have hl:lastL (u++[((i+1:Nat):Int)])≠0:=by rw[zC0];omega
 have hm2:(if zX (u++[((i+1:Nat):Int)]) p=0 then(p,true)else if zX (u++[((i+1:Nat):Int)]) p=3 then(addL (addL p u.length (-1)) (u.length+1) z,true)else(addL p u.length (-1),true))=(p',true):=by
  unfold jH at hm;rw[if_neg Kc,if_neg Kd,if_neg Kd,if_pos rfl,if_neg hl]at hm;rw[List.length_append,List.length_singleton,Nat.add_sub_cancel,plus2,zOv]at hm;exact hm
 clear hm;by_cases hU:zDm u p
 case neg=>
  rw[zCh u _ p hU,if_pos rfl]at hm2;rw[<-(zO hm2).1];obtain⟨y',h1,h2⟩:=zDn n u p x (jS x i 2 [m]) y hg ⟨rfl,rfl⟩ hy hU;refine⟨y',h1,?_⟩;rw[if_neg (by rintro(rfl|rfl)<;>exact hU ⟨_,[],rfl⟩)];exact h2
 obtain⟨j,r,rfl⟩:=hU;rw[zAc hg]at hy;cases hkk:zBh x j with
 |none=>rw[hkk]at hy;cases hy
 | some c=>
  rw[hkk]at hy;obtain⟨jj,rfl,hc⟩:=zDa hkk;have dJ:kB c r=some y:=hy;have hne:∀(a:Nat),(a:Int)≠jj->u++(jj:Int)::r≠u++[(a:Int)]:=fun a ha e=>by
   have:=List.append_cancel_left e;injection this with h1 _;exact ha h1.symm
  rcases Nat.lt_trichotomy jj i with hlt|heq|hgt
  ·rw[zGw u r Kb,if_pos rfl]at hm2;rw[<-(zO hm2).1];refine⟨y,(zAw (x':=jS x i 2 [m]) hg jj r (show(spl x.ks i 2 [m])[jj]? =some c by rw[zBp hlt Kb];exact hc)).trans dJ,?_⟩;rw[if_neg (by rintro(e|e);exact hne i Kb e;exact hne (i+1) Kb e)];exact kE.refl y
  ·subst heq;obtain rfl:c=b:=by rw[hb]at hc;injection hc with hc;exact hc.symm
   rw[zGw u r Kb,if_pos rfl]at hm2;rw[<-(zO hm2).1];cases r with
   |nil=>exact⟨m,zAw (x':=jS x jj 2 [m]) hg jj [] hmid,by rw[if_pos (.inl rfl)]⟩
   | cons l r'=>
    rw[zR]at dJ;cases hl2:zBh c l with
    |none=>rw[hl2]at dJ;cases dJ
    |some q=>
     rw[hl2]at dJ;obtain⟨ll,rfl,hq⟩:=zDa hl2;have bj:=(List.getElem?_eq_some_iff.1 hq).1;refine⟨y,?_,?_⟩
     ·rw[zAw (x':=jS x jj 2 [m]) hg jj _ hmid,zR,zA9,hmk,List.getElem?_append_left bj,hq];exact dJ
     ·rw[if_neg (by rintro(e|e)<;>(have:=List.append_cancel_left e;injection this with _ h2;cases h2))];exact kE.refl y
  ·by_cases heq:jj=i+1
   ·subst heq;obtain rfl:c=k:=by rw[hk]at hc;injection hc with hc;exact hc.symm
    cases r with
    |nil=>
     rw[zGa,if_neg Kd,if_neg Kd,zAv]at hm2;rw[<-(zO hm2).1,show((i+1:Nat):Int)+ -1=(i:Int) by omega];exact⟨m,zAw (x':=jS x i 2 [m]) hg i [] hmid,by rw[if_pos (.inr rfl)]⟩
    | cons l r'=>
     rw[zGb,if_neg Kd,if_pos rfl,zAv,show((i+1:Nat):Int)+ -1=(i:Int) by omega,zFb]at hm2;rw[<-(zO hm2).1];rw[zR]at dJ;cases hl2:zBh c l with
     |none=>rw[hl2]at dJ;cases dJ
     |some q=>
      rw[hl2]at dJ;obtain⟨ll,rfl,hq⟩:=zDa hl2;have hz1:=hz (fun e=>by rw[e]at hq;simp at hq);refine⟨y,?_,?_⟩
      ·rw[zAw (x':=jS x i 2 [m]) hg i _ hmid,zR,show(ll:Int)+z=((b.ks.length+ll:Nat):Int) by omega,zA9,hmk,List.getElem?_append_right Kb,show b.ks.length+ll-b.ks.length=ll by omega,hq];exact dJ
      ·rw[if_neg (by rintro(e|e)<;>(have:=List.append_cancel_left e;injection this with _ h2;cases h2))];exact kE.refl y
   ·rw[zJn u r Kb,if_neg Kd,if_neg Kd,zAv]at hm2;rw[<-(zO hm2).1];have:=zCj (ks:=x.ks) (o:=[m]) (i:=i) (m:=2) (j:=jj-i-2) Kb;rw[show i+[m].length+(jj-i-2)=jj-1 by simp;omega,show i+2+(jj-i-2)=jj by omega,hc]at this;have h2:=(zAw (x':=jS x i 2 [m]) hg (jj-1) r this).trans dJ;rw[show((jj-1:Nat):Int)=(jj:Int)+ -1 by omega]at h2;refine⟨y,h2,?_⟩;rw[if_neg (by rintro(e|e);exact hne i Kb e;exact hne (i+1) Kb e)];exact kE.refl y
theorem zO7 {h t:NT}{i:Nat}{z:Nat}(hg:kB n u=some x)(hk:x.ks[i]? =some k)(hh:h.ks=k.ks.take z)(ht:t.ks=k.ks.drop z)(hy:kB n p=some y)(hm:jH 4 (u++[(i:Int)]) (z:Int) p=(p',true)):
  ∃y',kB (putT n u (jS x i 1 [h,t])) p'=some y'/\(if p=u++[(i:Int)]then y'=h else kE y y'):=by
 have hlen:=(List.getElem?_eq_some_iff.1 hk).1;have ig:(spl x.ks i 1 [h,t])[i]? =some h:=by
  have:=zAz (ks:=x.ks) (o:=[h,t]) (i:=i) (m:=1) (j:=0) Kc Kb;simpa using this
 have hm2:(spl x.ks i 1 [h,t])[i+1]? =some t:=by
  have:=zAz (ks:=x.ks) (o:=[h,t]) (i:=i) (m:=1) (j:=1) Kc Kb;simpa using this
 have ij:(if zX (u++[(i:Int)]) p=1 then(addL p u.length 1,true)else if zX (u++[(i:Int)]) p=3/\(z:Int)<=iAt p (u.length+1)then(addL (addL p u.length 1) (u.length+1) (-(z:Int)),true)else(p,true))=(p',true):=by
  unfold jH at hm;rw[if_neg Kc,if_neg Kd,if_neg Kd,if_neg Kd,if_pos rfl]at hm;rw[List.length_append,List.length_singleton,Nat.add_sub_cancel,plus2,zOv]at hm;exact hm
 clear hm;by_cases hU:zDm u p
 case neg=>
  rw[zCh u _ p hU,if_neg Kd,if_neg Kc]at ij;rw[<-(zO ij).1];obtain⟨y',h1,h2⟩:=zDn n u p x (jS x i 1 [h,t]) y hg ⟨rfl,rfl⟩ hy hU;refine⟨y',h1,?_⟩;rw[if_neg (by rintro rfl;exact hU ⟨_,[],rfl⟩)];exact h2
 obtain⟨j,r,rfl⟩:=hU;rw[zAc hg]at hy;cases hkk:zBh x j with
 |none=>rw[hkk]at hy;cases hy
 | some c=>
  rw[hkk]at hy;obtain⟨jj,rfl,hc⟩:=zDa hkk;have dJ:kB c r=some y:=hy;have hne:(i:Int)≠jj->u++(jj:Int)::r≠u++[(i:Int)]:=fun ha e=>by
   have:=List.append_cancel_left e;injection this with h1 _;exact ha h1.symm
  rcases Nat.lt_trichotomy jj i with hlt|heq|hgt
  ·rw[zGw u r Kb,if_neg Kd,if_neg Kc]at ij;rw[<-(zO ij).1];refine⟨y,(zAw (x':=jS x i 1 [h,t]) hg jj r (show(spl x.ks i 1 [h,t])[jj]? =some c by rw[zBp hlt Kb];exact hc)).trans dJ,?_⟩;rw[if_neg (hne Kb)];exact kE.refl y
  ·subst heq;obtain rfl:c=k:=by rw[hk]at hc;injection hc with hc;exact hc.symm
   cases r with
   |nil=>
    rw[zGa,if_neg Kd,if_neg Kc]at ij;rw[<-(zO ij).1];exact⟨h,zAw (x':=jS x jj 1 [h,t]) hg jj [] ig,by rw[if_pos rfl]⟩
   | cons l r'=>
    rw[zGb,if_neg Kd,zKl,zAv,zFb]at ij;rw[zR]at dJ;cases hl2:zBh c l with
    |none=>rw[hl2]at dJ;cases dJ
    |some q=>
     rw[hl2]at dJ;obtain⟨ll,rfl,hq⟩:=zDa hl2;have hnn:¬u++(jj:Int)::(ll:Int)::r'=u++[(jj:Int)]:=by
      intro e;have:=List.append_cancel_left e;injection this with _ h2;cases h2
     by_cases hzl:(z:Int)<=ll
     ·rw[if_pos ⟨rfl,hzl⟩]at ij;rw[<-(zO ij).1];refine⟨y,?_,by rw[if_neg hnn];exact kE.refl y⟩;have h2:=zAw (x':=jS x jj 1 [h,t]) hg (jj+1) ((((ll-z:Nat):Nat):Int)::r') hm2;rw[zR,zA9,ht,List.getElem?_drop,show z+(ll-z)=ll by omega,hq]at h2;rw[show((jj+1:Nat):Int)=(jj:Int)+1 by omega,show((ll-z:Nat):Int)=(ll:Int)+ -(z:Int) by omega]at h2;exact h2.trans dJ
     ·rw[if_neg (fun e=>hzl e.2)]at ij;rw[<-(zO ij).1];refine⟨y,?_,by rw[if_neg hnn];exact kE.refl y⟩;rw[zAw (x':=jS x jj 1 [h,t]) hg jj _ ig,zR,zA9,hh,List.getElem?_take_of_lt Kb,hq];exact dJ
  ·rw[zJn u r Kb,if_pos rfl,zAv]at ij;rw[<-(zO ij).1];have:=zCj (ks:=x.ks) (o:=[h,t]) (i:=i) (m:=1) (j:=jj-i-1) Kb;rw[show i+[h,t].length+(jj-i-1)=jj+1 by simp;omega,show i+1+(jj-i-1)=jj by omega,hc]at this;refine⟨y,(zAw (x':=jS x i 1 [h,t]) hg (jj+1) r this).trans dJ,?_⟩;rw[if_neg (hne Kb)];exact kE.refl y
theorem zGx {k':NT}(hg:kB n q=some k)(hks:k'.ks=k.ks)(_hl:k'.lf=k.lf)(hy:kB n p=some y):∃y',kB (putT n q k') p=some y'/\(if p=q then y'=k' else kE y y'):=by
 by_cases e:p=q
 ·subst e;exact⟨k',jX n p k' k hg,by rw[if_pos rfl]⟩
 by_cases hU:zDm q p
 ·obtain⟨j,r,rfl⟩:=hU;refine⟨y,?_,by rw[if_neg e];exact kE.refl y⟩;rw[zAc (jX n q k' k hg)];rw[zAc hg]at hy;unfold zBh at hy⊢;rw[hks];exact hy
 ·simp only[e,if_false];by_cases hP:q<+:p
  ·obtain⟨r,rfl⟩:=hP;cases r with
   |nil=>simp at e
   |cons j r=>exact absurd ⟨j,r,rfl⟩ hU
  by_cases xY:p<+:q
  ·obtain⟨r,rfl⟩:=xY;have hr:r≠[]:=fun h=>e (by rw[h];simp);rw[jJ,hy]at hg;rw[zEz n p r k' y hy];refine⟨putT y r k',jX n p _ y hy,?_⟩;cases r with
   |nil=>exact absurd rfl hr
   |cons j r=>
    have hg2:kB y (j::r)=some k:=hg;rw[zR]at hg2;cases hk:zBh y j with
    |none=>rw[hk]at hg2;cases hg2
    |some c=>simp only[putT,hk];exact⟨rfl,rfl⟩
  ·exact⟨y,(zHg n q p k' k hg hP xY).trans hy,kE.refl y⟩
theorem jZ {o:OpP}{f:List Int->List Int×Int}(h:zP1 n o f=(a,0)):∃k,kB n o.q=some k/\k.lf=true/\(f k.tx).2=0/\a=putT n o.q (zCz k (f k.tx).1):=by
 unfold zP1 at h;cases hg:kB n o.q with
 |none=>rw[zB2 hg,if_pos Kd]at h;cases h
 |some k=>
  rw[kP hg,if_neg Kc]at h;by_cases hl:k.lf=false
  ·rw[if_pos hl]at h;cases h
  rw[if_neg hl]at h;unfold kI0 at h;by_cases h0:(f k.tx).2=0
  case neg=>rw[if_pos h0]at h;exact absurd (zO h).2 h0
  rw[if_neg (by simp[h0])]at h;exact⟨k,rfl,by simpa using hl,h0,(zO h).1.symm⟩
theorem zC6 {o:OpP}(h:setO n o=(a,0)):∃k,o.q.length≠0/\kB n o.q=some k/\Can k.ps o.o o.w/\a=putT n o.q (zEs k (zA7 k.ps o.o o.w)):=by
 unfold setO at h;by_cases hq:o.q.length=0
 ·rw[if_pos hq]at h;cases h
 rw[if_neg hq]at h;cases hg:kB n o.q with
 |none=>rw[zB2 hg,if_pos Kd]at h;cases h
 |some k=>
  rw[kP hg,if_neg Kc]at h;unfold set2 at h;by_cases h0:PE k.ps o.o o.w=0
  case neg=>rw[if_pos h0]at h;exact absurd (zO h).2 h0
  rw[if_neg (by simp[h0])]at h;exact⟨k,hq,rfl,zPj.1 h0,(zO h).1.symm⟩
theorem zCd {o:OpP}(h:kB7 n o=(a,0)):zAd o.n=0/\zGo n o.q o.n=(a,0):=by
 unfold kB7 at h;by_cases h0:zAd o.n=0
 case neg=>rw[if_pos h0]at h;exact absurd (zO h).2 h0
 rw[if_neg (by simp[h0])]at h;exact⟨h0,h⟩
theorem zCl {o:OpP}(h:zVk n o=(a,0)):zBw n o.q=(a,0)/\zE3 n o.q=o.n:=by
 unfold zVk at h;by_cases h0:(zBw n o.q).2=0
 case neg=>rw[if_pos h0]at h;exact absurd (zO h).2 h0
 rw[if_neg (by simp[h0])]at h;by_cases h1:eqT (zE3 n o.q) o.n=true
 case neg=>rw[if_neg h1]at h;cases h
 rw[if_pos h1]at h;exact⟨Prod.ext (zO h).1 h0,(zIw _ _).1 h1⟩
theorem zBz {o:OpP}(h:zVl n o=(a,0)):(zBw n o.q).2=0/\zGo (zBw n o.q).1 o.t (zE3 n o.q)=(a,0):=by
 unfold zVl at h;by_cases h0:(zBw n o.q).2=0
 case neg=>rw[if_pos h0]at h;exact absurd (zO h).2 h0
 rw[if_neg (by simp[h0])]at h;exact⟨h0,h⟩
theorem zKi {r s:List Int}{p:Int}(h:zFx r p s=(l,0)):l.length=r.length+s.length:=(zSq r p s l h).2
theorem zKj {r s:List Int}{p:Int}(h:zFe r p s=(l,0)):l.length+s.length=r.length:=((zSq l p s r (zYn r p s l h)).2).symm
theorem zC7 {o:OpP}(h1:1<=o.k)(h8:o.k<=8)(h:doO n o=(a,0)):
  (o.k=1/\kB7 n o=(a,0))∨(o.k=2/\zVk n o=(a,0))∨(o.k=3/\kBo n o=(a,0))∨(o.k=4/\kBp n o=(a,0))∨(o.k=5/\zVl n o=(a,0))∨(o.k=6/\setO n o=(a,0))∨(o.k=7/\zP1 n o (fun r=>zFx r o.z o.x)=(a,0))∨(o.k=8/\zP1 n o (fun r=>zFe r o.z o.x)=(a,0)):=by
 unfold doO at h;rcases(show o.k=1∨o.k=2∨o.k=3∨o.k=4∨o.k=5∨o.k=6∨o.k=7∨o.k=8 by omega)with e|e|e|e|e|e|e|e<;>simp only[e]at h<;>simp at h<;>simp[e,h]
theorem zFn (h:(zBw n p).2=0):sizeT (zBw n p).1+sizeT (zE3 n p)=sizeT n:=by
 obtain⟨u,i,x,k,hf⟩:=zBn h;have h1:=zGu hf.at_ i 1 [];rw[zCk hf.kid]at h1;rw[hf.eq,hf.got];simp only[sizeK]at h1;omega
theorem kX (h:zAh k=0):(k.lf=true->k.ks=[])/\(k.lf=false->k.tx=[]):=⟨((kY k).1 h).2.1,((kY k).1 h).2.2.1⟩
theorem kKb {o:OpP}(e:o.k=1):doO n o=kB7 n o:=by unfold doO;rw[if_pos e]
theorem kM0 {o:OpP}(e:o.k=2):doO n o=zVk n o:=by unfold doO;rw[if_neg Kb,if_pos e]
theorem kM1 {o:OpP}(e:o.k=3):doO n o=kBo n o:=by unfold doO;rw[if_neg Kb,if_neg Kb,if_pos e]
theorem kLm {o:OpP}(e:o.k=4):doO n o=kBp n o:=by unfold doO;rw[if_neg Kb,if_neg Kb,if_neg Kb,if_pos e]
theorem kLn {o:OpP}(e:o.k=5):doO n o=zVl n o:=by unfold doO;rw[if_neg Kb,if_neg Kb,if_neg Kb,if_neg Kb,if_pos e]
theorem kLo {o:OpP}(e:o.k=6):doO n o=setO n o:=by unfold doO;rw[if_neg Kb,if_neg Kb,if_neg Kb,if_neg Kb,if_neg Kb,if_pos e]
theorem kLp {o:OpP}(e:o.k=7):doO n o=zP1 n o (fun r=>zFx r o.z o.x):=by unfold doO;rw[if_neg Kb,if_neg Kb,if_neg Kb,if_neg Kb,if_neg Kb,if_neg Kb,if_pos e]
theorem kLq {o:OpP}(e:o.k=8):doO n o=zP1 n o (fun r=>zFe r o.z o.x):=by unfold doO;rw[if_neg Kb,if_neg Kb,if_neg Kb,if_neg Kb,if_neg Kb,if_neg Kb,if_neg Kb]
theorem zDz {k:Int}(h:6<=k):jH k q z p=(p,true):=by
 unfold jH;split
 ·rfl
 ·rw[if_neg Kb,if_neg Kb,if_neg Kb,if_neg Kb]
theorem kRv {o:OpP}(hf:zCx o=0)(hk:o.k=1∨o.k=2∨o.k=5∨o.k=6):o.z=0:=by
 have h:=(zOy hf).2;obtain⟨k,q,t,z,n,ol,w,x,f,g⟩:=o;simp only at hk;rcases hk with rfl|rfl|rfl|rfl<;>(simp[fieldsO,zeroO]at h;(try simp[h]))
theorem zC1 (h:zAd n=0):zAh n=0:=by
 unfold zAd at h;split at h
 ·cases h
 ·exact h
theorem zEf {α:Type}{a b:α}{e:Int}(h:(a,e)=(b,0)):e=0:=by injection h
theorem zH8 {o:OpP}{r:NT×Sl}(h:jL n s o=(r,0)):zAd n=0/\n.lf=false/\zE8 n s=0/\zCx o=0/\
  ((o.k=9/\s=o.f/\zE8 n o.g=0/\r=(n,o.g))∨(1<=o.k/\o.k<=8/\doO n o=(r.1,0)/\(s.is=true->zBl s.a o=true/\zBl s.f o=true)/\r.2=s)):=by
 unfold jL at h;by_cases h1:zAd n=0
 case neg=>rw[if_pos h1]at h;exact absurd (zEf h) h1
 rw[if_neg (by simp[h1])]at h;by_cases h2:n.lf=true
 ·rw[if_pos h2]at h;exact absurd (zEf h) Kd
 rw[if_neg h2]at h;by_cases h3:zE8 n s=0
 case neg=>rw[if_pos h3]at h;exact absurd (zEf h) h3
 rw[if_neg (by simp[h3])]at h;by_cases h4:zCx o=0
 case neg=>rw[if_pos h4]at h;exact absurd (zEf h) h4
 rw[if_neg (by simp[h4])]at h;refine⟨h1,by simpa using h2,h3,h4,?_⟩;have hk:=(zOy h4).1;simp only[kindB,Bool.and_eq_true,decide_eq_true_iff]at hk;by_cases h9:o.k=9
 ·rw[if_pos h9]at h;left
  by_cases h5:zF7 s o.f=false
  ·rw[if_pos h5]at h;exact absurd (zEf h) Kd
  rw[if_neg h5]at h;by_cases h6:zE8 n o.g=0
  case neg=>rw[if_pos h6]at h;exact absurd (zEf h) h6
  rw[if_neg (by simp[h6])]at h;exact⟨h9,(zC4 _ _).1 (by simpa using h5),h6,(zO h).1.symm⟩
 ·rw[if_neg h9]at h;right
  by_cases h5:(doO n o).2=0
  case neg=>rw[if_pos h5]at h;exact absurd (zEf h) h5
  rw[if_neg (by simp[h5])]at h;by_cases h6:(s.is&& !(zBl s.a o&&zBl s.f o))=true
  ·rw[if_pos h6]at h;exact absurd (zEf h) Kd
  rw[if_neg h6]at h;have hr:=(zO h).1;refine⟨hk.1,by omega,by rw[<-hr];exact Prod.ext rfl h5,fun his=>?_,by rw[<-hr]⟩;rw[his]at h6;simpa using h6
theorem zJk {o:OpP}(h:(jL n s o).2≠0):(jL n s o).1=(zeroT,zeroS):=by
 unfold jL at h⊢;by_cases h1:zAd n=0
 case neg=>rw[if_pos h1]
 rw[if_neg (by simp[h1])]at h⊢;by_cases h2:n.lf=true
 ·rw[if_pos h2]
 rw[if_neg h2]at h⊢;by_cases h3:zE8 n s=0
 case neg=>rw[if_pos h3]
 rw[if_neg (by simp[h3])]at h⊢;by_cases h4:zCx o=0
 case neg=>rw[if_pos h4]
 rw[if_neg (by simp[h4])]at h⊢;by_cases h9:o.k=9
 ·rw[if_pos h9]at h⊢;by_cases h5:zF7 s o.f=false
  ·rw[if_pos h5]
  rw[if_neg h5]at h⊢;by_cases h6:zE8 n o.g=0
  case neg=>rw[if_pos h6]
  rw[if_neg (by simp[h6])]at h;exact absurd rfl h
 ·rw[if_neg h9]at h⊢;by_cases h5:(doO n o).2=0
  case neg=>rw[if_pos h5]
  rw[if_neg (by simp[h5])]at h⊢;by_cases h6:(s.is&& !(zBl s.a o&&zBl s.f o))=true
  ·rw[if_pos h6]
  rw[if_neg h6]at h;exact absurd rfl h
def kC5 (t:TypeId)(n:Nat):Prop:=∃d,Tryz.prog.underlying t=some d/\d.isRow=true/\(Tryz.prog.info? t).map (·.size)=some n
def jT (t:TypeId)(w:World)(g:Nat)(r:Array Value):Prop:=w.heap[g]? =some (.cells r t (0,0))
section
variable {t:TypeId}{w w':World}{g:Nat}{r r':Array Value}
theorem jT.lt (h:jT t w g r):g<w.heap.size:=(Array.getElem?_eq_some_iff.1 h).1
theorem jT.keep (h:jT t w g r)(hb:Below w.heap.size w w'):jT t w' g r:=(hb.block _ h.lt).trans h
theorem jT.off {k:Nat}(h:jT t w g r)(ho:Off k w w')(hne:g≠k):jT t w' g r:=(ho.block _ h.lt hne).trans h
theorem jT.new (w:World)(t:TypeId)(r:Array Value):jT t (w.alloc (.cells r t)) w.heap.size r:=heap_alloc_new w _
theorem jT.alloc (h:jT t w g r)(o:Obj):jT t (w.alloc o) g r:=h.keep (Kl.alloc Km _)
theorem jT.cell (h:jT t w g r)(j:Nat)(v:Value)(hv:r[j]? =some v):w.cell? ⟨g,j,none⟩=some v:=by
 unfold jT at h;simp[World.cell?,h,hv]
end
theorem zB {t:TypeId}{n:Nat}(hrow:kC5 t n){ops:Array Oper}{a:Act}{w:World}{Q:Exit->Act->World->Prop}{g:Nat}{r:Array Value}(h:jT t w g r)(hn:r.size=n)
  (x:Operand) (ho:op.op=.load t x) (hgd:op.guard=none) (hx:a.eval x=.pointer (some ⟨g,0,none⟩)) (hk:wpList Tryz.prog ops Q rest (a.put op.dst (.agg r)) w):wpList Tryz.prog ops Q (op::rest) a w:=by
 obtain⟨d,h1,h2,h3⟩:=hrow;exact wpList_load_mid hgd t x ho g 0 hx r.toList d (fun i v hi=>by rw[Nat.zero_add];exact h.cell i v (by simpa using hi)) h1 h2 (by rw[h3,<-hn];simp) hk
theorem zK {t:TypeId}{n:Nat}(hrow:kC5 t n){ops:Array Oper}{a:Act}{w:World}{Q:Exit->Act->World->Prop}{g:Nat}{r:Array Value}(h:jT t w g r)(hn:r.size=n)
  (x:Operand) (ho:op.op=.load t x) (hw:Region.wanted op (yielded ops a.tmps)=true) (hx:a.eval x=.pointer (some ⟨g,0,none⟩)) (hk:wpList Tryz.prog ops Q rest (a.put op.dst (.agg r)) w):wpList Tryz.prog ops Q (op::rest) a w:=by
 obtain⟨d,h1,h2,h3⟩:=hrow;refine wpList_step fun K hK=>?_;rw[if_pos hw];exact wp_load_mid t x ho g 0 hx r.toList d (fun i v hi=>by rw[Nat.zero_add];exact h.cell i v (by simpa using hi)) h1 h2 (by rw[h3,<-hn];simp) (hK _ _ hk)
theorem zA {t:TypeId}{n:Nat}(hrow:kC5 t n){ops:Array Oper}{a:Act}{W:World}{Q:Exit->Act->World->Prop}{g:Nat}{r0 r:Array Value}(h:jT t W g r0)(hn0:r0.size=n)(hn:r.size=n)(hone:r.all (·.oneCell')=true)(x y:Operand)(ho:op.op=.store t x y)(hgd:op.guard=none)(hd:op.dst=none)(hx:a.eval x=.pointer (some ⟨g,0,none⟩))(hy:a.eval y=.agg r)
  (hk:∀W',jT t W' g r->Off g W W'->wpList Tryz.prog ops Q rest a W'):wpList Tryz.prog ops Q (op::rest) a W:=by
 obtain⟨d,h3,h4,h5⟩:=hrow;refine wpList_store_row hgd t x y ho g _ hx hy t r0 h (by rw[h5,<-hn]) (by rw[hn0,hn]) hone ?_;rw[hd];exact hk _ (setRow_heap _ _ r0 r _ (0,0) h) (zKw _ _ _ _ _ h)
theorem zD :kC5 26 4:=zCp
theorem zP :kC5 33 5:=zD4
theorem zMk :kC5 35 21:=zK4
theorem jR.toR {w:World}{g:Nat}{c:OC}(h:jR w g c):jT 35 w g c.row:=h
structure NC where
 lf:Bool
 P:Option Addr
 np:Nat
 pc:Nat
 X:Option Addr
 nt:Nat
 tc:Nat
 K:Option Addr
 nk:Nat
 kc:Nat
def NC.row (c:NC):Array Value:=#[.bool c.lf,.slice c.P c.np c.pc,.slice c.X c.nt c.tc,.slice c.K c.nk c.kc]
theorem NC.size (c:NC):c.row.size=4:=rfl
theorem NC.one (c:NC):c.row.all (·.oneCell')=true:=Ka
structure SC where
 is:Bool
 A:Option Addr
 n:Nat
 c:Nat
 x:Int
 B:Option Addr
 m:Nat
 d:Nat
 y:Int
def SC.row (c:SC):Array Value:=#[.bool c.is,.slice c.A c.n c.c,.int .i64 c.x,.slice c.B c.m c.d,.int .i64 c.y]
theorem SC.one (c:SC):c.row.all (·.oneCell')=true:=Ka
def kS (w:World)(c:NC)(n:NT):Prop:=∃d,zV d w w.heap.size (.agg c.row) n
def zB1 (w:World)(c:SC)(s:Sl):Prop:=zIi w c.is c.A c.n c.c c.x c.B c.m c.d c.y s
theorem kS.later {w w':World}{c:NC}(h:kS w c n)(hb:Below w.heap.size w w'):kS w' c n:=by
 obtain⟨d,h⟩:=h;exact⟨d,h.later hb⟩
theorem zB1.later {w w':World}{c:SC}(h:zB1 w c s)(hb:Below w.heap.size w w'):zB1 w' c s:=zIi.later h hb
theorem zFo {d:Nat}{w:World}{v:Value}(h:zV d w w.heap.size v n):∃c:NC,v=.agg c.row/\kS w c n:=by
 cases d with
 |zero=>exact h.elim
 |succ d=>
  obtain⟨PA,pc,TA,tc,KA,kc,rfl,hp,ht,hf,hks⟩:=h;exact⟨⟨n.lf,PA,n.ps.length,pc,TA,n.tx.length,tc,KA,n.ks.length,kc⟩,rfl,d+1,PA,pc,TA,tc,KA,kc,rfl,hp,ht,hf,hks⟩
def zTd (w:World)(r:(NT×Sl)×Int)(e:Ending)(w':World):Prop:=
 ∃(c:NC)(s:SC),e=.returned (.tuple #[.agg c.row,.agg s.row,.int .i64 r.2])/\kS w' c r.1.1/\zB1 w' s r.1.2/\Below w.heap.size w w'
mutual
def kLr :NT->Prop
 |.mk _ _ tx ks=>tx.length<=35184372088832/\kLs ks
def kLs :List NT->Prop
 |[]=>True
 |k::r=>kLr k/\kLs r
end
theorem zZl :∀{l:List NT},(∀k ∈ l,kLr k)->kLs l
 |[],_=>trivial
 |k::_r,h=>⟨h k List.mem_cons_self,zZl fun x hx=>h x (List.mem_cons_of_mem _ hx)⟩
theorem kFi :∀{d:Nat}{w:World}{B:Nat}{v:Value}{n:NT},zV d w B v n->kLr n
 |0,_,_,_,_,h=>h.elim
 |d+1,_,_,_,.mk lf ps tx ks,⟨PA,pc,TA,tc,KA,kc,e,hp,ht,hf,hks⟩=>by
  refine⟨by have:=hf.2.2.1;have:=hf.2.1;simp only[NT.tx]at*;omega,zZl fun k hk=>?_⟩;obtain⟨j,hj⟩:=List.getElem?_of_mem hk;obtain⟨b,o,u,e1,hb,hn,_⟩:=hks j k hj;exact kFi hn
theorem zZm {l:List Pr}(h:chk l=0):l.length<=16/\∀p ∈ l,kJ8 p=0:=by
 obtain⟨h1,h2,h3⟩:=(zC8 l).1 h;refine⟨h1,fun p hp=>?_⟩;obtain⟨k1,k2⟩:=h2 p hp;unfold zVt at k1;unfold zXo at k2;simp only[Bool.and_eq_true,decide_eq_true_iff]at k1 k2;unfold kJ8;omega
theorem zMl :∀{l:List Pr}{m:Int},zFf m->(∀p ∈ l,kJ8 p=0)->zG6 m l=m
 |[],m,_,_=>rfl
 |p::r,m,hm,h=>by
  unfold zG6;rw[List.foldl_cons,h p List.mem_cons_self,Int.sub_zero,zGy m hm.1 hm.2];exact zMl (l:=r) hm (fun q hq=>h q (List.mem_cons_of_mem _ hq))
mutual
theorem zUs :∀(n:NT)(m:Int),0<=m->m<=1000->kLr n->zAh n=0->0<=zF8 m n->(sizeT n:Int)+zF8 m n<=m
 |.mk lf ps tx ks,m=>fun h0 h1 hc hk hl=>by
  obtain⟨c1,c2⟩:=hc;obtain⟨k1,k2,k3,k4,k5⟩:=(kY _).1 hk;simp only[NT.ps,NT.ks]at k1 k5;obtain⟨b1,b2⟩:=zZm k1;rw[zF8]at hl⊢;rw[zGy (m-(1+tx.length+ps.length)) Kb Kb,zMl (by unfold zFf;omega) b2]at hl⊢;by_cases hneg:m-(1+tx.length+ps.length)<0
  ·rw[if_pos hneg]at hl;omega
  rw[if_neg hneg]at hl⊢;have ih:=zQ9 ks _ Kb Kb c2 k5 hl;simp only[sizeT];omega
theorem zQ9 :∀(l:List NT)(m:Int),0<=m->m<=1000->kLs l->(∀k ∈ l,zAh k=0)->0<=leftK m l->(sizeK l:Int)+leftK m l<=m
 |[],m=>fun h0 h1 _ _ _=>by simp only[sizeK,leftK];omega
 |k::r,m=>fun h0 h1 hc hk hl=>by
  rw[leftK]at hl⊢;by_cases hneg:zF8 m k<0
  ·rw[if_pos hneg]at hl;omega
  rw[if_neg hneg]at hl⊢;have h2:=zUs k m h0 h1 hc.1 (hk k List.mem_cons_self) Kb;have h3:=zQ9 r (zF8 m k) Kb Kb hc.2 (fun x hx=>hk x (List.mem_cons_of_mem _ hx)) hl;simp only[sizeK];omega
end
theorem zRa {d:Nat}{w:World}{B:Nat}{v:Value}(h:zV d w B v n)(h0:0<=m)(h1:m<=1000)(hk:zAh n=0)(hf:zI5 m n=true):(sizeT n:Int)<=m:=by
 have h2:=of_decide_eq_true hf;have:=zUs n m h0 h1 (kFi h) hk h2;omega
structure zRb (n:NT)(s:Sl)(a:OpP):Prop where
 sel:fewS s=true
 tiny:zAf a
 size:zAh n=0->sizeT n<=900
 node:zAh a.n=0->sizeT a.n<=900
section
variable {w:World}
theorem zTe {c:NC}(h:kS w c n)(hm:zFf m)(hE:zI5 m n=E):Calls Tryz.prog 7 #[.agg c.row,.int .i64 m] w (jA (.bool E) w):=by
 obtain⟨d,h⟩:=h;subst hE;exact zO3 d w _ n m hm h
theorem zLi {c c':NC}(h:kS w c n)(h':kS w c' n')(hE:eqT n n'=E):Calls Tryz.prog 101 #[.agg c.row,.agg c'.row] w (jA (.bool E) w):=by
 obtain⟨d,h⟩:=h;obtain⟨d',h'⟩:=h';subst hE;exact zQ1 d d' w _ _ n n' h h'
theorem zHo {c c':NC}(h:kS w c n)(h':kS w c' n')(hE:eqT n n'=E):Calls Tryz.prog 12 #[.agg c.row,.agg c'.row] w (jA (.bool E) w):=by
 obtain⟨d,h⟩:=h;obtain⟨d',h'⟩:=h';subst hE;exact zWd d d' w _ _ n n' h h'
theorem zFa {c:NC}{E:Int}(h:kS w c n)(hE:zAd n=E):Calls Tryz.prog 65 #[.agg c.row] w (jA (.int .i64 E) w):=by
 obtain⟨d,h⟩:=h;subst hE;exact zV5 d w _ n h
theorem zB1.len {c:SC}(h:zB1 w c s)(hf:fewS s=true):c.n<=60/\c.m<=60:=by
 unfold fewS at hf;rw[Bool.and_eq_true,decide_eq_true_iff,decide_eq_true_iff]at hf;have:=h.hn;have:=h.hm;omega
theorem zH9 {c d:SC}{t:Sl}(h:zB1 w c s)(g:zB1 w d t)(hs:fewS s=true)(ht:fewS t=true)(hE:zF7 s t=E):Calls Tryz.prog 64 #[.agg c.row,.agg d.row] w (jA (.bool E) w):=by
 obtain⟨l1,l2⟩:=h.len hs;obtain⟨l3,l4⟩:=g.len ht;exact zKp h g Kb Kb Kb Kb hE
theorem zKk {c:NC}{d:SC}{E:Int}(h:kS w c n)(g:zB1 w d s)(hs:fewS s=true)(hE:zE8 n s=E):Calls Tryz.prog 66 #[.agg c.row,.agg d.row] w (jA (.int .i64 E) w):=by
 obtain⟨l1,l2⟩:=g.len hs;obtain⟨dd,h⟩:=h;obtain⟨a1,a2⟩:=zIi.two g Kb Kb;have e1:=g.his;have e2:=g.hx;have e3:=g.hy;subst hE;have hh:=zSu (b:=d.is) (p:=s.a) (q:=s.f) (A:=d.A) (B:=d.B) (na:=d.n) (nb:=d.m) (ca:=d.c) (cb:=d.d) Kl h (by rw[e2];exact a1) (by rw[e3];exact a2);rw[e2,e3]at hh;have es:(⟨d.is,s.a,s.f⟩:Sl)=s:=by obtain⟨x,y,z⟩:=s;simp only at e1;subst e1;rfl
 rw[es]at hh;exact hh
end
structure St3 (w:World)(c:NC)(s:SC)(o:OC)(W:World):Prop where
 v3:jT 26 W w.heap.size c.row
 v4:jT 33 W (w.heap.size+1) s.row
 v5:jR W (w.heap.size+1+1) o
 below:Below w.heap.size w W
theorem St3.call {w W W':World}{c:NC}{s:SC}{o:OC}(h:St3 w c s o W)(hb:Below W.heap.size W W'):St3 w c s o W':=⟨h.v3.keep hb,h.v4.keep hb,h.v5.keep hb,zI h.below hb⟩
theorem kN (w:World)(c:NC)(s:SC)(o:OC):∃W0,((w.alloc (.cells c.row 26)).alloc (.cells s.row 33)).alloc (.cells o.row 35)=W0/\St3 w c s o W0:=by
 have e1:(w.alloc (.cells c.row 26)).heap.size=w.heap.size+1:=by simp
 have e2:((w.alloc (.cells c.row 26)).alloc (.cells s.row 33)).heap.size=w.heap.size+1+1:=by simp
 have h1:=((jT.new w 26 c.row).alloc (.cells s.row 33)).alloc (.cells o.row 35);have h2:=(jT.new (w.alloc (.cells c.row 26)) 33 s.row).alloc (.cells o.row 35);have h3:=jR.new ((w.alloc (.cells c.row 26)).alloc (.cells s.row 33)) o;rw[e1]at h2;rw[e2]at h3;exact⟨_,rfl,h1,h2,h3,((Kl.alloc Km _).alloc (by rw[e1];omega) _).alloc (by rw[e2];omega) _⟩
structure St5 (w:World)(c:NC)(s:SC)(o:OC)(g7 g8:Nat)(a:NC)(t:SC)(W:World):Prop where
 st:St3 w c s o W
 v7:jT 26 W g7 a.row
 v8:jT 33 W g8 t.row
theorem St5.call {w W W':World}{c:NC}{s:SC}{o:OC}{g7 g8:Nat}{a:NC}{t:SC}(h:St5 w c s o g7 g8 a t W)(hb:Below W.heap.size W W'):St5 w c s o g7 g8 a t W':=⟨h.st.call hb,h.v7.keep hb,h.v8.keep hb⟩
theorem St3.store {w W W':World}{c:NC}{s:SC}{o:OC}{g:Nat}(h:St3 w c s o W)(ho:Off g W W')(hg:w.heap.size+1+1<g):St3 w c s o W':=
 ⟨h.v3.off ho Kb,h.v4.off ho Kb,(ho.block _ h.v5.lt Kb).trans h.v5,zN h.below ho Kb⟩
theorem zDj (w:World):jT 26 ((w.alloc (.cells #[.bool false,.slice none 0 0,.slice none 0 0,.slice none 0 0] 26)).alloc (.cells #[.bool false,.slice none 0 0,.int .i64 0,.slice none 0 0,.int .i64 0] 33)) w.heap.size #[.bool false,.slice none 0 0,.slice none 0 0,.slice none 0 0]:=
 (jT.new w 26 _).alloc _
theorem zDk {w W:World}(ho:Off w.heap.size ((w.alloc (.cells #[.bool false,.slice none 0 0,.slice none 0 0,.slice none 0 0] 26)).alloc (.cells #[.bool false,.slice none 0 0,.int .i64 0,.slice none 0 0,.int .i64 0] 33)) W):
  Below w.heap.size w W/\jT 33 W (w.heap.size+1) #[.bool false,.slice none 0 0,.int .i64 0,.slice none 0 0,.int .i64 0]:=by
 have e1:(w.alloc (.cells #[.bool false,.slice none 0 0,.slice none 0 0,.slice none 0 0] 26)).heap.size=w.heap.size+1:=by simp
 have h2:=jT.new (w.alloc (.cells #[.bool false,.slice none 0 0,.slice none 0 0,.slice none 0 0] 26)) 33 #[.bool false,.slice none 0 0,.int .i64 0,.slice none 0 0,.int .i64 0];rw[e1]at h2;exact⟨zN ((Kl.alloc Km _).alloc (by rw[e1];omega) _) ho Km,h2.off ho Kb⟩
theorem zDl {w W W':World}(hb:Below w.heap.size w W)(ho:Off (w.heap.size+1) W W'):Below w.heap.size w W':=zN hb ho Kb
