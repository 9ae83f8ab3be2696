import Derived.Test.YtmglnjmnabjjgaaGreatJBFew
set_option maxRecDepth 4000
namespace Go.Proofs.YtmglnjmnabjjgaaGreat
open Go.RowKit
variable {a b k m n x y:NT}{l p p' q r u:List Int}{i:Nat}{j z:Int}
theorem zTb (ks:List NT)(i m:Nat):sizeK ks=sizeK (ks.take i)+sizeK ((ks.drop i).take m)+sizeK (ks.drop (i+m)):=by
 have e:ks=ks.take i++((ks.drop i).take m++ks.drop (i+m)):=by
  conv=>lhs;rw[<-List.take_append_drop i ks,<-List.take_append_drop m (ks.drop i),List.drop_drop]
 conv=>lhs;rw[e]
 rw[kZ,kZ];omega
theorem kC3 (x:NT)(i m:Nat)(o:List NT):sizeT (jS x i m o)+sizeK ((x.ks.drop i).take m)=sizeT x+sizeK o:=by
 have h:=zTb x.ks i m;rw[jC (jS x i m o),jC x];show 1+x.tx.length+sizeK (spl x.ks i m o)+_=_
 unfold spl;rw[kZ,kZ];omega
theorem zGu (h:kB n u=some x)(i m:Nat)(o:List NT):sizeT (putT n u (jS x i m o))+sizeK ((x.ks.drop i).take m)=sizeT n+sizeK o:=by
 have h1:=zBo n u (jS x i m o) x h;have h2:=kC3 x i m o;omega
theorem zCk {ks:List NT}(h:ks[i]? =some k):(ks.drop i).take 1=[k]:=by
 rw[zCo h];rfl
theorem zDi {ks:List NT}(hb:ks[i]? =some b)(hk:ks[i+1]? =some k):(ks.drop i).take 2=[b,k]:=by
 rw[zCo hb,zCo hk];rfl
theorem zJd (b k:NT):sizeT (zAo b k)+1=sizeT b+sizeT k:=by
 rw[jC (zAo b k),jC b,jC k];show 1+(b.tx++k.tx).length+sizeK (b.ks++k.ks)+1=_
 rw[kZ,List.length_append];omega
theorem zGv (k:NT)(i:Nat)(w:List Pr):sizeT (jN k i)+sizeT (zA2 k i w)=sizeT k+1:=by
 unfold jN zA2;by_cases h:k.lf=true
 ·rw[if_pos h,if_pos h,jC k];simp only[sizeT,sizeK,List.length_take,List.length_drop];omega
 ·rw[if_neg h,if_neg h,jC k];simp only[sizeT,List.length_nil];have:sizeK k.ks=sizeK (k.ks.take i)+sizeK (k.ks.drop i):=by rw[<-kZ,List.take_append_drop]
  omega
theorem zF6 (k:NT)(ps:List Pr):sizeT (zEs k ps)=sizeT k:=by rw[jC k];simp only[zEs,sizeT]
theorem zDe (k:NT)(tx:List Int):sizeT (zCz k tx)+k.tx.length=sizeT k+tx.length:=by rw[jC k];simp only[zCz,sizeT];omega
theorem zZk {lf:Bool}{ps:List Pr}{tx:List Int}{nk:Nat}:zPb lf ps tx nk=0 ↔ chk ps=0/\(lf=true->nk=0)/\(lf=false->tx=[])/\zNh tx=0:=by
 unfold zPb;by_cases h1:chk ps=0
 case neg=>rw[if_pos h1];exact⟨fun h=>absurd h h1,fun h=>absurd h.1 h1⟩
 rw[if_neg (by simp[h1])];cases lf
 ·by_cases h2:tx=[]
  ·subst h2;simp[h1]
  ·have:0<tx.length:=by cases tx<;>simp_all
   simp[h1,h2,this]
 ·by_cases h2:nk=0
  ·subst h2;simp[h1]
  ·have:0<nk:=Kb;simp[h1,h2,this]
theorem kC4 (n:NT):zAh n=0 ↔ zPb n.lf n.ps n.tx n.ks.length=0/\kBr n.ks=0:=by
 cases n with
 |mk lf ps tx ks=>
  rw[zAh];simp only[NT.lf,NT.ps,NT.tx,NT.ks];by_cases h:zPb lf ps tx ks.length=0
  ·rw[if_neg (by simp[h])];simp[h]
  ·rw[if_pos h];simp[h]
theorem zUr :∀(l:List NT),kBr l=0 ↔∀k ∈ l,zAh k=0
 |[]=>by simp[kBr]
 |k::r=>by
  rw[kBr];by_cases h:zAh k=0
  ·rw[if_neg (by simp[h]),zUr r];simp[h]
  ·rw[if_pos h];simp[h]
theorem kY (n:NT):zAh n=0 ↔ chk n.ps=0/\(n.lf=true->n.ks=[])/\(n.lf=false->n.tx=[])/\zNh n.tx=0/\∀k ∈ n.ks,zAh k=0:=by
 rw[kC4,zZk,zUr];constructor
 ·rintro⟨⟨h1,h2,h3,h4⟩,h5⟩;exact⟨h1,fun e=>List.eq_nil_of_length_eq_zero (h2 e),h3,h4,h5⟩
 ·rintro⟨h1,h2,h3,h4,h5⟩;exact⟨⟨h1,fun e=>by rw[h2 e];rfl,h3,h4⟩,h5⟩
theorem zAk (h:zAh n=0)(hk:n.ks[i]? =some k):zAh k=0:=((kY n).1 h).2.2.2.2 k (List.mem_of_getElem? hk)
theorem zA6 :∀(n:NT)(p:List Int)(x:NT),zAh n=0->kB n p=some x->zAh x=0
 |n,[],x=>fun h hg=>by injection hg with hg;subst hg;exact h
 |n,i::r,x=>by
  rw[zR];cases hk:zBh n i with
  |none=>intro _ h2;cases h2
  |some k=>
   intro h h2;exact zA6 k r x (zAk h (zA1 hk).2.2) h2
def zDm (u p:List Int):Prop:=∃j r,p=u++j::r
theorem zF9 {a b:Int}:zDm (a::u) (b::p) ↔ a=b/\zDm u p:=by
 constructor
 ·rintro⟨j,r,h⟩;rw[List.cons_append]at h;injection h with h1 h2;exact⟨h1.symm,j,r,h2⟩
 ·rintro⟨rfl,j,r,rfl⟩;exact⟨j,r,rfl⟩
theorem zCh :∀(u:List Int)(i:Int)(p:List Int),¬zDm u p->zX (u++[i]) p=0
 |[],i,[],_=>zHi i []
 |[],i,y::p,h=>absurd ⟨y,p,rfl⟩ h
 |x::u,i,[],_=>zHi x (u++[i])
 |x::u,i,y::p,h=>by
  rw[List.cons_append,zF5 x (u++[i]) y p Kc];by_cases e:x=y
  ·rw[if_pos e];exact zCh u i p (fun h2=>h (zF9.2 ⟨e,h2⟩))
  ·rw[if_neg e]
theorem zAn :∀(u:List Int)(i j:Int)(r:List Int),zX (u++[i]) (u++j::r)=if j<i then 0 else if i<j then 1 else if r=[]then 2 else 3
 | [],i,j,r=>by
  obtain⟨h1,h2⟩:=zL2 i j r;rw[List.nil_append,List.nil_append];by_cases e1:j<i
  ·rw[if_pos e1];exact h1.2 e1
  rw[if_neg e1];by_cases e2:i<j
  ·rw[if_pos e2];exact h2.2 e2
  rw[if_neg e2];obtain rfl:i=j:=Kb;by_cases e3:r=[]
  ·subst e3;rw[if_pos rfl];exact zCw.2 rfl
  ·rw[if_neg e3];rcases zF4 [i] (i::r)with h|h|h|h
   ·exact absurd (h1.1 h) e1
   ·exact absurd (h2.1 h) e2
   ·have:=zCw.1 h;injection this with _ h5;exact absurd h5.symm e3
   ·exact h
 |x::u,i,j,r=>by
  rw[List.cons_append,List.cons_append,zF5 x (u++[i]) x (u++j::r) Kc,if_pos rfl];exact zAn u i j r
theorem zAv (u:List Int)(j v:Int)(r:List Int):addL (u++j::r) u.length v=u++(j+v)::r:=by
 unfold addL;have e:iAt (u++j::r) u.length=j:=by
  rw[jY _ _ Kc];simp
 rw[e,List.set_append_right _ _ Kl,Nat.sub_self];rfl
theorem zFb (u:List Int)(j l v:Int)(r:List Int):addL (u++j::l::r) (u.length+1) v=u++j::(l+v)::r:=by
 have h:=zAv (u++[j]) l v r;rw[List.length_append,List.length_singleton]at h;simpa using h
theorem zKl (u:List Int)(j l:Int)(r:List Int):iAt (u++j::l::r) (u.length+1)=l:=by
 rw[jY _ _ Kc];rw[List.getElem_append_right Kb];simp
def kE (y y':NT):Prop:=y'.lf=y.lf/\y'.tx=y.tx
theorem kE.refl (y:NT):kE y y:=⟨rfl,rfl⟩
theorem zAc (h:kB n u=some x)(j:Int)(r:List Int):kB n (u++j::r)=(zBh x j).bind fun k=>kB k r:=by
 rw[jJ,h];show kB x (j::r)=_;exact zR
theorem zDn :∀(n:NT)(u p:List Int)(x x' y:NT),kB n u=some x->kE x x'->kB n p=some y->¬zDm u p->∃y',kB (putT n u x') p=some y'/\kE y y'
 |n,[],[],x,x',y=>fun h1 h2 h3 _=>by
  injection h1 with h1;injection h3 with h3;subst h1;subst h3;exact⟨x',rfl,h2⟩
 |n,[],j::r,x,x',y=>fun _ _ _ h=>absurd ⟨j,r,rfl⟩ h
 |n,i::u,[],x,x',y=>fun h1 _ h3 _=>by
  rw[zR]at h1;injection h3 with h3;subst h3;cases hk:zBh n i with
  |none=>rw[hk]at h1;cases h1
  |some k=>simp only[putT,hk];exact⟨_,rfl,rfl,rfl⟩
 | n,i::u,j::r,x,x',y=>fun h1 h2 h3 h4=>by
  rw[zR]at h1 h3;cases hk:zBh n i with
  |none=>rw[hk]at h1;cases h1
  |some k=>
   rw[hk]at h1;simp only[putT,hk];rw[zR];by_cases e:j=i
   ·subst e;rw[hk]at h3;rw[zIg (zCy hk)];exact zDn k u r x x' y h1 h2 h3 (fun h5=>h4 (zF9.2 ⟨rfl,h5⟩))
   ·rw[zF3 (zCy hk) e];exact⟨y,h3,kE.refl y⟩
theorem zDa (h:zBh x j=some k):∃i:Nat,j=(i:Int)/\x.ks[i]? =some k:=by
 obtain⟨h1,h2,h3⟩:=zA1 h;exact⟨j.toNat,by omega,h3⟩
theorem zAw {x':NT}(h:kB n u=some x)(j:Nat)(r:List Int)(hk:x'.ks[j]? =some k):kB (putT n u x') (u++(j:Int)::r)=kB k r:=by
 rw[zAc (jX n u x' x h),zA9,hk];rfl
theorem zJl (hg:kB n u=some x)(hi:i<=x.ks.length)(hy:kB n p=some y):
  ∃y',kB (putT n u (jS x i 0 [m])) (jH 1 (u++[(i:Int)]) 0 p).1=some y'/\kE y y':=by
 rw[kFe (q:=u++[(i:Int)]) (k:=u.length) Kc];by_cases hU:zDm u p
 ·obtain⟨j,r,rfl⟩:=hU;rw[zAc hg]at hy;cases hk:zBh x j with
  |none=>rw[hk]at hy;cases hy
  |some k=>
   rw[hk]at hy;obtain⟨jj,rfl,hkk⟩:=zDa hk;rw[zAn];by_cases hlt:(jj:Int)<i
   ·rw[if_pos hlt,if_pos rfl];exact⟨y,(zAw (x':=jS x i 0 [m]) hg jj r (show(spl x.ks i 0 [m])[jj]? =some k by rw[zBp Kb hi];exact hkk)).trans hy,kE.refl y⟩
   ·rw[if_neg hlt,if_neg (by split<;>(try split)<;>omega),zAv];refine⟨y,?_,kE.refl y⟩;have:=zCj (ks:=x.ks) (o:=[m]) (i:=i) (m:=0) (j:=jj-i) Kb;rw[show i+[m].length+(jj-i)=jj+1 by simp;omega,show i+0+(jj-i)=jj by omega,hkk]at this;exact(zAw (x':=jS x i 0 [m]) hg (jj+1) r this).trans hy
 ·rw[zCh u i p hU,if_pos rfl];exact zDn n u p x _ y hg ⟨rfl,rfl⟩ hy hU
theorem zJm (hg:kB n u=some x)(hi:i<x.ks.length)(hy:kB n p=some y)(hm:jH 2 (u++[(i:Int)]) 0 p=(p',true)):
  ∃y',kB (putT n u (jS x i 1 [])) p'=some y'/\kE y y':=by
 rw[zQs (q:=u++[(i:Int)]) (k:=u.length) Kc]at hm;by_cases hU:zDm u p
 ·obtain⟨j,r,rfl⟩:=hU;rw[zAc hg]at hy;cases hk:zBh x j with
  |none=>rw[hk]at hy;cases hy
  | some k=>
   rw[hk]at hy;obtain⟨jj,rfl,hkk⟩:=zDa hk;rw[zAn]at hm;by_cases hlt:(jj:Int)<i
   ·rw[if_pos hlt,if_pos rfl]at hm;rw[<-(zO hm).1];exact⟨y,(zAw (x':=jS x i 1 []) hg jj r (show(spl x.ks i 1 [])[jj]? =some k by rw[zBp Kb Kb];exact hkk)).trans hy,kE.refl y⟩
   ·rw[if_neg hlt]at hm;by_cases hgt:(i:Int)<jj
    ·rw[if_pos hgt,if_neg Kd,if_pos rfl,zAv]at hm;rw[<-(zO hm).1];refine⟨y,?_,kE.refl y⟩;have:=zCj (ks:=x.ks) (o:=[]) (i:=i) (m:=1) (j:=jj-i-1) Kb;rw[show i+([]:List NT).length+(jj-i-1)=jj-1 by simp;omega,show i+1+(jj-i-1)=jj by omega,hkk]at this;have h2:=(zAw (x':=jS x i 1 []) hg (jj-1) r this).trans hy;rw[show((jj-1:Nat):Int)=(jj:Int)+ -1 by omega]at h2;exact h2
    ·rw[if_neg hgt]at hm;rw[if_neg (by split<;>decide),if_neg (by split<;>decide)]at hm;exact absurd (zO hm).2 Kd
 ·rw[zCh u i p hU,if_pos rfl]at hm;rw[<-(zO hm).1];exact zDn n u p x _ y hg ⟨rfl,rfl⟩ hy hU
theorem zGw (u:List Int){i:Int}(r:List Int)(h:j<i):zX (u++[i]) (u++j::r)=0:=by rw[zAn,if_pos h]
theorem zJn (u:List Int){i:Int}(r:List Int)(h:i<j):zX (u++[i]) (u++j::r)=1:=by rw[zAn,if_neg Kb,if_pos h]
theorem zGa (u:List Int)(i:Int):zX (u++[i]) (u++[i])=2:=zCw.2 rfl
theorem zGb (u:List Int)(i l:Int)(r:List Int):zX (u++[i]) (u++i::l::r)=3:=by rw[zAn,if_neg Kb,if_neg Kb,if_neg Kc]
theorem zO6 (hg:kB n u=some x)(hb:x.ks[i]? =some b)(hk:x.ks[i+1]? =some k)(hmk:m.ks=b.ks++k.ks)(hz:k.ks≠[]->z=b.ks.length)(hy:kB n p=some y)(hm:jH 3 (u++[((i+1:Nat):Int)]) z p=(p',true)):
  ∃y',kB (putT n u (jS x i 2 [m])) p'=some y'/\(if p=u++[(i:Int)]∨p=u++[((i+1:Nat):Int)]then y'=m else kE y y'):=by
 have hlen:=(List.getElem?_eq_some_iff.1 hk).1;have hmid:(spl x.ks i 2 [m])[i]? =some m:=by
  have:=zAz (ks:=x.ks) (o:=[m]) (i:=i) (m:=2) (j:=0) Kc Kb;simpa using this
 have hl:lastL (u++[((i+1:Nat):Int)])≠0:=by rw[zC0];omega
 have hm2:(if zX (u++[((i+1:Nat):Int)]) p=0 then(p,true)else if zX (u++[((i+1:Nat):Int)]) p=3 then(addL (addL p u.length (-1)) (u.length+1) z,true)else(addL p u.length (-1),true))=(p',true):=by
  unfold jH at hm;rw[if_neg Kc,if_neg Kd,if_neg Kd,if_pos rfl,if_neg hl]at hm;rw[List.length_append,List.length_singleton,Nat.add_sub_cancel,plus2,zOv]at hm;exact hm
 clear hm;by_cases hU:zDm u p
 case neg=>
  rw[zCh u _ p hU,if_pos rfl]at hm2;rw[<-(zO hm2).1];obtain⟨y',h1,h2⟩:=zDn n u p x (jS x i 2 [m]) y hg ⟨rfl,rfl⟩ hy hU;refine⟨y',h1,?_⟩;rw[if_neg (by rintro(rfl|rfl)<;>exact hU ⟨_,[],rfl⟩)];exact h2
 obtain⟨j,r,rfl⟩:=hU;rw[zAc hg]at hy;cases hkk:zBh x j with
 |none=>rw[hkk]at hy;cases hy
 | some c=>
  rw[hkk]at hy;obtain⟨jj,rfl,hc⟩:=zDa hkk;have cT:kB c r=some y:=hy;have hne:∀(a:Nat),(a:Int)≠jj->u++(jj:Int)::r≠u++[(a:Int)]:=fun a ha e=>by
   have:=List.append_cancel_left e;injection this with h1 _;exact ha h1.symm
  rcases Nat.lt_trichotomy jj i with hlt|heq|hgt
  ·rw[zGw u r Kb,if_pos rfl]at hm2;rw[<-(zO hm2).1];refine⟨y,(zAw (x':=jS x i 2 [m]) hg jj r (show(spl x.ks i 2 [m])[jj]? =some c by rw[zBp hlt Kb];exact hc)).trans cT,?_⟩;rw[if_neg (by rintro(e|e);exact hne i Kb e;exact hne (i+1) Kb e)];exact kE.refl y
  ·subst heq;obtain rfl:c=b:=by rw[hb]at hc;injection hc with hc;exact hc.symm
   rw[zGw u r Kb,if_pos rfl]at hm2;rw[<-(zO hm2).1];cases r with
   |nil=>exact⟨m,zAw (x':=jS x jj 2 [m]) hg jj [] hmid,by rw[if_pos (.inl rfl)]⟩
   | cons l r'=>
    rw[zR]at cT;cases hl2:zBh c l with
    |none=>rw[hl2]at cT;cases cT
    |some q=>
     rw[hl2]at cT;obtain⟨ll,rfl,hq⟩:=zDa hl2;have bO:=(List.getElem?_eq_some_iff.1 hq).1;refine⟨y,?_,?_⟩
     ·rw[zAw (x':=jS x jj 2 [m]) hg jj _ hmid,zR,zA9,hmk,List.getElem?_append_left bO,hq];exact cT
     ·rw[if_neg (by rintro(e|e)<;>(have:=List.append_cancel_left e;injection this with _ h2;cases h2))];exact kE.refl y
  ·by_cases heq:jj=i+1
   ·subst heq;obtain rfl:c=k:=by rw[hk]at hc;injection hc with hc;exact hc.symm
    cases r with
    |nil=>
     rw[zGa,if_neg Kd,if_neg Kd,zAv]at hm2;rw[<-(zO hm2).1,show((i+1:Nat):Int)+ -1=(i:Int) by omega];exact⟨m,zAw (x':=jS x i 2 [m]) hg i [] hmid,by rw[if_pos (.inr rfl)]⟩
    | cons l r'=>
     rw[zGb,if_neg Kd,if_pos rfl,zAv,show((i+1:Nat):Int)+ -1=(i:Int) by omega,zFb]at hm2;rw[<-(zO hm2).1];rw[zR]at cT;cases hl2:zBh c l with
     |none=>rw[hl2]at cT;cases cT
     |some q=>
      rw[hl2]at cT;obtain⟨ll,rfl,hq⟩:=zDa hl2;have hz1:=hz (fun e=>by rw[e]at hq;simp at hq);refine⟨y,?_,?_⟩
      ·rw[zAw (x':=jS x i 2 [m]) hg i _ hmid,zR,show(ll:Int)+z=((b.ks.length+ll:Nat):Int) by omega,zA9,hmk,List.getElem?_append_right Kb,show b.ks.length+ll-b.ks.length=ll by omega,hq];exact cT
      ·rw[if_neg (by rintro(e|e)<;>(have:=List.append_cancel_left e;injection this with _ h2;cases h2))];exact kE.refl y
   ·rw[zJn u r Kb,if_neg Kd,if_neg Kd,zAv]at hm2;rw[<-(zO hm2).1];have:=zCj (ks:=x.ks) (o:=[m]) (i:=i) (m:=2) (j:=jj-i-2) Kb;rw[show i+[m].length+(jj-i-2)=jj-1 by simp;omega,show i+2+(jj-i-2)=jj by omega,hc]at this;have h2:=(zAw (x':=jS x i 2 [m]) hg (jj-1) r this).trans cT;rw[show((jj-1:Nat):Int)=(jj:Int)+ -1 by omega]at h2;refine⟨y,h2,?_⟩;rw[if_neg (by rintro(e|e);exact hne i Kb e;exact hne (i+1) Kb e)];exact kE.refl y
theorem zO7 {h t:NT}{z:Nat}(hg:kB n u=some x)(hk:x.ks[i]? =some k)(hh:h.ks=k.ks.take z)(ht:t.ks=k.ks.drop z)(hy:kB n p=some y)(hm:jH 4 (u++[(i:Int)]) (z:Int) p=(p',true)):
  ∃y',kB (putT n u (jS x i 1 [h,t])) p'=some y'/\(if p=u++[(i:Int)]then y'=h else kE y y'):=by
 have hlen:=(List.getElem?_eq_some_iff.1 hk).1;have eI:(spl x.ks i 1 [h,t])[i]? =some h:=by
  have:=zAz (ks:=x.ks) (o:=[h,t]) (i:=i) (m:=1) (j:=0) Kc Kb;simpa using this
 have hm2:(spl x.ks i 1 [h,t])[i+1]? =some t:=by
  have:=zAz (ks:=x.ks) (o:=[h,t]) (i:=i) (m:=1) (j:=1) Kc Kb;simpa using this
 have fP:(if zX (u++[(i:Int)]) p=1 then(addL p u.length 1,true)else if zX (u++[(i:Int)]) p=3/\(z:Int)<=iAt p (u.length+1)then(addL (addL p u.length 1) (u.length+1) (-(z:Int)),true)else(p,true))=(p',true):=by
  unfold jH at hm;rw[if_neg Kc,if_neg Kd,if_neg Kd,if_neg Kd,if_pos rfl]at hm;rw[List.length_append,List.length_singleton,Nat.add_sub_cancel,plus2,zOv]at hm;exact hm
 clear hm;by_cases hU:zDm u p
 case neg=>
  rw[zCh u _ p hU,if_neg Kd,if_neg Kc]at fP;rw[<-(zO fP).1];obtain⟨y',h1,h2⟩:=zDn n u p x (jS x i 1 [h,t]) y hg ⟨rfl,rfl⟩ hy hU;refine⟨y',h1,?_⟩;rw[if_neg (by rintro rfl;exact hU ⟨_,[],rfl⟩)];exact h2
 obtain⟨j,r,rfl⟩:=hU;rw[zAc hg]at hy;cases hkk:zBh x j with
 |none=>rw[hkk]at hy;cases hy
 | some c=>
  rw[hkk]at hy;obtain⟨jj,rfl,hc⟩:=zDa hkk;have cT:kB c r=some y:=hy;have hne:(i:Int)≠jj->u++(jj:Int)::r≠u++[(i:Int)]:=fun ha e=>by
   have:=List.append_cancel_left e;injection this with h1 _;exact ha h1.symm
  rcases Nat.lt_trichotomy jj i with hlt|heq|hgt
  ·rw[zGw u r Kb,if_neg Kd,if_neg Kc]at fP;rw[<-(zO fP).1];refine⟨y,(zAw (x':=jS x i 1 [h,t]) hg jj r (show(spl x.ks i 1 [h,t])[jj]? =some c by rw[zBp hlt Kb];exact hc)).trans cT,?_⟩;rw[if_neg (hne Kb)];exact kE.refl y
  ·subst heq;obtain rfl:c=k:=by rw[hk]at hc;injection hc with hc;exact hc.symm
   cases r with
   |nil=>
    rw[zGa,if_neg Kd,if_neg Kc]at fP;rw[<-(zO fP).1];exact⟨h,zAw (x':=jS x jj 1 [h,t]) hg jj [] eI,by rw[if_pos rfl]⟩
   | cons l r'=>
    rw[zGb,if_neg Kd,zKl,zAv,zFb]at fP;rw[zR]at cT;cases hl2:zBh c l with
    |none=>rw[hl2]at cT;cases cT
    |some q=>
     rw[hl2]at cT;obtain⟨ll,rfl,hq⟩:=zDa hl2;have hnn:¬u++(jj:Int)::(ll:Int)::r'=u++[(jj:Int)]:=by
      intro e;have:=List.append_cancel_left e;injection this with _ h2;cases h2
     by_cases hzl:(z:Int)<=ll
     ·rw[if_pos ⟨rfl,hzl⟩]at fP;rw[<-(zO fP).1];refine⟨y,?_,by rw[if_neg hnn];exact kE.refl y⟩;have h2:=zAw (x':=jS x jj 1 [h,t]) hg (jj+1) ((((ll-z:Nat):Nat):Int)::r') hm2;rw[zR,zA9,ht,List.getElem?_drop,show z+(ll-z)=ll by omega,hq]at h2;rw[show((jj+1:Nat):Int)=(jj:Int)+1 by omega,show((ll-z:Nat):Int)=(ll:Int)+ -(z:Int) by omega]at h2;exact h2.trans cT
     ·rw[if_neg (fun e=>hzl e.2)]at fP;rw[<-(zO fP).1];refine⟨y,?_,by rw[if_neg hnn];exact kE.refl y⟩;rw[zAw (x':=jS x jj 1 [h,t]) hg jj _ eI,zR,zA9,hh,List.getElem?_take_of_lt Kb,hq];exact cT
  ·rw[zJn u r Kb,if_pos rfl,zAv]at fP;rw[<-(zO fP).1];have:=zCj (ks:=x.ks) (o:=[h,t]) (i:=i) (m:=1) (j:=jj-i-1) Kb;rw[show i+[h,t].length+(jj-i-1)=jj+1 by simp;omega,show i+1+(jj-i-1)=jj by omega,hc]at this;refine⟨y,(zAw (x':=jS x i 1 [h,t]) hg (jj+1) r this).trans cT,?_⟩;rw[if_neg (hne Kb)];exact kE.refl y
theorem zGx {k':NT}(hg:kB n q=some k)(hks:k'.ks=k.ks)(_hl:k'.lf=k.lf)(hy:kB n p=some y):∃y',kB (putT n q k') p=some y'/\(if p=q then y'=k' else kE y y'):=by
 by_cases e:p=q
 ·subst e;exact⟨k',jX n p k' k hg,by rw[if_pos rfl]⟩
 by_cases hU:zDm q p
 ·obtain⟨j,r,rfl⟩:=hU;refine⟨y,?_,by rw[if_neg e];exact kE.refl y⟩;rw[zAc (jX n q k' k hg)];rw[zAc hg]at hy;unfold zBh at hy⊢;rw[hks];exact hy
 ·simp only[e,if_false];by_cases hP:q<+:p
  ·obtain⟨r,rfl⟩:=hP;cases r with
   |nil=>simp at e
   |cons j r=>exact absurd ⟨j,r,rfl⟩ hU
  by_cases uF:p<+:q
  ·obtain⟨r,rfl⟩:=uF;have hr:r≠[]:=fun h=>e (by rw[h];simp);rw[jJ,hy]at hg;rw[zEz n p r k' y hy];refine⟨putT y r k',jX n p _ y hy,?_⟩;cases r with
   |nil=>exact absurd rfl hr
   |cons j r=>
    have hg2:kB y (j::r)=some k:=hg;rw[zR]at hg2;cases hk:zBh y j with
    |none=>rw[hk]at hg2;cases hg2
    |some c=>simp only[putT,hk];exact⟨rfl,rfl⟩
  ·exact⟨y,(zHg n q p k' k hg hP uF).trans hy,kE.refl y⟩
theorem jZ {o:OpP}{f:List Int->List Int×Int}(h:zP1 n o f=(a,0)):∃k,kB n o.q=some k/\k.lf=true/\(f k.tx).2=0/\a=putT n o.q (zCz k (f k.tx).1):=by
 unfold zP1 at h;cases hg:kB n o.q with
 |none=>rw[zB2 hg,if_pos Kd]at h;cases h
 |some k=>
  rw[kP hg,if_neg Kc]at h;by_cases hl:k.lf=false
  ·rw[if_pos hl]at h;cases h
  rw[if_neg hl]at h;unfold kI0 at h;by_cases h0:(f k.tx).2=0
  case neg=>rw[if_pos h0]at h;exact absurd (zO h).2 h0
  rw[if_neg (by simp[h0])]at h;exact⟨k,rfl,by simpa using hl,h0,(zO h).1.symm⟩
theorem zC6 {o:OpP}(h:setO n o=(a,0)):∃k,o.q.length≠0/\kB n o.q=some k/\Can k.ps o.o o.w/\a=putT n o.q (zEs k (zA7 k.ps o.o o.w)):=by
 unfold setO at h;by_cases hq:o.q.length=0
 ·rw[if_pos hq]at h;cases h
 rw[if_neg hq]at h;cases hg:kB n o.q with
 |none=>rw[zB2 hg,if_pos Kd]at h;cases h
 |some k=>
  rw[kP hg,if_neg Kc]at h;unfold set2 at h;by_cases h0:PE k.ps o.o o.w=0
  case neg=>rw[if_pos h0]at h;exact absurd (zO h).2 h0
  rw[if_neg (by simp[h0])]at h;exact⟨k,hq,rfl,zPj.1 h0,(zO h).1.symm⟩
theorem zCd {o:OpP}(h:kB7 n o=(a,0)):zAd o.n=0/\zGo n o.q o.n=(a,0):=by
 unfold kB7 at h;by_cases h0:zAd o.n=0
 case neg=>rw[if_pos h0]at h;exact absurd (zO h).2 h0
 rw[if_neg (by simp[h0])]at h;exact⟨h0,h⟩
theorem zCl {o:OpP}(h:zVk n o=(a,0)):zBw n o.q=(a,0)/\zE3 n o.q=o.n:=by
 unfold zVk at h;by_cases h0:(zBw n o.q).2=0
 case neg=>rw[if_pos h0]at h;exact absurd (zO h).2 h0
 rw[if_neg (by simp[h0])]at h;by_cases h1:eqT (zE3 n o.q) o.n=true
 case neg=>rw[if_neg h1]at h;cases h
 rw[if_pos h1]at h;exact⟨Prod.ext (zO h).1 h0,(zIw _ _).1 h1⟩
theorem zBz {o:OpP}(h:zVl n o=(a,0)):(zBw n o.q).2=0/\zGo (zBw n o.q).1 o.t (zE3 n o.q)=(a,0):=by
 unfold zVl at h;by_cases h0:(zBw n o.q).2=0
 case neg=>rw[if_pos h0]at h;exact absurd (zO h).2 h0
 rw[if_neg (by simp[h0])]at h;exact⟨h0,h⟩
theorem zKi {s:List Int}{p:Int}(h:zFx r p s=(l,0)):l.length=r.length+s.length:=(zSq r p s l h).2
theorem zKj {s:List Int}{p:Int}(h:zFe r p s=(l,0)):l.length+s.length=r.length:=((zSq l p s r (zYn r p s l h)).2).symm
theorem zC7 {o:OpP}(h1:1<=o.k)(h8:o.k<=8)(h:doO n o=(a,0)):
  (o.k=1/\kB7 n o=(a,0))∨(o.k=2/\zVk n o=(a,0))∨(o.k=3/\kBo n o=(a,0))∨(o.k=4/\kBp n o=(a,0))∨(o.k=5/\zVl n o=(a,0))∨(o.k=6/\setO n o=(a,0))∨(o.k=7/\zP1 n o (fun r=>zFx r o.z o.x)=(a,0))∨(o.k=8/\zP1 n o (fun r=>zFe r o.z o.x)=(a,0)):=by
 unfold doO at h;rcases(show o.k=1∨o.k=2∨o.k=3∨o.k=4∨o.k=5∨o.k=6∨o.k=7∨o.k=8 by omega)with e|e|e|e|e|e|e|e<;>simp only[e]at h<;>simp at h<;>simp[e,h]
def byO (o:OpP):Int:=if o.k=1 then sizeT o.n else if o.k=2 then-(sizeT o.n:Int)else if o.k=3 then-1 else if o.k=4 then 1 else if o.k=7 then o.x.length else if o.k=8 then-(o.x.length:Int)else 0
theorem kHb {o:OpP}(e:o.k=1):byO o=sizeT o.n:=by unfold byO;rw[if_pos e]
theorem kHc {o:OpP}(e:o.k=2):byO o= -(sizeT o.n:Int):=by unfold byO;rw[if_neg Kb,if_pos e]
theorem kHd {o:OpP}(e:o.k=3):byO o= -1:=by unfold byO;rw[if_neg Kb,if_neg Kb,if_pos e]
theorem kHe {o:OpP}(e:o.k=4):byO o=1:=by unfold byO;rw[if_neg Kb,if_neg Kb,if_neg Kb,if_pos e]
theorem kHf {o:OpP}(e:o.k=7):byO o=o.x.length:=by unfold byO;rw[if_neg Kb,if_neg Kb,if_neg Kb,if_neg Kb,if_pos e]
theorem kHg {o:OpP}(e:o.k=8):byO o= -(o.x.length:Int):=by unfold byO;rw[if_neg Kb,if_neg Kb,if_neg Kb,if_neg Kb,if_neg Kb,if_pos e]
theorem zXp {o:OpP}(e:o.k=5∨o.k=6∨o.k=9):byO o=0:=by unfold byO;rw[if_neg Kb,if_neg Kb,if_neg Kb,if_neg Kb,if_neg Kb,if_neg Kb]
theorem zFn (h:(zBw n p).2=0):sizeT (zBw n p).1+sizeT (zE3 n p)=sizeT n:=by
 obtain⟨u,i,x,k,hf⟩:=zBn h;have h1:=zGu hf.at_ i 1 [];rw[zCk hf.kid]at h1;rw[hf.eq,hf.got];simp only[sizeK]at h1;omega
theorem zMm {o:OpP}(hm:∀u x,kB n u=some x->x.ks.length<9223372036854775807)(h1:1<=o.k)(h8:o.k<=8)(h:doO n o=(a,0)):(sizeT a:Int)=sizeT n+byO o:=by
 rcases zC7 h1 h8 h with⟨e,h⟩|⟨e,h⟩|⟨e,h⟩|⟨e,h⟩|⟨e,h⟩|⟨e,h⟩|⟨e,h⟩|⟨e,h⟩
 ·have:=(zFl (zCd h).2).1;rw[kHb e];omega
 ·obtain⟨h2,h3⟩:=zCl h;have:=zFn (n:=n) (p:=o.q) (by rw[h2]);rw[h2,h3]at this;dsimp only at this;rw[kHc e];omega
 ·obtain⟨u,i,x,b,k,hf⟩:=zC5 h;have h2:=zGu hf.at_ i 2 [zAo b k];rw[zDi hf.b_ hf.k_,<-hf.eq]at h2;have h3:=zJd b k;simp only[sizeK]at h2;rw[kHd e];omega
 ·obtain⟨u,i,x,k,hf⟩:=zCc hm h;have h2:=zGu hf.at_ i 1 [jN k o.z.toNat,zA2 k o.z.toNat o.w];rw[zCk hf.kid,<-hf.eq]at h2;have h3:=zGv k o.z.toNat o.w;simp only[sizeK]at h2;rw[kHe e];omega
 ·obtain⟨h2,h3⟩:=zBz h;have h4:=zFn h2;have h5:=(zFl h3).1;rw[zXp Kb];omega
 ·obtain⟨k,hq,hg,hc,rfl⟩:=zC6 h;have h2:=zBo n o.q (zEs k (zA7 k.ps o.o o.w)) k hg;rw[zF6]at h2;rw[zXp Kb];omega
 ·obtain⟨k,hg,hl,h0,rfl⟩:=jZ h;have h2:=zBo n o.q (zCz k (zFx k.tx o.z o.x).1) k hg;have h3:=zDe k (zFx k.tx o.z o.x).1;have h4:=zKi (r:=k.tx) (s:=o.x) (p:=o.z) (l:=(zFx k.tx o.z o.x).1) (Prod.ext rfl h0);rw[kHf e];omega
 ·obtain⟨k,hg,hl,h0,rfl⟩:=jZ h;have h2:=zBo n o.q (zCz k (zFe k.tx o.z o.x).1) k hg;have h3:=zDe k (zFe k.tx o.z o.x).1;have h4:=zKj (r:=k.tx) (s:=o.x) (p:=o.z) (l:=(zFe k.tx o.z o.x).1) (Prod.ext rfl h0);rw[kHg e];omega
theorem kX (h:zAh k=0):(k.lf=true->k.ks=[])/\(k.lf=false->k.tx=[]):=⟨((kY k).1 h).2.1,((kY k).1 h).2.2.1⟩
theorem kKb {o:OpP}(e:o.k=1):doO n o=kB7 n o:=by unfold doO;rw[if_pos e]
theorem kM0 {o:OpP}(e:o.k=2):doO n o=zVk n o:=by unfold doO;rw[if_neg Kb,if_pos e]
theorem kM1 {o:OpP}(e:o.k=3):doO n o=kBo n o:=by unfold doO;rw[if_neg Kb,if_neg Kb,if_pos e]
theorem kLm {o:OpP}(e:o.k=4):doO n o=kBp n o:=by unfold doO;rw[if_neg Kb,if_neg Kb,if_neg Kb,if_pos e]
theorem kLn {o:OpP}(e:o.k=5):doO n o=zVl n o:=by unfold doO;rw[if_neg Kb,if_neg Kb,if_neg Kb,if_neg Kb,if_pos e]
theorem kLo {o:OpP}(e:o.k=6):doO n o=setO n o:=by unfold doO;rw[if_neg Kb,if_neg Kb,if_neg Kb,if_neg Kb,if_neg Kb,if_pos e]
theorem kLp {o:OpP}(e:o.k=7):doO n o=zP1 n o (fun r=>zFx r o.z o.x):=by unfold doO;rw[if_neg Kb,if_neg Kb,if_neg Kb,if_neg Kb,if_neg Kb,if_neg Kb,if_pos e]
theorem kLq {o:OpP}(e:o.k=8):doO n o=zP1 n o (fun r=>zFe r o.z o.x):=by unfold doO;rw[if_neg Kb,if_neg Kb,if_neg Kb,if_neg Kb,if_neg Kb,if_neg Kb,if_neg Kb]
theorem zDz {k:Int}(h:6<=k):jH k q z p=(p,true):=by
 unfold jH;split
 ·rfl
 ·rw[if_neg Kb,if_neg Kb,if_neg Kb,if_neg Kb]
def zTf (y y':NT):Prop:=y'.lf=y.lf/\y.tx.length<=y'.tx.length
theorem kE.up {y':NT}(h:kE y y'):zTf y y':=⟨h.1,by rw[h.2];exact Nat.le_refl _⟩
theorem kRt {o:OpP}(hf:zCx o=0)(hk:o.k=1∨o.k=2∨o.k=5∨o.k=6):o.z=0:=by
 have h:=(zOy hf).2;obtain⟨k,q,t,z,n,ol,w,x,f,g⟩:=o;simp only at hk;rcases hk with rfl|rfl|rfl|rfl<;>(simp[fieldsO,zeroO]at h;(try simp[h]))
set_option maxHeartbeats 1000000 in
theorem zTg {o:OpP}(hm:∀u x,kB n u=some x->x.ks.length<9223372036854775807)(hn:zAh n=0)(h1:1<=o.k)(h8:o.k<=8)(h:doO n o=(a,0))(hy:kB n p=some y)(hmv:jF o.k o.q o.t o.z p=(p',true)):
  ∃y',kB a p'=some y'/\(p≠o.q->zTf y y'/\(¬(o.k=3/\p=(jV o.q).1)->kE y y')):=by
 have fin:∀{y':NT},kE y y'->(p≠o.q->zTf y y'/\(¬(o.k=3/\p=(jV o.q).1)->kE y y')):=fun h _=>⟨h.up,fun _=>h⟩;rcases zC7 h1 h8 h with⟨e,h⟩|⟨e,h⟩|⟨e,h⟩|⟨e,h⟩|⟨e,h⟩|⟨e,h⟩|⟨e,h⟩|⟨e,h⟩
 ·obtain⟨u,i,x,hf⟩:=zD7 (zCd h).2;have hb:=jD hmv Kb;rw[e,zJc (.inl rfl),hf.path]at hb;obtain⟨y',g1,g2⟩:=zJl (m:=o.n) hf.at_ hf.le hy;rw[hb,<-hf.eq]at g1;exact⟨y',g1,fin g2⟩
 ·obtain⟨h2,h3⟩:=zCl h;obtain⟨u,i,x,k,hf⟩:=zBn (n:=n) (p:=o.q) (by rw[h2]);have hb:=jD hmv Kb;rw[e,zJc (.inr rfl),hf.path]at hb;obtain⟨y',g1,g2⟩:=zJm hf.at_ (List.getElem?_eq_some_iff.1 hf.kid).1 hy hb;have he:=hf.eq;rw[h2]at he;dsimp only at he;rw[<-he]at g1;exact⟨y',g1,fin g2⟩
 ·obtain⟨u,i,x,b,k,hf⟩:=zC5 h;have hb:=jD hmv Kb;have hx:=zA6 n u x hn hf.at_;rw[e,hf.path]at hb;have hbk:=zFy u i;rw[<-hf.path]at hbk;obtain⟨y',g1,g2⟩:=zO6 (m:=zAo b k) hf.at_ hf.b_ hf.k_ rfl (fun hne=>by
   have hkl:k.lf=false:=by
    cases hl:k.lf
    ·rfl
    ·exact absurd ((kX (zAk hx hf.k_)).1 hl) hne
   have htx:=(kX (zAk hx hf.b_)).2 (hf.leaf.trans hkl);rw[<-hf.pos];unfold zG9;rw[htx];simp) hy hb
  rw[<-hf.eq]at g1;refine⟨y',g1,fun hne=>?_⟩;rw[hf.path]at hne;by_cases hpb:p=u++[(i:Int)]
  ·rw[if_pos (.inl hpb)]at g2;have xA:y=b:=by
    rw[hpb,zAc hf.at_,zA9,hf.b_]at hy;injection hy with hy;exact hy.symm
   subst g2;subst xA;exact⟨⟨rfl,by show y.tx.length<=(y.tx++k.tx).length;simp⟩,fun hc=>absurd ⟨e,by rw[hbk];exact hpb⟩ hc⟩
  ·rw[if_neg (by rintro(h|h);exact hpb h;exact hne h)]at g2;exact⟨g2.up,fun _=>g2⟩
 ·obtain⟨u,i,x,k,hf⟩:=zCc hm h;have hb:=jD hmv Kb;have hx:=zA6 n u x hn hf.at_;have bG:=zAk hx hf.kid;rw[e,hf.path,show o.z=((o.z.toNat:Nat):Int) by have:=hf.lo;omega]at hb;obtain⟨y',g1,g2⟩:=zO7 (h:=jN k o.z.toNat) (t:=zA2 k o.z.toNat o.w) hf.at_ hf.kid (by
   unfold jN;by_cases hl:k.lf=true
   ·rw[if_pos hl];show k.ks=_;rw[(kX bG).1 hl];simp
   ·rw[if_neg hl];rfl) (by
   unfold zA2;by_cases hl:k.lf=true
   ·rw[if_pos hl];show[]=_;rw[(kX bG).1 hl];simp
   ·rw[if_neg hl];rfl) hy hb
  rw[<-hf.eq]at g1;refine⟨y',g1,fun hne=>?_⟩;rw[hf.path]at hne;rw[if_neg hne]at g2;exact⟨g2.up,fun _=>g2⟩
 ·obtain⟨h2,h3⟩:=zBz h;obtain⟨u,i,x,k,hf⟩:=zBn h2;obtain⟨u2,i2,x2,hf2⟩:=zD7 h3;have hlen:=(List.getElem?_eq_some_iff.1 hf.kid).1;have hg:(jI p&&jI o.q&&jI o.t&&zE9 o.z)=true:=by
   by_cases hg:(jI p&&jI o.q&&jI o.t&&zE9 o.z)=true
   ·exact hg
   ·unfold jF at hmv;rw[if_neg hg]at hmv;exact absurd (zO hmv).2 Kd
  have bO:o.q.length≠0:=by rw[hf.path];simp
  have fg:(if zX o.q p=2∨zX o.q p=3 then(o.t++p.drop o.q.length,true)else jH 1 o.t 0 (jH 2 o.q 0 p).1)=(p',true):=by
   have e2:=hmv;unfold jF at e2;rw[if_pos hg,if_pos ⟨e,bO⟩]at e2;exact e2
  have ng:=hf2.eq;by_cases hs:zX o.q p=2∨zX o.q p=3
  ·rw [if_pos hs]at fg;have iQ:∃r,p=o.q++r:=by
    rcases hs with hs|hs
    ·exact⟨[],by rw[zCw.1 hs];simp⟩
    ·obtain⟨s1,s2⟩:=zL6.1 hs;refine⟨p.drop o.q.length,?_⟩;have e3:p.take o.q.length=o.q:=by
      refine zL1 Kf (fun j hj=>?_);simp at hj;rw[jY _ _ Kf,List.getElem_take,<-jY _ _ Kb];exact(s2 j Kb).symm
     conv=>lhs;rw[<-List.take_append_drop o.q.length p,e3]
   obtain⟨r,rfl⟩:=iQ;rw[List.drop_left]at fg;have hyk:kB k r=some y:=by
    rw[jJ,hf.whole]at hy;exact hy
   rw[<-(zO fg).1,hf2.path];refine⟨y,?_,fin (kE.refl y)⟩;rw[List.append_assoc];show kB a (u2++(i2:Int)::r)=_
   rw[hf2.eq];have hin:=zAz (ks:=x2.ks) (o:=[zE3 n o.q]) (i:=i2) (m:=0) (j:=0) Kc hf2.le;rw[hf.got]at hin⊢;exact(zAw (x':=jS x2 i2 0 [k]) hf2.at_ i2 r (by show(spl x2.ks i2 0 [k])[i2]? =some k;simpa using hin)).trans hyk
  ·rw[if_neg hs]at fg;have oF:jH 2 o.q 0 p=((jH 2 o.q 0 p).1,true):=by
    have hst:=zF4 o.q p;rw[hf.path]at hs hst⊢;rw[zQs (k:=u.length) Kc];rcases hst with h0|h0|h0|h0
    ·rw[if_pos h0]
    ·rw[if_neg Kb,if_pos h0]
    ·exact absurd (.inl h0) hs
    ·exact absurd (.inr h0) hs
   rw[hf.path]at oF fg;obtain⟨y1,g1,g2⟩:=zJm hf.at_ hlen hy oF;have hce:=hf.eq;have h3':=hf2.at_;rw[hce]at h3';obtain⟨y2,g3,g4⟩:=zJl (m:=zE3 n o.q) h3' hf2.le g1;rw[hf2.path]at fg;rw[fg]at g3;have ha2:=hf2.eq;rw[hce]at ha2;rw[<-ha2]at g3;exact⟨y2,g3,fin ⟨g4.1.trans g2.1,g4.2.trans g2.2⟩⟩
 ·obtain⟨k,hq,hg,hc,rfl⟩:=zC6 h;have hb:=jD hmv Kb;rw[zDz Kb]at hb;rw[<-(zO hb).1];obtain⟨y',g1,g2⟩:=zGx (k':=zEs k (zA7 k.ps o.o o.w)) hg rfl rfl hy;refine⟨y',g1,fun hne=>?_⟩;rw[if_neg hne]at g2;exact⟨g2.up,fun _=>g2⟩
 ·obtain⟨k,hg,hl,h0,rfl⟩:=jZ h;have hb:=jD hmv Kb;rw[zDz Kb]at hb;rw[<-(zO hb).1];obtain⟨y',g1,g2⟩:=zGx (k':=zCz k (zFx k.tx o.z o.x).1) hg rfl rfl hy;refine⟨y',g1,fun hne=>?_⟩;rw[if_neg hne]at g2;exact⟨g2.up,fun _=>g2⟩
 ·obtain⟨k,hg,hl,h0,rfl⟩:=jZ h;have hb:=jD hmv Kb;rw[zDz Kb]at hb;rw[<-(zO hb).1];obtain⟨y',g1,g2⟩:=zGx (k':=zCz k (zFe k.tx o.z o.x).1) hg rfl rfl hy;refine⟨y',g1,fun hne=>?_⟩;rw[if_neg hne]at g2;exact⟨g2.up,fun _=>g2⟩
theorem zCm {p:List Int×Int}:zK6 n p=0 ↔∃m,kB n p.1=some m/\m.lf=true/\0<=p.2/\p.2<=m.tx.length:=by
 unfold zK6;cases hg:kB n p.1 with
 |none=>simp
 |some m=>
  simp only[Option.some.injEq,exists_eq_left'];cases hl:m.lf
  ·simp
  ·by_cases h2:p.2<0∨(m.tx.length:Int)<p.2
   ·simp[h2];omega
   ·simp[h2];omega
theorem zMn {v:Int}(hq:q.length≠0)(hv:v≠0):addL q (q.length-1) v≠q:=fun e=>by
 have h:=zSv q (q.length-1) v Kb;rw[e]at h;omega
theorem zCn {K:Int}{x:List Int}(hq:q.length≠0)(h:jH K q z q=(x,true)):(K=1->x≠q)/\K≠2/\(K=3->x≠q):=by
 have hs:zX q q=2:=zCw.2 rfl;unfold jH at h;rw[if_neg hq,hs]at h;refine⟨fun e=>?_,fun e=>?_,fun e=>?_⟩
 ·rw[if_pos e,if_neg Kd,zOv]at h;rw[<-(zO h).1];exact zMn hq Kd
 ·rw[if_neg Kb,if_pos e,if_neg Kd,if_neg Kd]at h;exact absurd (zO h).2 Kd
 ·rw[if_neg Kb,if_neg Kb,if_pos e]at h;by_cases hl:lastL q=0
  ·rw[if_pos hl]at h;exact absurd (zO h).2 Kd
  ·rw[if_neg hl,if_neg Kd,if_neg Kd,zOv]at h;rw[<-(zO h).1];exact zMn hq Kd
theorem zC1 (h:zAd n=0):zAh n=0:=by
 unfold zAd at h;split at h
 ·cases h
 ·exact h
theorem zEf {α:Type}{a b:α}{e:Int}(h:(a,e)=(b,0)):e=0:=by injection h
theorem zH8 {s:Sl}{o:OpP}{r:NT×Sl}(h:jL n s o=(r,0)):zAd n=0/\n.lf=false/\zE8 n s=0/\zCx o=0/\
  ((o.k=9/\s=o.f/\zE8 n o.g=0/\r=(n,o.g))∨(1<=o.k/\o.k<=8/\doO n o=(r.1,0)/\(s.is=true->zBl s.a o=true/\zBl s.f o=true)/\r.2=s)):=by
 unfold jL at h;by_cases h1:zAd n=0
 case neg=>rw[if_pos h1]at h;exact absurd (zEf h) h1
 rw[if_neg (by simp[h1])]at h;by_cases h2:n.lf=true
 ·rw[if_pos h2]at h;exact absurd (zEf h) Kd
 rw[if_neg h2]at h;by_cases h3:zE8 n s=0
 case neg=>rw[if_pos h3]at h;exact absurd (zEf h) h3
 rw[if_neg (by simp[h3])]at h;by_cases h4:zCx o=0
 case neg=>rw[if_pos h4]at h;exact absurd (zEf h) h4
 rw[if_neg (by simp[h4])]at h;refine⟨h1,by simpa using h2,h3,h4,?_⟩;have hk:=(zOy h4).1;simp only[kindB,Bool.and_eq_true,decide_eq_true_iff]at hk;by_cases h9:o.k=9
 ·rw[if_pos h9]at h;left
  by_cases h5:zF7 s o.f=false
  ·rw[if_pos h5]at h;exact absurd (zEf h) Kd
  rw[if_neg h5]at h;by_cases h6:zE8 n o.g=0
  case neg=>rw[if_pos h6]at h;exact absurd (zEf h) h6
  rw[if_neg (by simp[h6])]at h;exact⟨h9,(zC4 _ _).1 (by simpa using h5),h6,(zO h).1.symm⟩
 ·rw[if_neg h9]at h;right
  by_cases h5:(doO n o).2=0
  case neg=>rw[if_pos h5]at h;exact absurd (zEf h) h5
  rw[if_neg (by simp[h5])]at h;by_cases h6:(s.is&& !(zBl s.a o&&zBl s.f o))=true
  ·rw[if_pos h6]at h;exact absurd (zEf h) Kd
  rw[if_neg h6]at h;have hr:=(zO h).1;refine⟨hk.1,by omega,by rw[<-hr];exact Prod.ext rfl h5,fun his=>?_,by rw[<-hr]⟩;rw[his]at h6;simpa using h6
theorem zJk {s:Sl}{o:OpP}(h:(jL n s o).2≠0):(jL n s o).1=(zeroT,zeroS):=by
 unfold jL at h⊢;by_cases h1:zAd n=0
 case neg=>rw[if_pos h1]
 rw[if_neg (by simp[h1])]at h⊢;by_cases h2:n.lf=true
 ·rw[if_pos h2]
 rw[if_neg h2]at h⊢;by_cases h3:zE8 n s=0
 case neg=>rw[if_pos h3]
 rw[if_neg (by simp[h3])]at h⊢;by_cases h4:zCx o=0
 case neg=>rw[if_pos h4]
 rw[if_neg (by simp[h4])]at h⊢;by_cases h9:o.k=9
 ·rw[if_pos h9]at h⊢;by_cases h5:zF7 s o.f=false
  ·rw[if_pos h5]
  rw[if_neg h5]at h⊢;by_cases h6:zE8 n o.g=0
  case neg=>rw[if_pos h6]
  rw[if_neg (by simp[h6])]at h;exact absurd rfl h
 ·rw[if_neg h9]at h⊢;by_cases h5:(doO n o).2=0
  case neg=>rw[if_pos h5]
  rw[if_neg (by simp[h5])]at h⊢;by_cases h6:(s.is&& !(zBl s.a o&&zBl s.f o))=true
  ·rw[if_pos h6]
  rw[if_neg h6]at h;exact absurd rfl h
mutual
def kLr :NT->Prop
 |.mk _ _ tx ks=>tx.length<=35184372088832/\kLs ks
def kLs :List NT->Prop
 |[]=>True
 |k::r=>kLr k/\kLs r
end
theorem zZl :∀{l:List NT},(∀k ∈ l,kLr k)->kLs l
 |[],_=>trivial
 |k::_r,h=>⟨h k List.mem_cons_self,zZl fun x hx=>h x (List.mem_cons_of_mem _ hx)⟩
theorem kFi :∀{d:Nat}{w:World}{B:Nat}{v:Value}{n:NT},zV d w B v n->kLr n
 |0,_,_,_,_,h=>h.elim
 |d+1,_,_,_,.mk lf ps tx ks,⟨PA,pc,TA,tc,KA,kc,e,hp,ht,hf,hks⟩=>by
  refine⟨by have:=hf.2.2.1;have:=hf.2.1;simp only[NT.tx]at*;omega,zZl fun k hk=>?_⟩;obtain⟨j,hj⟩:=List.getElem?_of_mem hk;obtain⟨b,o,u,e1,hb,hn,_⟩:=hks j k hj;exact kFi hn
theorem zZm {l:List Pr}(h:chk l=0):l.length<=16/\∀p ∈ l,kJ8 p=0:=by
 obtain⟨h1,h2,h3⟩:=(zC8 l).1 h;refine⟨h1,fun p hp=>?_⟩;obtain⟨k1,k2⟩:=h2 p hp;unfold zVt at k1;unfold zXo at k2;simp only[Bool.and_eq_true,decide_eq_true_iff]at k1 k2;unfold kJ8;omega
theorem zMl :∀{l:List Pr}{m:Int},zFf m->(∀p ∈ l,kJ8 p=0)->zG6 m l=m
 |[],m,_,_=>rfl
 |p::r,m,hm,h=>by
  unfold zG6;rw[List.foldl_cons,h p List.mem_cons_self,Int.sub_zero,zGy m hm.1 hm.2];exact zMl (l:=r) hm (fun q hq=>h q (List.mem_cons_of_mem _ hq))
mutual
theorem zUs :∀(n:NT)(m:Int),0<=m->m<=1000->kLr n->zAh n=0->0<=zF8 m n->(sizeT n:Int)+zF8 m n<=m
 |.mk lf ps tx ks,m=>fun h0 h1 hc hk hl=>by
  obtain⟨c1,c2⟩:=hc;obtain⟨k1,k2,k3,k4,k5⟩:=(kY _).1 hk;simp only[NT.ps,NT.ks]at k1 k5;obtain⟨b1,b2⟩:=zZm k1;rw[zF8]at hl⊢;rw[zGy (m-(1+tx.length+ps.length)) Kb Kb,zMl (by unfold zFf;omega) b2]at hl⊢;by_cases hneg:m-(1+tx.length+ps.length)<0
  ·rw[if_pos hneg]at hl;omega
  rw[if_neg hneg]at hl⊢;have ih:=zQ9 ks _ Kb Kb c2 k5 hl;simp only[sizeT];omega
theorem zQ9 :∀(l:List NT)(m:Int),0<=m->m<=1000->kLs l->(∀k ∈ l,zAh k=0)->0<=leftK m l->(sizeK l:Int)+leftK m l<=m
 |[],m=>fun h0 h1 _ _ _=>by simp only[sizeK,leftK];omega
 |k::r,m=>fun h0 h1 hc hk hl=>by
  rw[leftK]at hl⊢;by_cases hneg:zF8 m k<0
  ·rw[if_pos hneg]at hl;omega
  rw[if_neg hneg]at hl⊢;have h2:=zUs k m h0 h1 hc.1 (hk k List.mem_cons_self) Kb;have h3:=zQ9 r (zF8 m k) Kb Kb hc.2 (fun x hx=>hk x (List.mem_cons_of_mem _ hx)) hl;simp only[sizeK];omega
end
theorem zRa {d:Nat}{w:World}{B:Nat}{v:Value}{m:Int}(h:zV d w B v n)(h0:0<=m)(h1:m<=1000)(hk:zAh n=0)(hf:zI5 m n=true):(sizeT n:Int)<=m:=by
 have h2:=of_decide_eq_true hf;have:=zUs n m h0 h1 (kFi h) hk h2;omega
structure zRb (n:NT)(s:Sl)(a:OpP):Prop where
 sel:fewS s=true
 tiny:zAf a
 size:zAh n=0->sizeT n<=900
 node:zAh a.n=0->sizeT a.n<=900
