import Derived.Test.YtmglnjmnabjjgaaGreatHDo4
set_option maxRecDepth 4000
set_option maxHeartbeats 8000000
namespace Go.Proofs.YtmglnjmnabjjgaaGreat
open Go.RowKit
variable {l m q r rs s u:List Int}{c go os:List NT}{k n yn:NT}{p:List Int×Int}{K aff lab pos z:Int}
theorem kNn {x m:NT}(h:kQo x m=true):x.tx.length=m.tx.length+1/\x.ks.length=m.ks.length/\shpK x.ks m.ks=true:=by
 cases x;cases m
 rw[kQo,Bool.and_eq_true,decide_eq_true_iff]at h;exact⟨h.1,((kQd _ _).1 h.2).1,h.2⟩
theorem kSt {a c:Bool}{p q:List Pr}{gx tx:List Int}{gk ks:List NT}(h:gx.length=tx.length+1)(hk:shpK gk ks=true):kQo (.mk a p gx gk) (.mk c q tx ks)=true:=by
 rw[kQo,Bool.and_eq_true,decide_eq_true_iff];exact⟨h,hk⟩
mutual
theorem kRc :∀(n:NT)(f:Int),kQo (kQ3 n f) n=true
 |.mk _ _ tx ks,f=>kSt (by rw[List.length_cons,kOr]) (kRp ks _)
theorem kRp :∀(ks:List NT)(f:Int),shpK (kPx ks f) ks=true
 |[],_=>by simp only[kPx,shpK]
 |k::r,f=>by simp only[kPx,shpK,kRc k f,kRp r,Bool.and_true]
end
theorem kQe :∀(a b c d:List NT),shpK a c=true->shpK b d=true->shpK (a++b) (c++d)=true
 |[],b,[],d,_,h2=>h2
 |g::gr,b,k::r,d,h1,h2=>by
  rw[shpK,Bool.and_eq_true]at h1;simp only[List.cons_append,shpK,h1.1,kQe gr b r d h1.2 h2,Bool.and_true]
 |[],_,_::_,_,h1,_=>by simp[shpK]at h1
 |_::_,_,[],_,h1,_=>by simp[shpK]at h1
theorem kQs :∀(i:Nat)(a c:List NT),shpK a c=true->shpK (a.take i) (c.take i)=true
 |0,_,_,_=>by simp[shpK]
 |_+1,[],[],_=>by simp[shpK]
 |i+1,g::gr,k::r,h=>by
  rw[shpK,Bool.and_eq_true]at h;simp only[List.take_succ_cons,shpK,h.1,kQs i gr r h.2,Bool.and_true]
 |_+1,[],_::_,h=>by simp[shpK]at h
 |_+1,_::_,[],h=>by simp[shpK]at h
theorem kQt :∀(i:Nat)(a c:List NT),shpK a c=true->shpK (a.drop i) (c.drop i)=true
 |0,_,_,h=>h
 |_+1,[],[],_=>by simp[shpK]
 |i+1,g::gr,k::r,h=>by
  rw[shpK,Bool.and_eq_true]at h;exact kQt i gr r h.2
 |_+1,[],_::_,h=>by simp[shpK]at h
 |_+1,_::_,[],h=>by simp[shpK]at h
theorem kOt {a:List NT}{j:Nat}(h:shpK a c=true)(hk:c[j]? =some k):∃g,a[j]? =some g/\kQo g k=true:=by
 have h1:=(kQd _ _).1 h;have hj:=(List.getElem?_eq_some_iff.1 hk).1;obtain⟨g,hg⟩:∃g,a[j]? =some g:=⟨_,List.getElem?_eq_getElem Kb⟩;exact⟨g,hg,h1.2 j g k hg hk⟩
theorem kSu {a:List NT}(h:shpK a c=true)(ho:shpK go os=true)(i m:Nat):shpK (spl a i m go) (spl c i m os)=true:=
 kQe _ _ _ _ (kQe _ _ _ _ (kQs i a c h) ho) (kQt (i+m) a c h)
theorem kTp {x:NT}(h:kQo x k=true)(ho:shpK go os=true)(i m:Nat):kQo (jS x i m go) (jS k i m os)=true:=
 kSt (kNn h).1 (kSu (kNn h).2.2 ho i m)
theorem kUl {g:NT}(h:kQo g k=true):shpK [g] [k]=true:=by simp only[shpK,h,Bool.and_true]
theorem kTq :shpK [] []=true:=by simp only[shpK]
theorem kN7 :∀(p:List Int)(g n m:NT),kQo g n=true->kB n p=some m->∃x,kB g p=some x/\kQo x m=true
 |[],g,n,m=>fun h hg=>by
  injection hg with hg;subst hg;exact⟨g,rfl,h⟩
 |i::p,g,n,m=>fun h hg=>by
  rw[zR]at hg;cases hk:zBh n i with
  |none=>rw[hk]at hg;cases hg
  |some k=>
   rw[hk]at hg;obtain⟨j,rfl,hj⟩:=zDa hk;obtain⟨y,hy,hyk⟩:=kOt (kNn h).2.2 hj;obtain⟨x,hx,AG⟩:=kN7 p y k m hyk hg;exact⟨x,by rw[zR,zA9,hy];exact hx,AG⟩
theorem kSv :∀(p:List Int)(g n m x' m':NT),kQo g n=true->kB n p=some m->kQo x' m'=true->kQo (putT g p x') (putT n p m')=true
 |[],g,n,m,x',m'=>fun _ _ hx=>hx
 |i::p,g,n,m,x',m'=>fun h hg hx=>by
  rw[zR]at hg;cases hk:zBh n i with
  |none=>rw[hk]at hg;cases hg
  |some k=>
   rw[hk]at hg;obtain⟨j,rfl,hj⟩:=zDa hk;obtain⟨y,hy,hyk⟩:=kOt (kNn h).2.2 hj;have hl:=(kNn h).2.1;have hlt:=(List.getElem?_eq_some_iff.1 hj).1;rw[kQk hy,kQk hj,<-zI0 Kb,<-zI0 Kb];exact kSt (kNn h).1 (kSu (kNn h).2.2 (kUl (kSv p y k m x' m' hyk hg hx)) j 1)
theorem Gh.form {w:World}{v:Value}{g m:NT}{F:Nat->Prop}{p:List Int}(h:Gh w v g F)(hg:kB g p=some m):∃lab rs ks,m=.mk false [] (lab::rs) ks:=by
 obtain⟨u,Fm,_,h1,_⟩:=Gh.sub p h hg;cases h1 with
 |mk _ b lab rs ks=>exact⟨lab,rs,ks,rfl⟩
theorem kNr {x:NT}{m:Nat}(h:sizeT n<=m)(hx:kB n u=some x):x.ks.length<=m/\x.tx.length<=m/\x.tx.length+x.ks.length<=m:=by
 have h1:=zGh u n x hx;have h3:=kOn x.ks;rw[jC x]at h1;omega
theorem kUm {x b m:NT}{i:Nat}(hg:kB n u=some x)(hi:i+1<x.ks.length)(hb:x.ks[i]? =some b):kB (putT n u (jS x (i+1) 1 [])) (u++[(i:Int)])=some b/\putT (putT n u (jS x (i+1) 1 [])) (u++[(i:Int)]) m=putT n u (jS x i 2 [m]):=by
 have hg2:=jX n u (jS x (i+1) 1 []) x hg;have hsk:(jS x (i+1) 1 []).ks[i]? =some b:=by
  show(spl x.ks (i+1) 1 [])[i]? =_
  rw[zBp Kb Kb,hb]
 refine⟨?_,?_⟩
 ·rw[jJ,hg2];show kB (jS x (i+1) 1 []) [(i:Int)]=_
  rw[zR,zA9,hsk];rfl
 ·rw[zEz _ _ _ _ _ hg2,zEo _ _ _ _ _ hg,zSg hsk];congr 1
  show NT.mk _ _ _ (spl (spl x.ks (i+1) 1 []) i 1 [_])=NT.mk _ _ _ _
  rw[zX1 Kb];rfl
theorem kSw {p:Int}(h:zFx r p s=(l,0)):∃k:Nat,p=k/\k<=r.length:=by
 unfold zFx at h;split at h
 ·split at h
  ·exact⟨p.toNat,by omega,by omega⟩
  ·cases h
 ·cases h
theorem kSx {p:Int}(h:zFe r p s=(l,0)):∃k:Nat,p=k/\k+s.length<=r.length:=by
 unfold zFe at h;split at h
 ·split at h
  ·rename_i h1
   split at h
   ·rename_i h2
    have:=congrArg List.length h2;rw[List.length_take,List.length_drop]at this;exact⟨p.toNat,by omega,by omega⟩
   ·cases h
  ·cases h
 ·cases h
theorem kNx {x:NT}{i:Nat}(hg:kB n u=some x)(hk:x.ks[i]? =some k):kB n (u++[(i:Int)])=some k:=by
 rw[zAc hg,zA9,hk];rfl
theorem kUn {a:OpP}{g y y2 gk s:NT}{t p p':List Int}{i j:Nat}(e:a.k=5)(p1:a.q=u++[(i:Int)])(q1:a.t=t++[(j:Int)])(hy:kB g u=some y)(dE:y.ks[i]? =some gk)(hy2:kB (putT g u (jS y i 1 [])) t=some y2)(hj:j<=y2.ks.length)(hs:kB g p=some s)(hmv:jF a.k a.q a.t a.z p=(p',true)):
  ∃y',kB (putT (putT g u (jS y i 1 [])) t (jS y2 j 0 [gk])) p'=some y'/\kE s y':=by
 have hg:(jI p&&jI a.q&&jI a.t&&zE9 a.z)=true:=by
  by_cases hg:(jI p&&jI a.q&&jI a.t&&zE9 a.z)=true
  ·exact hg
  ·unfold jF at hmv;rw[if_neg hg]at hmv;exact absurd (zO hmv).2 Kd
 have bj:a.q.length≠0:=by rw[p1];simp
 have fU:(if zX a.q p=2∨zX a.q p=3 then(a.t++p.drop a.q.length,true)else jH 1 a.t 0 (jH 2 a.q 0 p).1)=(p',true):=by
  have e2:=hmv;unfold jF at e2;rw[if_pos hg,if_pos ⟨e,bj⟩]at e2;exact e2
 by_cases h2:zX a.q p=2∨zX a.q p=3
 ·rw [if_pos h2]at fU;have bA:∃r,p=a.q++r:=by
   rcases h2 with h2|h2
   ·exact⟨[],by rw[zCw.1 h2];simp⟩
   ·obtain⟨s1,s2⟩:=zL6.1 h2;refine⟨p.drop a.q.length,?_⟩;have e3:p.take a.q.length=a.q:=by
     refine zL1 Kf (fun j hj=>?_);simp at hj;rw[jY _ _ Kf,List.getElem_take,<-jY _ _ Kb];exact(s2 j Kb).symm
    conv=>lhs;rw[<-List.take_append_drop a.q.length p,e3]
  obtain⟨r,rfl⟩:=bA;rw[List.drop_left]at fU;have hyk:kB gk r=some s:=by
   rw[jJ,p1,kNx hy dE]at hs;exact hs
  rw[<-(zO fU).1,q1];refine⟨s,?_,kE.refl _⟩;rw[List.append_assoc];have hin:=zAz (ks:=y2.ks) (o:=[gk]) (i:=j) (m:=0) (j:=0) Kc hj;exact(zAw (x':=jS y2 j 0 [gk]) hy2 j r (by show(spl y2.ks j 0 [gk])[j]? =some gk;simpa using hin)).trans hyk
 ·rw[if_neg h2]at fU;have qH:jH 2 a.q 0 p=((jH 2 a.q 0 p).1,true):=by
   have hst:=zF4 a.q p;rw[p1]at h2 hst⊢;rw[zQs (k:=u.length) Kc];rcases hst with h0|h0|h0|h0
   ·rw[if_pos h0]
   ·rw[if_neg Kb,if_pos h0]
   ·exact absurd (.inl h0) h2
   ·exact absurd (.inr h0) h2
  rw[p1]at qH fU;obtain⟨y1,g1,g2⟩:=zJm hy (List.getElem?_eq_some_iff.1 dE).1 hs qH;obtain⟨y3,g3,g4⟩:=zJl (m:=gk) (i:=j) hy2 hj g1;rw[q1]at fU;rw[fU]at g3;exact⟨y3,g3,g4.1.trans g2.1,g4.2.trans g2.2⟩
theorem kNz :∀(p:List Int)(n y:NT)(m:Nat),kB n p=some y->sizeT n<=m->m<=1048576->jI p=true
 |[],_,_,_,_,_,_=>rfl
 |i::p,n,y,m,h,hs,hm=>by
  rw[zR]at h;cases hk:zBh n i with
  |none=>rw[hk]at h;cases h
  |some k=>
   rw[hk]at h;obtain⟨k1,k2,_⟩:=zA1 hk;have h1:=kOn n.ks;have h2:=jC n;have h3:=zGh [i] n k (by rw[zR,hk];rfl);have ih:=kNz p k y m h Kb hm;unfold jI at ih⊢;rw[List.all_cons,ih,Bool.and_true,Bool.and_eq_true,decide_eq_true_iff,decide_eq_true_iff];omega
theorem kQu {x:NT}{i m:Nat}(h:kB n u=some x)(hi:i<=x.ks.length)(hs:sizeT n<=m)(hm:m<=1048576):jI (u++[(i:Int)])=true:=by
 have h1:=kNz u n x m h hs hm;have h2:=kNr hs h;unfold jI at h1⊢;rw[List.all_append,h1,Bool.true_and,List.all_cons,List.all_nil,Bool.and_true,Bool.and_eq_true,decide_eq_true_iff,decide_eq_true_iff];omega
theorem kO9 {o:OpP}(hf:zCx o=0)(hk:o.k=1∨o.k=2∨o.k=3∨o.k=4∨o.k=6∨o.k=7∨o.k=8∨o.k=9):o.t=[]:=by
 have h:=(zOy hf).2;obtain⟨k,q,t,z,n,ol,w,x,f,g⟩:=o;simp only at hk;rcases hk with rfl|rfl|rfl|rfl|rfl|rfl|rfl|rfl<;>(simp[fieldsO,zeroO]at h;(try simp[h]))
theorem kVg {o:OpP}(hf:zCx o=0)(hk:o.k=9):o.q=[]/\o.z=0:=by
 have h:=(zOy hf).2;obtain⟨k,q,t,z,n,ol,w,x,f,g⟩:=o;simp only at hk;subst hk;simp[fieldsO,zeroO]at h;simp[h]
theorem kQv {p:List Int}(h2:K≠2)(h3:K=3->lastL q≠0):(jH K q z p).2=true:=by
 unfold jH;by_cases h0:q.length=0
 ·rw[if_pos h0]
 rw[if_neg h0];by_cases e1:K=1
 ·rw[if_pos e1];split<;>rfl
 rw[if_neg e1,if_neg h2];by_cases e3:K=3
 ·rw[if_pos e3,if_neg (h3 e3)];split
  ·rfl
  split<;>rfl
 rw[if_neg e3];by_cases e4:K=4
 ·rw[if_pos e4];split
  ·rfl
  split<;>rfl
 rw[if_neg e4]
theorem kTr {a:NT}{o:OpP}(hf:zCx o=0)(h1:1<=o.k)(h8:o.k<=8)(h:doO n o=(a,0))(hn:sizeT n<=1000):(jI o.q&&jI o.t&&zE9 o.z)=true/\(o.k=3->lastL o.q≠0):=by
 have hmx:∀u x,kB n u=some x->x.ks.length<9223372036854775807:=fun u x hx=>by have:=(kNr hn hx).1;omega
 have z0:zE9 0=true:=by decide
 have zn:∀k:Nat,k<=1000->zE9 (k:Int)=true:=fun k hk=>(zKd _).2 Kb;have pk:∀{u:List Int}{i:Nat}{x:NT},kB n u=some x->i<=x.ks.length->jI (u++[(i:Int)])=true:=fun h1 h2=>kQu h1 h2 hn Kb;have tn:jI []=true:=rfl;rcases zC7 h1 h8 h with⟨e,h⟩|⟨e,h⟩|⟨e,h⟩|⟨e,h⟩|⟨e,h⟩|⟨e,h⟩|⟨e,h⟩|⟨e,h⟩
 ·obtain⟨u,i,x,hx⟩:=zD7 (zCd h).2;refine⟨?_,fun e2=>by omega⟩;rw[hx.path,pk hx.at_ hx.le,kO9 hf Kb,kRv hf Kb,tn,z0];rfl
 ·obtain⟨h2,h3⟩:=zCl h;obtain⟨u,i,x,k,hx⟩:=zBn (n:=n) (p:=o.q) (by rw[h2]);refine⟨?_,fun e2=>by omega⟩;rw[hx.path,pk hx.at_ (Nat.le_of_lt (List.getElem?_eq_some_iff.1 hx.kid).1),kO9 hf Kb,kRv hf Kb,tn,z0];rfl
 ·obtain⟨u,i,x,b,k,hx⟩:=zC5 h;have hb:=kNr hn (kNx hx.at_ hx.b_);refine⟨?_,fun _=>by rw[hx.path,zC0];omega⟩;rw[hx.path,pk hx.at_ (Nat.le_of_lt (List.getElem?_eq_some_iff.1 hx.k_).1),kO9 hf Kb,tn,<-hx.pos];show zE9 (b.tx.length+b.ks.length:Int)=true
  exact(zKd _).2 Kb
 ·obtain⟨u,i,x,k,hx⟩:=zCc hmx h;have hb:=kNr hn (kNx hx.at_ hx.kid);have hz:=hx.hi;have hz0:=hx.lo;have hl:zG9 k=k.tx.length+k.ks.length:=rfl;refine⟨?_,fun e2=>by omega⟩;rw[hx.path,pk hx.at_ (Nat.le_of_lt (List.getElem?_eq_some_iff.1 hx.kid).1),kO9 hf Kb,tn];exact(zKd _).2 Kb
 ·obtain⟨h2,h3⟩:=zBz h;obtain⟨u,i,x,k,hx⟩:=zBn h2;obtain⟨t,j,y,hy⟩:=zD7 h3;have hs:=zFn h2;refine⟨?_,fun e2=>by omega⟩;have hq:=pk hx.at_ (Nat.le_of_lt (List.getElem?_eq_some_iff.1 hx.kid).1);rw[<-hx.path]at hq;rw[hq,hy.path,kQu hy.at_ hy.le (m:=1000) Kb Kb,kRv hf Kb,z0];rfl
 ·obtain⟨k,hq,hg,hc,_⟩:=zC6 h;refine⟨?_,fun e2=>by omega⟩;rw[kNz o.q n k 1000 hg hn Kb,kO9 hf Kb,kRv hf Kb,tn,z0];rfl
 ·obtain⟨k,hg,hl,h0,_⟩:=jZ h;have hi:zFx k.tx o.z o.x=((zFx k.tx o.z o.x).1,0):=Prod.ext rfl h0;obtain⟨j,hj,hjl⟩:=kSw hi;have hb:=kNr hn hg;refine⟨?_,fun e2=>by omega⟩;rw[kNz o.q n k 1000 hg hn Kb,kO9 hf Kb,tn,hj,zn j Kb];rfl
 ·obtain⟨k,hg,hl,h0,_⟩:=jZ h;have hi:zFe k.tx o.z o.x=((zFe k.tx o.z o.x).1,0):=Prod.ext rfl h0;obtain⟨j,hj,hjl⟩:=kSx hi;have hb:=kNr hn hg;refine⟨?_,fun e2=>by omega⟩;rw[kNz o.q n k 1000 hg hn Kb,kO9 hf Kb,tn,hj,zn j Kb];rfl
theorem kSy {a y:NT}{o:OpP}{p x:List Int}(hf:zCx o=0)(h1:1<=o.k)(h8:o.k<=8)(h:doO n o=(a,0))(hn:sizeT n<=1000)(hp:kB n p=some y)(hm:jF o.k o.q o.t o.z p=(x,false)):o.k=2/\(p=o.q∨(o.q.length<p.length/\∀j,j<o.q.length->iAt o.q j=iAt p j)):=by
 obtain⟨hs,h3⟩:=kTr hf h1 h8 h hn;have hsp:=kNz p n y 1000 hp hn Kb;unfold jF at hm;rw[if_pos (by rw[Bool.and_assoc,Bool.and_assoc,hsp,Bool.true_and,<-Bool.and_assoc];exact hs)]at hm;by_cases h5:o.k=5/\o.q.length≠0
 ·rw[if_pos h5]at hm;split at hm
  ·exact absurd (zO hm).2 Kc
  ·have:=kQv (K:=1) (q:=o.t) (p:=(jH 2 o.q 0 p).1) (z:=0) Kb (fun e=>by omega);rw[hm]at this;cases this
 ·rw[if_neg h5]at hm;by_cases h2:o.k=2
  ·refine⟨h2,?_⟩;rw[h2]at hm;have hst:=zF4 o.q p;rcases hst with h0|h0|h0|h0
   ·unfold jH at hm;rw[if_neg (show¬((2:Int)=1) by decide),if_pos rfl,if_pos h0]at hm;split at hm<;>exact absurd (zO hm).2 Kc
   ·unfold jH at hm;rw[if_neg (show¬((2:Int)=1) by decide),if_pos rfl,if_neg (show¬zX o.q p=0 by omega),if_pos h0]at hm;split at hm<;>exact absurd (zO hm).2 Kc
   ·exact .inl (zCw.1 h0).symm
   ·exact .inr (zL6.1 h0)
  ·have:=kQv (q:=o.q) (p:=p) (z:=o.z) h2 h3;rw[hm]at this;cases this
theorem kVh {y:NT}{o:OpP}{p:List Int}(hf:zCx o=0)(h9:o.k=9)(hn:sizeT n<=1000)(hp:kB n p=some y):jF o.k o.q o.t o.z p=(p,true):=by
 obtain⟨hq,hz⟩:=kVg hf h9;have ht:=kO9 hf Kb;have hsp:=kNz p n y 1000 hp hn Kb;unfold jF;have hb:(jI p&&jI []&&jI []&&zE9 0)=true:=by rw[hsp];rfl
 rw[hq,ht,hz,if_pos hb,if_neg (show¬(o.k=5/\([]:List Int).length≠0) by omega)];unfold jH;exact if_pos rfl
mutual
def allR :NT->List Int
 |.mk _ _ tx ks=>tx.tail++allK ks
def allK :List NT->List Int
 |[]=>[]
 |k::r=>allR k++allK r
end
theorem kQf :∀(a b:List NT),allK (a++b)=allK a++allK b
 |[],b=>rfl
 |k::r,b=>by rw[List.cons_append,allK,allK,kQf r b,List.append_assoc]
theorem kQg (n:NT):allR n=n.tx.tail++allK n.ks:=by obtain⟨a,b,c,d⟩:=n;rfl
theorem kRd {ks:List NT}{i:Nat}(h:ks[i]? =some k):allK ks=allK (ks.take i)++(allR k++allK (ks.drop (i+1))):=by
 have e:ks=ks.take i++(k::ks.drop (i+1)):=by
  obtain⟨h1,h2⟩:=List.getElem?_eq_some_iff.1 h;rw[<-h2,<-List.drop_eq_getElem_cons h1,List.take_append_drop]
 conv=>lhs;rw[e]
 rw[kQf,allK]
theorem kPe :∀(p:List Int)(n x:NT),kB n p=some x->∃A B,allR n=A++(allR x++B)/\∀x',allR (putT n p x')=A++(allR x'++B)
 |[],n,x,h=>by
  rw[kB]at h;injection h with h;subst h;exact⟨[],[],by simp,fun x'=>by simp[putT]⟩
 | i::r,n,x,h=>by
  rw[kB]at h;cases hk:zBh n i with
  |none=>rw[hk]at h;cases h
  |some k=>
   rw[hk]at h;obtain⟨j,rfl,hj⟩:=zDa hk;obtain⟨A,B,h1,h2⟩:=kPe r k x h;refine⟨n.tx.tail++(allK (n.ks.take j)++A),B++allK (n.ks.drop (j+1)),?_,fun x'=>?_⟩
   ·rw[kQg,kRd hj,h1];simp
   ·have hlt:=(List.getElem?_eq_some_iff.1 hj).1;rw[kQk hj,kQg];show n.tx.tail++allK (n.ks.set j (putT k r x'))=_
    rw[kRd (i:=j) (k:=putT k r x') (by simp[hlt]),h2 x',List.take_set_of_le Km,List.drop_set_of_lt Kb];simp
theorem kTs {y:NT}{p:List Int}{l:Int}(h:kB n p=some y)(hl:l ∈ allR y):l ∈ allR n:=by
 obtain⟨A,B,h1,_⟩:=kPe p n y h;rw[h1];simp[hl]
mutual
theorem kUf :∀(n:NT)(f:Int),(∀l ∈ allR (kQ3 n f),f<l/\l<f+sizeT n)/\(allR (kQ3 n f)).Pairwise (·<·)
 |.mk _ _ tx ks,f=>by
  obtain⟨h1,h2⟩:=kSz ks (f+1+tx.length);have hn:∀l ∈ kSj (f+1) tx.length,f<l/\l<f+1+tx.length:=fun l hl=>by
   simp only[kSj,List.mem_map,List.mem_range]at hl;obtain⟨i,hi,rfl⟩:=hl;omega
  simp only[kQ3,allR,List.tail_cons,sizeT];refine⟨fun l hl=>?_,List.pairwise_append.2 ⟨?_,h2,fun x hx y hy=>?_⟩⟩
  ·rcases List.mem_append.1 hl with h|h
   ·have:=hn l h;omega
   ·have:=h1 l h;omega
  ·unfold kSj;rw[List.pairwise_map];exact List.pairwise_lt_range.imp (by intro a b h;omega)
  ·have:=hn x hx;have:=h1 y hy;omega
theorem kSz :∀(ks:List NT)(f:Int),(∀l ∈ allK (kPx ks f),f<l/\l<f+sizeK ks)/\(allK (kPx ks f)).Pairwise (·<·)
 |[],f=>⟨by simp[kPx,allK],by simp[kPx,allK]⟩
 |k::r,f=>by
  obtain⟨h1,h2⟩:=kUf k f;obtain⟨h3,h4⟩:=kSz r (f+sizeT k);simp only[kPx,allK,sizeK];refine⟨fun l hl=>?_,List.pairwise_append.2 ⟨h2,h4,fun x hx y hy=>?_⟩⟩
  ·rcases List.mem_append.1 hl with h|h
   ·have:=h1 l h;omega
   ·have:=h3 l h;omega
  ·have:=h1 x hx;have:=h3 y hy;omega
end
theorem kS0 (n:NT)(f:Int):(allR (kQ3 n f)).Nodup:=(kUf n f).2.imp (by intro a b h;omega)
def atZ (p:List Int×Int)(b:Bool):Int:=if b then p.2 else p.2-1
def kPv (g:NT)(p:List Int×Int)(b:Bool):Int:=match kB g p.1 with
 |none=> -1
 |some y=>if atZ p b<0∨(y.tx.tail.length:Int)<=atZ p b then-1 else iAt y.tx.tail (atZ p b).toNat
theorem kOj {g y:NT}{b:Bool}{i:Nat}(h:kB g p.1=some y)(hi:atZ p b=(i:Int))(hl:i<y.tx.tail.length):kPv g p b=iAt y.tx.tail i:=by
 unfold kPv;rw[h];simp only[hi];rw[if_neg Kb];simp
theorem kRq {g:NT}{b:Bool}(h:0<=kPv g p b):∃y i,kB g p.1=some y/\atZ p b=((i:Nat):Int)/\i<y.tx.tail.length/\kPv g p b=iAt y.tx.tail i:=by
 cases hg:kB g p.1 with
 |none=>unfold kPv at h;rw[hg]at h;simp at h
 |some y=>
  by_cases hc:atZ p b<0∨(y.tx.tail.length:Int)<=atZ p b
  ·unfold kPv at h;rw[hg]at h;simp only at h;rw[if_pos hc]at h;omega
  ·refine⟨y,(atZ p b).toNat,rfl,by omega,by omega,?_⟩;exact kOj hg Kb Kb
theorem kRe {i:Nat}(h:i<l.length):iAt l i ∈ l:=by rw[jY l i h];exact List.getElem_mem h
theorem kRf {p:List Int}(h:p=q∨(q.length<p.length/\∀j,j<q.length->iAt q j=iAt p j)):∃r,p=q++r:=by
 rcases h with rfl|⟨s1,s2⟩
 ·exact⟨[],by simp⟩
 ·refine⟨p.drop q.length,?_⟩;have e3:p.take q.length=q:=by
   refine zL1 Kf (fun j hj=>?_);simp at hj;rw[jY _ _ Kf,List.getElem_take,<-jY _ _ Kb];exact(s2 j Kb).symm
  conv=>lhs;rw[<-List.take_append_drop q.length p,e3]
theorem kQw {L X M:List Int}{l:Int}(h:(L++(X++M)).Nodup)(hx:l ∈ X)(hm:l ∈ L++M):False:=by
 rw[List.nodup_append]at h;obtain⟨_,h2,h3⟩:=h;rw[List.nodup_append]at h2;rcases List.mem_append.1 hm with h4|h4
 ·exact h3 l h4 l (by simp[hx]) rfl
 ·exact h2.2.2 l hx l h4 rfl
theorem kRg {x y:List Int}{o:Int}{b:Bool}{i j:Int}(h:atZ (x,o) b=i):atZ (y,o+j) b=i+j:=by unfold atZ at h⊢;cases b<;>simp at h⊢<;>omega
theorem kNy (a:Bool)(b:List Pr)(l:Int)(rs:List Int)(ks:List NT):(NT.mk a b (l::rs) ks).tx.tail=rs:=rfl
theorem kQh {i:Nat}(h:i<l.length):iAt (l++m) i=iAt l i:=by rw[jY _ _ Kf,jY _ _ h,List.getElem_append_left h]
theorem kPo {i:Nat}(h:i<m.length):iAt (l++m) (l.length+i)=iAt m i:=by rw[jY _ _ Kf,jY _ _ h,List.getElem_append_right Kb];simp
theorem kPf {k i:Nat}(h:i<k)(hl:i<l.length):iAt (l.take k) i=iAt l i:=by rw[jY _ _ Kf,jY _ _ hl,List.getElem_take]
theorem kPg {k i:Nat}(hl:k+i<l.length):iAt (l.drop k) i=iAt l (k+i):=by rw[jY _ _ Kf,jY _ _ hl,List.getElem_drop]
def kRh (b:Bool):Int:=if b then 1 else 2
theorem kO3 (b:Bool):zDx (kRh b):=by cases b<;>simp[kRh,zDx]
def kWc (a:OpP)(n g g':NT):Prop:=∀(p:List Int×Int)(b:Bool)(y yn:NT)(i:Nat),kB n p.1=some yn->yn.lf=true->kB g p.1=some y->atZ p b=(i:Int)->i<y.tx.tail.length->0<=p.2->p.2<=1000->iAt y.tx.tail i ∈ allR g'->
 ∃q,zEr a.k a.q a.t a.z (a.x.length:Int) (kRh b) p=(q,true)/\kPv g' q b=iAt y.tx.tail i
theorem kOv {a:OpP}{g' y y':NT}{b:Bool}{i:Nat}{x:List Int}(hx:jF a.k a.q a.t a.z p.1=(x,true))(h0:0<=p.2)(h1:p.2<=1000)(hne:a.q=p.1->a.k≠3/\a.k≠4/\a.k≠7/\a.k≠8)(hg:kB g' x=some y')(ht:y'.tx=y.tx)(hi:atZ p b=(i:Int))(hl:i<y.tx.tail.length):
  ∃q,zEr a.k a.q a.t a.z (a.x.length:Int) (kRh b) p=(q,true)/\kPv g' q b=iAt y.tx.tail i:=by
 refine⟨(x,p.2),?_,?_⟩
 ·rw[kB4 (kO3 b) h0 Kb hx];split
  ·rename_i e
   obtain⟨h3,h4,h7,h8⟩:=hne e;unfold zXx;rw[if_neg h7,if_neg h8,if_neg (fun h=>h3 h.1),if_neg (fun h=>h4 h.1)]
  ·rfl
 ·rw[kOj (p:=(x,p.2)) hg hi (by rw[ht];exact hl),ht]
theorem kRr {t:List Int}{n:Int}{x:List Int}(ha:zDx aff)(h0:0<=p.2)(h1:p.2<=1000)(hx:jF K q t pos p.1=(x,true))(e:q=p.1):zEr K q t pos n aff p=zXx K q pos n aff x p.2:=by
 rw[kB4 ha h0 Kb hx,if_pos e]
theorem kS1 {r:NT}{a:OpP}{p:List Int}(hf:zCx a=0)(h1:1<=a.k)(h8:a.k<=8)(hd:doO n a=(r,0))(hn:sizeT n<=1000)(hp:kB n p=some yn):(∃x,jF a.k a.q a.t a.z p=(x,true))∨(a.k=2/\∃s,p=a.q++s):=by
 cases hm:(jF a.k a.q a.t a.z p).2
 ·obtain⟨e1,e2⟩:=kSy hf h1 h8 hd hn hp (show jF a.k a.q a.t a.z p=((jF a.k a.q a.t a.z p).1,false)from Prod.ext rfl hm);exact .inr ⟨e1,kRf e2⟩
 ·exact .inl ⟨_,Prod.ext rfl hm⟩
theorem kUo {r:NT}{a:OpP}{p:List Int}(hf:zCx a=0)(h1:1<=a.k)(h8:a.k<=8)(hd:doO n a=(r,0))(hn:sizeT n<=1000)(hp:kB n p=some yn)(h2:a.k≠2):∃x,jF a.k a.q a.t a.z p=(x,true):=by
 rcases kS1 hf h1 h8 hd hn hp with h|⟨h,_⟩
 ·exact h
 ·exact absurd h h2
theorem kUp {a:OpP}{g:NT}{b:Bool}{i k:Nat}{x:List Int}(h7:a.k=7)(hx:jF a.k a.q a.t a.z p.1=(x,true))(nR:x=a.q)(e:a.q=p.1)(hg:∃z,kB g a.q=some z)(h0:0<=p.2)(h1:p.2<=1000)(hz:a.z=(k:Int))(hk:k<=rs.length)(hi:atZ p b=(i:Int))(hl:i<rs.length):
  ∃q,zEr a.k a.q a.t a.z (a.x.length:Int) (kRh b) p=(q,true)/\kPv (putT g a.q (.mk false [] (lab::(rs.take k++List.replicate a.x.length (-2)++rs.drop k)) [])) q b=iAt rs i:=by
 obtain⟨zz,hzz⟩:=hg;have hg':=jX g a.q (.mk false [] (lab::(rs.take k++List.replicate a.x.length (-2)++rs.drop k)) []) zz hzz;rw[kRr (kO3 b) h0 h1 hx e];unfold zXx;rw[if_pos h7,nR,hz];refine⟨_,rfl,?_⟩;have hb:zEl p.2 k (kRh b)=decide (k<=i):=by
  unfold zEl kRh;unfold atZ at hi;rw[Bool.eq_iff_iff];cases b<;>simp at hi⊢<;>omega
 rw[hb];by_cases jo:k<=i
 ·rw[decide_eq_true jo,if_pos rfl];obtain⟨j,rfl⟩:=Nat.exists_eq_add_of_le jo;have e2:atZ (a.q,p.2+(a.x.length:Int)) b=((k+a.x.length+j:Nat):Int):=by
   rw[kRg (x:=p.1) (i:=((k+j:Nat):Int)) hi];omega
  rw[kOj hg' e2 (by rw[kNy];simp;omega)];rw[kNy];have e3:(List.take k rs++List.replicate a.x.length (-2:Int)).length=k+a.x.length:=by simp;omega
  have e4:=kPo (l:=List.take k rs++List.replicate a.x.length (-2:Int)) (m:=rs.drop k) (i:=j) Kf;rw[e3]at e4;rw[e4,kPg Kb]
 ·rw[decide_eq_false jo,if_neg Kc];rw[kOj hg' (show atZ (a.q,p.2) b=(i:Int)from hi) (by rw[kNy];simp;omega)];rw[kNy];rw[List.append_assoc,kQh Kf,kPf Kb hl]
theorem kUq {a:OpP}{g:NT}{b:Bool}{i k m:Nat}{x:List Int}(h8:a.k=8)(hx:jF a.k a.q a.t a.z p.1=(x,true))(nR:x=a.q)(e:a.q=p.1)(hg:∃z,kB g a.q=some z)(h0:0<=p.2)(h1:p.2<=1000)(hz:a.z=(k:Int))(hm:a.x.length=m)(hk:k+m<=rs.length)(hi:atZ p b=(i:Int))(hl:i<rs.length)(hout:i<k∨k+m<=i):
  ∃q,zEr a.k a.q a.t a.z (a.x.length:Int) (kRh b) p=(q,true)/\kPv (putT g a.q (.mk false [] (lab::(rs.take k++rs.drop (k+m))) [])) q b=iAt rs i:=by
 obtain⟨zz,hzz⟩:=hg;have hg':=jX g a.q (.mk false [] (lab::(rs.take k++rs.drop (k+m))) []) zz hzz;rw[kRr (kO3 b) h0 h1 hx e];unfold zXx;rw[if_neg Kb,if_pos h8,nR,hz,hm];refine⟨_,rfl,?_⟩;rcases hout with ho|ho
 ·have e2:atZ (a.q,(if(k:Int)<p.2 then max (p.2-(m:Int)) (k:Int)else p.2)) b=(i:Int):=by
   unfold atZ at hi⊢;cases b
   ·simp at hi⊢;rw[if_neg Kb];exact hi
   ·simp at hi⊢;rw[if_neg Kb];exact hi
  rw[kOj hg' e2 (by rw[kNy];simp;omega)];rw[kNy];rw[kQh Kf,kPf Kb hl]
 ·obtain⟨j,rfl⟩:=Nat.exists_eq_add_of_le ho;have e2:atZ (a.q,(if(k:Int)<p.2 then max (p.2-(m:Int)) (k:Int)else p.2)) b=((k+j:Nat):Int):=by
   unfold atZ at hi⊢;cases b
   ·simp at hi⊢;rw[if_pos Kb];omega
   ·simp at hi⊢;by_cases hc:(k:Int)<p.2
    ·rw[if_pos hc];omega
    ·rw[if_neg hc];omega
  rw[kOj hg' e2 (by rw[kNy];simp;omega)];rw[kNy];have e4:=kPo (l:=List.take k rs) (m:=rs.drop (k+m)) (i:=j) Kf;rw[show(List.take k rs).length=k by simp;omega]at e4;rw[e4,kPg Kb]
section
variable {w w':World}{g:Nat}{a b x y:Value}{t:TypeId}
theorem yb2 (h:w.heap[g]? =some (.cells #[a,b] t (0,0))):w.cell? ⟨g,0,none⟩=some a/\w.cell? ⟨g,1,none⟩=some b/\w.frozen? ⟨g,0,none⟩=false/\w.frozen? ⟨g,1,none⟩=false:=by
 refine⟨?_,?_,?_,?_⟩<;>simp[World.cell?,World.frozen?,h]
theorem yset (w:World)(g:Nat)(t:TypeId)(cs:Array Value)(k:Nat)(x:Value)(h:w.heap[g]? =some (.cells cs t (0,0))):(w.setCell ⟨g,k,none⟩ x).heap[g]? =some (.cells (cs.setIfInBounds k x) t (0,0)):=by
 have hlt:=xlt h;have h':w.heap[g]=.cells cs t (0,0):=by simpa[Array.getElem?_eq_getElem hlt]using h
 show(w.heap.modify g _)[g]? =_
 rw[Array.getElem?_eq_getElem (by simpa using hlt),Array.getElem_modify_self,h'];rfl
theorem kMq (h:w.heap[g]? =some (.cells #[a,b] t (0,0)))(x:Value):(w.setCell ⟨g,0,none⟩ x).heap[g]? =some (.cells #[x,b] t (0,0)):=yset w g t _ 0 x h
theorem zCr (h:w.heap[g]? =some (.cells #[a,b] t (0,0)))(x y:Value):((w.setCell ⟨g,0,none⟩ x).setCell ⟨g,1,none⟩ y).heap[g]? =some (.cells #[x,y] t (0,0)):=yset _ g t _ 1 y (yset w g t _ 0 x h)
theorem kFq {cs:Array Value}{g' k:Nat}(h:w.heap[g]? =some (.cells cs t (0,0)))(hne:g≠g')(x:Value):(w.setCell ⟨g',k,none⟩ x).heap[g]? =some (.cells cs t (0,0)):=(Below.heap_setCell _ _ _ _ hne).trans h
end
theorem kK3 (w:World)(o o' o2:Obj):(((w.alloc o).alloc o').alloc o2).heap[w.heap.size]? =some o/\(((w.alloc o).alloc o').alloc o2).heap[w.heap.size+1]? =some o'/\(((w.alloc o).alloc o').alloc o2).heap[w.heap.size+1+1]? =some o2:=by
 refine⟨?_,?_,?_⟩
 ·rw[Below.heap_alloc _ _ _ Kf,Below.heap_alloc _ _ _ Kc];exact heap_alloc_new _ _
 ·rw[Below.heap_alloc _ _ _ Kc,show w.heap.size+1=(w.alloc o).heap.size by simp];exact heap_alloc_new _ _
 ·rw[show w.heap.size+1+1=((w.alloc o).alloc o').heap.size by simp];exact heap_alloc_new _ _
theorem kMr (w:World)(o o':Obj):((w.alloc o).alloc o').heap[w.heap.size]? =some o/\((w.alloc o).alloc o').heap[w.heap.size+1]? =some o':=by
 refine⟨?_,?_⟩
 ·rw[Below.heap_alloc _ _ _ Kc];exact heap_alloc_new _ _
 ·rw[show w.heap.size+1=(w.alloc o).heap.size by simp];exact heap_alloc_new _ _
theorem zPp (w:World)(o o':Obj):Below w.heap.size w ((w.alloc o).alloc o'):=(Kl.alloc Km _).alloc Kc _
theorem kH7 (w:World)(o o' o2:Obj):Below w.heap.size w (((w.alloc o).alloc o').alloc o2):=(zPp w o o').alloc Kf _
theorem zBt.yset {w:World}{B g k:Nat}{u x:Value}{cs:Array Value}{t:TypeId}{fr:Nat×Nat}(h:zBt w B u l)(hg:w.heap[g]? =some (.cells cs t fr))(ht:t≠3):zBt (w.setCell ⟨g,k,none⟩ x) B u l:=by
 refine zBt.of_own (ownsRow_setCell_other h.own (a:=⟨g,k,none⟩) (fun e=>?_) _) rfl;rcases h.own.2 with⟨e1,_⟩|⟨g',cap,cur,e1,_,hg',_⟩
 ·rw[e1]at e;cases e
 ·rw[e1]at e;injection e with e;have e:g'=g:=e;subst e;rw[hg]at hg';injection hg' with hg';injection hg' with _ h2;exact ht h2
theorem zBt.ypt {w:World}{B g:Nat}{u a b x y:Value}(h:zBt w B u l)(hg:w.heap[g]? =some (.cells #[a,b] 29 (0,0))):zBt ((w.setCell ⟨g,0,none⟩ x).setCell ⟨g,1,none⟩ y) B u l:=
 (h.yset hg Kd).yset (kMq hg x) Kd
def zC3 (w:World)(r:(List Int×Int)×Bool)(e:Ending)(w':World):Prop:=∃v,e=.returned (.tuple #[.agg #[v,.int .i64 r.1.2],.bool r.2])/\zBt w' w.heap.size v r.1.1/\Below w.heap.size w w'
theorem zBi {w w':World}{r:(List Int×Int)×Bool}{b:Bool}{v:Value}(h:r=((l,z),b))(ho:zBt w' w.heap.size v l)(hb:Below w.heap.size w w'):zC3 w r (.returned (.tuple #[.agg #[v,.int .i64 z],.bool b])) w':=by
 subst h;exact⟨v,rfl,ho,hb⟩
def PA (w:World)(v:Value)(p:List Int×Int):Prop:=∃u,v=.agg #[u,.int .i64 p.2]/\XA w u p.1
theorem kK4 {W:World}{b:Bool}(h:decide (zDx aff)=b):Calls Tryz.prog 45 #[.int .i64 aff] W (jA (.bool b) W):=by
 subst h;by_cases h0:aff=0
 ·subst h0;go_enter Tryz.func45,Tryz.ntmps45
  go_wp2
  go_ret
  exact⟨rfl,Below.refl _ _⟩
 by_cases h1:aff=1
 ·subst h1;go_enter Tryz.func45,Tryz.ntmps45
  go_wp2
  go_ret
  exact⟨rfl,Below.refl _ _⟩
 by_cases h2:aff=2
 ·subst h2;go_enter Tryz.func45,Tryz.ntmps45
  go_wp2
  go_ret
  exact⟨rfl,Below.refl _ _⟩
 have HF:=hd (show decide (zDx aff)=false from decide_eq_false (fun h=>by unfold zDx at h;omega));have e0:(aff==0)=false:=by simp[h0]
 have e1:(aff==1)=false:=by simp[h1]
 have e2:(aff==2)=false:=by simp[h2]
 clear h0 h1 h2;go_enter Tryz.func45,Tryz.ntmps45
 go_wp2
 go_ret
 exact⟨kC HF.o.symm,Below.refl _ _⟩
theorem zH0 {W:World}{off:Int}{b:Bool}(h:zEl off pos aff=b):Calls Tryz.prog 47 #[.int .i64 off,.int .i64 pos,.int .i64 aff] W (jA (.bool b) W):=by
 subst h;by_cases h0:pos<off
 ·have HF:=hd (show zEl off pos aff=true by unfold zEl;simp[h0]);have e0:decide (pos<off)=true:=decide_eq_true h0;clear h0;go_enter Tryz.func47,Tryz.ntmps47
  go_wp2
  go_ret
  exact⟨kC HF.o.symm,Below.refl _ _⟩
 have e0:decide (pos<off)=false:=decide_eq_false h0;by_cases h1:pos=off
 ·by_cases h2:aff=1
  ·have HF:=hd (show zEl off pos aff=true by unfold zEl;simp[h1,h2]);have e1:(pos==off)=true:=by simp[h1]
   have e2:(aff==1)=true:=by simp[h2]
   clear h0 h1 h2;go_enter Tryz.func47,Tryz.ntmps47
   go_wp2
   go_ret
   exact⟨kC HF.o.symm,Below.refl _ _⟩
  ·have HF:=hd (show zEl off pos aff=false by unfold zEl;simp[h0,h2]);have e1:(pos==off)=true:=by simp[h1]
   have e2:(aff==1)=false:=by simp[h2]
   clear h0 h1 h2;go_enter Tryz.func47,Tryz.ntmps47
   go_wp2
   go_ret
   exact⟨kC HF.o.symm,Below.refl _ _⟩
 ·have HF:=hd (show zEl off pos aff=false by unfold zEl;simp[h0,h1]);have e1:(pos==off)=false:=by simp[h1]
  clear h0 h1;go_enter Tryz.func47,Tryz.ntmps47
  go_wp2
  go_ret
  exact⟨kC HF.o.symm,Below.refl _ _⟩
theorem zW6 {W:World}{u:Value}{p:List Int}{off:Int}(hp:XA W u p)(h:pos=off/\aff=0):Calls Tryz.prog 48 #[.agg #[u,.int .i64 off],.int .i64 pos,.int .i64 aff] W (zC3 W noP):=by
 have e1:(pos==off)=true:=by simp[h.1]
 have e2:(aff==0)=true:=by simp[h.2]
 clear h;obtain⟨A,n,c,rfl,hn,hl,hc,hp⟩:=hp;obtain⟨W0,hW⟩:∃W0,W0=(W.alloc (.cells #[.slice A n c,.int .i64 off] 29)).alloc (.cells #[.slice none 0 0,.int .i64 0] 29):=⟨_,rfl⟩;have hb0:Below W.heap.size W W0:=hW▸zPp _ _ _;have e0:=kMr W (Obj.cells #[Value.slice A n c,Value.int .i64 off] 29) (Obj.cells #[Value.slice none 0 0,Value.int .i64 0] 29);rw[<-hW]at e0;have eG:=hd (fun w(h:Below W0.heap.size W0 w)=>zI1 e0.1 h);have bH:=hd (fun w(h:Below W0.heap.size W0 w)=>zI1 e0.2 h);have ia:=hd (fun w(h:Below W0.heap.size W0 w)=>hp.later (hb0.trans (h.mono hb0.size)));have HP:=hd (show∀w,Below W0.heap.size W0 w->XA w (.slice A n c) p from fun w h=>⟨A,n,c,rfl,hn,hl,hc,ia.o w h⟩);have ae:=hd (Below.refl W0.heap.size W0);have HW:=hd hW;have aw:=hd hb0;have HN:=hd hn;obtain⟨x0,x1,_,f1⟩:=yb2 (eG.o W0 ae.o);obtain⟨z0,z1,g0,g1⟩:=yb2 (bH.o W0 ae.o);clear hp hn hW hb0 e0;go_enter Tryz.func48,Tryz.ntmps48
 go_wp2
 rw[<-HW.o];refine bodyPost_ret (v:=.tuple #[.agg #[.slice none 0 0,.int .i64 0],.bool false]) (by simp[results,Tryz.results48,go_sem,z0,z1]) rfl (zBi rfl (zBt.nil _ _) aw.o)
theorem kRs {P:Prop}(h:P:=by
 clear h;go_enter Tryz.func48,Tryz.ntmps48
 go_wp2_with(go_at_call 47;(try rw[<-HW.o]);refine Calls.mono (zH0 HS.o) ?_;rintro e w9 ⟨rfl,b9⟩;have aN:=hd b9;clear b9 x0 x1 z0 z1 f1 g0 g1;obtain⟨x0,x1,f0,f1⟩:=yb2 (eG.o _ aN.o);obtain⟨z0,z1,g0,g1⟩:=yb2 (bH.o _ aN.o))
 have hr:=zCr (bH.o _ aN.o) (.slice A n c) (.int .i64 off);obtain⟨y0,y1,_,_⟩:=yb2 hr;refine bodyPost_ret (v:=.tuple #[.agg #[.slice A n c,.int .i64 off],.bool true]) (by simp[results,Tryz.results48,go_sem,y0,y1]) rfl ⟨rfl,?_⟩;exact((aw.o.trans (aN.o.mono aw.o.size)).setCell (by show _<=W.heap.size+1;omega) _).setCell (by show _<=W.heap.size+1;omega) _):P:=h
theorem zW7 {W:World}{u:Value}{p:List Int}{off:Int}(hp:XA W u p)(h:¬(pos=off/\aff=0))(hs:zEl off pos aff=false):Calls Tryz.prog 48 #[.agg #[u,.int .i64 off],.int .i64 pos,.int .i64 aff] W (fun e w'=>e=.returned (.tuple #[.agg #[u,.int .i64 off],.bool true])/\Below W.heap.size W w'):=by
 have HS:=hd hs;clear hs;obtain⟨A,n,c,rfl,hn,hl,hc,hp⟩:=hp;obtain⟨W0,hW⟩:∃W0,W0=(W.alloc (.cells #[.slice A n c,.int .i64 off] 29)).alloc (.cells #[.slice none 0 0,.int .i64 0] 29):=⟨_,rfl⟩;have hb0:Below W.heap.size W W0:=hW▸zPp _ _ _;have e0:=kMr W (Obj.cells #[Value.slice A n c,Value.int .i64 off] 29) (Obj.cells #[Value.slice none 0 0,Value.int .i64 0] 29);rw[<-hW]at e0;have eG:=hd (fun w(h:Below W0.heap.size W0 w)=>zI1 e0.1 h);have bH:=hd (fun w(h:Below W0.heap.size W0 w)=>zI1 e0.2 h);have ia:=hd (fun w(h:Below W0.heap.size W0 w)=>hp.later (hb0.trans (h.mono hb0.size)));have HP:=hd (show∀w,Below W0.heap.size W0 w->XA w (.slice A n c) p from fun w h=>⟨A,n,c,rfl,hn,hl,hc,ia.o w h⟩);have ae:=hd (Below.refl W0.heap.size W0);have HW:=hd hW;have aw:=hd hb0;have HN:=hd hn;obtain⟨x0,x1,_,f1⟩:=yb2 (eG.o W0 ae.o);obtain⟨z0,z1,g0,g1⟩:=yb2 (bH.o W0 ae.o);clear hp hn hW hb0 e0;cases e1:(pos==off)
 ·exact kRs
 ·have e2:(aff==0)=false:=by simp at e1;simp;exact fun h2=>h ⟨e1,h2⟩
  exact kRs
theorem kRt {P:Prop}(h:P:=by
 clear h;go_enter Tryz.func48,Tryz.ntmps48
 go_wp2_with(first|(go_at_call 47;(try rw[<-HW.o]);refine Calls.mono (zH0 HS.o) ?_;rintro e w9 ⟨rfl,b9⟩;have aN:=hd b9;clear b9 x0 x1 z0 z1 f1 g0 g1;obtain⟨x0,x1,f0,f1⟩:=yb2 (eG.o _ aN.o);obtain⟨z0,z1,g0,g1⟩:=yb2 (bH.o _ aN.o))|(go_at_call 86;refine Calls.mono (kBe (HP.o _ aN.o) uK.o nS.o) ?_;rintro e w8 ⟨v8,rfl,ho,b8⟩;obtain⟨A8,c8,rfl,_,_⟩:=ho.open_at (k+1) qI.o;have cL:=hd (zI aN.o b8);have HO:=hd (ho.weaken (Nat.le_trans aw.o.size aN.o.size));clear b8 ho x0 x1 z0 z1 f0 f1 g0 g1;obtain⟨x0,x1,f0,f1⟩:=yb2 (eG.o _ cL.o);obtain⟨z0,z1,g0,g1⟩:=yb2 (bH.o _ cL.o)))
 have hr1:=kFq (k:=1) (kFq (k:=0) (bH.o _ cL.o) (g':=W.heap.size) Kb (.slice A8 (k+1) c8)) (g':=W.heap.size) Kb (.int .i64 (off-pos));have hr:=zCr hr1 (.slice A8 (k+1) c8) (.int .i64 (off-pos));obtain⟨y0,y1,_,_⟩:=yb2 hr;have ho:=((HO.o.ypt (x:=.slice A8 (k+1) c8) (y:=.int .i64 (off-pos)) (eG.o _ cL.o)).ypt (x:=.slice A8 (k+1) c8) (y:=.int .i64 (off-pos)) hr1);clear x0 x1 f0 f1 z0 z1 g0 g1;refine bodyPost_ret (v:=.tuple #[.agg #[.slice A8 (k+1) c8,.int .i64 (off-pos)],.bool true]) (by simp[results,Tryz.results48,go_sem,y0,y1]) rfl (zBi rfl ho ?_);exact((((aw.o.trans (cL.o.mono aw.o.size)).setCell Km _).setCell Km _).setCell (by show _<=W.heap.size+1;omega) _).setCell (by show _<=W.heap.size+1;omega) _):P:=h
theorem zW8 {W:World}{u:Value}{p:List Int}{off:Int}{k:Nat}(hp:XA W u p)(hk:p.length=k+1)(hsm:jI p=true)(h:¬(pos=off/\aff=0))(hs:zEl off pos aff=true)(h1:0<=off)(h2:off<=1048576)(h3:0<=pos)(h4:pos<=1048576):Calls Tryz.prog 48 #[.agg #[u,.int .i64 off],.int .i64 pos,.int .i64 aff] W (zC3 W ((addL p k 1,off-pos),true)):=by
 have HS:=hd hs;have nS:=hd (kCp hk hsm);have uK:=hd ((zDf p).1 hsm);have qI:=hd (show(addL p k 1).length=k+1 by rw[zJe];exact hk);have HK:=hd hk;clear hs hk hsm;obtain⟨A,n,c,rfl,hn,hl,hc,hp⟩:=hp;obtain⟨W0,hW⟩:∃W0,W0=(W.alloc (.cells #[.slice A n c,.int .i64 off] 29)).alloc (.cells #[.slice none 0 0,.int .i64 0] 29):=⟨_,rfl⟩;have hb0:Below W.heap.size W W0:=hW▸zPp _ _ _;have e0:=kMr W (Obj.cells #[Value.slice A n c,Value.int .i64 off] 29) (Obj.cells #[Value.slice none 0 0,Value.int .i64 0] 29);rw[<-hW]at e0;have eG:=hd (fun w(h:Below W0.heap.size W0 w)=>zI1 e0.1 h);have bH:=hd (fun w(h:Below W0.heap.size W0 w)=>zI1 e0.2 h);have ia:=hd (fun w(h:Below W0.heap.size W0 w)=>hp.later (hb0.trans (h.mono hb0.size)));have HP:=hd (show∀w,Below W0.heap.size W0 w->XA w (.slice A n c) p from fun w h=>⟨A,n,c,rfl,hn,hl,hc,ia.o w h⟩);have ae:=hd (Below.refl W0.heap.size W0);have HW:=hd hW;have aw:=hd hb0;have HN:=hd hn;obtain⟨x0,x1,_,f1⟩:=yb2 (eG.o W0 ae.o);obtain⟨z0,z1,g0,g1⟩:=yb2 (bH.o W0 ae.o);clear hp hn hW hb0 e0;cases e1:(pos==off)
 ·exact kRt
 ·have e2:(aff==0)=false:=by simp at e1;simp;exact fun h2=>h ⟨e1,h2⟩
  exact kRt
theorem kD8 {a b c:Nat}(h:a+3<=b)(h2:b<=c):a<c/\a+1<c/\a+1+1<c:=Kb
structure PC where
 A:Option Addr
 n:Nat
 c:Nat
 x:Int
def PC.row (c:PC):Array Value:=#[.slice c.A c.n c.c,.int .i64 c.x]
theorem PC.one (c:PC):c.row.all (·.oneCell')=true:=Ka
structure kAw (w:World)(c:PC)(p:List Int×Int):Prop where
 hx:p.2=c.x
 hn:p.1.length=c.n
 hc:c.n<=c.c
 hm:c.n<=1000
 hA:IL w w.heap.size c.A p.1
theorem kAw.later {w w':World}{c:PC}(h:kAw w c p)(hb:Below w.heap.size w w'):kAw w' c p:=⟨h.hx,h.hn,h.hc,h.hm,h.hA.later hb⟩
theorem zW :kC5 29 2:=⟨.struct (Tryz.prog.fieldsOf 29),by kernel_rfl,rfl,by kernel_rfl⟩
theorem kAw.pa {w:World}{c:PC}(h:kAw w c p):PA w (.agg c.row) p:=
 ⟨.slice c.A c.n c.c,by rw[h.hx];rfl,c.A,c.n,c.c,rfl,h.hn,h.hm,h.hc,h.hA⟩
def kK5 (w:World)(r:(List Int×Int)×Bool)(e:Ending)(w':World):Prop:=∃c:PC,e=.returned (.tuple #[.agg c.row,.bool r.2])/\kAw w' c r.1/\Below w.heap.size w w'
theorem OkA.xq12 {w:World}{o:OC}{a:OpP}(ho:OkA w o a)(ta:zAf a):XA w (.slice o.Q o.lq o.cq) a.q:=⟨_,_,_,rfl,ho.hlq,by have:=ta.hq;have:=ho.hlq;omega,ho.hcq,ho.hq⟩
theorem OkA.xt12 {w:World}{o:OC}{a:OpP}(ho:OkA w o a)(ta:zAf a):XA w (.slice o.T o.lt o.ct) a.t:=⟨_,_,_,rfl,ho.hlt,by have:=ta.ht;have:=ho.hlt;omega,ho.hct,ho.ht⟩
theorem kH8 (a b:List Int×Int):samP a b=true ↔ a=b:=by unfold samP;exact decide_eq_true_iff
theorem zTu (c:OC):c.row.all (·.oneCell')=true:=Ka
theorem zW9 {w:World}{s:SC}{sl:Sl}(h:zB1 w s sl)(hf:fewS sl=true):kAw w ⟨s.A,s.n,s.c,s.x⟩ sl.a/\kAw w ⟨s.B,s.m,s.d,s.y⟩ sl.f/\sl.a.1.length<=60/\sl.f.1.length<=60:=by
 obtain⟨l1,l2⟩:=h.len hf;have e1:=h.hn;have e2:=h.hm;exact⟨⟨h.hx,h.hn,h.hc,by show s.n<=_;omega,h.hA⟩,⟨h.hy,h.hm,h.hd,by show s.m<=_;omega,h.hB⟩,by omega,by omega⟩
