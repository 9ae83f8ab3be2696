import Derived.Test.YtmglnjmnabjjgaaGreatHDo4
set_option maxRecDepth 4000
set_option maxHeartbeats 8000000
namespace Go.Proofs.YtmglnjmnabjjgaaGreat
open Go.RowKit
variable {gk k m n y2:NT}{c:NC}{go os:List NT}{l p p' q r u:List Int}{s:SC}{aff pos z:Int}
theorem kNo {x:NT}(h:kRu x m=true):x.tx.length=m.tx.length+1/\x.ks.length=m.ks.length/\shpK x.ks m.ks=true:=by
 cases x;cases m
 rw[kRu,Bool.and_eq_true,decide_eq_true_iff]at h;exact⟨h.1,((kRi _ _).1 h.2).1,h.2⟩
theorem kUc {a c:Bool}{p q:List Pr}{gx tx:List Int}{gk ks:List NT}(h:gx.length=tx.length+1)(hk:shpK gk ks=true):kRu (.mk a p gx gk) (.mk c q tx ks)=true:=by
 rw[kRu,Bool.and_eq_true,decide_eq_true_iff];exact⟨h,hk⟩
mutual
theorem kQp :∀(n:NT)(f:Int),kRu (kQe n f) n=true
 |.mk _ _ tx ks,f=>kUc (by rw[List.length_cons,kPb]) (kS2 ks _)
theorem kS2 :∀(ks:List NT)(f:Int),shpK (kQ4 ks f) ks=true
 |[],_=>by simp only[kQ4,shpK]
 |k::r,f=>by simp only[kQ4,shpK,kQp k f,kS2 r,Bool.and_true]
end
theorem kRm :∀(a b c d:List NT),shpK a c=true->shpK b d=true->shpK (a++b) (c++d)=true
 |[],b,[],d,_,h2=>h2
 |g::gr,b,k::r,d,h1,h2=>by
  rw[shpK,Bool.and_eq_true]at h1;simp only[List.cons_append,shpK,h1.1,kRm gr b r d h1.2 h2,Bool.and_true]
 |[],_,_::_,_,h1,_=>by simp[shpK]at h1
 |_::_,_,[],_,h1,_=>by simp[shpK]at h1
theorem kRx :∀(i:Nat)(a c:List NT),shpK a c=true->shpK (a.take i) (c.take i)=true
 |0,_,_,_=>by simp[shpK]
 |_+1,[],[],_=>by simp[shpK]
 |i+1,g::gr,k::r,h=>by
  rw[shpK,Bool.and_eq_true]at h;simp only[List.take_succ_cons,shpK,h.1,kRx i gr r h.2,Bool.and_true]
 |_+1,[],_::_,h=>by simp[shpK]at h
 |_+1,_::_,[],h=>by simp[shpK]at h
theorem kRy :∀(i:Nat)(a c:List NT),shpK a c=true->shpK (a.drop i) (c.drop i)=true
 |0,_,_,h=>h
 |_+1,[],[],_=>by simp[shpK]
 |i+1,g::gr,k::r,h=>by
  rw[shpK,Bool.and_eq_true]at h;exact kRy i gr r h.2
 |_+1,[],_::_,h=>by simp[shpK]at h
 |_+1,_::_,[],h=>by simp[shpK]at h
theorem kPi {a c:List NT}{j:Nat}(h:shpK a c=true)(hk:c[j]? =some k):∃g,a[j]? =some g/\kRu g k=true:=by
 have h1:=(kRi _ _).1 h;have hj:=(List.getElem?_eq_some_iff.1 hk).1;obtain⟨g,hg⟩:∃g,a[j]? =some g:=⟨_,List.getElem?_eq_getElem Kb⟩;exact⟨g,hg,h1.2 j g k hg hk⟩
theorem kUd {a c:List NT}(h:shpK a c=true)(ho:shpK go os=true)(i m:Nat):shpK (spl a i m go) (spl c i m os)=true:=
 kRm _ _ _ _ (kRm _ _ _ _ (kRx i a c h) ho) (kRy (i+m) a c h)
theorem kVj {x:NT}(h:kRu x k=true)(ho:shpK go os=true)(i m:Nat):kRu (jS x i m go) (jS k i m os)=true:=
 kUc (kNo h).1 (kUd (kNo h).2.2 ho i m)
theorem kWq {g:NT}(h:kRu g k=true):shpK [g] [k]=true:=by simp only[shpK,h,Bool.and_true]
theorem kVk :shpK [] []=true:=by simp only[shpK]
theorem kOd :∀(p:List Int)(g n m:NT),kRu g n=true->kB n p=some m->∃x,kB g p=some x/\kRu x m=true
 |[],g,n,m=>fun h hg=>by
  injection hg with hg;subst hg;exact⟨g,rfl,h⟩
 |i::p,g,n,m=>fun h hg=>by
  rw[zR]at hg;cases hk:zBh n i with
  |none=>rw[hk]at hg;cases hg
  |some k=>
   rw[hk]at hg;obtain⟨j,rfl,hj⟩:=zDa hk;obtain⟨y,hy,hyk⟩:=kPi (kNo h).2.2 hj;obtain⟨x,hx,CW⟩:=kOd p y k m hyk hg;exact⟨x,by rw[zR,zA9,hy];exact hx,CW⟩
theorem kUe :∀(p:List Int)(g n m x' m':NT),kRu g n=true->kB n p=some m->kRu x' m'=true->kRu (putT g p x') (putT n p m')=true
 |[],g,n,m,x',m'=>fun _ _ hx=>hx
 |i::p,g,n,m,x',m'=>fun h hg hx=>by
  rw[zR]at hg;cases hk:zBh n i with
  |none=>rw[hk]at hg;cases hg
  |some k=>
   rw[hk]at hg;obtain⟨j,rfl,hj⟩:=zDa hk;obtain⟨y,hy,hyk⟩:=kPi (kNo h).2.2 hj;have hl:=(kNo h).2.1;have hlt:=(List.getElem?_eq_some_iff.1 hj).1;rw[kRr hy,kRr hj,<-zI0 Kb,<-zI0 Kb];exact kUc (kNo h).1 (kUd (kNo h).2.2 (kWq (kUe p y k m x' m' hyk hg hx)) j 1)
theorem Gh.form {w:World}{v:Value}{g:NT}{F:Nat->Prop}(h:Gh w v g F)(hg:kB g p=some m):∃lab rs ks,m=.mk false [] (lab::rs) ks:=by
 obtain⟨u,Fm,_,h1,_⟩:=Gh.sub p h hg;cases h1 with
 |mk _ b lab rs ks=>exact⟨lab,rs,ks,rfl⟩
theorem kNp {x:NT}{m:Nat}(h:sizeT n<=m)(hx:kB n u=some x):x.ks.length<=m/\x.tx.length<=m/\x.tx.length+x.ks.length<=m:=by
 have h1:=zGh u n x hx;have h3:=kO4 x.ks;rw[jC x]at h1;omega
theorem kWr {x b:NT}{i:Nat}(hg:kB n u=some x)(hi:i+1<x.ks.length)(hb:x.ks[i]? =some b):kB (putT n u (jS x (i+1) 1 [])) (u++[(i:Int)])=some b/\putT (putT n u (jS x (i+1) 1 [])) (u++[(i:Int)]) m=putT n u (jS x i 2 [m]):=by
 have hg2:=jX n u (jS x (i+1) 1 []) x hg;have hsk:(jS x (i+1) 1 []).ks[i]? =some b:=by
  show(spl x.ks (i+1) 1 [])[i]? =_
  rw[zBp Kb Kb,hb]
 refine⟨?_,?_⟩
 ·rw[jJ,hg2];show kB (jS x (i+1) 1 []) [(i:Int)]=_
  rw[zR,zA9,hsk];rfl
 ·rw[zEz _ _ _ _ _ hg2,zEo _ _ _ _ _ hg,zSg hsk];congr 1
  show NT.mk _ _ _ (spl (spl x.ks (i+1) 1 []) i 1 [_])=NT.mk _ _ _ _
  rw[zX1 Kb];rfl
theorem kUf {s:List Int}{p:Int}(h:zFx r p s=(l,0)):∃k:Nat,p=k/\k<=r.length:=by
 unfold zFx at h;split at h
 ·split at h
  ·exact⟨p.toNat,by omega,by omega⟩
  ·cases h
 ·cases h
theorem kUg {s:List Int}{p:Int}(h:zFe r p s=(l,0)):∃k:Nat,p=k/\k+s.length<=r.length:=by
 unfold zFe at h;split at h
 ·split at h
  ·rename_i h1
   split at h
   ·rename_i h2
    have:=congrArg List.length h2;rw[List.length_take,List.length_drop]at this;exact⟨p.toNat,by omega,by omega⟩
   ·cases h
  ·cases h
 ·cases h
def kOo (n:NT):Option Int:=n.tx.head?
theorem kE.lab {y y':NT}(h:kE y y'):kOo y'=kOo y:=by unfold kOo;rw[h.2]
theorem kN2 {x:NT}{i:Nat}(hg:kB n u=some x)(hk:x.ks[i]? =some k):kB n (u++[(i:Int)])=some k:=by
 rw[zAc hg,zA9,hk];rfl
theorem kUh {g x h t y:NT}{i z:Nat}(hg:kB g u=some x)(hk:x.ks[i]? =some k)(hh:h.ks=k.ks.take z)(ht:t.ks=k.ks.drop z)(hl:kOo h=kOo k)(hy:kB g p=some y)(hm:jH 4 (u++[(i:Int)]) (z:Int) p=(p',true)):
  ∃y',kB (putT (putT g (u++[(i:Int)]) h) u (jS (setK x i h) (i+1) 0 [t])) p'=some y'/\kOo y'=kOo y:=by
 rw[(zZj hg hk).2];obtain⟨y',g1,g2⟩:=zO7 hg hk hh ht hy hm;refine⟨y',g1,?_⟩;by_cases e:p=u++[(i:Int)]
 ·rw[if_pos e]at g2;rw[e,kN2 hg hk]at hy;injection hy with hy;rw[g2,hl,hy]
 ·rw[if_neg e]at g2;exact g2.lab
theorem kUi {g k' y:NT}(hg:kB g q=some k)(hks:k'.ks=k.ks)(hl:k'.lf=k.lf)(hlab:kOo k'=kOo k)(hy:kB g p=some y):∃y',kB (putT g q k') p=some y'/\kOo y'=kOo y:=by
 obtain⟨y',g1,g2⟩:=zGx hg hks hl hy;refine⟨y',g1,?_⟩;by_cases e:p=q
 ·rw[if_pos e]at g2;rw[e,hg]at hy;injection hy with hy;rw[g2,hlab,hy]
 ·rw[if_neg e]at g2;exact g2.lab
def kT1 (a:OpP)(g g':NT):Prop:=∀p p' y,kB g p=some y->jF a.k a.q a.t a.z p=(p',true)->∃y',kB g' p'=some y'/\(¬(a.k=3/\p=a.q)->kOo y'=kOo y)/\(a.k=3/\p=a.q->∃b,kB g (jV p).1=some b/\kOo y'=kOo b)
theorem kT1.mk {a:OpP}{g g':NT}(h3:a.k≠3)(h:∀p p' y,kB g p=some y->jF a.k a.q a.t a.z p=(p',true)->∃y',kB g' p'=some y'/\kOo y'=kOo y):kT1 a g g':=fun p p' y hy hm=>by
 obtain⟨y',h1,h2⟩:=h p p' y hy hm;exact⟨y',h1,fun _=>h2,fun e=>absurd e.1 h3⟩
theorem kWs {a:OpP}{g y s:NT}{t:List Int}{i j:Nat}(e:a.k=5)(p1:a.q=u++[(i:Int)])(q1:a.t=t++[(j:Int)])(hy:kB g u=some y)(dh:y.ks[i]? =some gk)(hy2:kB (putT g u (jS y i 1 [])) t=some y2)(hj:j<=y2.ks.length)(hs:kB g p=some s)(hmv:jF a.k a.q a.t a.z p=(p',true)):
  ∃y',kB (putT (putT g u (jS y i 1 [])) t (jS y2 j 0 [gk])) p'=some y'/\kE s y':=by
 have hg:(jI p&&jI a.q&&jI a.t&&zE9 a.z)=true:=by
  by_cases hg:(jI p&&jI a.q&&jI a.t&&zE9 a.z)=true
  ·exact hg
  ·unfold jF at hmv;rw[if_neg hg]at hmv;exact absurd (zO hmv).2 Kd
 have bn:a.q.length≠0:=by rw[p1];simp
 have bZ:(if zX a.q p=2∨zX a.q p=3 then(a.t++p.drop a.q.length,true)else jH 1 a.t 0 (jH 2 a.q 0 p).1)=(p',true):=by
  have e2:=hmv;unfold jF at e2;rw[if_pos hg,if_pos ⟨e,bn⟩]at e2;exact e2
 by_cases h2:zX a.q p=2∨zX a.q p=3
 ·rw [if_pos h2]at bZ;have bg:∃r,p=a.q++r:=by
   rcases h2 with h2|h2
   ·exact⟨[],by rw[zCw.1 h2];simp⟩
   ·obtain⟨s1,s2⟩:=zL6.1 h2;refine⟨p.drop a.q.length,?_⟩;have e3:p.take a.q.length=a.q:=by
     refine zL1 Kf (fun j hj=>?_);simp at hj;rw[jY _ _ Kf,List.getElem_take,<-jY _ _ Kb];exact(s2 j Kb).symm
    conv=>lhs;rw[<-List.take_append_drop a.q.length p,e3]
  obtain⟨r,rfl⟩:=bg;rw[List.drop_left]at bZ;have hyk:kB gk r=some s:=by
   rw[jJ,p1,kN2 hy dh]at hs;exact hs
  rw[<-(zO bZ).1,q1];refine⟨s,?_,kE.refl _⟩;rw[List.append_assoc];have hin:=zAz (ks:=y2.ks) (o:=[gk]) (i:=j) (m:=0) (j:=0) Kc hj;exact(zAw (x':=jS y2 j 0 [gk]) hy2 j r (by show(spl y2.ks j 0 [gk])[j]? =some gk;simpa using hin)).trans hyk
 ·rw[if_neg h2]at bZ;have lM:jH 2 a.q 0 p=((jH 2 a.q 0 p).1,true):=by
   have hst:=zF4 a.q p;rw[p1]at h2 hst⊢;rw[zQs (k:=u.length) Kc];rcases hst with h0|h0|h0|h0
   ·rw[if_pos h0]
   ·rw[if_neg Kb,if_pos h0]
   ·exact absurd (.inl h0) h2
   ·exact absurd (.inr h0) h2
  rw[p1]at lM bZ;obtain⟨y1,g1,g2⟩:=zJm hy (List.getElem?_eq_some_iff.1 dh).1 hs lM;obtain⟨y3,g3,g4⟩:=zJl (m:=gk) (i:=j) hy2 hj g1;rw[q1]at bZ;rw[bZ]at g3;exact⟨y3,g3,g4.1.trans g2.1,g4.2.trans g2.2⟩
theorem kWt {a:OpP}{g y s:NT}{t:List Int}{i j:Nat}(e:a.k=5)(p1:a.q=u++[(i:Int)])(q1:a.t=t++[(j:Int)])(hy:kB g u=some y)(dh:y.ks[i]? =some gk)(hy2:kB (putT g u (jS y i 1 [])) t=some y2)(hj:j<=y2.ks.length)(hs:kB g p=some s)(hmv:jF a.k a.q a.t a.z p=(p',true)):
  ∃y',kB (putT (putT g u (jS y i 1 [])) t (jS y2 j 0 [gk])) p'=some y'/\kOo y'=kOo s:=by
 obtain⟨y',h1,h2⟩:=kWs e p1 q1 hy dh hy2 hj hs hmv;exact⟨y',h1,h2.lab⟩
theorem kN8 :∀(p:List Int)(n y:NT)(m:Nat),kB n p=some y->sizeT n<=m->m<=1048576->jI p=true
 |[],_,_,_,_,_,_=>rfl
 |i::p,n,y,m,h,hs,hm=>by
  rw[zR]at h;cases hk:zBh n i with
  |none=>rw[hk]at h;cases h
  |some k=>
   rw[hk]at h;obtain⟨k1,k2,_⟩:=zA1 hk;have h1:=kO4 n.ks;have h2:=jC n;have h3:=zGh [i] n k (by rw[zR,hk];rfl);have ih:=kN8 p k y m h Kb hm;unfold jI at ih⊢;rw[List.all_cons,ih,Bool.and_true,Bool.and_eq_true,decide_eq_true_iff,decide_eq_true_iff];omega
theorem kRz {x:NT}{i m:Nat}(h:kB n u=some x)(hi:i<=x.ks.length)(hs:sizeT n<=m)(hm:m<=1048576):jI (u++[(i:Int)])=true:=by
 have h1:=kN8 u n x m h hs hm;have h2:=kNp hs h;unfold jI at h1⊢;rw[List.all_append,h1,Bool.true_and,List.all_cons,List.all_nil,Bool.and_true,Bool.and_eq_true,decide_eq_true_iff,decide_eq_true_iff];omega
theorem kP8 {o:OpP}(hf:zCx o=0)(hk:o.k=1∨o.k=2∨o.k=3∨o.k=4∨o.k=6∨o.k=7∨o.k=8∨o.k=9):o.t=[]:=by
 have h:=(zOy hf).2;obtain⟨k,q,t,z,n,ol,w,x,f,g⟩:=o;simp only at hk;rcases hk with rfl|rfl|rfl|rfl|rfl|rfl|rfl|rfl<;>(simp[fieldsO,zeroO]at h;(try simp[h]))
theorem kXk {o:OpP}(hf:zCx o=0)(hk:o.k=9):o.q=[]/\o.z=0:=by
 have h:=(zOy hf).2;obtain⟨k,q,t,z,n,ol,w,x,f,g⟩:=o;simp only at hk;subst hk;simp[fieldsO,zeroO]at h;simp[h]
theorem kR0 {K:Int}(h2:K≠2)(h3:K=3->lastL q≠0):(jH K q z p).2=true:=by
 unfold jH;by_cases h0:q.length=0
 ·rw[if_pos h0]
 rw[if_neg h0];by_cases e1:K=1
 ·rw[if_pos e1];split<;>rfl
 rw[if_neg e1,if_neg h2];by_cases e3:K=3
 ·rw[if_pos e3,if_neg (h3 e3)];split
  ·rfl
  split<;>rfl
 rw[if_neg e3];by_cases e4:K=4
 ·rw[if_pos e4];split
  ·rfl
  split<;>rfl
 rw[if_neg e4]
theorem kVl {a:NT}{o:OpP}(hf:zCx o=0)(h1:1<=o.k)(h8:o.k<=8)(h:doO n o=(a,0))(hn:sizeT n<=1000):(jI o.q&&jI o.t&&zE9 o.z)=true/\(o.k=3->lastL o.q≠0):=by
 have hmx:∀u x,kB n u=some x->x.ks.length<9223372036854775807:=fun u x hx=>by have:=(kNp hn hx).1;omega
 have z0:zE9 0=true:=by decide
 have zn:∀k:Nat,k<=1000->zE9 (k:Int)=true:=fun k hk=>(zKd _).2 Kb;have pk:∀{u:List Int}{i:Nat}{x:NT},kB n u=some x->i<=x.ks.length->jI (u++[(i:Int)])=true:=fun h1 h2=>kRz h1 h2 hn Kb;have tn:jI []=true:=rfl;rcases zC7 h1 h8 h with⟨e,h⟩|⟨e,h⟩|⟨e,h⟩|⟨e,h⟩|⟨e,h⟩|⟨e,h⟩|⟨e,h⟩|⟨e,h⟩
 ·obtain⟨u,i,x,hx⟩:=zD7 (zCd h).2;refine⟨?_,fun e2=>by omega⟩;rw[hx.path,pk hx.at_ hx.le,kP8 hf Kb,kTc hf Kb,tn,z0];rfl
 ·obtain⟨h2,h3⟩:=zCl h;obtain⟨u,i,x,k,hx⟩:=zBn (n:=n) (p:=o.q) (by rw[h2]);refine⟨?_,fun e2=>by omega⟩;rw[hx.path,pk hx.at_ (Nat.le_of_lt (List.getElem?_eq_some_iff.1 hx.kid).1),kP8 hf Kb,kTc hf Kb,tn,z0];rfl
 ·obtain⟨u,i,x,b,k,hx⟩:=zC5 h;have hb:=kNp hn (kN2 hx.at_ hx.b_);refine⟨?_,fun _=>by rw[hx.path,zC0];omega⟩;rw[hx.path,pk hx.at_ (Nat.le_of_lt (List.getElem?_eq_some_iff.1 hx.k_).1),kP8 hf Kb,tn,<-hx.pos];show zE9 (b.tx.length+b.ks.length:Int)=true
  exact(zKd _).2 Kb
 ·obtain⟨u,i,x,k,hx⟩:=zCc hmx h;have hb:=kNp hn (kN2 hx.at_ hx.kid);have hz:=hx.hi;have hz0:=hx.lo;have hl:zG9 k=k.tx.length+k.ks.length:=rfl;refine⟨?_,fun e2=>by omega⟩;rw[hx.path,pk hx.at_ (Nat.le_of_lt (List.getElem?_eq_some_iff.1 hx.kid).1),kP8 hf Kb,tn];exact(zKd _).2 Kb
 ·obtain⟨h2,h3⟩:=zBz h;obtain⟨u,i,x,k,hx⟩:=zBn h2;obtain⟨t,j,y,hy⟩:=zD7 h3;have hs:=zFn h2;refine⟨?_,fun e2=>by omega⟩;have hq:=pk hx.at_ (Nat.le_of_lt (List.getElem?_eq_some_iff.1 hx.kid).1);rw[<-hx.path]at hq;rw[hq,hy.path,kRz hy.at_ hy.le (m:=1000) Kb Kb,kTc hf Kb,z0];rfl
 ·obtain⟨k,hq,hg,hc,_⟩:=zC6 h;refine⟨?_,fun e2=>by omega⟩;rw[kN8 o.q n k 1000 hg hn Kb,kP8 hf Kb,kTc hf Kb,tn,z0];rfl
 ·obtain⟨k,hg,hl,h0,_⟩:=jZ h;have hi:zFx k.tx o.z o.x=((zFx k.tx o.z o.x).1,0):=Prod.ext rfl h0;obtain⟨j,hj,hjl⟩:=kUf hi;have hb:=kNp hn hg;refine⟨?_,fun e2=>by omega⟩;rw[kN8 o.q n k 1000 hg hn Kb,kP8 hf Kb,tn,hj,zn j Kb];rfl
 ·obtain⟨k,hg,hl,h0,_⟩:=jZ h;have hi:zFe k.tx o.z o.x=((zFe k.tx o.z o.x).1,0):=Prod.ext rfl h0;obtain⟨j,hj,hjl⟩:=kUg hi;have hb:=kNp hn hg;refine⟨?_,fun e2=>by omega⟩;rw[kN8 o.q n k 1000 hg hn Kb,kP8 hf Kb,tn,hj,zn j Kb];rfl
theorem kR1 {a y:NT}{o:OpP}{x:List Int}(hf:zCx o=0)(h1:1<=o.k)(h8:o.k<=8)(h:doO n o=(a,0))(hn:sizeT n<=1000)(hp:kB n p=some y)(hm:jF o.k o.q o.t o.z p=(x,false)):o.k=2/\(p=o.q∨(o.q.length<p.length/\∀j,j<o.q.length->iAt o.q j=iAt p j)):=by
 obtain⟨hs,h3⟩:=kVl hf h1 h8 h hn;have hsp:=kN8 p n y 1000 hp hn Kb;unfold jF at hm;rw[if_pos (by rw[Bool.and_assoc,Bool.and_assoc,hsp,Bool.true_and,<-Bool.and_assoc];exact hs)]at hm;by_cases h5:o.k=5/\o.q.length≠0
 ·rw[if_pos h5]at hm;split at hm
  ·exact absurd (zO hm).2 Kc
  ·have:=kR0 (K:=1) (q:=o.t) (p:=(jH 2 o.q 0 p).1) (z:=0) Kb (fun e=>by omega);rw[hm]at this;cases this
 ·rw[if_neg h5]at hm;by_cases h2:o.k=2
  ·refine⟨h2,?_⟩;rw[h2]at hm;have hst:=zF4 o.q p;rcases hst with h0|h0|h0|h0
   ·unfold jH at hm;rw[if_neg (show¬((2:Int)=1) by decide),if_pos rfl,if_pos h0]at hm;split at hm<;>exact absurd (zO hm).2 Kc
   ·unfold jH at hm;rw[if_neg (show¬((2:Int)=1) by decide),if_pos rfl,if_neg (show¬zX o.q p=0 by omega),if_pos h0]at hm;split at hm<;>exact absurd (zO hm).2 Kc
   ·exact .inl (zCw.1 h0).symm
   ·exact .inr (zL6.1 h0)
  ·have:=kR0 (q:=o.q) (p:=p) (z:=o.z) h2 h3;rw[hm]at this;cases this
theorem kUj {y:NT}{o:OpP}(hf:zCx o=0)(h9:o.k=9)(hn:sizeT n<=1000)(hp:kB n p=some y):jF o.k o.q o.t o.z p=(p,true):=by
 obtain⟨hq,hz⟩:=kXk hf h9;have ht:=kP8 hf Kb;have hsp:=kN8 p n y 1000 hp hn Kb;unfold jF;have hb:(jI p&&jI []&&jI []&&zE9 0)=true:=by rw[hsp];rfl
 rw[hq,ht,hz,if_pos hb,if_neg (show¬(o.k=5/\([]:List Int).length≠0) by omega)];unfold jH;exact if_pos rfl
section
variable {w w':World}{g:Nat}{a b x y:Value}{t:TypeId}
theorem yb2 (h:w.heap[g]? =some (.cells #[a,b] t (0,0))):w.cell? ⟨g,0,none⟩=some a/\w.cell? ⟨g,1,none⟩=some b/\w.frozen? ⟨g,0,none⟩=false/\w.frozen? ⟨g,1,none⟩=false:=by
 refine⟨?_,?_,?_,?_⟩<;>simp[World.cell?,World.frozen?,h]
theorem yset (w:World)(g:Nat)(t:TypeId)(cs:Array Value)(k:Nat)(x:Value)(h:w.heap[g]? =some (.cells cs t (0,0))):(w.setCell ⟨g,k,none⟩ x).heap[g]? =some (.cells (cs.setIfInBounds k x) t (0,0)):=by
 have hlt:=xlt h;have h':w.heap[g]=.cells cs t (0,0):=by simpa[Array.getElem?_eq_getElem hlt]using h
 show(w.heap.modify g _)[g]? =_
 rw[Array.getElem?_eq_getElem (by simpa using hlt),Array.getElem_modify_self,h'];rfl
theorem kMq (h:w.heap[g]? =some (.cells #[a,b] t (0,0)))(x:Value):(w.setCell ⟨g,0,none⟩ x).heap[g]? =some (.cells #[x,b] t (0,0)):=yset w g t _ 0 x h
theorem zCr (h:w.heap[g]? =some (.cells #[a,b] t (0,0)))(x y:Value):((w.setCell ⟨g,0,none⟩ x).setCell ⟨g,1,none⟩ y).heap[g]? =some (.cells #[x,y] t (0,0)):=yset _ g t _ 1 y (yset w g t _ 0 x h)
theorem kFq {cs:Array Value}{g' k:Nat}(h:w.heap[g]? =some (.cells cs t (0,0)))(hne:g≠g')(x:Value):(w.setCell ⟨g',k,none⟩ x).heap[g]? =some (.cells cs t (0,0)):=(Below.heap_setCell _ _ _ _ hne).trans h
end
theorem kK3 (w:World)(o o' o2:Obj):(((w.alloc o).alloc o').alloc o2).heap[w.heap.size]? =some o/\(((w.alloc o).alloc o').alloc o2).heap[w.heap.size+1]? =some o'/\(((w.alloc o).alloc o').alloc o2).heap[w.heap.size+1+1]? =some o2:=by
 refine⟨?_,?_,?_⟩
 ·rw[Below.heap_alloc _ _ _ Kf,Below.heap_alloc _ _ _ Kc];exact heap_alloc_new _ _
 ·rw[Below.heap_alloc _ _ _ Kc,show w.heap.size+1=(w.alloc o).heap.size by simp];exact heap_alloc_new _ _
 ·rw[show w.heap.size+1+1=((w.alloc o).alloc o').heap.size by simp];exact heap_alloc_new _ _
theorem kMr (w:World)(o o':Obj):((w.alloc o).alloc o').heap[w.heap.size]? =some o/\((w.alloc o).alloc o').heap[w.heap.size+1]? =some o':=by
 refine⟨?_,?_⟩
 ·rw[Below.heap_alloc _ _ _ Kc];exact heap_alloc_new _ _
 ·rw[show w.heap.size+1=(w.alloc o).heap.size by simp];exact heap_alloc_new _ _
theorem zPp (w:World)(o o':Obj):Below w.heap.size w ((w.alloc o).alloc o'):=(Kl.alloc Km _).alloc Kc _
theorem kH7 (w:World)(o o' o2:Obj):Below w.heap.size w (((w.alloc o).alloc o').alloc o2):=(zPp w o o').alloc Kf _
theorem zBt.yset {w:World}{B g k:Nat}{u x:Value}{cs:Array Value}{t:TypeId}{fr:Nat×Nat}(h:zBt w B u l)(hg:w.heap[g]? =some (.cells cs t fr))(ht:t≠3):zBt (w.setCell ⟨g,k,none⟩ x) B u l:=by
 refine zBt.of_own (ownsRow_setCell_other h.own (a:=⟨g,k,none⟩) (fun e=>?_) _) rfl;rcases h.own.2 with⟨e1,_⟩|⟨g',cap,cur,e1,_,hg',_⟩
 ·rw[e1]at e;cases e
 ·rw[e1]at e;injection e with e;have e:g'=g:=e;subst e;rw[hg]at hg';injection hg' with hg';injection hg' with _ h2;exact ht h2
theorem zBt.ypt {w:World}{B g:Nat}{u a b x y:Value}(h:zBt w B u l)(hg:w.heap[g]? =some (.cells #[a,b] 29 (0,0))):zBt ((w.setCell ⟨g,0,none⟩ x).setCell ⟨g,1,none⟩ y) B u l:=
 (h.yset hg Kd).yset (kMq hg x) Kd
def zC3 (w:World)(r:(List Int×Int)×Bool)(e:Ending)(w':World):Prop:=∃v,e=.returned (.tuple #[.agg #[v,.int .i64 r.1.2],.bool r.2])/\zBt w' w.heap.size v r.1.1/\Below w.heap.size w w'
theorem zBi {w w':World}{r:(List Int×Int)×Bool}{b:Bool}{v:Value}(h:r=((l,z),b))(ho:zBt w' w.heap.size v l)(hb:Below w.heap.size w w'):zC3 w r (.returned (.tuple #[.agg #[v,.int .i64 z],.bool b])) w':=by
 subst h;exact⟨v,rfl,ho,hb⟩
def PA (w:World)(v:Value)(p:List Int×Int):Prop:=∃u,v=.agg #[u,.int .i64 p.2]/\XA w u p.1
theorem kK4 {W:World}{b:Bool}(h:decide (zDx aff)=b):Calls Tryz.prog 45 #[.int .i64 aff] W (jA (.bool b) W):=by
 subst h;by_cases h0:aff=0
 ·subst h0;go_enter Tryz.func45,Tryz.ntmps45
  go_wp2
  go_ret
  exact⟨rfl,Below.refl _ _⟩
 by_cases h1:aff=1
 ·subst h1;go_enter Tryz.func45,Tryz.ntmps45
  go_wp2
  go_ret
  exact⟨rfl,Below.refl _ _⟩
 by_cases h2:aff=2
 ·subst h2;go_enter Tryz.func45,Tryz.ntmps45
  go_wp2
  go_ret
  exact⟨rfl,Below.refl _ _⟩
 have HF:=hd (show decide (zDx aff)=false from decide_eq_false (fun h=>by unfold zDx at h;omega));have e0:(aff==0)=false:=by simp[h0]
 have e1:(aff==1)=false:=by simp[h1]
 have e2:(aff==2)=false:=by simp[h2]
 clear h0 h1 h2;go_enter Tryz.func45,Tryz.ntmps45
 go_wp2
 go_ret
 exact⟨kC HF.o.symm,Below.refl _ _⟩
theorem zH0 {W:World}{off:Int}{b:Bool}(h:zEl off pos aff=b):Calls Tryz.prog 47 #[.int .i64 off,.int .i64 pos,.int .i64 aff] W (jA (.bool b) W):=by
 subst h;by_cases h0:pos<off
 ·have HF:=hd (show zEl off pos aff=true by unfold zEl;simp[h0]);have e0:decide (pos<off)=true:=decide_eq_true h0;clear h0;go_enter Tryz.func47,Tryz.ntmps47
  go_wp2
  go_ret
  exact⟨kC HF.o.symm,Below.refl _ _⟩
 have e0:decide (pos<off)=false:=decide_eq_false h0;by_cases h1:pos=off
 ·by_cases h2:aff=1
  ·have HF:=hd (show zEl off pos aff=true by unfold zEl;simp[h1,h2]);have e1:(pos==off)=true:=by simp[h1]
   have e2:(aff==1)=true:=by simp[h2]
   clear h0 h1 h2;go_enter Tryz.func47,Tryz.ntmps47
   go_wp2
   go_ret
   exact⟨kC HF.o.symm,Below.refl _ _⟩
  ·have HF:=hd (show zEl off pos aff=false by unfold zEl;simp[h0,h2]);have e1:(pos==off)=true:=by simp[h1]
   have e2:(aff==1)=false:=by simp[h2]
   clear h0 h1 h2;go_enter Tryz.func47,Tryz.ntmps47
   go_wp2
   go_ret
   exact⟨kC HF.o.symm,Below.refl _ _⟩
 ·have HF:=hd (show zEl off pos aff=false by unfold zEl;simp[h0,h1]);have e1:(pos==off)=false:=by simp[h1]
  clear h0 h1;go_enter Tryz.func47,Tryz.ntmps47
  go_wp2
  go_ret
  exact⟨kC HF.o.symm,Below.refl _ _⟩
theorem zW6 {W:World}{u:Value}{off:Int}(hp:XA W u p)(h:pos=off/\aff=0):Calls Tryz.prog 48 #[.agg #[u,.int .i64 off],.int .i64 pos,.int .i64 aff] W (zC3 W noP):=by
 have e1:(pos==off)=true:=by simp[h.1]
 have e2:(aff==0)=true:=by simp[h.2]
 clear h;obtain⟨A,n,c,rfl,hn,hl,hc,hp⟩:=hp;obtain⟨W0,hW⟩:∃W0,W0=(W.alloc (.cells #[.slice A n c,.int .i64 off] 29)).alloc (.cells #[.slice none 0 0,.int .i64 0] 29):=⟨_,rfl⟩;have hb0:Below W.heap.size W W0:=hW▸zPp _ _ _;have e0:=kMr W (Obj.cells #[Value.slice A n c,Value.int .i64 off] 29) (Obj.cells #[Value.slice none 0 0,Value.int .i64 0] 29);rw[<-hW]at e0;have f9:=hd (fun w(h:Below W0.heap.size W0 w)=>zI1 e0.1 h);have bN:=hd (fun w(h:Below W0.heap.size W0 w)=>zI1 e0.2 h);have je:=hd (fun w(h:Below W0.heap.size W0 w)=>hp.later (hb0.trans (h.mono hb0.size)));have HP:=hd (show∀w,Below W0.heap.size W0 w->XA w (.slice A n c) p from fun w h=>⟨A,n,c,rfl,hn,hl,hc,je.o w h⟩);have ae:=hd (Below.refl W0.heap.size W0);have HW:=hd hW;have aB:=hd hb0;have HN:=hd hn;obtain⟨x0,x1,_,f1⟩:=yb2 (f9.o W0 ae.o);obtain⟨z0,z1,g0,g1⟩:=yb2 (bN.o W0 ae.o);clear hp hn hW hb0 e0;go_enter Tryz.func48,Tryz.ntmps48
 go_wp2
 rw[<-HW.o];refine bodyPost_ret (v:=.tuple #[.agg #[.slice none 0 0,.int .i64 0],.bool false]) (by simp[results,Tryz.results48,go_sem,z0,z1]) rfl (zBi rfl (zBt.nil _ _) aB.o)
theorem kS3 {P:Prop}(h:P:=by
 clear h;go_enter Tryz.func48,Tryz.ntmps48
 go_wp2_with(go_at_call 47;(try rw[<-HW.o]);refine Calls.mono (zH0 HS.o) ?_;rintro e w9 ⟨rfl,b9⟩;have bw:=hd b9;clear b9 x0 x1 z0 z1 f1 g0 g1;obtain⟨x0,x1,f0,f1⟩:=yb2 (f9.o _ bw.o);obtain⟨z0,z1,g0,g1⟩:=yb2 (bN.o _ bw.o))
 have hr:=zCr (bN.o _ bw.o) (.slice A n c) (.int .i64 off);obtain⟨y0,y1,_,_⟩:=yb2 hr;refine bodyPost_ret (v:=.tuple #[.agg #[.slice A n c,.int .i64 off],.bool true]) (by simp[results,Tryz.results48,go_sem,y0,y1]) rfl ⟨rfl,?_⟩;exact((aB.o.trans (bw.o.mono aB.o.size)).setCell (by show _<=W.heap.size+1;omega) _).setCell (by show _<=W.heap.size+1;omega) _):P:=h
theorem zW7 {W:World}{u:Value}{off:Int}(hp:XA W u p)(h:¬(pos=off/\aff=0))(hs:zEl off pos aff=false):Calls Tryz.prog 48 #[.agg #[u,.int .i64 off],.int .i64 pos,.int .i64 aff] W (fun e w'=>e=.returned (.tuple #[.agg #[u,.int .i64 off],.bool true])/\Below W.heap.size W w'):=by
 have HS:=hd hs;clear hs;obtain⟨A,n,c,rfl,hn,hl,hc,hp⟩:=hp;obtain⟨W0,hW⟩:∃W0,W0=(W.alloc (.cells #[.slice A n c,.int .i64 off] 29)).alloc (.cells #[.slice none 0 0,.int .i64 0] 29):=⟨_,rfl⟩;have hb0:Below W.heap.size W W0:=hW▸zPp _ _ _;have e0:=kMr W (Obj.cells #[Value.slice A n c,Value.int .i64 off] 29) (Obj.cells #[Value.slice none 0 0,Value.int .i64 0] 29);rw[<-hW]at e0;have f9:=hd (fun w(h:Below W0.heap.size W0 w)=>zI1 e0.1 h);have bN:=hd (fun w(h:Below W0.heap.size W0 w)=>zI1 e0.2 h);have je:=hd (fun w(h:Below W0.heap.size W0 w)=>hp.later (hb0.trans (h.mono hb0.size)));have HP:=hd (show∀w,Below W0.heap.size W0 w->XA w (.slice A n c) p from fun w h=>⟨A,n,c,rfl,hn,hl,hc,je.o w h⟩);have ae:=hd (Below.refl W0.heap.size W0);have HW:=hd hW;have aB:=hd hb0;have HN:=hd hn;obtain⟨x0,x1,_,f1⟩:=yb2 (f9.o W0 ae.o);obtain⟨z0,z1,g0,g1⟩:=yb2 (bN.o W0 ae.o);clear hp hn hW hb0 e0;cases e1:(pos==off)
 ·exact kS3
 ·have e2:(aff==0)=false:=by simp at e1;simp;exact fun h2=>h ⟨e1,h2⟩
  exact kS3
theorem kS4 {P:Prop}(h:P:=by
 clear h;go_enter Tryz.func48,Tryz.ntmps48
 go_wp2_with(first|(go_at_call 47;(try rw[<-HW.o]);refine Calls.mono (zH0 HS.o) ?_;rintro e w9 ⟨rfl,b9⟩;have bw:=hd b9;clear b9 x0 x1 z0 z1 f1 g0 g1;obtain⟨x0,x1,f0,f1⟩:=yb2 (f9.o _ bw.o);obtain⟨z0,z1,g0,g1⟩:=yb2 (bN.o _ bw.o))|(go_at_call 86;refine Calls.mono (kBe (HP.o _ bw.o) xz.o ql.o) ?_;rintro e w8 ⟨v8,rfl,ho,b8⟩;obtain⟨A8,c8,rfl,_,_⟩:=ho.open_at (k+1) tH.o;have bR:=hd (zI bw.o b8);have HO:=hd (ho.weaken (Nat.le_trans aB.o.size bw.o.size));clear b8 ho x0 x1 z0 z1 f0 f1 g0 g1;obtain⟨x0,x1,f0,f1⟩:=yb2 (f9.o _ bR.o);obtain⟨z0,z1,g0,g1⟩:=yb2 (bN.o _ bR.o)))
 have hr1:=kFq (k:=1) (kFq (k:=0) (bN.o _ bR.o) (g':=W.heap.size) Kb (.slice A8 (k+1) c8)) (g':=W.heap.size) Kb (.int .i64 (off-pos));have hr:=zCr hr1 (.slice A8 (k+1) c8) (.int .i64 (off-pos));obtain⟨y0,y1,_,_⟩:=yb2 hr;have ho:=((HO.o.ypt (x:=.slice A8 (k+1) c8) (y:=.int .i64 (off-pos)) (f9.o _ bR.o)).ypt (x:=.slice A8 (k+1) c8) (y:=.int .i64 (off-pos)) hr1);clear x0 x1 f0 f1 z0 z1 g0 g1;refine bodyPost_ret (v:=.tuple #[.agg #[.slice A8 (k+1) c8,.int .i64 (off-pos)],.bool true]) (by simp[results,Tryz.results48,go_sem,y0,y1]) rfl (zBi rfl ho ?_);exact((((aB.o.trans (bR.o.mono aB.o.size)).setCell Km _).setCell Km _).setCell (by show _<=W.heap.size+1;omega) _).setCell (by show _<=W.heap.size+1;omega) _):P:=h
theorem zW8 {W:World}{u:Value}{off:Int}{k:Nat}(hp:XA W u p)(hk:p.length=k+1)(hsm:jI p=true)(h:¬(pos=off/\aff=0))(hs:zEl off pos aff=true)(h1:0<=off)(h2:off<=1048576)(h3:0<=pos)(h4:pos<=1048576):Calls Tryz.prog 48 #[.agg #[u,.int .i64 off],.int .i64 pos,.int .i64 aff] W (zC3 W ((addL p k 1,off-pos),true)):=by
 have HS:=hd hs;have ql:=hd (kCp hk hsm);have xz:=hd ((zDf p).1 hsm);have tH:=hd (show(addL p k 1).length=k+1 by rw[zJe];exact hk);have HK:=hd hk;clear hs hk hsm;obtain⟨A,n,c,rfl,hn,hl,hc,hp⟩:=hp;obtain⟨W0,hW⟩:∃W0,W0=(W.alloc (.cells #[.slice A n c,.int .i64 off] 29)).alloc (.cells #[.slice none 0 0,.int .i64 0] 29):=⟨_,rfl⟩;have hb0:Below W.heap.size W W0:=hW▸zPp _ _ _;have e0:=kMr W (Obj.cells #[Value.slice A n c,Value.int .i64 off] 29) (Obj.cells #[Value.slice none 0 0,Value.int .i64 0] 29);rw[<-hW]at e0;have f9:=hd (fun w(h:Below W0.heap.size W0 w)=>zI1 e0.1 h);have bN:=hd (fun w(h:Below W0.heap.size W0 w)=>zI1 e0.2 h);have je:=hd (fun w(h:Below W0.heap.size W0 w)=>hp.later (hb0.trans (h.mono hb0.size)));have HP:=hd (show∀w,Below W0.heap.size W0 w->XA w (.slice A n c) p from fun w h=>⟨A,n,c,rfl,hn,hl,hc,je.o w h⟩);have ae:=hd (Below.refl W0.heap.size W0);have HW:=hd hW;have aB:=hd hb0;have HN:=hd hn;obtain⟨x0,x1,_,f1⟩:=yb2 (f9.o W0 ae.o);obtain⟨z0,z1,g0,g1⟩:=yb2 (bN.o W0 ae.o);clear hp hn hW hb0 e0;cases e1:(pos==off)
 ·exact kS4
 ·have e2:(aff==0)=false:=by simp at e1;simp;exact fun h2=>h ⟨e1,h2⟩
  exact kS4
theorem kD8 {a b c:Nat}(h:a+3<=b)(h2:b<=c):a<c/\a+1<c/\a+1+1<c:=Kb
structure PC where
 A:Option Addr
 n:Nat
 c:Nat
 x:Int
def PC.row (c:PC):Array Value:=#[.slice c.A c.n c.c,.int .i64 c.x]
theorem PC.one (c:PC):c.row.all (·.oneCell')=true:=Ka
structure kAw (w:World)(c:PC)(p:List Int×Int):Prop where
 hx:p.2=c.x
 hn:p.1.length=c.n
 hc:c.n<=c.c
 hm:c.n<=1000
 hA:IL w w.heap.size c.A p.1
theorem kAw.later {w w':World}{c:PC}{p:List Int×Int}(h:kAw w c p)(hb:Below w.heap.size w w'):kAw w' c p:=⟨h.hx,h.hn,h.hc,h.hm,h.hA.later hb⟩
theorem zW :kC5 29 2:=⟨.struct (Tryz.prog.fieldsOf 29),by kernel_rfl,rfl,by kernel_rfl⟩
theorem kAw.pa {w:World}{c:PC}{p:List Int×Int}(h:kAw w c p):PA w (.agg c.row) p:=
 ⟨.slice c.A c.n c.c,by rw[h.hx];rfl,c.A,c.n,c.c,rfl,h.hn,h.hm,h.hc,h.hA⟩
def kK5 (w:World)(r:(List Int×Int)×Bool)(e:Ending)(w':World):Prop:=∃c:PC,e=.returned (.tuple #[.agg c.row,.bool r.2])/\kAw w' c r.1/\Below w.heap.size w w'
theorem OkA.xq12 {w:World}{o:OC}{a:OpP}(ho:OkA w o a)(ta:zAf a):XA w (.slice o.Q o.lq o.cq) a.q:=⟨_,_,_,rfl,ho.hlq,by have:=ta.hq;have:=ho.hlq;omega,ho.hcq,ho.hq⟩
theorem OkA.xt12 {w:World}{o:OC}{a:OpP}(ho:OkA w o a)(ta:zAf a):XA w (.slice o.T o.lt o.ct) a.t:=⟨_,_,_,rfl,ho.hlt,by have:=ta.ht;have:=ho.hlt;omega,ho.hct,ho.ht⟩
theorem kH8 (a b:List Int×Int):samP a b=true ↔ a=b:=by unfold samP;exact decide_eq_true_iff
theorem zTu (c:OC):c.row.all (·.oneCell')=true:=Ka
theorem zW9 {w:World}{sl:Sl}(h:zB1 w s sl)(hf:fewS sl=true):kAw w ⟨s.A,s.n,s.c,s.x⟩ sl.a/\kAw w ⟨s.B,s.m,s.d,s.y⟩ sl.f/\sl.a.1.length<=60/\sl.f.1.length<=60:=by
 obtain⟨l1,l2⟩:=h.len hf;have e1:=h.hn;have e2:=h.hm;exact⟨⟨h.hx,h.hn,h.hc,by show s.n<=_;omega,h.hA⟩,⟨h.hy,h.hm,h.hd,by show s.m<=_;omega,h.hB⟩,by omega,by omega⟩
theorem kWu {w:World}{b n size c:Nat}{A:Option Addr}{t:TypeId}{xs:List Value}(h:w.ownsRow b t size (.slice A n c) n xs):n<=9223372036854775807:=by
 obtain⟨RA',rc',eR,hnc,hcm,_⟩:=zC9 h;unfold maxLen at hcm;omega
def OC.into (o:OC):SC:=⟨o.gi,o.G1,o.g1,o.e1,o.go,o.G2,o.g2,o.e2,o.gp⟩
theorem zLl {w:World}{o:OC}{a:OpP}(h:OkA w o a):zB1 w o.into a.g:=h.hg
def SC.nil :SC:=⟨false,none,0,0,0,none,0,0,0⟩
theorem zJ2 (w:World):zB1 w SC.nil zeroS:=zIi.zero w
theorem zDs (w:World)(c:NC)(s:SC)(o:OC):∃W0,((((w.alloc (.cells c.row 26)).alloc (.cells s.row 33)).alloc (.cells o.row 35)).alloc (.cells #[.bool false,.slice none 0 0,.slice none 0 0,.slice none 0 0] 26)).alloc (.cells #[.bool false,.slice none 0 0,.int .i64 0,.slice none 0 0,.int .i64 0] 33)=W0/\St5 w c s o (w.heap.size+1+1+1) (w.heap.size+1+1+1+1) NC.nil SC.nil W0:=by
 obtain⟨W1,hW1,h1⟩:=kN w c s o;have e1:W1.heap.size=w.heap.size+1+1+1:=by rw[<-hW1];simp
 rw[hW1];refine⟨_,rfl,h1.call ((Kl.alloc Km _).alloc Kc _),?_,?_⟩
 ·rw[<-e1];exact(jT.new W1 26 NC.nil.row).alloc _
 ·have e2:(W1.alloc (.cells NC.nil.row 26)).heap.size=w.heap.size+1+1+1+1:=by simp[e1]
  rw[<-e2];exact jT.new _ 33 SC.nil.row
theorem St5.set7 {w W W':World}{o:OC}{g7 g8:Nat}{a a':NC}{t:SC}(h:St5 w c s o g7 g8 a t W)(hg:w.heap.size+1+1<g7)(hne:g8≠g7)(hv:jT 26 W' g7 a'.row)(ho:Off g7 W W'):St5 w c s o g7 g8 a' t W':=⟨h.st.store ho hg,hv,h.v8.off ho hne⟩
theorem St5.set8 {w W W':World}{o:OC}{g7 g8:Nat}{a:NC}{t t':SC}(h:St5 w c s o g7 g8 a t W)(hg:w.heap.size+1+1<g8)(hne:g7≠g8)(hv:jT 33 W' g8 t'.row)(ho:Off g8 W W'):St5 w c s o g7 g8 a t' W':=⟨h.st.store ho hg,h.v7.off ho hne,hv⟩
theorem zDt {fn:Func}{p q u:Tmp}(h:fn.results=#[.cell p 26,.cell q 33,.tmp u])(tmps:Array Value)(w:World){g g':Nat}(hv:jT 26 w g c.row)(hs:jT 33 w g' s.row)(hp:tmps.getD p undef=.pointer (some ⟨g,0,none⟩))(hq:tmps.getD q undef=.pointer (some ⟨g',0,none⟩)):(results fn tmps).run Tryz.prog w=.ok (.tuple #[.agg c.row,.agg s.row,tmps.getD u undef]) w:=by
 obtain⟨d,h3,h4,h5⟩:=zD;obtain⟨d',h3',h4',vC⟩:=kYr;simp only[results,h];simp only[List.mapM_toArray,hp,hq,asAddr,Sem.run_bind,Sem.run_pure,List.mapM_cons,List.mapM_nil];simp[Sem.run_bind,Result.andThen,run_loadVar_row w g _ _ _ _ d hv h3 (by cases d<;>simp_all) h5,run_loadVar_row w g' _ _ _ _ d' hs h3' (by cases d'<;>simp_all) vC]
def OC.from_ (o:OC):SC:=⟨o.fi,o.F1,o.f1,o.d1,o.fo,o.F2,o.f2,o.d2,o.fp⟩
theorem zPq {w:World}{o:OC}{a:OpP}(h:OkA w o a):zB1 w o.from_ a.f:=h.hf
theorem kH9 {w:World}(h:kS w c n):Calls Tryz.prog 41 #[.agg c.row] w (fun e w'=>∃c':NC,e=.returned (.agg c'.row)/\zH3 w.heap.size w' (fun W=>kS W c' n)/\Below w.heap.size w w'):=by
 obtain⟨d,h⟩:=h;refine(zEy d w _ n h).mono fun e w' h1=>?_;obtain⟨v,rfl,ht,hb⟩:=h1;obtain⟨c',rfl,_⟩:=zFo (ht.at_ (B:=w'.heap.size) fun b hb=>hb.2);exact⟨c',rfl,zHy ht,hb⟩
def zVb (w:World)(r:(NT×Sl)×Int)(e:Ending)(w':World):Prop:=
 ∃(c:NC)(s:SC),e=.returned (.tuple #[.agg c.row,.agg s.row,.int .i64 r.2])/\zH3 w.heap.size w' (fun W=>kS W c r.1.1)/\zH3 w.heap.size w' (fun W=>zB1 W s r.1.2)/\Below w.heap.size w w'
