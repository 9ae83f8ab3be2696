import Derived.Test.YtmkciabefepelaaGreatHDo4
set_option maxRecDepth 4000
namespace Go.Proofs.YtmkciabefepelaaGreat
open Go.RowKit
variable {k m n:NT}{c go os:List NT}{l p p' q r s u:List Int}
theorem kNo {x:NT}(h:kP5 x m=true):x.tx.length=m.tx.length+1/\x.ks.length=m.ks.length/\shpK x.ks m.ks=true:=by
 cases x;cases m
 rw[kP5,Bool.and_eq_true,decide_eq_true_iff]at h;exact⟨h.1,((kPz _ _).1 h.2).1,h.2⟩
theorem kRu {a c:Bool}{p q:List Pr}{gx tx:List Int}{gk ks:List NT}(h:gx.length=tx.length+1)(hk:shpK gk ks=true):kP5 (.mk a p gx gk) (.mk c q tx ks)=true:=by
 rw[kP5,Bool.and_eq_true,decide_eq_true_iff];exact⟨h,hk⟩
mutual
theorem kQv :∀(n:NT)(f:Int),kP5 (kR9 n f) n=true
 |.mk _ _ tx ks,f=>kRu (by rw[List.length_cons,kOm]) (kQz ks _)
theorem kQz :∀(ks:List NT)(f:Int),shpK (kQs ks f) ks=true
 |[],_=>by simp only[kQs,shpK]
 |k::r,f=>by simp only[kQs,shpK,kQv k f,kQz r,Bool.and_true]
end
theorem kP0 :∀(a b c d:List NT),shpK a c=true->shpK b d=true->shpK (a++b) (c++d)=true
 |[],b,[],d,_,h2=>h2
 |g::gr,b,k::r,d,h1,h2=>by
  rw[shpK,Bool.and_eq_true]at h1;simp only[List.cons_append,shpK,h1.1,kP0 gr b r d h1.2 h2,Bool.and_true]
 |[],_,_::_,_,h1,_=>by simp[shpK]at h1
 |_::_,_,[],_,h1,_=>by simp[shpK]at h1
theorem kP8 :∀(i:Nat)(a c:List NT),shpK a c=true->shpK (a.take i) (c.take i)=true
 |0,_,_,_=>by simp[shpK]
 |_+1,[],[],_=>by simp[shpK]
 |i+1,g::gr,k::r,h=>by
  rw[shpK,Bool.and_eq_true]at h;simp only[List.take_succ_cons,shpK,h.1,kP8 i gr r h.2,Bool.and_true]
 |_+1,[],_::_,h=>by simp[shpK]at h
 |_+1,_::_,[],h=>by simp[shpK]at h
theorem kP9 :∀(i:Nat)(a c:List NT),shpK a c=true->shpK (a.drop i) (c.drop i)=true
 |0,_,_,h=>h
 |_+1,[],[],_=>by simp[shpK]
 |i+1,g::gr,k::r,h=>by
  rw[shpK,Bool.and_eq_true]at h;exact kP9 i gr r h.2
 |_+1,[],_::_,h=>by simp[shpK]at h
 |_+1,_::_,[],h=>by simp[shpK]at h
theorem kOn {a:List NT}{j:Nat}(h:shpK a c=true)(hk:c[j]? =some k):∃g,a[j]? =some g/\kP5 g k=true:=by
 have h1:=(kPz _ _).1 h;have hj:=(List.getElem?_eq_some_iff.1 hk).1;obtain⟨g,hg⟩:∃g,a[j]? =some g:=⟨_,List.getElem?_eq_getElem Kb⟩;exact⟨g,hg,h1.2 j g k hg hk⟩
theorem kRv {a:List NT}(h:shpK a c=true)(ho:shpK go os=true)(i m:Nat):shpK (spl a i m go) (spl c i m os)=true:=
 kP0 _ _ _ _ (kP0 _ _ _ _ (kP8 i a c h) ho) (kP9 (i+m) a c h)
theorem kSh {x:NT}(h:kP5 x k=true)(ho:shpK go os=true)(i m:Nat):kP5 (jS x i m go) (jS k i m os)=true:=
 kRu (kNo h).1 (kRv (kNo h).2.2 ho i m)
theorem kSu {g:NT}(h:kP5 g k=true):shpK [g] [k]=true:=by simp only[shpK,h,Bool.and_true]
theorem kSi :shpK [] []=true:=by simp only[shpK]
theorem kN6 :∀(p:List Int)(g n m:NT),kP5 g n=true->kB n p=some m->∃x,kB g p=some x/\kP5 x m=true
 |[],g,n,m=>fun h hg=>by
  injection hg with hg;subst hg;exact⟨g,rfl,h⟩
 |i::p,g,n,m=>fun h hg=>by
  rw[zR]at hg;cases hk:zBh n i with
  |none=>rw[hk]at hg;cases hg
  |some k=>
   rw[hk]at hg;obtain⟨j,rfl,hj⟩:=zDa hk;obtain⟨y,hy,hyk⟩:=kOn (kNo h).2.2 hj;obtain⟨x,hx,Ce⟩:=kN6 p y k m hyk hg;exact⟨x,by rw[zR,zA9,hy];exact hx,Ce⟩
theorem kRw :∀(p:List Int)(g n m x' m':NT),kP5 g n=true->kB n p=some m->kP5 x' m'=true->kP5 (putT g p x') (putT n p m')=true
 |[],g,n,m,x',m'=>fun _ _ hx=>hx
 |i::p,g,n,m,x',m'=>fun h hg hx=>by
  rw[zR]at hg;cases hk:zBh n i with
  |none=>rw[hk]at hg;cases hg
  |some k=>
   rw[hk]at hg;obtain⟨j,rfl,hj⟩:=zDa hk;obtain⟨y,hy,hyk⟩:=kOn (kNo h).2.2 hj;have hl:=(kNo h).2.1;have hlt:=(List.getElem?_eq_some_iff.1 hj).1;rw[kQx hy,kQx hj,<-zI0 Kb,<-zI0 Kb];exact kRu (kNo h).1 (kRv (kNo h).2.2 (kSu (kRw p y k m x' m' hyk hg hx)) j 1)
theorem Gh.form {w:World}{v:Value}{g:NT}{F:Nat->Prop}(h:Gh w v g F)(hg:kB g p=some m):∃lab rs ks,m=.mk false [] (lab::rs) ks:=by
 obtain⟨u,Fm,_,h1,_⟩:=Gh.sub p h hg;cases h1 with
 |mk _ b lab rs ks=>exact⟨lab,rs,ks,rfl⟩
theorem kNr {x:NT}{m:Nat}(h:sizeT n<=m)(hx:kB n u=some x):x.ks.length<=m/\x.tx.length<=m/\x.tx.length+x.ks.length<=m:=by
 have h1:=zGh u n x hx;have h3:=kOk x.ks;rw[jC x]at h1;omega
theorem kSv {x b:NT}{i:Nat}(hg:kB n u=some x)(hi:i+1<x.ks.length)(hb:x.ks[i]? =some b):kB (putT n u (jS x (i+1) 1 [])) (u++[(i:Int)])=some b/\putT (putT n u (jS x (i+1) 1 [])) (u++[(i:Int)]) m=putT n u (jS x i 2 [m]):=by
 have hg2:=jX n u (jS x (i+1) 1 []) x hg;have hsk:(jS x (i+1) 1 []).ks[i]? =some b:=by
  show(spl x.ks (i+1) 1 [])[i]? =_
  rw[zBp Kb Kb,hb]
 refine⟨?_,?_⟩
 ·rw[jJ,hg2];show kB (jS x (i+1) 1 []) [(i:Int)]=_
  rw[zR,zA9,hsk];rfl
 ·rw[zEz _ _ _ _ _ hg2,zEo _ _ _ _ _ hg,zSg hsk];congr 1
  show NT.mk _ _ _ (spl (spl x.ks (i+1) 1 []) i 1 [_])=NT.mk _ _ _ _
  rw[zX1 Kb];rfl
theorem kRx {p:Int}(h:zFx r p s=(l,0)):∃k:Nat,p=k/\k<=r.length:=by
 unfold zFx at h;split at h
 ·split at h
  ·exact⟨p.toNat,by omega,by omega⟩
  ·cases h
 ·cases h
theorem kRy {p:Int}(h:zFe r p s=(l,0)):∃k:Nat,p=k/\k+s.length<=r.length:=by
 unfold zFe at h;split at h
 ·split at h
  ·rename_i h1
   split at h
   ·rename_i h2
    have:=congrArg List.length h2;rw[List.length_take,List.length_drop]at this;exact⟨p.toNat,by omega,by omega⟩
   ·cases h
  ·cases h
 ·cases h
def kO3 (n:NT):Option Int:=n.tx.head?
theorem kE.lab {y y':NT}(h:kE y y'):kO3 y'=kO3 y:=by unfold kO3;rw[h.2]
theorem kN2 {x:NT}{i:Nat}(hg:kB n u=some x)(hk:x.ks[i]? =some k):kB n (u++[(i:Int)])=some k:=by
 rw[zAc hg,zA9,hk];rfl
theorem kRz {g x h t y:NT}{i z:Nat}(hg:kB g u=some x)(hk:x.ks[i]? =some k)(hh:h.ks=k.ks.take z)(ht:t.ks=k.ks.drop z)(hl:kO3 h=kO3 k)(hy:kB g p=some y)(hm:jH 4 (u++[(i:Int)]) (z:Int) p=(p',true)):
  ∃y',kB (putT (putT g (u++[(i:Int)]) h) u (jS (setK x i h) (i+1) 0 [t])) p'=some y'/\kO3 y'=kO3 y:=by
 rw[(zZj hg hk).2];obtain⟨y',g1,g2⟩:=zO7 hg hk hh ht hy hm;refine⟨y',g1,?_⟩;by_cases e:p=u++[(i:Int)]
 ·rw[if_pos e]at g2;rw[e,kN2 hg hk]at hy;injection hy with hy;rw[g2,hl,hy]
 ·rw[if_neg e]at g2;exact g2.lab
theorem kR0 {g k' y:NT}(hg:kB g q=some k)(hks:k'.ks=k.ks)(hl:k'.lf=k.lf)(hlab:kO3 k'=kO3 k)(hy:kB g p=some y):∃y',kB (putT g q k') p=some y'/\kO3 y'=kO3 y:=by
 obtain⟨y',g1,g2⟩:=zGx hg hks hl hy;refine⟨y',g1,?_⟩;by_cases e:p=q
 ·rw[if_pos e]at g2;rw[e,hg]at hy;injection hy with hy;rw[g2,hlab,hy]
 ·rw[if_neg e]at g2;exact g2.lab
def kRo (a:OpP)(g g':NT):Prop:=∀p p' y,kB g p=some y->jF a.k a.q a.t a.z p=(p',true)->∃y',kB g' p'=some y'/\(¬(a.k=3/\p=a.q)->kO3 y'=kO3 y)/\(a.k=3/\p=a.q->∃b,kB g (jV p).1=some b/\kO3 y'=kO3 b)
theorem kRo.mk {a:OpP}{g g':NT}(h3:a.k≠3)(h:∀p p' y,kB g p=some y->jF a.k a.q a.t a.z p=(p',true)->∃y',kB g' p'=some y'/\kO3 y'=kO3 y):kRo a g g':=fun p p' y hy hm=>by
 obtain⟨y',h1,h2⟩:=h p p' y hy hm;exact⟨y',h1,fun _=>h2,fun e=>absurd e.1 h3⟩
theorem kSw {a:OpP}{g y y2 gk s:NT}{t:List Int}{i j:Nat}(e:a.k=5)(p1:a.q=u++[(i:Int)])(q1:a.t=t++[(j:Int)])(hy:kB g u=some y)(fy:y.ks[i]? =some gk)(hy2:kB (putT g u (jS y i 1 [])) t=some y2)(hj:j<=y2.ks.length)(hs:kB g p=some s)(hmv:jF a.k a.q a.t a.z p=(p',true)):
  ∃y',kB (putT (putT g u (jS y i 1 [])) t (jS y2 j 0 [gk])) p'=some y'/\kO3 y'=kO3 s:=by
 have hg:(jI p&&jI a.q&&jI a.t&&zE9 a.z)=true:=by
  by_cases hg:(jI p&&jI a.q&&jI a.t&&zE9 a.z)=true
  ·exact hg
  ·unfold jF at hmv;rw[if_neg hg]at hmv;exact absurd (zO hmv).2 Kd
 have br:a.q.length≠0:=by rw[p1];simp
 have cC:(if zX a.q p=2∨zX a.q p=3 then(a.t++p.drop a.q.length,true)else jH 1 a.t 0 (jH 2 a.q 0 p).1)=(p',true):=by
  have e2:=hmv;unfold jF at e2;rw[if_pos hg,if_pos ⟨e,br⟩]at e2;exact e2
 by_cases h2:zX a.q p=2∨zX a.q p=3
 ·rw [if_pos h2]at cC;have bn:∃r,p=a.q++r:=by
   rcases h2 with h2|h2
   ·exact⟨[],by rw[zCw.1 h2];simp⟩
   ·obtain⟨s1,s2⟩:=zL6.1 h2;refine⟨p.drop a.q.length,?_⟩;have e3:p.take a.q.length=a.q:=by
     refine zL1 Kf (fun j hj=>?_);simp at hj;rw[jY _ _ Kf,List.getElem_take,<-jY _ _ Kb];exact(s2 j Kb).symm
    conv=>lhs;rw[<-List.take_append_drop a.q.length p,e3]
  obtain⟨r,rfl⟩:=bn;rw[List.drop_left]at cC;have hyk:kB gk r=some s:=by
   rw[jJ,p1,kN2 hy fy]at hs;exact hs
  rw[<-(zO cC).1,q1];refine⟨s,?_,rfl⟩;rw[List.append_assoc];have hin:=zAz (ks:=y2.ks) (o:=[gk]) (i:=j) (m:=0) (j:=0) Kc hj;exact(zAw (x':=jS y2 j 0 [gk]) hy2 j r (by show(spl y2.ks j 0 [gk])[j]? =some gk;simpa using hin)).trans hyk
 ·rw[if_neg h2]at cC;have j4:jH 2 a.q 0 p=((jH 2 a.q 0 p).1,true):=by
   have hst:=zF4 a.q p;rw[p1]at h2 hst⊢;rw[zQs (k:=u.length) Kc];rcases hst with h0|h0|h0|h0
   ·rw[if_pos h0]
   ·rw[if_neg Kb,if_pos h0]
   ·exact absurd (.inl h0) h2
   ·exact absurd (.inr h0) h2
  rw[p1]at j4 cC;obtain⟨y1,g1,g2⟩:=zJm hy (List.getElem?_eq_some_iff.1 fy).1 hs j4;obtain⟨y3,g3,g4⟩:=zJl (m:=gk) (i:=j) hy2 hj g1;rw[q1]at cC;rw[cC]at g3;exact⟨y3,g3,g4.lab.trans g2.lab⟩
theorem kSx {w0 w:World}{v:Value}{g r:NT}{F:Nat->Prop}{o:OC}{a:OpP}(hG:Gh w v g F)(hF:∀q,F q->w0.heap.size<=q/\q<w.heap.size)(ho:OkA w0 o a)(hw:Below w0.heap.size w0 w)(ta:zAf a)(h1:1<=a.k)(h8:a.k<=8)(hd:doO n a=(r,0))(hs:kP5 g n=true)(hn:sizeT n<=1000)(hc:zAh n=0)(hm:a.k=1->sizeT a.n<=1000):∃g',kRo a g g'/\Calls Tryz.prog 24 #[v,.agg o.row] w (kRn F v g' w):=by
 have hk:=ho.hk;have hmx:∀u x,kB n u=some x->x.ks.length<9223372036854775807:=fun u x hx=>by have:=(kNr hn hx).1;omega
 rcases zC7 h1 h8 hd with⟨e,h⟩|⟨e,h⟩|⟨e,h⟩|⟨e,h⟩|⟨e,h⟩|⟨e,h⟩|⟨e,h⟩|⟨e,h⟩
 ·obtain⟨u,i,x,p1,p2,p3,p4,p5⟩:=zD7 (zCd h).2;obtain⟨y,hy,hyx⟩:=kN6 u g n x hs p2;have hl:=(kNo hyx).2.1;have hf:=kNr hn p2;refine⟨_,kRo.mk Kb fun p p' z hz hmv=>?_,kTm hG hF ho hw ta Kb p1 hy Kb Kb (by have:=hm e;omega)⟩;have hb:=jD hmv Kb;rw[e,zJc (.inl rfl),p1]at hb;obtain⟨z',g1,g2⟩:=zJl (m:=fgT (kR9 a.n 0)) (i:=i) hy Kb hz;rw[hb]at g1;exact⟨z',g1,g2.lab⟩
 ·obtain⟨hc2,_⟩:=zCl h;obtain⟨u,i,x,k,p1,p2,p3,p4,p5⟩:=zBn (n:=n) (p:=a.q) (by rw[hc2]);obtain⟨y,hy,hyx⟩:=kN6 u g n x hs p2;obtain⟨gk,fy,j5⟩:=kOn (kNo hyx).2.2 p3;have hl:=(kNo hyx).2.1;have hf:=kNr hn p2;refine⟨_,kRo.mk Kb fun p p' z hz hmv=>?_,kTk hG hF ho hw ta Kb p1 hy fy Kb⟩;have hb:=jD hmv Kb;rw[e,zJc (.inr rfl),p1]at hb;obtain⟨z',g1,g2⟩:=zJm hy (List.getElem?_eq_some_iff.1 fy).1 hz hb;exact⟨z',g1,g2.lab⟩
 ·obtain⟨u,i,x,b,k,p1,p2,p3,p4,p5,p6,_,p8⟩:=zC5 h;obtain⟨y,hy,hyx⟩:=kN6 u g n x hs p2;have hl:=(kNo hyx).2.1;have uh:=(List.getElem?_eq_some_iff.1 p4).1;obtain⟨gb,hgb,wj⟩:=kOn (kNo hyx).2.2 p3;obtain⟨gk,fy,j5⟩:=kOn (kNo hyx).2.2 p4;obtain⟨lb,rb,kb,rfl⟩:=hG.form (kN2 hy hgb);obtain⟨lk,rk,kk,rfl⟩:=hG.form (kN2 hy fy);have hf:=kNr hn p2;have Cf:=kNr hn (kN2 p2 p3);have rP:=kNr hn (kN2 p2 p4);obtain⟨b1,b2,b3⟩:=kNo wj;obtain⟨k1,k2,k3⟩:=kNo j5;obtain⟨m1,m2⟩:=kSv (m:=.mk false [] (lb::(rb++rk)) (kb++kk)) hy Kb hgb;have b1:rb.length+1=b.tx.length+1:=b1;have k1:rk.length+1=k.tx.length+1:=k1;have b2:kb.length=b.ks.length:=b2;have k2:kk.length=k.ks.length:=k2;refine⟨_,fun p p' z hz hmv=>?_,kTj (_k:=k) hG hF ho hw ta Kb p1 hy fy Kb m1 Kb⟩;rw[m2];have hb:=jD hmv Kb;have hx:=zA6 n u x hc p2;rw[e,p1]at hb;obtain⟨z',g1,g2⟩:=zO6 (m:=.mk false [] (lb::(rb++rk)) (kb++kk)) hy hgb fy rfl (fun hne=>by
   have hkl:k.lf=false:=by
    cases hl:k.lf
    ·rfl
    ·have h0:=(kX (zAk hx p4)).1 hl;rw[h0]at k2;exact absurd (List.eq_nil_of_length_eq_zero k2) hne
   have htx:=(kX (zAk hx p3)).2 (p5.trans hkl);rw[<-p6];show(zG9 b:Int)=(kb.length:Int)
   unfold zG9;rw[htx,b2];simp) hz hb
  refine⟨z',g1,fun hne=>?_,fun he=>?_⟩
  ·have wm:p≠u++[((i+1:Nat):Int)]:=fun e2=>hne ⟨e,by rw[p1];exact e2⟩;by_cases hpb:p=u++[(i:Int)]
   ·rw[if_pos (.inl hpb)]at g2;rw[hpb,kN2 hy hgb]at hz;injection hz with hz;rw[g2,<-hz];rfl
   ·rw[if_neg (by rintro(h|h);exact hpb h;exact wm h)]at g2;exact g2.lab
  ·rw[if_pos (.inr (he.2.trans p1))]at g2;refine⟨.mk false [] (lb::rb) kb,?_,?_⟩
   ·rw[he.2,p1,zFy];exact kN2 hy hgb
   ·rw[g2];rfl
 ·obtain⟨u,i,x,k,p1,p2,p3,p4,p5,p6,p7,p8⟩:=zCc hmx h;obtain⟨y,hy,hyx⟩:=kN6 u g n x hs p2;have hl:=(kNo hyx).2.1;obtain⟨gk,fy,j5⟩:=kOn (kNo hyx).2.2 p4;obtain⟨lk,rk,kk,rfl⟩:=hG.form (kN2 hy fy);have hf:=kNr hn p2;have rP:=kNr hn (kN2 p2 p4);have hx:=zA6 n u x hc p2;have hv:=kX (zAk hx p4);obtain⟨k1,k2,k3⟩:=kNo j5;have k1:rk.length+1=k.tx.length+1:=k1;have k2:kk.length=k.ks.length:=k2;have hlen:zG9 k=k.tx.length+k.ks.length:=rfl;have uh:=(List.getElem?_eq_some_iff.1 fy).1;obtain⟨z,hz⟩:∃z:Nat,a.z=(z:Int):=⟨a.z.toNat,by omega⟩;have wn:o.z=(z:Int):=by rw[<-ho.hz];exact hz
  have wq:kB g a.q=some (.mk false [] (lk::rk) kk):=by rw[p1];exact kN2 hy fy
  have mv:∀{p p':List Int},jF a.k a.q a.t a.z p=(p',true)->jH 4 (u++[(i:Int)]) (z:Int) p=(p',true):=fun hmv=>by
   have hb:=jD hmv Kb;rw[e,p1,hz]at hb;exact hb
  by_cases h0:kk.length=0
  ·refine⟨_,kRo.mk Kb fun p p' s hs2 hmv=>?_,kS6 hG hF ho hw ta Kb p1 hy uh Kb wq wn Kb Kb h0⟩;obtain rfl:=List.eq_nil_of_length_eq_zero h0;rw[p1];exact kRz hy fy (h:=.mk false [] (lk::rk.take z) []) (t:=.mk false [] (-2::rk.drop z) []) (show([]:List NT)=List.take z []from List.take_nil.symm) (show([]:List NT)=List.drop z []from List.drop_nil.symm) rfl hs2 (mv hmv)
  ·have dA:k.lf=false:=by
    cases hl:k.lf
    ·rfl
    ·rw[hv.1 hl]at k2;exact absurd k2 h0
   have htx:k.tx.length=0:=by rw[hv.2 dA];rfl
   have fin:∀{p p':List Int}{s:NT},kB g p=some s->jF a.k a.q a.t a.z p=(p',true)->∃y',kB (putT (putT g a.q (.mk false [] (lk::rk) (kk.take z))) u (jS (setK y i (.mk false [] (lk::rk) (kk.take z))) (i+1) 0 [.mk false [] [-2] (kk.drop z)])) p'=some y'/\kO3 y'=kO3 s:=fun hs2 hmv=>by
    rw[p1];exact kRz hy fy (h:=.mk false [] (lk::rk) (kk.take z)) (t:=.mk false [] [-2] (kk.drop z)) rfl rfl rfl hs2 (mv hmv)
   by_cases hz0:z=0
   ·exact⟨_,kRo.mk Kb fun p p' s hs2 hmv=>fin hs2 hmv,kS8 hG hF ho hw ta Kb p1 hy uh Kb wq wn Kb Kb Kb Kb⟩
   ·exact⟨_,kRo.mk Kb fun p p' s hs2 hmv=>fin hs2 hmv,kS7 hG hF ho hw ta Kb p1 hy uh Kb wq wn Kb Kb Kb⟩
 ·obtain⟨hc2,hq⟩:=zBz h;obtain⟨u,i,x,k,p1,p2,p3,p4,p5⟩:=zBn hc2;obtain⟨y,hy,hyx⟩:=kN6 u g n x hs p2;obtain⟨gk,fy,j5⟩:=kOn (kNo hyx).2.2 p3;have hl:=(kNo hyx).2.1;have hf:=kNr hn p2;have hsz:=zFn hc2;obtain⟨t,j,z,q1,q2,q3,q4,q5⟩:=zD7 hq;rw[p5]at q2 q5 hsz;have hs2:=kRw u g n x _ _ hs p2 (kSh hyx kSi i 1);obtain⟨y2,hy2,wu⟩:=kN6 t _ _ z hs2 q2;have hl2:=(kNo wu).2.1;have hf2:=kNr (m:=1000) Kb q2;exact⟨_,kRo.mk Kb fun p p' s hs2 hmv=>kSw e p1 q1 hy fy hy2 Kb hs2 hmv,kTl hG hF ho hw ta Kb p1 hy fy Kb q1 hy2 Kb Kb⟩
 ·obtain⟨k,p1,p2,p3,p4⟩:=zC6 h;refine⟨g,kRo.mk Kb fun p p' s hs2 hmv=>?_,kTa hG hF ho hw ta Kf Kf Kf Kf Kf Kf Kf⟩;have hb:=jD hmv Kb;rw[zDz Kb]at hb;rw[<-(zO hb).1];exact⟨s,hs2,rfl⟩
 ·obtain⟨k,p1,p2,p3,p4⟩:=jZ h;have hi:zFx k.tx a.z a.x=((zFx k.tx a.z a.x).1,0):=Prod.ext rfl p3;obtain⟨j,hj,hjl⟩:=kRx hi;obtain⟨y,hy,hyx⟩:=kN6 a.q g n k hs p1;obtain⟨lb,rb,kb,rfl⟩:=hG.form hy;obtain⟨b1,b2,b3⟩:=kNo hyx;have hf:=kNr hn p1;have b1:rb.length+1=k.tx.length+1:=b1;refine⟨_,kRo.mk Kb fun p p' s hs2 hmv=>?_,kTh hG hF ho hw ta Kb hy (k:=j) (by rw[<-ho.hz];exact hj) Kb Kb⟩;have hb:=jD hmv Kb;rw[zDz Kb]at hb;rw[<-(zO hb).1];exact kR0 hy rfl rfl rfl hs2
 ·obtain⟨k,p1,p2,p3,p4⟩:=jZ h;have hi:zFe k.tx a.z a.x=((zFe k.tx a.z a.x).1,0):=Prod.ext rfl p3;obtain⟨j,hj,hjl⟩:=kRy hi;obtain⟨y,hy,hyx⟩:=kN6 a.q g n k hs p1;obtain⟨lb,rb,kb,rfl⟩:=hG.form hy;obtain⟨b1,b2,b3⟩:=kNo hyx;have hf:=kNr hn p1;have hnx:=ho.hnx;have b1:rb.length+1=k.tx.length+1:=b1;refine⟨_,kRo.mk Kb fun p p' s hs2 hmv=>?_,kTi hG hF ho hw ta Kb hy (k:=j) (by rw[<-ho.hz];exact hj) Kb Kb⟩;have hb:=jD hmv Kb;rw[zDz Kb]at hb;rw[<-(zO hb).1];exact kR0 hy rfl rfl rfl hs2
theorem kNt :∀(p:List Int)(n y:NT)(m:Nat),kB n p=some y->sizeT n<=m->m<=1048576->jI p=true
 |[],_,_,_,_,_,_=>rfl
 |i::p,n,y,m,h,hs,hm=>by
  rw[zR]at h;cases hk:zBh n i with
  |none=>rw[hk]at h;cases h
  |some k=>
   rw[hk]at h;obtain⟨k1,k2,_⟩:=zA1 hk;have h1:=kOk n.ks;have h2:=jC n;have h3:=zGh [i] n k (by rw[zR,hk];rfl);have ih:=kNt p k y m h Kb hm;unfold jI at ih⊢;rw[List.all_cons,ih,Bool.and_true,Bool.and_eq_true,decide_eq_true_iff,decide_eq_true_iff];omega
theorem kQa {x:NT}{i m:Nat}(h:kB n u=some x)(hi:i<=x.ks.length)(hs:sizeT n<=m)(hm:m<=1048576):jI (u++[(i:Int)])=true:=by
 have h1:=kNt u n x m h hs hm;have h2:=kNr hs h;unfold jI at h1⊢;rw[List.all_append,h1,Bool.true_and,List.all_cons,List.all_nil,Bool.and_true,Bool.and_eq_true,decide_eq_true_iff,decide_eq_true_iff];omega
theorem kO4 {o:OpP}(hf:zCx o=0)(hk:o.k=1∨o.k=2∨o.k=3∨o.k=4∨o.k=6∨o.k=7∨o.k=8∨o.k=9):o.t=[]:=by
 have h:=(zOy hf).2;obtain⟨k,q,t,z,n,ol,w,x,f,g⟩:=o;simp only at hk;rcases hk with rfl|rfl|rfl|rfl|rfl|rfl|rfl|rfl<;>(simp[fieldsO,zeroO]at h;(try simp[h]))
theorem kTb {o:OpP}(hf:zCx o=0)(hk:o.k=9):o.q=[]/\o.z=0:=by
 have h:=(zOy hf).2;obtain⟨k,q,t,z,n,ol,w,x,f,g⟩:=o;simp only at hk;subst hk;simp[fieldsO,zeroO]at h;simp[h]
theorem kQb {K:Int}{z:Int}(h2:K≠2)(h3:K=3->lastL q≠0):(jH K q z p).2=true:=by
 unfold jH;by_cases h0:q.length=0
 ·rw[if_pos h0]
 rw[if_neg h0];by_cases e1:K=1
 ·rw[if_pos e1];split<;>rfl
 rw[if_neg e1,if_neg h2];by_cases e3:K=3
 ·rw[if_pos e3,if_neg (h3 e3)];split
  ·rfl
  split<;>rfl
 rw[if_neg e3];by_cases e4:K=4
 ·rw[if_pos e4];split
  ·rfl
  split<;>rfl
 rw[if_neg e4]
theorem kSj {a:NT}{o:OpP}(hf:zCx o=0)(h1:1<=o.k)(h8:o.k<=8)(h:doO n o=(a,0))(hn:sizeT n<=1000):(jI o.q&&jI o.t&&zE9 o.z)=true/\(o.k=3->lastL o.q≠0):=by
 have hmx:∀u x,kB n u=some x->x.ks.length<9223372036854775807:=fun u x hx=>by have:=(kNr hn hx).1;omega
 have z0:zE9 0=true:=by decide
 have zn:∀k:Nat,k<=1000->zE9 (k:Int)=true:=fun k hk=>(zKd _).2 Kb;have pk:∀{u:List Int}{i:Nat}{x:NT},kB n u=some x->i<=x.ks.length->jI (u++[(i:Int)])=true:=fun h1 h2=>kQa h1 h2 hn Kb;have tn:jI []=true:=rfl;rcases zC7 h1 h8 h with⟨e,h⟩|⟨e,h⟩|⟨e,h⟩|⟨e,h⟩|⟨e,h⟩|⟨e,h⟩|⟨e,h⟩|⟨e,h⟩
 ·obtain⟨u,i,x,hx⟩:=zD7 (zCd h).2;refine⟨?_,fun e2=>by omega⟩;rw[hx.path,pk hx.at_ hx.le,kO4 hf Kb,kQ2 hf Kb,tn,z0];rfl
 ·obtain⟨h2,h3⟩:=zCl h;obtain⟨u,i,x,k,hx⟩:=zBn (n:=n) (p:=o.q) (by rw[h2]);refine⟨?_,fun e2=>by omega⟩;rw[hx.path,pk hx.at_ (Nat.le_of_lt (List.getElem?_eq_some_iff.1 hx.kid).1),kO4 hf Kb,kQ2 hf Kb,tn,z0];rfl
 ·obtain⟨u,i,x,b,k,hx⟩:=zC5 h;have hb:=kNr hn (kN2 hx.at_ hx.b_);refine⟨?_,fun _=>by rw[hx.path,zC0];omega⟩;rw[hx.path,pk hx.at_ (Nat.le_of_lt (List.getElem?_eq_some_iff.1 hx.k_).1),kO4 hf Kb,tn,<-hx.pos];show zE9 (b.tx.length+b.ks.length:Int)=true
  exact(zKd _).2 Kb
 ·obtain⟨u,i,x,k,hx⟩:=zCc hmx h;have hb:=kNr hn (kN2 hx.at_ hx.kid);have hz:=hx.hi;have hz0:=hx.lo;have hl:zG9 k=k.tx.length+k.ks.length:=rfl;refine⟨?_,fun e2=>by omega⟩;rw[hx.path,pk hx.at_ (Nat.le_of_lt (List.getElem?_eq_some_iff.1 hx.kid).1),kO4 hf Kb,tn];exact(zKd _).2 Kb
 ·obtain⟨h2,h3⟩:=zBz h;obtain⟨u,i,x,k,hx⟩:=zBn h2;obtain⟨t,j,y,hy⟩:=zD7 h3;have hs:=zFn h2;refine⟨?_,fun e2=>by omega⟩;have hq:=pk hx.at_ (Nat.le_of_lt (List.getElem?_eq_some_iff.1 hx.kid).1);rw[<-hx.path]at hq;rw[hq,hy.path,kQa hy.at_ hy.le (m:=1000) Kb Kb,kQ2 hf Kb,z0];rfl
 ·obtain⟨k,hq,hg,hc,_⟩:=zC6 h;refine⟨?_,fun e2=>by omega⟩;rw[kNt o.q n k 1000 hg hn Kb,kO4 hf Kb,kQ2 hf Kb,tn,z0];rfl
 ·obtain⟨k,hg,hl,h0,_⟩:=jZ h;have hi:zFx k.tx o.z o.x=((zFx k.tx o.z o.x).1,0):=Prod.ext rfl h0;obtain⟨j,hj,hjl⟩:=kRx hi;have hb:=kNr hn hg;refine⟨?_,fun e2=>by omega⟩;rw[kNt o.q n k 1000 hg hn Kb,kO4 hf Kb,tn,hj,zn j Kb];rfl
 ·obtain⟨k,hg,hl,h0,_⟩:=jZ h;have hi:zFe k.tx o.z o.x=((zFe k.tx o.z o.x).1,0):=Prod.ext rfl h0;obtain⟨j,hj,hjl⟩:=kRy hi;have hb:=kNr hn hg;refine⟨?_,fun e2=>by omega⟩;rw[kNt o.q n k 1000 hg hn Kb,kO4 hf Kb,tn,hj,zn j Kb];rfl
theorem kR1 {a y:NT}{o:OpP}{x:List Int}(hf:zCx o=0)(h1:1<=o.k)(h8:o.k<=8)(h:doO n o=(a,0))(hn:sizeT n<=1000)(hp:kB n p=some y)(hm:jF o.k o.q o.t o.z p=(x,false)):o.k=2/\(p=o.q∨(o.q.length<p.length/\∀j,j<o.q.length->iAt o.q j=iAt p j)):=by
 obtain⟨hs,h3⟩:=kSj hf h1 h8 h hn;have hsp:=kNt p n y 1000 hp hn Kb;unfold jF at hm;rw[if_pos (by rw[Bool.and_assoc,Bool.and_assoc,hsp,Bool.true_and,<-Bool.and_assoc];exact hs)]at hm;by_cases h5:o.k=5/\o.q.length≠0
 ·rw[if_pos h5]at hm;split at hm
  ·exact absurd (zO hm).2 Kc
  ·have:=kQb (K:=1) (q:=o.t) (p:=(jH 2 o.q 0 p).1) (z:=0) Kb (fun e=>by omega);rw[hm]at this;cases this
 ·rw[if_neg h5]at hm;by_cases h2:o.k=2
  ·refine⟨h2,?_⟩;rw[h2]at hm;have hst:=zF4 o.q p;rcases hst with h0|h0|h0|h0
   ·unfold jH at hm;rw[if_neg (show¬((2:Int)=1) by decide),if_pos rfl,if_pos h0]at hm;split at hm<;>exact absurd (zO hm).2 Kc
   ·unfold jH at hm;rw[if_neg (show¬((2:Int)=1) by decide),if_pos rfl,if_neg (show¬zX o.q p=0 by omega),if_pos h0]at hm;split at hm<;>exact absurd (zO hm).2 Kc
   ·exact .inl (zCw.1 h0).symm
   ·exact .inr (zL6.1 h0)
  ·have:=kQb (q:=o.q) (p:=p) (z:=o.z) h2 h3;rw[hm]at this;cases this
theorem kSs {y:NT}{o:OpP}(hf:zCx o=0)(h9:o.k=9)(hn:sizeT n<=1000)(hp:kB n p=some y):jF o.k o.q o.t o.z p=(p,true):=by
 obtain⟨hq,hz⟩:=kTb hf h9;have ht:=kO4 hf Kb;have hsp:=kNt p n y 1000 hp hn Kb;unfold jF;have hb:(jI p&&jI []&&jI []&&zE9 0)=true:=by rw[hsp];rfl
 rw[hq,ht,hz,if_pos hb,if_neg (show¬(o.k=5/\([]:List Int).length≠0) by omega)];unfold jH;exact if_pos rfl
structure kTr (x:NT)(a:OpP)(g g':NT)(p:List Int):Prop where
 told:∀q,jF a.k a.q a.t a.z p=(q,true)->∃y y' m,kB g (if a.k=3/\p=a.q then(jV p).1 else p)=some y/\kB g' q=some y'/\kO3 y'=kO3 y/\kB x q=some m
 gone:∀q,jF a.k a.q a.t a.z p=(q,false)->a.k=2/\(p=a.q∨zBu a.q p=true)
theorem kSy {w0 w:World}{v:Value}{g r:NT}{F:Nat->Prop}{o:OC}{a:OpP}(hG:Gh w v g F)(hF:∀q,F q->w0.heap.size<=q/\q<w.heap.size)(ho:OkA w0 o a)(hw:Below w0.heap.size w0 w)(ta:zAf a)(hf:zCx a=0)(hd:1<=a.k/\a.k<=8/\doO n a=(r,0)∨a.k=9/\r=n)(hs:kP5 g n=true)(hn:sizeT n<=1000)(hc:zAh n=0)(hm:a.k=1->sizeT a.n<=1000):∃g',(∀p yn,kB n p=some yn->kTr r a g g' p)/\Calls Tryz.prog 24 #[v,.agg o.row] w (kRn F v g' w):=by
 have hk:=ho.hk;have hmx:∀u x,kB n u=some x->x.ks.length<9223372036854775807:=fun u x hx=>by have:=(kNr hn hx).1;omega
 rcases hd with⟨h1,h8,hd⟩|⟨h9,rfl⟩
 ·obtain⟨g',hL,hC⟩:=kSx hG hF ho hw ta h1 h8 hd hs hn hc hm;refine⟨g',fun p yn hp=>⟨fun q hq=>?_,fun q hq=>?_⟩,hC⟩
  ·obtain⟨y,hy,_⟩:=kN6 p g n yn hs hp;obtain⟨y',e1,e2,e3⟩:=hL p q y hy hq;obtain⟨m,e4,_⟩:=zTg hmx hc h1 h8 hd hp hq;by_cases e:a.k=3/\p=a.q
   ·obtain⟨b,b1,b2⟩:=e3 e;exact⟨b,y',m,by rw[if_pos e];exact b1,e1,b2,e4⟩
   ·exact⟨y,y',m,by rw[if_neg e];exact hy,e1,e2 e,e4⟩
  ·obtain⟨e1,e2⟩:=kR1 hf h1 h8 hd hn hp hq;refine⟨e1,e2.imp id fun h=>?_⟩;rw[zE0];refine⟨h.1,(zDg a.q p).1 ?_⟩;have:=kCo a.q p a.q.length Km Kb h.2;have:=(zHf a.q p).1;omega
 ·refine⟨g,fun p yn hp=>⟨fun q hq=>?_,fun q hq=>?_⟩,kTa hG hF ho hw ta Kf Kf Kf Kf Kf Kf Kf⟩
  ·rw[kSs hf h9 hn hp]at hq;obtain⟨y,hy,_⟩:=kN6 p g _ yn hs hp;have e:=(zO hq).1;subst e;exact⟨y,y,yn,by rw[if_neg (fun h=>by omega)];exact hy,hy,rfl,hp⟩
  ·rw[kSs hf h9 hn hp]at hq;exact absurd (zO hq).2 Kc
def OC.into (o:OC):SC:=⟨o.gi,o.G1,o.g1,o.e1,o.go,o.G2,o.g2,o.e2,o.gp⟩
theorem zLl {w:World}{o:OC}{a:OpP}(h:OkA w o a):zB1 w o.into a.g:=h.hg
section
variable {w w':World}{g:Nat}{a b x y:Value}{t:TypeId}
theorem yb2 (h:w.heap[g]? =some (.cells #[a,b] t (0,0))):w.cell? ⟨g,0,none⟩=some a/\w.cell? ⟨g,1,none⟩=some b/\w.frozen? ⟨g,0,none⟩=false/\w.frozen? ⟨g,1,none⟩=false:=by
 refine⟨?_,?_,?_,?_⟩<;>simp[World.cell?,World.frozen?,h]
theorem yset (w:World)(g:Nat)(t:TypeId)(cs:Array Value)(k:Nat)(x:Value)(h:w.heap[g]? =some (.cells cs t (0,0))):(w.setCell ⟨g,k,none⟩ x).heap[g]? =some (.cells (cs.setIfInBounds k x) t (0,0)):=by
 have hlt:=xlt h;have h':w.heap[g]=.cells cs t (0,0):=by simpa[Array.getElem?_eq_getElem hlt]using h
 show(w.heap.modify g _)[g]? =_
 rw[Array.getElem?_eq_getElem (by simpa using hlt),Array.getElem_modify_self,h'];rfl
theorem kMq (h:w.heap[g]? =some (.cells #[a,b] t (0,0)))(x:Value):(w.setCell ⟨g,0,none⟩ x).heap[g]? =some (.cells #[x,b] t (0,0)):=yset w g t _ 0 x h
theorem zCr (h:w.heap[g]? =some (.cells #[a,b] t (0,0)))(x y:Value):((w.setCell ⟨g,0,none⟩ x).setCell ⟨g,1,none⟩ y).heap[g]? =some (.cells #[x,y] t (0,0)):=yset _ g t _ 1 y (yset w g t _ 0 x h)
theorem kFq {cs:Array Value}{g' k:Nat}(h:w.heap[g]? =some (.cells cs t (0,0)))(hne:g≠g')(x:Value):(w.setCell ⟨g',k,none⟩ x).heap[g]? =some (.cells cs t (0,0)):=(Below.heap_setCell _ _ _ _ hne).trans h
end
theorem kK3 (w:World)(o o' o2:Obj):(((w.alloc o).alloc o').alloc o2).heap[w.heap.size]? =some o/\(((w.alloc o).alloc o').alloc o2).heap[w.heap.size+1]? =some o'/\(((w.alloc o).alloc o').alloc o2).heap[w.heap.size+1+1]? =some o2:=by
 refine⟨?_,?_,?_⟩
 ·rw[Below.heap_alloc _ _ _ Kf,Below.heap_alloc _ _ _ Kc];exact heap_alloc_new _ _
 ·rw[Below.heap_alloc _ _ _ Kc,show w.heap.size+1=(w.alloc o).heap.size by simp];exact heap_alloc_new _ _
 ·rw[show w.heap.size+1+1=((w.alloc o).alloc o').heap.size by simp];exact heap_alloc_new _ _
theorem kMr (w:World)(o o':Obj):((w.alloc o).alloc o').heap[w.heap.size]? =some o/\((w.alloc o).alloc o').heap[w.heap.size+1]? =some o':=by
 refine⟨?_,?_⟩
 ·rw[Below.heap_alloc _ _ _ Kc];exact heap_alloc_new _ _
 ·rw[show w.heap.size+1=(w.alloc o).heap.size by simp];exact heap_alloc_new _ _
theorem zPp (w:World)(o o':Obj):Below w.heap.size w ((w.alloc o).alloc o'):=(Kl.alloc Km _).alloc Kc _
theorem kH7 (w:World)(o o' o2:Obj):Below w.heap.size w (((w.alloc o).alloc o').alloc o2):=(zPp w o o').alloc Kf _
theorem zBt.yset {w:World}{B g k:Nat}{u x:Value}{cs:Array Value}{t:TypeId}{fr:Nat×Nat}(h:zBt w B u l)(hg:w.heap[g]? =some (.cells cs t fr))(ht:t≠3):zBt (w.setCell ⟨g,k,none⟩ x) B u l:=by
 refine zBt.of_own (ownsRow_setCell_other h.own (a:=⟨g,k,none⟩) (fun e=>?_) _) rfl;rcases h.own.2 with⟨e1,_⟩|⟨g',cap,cur,e1,_,hg',_⟩
 ·rw[e1]at e;cases e
 ·rw[e1]at e;injection e with e;have e:g'=g:=e;subst e;rw[hg]at hg';injection hg' with hg';injection hg' with _ h2;exact ht h2
theorem zBt.ypt {w:World}{B g:Nat}{u a b x y:Value}(h:zBt w B u l)(hg:w.heap[g]? =some (.cells #[a,b] 29 (0,0))):zBt ((w.setCell ⟨g,0,none⟩ x).setCell ⟨g,1,none⟩ y) B u l:=
 (h.yset hg Kd).yset (kMq hg x) Kd
def zC3 (w:World)(r:(List Int×Int)×Bool)(e:Ending)(w':World):Prop:=∃v,e=.returned (.tuple #[.agg #[v,.int .i64 r.1.2],.bool r.2])/\zBt w' w.heap.size v r.1.1/\Below w.heap.size w w'
theorem zBi {w w':World}{r:(List Int×Int)×Bool}{z:Int}{b:Bool}{v:Value}(h:r=((l,z),b))(ho:zBt w' w.heap.size v l)(hb:Below w.heap.size w w'):zC3 w r (.returned (.tuple #[.agg #[v,.int .i64 z],.bool b])) w':=by
 subst h;exact⟨v,rfl,ho,hb⟩
def PA (w:World)(v:Value)(p:List Int×Int):Prop:=∃u,v=.agg #[u,.int .i64 p.2]/\XA w u p.1
