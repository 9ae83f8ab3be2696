import Derived.Test.YtmkciabefepelaaGreatJOFacts
set_option maxRecDepth 100000
set_option maxHeartbeats 8000000
namespace Go.Proofs.YtmkciabefepelaaGreat
open Go.RowKit
variable {q x:List Int}{p:List Int×Int}{K m z:Int}{n n' y:NT}{a:Act}{s sl:Sl}{rest:List Oper}{op:Oper}{E:Bool}
theorem zDz {k:Int}{p:List Int}(h:6<=k):jH k q z p=(p,true):=by
 unfold jH;split
 ·rfl
 ·rw[if_neg Kb,if_neg Kb,if_neg Kb,if_neg Kb]
def zTf (y y':NT):Prop:=y'.lf=y.lf/\y.tx.length<=y'.tx.length
theorem kE.up {y':NT}(h:kE y y'):zTf y y':=⟨h.1,by rw[h.2];exact Nat.le_refl _⟩
theorem zTg {a:NT}{o:OpP}{p p':List Int}(hm:∀u x,kB n u=some x->x.ks.length<9223372036854775807)(hn:zAh n=0)(h1:1<=o.k)(h8:o.k<=8)(h:doO n o=(a,0))(hy:kB n p=some y)(hmv:jF o.k o.q o.t o.z p=(p',true)):
  ∃y',kB a p'=some y'/\(p≠o.q->zTf y y'/\(¬(o.k=3/\p=(jV o.q).1)->kE y y')):=by
 have fin:∀{y':NT},kE y y'->(p≠o.q->zTf y y'/\(¬(o.k=3/\p=(jV o.q).1)->kE y y')):=fun h _=>⟨h.up,fun _=>h⟩;rcases zC7 h1 h8 h with⟨e,h⟩|⟨e,h⟩|⟨e,h⟩|⟨e,h⟩|⟨e,h⟩|⟨e,h⟩|⟨e,h⟩|⟨e,h⟩
 ·obtain⟨u,i,x,hf⟩:=zD7 (zCd h).2;have hb:=jD hmv Kb;rw[e,zJc (.inl rfl),hf.path]at hb;obtain⟨y',g1,g2⟩:=zJl (m:=o.n) hf.at_ hf.le hy;rw[hb,<-hf.eq]at g1;exact⟨y',g1,fin g2⟩
 ·obtain⟨h2,h3⟩:=zCl h;obtain⟨u,i,x,k,hf⟩:=zBn (n:=n) (p:=o.q) (by rw[h2]);have hb:=jD hmv Kb;rw[e,zJc (.inr rfl),hf.path]at hb;obtain⟨y',g1,g2⟩:=zJm hf.at_ (List.getElem?_eq_some_iff.1 hf.kid).1 hy hb;have he:=hf.eq;rw[h2]at he;dsimp only at he;rw[<-he]at g1;exact⟨y',g1,fin g2⟩
 ·obtain⟨u,i,x,b,k,hf⟩:=zC5 h;have hb:=jD hmv Kb;have hx:=zA6 n u x hn hf.at_;rw[e,hf.path]at hb;have hbk:=zFy u i;rw[<-hf.path]at hbk;obtain⟨y',g1,g2⟩:=zO6 (m:=zAo b k) hf.at_ hf.b_ hf.k_ rfl (fun hne=>by
   have hkl:k.lf=false:=by
    cases hl:k.lf
    ·rfl
    ·exact absurd ((kX (zAk hx hf.k_)).1 hl) hne
   have htx:=(kX (zAk hx hf.b_)).2 (hf.leaf.trans hkl);rw[<-hf.pos];unfold zG9;rw[htx];simp) hy hb
  rw[<-hf.eq]at g1;refine⟨y',g1,fun hne=>?_⟩;rw[hf.path]at hne;by_cases hpb:p=u++[(i:Int)]
  ·rw[if_pos (.inl hpb)]at g2;have tM:y=b:=by
    rw[hpb,zAc hf.at_,zA9,hf.b_]at hy;injection hy with hy;exact hy.symm
   subst g2;subst tM;exact⟨⟨rfl,by show y.tx.length<=(y.tx++k.tx).length;simp⟩,fun hc=>absurd ⟨e,by rw[hbk];exact hpb⟩ hc⟩
  ·rw[if_neg (by rintro(h|h);exact hpb h;exact hne h)]at g2;exact⟨g2.up,fun _=>g2⟩
 ·obtain⟨u,i,x,k,hf⟩:=zCc hm h;have hb:=jD hmv Kb;have hx:=zA6 n u x hn hf.at_;have rK:=zAk hx hf.kid;rw[e,hf.path,show o.z=((o.z.toNat:Nat):Int) by have:=hf.lo;omega]at hb;obtain⟨y',g1,g2⟩:=zO7 (h:=jN k o.z.toNat) (t:=zA2 k o.z.toNat o.w) hf.at_ hf.kid (by
   unfold jN;by_cases hl:k.lf=true
   ·rw[if_pos hl];show k.ks=_;rw[(kX rK).1 hl];simp
   ·rw[if_neg hl];rfl) (by
   unfold zA2;by_cases hl:k.lf=true
   ·rw[if_pos hl];show[]=_;rw[(kX rK).1 hl];simp
   ·rw[if_neg hl];rfl) hy hb
  rw[<-hf.eq]at g1;refine⟨y',g1,fun hne=>?_⟩;rw[hf.path]at hne;rw[if_neg hne]at g2;exact⟨g2.up,fun _=>g2⟩
 ·obtain⟨h2,h3⟩:=zBz h;obtain⟨u,i,x,k,hf⟩:=zBn h2;obtain⟨u2,i2,x2,hf2⟩:=zD7 h3;have hlen:=(List.getElem?_eq_some_iff.1 hf.kid).1;have hg:(jI p&&jI o.q&&jI o.t&&zE9 o.z)=true:=by
   by_cases hg:(jI p&&jI o.q&&jI o.t&&zE9 o.z)=true
   ·exact hg
   ·unfold jF at hmv;rw[if_neg hg]at hmv;exact absurd (zO hmv).2 Kd
  have bA:o.q.length≠0:=by rw[hf.path];simp
  have iB:(if zX o.q p=2∨zX o.q p=3 then(o.t++p.drop o.q.length,true)else jH 1 o.t 0 (jH 2 o.q 0 p).1)=(p',true):=by
   have e2:=hmv;unfold jF at e2;rw[if_pos hg,if_pos ⟨e,bA⟩]at e2;exact e2
  have ql:=hf2.eq;by_cases hs:zX o.q p=2∨zX o.q p=3
  ·rw [if_pos hs]at iB;have qg:∃r,p=o.q++r:=by
    rcases hs with hs|hs
    ·exact⟨[],by rw[zCw.1 hs];simp⟩
    ·obtain⟨s1,s2⟩:=zL6.1 hs;refine⟨p.drop o.q.length,?_⟩;have e3:p.take o.q.length=o.q:=by
      refine zL1 Kf (fun j hj=>?_);simp at hj;rw[jY _ _ Kf,List.getElem_take,<-jY _ _ Kb];exact(s2 j Kb).symm
     conv=>lhs;rw[<-List.take_append_drop o.q.length p,e3]
   obtain⟨r,rfl⟩:=qg;rw[List.drop_left]at iB;have hyk:kB k r=some y:=by
    rw[jJ,hf.whole]at hy;exact hy
   rw[<-(zO iB).1,hf2.path];refine⟨y,?_,fin (kE.refl y)⟩;rw[List.append_assoc];show kB a (u2++(i2:Int)::r)=_
   rw[hf2.eq];have hin:=zAz (ks:=x2.ks) (o:=[zE3 n o.q]) (i:=i2) (m:=0) (j:=0) Kc hf2.le;rw[hf.got]at hin⊢;exact(zAw (x':=jS x2 i2 0 [k]) hf2.at_ i2 r (by show(spl x2.ks i2 0 [k])[i2]? =some k;simpa using hin)).trans hyk
  ·rw[if_neg hs]at iB;have rL:jH 2 o.q 0 p=((jH 2 o.q 0 p).1,true):=by
    have hst:=zF4 o.q p;rw[hf.path]at hs hst⊢;rw[zQs (k:=u.length) Kc];rcases hst with h0|h0|h0|h0
    ·rw[if_pos h0]
    ·rw[if_neg Kb,if_pos h0]
    ·exact absurd (.inl h0) hs
    ·exact absurd (.inr h0) hs
   rw[hf.path]at rL iB;obtain⟨y1,g1,g2⟩:=zJm hf.at_ hlen hy rL;have hce:=hf.eq;have h3':=hf2.at_;rw[hce]at h3';obtain⟨y2,g3,g4⟩:=zJl (m:=zE3 n o.q) h3' hf2.le g1;rw[hf2.path]at iB;rw[iB]at g3;have ha2:=hf2.eq;rw[hce]at ha2;rw[<-ha2]at g3;exact⟨y2,g3,fin ⟨g4.1.trans g2.1,g4.2.trans g2.2⟩⟩
 ·obtain⟨k,hq,hg,hc,rfl⟩:=zC6 h;have hb:=jD hmv Kb;rw[zDz Kb]at hb;rw[<-(zO hb).1];obtain⟨y',g1,g2⟩:=zGx (k':=zEs k (zA7 k.ps o.o o.w)) hg rfl rfl hy;refine⟨y',g1,fun hne=>?_⟩;rw[if_neg hne]at g2;exact⟨g2.up,fun _=>g2⟩
 ·obtain⟨k,hg,hl,h0,rfl⟩:=jZ h;have hb:=jD hmv Kb;rw[zDz Kb]at hb;rw[<-(zO hb).1];obtain⟨y',g1,g2⟩:=zGx (k':=zCz k (zFx k.tx o.z o.x).1) hg rfl rfl hy;refine⟨y',g1,fun hne=>?_⟩;rw[if_neg hne]at g2;exact⟨g2.up,fun _=>g2⟩
 ·obtain⟨k,hg,hl,h0,rfl⟩:=jZ h;have hb:=jD hmv Kb;rw[zDz Kb]at hb;rw[<-(zO hb).1];obtain⟨y',g1,g2⟩:=zGx (k':=zCz k (zFe k.tx o.z o.x).1) hg rfl rfl hy;refine⟨y',g1,fun hne=>?_⟩;rw[if_neg hne]at g2;exact⟨g2.up,fun _=>g2⟩
theorem zCm :zK6 n p=0 ↔∃m,kB n p.1=some m/\m.lf=true/\0<=p.2/\p.2<=m.tx.length:=by
 unfold zK6;cases hg:kB n p.1 with
 |none=>simp
 |some m=>
  simp only[Option.some.injEq,exists_eq_left'];cases hl:m.lf
  ·simp
  ·by_cases h2:p.2<0∨(m.tx.length:Int)<p.2
   ·simp[h2];omega
   ·simp[h2];omega
theorem zMn {v:Int}(hq:q.length≠0)(hv:v≠0):addL q (q.length-1) v≠q:=fun e=>by
 have h:=zSv q (q.length-1) v Kb;rw[e]at h;omega
theorem zO8 {off:Int}(h:zXx K q z m 1 x off=((q,off),true)):(K=7/\x=q/\(if zEl off z 1=true then off+m else off)=off)∨(K=8/\x=q/\(if z<off then max (off-m) z else off)=off)∨(K=3/\q.length≠0/\x=q)∨(K=4/\q.length≠0/\x=q/\off<z)∨(K=4/\q.length≠0/\addL q (q.length-1) 1=q)∨(K≠7/\K≠8/\¬(K=4/\q.length≠0)/\x=q):=by
 unfold zXx at h;by_cases h7:K=7
 ·rw[if_pos h7]at h;injection h with h _;injection h with h1 h2;exact .inl ⟨h7,h1,h2⟩
 rw[if_neg h7]at h;by_cases h8:K=8
 ·rw[if_pos h8]at h;injection h with h _;injection h with h1 h2;exact .inr (.inl ⟨h8,h1,h2⟩)
 rw[if_neg h8]at h;by_cases h3:K=3/\q.length≠0
 ·rw[if_pos h3]at h;injection h with h _;injection h with h1 h2;exact .inr (.inr (.inl ⟨h3.1,h3.2,h1⟩))
 rw[if_neg h3]at h;by_cases h4:K=4/\q.length≠0
 ·rw[if_pos h4,if_neg Kb]at h;by_cases hp:zEl off z 1=true
  ·rw[if_pos hp]at h;injection h with h _;injection h with h1 h2;exact .inr (.inr (.inr (.inr (.inl ⟨h4.1,h4.2,h1⟩))))
  ·rw[if_neg hp]at h;injection h with h _;injection h with h1 h2;refine .inr (.inr (.inr (.inl ⟨h4.1,h4.2,h1,?_⟩)));simp[zEl]at hp;omega
 rw[if_neg h4]at h;injection h with h _;injection h with h1 h2;exact .inr (.inr (.inr (.inr (.inr ⟨h7,h8,h4,h1⟩))))
theorem zCn (hq:q.length≠0)(h:jH K q z q=(x,true)):(K=1->x≠q)/\K≠2/\(K=3->x≠q):=by
 have hs:zX q q=2:=zCw.2 rfl;unfold jH at h;rw[if_neg hq,hs]at h;refine⟨fun e=>?_,fun e=>?_,fun e=>?_⟩
 ·rw[if_pos e,if_neg Kd,zOv]at h;rw[<-(zO h).1];exact zMn hq Kd
 ·rw[if_neg Kb,if_pos e,if_neg Kd,if_neg Kd]at h;exact absurd (zO h).2 Kd
 ·rw[if_neg Kb,if_neg Kb,if_pos e]at h;by_cases hl:lastL q=0
  ·rw[if_pos hl]at h;exact absurd (zO h).2 Kd
  ·rw[if_neg hl,if_neg Kd,if_neg Kd,zOv]at h;rw[<-(zO h).1];exact zMn hq Kd
theorem zJp {a:NT}{o:OpP}(hm:∀u x,kB n u=some x->x.ks.length<9223372036854775807)(hn:zAh n=0)(h1:1<=o.k)(h8:o.k<=8)(h:doO n o=(a,0))(hp:zK6 n p=0)(hs:zBl p o=true):zK6 a p=0:=by
 obtain⟨m,hg,hl,l1,l2⟩:=zCm.1 hp;unfold zBl at hs;rw[Bool.and_eq_true]at hs;have hmv:=of_decide_eq_true hs.1;obtain⟨x,_,_,_,hx,hown⟩:=zKc hmv;by_cases hq:o.q=p.1
 case neg=>
  rw[if_neg hq]at hown;injection hown with hown _;have Bh:x=p.1:=by rw[<-hown]
  rw[Bh]at hx;obtain⟨y',g1,g2⟩:=zTg hm hn h1 h8 h hg hx;obtain⟨g3,g4⟩:=(g2 (fun e=>hq e.symm)).1;exact zCm.2 ⟨y',g1,g3.trans hl,l1,by omega⟩
 rw[if_pos hq]at hown;obtain⟨p1,off⟩:=p;simp only at hq hg l1 l2 hown hx;subst hq;have rM:o.k≠7->o.k≠8->o.k≠6->o.q.length≠0:=fun e7 e8 e6 hq0=>by
  have hq1:=List.eq_nil_of_length_eq_zero hq0;rcases zC7 h1 h8 h with⟨e,h⟩|⟨e,h⟩|⟨e,h⟩|⟨e,h⟩|⟨e,h⟩|⟨e,h⟩|⟨e,h⟩|⟨e,h⟩
  ·obtain⟨u,i,x,hf⟩:=zD7 (zCd h).2;have:=hf.path;rw[hq1]at this;simp at this
  ·obtain⟨u,i,x,k,hf⟩:=zBn (n:=n) (p:=o.q) (by rw[(zCl h).1]);have:=hf.path;rw[hq1]at this;simp at this
  ·obtain⟨u,i,x,b,k,hf⟩:=zC5 h;have:=hf.path;rw[hq1]at this;simp at this
  ·obtain⟨u,i,x,k,hf⟩:=zCc hm h;have:=hf.path;rw[hq1]at this;simp at this
  ·obtain⟨u,i,x,k,hf⟩:=zBn (zBz h).1;have:=hf.path;rw[hq1]at this;simp at this
  ·exact e6 e
  ·exact e7 e
  ·exact e8 e
 rcases zO8 hown with⟨e,lT,hof⟩|⟨e,lT,hof⟩|⟨e,hq0,lT⟩|⟨e,hq0,lT,hlt⟩|⟨e,hq0,lT⟩|⟨e7,e8,e4,lT⟩
 ·--a text put in
  rw[kLp e]at h;obtain⟨k,iC,hkl,h0,rfl⟩:=jZ h;have gY:k=m:=by rw[iC]at hg;injection hg
  subst gY;have h4:=zKi (r:=k.tx) (s:=o.x) (p:=o.z) (l:=(zFx k.tx o.z o.x).1) (Prod.ext rfl h0);exact zCm.2 ⟨_,jX n o.q _ k iC,hkl,l1,by show off<=((zFx k.tx o.z o.x).1.length:Int);omega⟩
 ·-- a text taken out
  rw[kLq e]at h;obtain⟨k,iC,hkl,h0,rfl⟩:=jZ h;have gY:k=m:=by rw[iC]at hg;injection hg
  subst gY;have h4:=zKj (r:=k.tx) (s:=o.x) (p:=o.z) (l:=(zFe k.tx o.z o.x).1) (Prod.ext rfl h0);have h5:0<o.x.length->o.z+o.x.length<=k.tx.length/\0<=o.z:=fun hpos=>by
   have h6:=h0;unfold zFe at h6;split at h6
   ·split at h6
    ·rename_i hr
     split at h6
     ·rename_i ht
      have:=congrArg List.length ht;rw[List.length_take,List.length_drop]at this;omega
     ·cases h6
    ·cases h6
   ·cases h6
  refine zCm.2 ⟨_,jX n o.q _ k iC,hkl,l1,?_⟩;show off<=((zFe k.tx o.z o.x).1.length:Int)
  by_cases hx0:0<o.x.length
  ·obtain⟨h7,CX⟩:=h5 hx0;by_cases hz:o.z<off
   ·rw[if_pos hz]at hof;omega
   ·omega
  ·omega
 ·exact absurd (lT) ((zCn hq0 (jD hx Kb)).2.2 e)
 ·--the half ahead
  rw[kLm e]at h;obtain⟨u,i,xx,k,hf⟩:=zCc hm h;have iC:kB n o.q=some k:=by rw[hf.path,zAc hf.at_,zA9,hf.kid];rfl
  have gY:k=m:=by rw[iC]at hg;injection hg
  subst gY;have uL:=zA6 n u xx hn hf.at_;have rK:=zAk uL hf.kid;have hlen:=(List.getElem?_eq_some_iff.1 hf.kid).1;obtain⟨q1,q2,q3⟩:=zLj rK hf.lo hf.hi o.w;have gG:(spl xx.ks i 1 [jN k o.z.toNat,zA2 k o.z.toNat o.w])[i]? =some (jN k o.z.toNat):=by
   have:=zAz (ks:=xx.ks) (o:=[jN k o.z.toNat,zA2 k o.z.toNat o.w]) (i:=i) (m:=1) (j:=0) Kc Kb;simpa using this
  refine zCm.2 ⟨jN k o.z.toNat,?_,?_,l1,?_⟩
  ·show kB a o.q=_
   rw[hf.eq,hf.path];exact zAw (x':=jS xx i 1 [jN k o.z.toNat,zA2 k o.z.toNat o.w]) hf.at_ i [] gG
  ·unfold jN;rw[if_pos hl];exact hl
  ·have h9:((jN k o.z.toNat).tx.length:Int)=o.z:=by
    have hks:(jN k o.z.toNat).ks=[]:=by unfold jN;rw[if_pos hl];exact(kX rK).1 hl
    unfold zG9 at q1;rw[hks]at q1;simpa using q1
   show off<=_
   omega
 ·exact absurd lT (zMn hq0 Kd)
 ·-- SetNode,and a node moved to where it stood
  rcases(show o.k=1∨o.k=2∨o.k=3∨o.k=4∨o.k=5∨o.k=6 by omega)with e|e|e|e|e|e
  ·exact absurd lT ((zCn (rM e7 e8 Kb) (jD hx Kb)).1 e)
  ·exact absurd e (zCn (rM e7 e8 Kb) (jD hx Kb)).2.1
  ·exact absurd lT ((zCn (rM e7 e8 Kb) (jD hx Kb)).2.2 e)
  ·exact absurd ⟨e,rM e7 e8 Kb⟩ e4
  ·rw[kLn e]at h;obtain⟨h2,h3⟩:=zBz h;obtain⟨xx,k,hpl,hgx,hk,hcm,_,_,hadd⟩:=zM8 h2;have uL:=zA6 n _ xx hn hgx;have ha:=hadd (zEm uL (zA1 hk).2.2);have Bi:o.t=o.q:=by
    unfold jF at hx;split at hx
    ·rw[if_pos ⟨e,rM e7 e8 Kb⟩,if_pos (.inl (zCw.2 rfl))]at hx;have:=(zO hx).1;simp at this;exact this.trans lT
    ·exact absurd (zO hx).2 Kd
   rw[Bi,hcm,ha]at h3;rw[<-(zO h3).1];exact hp
  ·rw[kLo e]at h;obtain⟨k,hq0,iC,hc,rfl⟩:=zC6 h;have gY:k=m:=by rw[iC]at hg;injection hg
   subst gY;exact zCm.2 ⟨_,jX n o.q _ k iC,hl,l1,l2⟩
theorem zC1 (h:zAd n=0):zAh n=0:=by
 unfold zAd at h;split at h
 ·cases h
 ·exact h
theorem zO5 (h:zAh n=0)(hs:sizeT n<=1048576):zAd n=0:=by
 unfold zAd;rw[zGy _ Kb Kb,if_neg Kb];exact h
theorem zEf {α:Type}{a b:α}{e:Int}(h:(a,e)=(b,0)):e=0:=by injection h
theorem zH8 {o:OpP}{r:NT×Sl}(h:jL n s o=(r,0)):zAd n=0/\n.lf=false/\zE8 n s=0/\zCx o=0/\
  ((o.k=9/\s=o.f/\zE8 n o.g=0/\r=(n,o.g))∨(1<=o.k/\o.k<=8/\doO n o=(r.1,0)/\(s.is=true->zBl s.a o=true/\zBl s.f o=true)/\r.2=s)):=by
 unfold jL at h;by_cases h1:zAd n=0
 case neg=>rw[if_pos h1]at h;exact absurd (zEf h) h1
 rw[if_neg (by simp[h1])]at h;by_cases h2:n.lf=true
 ·rw[if_pos h2]at h;exact absurd (zEf h) Kd
 rw[if_neg h2]at h;by_cases h3:zE8 n s=0
 case neg=>rw[if_pos h3]at h;exact absurd (zEf h) h3
 rw[if_neg (by simp[h3])]at h;by_cases h4:zCx o=0
 case neg=>rw[if_pos h4]at h;exact absurd (zEf h) h4
 rw[if_neg (by simp[h4])]at h;refine⟨h1,by simpa using h2,h3,h4,?_⟩;have hk:=(zOy h4).1;simp only[kindB,Bool.and_eq_true,decide_eq_true_iff]at hk;by_cases h9:o.k=9
 ·rw[if_pos h9]at h;left
  by_cases h5:zF7 s o.f=false
  ·rw[if_pos h5]at h;exact absurd (zEf h) Kd
  rw[if_neg h5]at h;by_cases h6:zE8 n o.g=0
  case neg=>rw[if_pos h6]at h;exact absurd (zEf h) h6
  rw[if_neg (by simp[h6])]at h;exact⟨h9,(zC4 _ _).1 (by simpa using h5),h6,(zO h).1.symm⟩
 ·rw[if_neg h9]at h;right
  by_cases h5:(doO n o).2=0
  case neg=>rw[if_pos h5]at h;exact absurd (zEf h) h5
  rw[if_neg (by simp[h5])]at h;by_cases h6:(s.is&& !(zBl s.a o&&zBl s.f o))=true
  ·rw[if_pos h6]at h;exact absurd (zEf h) Kd
  rw[if_neg h6]at h;have hr:=(zO h).1;refine⟨hk.1,by omega,by rw[<-hr];exact Prod.ext rfl h5,fun his=>?_,by rw[<-hr]⟩;rw[his]at h6;simpa using h6
theorem zJk {o:OpP}(h:(jL n s o).2≠0):(jL n s o).1=(zeroT,zeroS):=by
 unfold jL at h⊢;by_cases h1:zAd n=0
 case neg=>rw[if_pos h1]
 rw[if_neg (by simp[h1])]at h⊢;by_cases h2:n.lf=true
 ·rw[if_pos h2]
 rw[if_neg h2]at h⊢;by_cases h3:zE8 n s=0
 case neg=>rw[if_pos h3]
 rw[if_neg (by simp[h3])]at h⊢;by_cases h4:zCx o=0
 case neg=>rw[if_pos h4]
 rw[if_neg (by simp[h4])]at h⊢;by_cases h9:o.k=9
 ·rw[if_pos h9]at h⊢;by_cases h5:zF7 s o.f=false
  ·rw[if_pos h5]
  rw[if_neg h5]at h⊢;by_cases h6:zE8 n o.g=0
  case neg=>rw[if_pos h6]
  rw[if_neg (by simp[h6])]at h;exact absurd rfl h
 ·rw[if_neg h9]at h⊢;by_cases h5:(doO n o).2=0
  case neg=>rw[if_pos h5]
  rw[if_neg (by simp[h5])]at h⊢;by_cases h6:(s.is&& !(zBl s.a o&&zBl s.f o))=true
  ·rw[if_pos h6]
  rw[if_neg h6]at h;exact absurd rfl h
theorem zQ8 {a:NT}{o:OpP}(h1:zAd n=0)(h2:n.lf=false)(h3:zE8 n s=0)(h4:zCx o=0)(h9:o.k<=8)(h5:doO n o=(a,0))(h6:s.is=true->zBl s.a o=true/\zBl s.f o=true):jL n s o=((a,s),0):=by
 unfold jL;rw[if_neg (by simp[h1]),if_neg (by simp[h2]),if_neg (by simp[h3]),if_neg (by simp[h4]),if_neg Kb,h5,if_neg Kc];have h7:(s.is&& !(zBl s.a o&&zBl s.f o))=false:=by
  cases h:s.is
  ·rfl
  ·obtain⟨e1,e2⟩:=h6 h;rw[e1,e2];rfl
 rw[h7,if_neg Kc]
structure zTc (n:NT)(o:OpP):Prop where
 len:∀u x,kB n u=some x->x.ks.length<9223372036854775807
 size:sizeT n<=300
 node:o.k=1->sizeT o.n<=300
 text:o.x.length<=300
theorem zN9 (h:sizeT n<=100000):∀u x,kB n u=some x->x.ks.length<9223372036854775807:=fun u x hx=>by
 have h1:=zGh u n x hx;have h2:∀(l:List NT),l.length<=sizeK l:=fun l=>by
  induction l with
  |nil=>simp
  |cons k r ih=>have:=zJs k;simp only[List.length_cons,sizeK];omega
 have h3:=h2 x.ks;rw[jC x]at h1;omega
theorem zGc (h:s.is=true):zE8 n s=0 ↔ zK6 n s.a=0/\zK6 n s.f=0:=by
 unfold zE8;rw[if_neg (by simp[h])];by_cases h1:zK6 n s.a=0
 ·rw[if_pos h1];simp[h1]
 ·rw[if_neg h1];simp[h1]
theorem zO9 {m:NT}(h:s.is=false):zE8 n s=zE8 m s:=by unfold zE8;rw[if_pos h,if_pos h]
theorem zD0 {a:NT}{t:Sl}{o:OpP}(hm:zTc n o)(h:jL n s o=((a,t),0)):zAd a=0/\a.lf=false/\zE8 a t=0/\t=(if o.k=9 then o.g else s)/\sizeT a<=900:=by
 obtain⟨h1,h2,h3,h4,h5⟩:=zH8 h;rcases h5 with⟨e,h5,h6,h7⟩|⟨k1,k8,h5,h6,h7⟩
 ·injection h7 with h7 h8;subst h7;subst h8;exact⟨h1,h2,h6,by rw[if_pos e],by have:=hm.size;omega⟩
 ·dsimp only at h5 h7;have hc:=zC1 h1;obtain⟨g1,g2⟩:=zZp hm.len hc h2 k1 k8 (fun e=>by rw[kKb e]at h5;exact zC1 (zCd h5).1) h5;have hsz:=zMm hm.len k1 k8 h5;have hs1:=hm.size;have hs2:=hm.node;have hs3:=hm.text;have gu:sizeT a<=900:=by
   unfold byO at hsz;split at hsz
   ·rename_i e;have:=hs2 e;omega
   ·split at hsz
    ·omega
    ·split at hsz
     ·omega
     ·split at hsz
      ·omega
      ·split at hsz
       ·omega
       ·split at hsz<;>omega
  refine⟨zO5 g1 Kb,g2,?_,by rw[if_neg Kb];exact h7,gu⟩;subst h7;cases his:t.is
  ·rw[zO9 (m:=n) his];exact h3
  ·obtain⟨s1,s2⟩:=h6 his;obtain⟨p1,p2⟩:=(zGc his).1 h3;exact(zGc his).2 ⟨zJp hm.len hc k1 k8 h5 p1 s1,zJp hm.len hc k1 k8 h5 p2 s2⟩
def kC5 (t:TypeId)(n:Nat):Prop:=∃d,Tryz.prog.underlying t=some d/\d.isRow=true/\(Tryz.prog.info? t).map (·.size)=some n
def jT (t:TypeId)(w:World)(g:Nat)(r:Array Value):Prop:=w.heap[g]? =some (.cells r t (0,0))
section
variable {t:TypeId}{w w':World}{g:Nat}{r r':Array Value}
theorem jT.lt (h:jT t w g r):g<w.heap.size:=(Array.getElem?_eq_some_iff.1 h).1
theorem jT.keep (h:jT t w g r)(hb:Below w.heap.size w w'):jT t w' g r:=(hb.block _ h.lt).trans h
theorem jT.off {k:Nat}(h:jT t w g r)(ho:Off k w w')(hne:g≠k):jT t w' g r:=(ho.block _ h.lt hne).trans h
theorem jT.new (w:World)(t:TypeId)(r:Array Value):jT t (w.alloc (.cells r t)) w.heap.size r:=heap_alloc_new w _
theorem jT.alloc (h:jT t w g r)(o:Obj):jT t (w.alloc o) g r:=h.keep (Kk.alloc Kl _)
theorem jT.cell (h:jT t w g r)(j:Nat)(v:Value)(hv:r[j]? =some v):w.cell? ⟨g,j,none⟩=some v:=by
 unfold jT at h;simp[World.cell?,h,hv]
end
theorem zB {t:TypeId}{n:Nat}(hrow:kC5 t n){ops:Array Oper}{w:World}{Q:Exit->Act->World->Prop}{g:Nat}{r:Array Value}(h:jT t w g r)(hn:r.size=n)
  (x:Operand) (ho:op.op=.load t x) (hgd:op.guard=none) (hx:a.eval x=.pointer (some ⟨g,0,none⟩)) (hk:wpList Tryz.prog ops Q rest (a.put op.dst (.agg r)) w):wpList Tryz.prog ops Q (op::rest) a w:=by
 obtain⟨d,h1,h2,h3⟩:=hrow;exact wpList_load_mid hgd t x ho g 0 hx r.toList d (fun i v hi=>by rw[Nat.zero_add];exact h.cell i v (by simpa using hi)) h1 h2 (by rw[h3,<-hn];simp) hk
theorem zK {t:TypeId}{n:Nat}(hrow:kC5 t n){ops:Array Oper}{w:World}{Q:Exit->Act->World->Prop}{g:Nat}{r:Array Value}(h:jT t w g r)(hn:r.size=n)
  (x:Operand) (ho:op.op=.load t x) (hw:Region.wanted op (yielded ops a.tmps)=true) (hx:a.eval x=.pointer (some ⟨g,0,none⟩)) (hk:wpList Tryz.prog ops Q rest (a.put op.dst (.agg r)) w):wpList Tryz.prog ops Q (op::rest) a w:=by
 obtain⟨d,h1,h2,h3⟩:=hrow;refine wpList_step fun K hK=>?_;rw[if_pos hw];exact wp_load_mid t x ho g 0 hx r.toList d (fun i v hi=>by rw[Nat.zero_add];exact h.cell i v (by simpa using hi)) h1 h2 (by rw[h3,<-hn];simp) (hK _ _ hk)
theorem zA {t:TypeId}{n:Nat}(hrow:kC5 t n){ops:Array Oper}{W:World}{Q:Exit->Act->World->Prop}{g:Nat}{r0 r:Array Value}(h:jT t W g r0)(hn0:r0.size=n)(hn:r.size=n)(hone:r.all (·.oneCell')=true)(x y:Operand)(ho:op.op=.store t x y)(hgd:op.guard=none)(hd:op.dst=none)(hx:a.eval x=.pointer (some ⟨g,0,none⟩))(hy:a.eval y=.agg r)
  (hk:∀W',jT t W' g r->Off g W W'->wpList Tryz.prog ops Q rest a W'):wpList Tryz.prog ops Q (op::rest) a W:=by
 obtain⟨d,h3,h4,h5⟩:=hrow;refine wpList_store_row hgd t x y ho g _ hx hy t r0 h (by rw[h5,<-hn]) (by rw[hn0,hn]) hone ?_;rw[hd];exact hk _ (setRow_heap _ _ r0 r _ (0,0) h) (zKw _ _ _ _ _ h)
theorem zD :kC5 26 4:=zCp
theorem zP :kC5 33 5:=zD4
theorem zMk :kC5 35 21:=zK4
theorem jR.toR {w:World}{g:Nat}{c:OC}(h:jR w g c):jT 35 w g c.row:=h
structure NC where
 lf:Bool
 P:Option Addr
 np:Nat
 pc:Nat
 X:Option Addr
 nt:Nat
 tc:Nat
 K:Option Addr
 nk:Nat
 kc:Nat
def NC.row (c:NC):Array Value:=#[.bool c.lf,.slice c.P c.np c.pc,.slice c.X c.nt c.tc,.slice c.K c.nk c.kc]
theorem NC.size (c:NC):c.row.size=4:=rfl
theorem NC.one (c:NC):c.row.all (·.oneCell')=true:=Ka
structure SC where
 is:Bool
 A:Option Addr
 n:Nat
 c:Nat
 x:Int
 B:Option Addr
 m:Nat
 d:Nat
 y:Int
def SC.row (c:SC):Array Value:=#[.bool c.is,.slice c.A c.n c.c,.int .i64 c.x,.slice c.B c.m c.d,.int .i64 c.y]
theorem SC.one (c:SC):c.row.all (·.oneCell')=true:=Ka
def kS (w:World)(c:NC)(n:NT):Prop:=∃d,zV d w w.heap.size (.agg c.row) n
def zB1 (w:World)(c:SC)(s:Sl):Prop:=zIi w c.is c.A c.n c.c c.x c.B c.m c.d c.y s
theorem kS.later {w w':World}{c:NC}(h:kS w c n)(hb:Below w.heap.size w w'):kS w' c n:=by
 obtain⟨d,h⟩:=h;exact⟨d,h.later hb⟩
theorem zB1.later {w w':World}{c:SC}(h:zB1 w c s)(hb:Below w.heap.size w w'):zB1 w' c s:=zIi.later h hb
theorem zFo {d:Nat}{w:World}{v:Value}(h:zV d w w.heap.size v n):∃c:NC,v=.agg c.row/\kS w c n:=by
 cases d with
 |zero=>exact h.elim
 |succ d=>
  obtain⟨PA,pc,TA,tc,KA,kc,rfl,hp,ht,hf,hks⟩:=h;exact⟨⟨n.lf,PA,n.ps.length,pc,TA,n.tx.length,tc,KA,n.ks.length,kc⟩,rfl,d+1,PA,pc,TA,tc,KA,kc,rfl,hp,ht,hf,hks⟩
def zTd (w:World)(r:(NT×Sl)×Int)(e:Ending)(w':World):Prop:=
 ∃(c:NC)(s:SC),e=.returned (.tuple #[.agg c.row,.agg s.row,.int .i64 r.2])/\kS w' c r.1.1/\zB1 w' s r.1.2/\Below w.heap.size w w'
mutual
def kLr :NT->Prop
 |.mk _ _ tx ks=>tx.length<=35184372088832/\kLs ks
def kLs :List NT->Prop
 |[]=>True
 |k::r=>kLr k/\kLs r
end
theorem zZl :∀{l:List NT},(∀k ∈ l,kLr k)->kLs l
 |[],_=>trivial
 |k::_r,h=>⟨h k List.mem_cons_self,zZl fun x hx=>h x (List.mem_cons_of_mem _ hx)⟩
theorem kFi :∀{d:Nat}{w:World}{B:Nat}{v:Value}{n:NT},zV d w B v n->kLr n
 |0,_,_,_,_,h=>h.elim
 |d+1,_,_,_,.mk lf ps tx ks,⟨PA,pc,TA,tc,KA,kc,e,hp,ht,hf,hks⟩=>by
  refine⟨by have:=hf.2.2.1;have:=hf.2.1;simp only[NT.tx]at*;omega,zZl fun k hk=>?_⟩;obtain⟨j,hj⟩:=List.getElem?_of_mem hk;obtain⟨b,o,u,e1,hb,hn,_⟩:=hks j k hj;exact kFi hn
theorem zZm {l:List Pr}(h:chk l=0):l.length<=16/\∀p ∈ l,kJ8 p=0:=by
 obtain⟨h1,h2,h3⟩:=(zC8 l).1 h;refine⟨h1,fun p hp=>?_⟩;obtain⟨k1,k2⟩:=h2 p hp;unfold zVt at k1;unfold zXo at k2;simp only[Bool.and_eq_true,decide_eq_true_iff]at k1 k2;unfold kJ8;omega
theorem zMl :∀{l:List Pr}{m:Int},zFf m->(∀p ∈ l,kJ8 p=0)->zG6 m l=m
 |[],m,_,_=>rfl
 |p::r,m,hm,h=>by
  unfold zG6;rw[List.foldl_cons,h p List.mem_cons_self,Int.sub_zero,zGy m hm.1 hm.2];exact zMl (l:=r) hm (fun q hq=>h q (List.mem_cons_of_mem _ hq))
mutual
theorem zUs :∀(n:NT)(m:Int),0<=m->m<=1000->kLr n->zAh n=0->0<=zF8 m n->(sizeT n:Int)+zF8 m n<=m
 |.mk lf ps tx ks,m=>fun h0 h1 hc hk hl=>by
  obtain⟨c1,c2⟩:=hc;obtain⟨k1,k2,k3,k4,k5⟩:=(kY _).1 hk;simp only[NT.ps,NT.ks]at k1 k5;obtain⟨b1,b2⟩:=zZm k1;rw[zF8]at hl⊢;rw[zGy (m-(1+tx.length+ps.length)) Kb Kb,zMl (by unfold zFf;omega) b2]at hl⊢;by_cases hneg:m-(1+tx.length+ps.length)<0
  ·rw[if_pos hneg]at hl;omega
  rw[if_neg hneg]at hl⊢;have ih:=zQ9 ks _ Kb Kb c2 k5 hl;simp only[sizeT];omega
theorem zQ9 :∀(l:List NT)(m:Int),0<=m->m<=1000->kLs l->(∀k ∈ l,zAh k=0)->0<=leftK m l->(sizeK l:Int)+leftK m l<=m
 |[],m=>fun h0 h1 _ _ _=>by simp only[sizeK,leftK];omega
 |k::r,m=>fun h0 h1 hc hk hl=>by
  rw[leftK]at hl⊢;by_cases hneg:zF8 m k<0
  ·rw[if_pos hneg]at hl;omega
  rw[if_neg hneg]at hl⊢;have h2:=zUs k m h0 h1 hc.1 (hk k List.mem_cons_self) Kb;have h3:=zQ9 r (zF8 m k) Kb Kb hc.2 (fun x hx=>hk x (List.mem_cons_of_mem _ hx)) hl;simp only[sizeK];omega
end
theorem zRa {d:Nat}{w:World}{B:Nat}{v:Value}(h:zV d w B v n)(h0:0<=m)(h1:m<=1000)(hk:zAh n=0)(hf:zI5 m n=true):(sizeT n:Int)<=m:=by
 have h2:=of_decide_eq_true hf;have:=zUs n m h0 h1 (kFi h) hk h2;omega
def zB8 (n:NT)(s:Sl)(a:OpP):Bool:=zI5 120 n&&fewS s&&zT3 a
structure zRb (n:NT)(s:Sl)(a:OpP):Prop where
 sel:fewS s=true
 tiny:zAf a
 size:zAh n=0->sizeT n<=900
 node:zAh a.n=0->sizeT a.n<=900
theorem jE {w:World}{c:NC}{o:OC}{a:OpP}(h:zB8 n s a=true)(hn:kS w c n)(ho:OkA w o a):zRb n s a/\(zAh n=0->sizeT n<=120)/\(zAh a.n=0->sizeT a.n<=100):=by
 unfold zB8 at h;rw[Bool.and_eq_true,Bool.and_eq_true]at h;obtain⟨⟨h1,h2⟩,h3⟩:=h;obtain⟨d,hd⟩:=hn;obtain⟨d2,hd2⟩:=ho.hn;have e1:zAh n=0->sizeT n<=120:=fun hk=>by have:=zRa hd (m:=120) Kb Kb hk h1;omega
 have e2:zAh a.n=0->sizeT a.n<=100:=fun hk=>by
  have hf:zI5 100 a.n=true:=by
   simp only[zT3,Bool.and_eq_true]at h3;exact h3.1.1.1.1.2
  have:=zRa hd2 (m:=100) Kb Kb hk hf;omega
 exact⟨⟨h2,zXu h3,fun hk=>by have:=e1 hk;omega,fun hk=>by have:=e2 hk;omega⟩,e1,e2⟩
section
variable {w:World}
theorem zTe {c:NC}(h:kS w c n)(hm:zFf m)(hE:zI5 m n=E):Calls Tryz.prog 36 #[.agg c.row,.int .i64 m] w (jA (.bool E) w):=by
 obtain⟨d,h⟩:=h;subst hE;exact zO3 d w _ n m hm h
theorem zRc {c:SC}(h:zB1 w c s)(hE:fewS s=E):Calls Tryz.prog 37 #[.agg c.row] w (jA (.bool E) w):=by
 subst hE;exact zKa w _ _ _ _ _ _ _ _ _ s h
theorem zLi {c c':NC}(h:kS w c n)(h':kS w c' n')(hE:eqT n n'=E):Calls Tryz.prog 22 #[.agg c.row,.agg c'.row] w (jA (.bool E) w):=by
 obtain⟨d,h⟩:=h;obtain⟨d',h'⟩:=h';subst hE;exact zQ1 d d' w _ _ n n' h h'
theorem zHo {c c':NC}(h:kS w c n)(h':kS w c' n')(hE:eqT n n'=E):Calls Tryz.prog 15 #[.agg c.row,.agg c'.row] w (jA (.bool E) w):=by
 obtain⟨d,h⟩:=h;obtain⟨d',h'⟩:=h';subst hE;exact zWd d d' w _ _ n n' h h'
theorem zFa {c:NC}{E:Int}(h:kS w c n)(hE:zAd n=E):Calls Tryz.prog 18 #[.agg c.row] w (jA (.int .i64 E) w):=by
 obtain⟨d,h⟩:=h;subst hE;exact zV5 d w _ n h
theorem zB1.len {c:SC}(h:zB1 w c s)(hf:fewS s=true):c.n<=60/\c.m<=60:=by
 unfold fewS at hf;rw[Bool.and_eq_true,decide_eq_true_iff,decide_eq_true_iff]at hf;have:=h.hn;have:=h.hm;omega
theorem zH9 {c d:SC}{t:Sl}(h:zB1 w c s)(g:zB1 w d t)(hs:fewS s=true)(ht:fewS t=true)(hE:zF7 s t=E):Calls Tryz.prog 20 #[.agg c.row,.agg d.row] w (jA (.bool E) w):=by
 obtain⟨l1,l2⟩:=h.len hs;obtain⟨l3,l4⟩:=g.len ht;exact zKp h g Kb Kb Kb Kb hE
theorem zZu {c d:SC}{t:Sl}(h:zB1 w c s)(g:zB1 w d t)(hs:fewS s=true)(ht:fewS t=true)(hE:zF7 s t=E):Calls Tryz.prog 16 #[.agg c.row,.agg d.row] w (jA (.bool E) w):=by
 obtain⟨l1,l2⟩:=h.len hs;obtain⟨l3,l4⟩:=g.len ht;exact kGx h g Kb Kb Kb Kb hE
theorem zKk {c:NC}{d:SC}{E:Int}(h:kS w c n)(g:zB1 w d s)(hs:fewS s=true)(hE:zE8 n s=E):Calls Tryz.prog 19 #[.agg c.row,.agg d.row] w (jA (.int .i64 E) w):=by
 obtain⟨l1,l2⟩:=g.len hs;obtain⟨dd,h⟩:=h;obtain⟨a1,a2⟩:=zIi.two g Kb Kb;have e1:=g.his;have e2:=g.hx;have e3:=g.hy;subst hE;have hh:=zSu (b:=d.is) (p:=s.a) (q:=s.f) (A:=d.A) (B:=d.B) (na:=d.n) (nb:=d.m) (ca:=d.c) (cb:=d.d) Kk h (by rw[e2];exact a1) (by rw[e3];exact a2);rw[e2,e3]at hh;have es:(⟨d.is,s.a,s.f⟩:Sl)=s:=by obtain⟨x,y,z⟩:=s;simp only at e1;subst e1;rfl
 rw[es]at hh;exact hh
end
structure St3 (w:World)(c:NC)(s:SC)(o:OC)(W:World):Prop where
 v3:jT 26 W w.heap.size c.row
 v4:jT 33 W (w.heap.size+1) s.row
 v5:jR W (w.heap.size+1+1) o
 below:Below w.heap.size w W
theorem St3.call {w W W':World}{c:NC}{s:SC}{o:OC}(h:St3 w c s o W)(hb:Below W.heap.size W W'):St3 w c s o W':=⟨h.v3.keep hb,h.v4.keep hb,h.v5.keep hb,zI h.below hb⟩
theorem kN (w:World)(c:NC)(s:SC)(o:OC):∃W0,((w.alloc (.cells c.row 26)).alloc (.cells s.row 33)).alloc (.cells o.row 35)=W0/\St3 w c s o W0:=by
 have e1:(w.alloc (.cells c.row 26)).heap.size=w.heap.size+1:=by simp
 have e2:((w.alloc (.cells c.row 26)).alloc (.cells s.row 33)).heap.size=w.heap.size+1+1:=by simp
 have h1:=((jT.new w 26 c.row).alloc (.cells s.row 33)).alloc (.cells o.row 35);have h2:=(jT.new (w.alloc (.cells c.row 26)) 33 s.row).alloc (.cells o.row 35);have h3:=jR.new ((w.alloc (.cells c.row 26)).alloc (.cells s.row 33)) o;rw[e1]at h2;rw[e2]at h3;exact⟨_,rfl,h1,h2,h3,((Kk.alloc Kl _).alloc (by rw[e1];omega) _).alloc (by rw[e2];omega) _⟩
structure St5 (w:World)(c:NC)(s:SC)(o:OC)(g7 g8:Nat)(a:NC)(t:SC)(W:World):Prop where
 st:St3 w c s o W
 v7:jT 26 W g7 a.row
 v8:jT 33 W g8 t.row
theorem St5.call {w W W':World}{c:NC}{s:SC}{o:OC}{g7 g8:Nat}{a:NC}{t:SC}(h:St5 w c s o g7 g8 a t W)(hb:Below W.heap.size W W'):St5 w c s o g7 g8 a t W':=⟨h.st.call hb,h.v7.keep hb,h.v8.keep hb⟩
theorem St3.store {w W W':World}{c:NC}{s:SC}{o:OC}{g:Nat}(h:St3 w c s o W)(ho:Off g W W')(hg:w.heap.size+1+1<g):St3 w c s o W':=
 ⟨h.v3.off ho Kb,h.v4.off ho Kb,(ho.block _ h.v5.lt Kb).trans h.v5,zN h.below ho Kb⟩
theorem kPl {P:Prop}(h:P:=by
 have HN:=hd hn;try have bn:=hd hs
 try have HO:=hd ho
 have H1:=hd h1;try have H2:=hd h2
 try have H3:=hd h3
 clear hn h1;try clear hs
 try clear h2
 try clear ho
 try clear h3
 obtain⟨W0,hW,hst⟩:=kN w c s o;have HW:=hd hW;have HS:=hd hst;clear hW hst;go_enter Tryz.func11,Tryz.ntmps11
 go_upto_region 1 with fail
 rw[HW.o];go_wp2_with(first
  |((with_reducible refine zC (ty:=26) (x:=.tmp 3) ?_);refine zB zD HS.o.v3 rfl _ rfl rfl rfl ?_)
  |(go_at_call 36;refine Calls.mono (zTe (HN.o.later HS.o.below) (by unfold zFf;omega) H1.o) ?_;rintro e w1 ⟨rfl,b9⟩;have HS:=hd (HS.o.call b9);clear b9)
  |((with_reducible refine kH (ty:=33) (x:=.tmp 4) ?_);refine zK zP HS.o.v4 rfl _ rfl Ke rfl ?_)
  |(go_at_call 37;refine Calls.mono (zRc (bn.o.later HS.o.below) H2.o) ?_;rintro e w2 ⟨rfl,b9⟩;have HS:=hd (HS.o.call b9);clear b9)
  |((with_reducible refine kH (ty:=35) (x:=.tmp 5) ?_);refine zDq HS.o.v5 _ rfl Ke rfl ?_)
  |(go_at_call 38;refine Calls.mono (kJm (HO.o.later HS.o.below) H3.o) ?_;rintro e w3 ⟨rfl,b9⟩;have HS:=hd (HS.o.call b9);clear b9)
  |fail)
 go_ret
 exact⟨rfl,HS.o.below⟩):P:=h
theorem kG8 {w:World}{c:NC}{s:SC}{o:OC}(hn:kS w c n)(h1:zI5 120 n=false):Calls Tryz.prog 11 #[.agg c.row,.agg s.row,.agg o.row] w (jA (.bool false) w):=by
 exact kPl
theorem kG9 {w:World}{c:NC}{s:SC}{o:OC}(hn:kS w c n)(hs:zB1 w s sl)(h1:zI5 120 n=true)(h2:fewS sl=false):Calls Tryz.prog 11 #[.agg c.row,.agg s.row,.agg o.row] w (jA (.bool false) w):=by
 exact kPl
theorem kHa {w:World}{c:NC}{s:SC}{o:OC}{a:OpP}(hn:kS w c n)(hs:zB1 w s sl)(ho:OkA w o a)(h1:zI5 120 n=true)(h2:fewS sl=true)(h3:zT3 a=E):Calls Tryz.prog 11 #[.agg c.row,.agg s.row,.agg o.row] w (jA (.bool E) w):=by
 exact kPl
theorem zAq {w:World}{c:NC}{s:SC}{o:OC}{a:OpP}(hn:kS w c n)(hs:zB1 w s sl)(ho:OkA w o a)(hE:zB8 n sl a=E):Calls Tryz.prog 11 #[.agg c.row,.agg s.row,.agg o.row] w (jA (.bool E) w):=by
 subst hE;unfold zB8;cases h1:zI5 120 n
 ·exact kG8 hn h1
 cases h2:fewS sl
 ·exact kG9 hn hs h1 h2
 exact kHa hn hs ho h1 h2 rfl
theorem zDj (w:World):jT 26 ((w.alloc (.cells #[.bool false,.slice none 0 0,.slice none 0 0,.slice none 0 0] 26)).alloc (.cells #[.bool false,.slice none 0 0,.int .i64 0,.slice none 0 0,.int .i64 0] 33)) w.heap.size #[.bool false,.slice none 0 0,.slice none 0 0,.slice none 0 0]:=
 (jT.new w 26 _).alloc _
theorem zDk {w W:World}(ho:Off w.heap.size ((w.alloc (.cells #[.bool false,.slice none 0 0,.slice none 0 0,.slice none 0 0] 26)).alloc (.cells #[.bool false,.slice none 0 0,.int .i64 0,.slice none 0 0,.int .i64 0] 33)) W):
  Below w.heap.size w W/\jT 33 W (w.heap.size+1) #[.bool false,.slice none 0 0,.int .i64 0,.slice none 0 0,.int .i64 0]:=by
 have e1:(w.alloc (.cells #[.bool false,.slice none 0 0,.slice none 0 0,.slice none 0 0] 26)).heap.size=w.heap.size+1:=by simp
 have h2:=jT.new (w.alloc (.cells #[.bool false,.slice none 0 0,.slice none 0 0,.slice none 0 0] 26)) 33 #[.bool false,.slice none 0 0,.int .i64 0,.slice none 0 0,.int .i64 0];rw[e1]at h2;exact⟨zN ((Kk.alloc Kl _).alloc (by rw[e1];omega) _) ho Kl,h2.off ho Kb⟩
theorem zDl {w W W':World}(hb:Below w.heap.size w W)(ho:Off (w.heap.size+1) W W'):Below w.heap.size w W':=zN hb ho Kb
