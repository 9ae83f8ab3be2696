import Derived.Test.YtmglnjmnabjjgaaGreatJNFresh
set_option maxRecDepth 4000
namespace Go.Proofs.YtmglnjmnabjjgaaGreat
open Go.RowKit
variable {a k k' m n:NT}{B c d g gO i pc tc:Nat}{p:List Int}{f:NT->NT×Int}{w w' w4 w6 wb wr:World}{P:Nat->Prop}{A TA:Option Addr}{v vK:Value}{us xs:List Value}{t:TypeId}
def zeroT :NT:=.mk false [] [] []
def zOf (n:NT)(i:Int):Bool:=decide (0<=i)&&decide (i<n.ks.length)
def zBh (n:NT)(i:Int):Option NT:=if 0<=i then n.ks[i.toNat]? else none
theorem zEx {i:Int}:zOf n i=true ↔ 0<=i/\i<n.ks.length:=by unfold zOf;simp
theorem zJw {i:Int}(h:zOf n i=true):∃k,zBh n i=some k:=by
 rw[zEx]at h;unfold zBh;rw[if_pos h.1];exact⟨_,List.getElem?_eq_getElem Kb⟩
theorem zA1 {i:Int}(h:zBh n i=some k):0<=i/\i<n.ks.length/\n.ks[i.toNat]? =some k:=by
 unfold zBh at h;split at h
 ·have:=(List.getElem?_eq_some_iff.1 h).1;exact⟨by assumption,by omega,h⟩
 ·cases h
theorem zCy {i:Int}(h:zBh n i=some k):zOf n i=true:=by
 have:=zA1 h;rw[zEx];exact⟨this.1,this.2.1⟩
theorem zJx {i:Int}(h:zOf n i=false):zBh n i=none:=by
 cases hk:zBh n i with
 |none=>rfl
 |some k=>rw[zCy hk]at h;cases h
theorem kK1 {i:Int}(h:zBh n i=none):zOf n i=false:=by
 cases hb:zOf n i
 ·rfl
 ·obtain⟨k,hk⟩:=zJw hb;rw[hk]at h;cases h
def spl (ks:List NT)(i many:Nat)(o:List NT):List NT:=ks.take i++o++ks.drop (i+many)
def jS (n:NT)(i many:Nat)(o:List NT):NT:=.mk n.lf n.ps n.tx (spl n.ks i many o)
theorem zM4 {ks:List NT}{many:Nat}{o:List NT}(h:i+many<=ks.length):(spl ks i many o).length+many=ks.length+o.length:=by
 unfold spl;simp only[List.length_append,List.length_take,List.length_drop];omega
theorem zI0 {ks:List NT}(h:i<ks.length):spl ks i 1 [k]=ks.set i k:=by
 unfold spl;rw[List.set_eq_take_append_cons_drop,if_pos h];simp
def setK (n:NT)(i:Nat)(k:NT):NT:=jS n i 1 [k]
def kB :NT->List Int->Option NT
 |n,[]=>some n
 |n,i::r=>match zBh n i with
  |none=>none
  |some k=>kB k r
def zGm (n:NT)(p:List Int):NT×Int:=match kB n p with
 |none=>(zeroT,5)
 |some m=>(m,0)
def putT :NT->List Int->NT->NT
 |_,[],m=>m
 |n,i::r,m=>match zBh n i with
  |none=>n
  |some k=>setK n i.toNat (putT k r m)
def zIf (f:NT->NT×Int):NT->List Int->NT×Int
 |n,[]=>f n
 |n,i::r=>match zBh n i with
  |none=>(zeroT,5)
  |some k=>if(zIf f k r).2=0 then(setK n i.toNat (zIf f k r).1,0)else(zeroT,(zIf f k r).2)
def kHx (m:NT)(_:NT):NT×Int:=(m,0)
def zGn (i:Int)(m n:NT):NT×Int:=if n.lf=true then(zeroT,7)else if i<0∨n.ks.length<i then(zeroT,8)else(jS n i.toNat 0 [m],0)
def zJy (i:Int)(n:NT):NT×Int:=if zOf n i=true then(jS n i.toNat 1 [],0)else(zeroT,5)
def upP (p:List Int):List Int:=p.take (p.length-1)
def zSe (n:NT)(p:List Int)(m:NT):NT×Int:=zIf (kHx m) n p
def zGo (n:NT)(p:List Int)(m:NT):NT×Int:=if p.length=0 then(zeroT,6)else zIf (zGn (lastL p) m) n (upP p)
def zBw (n:NT)(p:List Int):NT×Int:=if p.length=0 then(zeroT,6)else zIf (zJy (lastL p)) n (upP p)
def zE3 (n:NT)(p:List Int):NT:=if p.length=0 then zeroT else(zGm n p).1
theorem zR {i:Int}{r:List Int}:kB n (i::r)=(zBh n i).bind fun k=>kB k r:=by
 rw[kB];cases zBh n i<;>rfl
theorem jJ :∀(n:NT)(p q:List Int),kB n (p++q)=(kB n p).bind fun m=>kB m q
 |n,[],q=>rfl
 |n,i::r,q=>by
  rw[List.cons_append,zR,zR];cases h:zBh n i with
  |none=>rfl
  |some k=>exact jJ k r q
theorem zFv {k:Nat}(hk:k<p.length)(h:kB n (p.take k)=some m):kB n (p.take (k+1))=zBh m (iAt p k):=by
 rw[List.take_add_one,List.getElem?_eq_getElem hk,jJ,h,jY p k hk];show kB m [p[k]]=_
 rw[zR];cases zBh m p[k]<;>rfl
theorem zRy {k:Nat}(hk:k<p.length)(h:kB n (p.take k)=some m)(hn:zBh m (iAt p k)=none):kB n p=none:=by
 rw[<-List.take_append_drop (k+1) p,jJ,zFv hk h,hn];rfl
theorem zB2 (h:kB n p=none):zGm n p=(zeroT,5):=by unfold zGm;rw[h]
theorem kP (h:kB n p=some m):zGm n p=(m,0):=by unfold zGm;rw[h]
theorem zIg {i:Int}(h:zOf n i=true):zBh (setK n i.toNat k) i=some k:=by
 rw[zEx]at h;unfold zBh setK jS;rw[if_pos h.1];show(spl n.ks i.toNat 1 [k])[i.toNat]? =_
 rw[zI0 Kb,List.getElem?_set_self Kb]
theorem zF3 {i j:Int}(h:zOf n i=true)(hj:j≠i):zBh (setK n i.toNat k) j=zBh n j:=by
 rw[zEx]at h;unfold zBh setK jS;split
 ·show(spl n.ks i.toNat 1 [k])[j.toNat]? =_
  rw[zI0 Kb,List.getElem?_set_ne Kb]
 ·rfl
theorem zM5 (h:i<n.ks.length):(setK n i k).ks=n.ks.set i k:=zI0 h
theorem kAn (h:i<n.ks.length):setK (setK n i k) i k'=setK n i k':=by
 have e:(setK n i k).ks=n.ks.set i k:=zM5 h;show NT.mk _ _ _ (spl (setK n i k).ks i 1 [k'])=NT.mk _ _ _ (spl n.ks i 1 [k'])
 rw[e,zI0 (by simpa using h),zI0 h,List.set_set];rfl
theorem kAo (h:n.ks[i]? =some k):setK n i k=n:=by
 obtain⟨h1,h2⟩:=List.getElem?_eq_some_iff.1 h;show NT.mk _ _ _ (spl n.ks i 1 [k])=n
 rw[zI0 h1,<-h2,List.set_getElem_self,NT.eta]
theorem jX :∀(n:NT)(p:List Int)(m x:NT),kB n p=some x->kB (putT n p m) p=some m
 |n,[],m,x=>fun _=>rfl
 |n,i::r,m,x=>by
  rw[zR,putT];cases h:zBh n i with
  |none=>intro h2;cases h2
  |some k=>
   intro h2;show kB (setK n i.toNat (putT k r m)) (i::r)=_
   rw[zR,zIg (zCy h)];exact jX k r m x h2
theorem zEo :∀(n:NT)(p:List Int)(m m' x:NT),kB n p=some x->putT (putT n p m) p m'=putT n p m'
 |n,[],m,m',x=>fun _=>rfl
 |n,i::r,m,m',x=>by
  rw[zR];cases h:zBh n i with
  |none=>intro h2;cases h2
  |some k=>
   intro h2;have h3:=zA1 h;simp only[putT,h,zIg (zCy h)];rw[kAn Kb,zEo k r m m' x h2]
theorem zG1 :∀(n:NT)(p:List Int)(x:NT),kB n p=some x->putT n p x=n
 |n,[],x=>fun h=>by injection h with h;rw[putT,h]
 |n,i::r,x=>by
  rw[zR];cases h:zBh n i with
  |none=>intro h2;cases h2
  |some k=>
   intro h2;simp only[putT,h];rw[zG1 k r x h2,kAo (zA1 h).2.2]
theorem zHg :∀(n:NT)(p q:List Int)(m x:NT),kB n p=some x->¬p<+:q->¬q<+:p->kB (putT n p m) q=kB n q
 |n,[],q,m,x=>fun _ h _=>absurd (List.nil_prefix) h
 |n,i::r,[],m,x=>fun _ _ h=>absurd (List.nil_prefix) h
 | n,i::r,j::s,m,x=>by
  intro h0 h1 h2;rw[zR]at h0;cases h:zBh n i with
  |none=>rw[h]at h0;cases h0
  |some k=>
   rw[h]at h0;simp only[putT,h];rw[zR,zR];rcases Classical.em (j=i)with e|e
   ·subst e;rw[zIg (zCy h),h];refine zHg k r s m x h0 (fun h3=>h1 ?_) (fun h3=>h2 ?_)
    ·exact(List.cons_prefix_cons).2 ⟨rfl,h3⟩
    ·exact(List.cons_prefix_cons).2 ⟨rfl,h3⟩
   ·rw[zF3 (zCy h) e]
theorem zM6 (hf:∀a,(f a).2≠0->(f a).1=zeroT):∀(n:NT)(p:List Int),zIf f n p=match kB n p with
  |none=>(zeroT,5)
  |some a=>if(f a).2=0 then(putT n p (f a).1,0)else(zeroT,(f a).2)
 |n,[]=>by
  show f n=if(f n).2=0 then((f n).1,0)else(zeroT,(f n).2)
  split
  ·rename_i h;rw[<-h]
  ·rename_i h;rw[<-hf n h]
 | n,i::r=>by
  rw[zR,zIf];cases h:zBh n i with
  |none=>rfl
  |some k=>
   have ih:=zM6 hf k r;have hp:∀m,putT n (i::r) m=setK n i.toNat (putT k r m):=fun m=>by simp only[putT,h]
   simp only[hp,ih,Option.bind_some];cases kB k r with
   |none=>rfl
   |some a=>
    simp only;rcases Classical.em ((f a).2=0)with h2|h2
    ·simp only[h2,if_true]
    ·simp only[h2,if_false]
theorem kHy (m:NT):∀a,(kHx m a).2≠0->(kHx m a).1=zeroT:=fun _ h=>absurd rfl h
theorem zBa (i:Int)(m:NT):∀a,(zGn i m a).2≠0->(zGn i m a).1=zeroT:=fun a h=>by
 unfold zGn at h⊢;split
 ·rfl
 ·split
  ·rfl
  ·rename_i h1 h2;rw[if_neg h1,if_neg h2]at h;exact absurd rfl h
theorem zG2 (i:Int):∀a,(zJy i a).2≠0->(zJy i a).1=zeroT:=fun a h=>by
 unfold zJy at h⊢;split
 ·rename_i h1;rw[if_pos h1]at h;exact absurd rfl h
 ·rfl
theorem zCe (hf:∀a,(f a).2≠0->(f a).1=zeroT)(h:kB n p=some a)(h0:(f a).2=0):zIf f n p=(putT n p (f a).1,0):=by
 rw[zM6 hf,h];simp only;rw[if_pos h0]
theorem zHu (hf:∀a,(f a).2≠0->(f a).1=zeroT)(h:kB n p=some a)(h0:(f a).2≠0):zIf f n p=(zeroT,(f a).2):=by
 rw[zM6 hf,h];simp only;rw[if_neg h0]
theorem zFq (hf:∀a,(f a).2≠0->(f a).1=zeroT)(h:kB n p=none):zIf f n p=(zeroT,5):=by
 rw[zM6 hf,h]
theorem kHz (n:NT)(p:List Int)(m:NT):zSe n p m=match kB n p with
  |none=>(zeroT,5)
  |some _=>(putT n p m,0):=by
 unfold zSe;rw[zM6 (kHy m)];cases kB n p<;>rfl
theorem zM7 (h:p.length≠0):upP p++[lastL p]=p:=by
 unfold upP lastL;rw[jY p _ Kb];have:=List.take_append_getElem (l:=p) (i:=p.length-1) Kb;rw[this];rw[show p.length-1+1=p.length by omega,List.take_length]
theorem zHv (h:p.length≠0):kB n p=(kB n (upP p)).bind fun a=>zBh a (lastL p):=by
 conv=>lhs;rw[<-zM7 h]
 rw[jJ];congr 1
 funext a
 rw[zR];cases zBh a (lastL p)<;>rfl
theorem zTr {ks:List NT}(h:i<=ks.length):spl (spl ks i 0 [m]) i 1 []=ks:=by
 unfold spl;have e:(ks.take i).length=i:=by rw[List.length_take];omega
 rw[Nat.add_zero,List.append_nil,List.append_assoc];rw[List.take_append_of_le_length Kb,List.take_of_length_le Kb];rw[List.drop_append,e,List.drop_of_length_le Kb,List.nil_append,show i+1-i=1 by omega];simp
theorem kD1 {ks:List NT}(h:ks[i]? =some k):spl (spl ks i 1 []) i 0 [k]=ks:=by
 obtain⟨h1,h2⟩:=List.getElem?_eq_some_iff.1 h;unfold spl;have e:(ks.take i).length=i:=by rw[List.length_take];omega
 simp only[Nat.add_zero,List.append_nil];rw[List.take_append_of_le_length Kb,List.take_of_length_le Kb];rw[List.drop_append,e,List.drop_of_length_le Kb,List.nil_append,Nat.sub_self,List.drop_zero];rw[List.append_assoc,List.singleton_append,<-h2,<-List.drop_eq_getElem_cons h1,List.take_append_drop]
theorem zL0 {ks:List NT}(h:i<=ks.length):(spl ks i 0 [m])[i]? =some m:=by
 unfold spl;have e:(ks.take i).length=i:=by rw[List.length_take];omega
 rw[Nat.add_zero,List.append_assoc,List.getElem?_append_right Kb,e,Nat.sub_self];rfl
theorem zOu (h:zGo n p m=(a,0)):zBw a p=(n,0)/\zE3 a p=m:=by
 unfold zGo at h;split at h
 ·cases h
 ·rename_i hp
  unfold zBw zE3;rw[if_neg hp,if_neg hp];cases hg:kB n (upP p)with
  |none=>rw[zFq (zBa _ _) hg]at h;cases h
  | some x=>
   rcases Classical.em ((zGn (lastL p) m x).2=0)with h0|h0
   ·rw[zCe (zBa _ _) hg h0]at h;injection h with h1 _;have hx:(zGn (lastL p) m x).1=jS x (lastL p).toNat 0 [m]/\0<=lastL p/\lastL p<=x.ks.length:=by
     unfold zGn at h0⊢;split at h0
     ·cases h0
     ·split at h0
      ·cases h0
      ·rename_i h2 h3;rw[if_neg h2,if_neg h3];exact⟨rfl,by omega,by omega⟩
    obtain⟨hx1,hx2,hx3⟩:=hx;rw[hx1]at h1;have hg2:kB a (upP p)=some (jS x (lastL p).toNat 0 [m]):=by rw[<-h1];exact jX n (upP p) _ x hg
    have hk:zBh (jS x (lastL p).toNat 0 [m]) (lastL p)=some m:=by
     unfold zBh;rw[if_pos hx2];exact zL0 Kb
    have hc:zJy (lastL p) (jS x (lastL p).toNat 0 [m])=(x,0):=by
     unfold zJy;rw[if_pos (zCy hk)];congr 1
     show NT.mk _ _ _ (spl (spl x.ks (lastL p).toNat 0 [m]) (lastL p).toNat 1 [])=x
     rw[zTr Kb];exact NT.eta x
    constructor
    ·rw[zCe (zG2 _) hg2 (by rw[hc]),hc,<-h1,zEo n _ _ _ x hg,zG1 n _ x hg]
    ·have:kB a p=some m:=by rw[zHv hp,hg2];exact hk
     rw[kP this]
   ·rw[zHu (zBa _ _) hg h0]at h;injection h with _ h2;exact absurd h2 h0
theorem zM8 (h:(zBw n p).2=0):∃x k,p.length≠0/\kB n (upP p)=some x/\zBh x (lastL p)=some k/\zE3 n p=k/\(zBw n p).1=putT n (upP p) (jS x (lastL p).toNat 1 [])/\
  kB (zBw n p).1 (upP p)=some (jS x (lastL p).toNat 1 [])/\(x.lf=false->zGo (zBw n p).1 p k=(n,0)):=by
 unfold zBw zE3 at*;split at h
 ·cases h
 ·rename_i hp
  rw[if_neg hp,if_neg hp];cases hg:kB n (upP p)with
  |none=>rw[zFq (zG2 _) hg]at h;cases h
  | some x=>
   rcases Classical.em ((zJy (lastL p) x).2=0)with h0|h0
   ·have hb:zOf x (lastL p)=true:=by
     unfold zJy at h0;cases hb:zOf x (lastL p)
     ·rw[hb]at h0;cases h0
     ·rfl
    obtain⟨k,hk⟩:=zJw hb;have hc:zJy (lastL p) x=(jS x (lastL p).toNat 1 [],0):=by unfold zJy;rw[if_pos hb]
    have yc:kB n p=some k:=by rw[zHv hp,hg];exact hk
    have e:zIf (zJy (lastL p)) n (upP p)=(putT n (upP p) (jS x (lastL p).toNat 1 []),0):=by rw[zCe (zG2 _) hg h0,hc]
    rw[e];have hg2:=jX n (upP p) (jS x (lastL p).toNat 1 []) x hg;refine⟨x,k,hp,rfl,hk,by rw[kP yc],rfl,hg2,fun hl=>?_⟩;obtain⟨k1,k2,k3⟩:=zA1 hk;have ha:zGn (lastL p) k (jS x (lastL p).toNat 1 [])=(x,0):=by
     unfold zGn;rw[if_neg (by show¬x.lf=true;rw[hl];simp)];have hlen:=zM4 (ks:=x.ks) (i:=(lastL p).toNat) (many:=1) (o:=[]) Kb;rw[if_neg (by
      show¬(lastL p<0∨((spl x.ks (lastL p).toNat 1 []).length:Int)<lastL p)
      simp at hlen;omega)]
     congr 1
     show NT.mk _ _ _ (spl (spl x.ks (lastL p).toNat 1 []) (lastL p).toNat 0 [k])=x
     rw[kD1 k3];exact NT.eta x
    unfold zGo;rw[if_neg hp,zCe (zBa _ _) hg2 (by rw[ha]),ha];show(putT (putT n (upP p) _) (upP p) x,(0:Int))=_
    rw[zEo n _ _ _ x hg,zG1 n _ x hg]
   ·rw[zHu (zG2 _) hg h0]at h;exact absurd h h0
theorem zHh {ks:List NT}(_h:i<=ks.length):sizeK (spl ks i 0 [m])=sizeK ks+sizeT m:=by
 unfold spl;rw[kZ,kZ,Nat.add_zero];have:sizeK ks=sizeK (ks.take i)+sizeK (ks.drop i):=by rw[<-kZ,List.take_append_drop]
 simp only[sizeK];omega
theorem jC (n:NT):sizeT n=1+n.tx.length+sizeK n.ks:=by cases n;simp only[sizeT,NT.tx,NT.ks]
theorem kAp {ks:List NT}(h:ks[i]? =some k):sizeK (ks.set i k')+sizeT k=sizeK ks+sizeT k':=by
 obtain⟨h1,h2⟩:=List.getElem?_eq_some_iff.1 h;rw[List.set_eq_take_append_cons_drop,if_pos h1,kZ];have e:sizeK ks=sizeK (ks.take i)+sizeK (ks.drop i):=by rw[<-kZ,List.take_append_drop]
 rw[zCo h]at e;simp only[sizeK]at e⊢;omega
theorem zBo :∀(n:NT)(p:List Int)(m x:NT),kB n p=some x->sizeT (putT n p m)+sizeT x=sizeT n+sizeT m
 |n,[],m,x=>fun h=>by injection h with h;rw[putT,h];omega
 |n,i::r,m,x=>by
  rw[zR];cases h:zBh n i with
  |none=>intro h2;cases h2
  |some k=>
   intro h2;simp only[putT,h];have ih:=zBo k r m x h2;obtain⟨k1,k2,k3⟩:=zA1 h;have h4:=kAp (k':=putT k r m) k3;rw[jC (setK n i.toNat (putT k r m)),jC n,zM5 Kb];show 1+n.tx.length+_+_=_
   omega
theorem zFl (h:zGo n p m=(a,0)):sizeT a=sizeT n+sizeT m/\∃x,p.length≠0/\kB n (upP p)=some x/\kB a (upP p)=some (jS x (lastL p).toNat 0 [m])/\(jS x (lastL p).toNat 0 [m]).ks.length=x.ks.length+1:=by
 unfold zGo at h;split at h
 ·cases h
 ·rename_i hp
  cases hg:kB n (upP p)with
  |none=>rw[zFq (zBa _ _) hg]at h;cases h
  | some x=>
   rcases Classical.em ((zGn (lastL p) m x).2=0)with h0|h0
   ·rw[zCe (zBa _ _) hg h0]at h;injection h with h1 _;have hx:(zGn (lastL p) m x).1=jS x (lastL p).toNat 0 [m]/\0<=lastL p/\lastL p<=x.ks.length:=by
     unfold zGn at h0⊢;split at h0
     ·cases h0
     ·split at h0
      ·cases h0
      ·rename_i h2 h3;rw[if_neg h2,if_neg h3];exact⟨rfl,by omega,by omega⟩
    obtain⟨hx1,hx2,hx3⟩:=hx;rw[hx1]at h1;have h5:=zBo n (upP p) (jS x (lastL p).toNat 0 [m]) x hg;rw[h1]at h5;have h6:sizeT (jS x (lastL p).toNat 0 [m])=sizeT x+sizeT m:=by
     rw[jC,jC x];show 1+x.tx.length+sizeK (spl x.ks _ 0 [m])=_
     rw[zHh Kb];omega
    refine⟨by omega,x,hp,rfl,by rw[<-h1];exact jX n _ _ x hg,?_⟩;have:=zM4 (ks:=x.ks) (i:=(lastL p).toNat) (many:=0) (o:=[m]) Kb;simp at this;exact this
   ·rw[zHu (zBa _ _) hg h0]at h;injection h with _ h2;exact absurd h2 h0
open Go.WideShapes (add_plain)
structure Off (g:Nat)(w w':World):Prop where
 os:w'.os=w.os
 tape:w'.tape=w.tape
 output:w'.output=w.output
 size:w.heap.size<=w'.heap.size
 block:∀k,k<w.heap.size->k≠g->w'.heap[k]? =w.heap[k]?
theorem Off.refl (g:Nat)(w:World):Off g w w:=⟨rfl,rfl,rfl,Nat.le_refl _,fun _ _ _=>rfl⟩
theorem Off.of_below (h:Below w.heap.size w w'):Off g w w':=⟨h.os,h.tape,h.output,h.size,fun k hk _=>h.block k hk⟩
theorem Off.trans {a b c:World}(h:Off g a b)(k:Off g b c):Off g a c:=
 ⟨k.os.trans h.os,k.tape.trans h.tape,k.output.trans h.output,Nat.le_trans h.size k.size,fun i hi hg=>(k.block i (Nat.lt_of_lt_of_le hi h.size) hg).trans (h.block i hi hg)⟩
theorem Off.below (h:Off g w w')(hg:B<=g)(hB:B<=w.heap.size):Below B w w':=
 ⟨h.os,h.tape,h.output,h.size,fun k hk=>h.block k Kb Kb⟩
theorem Off.cell (h:Off g w w'){p:Addr}(hp:p.block<w.heap.size)(hg:p.block≠g):w'.cell? p=w.cell? p:=World.cell?_of_block (h.block p.block hp hg)
theorem zAx.deep :∀{d d':Nat}{v:Value}{n:NT},d<=d'->zAx P d w v n->zAx P d' w v n
 |0,_,_,_,_,h=>h.elim
 |d+1,0,_,_,h,_=>absurd h (Nat.not_succ_le_zero _)
 |d+1,d'+1,_,_,hd,⟨PA,pc,TA,tc,KA,kc,e,hp,ht,hf,hks⟩=>⟨PA,pc,TA,tc,KA,kc,e,hp,ht,hf,fun k m hm=>by
   obtain⟨b,o,u,e1,hb,hn,hc,hz⟩:=hks k m hm;exact⟨b,o,u,e1,hb,hn.deep (Nat.le_of_succ_le_succ hd),hc,hz⟩⟩
theorem zV.deep :∀{d d':Nat}{v:Value}{n:NT},d<=d'->zV d w B v n->zV d' w B v n
 |0,_,_,_,_,h=>h.elim
 |d+1,0,_,_,h,_=>absurd h (Nat.not_succ_le_zero _)
 |d+1,d'+1,_,_,hd,⟨PA,pc,TA,tc,KA,kc,e,hp,ht,hf,hks⟩=>⟨PA,pc,TA,tc,KA,kc,e,hp,ht,hf,fun k m hm=>by
   obtain⟨b,o,u,e1,hb,hn,hc⟩:=hks k m hm;exact⟨b,o,u,e1,hb,hn.deep (Nat.le_of_succ_le_succ hd),hc⟩⟩
theorem zPl :zU0 [] 0 0 0 0 0:=⟨⟨by simp,by simp⟩,by simp,by omega,by omega,by simp,by omega,by omega⟩
theorem zBs (P:Nat->Prop)(d:Nat)(w:World):zAx P (d+1) w (.agg #[.bool false,.slice none 0 0,.slice none 0 0,.slice none 0 0]) zeroT:=
 ⟨none,0,none,0,none,0,rfl,fun k u h=>by simp[pv,zeroT,NT.ps]at h,fun k u h=>by simp[rv,zeroT,NT.tx]at h,zPl,fun k m h=>by simp[zeroT,NT.ks]at h⟩
def kMo (P:Nat->Prop):Nat->World->Value->NT->Prop
 |0,_,_,_=>False
 |d+1,w,v,n=>∃PA pc TA tc KA kc,v=.agg #[.bool n.lf,.slice PA n.ps.length pc,.slice TA n.tx.length tc,.slice KA n.ks.length kc]/\
   VP (fun b=>P b/\some b≠(Value.slice KA 0 0).ownBlock) w PA (pv n.ps)/\VP (fun b=>P b/\some b≠(Value.slice KA 0 0).ownBlock) w TA (rv n.tx)/\zU0 n.ps n.tx.length n.ks.length pc tc kc/\
   (∀k m,n.ks[k]? =some m->∃g u,KA=some ⟨g,0,none⟩/\P g/\zAx (fun b=>P b/\some b≠(Value.slice KA 0 0).ownBlock) d w u m/\zK1 w g (0+k*4) u/\∀i,i<4->w.frozen? ⟨g,k*4+i,none⟩=false)
theorem kMo.tree :∀{d:Nat}{w:World}{v:Value}{n:NT},kMo P d w v n->zAx P d w v n
 |0,_,_,_,h=>h.elim
 |d+1,w,v,n,⟨PA,pc,TA,tc,KA,kc,e,hp,ht,hf,hks⟩=>⟨PA,pc,TA,tc,KA,kc,e,hp.keep (fun _ h=>h.1) (fun _ _=>⟨rfl,rfl⟩),ht.keep (fun _ h=>h.1) (fun _ _=>⟨rfl,rfl⟩),hf,fun k m hm=>by
   obtain⟨g,u,e1,hg,ht,hc,hz⟩:=hks k m hm;exact⟨g,0,u,e1,hg,ht.keep (fun _ h=>h.1) (fun _ _=>⟨rfl,rfl⟩),hc,by have:=hz 0 Kb;rw[Nat.zero_add];exact this⟩⟩
def zK8 (P:Nat->Prop)(g:Nat)(v:Value)(w:World)(b:Nat):Prop:=P b/\b<w.heap.size/\b≠g/\some b≠v.ownBlock
structure zNk (P:Nat->Prop)(wb:World)(base d:Nat)(lf:Bool)(ps:List Pr)(tx:List Int)(gO:Nat)(PA:Option Addr)(pc:Nat)(TA:Option Addr)(tc:Nat)(vK:Value)(n:Nat)(us:List Value)(ks:List NT)(wr:World):Prop where
 below:Below base wb wr
 bs:base<=wb.heap.size
 lo:base<=gO
 up:∀b,base<=b->P b
 o:wr.heap[gO]? =some (.cells #[.bool lf,.slice PA ps.length pc,.slice TA tx.length tc,vK] 26 (0,0))
 row:wr.ownsRow base 26 4 vK n (us.flatMap fun u=>u.cells.toList)
 len:us.length=n
 num:ks.length=n
 apart:vK.ownBlock≠some gO
 props:VP (zK8 P gO vK wr) wr PA (pv ps)
 text:VP (zK8 P gO vK wr) wr TA (rv tx)
 kids:∀(j:Nat)(m:NT),ks[j]? =some m->∃u,us[j]? =some u/\zAx (zK8 P gO vK wr) d wr u m
theorem zM9 (us vs:List Value):((us++vs).flatMap fun u=>u.cells.toList)=(us.flatMap fun u=>u.cells.toList)++(vs.flatMap fun u=>u.cells.toList):=by simp
theorem zOg {base:Nat}{lf:Bool}{ps:List Pr}{tx:List Int}{PA:Option Addr}{n:Nat}{ks:List NT}
  (h:zNk P wb base d lf ps tx gO PA pc TA tc vK n us ks wr) {vK':Value} {n':Nat} {vs:List Value} {ms:List NT} (hn:n'=n+ms.length) (hl:vs.length=ms.length)
  (hb4:Below wr.heap.size wr w4) (hgrow:w4.grownBy w6 vK.ownBlock) (hown:w6.ownsRow base 26 4 vK' n' ((us.flatMap fun u=>u.cells.toList)++(vs.flatMap fun u=>u.cells.toList)))
  (hat:vK'.ownBlock=vK.ownBlock∨∃g,vK'.ownBlock=some g/\w4.heap.size<=g)
  (hm:∀(j:Nat)(m:NT),ms[j]? =some m->∃u,vs[j]? =some u/\zAx (zK8 P gO vK w4) d w4 u m):
  zNk P wb base d lf ps tx gO PA pc TA tc vK' n' (us++vs) (ks++ms) (w6.setCell ⟨gO,3,none⟩ vK'):=by
 have nr:=lt_of_block h.o;have hbs:=hb4.size;have zo:=hgrow.size;have bA:=h.below.size;have hlo:=h.lo;have hbase:=h.bs;obtain⟨wx,hwx⟩:∃wx,wx=w6.setCell ⟨gO,3,none⟩ vK':=⟨_,rfl⟩;have ex:wx.heap.size=w6.heap.size:=by rw[hwx];simp
 have o8:∀b,b<w4.heap.size->b≠gO->some b≠vK.ownBlock->wx.heap[b]? =w4.heap[b]? :=fun b hb h1 h2=>by
  rw[hwx,Below.heap_setCell _ _ _ _ (by simpa using h1),hgrow.block b hb h2]
 have fQ:∀b,vK.ownBlock=some b->base<=b/\b<wr.heap.size:=fun b e=>h.row.lt b e;have hapart:vK'.ownBlock≠some gO:=by
  rcases hat with e|⟨g,e,hg⟩
  ·rw[e];exact h.apart
  ·rw[e];intro e2;injection e2 with e2;omega
 have hP:∀b,zK8 P gO vK w4 b->zK8 P gO vK' wx b:=fun b hb=>⟨hb.1,by have:=hb.2.1;omega,hb.2.2.1,by
  rcases hat with e|⟨g,e,hg⟩
  ·rw[e];exact hb.2.2.2
  ·rw[e];intro e2;injection e2 with e2;have:=hb.2.1;omega⟩
 have hK:∀p:Addr,zK8 P gO vK w4 p.block->wx.cell? p=w4.cell? p/\wx.frozen? p=w4.frozen? p:=fun p hp=>
  ⟨World.cell?_of_block (o8 _ hp.2.1 hp.2.2.1 hp.2.2.2),World.frozen?_of_block (o8 _ hp.2.1 hp.2.2.1 hp.2.2.2)⟩
 have sL:∀b,zK8 P gO vK wr b->zK8 P gO vK w4 b:=fun b hb=>⟨hb.1,by have:=hb.2.1;omega,hb.2.2.1,hb.2.2.2⟩;have sM:∀p:Addr,zK8 P gO vK wr p.block->w4.cell? p=wr.cell? p/\w4.frozen? p=wr.frozen? p:=fun p hp=>⟨hb4.cell hp.2.1,hb4.frozen hp.2.1⟩;have hb0:Below base wb w4:=h.below.trans (hb4.mono Kb);have aJ:Below base wb wx:=hwx▸(hb0.grown hgrow Kb (fun j hj=>(fQ j hj).1)).setCell (by show _<=gO;omega) _;rw[<-hwx];refine⟨aJ,h.bs,h.lo,h.up,?_,?_,by rw[List.length_append,h.len,hl,hn],by rw[List.length_append,h.num,hn],hapart,(h.props.keep sL sM).keep hP hK,(h.text.keep sL sM).keep hP hK,fun j m hj=>?_⟩
 ·have h6:w6.heap[gO]? =_:=(hgrow.block gO Kb (fun e=>h.apart e.symm)).trans ((hb4.block gO nr).trans h.o);rw[hwx,zG4 h6];rfl
 ·rw[hwx,zM9];exact ownsRow_setCell_other hown (a:=⟨gO,3,none⟩) hapart _
 ·rcases Nat.lt_or_ge j ks.length with hjk|hjk
  ·rw[List.getElem?_append_left hjk]at hj;obtain⟨u,hu,ht⟩:=h.kids j m hj;exact⟨u,by rw[List.getElem?_append_left (by rw[h.len,<-h.num];exact hjk)];exact hu,(ht.keep sL sM).keep hP hK⟩
  ·rw[List.getElem?_append_right hjk]at hj;obtain⟨u,hu,ht⟩:=hm _ m hj;refine⟨u,?_,ht.keep hP hK⟩;rw[List.getElem?_append_right (by rw[h.len,<-h.num];exact hjk),h.len,<-h.num];exact hu
theorem zOh {wk:World}{base:Nat}{lf:Bool}{ps:List Pr}{tx:List Int}{PA:Option Addr}{n:Nat}{ks:List NT}
  (h:zNk P wb base d lf ps tx gO PA pc TA tc vK n us ks wr) {c0 c1 c2 c3:Value} {g6 aT:Nat} (hbk:Below wr.heap.size wr wk)
  (hb4:Below wk.heap.size wk w4) (dN:zAx (fun b=>wk.heap.size<=b/\b<w4.heap.size) d w4 (.agg #[c0,c1,c2,c3]) m) (hgrow:(w4.alloc (.cells #[c0,c1,c2,c3] t)).grownBy w6 vK.ownBlock)
  (hown:w6.ownsRow base 26 4 (.slice (some ⟨g6,0,none⟩) (n+1) aT) (n+1) ((us.flatMap fun u=>u.cells.toList)++[c0,c1,c2,c3])) (hat:vK.ownBlock=some g6∨g6=w4.heap.size+1):
  zNk P wb base d lf ps tx gO PA pc TA tc (.slice (some ⟨g6,0,none⟩) (n+1) aT) (n+1) (us++[.agg #[c0,c1,c2,c3]]) (ks++[m]) (w6.setCell ⟨gO,3,none⟩ (.slice (some ⟨g6,0,none⟩) (n+1) aT)):=by
 have hbs:=hbk.size;have oY:=hb4.size;have hbase:=h.bs;have bA:=h.below.size;have nr:=lt_of_block h.o;have e5:(w4.alloc (.cells #[c0,c1,c2,c3] t)).heap.size=w4.heap.size+1:=sz1;have oZ:Below w4.heap.size w4 (w4.alloc (.cells #[c0,c1,c2,c3] t)):=Kk.alloc Kl _;have sN:Below wr.heap.size wr (w4.alloc (.cells #[c0,c1,c2,c3] t)):=(hbk.trans (hb4.mono hbs)).alloc Kb _;refine zOg h Kc Kc sN hgrow (by simpa[Value.cells]using hown) ?_ (fun j m' hj=>?_)
 ·rcases hat with e|e
  ·exact .inl (by rw[e];rfl)
  ·exact .inr ⟨g6,rfl,by omega⟩
 ·cases j with
  |zero=>
   simp only[List.getElem?_cons_zero,Option.some.injEq]at hj;subst hj;refine⟨_,rfl,dN.keep (fun b hb=>⟨h.up b Kb,by omega,by omega,fun e=>?_⟩) (fun p hp=>⟨oZ.cell hp.2,oZ.frozen hp.2⟩)⟩;have:=(h.row.lt b e.symm).2;omega
  |succ j=>simp at hj
theorem zC9 {size n:Nat}{base:Nat}(h:w.ownsRow base t size v n xs):∃A c,v=.slice A n c/\n<=c/\c<=maxLen/\∀k u,xs[k]? =some u->∃g,A=some ⟨g,0,none⟩/\base<=g/\g<w.heap.size/\kKa w g k u:=by
 rcases h.2 with⟨e,h0⟩|⟨g,cap,cur,e,hb,hh,h1,h2,_⟩
 ·refine⟨none,0,by rw[e,h0],by omega,by unfold maxLen;omega,fun k u hu=>?_⟩;have:=(List.getElem?_eq_some_iff.1 hu).1;rw[h.1,h0]at this;omega
 ·refine⟨some ⟨g,0,none⟩,cap,e,h1,h2,fun k u hu=>⟨g,rfl,hb,lt_of_block hh,?_,by simp[World.frozen?,hh]⟩⟩;have:=h.cells (g:=g) (by rw[e];rfl) k u hu;rwa[add_plain,Nat.zero_add]at this
theorem kAq {w7:World}{base:Nat}{lf:Bool}{ps:List Pr}{tx:List Int}{PA:Option Addr}{n:Nat}{ks:List NT}
  (h:zNk P wb base d lf ps tx gO PA pc TA tc vK n us ks wr) (hf:zIo ps/\ps.length<=4398046511104/\tx.length<=35184372088832/\ks.length<=1759218604441/\ps.length<=pc/\tx.length<=tc) (hs:wr.heap.size<=w7.heap.size) (h7:∀b,P b->b<wr.heap.size->w7.heap[b]? =wr.heap[b]?):
  kMo (fun b=>P b/\b<w7.heap.size) (d+1) w7 (.agg #[.bool lf,.slice PA ps.length pc,.slice TA tx.length tc,vK]) (.mk lf ps tx ks):=by
 have hrow:=h.row;obtain⟨KA,kc,rfl,hnc,hcm,hfree⟩:=zC9 hrow;have sO:(Value.slice KA 0 0).ownBlock=(Value.slice KA n kc).ownBlock:=by cases KA<;>rfl
 have hP:∀b,zK8 P gO (.slice KA n kc) wr b->((P b/\b<w7.heap.size)/\some b≠(Value.slice KA 0 0).ownBlock):=fun b hb=>⟨⟨hb.1,by have:=hb.2.1;omega⟩,by rw[sO];exact hb.2.2.2⟩;have hK:∀p:Addr,zK8 P gO (.slice KA n kc) wr p.block->w7.cell? p=wr.cell? p/\w7.frozen? p=wr.frozen? p:=fun p hp=>
  ⟨World.cell?_of_block (h7 _ hp.1 hp.2.1),World.frozen?_of_block (h7 _ hp.1 hp.2.1)⟩
 have h4:∀x ∈ us,x.cells.size=4:=fun x hx=>by
  obtain⟨j,hj,rfl⟩:=List.mem_iff_getElem.1 hx;obtain⟨u,hu,ht⟩:=h.kids j _ (List.getElem?_eq_getElem (by rw[h.num,<-h.len];exact hj));rw[List.getElem?_eq_getElem hj]at hu;injection hu with hu;obtain⟨c0,c1,c2,c3,e⟩:=ht.four;rw[hu,e];rfl
 refine⟨PA,pc,TA,tc,KA,kc,by rw[<-h.num];rfl,h.props.keep hP hK,h.text.keep hP hK,⟨hf.1,hf.2.1,hf.2.2.1,hf.2.2.2.1,hf.2.2.2.2.1,hf.2.2.2.2.2,by show ks.length<=kc;rw[h.num];exact hnc⟩,fun k m hm=>?_⟩;have hk:k<ks.length:=(List.getElem?_eq_some_iff.1 hm).1;obtain⟨u,hu,ht⟩:=h.kids k m hm;obtain⟨c0,c1,c2,c3,e⟩:=ht.four;have hc:=fun i c hi=>hfree (k*4+i) c (zJ5 us k u c0 c1 c2 c3 h4 hu e i c hi);obtain⟨g,hg,hgb,hgl,_,_⟩:=hc 0 c0 rfl;subst hg;have uS:w7.heap[g]? =wr.heap[g]? :=h7 g (h.up g hgb) hgl;have hc':∀i c,[c0,c1,c2,c3][i]? =some c->w7.cell? ⟨g,k*4+i,none⟩=some c/\w7.frozen? ⟨g,k*4+i,none⟩=false:=fun i c hi=>by
  obtain⟨g',e',_,_,h5,h6⟩:=hc i c hi;injection e' with e';injection e' with e';subst e';exact⟨(World.cell?_of_block (a:=⟨g,k*4+i,none⟩) uS).trans h5,(World.frozen?_of_block (a:=⟨g,k*4+i,none⟩) uS).trans h6⟩
 refine⟨g,u,rfl,⟨h.up g hgb,by omega⟩,ht.keep hP hK,⟨c0,c1,c2,c3,e,?_,?_,?_,?_⟩,fun i hi=>?_⟩
 ·rw[Nat.zero_add];exact(hc' 0 c0 rfl).1
 ·rw[Nat.zero_add];exact(hc' 1 c1 rfl).1
 ·rw[Nat.zero_add];exact(hc' 2 c2 rfl).1
 ·rw[Nat.zero_add];exact(hc' 3 c3 rfl).1
 ·match i,hi with
  |0,_=>exact(hc' 0 c0 rfl).2
  |1,_=>exact(hc' 1 c1 rfl).2
  |2,_=>exact(hc' 2 c2 rfl).2
  |3,_=>exact(hc' 3 c3 rfl).2
def zGg (us:List Value):List Value:=us.flatMap fun u=>u.cells.toList
theorem zEp {ty:TypeId}{base e size n:Nat}{i:TypeInfo}(ht:Tryz.prog.underlying t=some (.slice e))(hi:Tryz.prog.info? e=some i)(hown:w.ownsRow base e size v n xs):
  (Builtin.append_ #[t,t] ty #[v,.slice A 0 c]).run Tryz.prog w=.ok v w:=by
 rcases hown.2 with⟨rfl,rfl⟩|⟨g,cap,cur,rfl,_,_,hnc,_⟩
 ·cases A<;>simp[Builtin.append_,run_underlying ht,sizeOf,typeInfo,hi,Builtin.lenOf,Builtin.firstCells,loadCells,loadCellsFrom]
 ·cases A<;>simp[Builtin.append_,run_underlying ht,sizeOf,typeInfo,hi,Builtin.lenOf,Builtin.firstCells,loadCells,loadCellsFrom,hnc,storeCells]
theorem zIr {size n:Nat}{base:Nat}(h:w.ownsRow base t size (.slice A n c) n xs):VP (fun b=>base<=b/\b<w.heap.size) w A xs:=fun k u hu=>by
 obtain⟨A',c',e,_,_,hf⟩:=zC9 h;injection e with e1 e2 e3;subst e1 e3;obtain⟨g,e,h1,h2,h3⟩:=hf k u hu;exact⟨g,0,e,⟨h1,h2⟩,by rw[Nat.zero_add];exact h3⟩
theorem zPm {size n:Nat}{base:Nat}(h:w.ownsRow base t size (.slice A n c) n xs):n<=c:=by
 obtain⟨A',c',e,h1,_,_⟩:=zC9 h;injection e with e1 e2 e3;rw[e3];exact h1
theorem kAr {o X:Obj}{row:Option Nat}(hg:(w4.alloc o).grownBy w6 row)(h:w4.heap[gO]? =some X)(hne:row≠some gO):w6.heap[gO]? =some X:=by
 have hl:=lt_of_block h;exact(hg.block gO Kf (fun e=>hne e.symm)).trans ((Below.heap_alloc w4 o gO hl).trans h)
