import Derived.Test.YtmglnjmnabjjgaaGreatJBVar
set_option maxRecDepth 4000
set_option maxHeartbeats 8000000
namespace Go.Proofs.YtmglnjmnabjjgaaGreat
open Go.RowKit
variable {l:List Pr}{k:ByteArray}{v:Value}{A:Option Addr}
def Fit (l:List Pr):Prop:=l.length<=60/\∀p ∈ l,p.1.size<=100/\p.2.size<=100
theorem Fit.at_ (h:Fit l){k:Nat}(hk:k<l.length):(jU l k).1.size<=100/\(jU l k).2.size<=100:=by
 rw[zB7 l k hk];exact h.2 _ (List.getElem_mem hk)
theorem Fit.wide (h:Fit l):zIo l:=⟨by have:=h.1;omega,fun p hp=>by have:=h.2 p hp;omega⟩
def zMs (n:Nat)(L:Nat->List Pr):Int:=(((List.range n).map fun k=>chk (L k)).find? (· !=0)).getD 0
theorem zIz (n:Nat)(L:Nat->List Pr)(h:∀j,j<n->chk (L j)=0):zMs n L=0:=by
 unfold zMs;rw[List.find?_eq_none.2]
 ·rfl
 ·intro x hx;obtain⟨j,hj,rfl⟩:=List.mem_map.1 hx;simp[h j (List.mem_range.1 hj)]
theorem zGd (n:Nat)(L:Nat->List Pr)(k:Nat)(hk:k<n)(h0:∀j,j<k->chk (L j)=0)(h:chk (L k)≠0):zMs n L=chk (L k):=by
 unfold zMs;rw[zN1 (fun k=>chk (L k)) (· !=0) n k hk (fun j hj=>by simp[h0 j hj]) (by simpa using h)];rfl
def zB9 (l:List Pr):Prop:=l.Pairwise fun p q=>p.1≠q.1
theorem zTh (l:List Pr)(k:ByteArray)(p:Pr)(h:zI3 l k=some p):p ∈ l/\p.1=k:=by
 unfold zI3 at h;have h2:=List.find?_some h;exact⟨List.mem_of_find?_eq_some h,toList_inj (by simpa using h2)⟩
theorem zDb (hA:zB9 l){p:Pr}(hp:p ∈ l):zI3 l p.1=some p:=by
 induction l with
 |nil=>cases hp
 | cons q r ih=>
  obtain⟨h1,h2⟩:=List.pairwise_cons.1 hA;unfold zI3;rw[List.find?_cons];rcases List.mem_cons.1 hp with rfl|hr
  ·simp
  ·have hne:(q.1.toList==p.1.toList)=false:=by
    rw[beq_eq_false_iff_ne];exact fun e=>h1 p hr (toList_inj e)
   rw[hne];exact ih h2 hr
theorem zFc :zI3 l k=none ↔∀p ∈ l,p.1≠k:=by
 unfold zI3;rw[List.find?_eq_none];constructor
 ·intro h p hp e;exact h p hp (by rw[e];simp)
 ·intro h p hp e;exact h p hp (toList_inj (by simpa using e))
def zPe (l:List Pr)(k:ByteArray):List Pr:=l.filter fun p=>decide (p.1≠k)
theorem zRm (l:List Pr)(k q:ByteArray):zI3 (zPe l k) q=if q=k then none else zI3 l q:=by
 by_cases e:q=k
 ·subst e;rw[if_pos rfl,zFc];intro p hp;exact of_decide_eq_true (List.mem_filter.1 hp).2
 ·rw[if_neg e];unfold zPe zI3;induction l with
  |nil=>rfl
  |cons p r ih=>
   by_cases hk:p.1=k
   ·have hp:(p.1.toList==q.toList)=false:=by rw[beq_eq_false_iff_ne];exact fun e'=>e (by rw[<-toList_inj e',hk])
    rw[List.filter_cons_of_neg (by simp[hk]),List.find?_cons,hp];exact ih
   ·rw[List.filter_cons_of_pos (by simp[hk]),List.find?_cons,List.find?_cons,ih]
theorem zZ3 (l:List Pr)(hA:zB9 l)(k:ByteArray):(zPe l k).length+(if(zI3 l k).isSome then 1 else 0)=l.length:=by
 induction l with
 |nil=>simp[zPe,zI3]
 |cons p r ih=>
  obtain⟨h1,h2⟩:=List.pairwise_cons.1 hA;have ih:=ih h2;unfold zPe zI3 at ih⊢;by_cases hk:p.1=k
  ·subst hk;have hr:r.filter (fun q=>decide (q.1≠p.1))=r:=List.filter_eq_self.2 fun q hq=>by simpa using fun e:q.1=p.1=>h1 q hq e.symm
   rw[List.filter_cons_of_neg Kc,List.find?_cons,hr];simp
  ·have hp:(p.1.toList==k.toList)=false:=by rw[beq_eq_false_iff_ne];exact fun e'=>hk (toList_inj e')
   rw[List.filter_cons_of_pos (by simp[hk]),List.find?_cons,hp];simp only[List.length_cons];omega
theorem zMt (l:List Pr)(n:Nat)(hn:n<l.length):l.take (n+1)=l.take n++[((jU l n).1,(jU l n).2)]:=by
 rw[List.take_succ_eq_append_getElem hn,zB7 l n hn]
theorem zMu (l:List Pr)(hA:zB9 l)(n:Nat)(hn:n<l.length):zI3 (l.take n) (jU l n).1=none:=by
 rw[zFc];intro p hp e;obtain⟨j,hj,rfl⟩:=List.mem_iff_getElem.1 hp;rw[List.length_take]at hj;rw[List.getElem_take,zB7 l n hn]at e;exact List.pairwise_iff_getElem.1 hA j n Kb hn Kb e
def zGz (l:List Pr)(p:Pr):Bool:=l.any (zJr p)
theorem zDo (l:List Pr)(p:Pr):zGz l p=true ↔ p ∈ l:=by
 unfold zGz;rw[List.any_eq_true];constructor
 ·rintro⟨q,hq,h⟩;rw[(zIa p q).1 h];exact hq
 ·exact fun h=>⟨p,h,(zIa p p).2 rfl⟩
theorem kDn (l:List Pr)(hA:zB9 l)(k v:ByteArray):zGz l (k,v)=(zKz l k&&(kJv l k).toList==v.toList):=by
 rw[Bool.eq_iff_iff,zDo];unfold zKz kJv;cases hf:zI3 l k with
 |none=>
  rw[zFc]at hf;simp only[Option.isSome_none,Bool.false_and,Bool.false_eq_true,iff_false];exact fun h=>hf (k,v) h rfl
 |some p=>
  obtain⟨h1,h2⟩:=zTh l k p hf;simp only[Option.isSome_some,Bool.true_and,Option.getD_some];rw[beq_iff_eq];constructor
  ·intro h;have:=zDb hA h;rw[hf]at this;cases this
   rfl
  ·intro h;obtain⟨p1,p2⟩:=p;cases h2
   rw[<-toList_inj h];exact h1
theorem zJt :∀a:List UInt8,Op.bytesLess a a=false
 |[]=>rfl
 |a::x=>by
  rw[Op.bytesLess,zJt x];simp[UInt8.lt_irrefl]
theorem zPf :∀a b c:List UInt8,Op.bytesLess a b=true->Op.bytesLess b c=true->Op.bytesLess a c=true
 |[],[],_,h,_=>by simp[Op.bytesLess]at h
 |[],_::_,[],_,h=>by simp[Op.bytesLess]at h
 |[],_::_,_::_,_,_=>rfl
 |_::_,[],_,h,_=>by simp[Op.bytesLess]at h
 |_::_,_::_,[],_,h=>by simp[Op.bytesLess]at h
 |a::x,b::y,c::z,h1,h2=>by
  simp only[Op.bytesLess,Bool.or_eq_true,Bool.and_eq_true,decide_eq_true_iff,beq_iff_eq]at h1 h2⊢;rcases h1 with h1|⟨rfl,h1⟩
  ·rcases h2 with h2|⟨rfl,h2⟩
   ·exact Or.inl (UInt8.lt_trans h1 h2)
   ·exact Or.inl h1
  ·rcases h2 with h2|⟨rfl,h2⟩
   ·exact Or.inl h2
   ·exact Or.inr ⟨rfl,zPf x y z h1 h2⟩
theorem zPg :∀a b:List UInt8,Op.bytesLess a b=false->Op.bytesLess b a=false->a=b
 |[],[],_,_=>rfl
 |[],_::_,h,_=>by simp[Op.bytesLess]at h
 |_::_,[],_,h=>by simp[Op.bytesLess]at h
 |a::x,b::y,h1,h2=>by
  simp only[Op.bytesLess,Bool.or_eq_false_iff,decide_eq_false_iff_not,Bool.and_eq_false_imp,beq_iff_eq]at h1 h2;have e:a=b:=UInt8.le_antisymm (UInt8.not_lt.1 h2.1) (UInt8.not_lt.1 h1.1);subst e;rw[zPg x y (h1.2 rfl) (h2.2 rfl)]
def ltK (p q:Pr):Bool:=Op.bytesLess p.1.toList q.1.toList
theorem zIb (p:Pr):ltK p p=false:=zJt _
theorem zHp (p q r:Pr)(h1:ltK p q=true)(h2:ltK q r=true):ltK p r=true:=zPf _ _ _ h1 h2
theorem zMv (p q:Pr)(h1:ltK p q=false)(h2:ltK q p=false):p.1=q.1:=toList_inj (zPg _ _ h1 h2)
theorem zZ4 {p q r:Pr}(h:p.1=q.1):ltK p r=ltK q r/\ltK r p=ltK r q:=by unfold ltK;rw[h];exact⟨rfl,rfl⟩
theorem zOc (p q r:Pr)(h1:ltK p q=false)(h2:ltK q r=false):ltK p r=false:=by
 cases h:ltK p r
 ·rfl
 ·cases h3:ltK q p
  ·rw[(zZ4 (zMv p q h1 h3)).1,h2]at h;cases h
  ·rw[zHp q p r h3 h]at h2;cases h2
theorem zZ5 (p q:Pr):leB p.1 q.1=true ↔ ltK q p=false:=by
 unfold leB;constructor
 ·intro h;cases h2:ltK q p
  ·rfl
  ·simp only[Bool.or_eq_true,beq_iff_eq]at h;rcases h with h|h
   ·have:=zPf _ _ _ h h2;rw[zJt]at this;cases this
   ·unfold ltK at h2;rw[h,zJt]at h2;cases h2
 ·intro h;cases h2:Op.bytesLess p.1.toList q.1.toList
  ·simp only[Bool.false_or,beq_iff_eq];exact zPg _ _ h2 h
  ·rfl
def zIp (l:List Pr):Prop:=l.Pairwise fun p q=>ltK p q=true
theorem zIp.apart (h:zIp l):zB9 l:=h.imp fun{p q} iQ e=>by
 rw[(zZ4 e).1,zIb]at iQ;cases iQ
theorem zEw :∀{l m:List Pr},zIp l->zIp m->(∀p,p ∈ l ↔ p ∈ m)->l=m
 |[],[],_,_,_=>rfl
 |[],b::s,_,_,h=>by have:=(h b).2 Kc;simp at this
 |a::r,[],_,_,h=>by have:=(h a).1 Kc;simp at this
 | a::r,b::s,h1,h2,h=>by
  obtain⟨a1,a2⟩:=List.pairwise_cons.1 h1;obtain⟨b1,b2⟩:=List.pairwise_cons.1 h2;have no:∀{p q:Pr},ltK p q=true->ltK q p=true->False:=fun{p q} x y=>by
   have:=zHp p q p x y;rw[zIb]at this;cases this
  have hab:a=b:=by
   rcases List.mem_cons.1 ((h a).1 Kc)with e|ha
   ·exact e
   ·rcases List.mem_cons.1 ((h b).2 Kc)with e|hb
    ·exact e.symm
    ·exact(no (a1 b hb) (b1 a ha)).elim
  subst hab;rw[zEw a2 b2 fun p=>⟨fun hp=>by
   rcases List.mem_cons.1 ((h p).1 (by simp[hp]))with e|hp'
   ·subst e;exact(no (a1 p hp) (a1 p hp)).elim
   ·exact hp',fun hp=>by
   rcases List.mem_cons.1 ((h p).2 (by simp[hp]))with e|hp'
   ·subst e;exact(no (b1 p hp) (b1 p hp)).elim
   ·exact hp'⟩]
def srt (l:List Pr):List Pr:=l.mergeSort fun p q=> !ltK q p
theorem zPh (l:List Pr):(srt l).Perm l:=List.mergeSort_perm _ _
theorem zPi (l:List Pr)(p:Pr):p ∈ srt l ↔ p ∈ l:=(zPh l).mem_iff
theorem zE2 (l:List Pr):(srt l).length=l.length:=(zPh l).length_eq
theorem zGe (l:List Pr)(h:zB9 l):zIp (srt l):=by
 have h1:(srt l).Pairwise fun p q=>(!ltK q p)=true:=by
  unfold srt;refine List.pairwise_mergeSort (fun a b c h1 h2=>?_) (fun a b=>?_) l
  ·simp only[Bool.not_eq_true']at h1 h2⊢;exact zOc c b a h2 h1
  ·cases h:ltK b a
   ·rfl
   ·cases h2:ltK a b
    ·rfl
    ·have:=zHp a b a h2 h;rw[zIb]at this;cases this
 have h2:zB9 (srt l):=((zPh l).pairwise_iff (fun{a b} hab=>Ne.symm hab)).2 h;refine(h1.and h2).imp fun{p q}⟨x,y⟩=>?_;cases iQ:ltK p q
 ·exact absurd (zMv p q iQ (by simpa using x)) y
 ·rfl
theorem kKn {m:List Pr}(h:zIp m)(hp:m.Perm l):m=srt l:=
 zEw h (zGe l ((hp.pairwise_iff (R:=fun p q:Pr=>p.1≠q.1) (fun{_a _b} hab=>Ne.symm hab)).1 h.apart)) fun p=>(hp.mem_iff).trans (zPi l p).symm
theorem zZ6 (l:List Pr)(h:chk l=0):l.length<=16/\∀k,k<l.length->zEt l k=0:=by
 unfold chk at h;by_cases j6:16<l.length
 ·rw[if_pos j6]at h;cases h
 ·rw[if_neg j6]at h;refine⟨by omega,fun k=>?_⟩;induction k using Nat.strongRecOn with
  |ind k ih=>
   intro hk;cases e:zEt l k !=0
   ·simpa using e
   ·have:=zI9 l k hk (fun j hj=>ih j hj Kb) (by simpa using e);rw[h]at this;exact this.symm
theorem zOd {k:Nat}(h:zEt l k=0):zVt (jU l k).1=true/\zXo (jU l k).2=true/\(0<k->leB (jU l k).1 (jU l (k-1)).1=false):=by
 unfold zEt at h;by_cases h1:(zVt (jU l k).1&&zXo (jU l k).2)=false
 ·rw[if_pos h1]at h;cases h
 ·rw[if_neg h1]at h;by_cases h2:(decide (0<k)&&leB (jU l k).1 (jU l (k-1)).1)=true
  ·rw[if_pos h2]at h;cases h
  ·simp only[Bool.and_eq_false_imp,Bool.not_eq_false,Classical.not_imp,Bool.and_eq_true,decide_eq_true_iff]at h1 h2;refine⟨h1.1,by simpa using h1.2,fun hk=>?_⟩;cases h3:leB (jU l k).1 (jU l (k-1)).1
   ·rfl
   ·exact absurd ⟨hk,h3⟩ h2
theorem zC8 (l:List Pr):chk l=0 ↔ l.length<=16/\(∀p ∈ l,zVt p.1=true/\zXo p.2=true)/\zIp l:=by
 constructor
 ·intro h;obtain⟨j6,hs⟩:=zZ6 l h;refine⟨j6,fun p hp=>?_,?_⟩
  ·obtain⟨j,hj,rfl⟩:=List.mem_iff_getElem.1 hp;have:=zOd (hs j hj);rw[zB7 l j hj]at this;exact⟨this.1,this.2.1⟩
  ·have step:∀k(hk:k+1<l.length),ltK (l[k]'Kb) l[k+1]=true:=by
    intro k hk;have:=(zOd (hs (k+1) hk)).2.2 Kb;rw[zB7 l (k+1) hk,Nat.add_sub_cancel,zB7 l k Kb]at this;cases h2:ltK (l[k]'Kb) l[k+1]
    ·rw[(zZ5 _ _).2 h2]at this;cases this
    ·rfl
   unfold zIp;rw[List.pairwise_iff_getElem];intro i j hi hj hij;obtain⟨d,rfl⟩:∃d,j=i+1+d:=⟨j-i-1,by omega⟩;clear hij;induction d with
   |zero=>exact step i hj
   |succ d ih=>exact zHp _ _ _ (ih Kb) (step (i+1+d) hj)
 ·rintro⟨j6,hk,hr⟩;unfold chk;rw[if_neg Kb];refine zLz l fun j hj=>?_;unfold zEt;have hm:=hk _ (List.getElem_mem hj);rw[zB7 l j hj,hm.1,hm.2];rw[if_neg Kc,if_neg];simp only[Bool.and_eq_true,decide_eq_true_iff,not_and];intro h0 h1;rw[zB7 l (j-1) Kb]at h1;have h2:=List.pairwise_iff_getElem.1 hr (j-1) j Kb hj Kb;rw[(zZ5 _ _).1 h1]at h2;cases h2
theorem zIc (h:chk l=0):Fit l:=by
 obtain⟨h1,h2,_⟩:=(zC8 l).1 h;refine⟨by omega,fun p hp=>?_⟩;have:=h2 p hp;unfold zVt zXo at this;simp only[Bool.and_eq_true,decide_eq_true_iff]at this;omega
theorem zBv (h:chk l=0):zB9 l:=((zC8 l).1 h).2.2.apart
def zD1 (l m:List Pr):List Pr:=l.filter fun p=> !zGz m p
theorem zC2 (l m:List Pr)(p:Pr):p ∈ zD1 l m ↔ p ∈ l/\p ∉ m:=by
 unfold zD1;rw[List.mem_filter];constructor
 ·rintro⟨h1,h2⟩;refine⟨h1,fun h=>?_⟩;rw[(zDo m p).2 h]at h2;cases h2
 ·rintro⟨h1,h2⟩;refine⟨h1,?_⟩;cases h:zGz m p
  ·rfl
  ·exact absurd ((zDo m p).1 h) h2
theorem zZ7 (l:List Pr):zD1 l []=l:=List.filter_eq_self.2 fun _ _=>rfl
theorem zD2 (h:zB9 l)(m:List Pr):zB9 (zD1 l m):=List.Pairwise.filter _ h
theorem zZ8 (l m:List Pr):(zD1 l m).length<=l.length:=List.length_filter_le _ _
theorem zRn (m k:List Pr)(p:Pr):zGz (m++k) p=(zGz m p||zGz k p):=by unfold zGz;rw[List.any_append]
theorem zZ9 (hA:zB9 l)(m:List Pr)(q:Pr)(h:zGz (zD1 l m) q=true):zD1 l (m++[q])=zPe (zD1 l m) q.1:=by
 have hq:=(zC2 l m q).1 ((zDo _ _).1 h);unfold zD1 zPe;rw[List.filter_filter];refine List.filter_congr fun p hp=>?_;rw[zRn];have e:zGz [q] p=decide (p.1=q.1):=by
  rw[Bool.eq_iff_iff,zDo,List.mem_singleton,decide_eq_true_iff];constructor
  ·rintro rfl;rfl
  ·intro hk;have h1:=zDb hA hp;have h2:=zDb hA hq.1;rw[hk,h2]at h1;exact(Option.some.inj h1).symm
 rw[e];by_cases hk:p.1=q.1
 ·simp[hk]
 ·simp[hk]
def kMi {α:Type}(x y:α):Nat->α:=fun k=>if k=0 then x else y
def zGf {α:Type}(x y z:α):Nat->α:=fun k=>if k=0 then x else if k=1 then y else z
def kFk (l m:List Pr):Int:=if chk l=0 then chk m else chk l
def chk3 (l m n:List Pr):Int:=if chk l=0 then kFk m n else chk l
theorem kMj (l m:List Pr):zMs 2 (kMi l m)=kFk l m:=by
 unfold kFk;by_cases h:chk l=0
 ·rw[if_pos h];by_cases h2:chk m=0
  ·rw[h2];exact zIz 2 _ fun j hj=>by
    match j,hj with
    |0,_=>exact h
    |1,_=>exact h2
  ·exact zGd 2 (kMi l m) 1 Kb (fun j hj=>by have e0:j=0:=Kb;subst e0;exact h) h2
 ·rw[if_neg h];exact zGd 2 (kMi l m) 0 Kb (fun j hj=>by omega) h
theorem kHo (l m n:List Pr):zMs 3 (zGf l m n)=chk3 l m n:=by
 unfold chk3 kFk;by_cases h:chk l=0
 ·rw [if_pos h];by_cases h2:chk m=0
  ·rw[if_pos h2];by_cases h3:chk n=0
   ·rw[h3];exact zIz 3 _ fun j hj=>by
     match j,hj with
     |0,_=>exact h
     |1,_=>exact h2
     |2,_=>exact h3
   ·exact zGd 3 (zGf l m n) 2 Kb (fun j hj=>by
     match j,hj with
     |0,_=>exact h
     |1,_=>exact h2) h3
  ·rw[if_neg h2];exact zGd 3 (zGf l m n) 1 Kb (fun j hj=>by have e0:j=0:=Kb;subst e0;exact h) h2
 ·rw[if_neg h];exact zGd 3 (zGf l m n) 0 Kb (fun j hj=>by omega) h
def zMw (l new:List Pr):Bool:=new.any fun p=>zKz l p.1
def zG0 (l old:List Pr):Bool:=old.any fun p=> !zGz l p
def zDp (l old new:List Pr):Int:=if zG0 l old=true then 9 else if zMw (zD1 l old) new=true then 9 else if 16<(zD1 l old).length+new.length then 2 else 0
def zA7 (l old new:List Pr):List Pr:=srt (zD1 l old++new)
theorem zWw {old:List Pr}{n:Nat}(hn:n<old.length)(h:zGz l ((jU old n).1,(jU old n).2)=false):zG0 l old=true:=by
 unfold zG0;rw[List.any_eq_true];refine⟨_,List.getElem_mem hn,?_⟩;rw[zB7 old n hn]at h;rw[show old[n]=(old[n].1,old[n].2)from rfl,h];rfl
theorem zTi {old:List Pr}(h:∀j,j<old.length->zGz l ((jU old j).1,(jU old j).2)=true):zG0 l old=false:=by
 unfold zG0;rw[List.any_eq_false];intro p hp;obtain⟨j,hj,rfl⟩:=List.mem_iff_getElem.1 hp;have:=h j hj;rw[zB7 old j hj]at this;rw[show old[j]=(old[j].1,old[j].2)from rfl,this];simp
theorem kDo {new:List Pr}{n:Nat}(hn:n<new.length)(h:zKz l (jU new n).1=true):zMw l new=true:=by
 unfold zMw;rw[List.any_eq_true];refine⟨_,List.getElem_mem hn,?_⟩;rw[zB7 new n hn]at h;exact h
theorem kAa {new:List Pr}(h:∀j,j<new.length->zKz l (jU new j).1=false):zMw l new=false:=by
 unfold zMw;rw[List.any_eq_false];intro p hp;obtain⟨j,hj,rfl⟩:=List.mem_iff_getElem.1 hp;have:=h j hj;rw[zB7 new j hj]at this;rw[this];simp
theorem kDp {old:List Pr}(hO:zB9 old){n:Nat}(hn:n<old.length):zGz (zD1 l (old.take n)) ((jU old n).1,(jU old n).2)=zGz l ((jU old n).1,(jU old n).2):=by
 rw[Bool.eq_iff_iff,zDo,zDo,zC2];constructor
 ·exact fun h=>h.1
 ·intro h;refine⟨h,fun hm=>?_⟩;have h1:=zFc.1 (zMu old hO n hn) _ hm;exact h1 rfl
theorem zTj (l m:List Pr)(k:ByteArray):zKz (l++m) k=(zKz l k||zKz m k):=by
 unfold zKz zI3;rw[List.find?_append];cases List.find? (fun p=>p.1.toList==k.toList) l<;>simp
theorem kAb {new:List Pr}(hN:zB9 new){n:Nat}(hn:n<new.length):zKz (l++new.take n) (jU new n).1=zKz l (jU new n).1:=by
 rw[zTj];have:zKz (new.take n) (jU new n).1=false:=by unfold zKz;rw[zMu new hN n hn];rfl
 rw[this,Bool.or_false]
theorem zHq (h:zKz l k=false):zI3 l k=none:=by
 unfold zKz at h;cases hf:zI3 l k with
 |none=>rfl
 |some p=>rw[hf]at h;cases h
theorem kAc {new:List Pr}(hl:zB9 l)(hN:zB9 new)(h:zMw l new=false):zB9 (l++new):=by
 unfold zB9;rw[List.pairwise_append];refine⟨hl,hN,fun a ha b hb e=>?_⟩;unfold zMw at h;rw[List.any_eq_false]at h;have h1:=h b hb;have:=zHq (by simpa using h1);exact zFc.1 this a ha e
theorem zU2 :zKz l k=true ↔∃p ∈ l,p.1=k:=by
 cases h:zKz l k
 ·have:=zFc.1 (zHq h);simp only[Bool.false_eq_true,false_iff];rintro⟨p,hp,e⟩;exact this p hp e
 ·simp only[true_iff];unfold zKz at h;obtain⟨p,hp⟩:=Option.isSome_iff_exists.1 h;exact⟨p,zTh l k p hp⟩
structure Can (l old new:List Pr):Prop where
 l0:chk l=0
 o0:chk old=0
 n0:chk new=0
 among:∀p ∈ old,p ∈ l
 free:∀p ∈ zD1 l old,∀q ∈ new,p.1≠q.1
 room:(zD1 l old).length+new.length<=16
theorem kKo {old new:List Pr}(h:chk3 l old new=0)(h0:zDp l old new=0):Can l old new:=by
 unfold chk3 kFk at h;have e1:chk l=0:=by
  by_cases e:chk l=0
  ·exact e
  ·rw[if_neg e]at h;exact absurd h e
 rw[if_pos e1]at h;have e2:chk old=0:=by
  by_cases e:chk old=0
  ·exact e
  ·rw[if_neg e]at h;exact absurd h e
 rw[if_pos e2]at h;unfold zDp at h0;cases hs:zG0 l old
 ·cases hc:zMw (zD1 l old) new
  ·rw[hs,hc,if_neg Kc,if_neg Kc]at h0;refine⟨e1,e2,h,fun p hp=>?_,fun p hp q hq e=>?_,?_⟩
   ·unfold zG0 at hs;rw[List.any_eq_false]at hs;exact(zDo l p).1 (by simpa using hs p hp)
   ·unfold zMw at hc;rw[List.any_eq_false]at hc;exact hc q hq (zU2.2 ⟨p,hp,e⟩)
   ·by_cases e:16<(zD1 l old).length+new.length
    ·rw[if_pos e]at h0;cases h0
    ·omega
  ·rw[hs,hc,if_neg Kc,if_pos rfl]at h0;cases h0
 ·rw[hs,if_pos rfl]at h0;cases h0
theorem Can.chk3 {old new:List Pr}(h:Can l old new):chk3 l old new=0:=by
 unfold YtmglnjmnabjjgaaGreat.chk3 kFk;rw[if_pos h.l0,if_pos h.o0];exact h.n0
theorem Can.zero {old new:List Pr}(h:Can l old new):zDp l old new=0:=by
 unfold zDp;have hs:zG0 l old=false:=by
  unfold zG0;rw[List.any_eq_false];intro p hp;rw[(zDo l p).2 (h.among p hp)];simp
 have hc:zMw (zD1 l old) new=false:=by
  unfold zMw;rw[List.any_eq_false];intro q hq hb;obtain⟨p,hp,e⟩:=zU2.1 hb;exact h.free p hp q hq e
 rw[hs,hc,if_neg Kc,if_neg Kc,if_neg (by have:=h.room;omega)]
theorem Can.apart {old new:List Pr}(h:Can l old new):zB9 (zD1 l old++new):=by
 unfold zB9;rw[List.pairwise_append];exact⟨zD2 (zBv h.l0) old,zBv h.n0,fun p hp q hq=>h.free p hp q hq⟩
theorem Can.mem {old new:List Pr}(_:Can l old new)(p:Pr):p ∈ zA7 l old new ↔ (p ∈ l/\p ∉ old)∨p ∈ new:=by
 unfold zA7;rw[zPi,List.mem_append,zC2]
theorem Can.may {old new:List Pr}(h:Can l old new):chk (zA7 l old new)=0:=by
 refine(zC8 _).2 ⟨?_,fun p hp=>?_,zGe _ h.apart⟩
 ·unfold zA7;rw[zE2,List.length_append];exact h.room
 ·rcases(h.mem p).1 hp with hp|hp
  ·exact((zC8 l).1 h.l0).2.1 p hp.1
  ·exact((zC8 new).1 h.n0).2.1 p hp
def PE (l old new:List Pr):Int:=if chk3 l old new=0 then zDp l old new else chk3 l old new
def PLs (l old new:List Pr):List Pr:=if PE l old new=0 then zA7 l old new else[]
theorem zPj {old new:List Pr}:PE l old new=0 ↔ Can l old new:=by
 unfold PE;constructor
 ·intro h;by_cases h3:chk3 l old new=0
  ·rw[if_pos h3]at h;exact kKo h3 h
  ·rw[if_neg h3]at h;exact absurd h h3
 ·intro h;rw[if_pos h.chk3];exact h.zero
theorem Can.list {old new:List Pr}(h:Can l old new):PLs l old new=zA7 l old new:=by unfold PLs;rw[if_pos (zPj.2 h)]
section
variable {P:Program}{ops:Array Oper}{Q:Exit->Act->World->Prop}{S:World->Prop}{z:Nat->Bool}
def zCu (P:Program)(ops:Array Oper)(Q:Exit->Act->World->Prop)(S:World->Prop)(z:Nat->Bool):Nat->Array Bool->Act->World->Prop
 |0,listed,a,w=>Region.ready .any ops listed=[]/\Q .normal a w
 |n+1,listed,a,w=>(Region.ready .any ops listed=[]->Q .normal a w)/\
   ∀i ∈ Region.ready .any ops listed,wpOp P ops Q i (fun a' w'=>(z i=false->S w')/\zCu P ops Q S z n (listed.setIfInBounds i true) a' w') a w
theorem zT7 :∀(n:Nat)(listed:Array Bool)(a:Act)(w:World),zCu P ops Q S z n listed a w->wpAny P .any ops Q n listed a w
 |0,_,_,_,h=>h
 |n+1,_,_,_,h=>⟨h.1,fun i hi=>wpOp_mono (fun a' w' h'=>zT7 n _ a' w' h'.2) (h.2 i hi)⟩
def zT8 (ops:Array Oper)(z:Nat->Bool)(i:Nat):Bool:=(List.range ops.size).all fun j=> !z j||match ops[j]? with
 |some o=>o.after.toList.any fun e=>Region.binds .any e&&e.on==i
 |none=>false
theorem kB8 {i j:Nat}{o:Oper}(h:zT8 ops z i=true)(hj:ops[j]? =some o)(hz:z j=true):∃e ∈ o.after,Region.binds .any e=true/\e.on=i:=by
 have hl:=(Array.getElem?_eq_some_iff.1 hj).1;have h1:=List.all_eq_true.1 h j (List.mem_range.2 hl);rw[hz,hj]at h1;simp only[Bool.not_true,Bool.false_or]at h1;obtain⟨x,hx,hx2⟩:=List.any_eq_true.1 h1;simp only[Bool.and_eq_true,beq_iff_eq]at hx2;exact⟨x,by simpa using hx,hx2.1,hx2.2⟩
theorem zX2 {i:Nat}{oi:Oper}(hi:ops[i]? =some oi)(fh:Region.noSelect ops=true)(hz:zT8 ops z i=true)
  (hQ:∀c a w,Q (.panic c) (a.put oi.dst v) w->Q (.panic c) a w):
  ∀(n:Nat)(listed:Array Bool)(a:Act)(w:World),
   (∀j oj,ops[j]? =some oj->j≠i->listed.getD j true=false->(∀e ∈ oj.after,Region.binds .any e=true->e.on≠i)->oi.apart ops oj=true)->
   i ∈ Region.ready .any ops listed->YieldsIf P ops S oi v a->S w->
   zCu P ops Q S z n (listed.setIfInBounds i true) (a.put oi.dst v) w->zCu P ops Q S z (n+1) listed a w:=by
 have sel:=Region.noSelect_spec fh;intro n;induction n with
 |zero=>
  intro listed a w _ hr hy hS H;refine⟨fun h=>absurd hr (by rw[h];simp),fun j hj=>?_⟩;rcases Classical.em (j=i)with e|e
  ·subst e;exact hy.wpOp hi hS ⟨fun _=>hS,H⟩
  ·have:=ready_mono hj e;rw[H.1]at this;cases this
 | succ n ih=>
  intro listed a w hfree hr hy hS H;refine⟨fun h=>absurd hr (by rw[h];simp),fun j hj=>?_⟩;rcases Classical.em (j=i)with e|e
  ·subst e;exact hy.wpOp hi hS ⟨fun _=>hS,H⟩
  ·obtain⟨cE,oj,dv,hall⟩:=mem_ready.1 hj;have cF:=(mem_ready.1 hr).1;have hno:∀e ∈ oj.after,Region.binds .any e=true->e.on≠i:=fun x hx hb heq=>by
    have h1:=hall x hx hb;rw[heq]at h1;rcases Nat.lt_or_ge i listed.size with h'|h'
    ·simp[h']at cF h1;rw[cF]at h1;cases h1
    ·simp[Array.getElem?_eq_none h']at h1
   have xB:z j=false:=by
    cases ez:z j with
    |false=>rfl
    |true=>
     obtain⟨x,hx,hx2,hx3⟩:=kB8 hz dv ez;exact absurd hx3 (hno x hx hx2)
   have h2:=wpOp_putIf dv (hfree j oj dv e cE hno) (fun cs b=>sel i oi cs b hi) (fun cs b=>sel j oj cs b dv) hQ hy (H.2 j (ready_mono hj e));refine wpOp_mono (fun a' w' h3=>⟨h3.2.1,ih (listed.setIfInBounds j true) a' w' (fun k ok hk lN hun hn=>hfree k ok hk lN ?_ hn) (ready_mono hr (Ne.symm e)) h3.1 (h3.2.1 xB) ?_⟩) h2
   ·rcases Classical.em (j=k)with ek|ek
    ·subst ek;exact cE
    ·rw[getD_set_ne true ek]at hun;exact hun
   ·rw[Array.setIfInBounds_comm _ _ e];exact h3.2.2
theorem kJn {i:Nat}{oi:Oper}(pT:z i=true)(hi:ops[i]? =some oi)(fh:Region.noSelect ops=true)
  (hQ:∀c a w,Q (.panic c) (a.put oi.dst v) w->Q (.panic c) a w):
  ∀(n:Nat)(listed:Array Bool)(a:Act)(w:World),
   (∀j oj,ops[j]? =some oj->j≠i->listed.getD j true=false->(∀e ∈ oj.after,Region.binds .any e=true->e.on≠i)->oi.apart ops oj=true)->
   i ∈ Region.ready .any ops listed->YieldsIf P ops (fun _=>True) oi v a->
   zCu P ops Q S z n (listed.setIfInBounds i true) (a.put oi.dst v) w->zCu P ops Q S z (n+1) listed a w:=by
 have sel:=Region.noSelect_spec fh;intro n;induction n with
 |zero=>
  intro listed a w _ hr hy H;refine⟨fun h=>absurd hr (by rw[h];simp),fun j hj=>?_⟩;rcases Classical.em (j=i)with e|e
  ·subst e;exact hy.wpOp hi trivial ⟨fun h=>absurd (pT.symm.trans h) Kc,H⟩
  ·have:=ready_mono hj e;rw[H.1]at this;cases this
 | succ n ih=>
  intro listed a w hfree hr hy H;refine⟨fun h=>absurd hr (by rw[h];simp),fun j hj=>?_⟩;rcases Classical.em (j=i)with e|e
  ·subst e;exact hy.wpOp hi trivial ⟨fun h=>absurd (pT.symm.trans h) Kc,H⟩
  ·obtain⟨cE,oj,dv,hall⟩:=mem_ready.1 hj;have cF:=(mem_ready.1 hr).1;have hno:∀e ∈ oj.after,Region.binds .any e=true->e.on≠i:=fun x hx hb heq=>by
    have h1:=hall x hx hb;rw[heq]at h1;rcases Nat.lt_or_ge i listed.size with h'|h'
    ·simp[h']at cF h1;rw[cF]at h1;cases h1
    ·simp[Array.getElem?_eq_none h']at h1
   have h2:=wpOp_putIf dv (hfree j oj dv e cE hno) (fun cs b=>sel i oi cs b hi) (fun cs b=>sel j oj cs b dv) hQ hy (H.2 j (ready_mono hj e));refine wpOp_mono (fun a' w' h3=>⟨h3.2.1,ih (listed.setIfInBounds j true) a' w' (fun k ok hk lN hun hn=>hfree k ok hk lN ?_ hn) (ready_mono hr (Ne.symm e)) h3.1 ?_⟩) h2
   ·rcases Classical.em (j=k)with ek|ek
    ·subst ek;exact cE
    ·rw[getD_set_ne true ek]at hun;exact hun
   ·rw[Array.setIfInBounds_comm _ _ e];exact h3.2.2
theorem zH {i:Nat}{oi:Oper}(v:Value){n:Nat}{listed:Array Bool}{a:Act}{w:World}(hi:ops[i]? =some oi)(hs:Region.noSelect ops=true)(hz:zT8 ops z i=true)(hf:Region.free .any ops listed i=true)(hr:(Region.ready .any ops listed).contains i=true)
  (hQ:∀c a w,Q (.panic c) (a.put oi.dst v) w->Q (.panic c) a w) (hw:Region.wanted oi (yielded ops a.tmps)=true) (hy:∀w,S w->(execOp a.eval oi).run P w=.ok (.value v) w) (hS:S w)
  (h:zCu P ops Q S z n (listed.setIfInBounds i true) (a.put oi.dst v) w):zCu P ops Q S z (n+1) listed a w:=
 zX2 hi hs hz hQ n listed a w (Region.free_spec hi hf) (by simpa using hr) (.inl ⟨hw,hy⟩) hS h
theorem Kn {oi:Oper}(i n:Nat)(v:Value){listed:Array Bool}{a:Act}{w:World}(hy:∀w,S w->(execOp a.eval oi).run P w=.ok (.value v) w)(hS:S w)(h:zCu P ops Q S z n (listed.setIfInBounds i true) (a.put oi.dst v) w)(hi:ops[i]? =some oi:=by exact rfl)(hs:Region.noSelect ops=true:=by kernel_rfl)(hz:zT8 ops z i=true:=by kernel_rfl)(hf:Region.free .any ops listed i=true:=by kernel_rfl)(hr:(Region.ready .any ops listed).contains i=true:=by kernel_rfl)(hQ:∀c a w,Q (.panic c) (a.put oi.dst v) w->Q (.panic c) a w:=by exact fun _ _ _ h=>h)(hw:Region.wanted oi (yielded ops a.tmps)=true:=by first|kernel_rfl|rfl):zCu P ops Q S z (n+1) listed a w:=
 zH v hi hs hz hf hr hQ hw hy hS h
theorem Ko {oi:Oper}(i n:Nat)(v:Value){listed:Array Bool}{a:Act}{w:World}(hS:S w)(h:zCu P ops Q S z n (listed.setIfInBounds i true) (a.put oi.dst v) w)(hi:ops[i]? =some oi:=by exact rfl)(hy:∀w,S w->(execOp a.eval oi).run P w=.ok (.value v) w:=by intro _ _;go_simp)(hs:Region.noSelect ops=true:=by kernel_rfl)(hz:zT8 ops z i=true:=by kernel_rfl)(hf:Region.free .any ops listed i=true:=by kernel_rfl)(hr:(Region.ready .any ops listed).contains i=true:=by kernel_rfl)(hQ:∀c a w,Q (.panic c) (a.put oi.dst v) w->Q (.panic c) a w:=by exact fun _ _ _ h=>h)(hw:Region.wanted oi (yielded ops a.tmps)=true:=by first|kernel_rfl|rfl):zCu P ops Q S z (n+1) listed a w:=
 zH v hi hs hz hf hr hQ hw hy hS h
theorem zDd {i:Nat}{oi:Oper}(v:Value){n:Nat}{listed:Array Bool}{a:Act}{w:World}(pT:z i=true)(hi:ops[i]? =some oi)(hs:Region.noSelect ops=true)(hf:Region.free .any ops listed i=true)(hr:(Region.ready .any ops listed).contains i=true)
  (hQ:∀c a w,Q (.panic c) (a.put oi.dst v) w->Q (.panic c) a w) (hw:Region.wanted oi (yielded ops a.tmps)=true) (hy:∀w,(execOp a.eval oi).run P w=.ok (.value v) w)
  (h:zCu P ops Q S z n (listed.setIfInBounds i true) (a.put oi.dst v) w):zCu P ops Q S z (n+1) listed a w:=
 kJn pT hi hs hQ n listed a w (Region.free_spec hi hf) (by simpa using hr) (.inl ⟨hw,fun w _=>hy w⟩) h
theorem kB9 {i j:Nat}{o p:Oper}{n:Nat}{listed:Array Bool}{a:Act}{w:World}(hr:Region.ready .any ops listed=[i,j])(hi:ops[i]? =some o)(hj:ops[j]? =some p)
  (h:∀K:Act->World->Prop,(∀a' w',(z i=false->S w')->zCu P ops Q S z n (listed.setIfInBounds i true) a' w'->K a' w')->if Region.wanted o (yielded ops a.tmps)=true then Oper.wp P o a w K Q else False)
  (h':∀K:Act->World->Prop,(∀a' w',(z j=false->S w')->zCu P ops Q S z n (listed.setIfInBounds j true) a' w'->K a' w')->if Region.wanted p (yielded ops a.tmps)=true then Oper.wp P p a w K Q else False):zCu P ops Q S z (n+1) listed a w:=by
 refine⟨fun e=>absurd (e.symm.trans hr) Kc,fun k hk=>?_⟩;rw[hr]at hk;rcases List.mem_cons.1 hk with rfl|hk
 ·have h1:=h (fun a' w'=>(z k=false->S w')/\zCu P ops Q S z n (listed.setIfInBounds k true) a' w') (fun a' w' h1 h2=>⟨h1,h2⟩);unfold wpOp;simp only[hi];split
  ·rename_i hw
   rw[if_pos hw]at h1;exact .inl h1
  ·rename_i hw
   rw[if_neg hw]at h1;exact h1.elim
 ·rw[List.mem_singleton]at hk;subst hk;have h1:=h' (fun a' w'=>(z k=false->S w')/\zCu P ops Q S z n (listed.setIfInBounds k true) a' w') (fun a' w' h1 h2=>⟨h1,h2⟩);unfold wpOp;simp only[hj];split
  ·rename_i hw
   rw[if_pos hw]at h1;exact .inl h1
  ·rename_i hw
   rw[if_neg hw]at h1;exact h1.elim
theorem kJ {i:Nat}{o:Oper}{n:Nat}{listed:Array Bool}{a:Act}{w:World}(hr:Region.ready .any ops listed=[i])(hi:ops[i]? =some o)
  (h:∀K:Act->World->Prop,(∀a' w',(z i=false->S w')->zCu P ops Q S z n (listed.setIfInBounds i true) a' w'->K a' w')->if Region.wanted o (yielded ops a.tmps)=true then Oper.wp P o a w K Q else False):zCu P ops Q S z (n+1) listed a w:=by
 refine⟨fun e=>absurd (e.symm.trans hr) Kc,fun j hj=>?_⟩;rw[hr,List.mem_singleton]at hj;subst hj;have h1:=h (fun a' w'=>(z j=false->S w')/\zCu P ops Q S z n (listed.setIfInBounds j true) a' w') (fun a' w' h1 h2=>⟨h1,h2⟩);unfold wpOp;simp only[hi];split
 ·rename_i hw
  rw[if_pos hw]at h1;exact .inl h1
 ·rename_i hw
  rw[if_neg hw]at h1;exact h1.elim
theorem Kp {o:Oper}(i n:Nat){listed:Array Bool}{a:Act}{w:World}(h:∀K:Act->World->Prop,(∀a' w',(z i=false->S w')->zCu P ops Q S z n (listed.setIfInBounds i true) a' w'->K a' w')->if Region.wanted o (yielded ops a.tmps)=true then Oper.wp P o a w K Q else False)(hr:Region.ready .any ops listed=[i]:=by kernel_rfl)(hi:ops[i]? =some o:=by exact rfl):zCu P ops Q S z (n+1) listed a w:=kJ hr hi h
theorem zAl {n:Nat}{listed:Array Bool}{a:Act}{w:World}(hr:Region.ready .any ops listed=[])(h:Q .normal a w):zCu P ops Q S z n listed a w:=by
 cases n with
 |zero=>exact⟨hr,h⟩
 |succ n=>exact⟨fun _=>h,by rw[hr];simp⟩
theorem jO {id:Nat}{a:Act}{w:World}(hm:P.follows .mixedOrders=true)(h:zCu P ops Q S z ops.size (Array.replicate ops.size false) a w.drew):(Code.region id ops true).wp P Q a w:=
 wp_region_any hm (zT7 _ _ _ _ h)
end
open Go.WideShapes (add_plain)
structure zA5 (lo:Nat)(w w':World):Prop where
 size:w.heap.size<=w'.heap.size
 block:∀k,lo<=k->k<w.heap.size->w'.heap[k]? =w.heap[k]?
theorem zA5.refl (lo:Nat)(w:World):zA5 lo w w:=⟨Nat.le_refl _,fun _ _ _=>rfl⟩
theorem zA5.trans {lo:Nat}{a b c:World}(h:zA5 lo a b)(k:zA5 lo b c):zA5 lo a c:=⟨Nat.le_trans h.size k.size,fun i h1 h2=>(k.block i h1 (Nat.lt_of_lt_of_le h2 h.size)).trans (h.block i h1 h2)⟩
theorem zA5.below {lo:Nat}{w w':World}(h:Below w.heap.size w w'):zA5 lo w w':=⟨h.size,fun k _ hk=>h.block k hk⟩
theorem zA5.off {lo g:Nat}{w w':World}(h:Off g w w')(hg:g<lo):zA5 lo w w':=⟨h.size,fun k h1 h2=>h.block k h2 Kb⟩
theorem zA5.mono {lo lo':Nat}{w w':World}(h:zA5 lo w w')(hl:lo<=lo'):zA5 lo' w w':=⟨h.size,fun k h1 h2=>h.block k (Nat.le_trans hl h1) h2⟩
theorem zA5.cell {lo:Nat}{w w':World}(h:zA5 lo w w'){p:Addr}(h1:lo<=p.block)(h2:p.block<w.heap.size):w'.cell? p=w.cell? p:=World.cell?_of_block (h.block p.block h1 h2)
theorem zA5.frozen {lo:Nat}{w w':World}(h:zA5 lo w w'){p:Addr}(h1:lo<=p.block)(h2:p.block<w.heap.size):w'.frozen? p=w.frozen? p:=World.frozen?_of_block (h.block p.block h1 h2)
def zH3 (lo:Nat)(w:World)(P:World->Prop):Prop:=∀w',zA5 lo w w'->P w'
theorem zH3.high {lo:Nat}{w w':World}{P:World->Prop}(h:zH3 lo w P)(ho:zA5 lo w w'):zH3 lo w' P:=fun w2 h2=>h w2 (ho.trans h2)
theorem zH3.more {lo lo':Nat}{w:World}{P:World->Prop}(h:zH3 lo w P)(hl:lo'<=lo):zH3 lo' w P:=fun w2 h2=>h w2 (h2.mono hl)
structure Mid (lo hi:Nat)(w w':World):Prop where
 size:w.heap.size<=w'.heap.size
 block:∀k,lo<=k->k<hi->w'.heap[k]? =w.heap[k]?
theorem Mid.refl (lo hi:Nat)(w:World):Mid lo hi w w:=⟨Nat.le_refl _,fun _ _ _=>rfl⟩
theorem Mid.below {lo hi:Nat}{w W W':World}(h:Mid lo hi w W)(hb:Below W.heap.size W W')(hh:hi<=W.heap.size):Mid lo hi w W':=⟨Nat.le_trans h.size hb.size,fun k h1 h2=>(hb.block k Kb).trans (h.block k h1 h2)⟩
theorem Mid.off {lo hi g:Nat}{w W W':World}(h:Mid lo hi w W)(ho:Off g W W')(hh:hi<=W.heap.size)(hg:g<lo∨hi<=g):Mid lo hi w W':=⟨Nat.le_trans h.size ho.size,fun k h1 h2=>(ho.block k Kb Kb).trans (h.block k h1 h2)⟩
theorem Mid.high {lo:Nat}{w W W':World}(h:Mid lo w.heap.size w W)(hh:zA5 lo W W'):zA5 lo w W':=⟨Nat.le_trans h.size hh.size,fun k h1 h2=>(hh.block k h1 (Nat.lt_of_lt_of_le h2 h.size)).trans (h.block k h1 h2)⟩
def kLw (w:World)(a:OpP)(e:Ending)(w':World):Prop:=∃c,e=.returned (.agg (OC.row c))/\zH3 w.heap.size w' (fun W=>OkA W c a)/\Below w.heap.size w w'
def zIn (w:World)(r:OpP×Int)(e:Ending)(w':World):Prop:=∃c,e=.returned (.tuple #[.agg (OC.row c),.int .i64 r.2])/\zH3 w.heap.size w' (fun W=>OkA W c r.1)/\Below w.heap.size w w'
theorem zH3.now {lo:Nat}{w:World}{P:World->Prop}(h:zH3 lo w P):P w:=h w (zA5.refl _ _)
def kLx (w:World)(n:Nat)(P:World->Option Addr->Prop)(e:Ending)(w':World):Prop:=
 ∃A c,e=.returned (.slice A n c)/\n<=c/\zH3 w.heap.size w' (fun W=>P W A)/\Below w.heap.size w w'
theorem IL.high {lo:Nat}{w w':World}{l:List Int}(h:IL w w.heap.size A l)(hA:∀b o,A=some ⟨b,o,none⟩->lo<=b)(ho:zA5 lo w w'):IL w' w'.heap.size A l:=fun hn=>by
 obtain⟨b,o,e,hb,hc⟩:=h hn;exact⟨b,o,e,Nat.lt_of_lt_of_le hb ho.size,fun k hk=>(ho.cell (p:=⟨b,o+k,none⟩) (hA b o e) hb).trans (hc k hk)⟩
theorem zI6 {w:World}{B n c:Nat}{l:List Int}(ho:zBt w B (.slice A n c) l):zH3 B w (fun W=>IL W W.heap.size A l):=fun W hoff=>by
 have hown:=ho.own;obtain⟨A',c',e0,h1,_,h2⟩:=ho.open_;injection e0 with e1 _ _;subst e1;refine h2.high (fun b o e=>?_) hoff;rcases hown.2 with⟨e1,_⟩|⟨g',cap,cur,e1,hbg,_⟩
 ·injection e1 with e1;rw[e]at e1;cases e1
 ·injection e1 with e1;rw[e]at e1;injection e1 with e1;injection e1 with e2;omega
theorem zFz (A:Option Addr)(l:List Int)(n c:Nat)(w:World)(hn:l.length=n)(hl:n<=1000)(hp:IL w w.heap.size A l):
  Calls Tryz.prog 77 #[.slice A n c] w (kLx w n (fun W A'=>IL W W.heap.size A' l)):=by
 refine(kAm A l n c w hn hl hp).mono ?_;rintro e w' ⟨v,rfl,ho,hb⟩;have hown:=ho.own;obtain⟨A',c',rfl,h1,_,h2⟩:=ho.open_;subst hn;refine⟨A',c',rfl,h1,fun W' hoff=>h2.high (fun b o e=>?_) hoff,hb⟩;rcases hown.2 with⟨e1,_⟩|⟨g',cap,cur,e1,hbg,_⟩
 ·injection e1 with e1;rw[e]at e1;cases e1
 ·injection e1 with e1;rw[e]at e1;injection e1 with e1;injection e1 with e2;omega
theorem zQe (A:Option Addr)(l:List Pr)(n c:Nat)(w:World)(hn:l.length=n)(hl:n<=4398046511104)(hp:PL w w.heap.size A l):
  Calls Tryz.prog 138 #[.slice A n c] w (kLx w n (fun W A'=>PL W W.heap.size A' l)):=by
 subst hn;have hv:VL w w.heap.size A (pv l):=hp.vl;have HV:=hd hv;clear hp hv;rcases A with _|a
 ·have hnil:=fun W=>Go.Lib.run_eql_slice_nil (P:=Tryz.prog) W 22 103 none l.length c 0 0 Tryz.underlying22;have HL:=hd (show l=[] by
   rcases Classical.em (l=[])with h|h
   ·exact h
   ·obtain⟨_,_,h,_⟩:=HV.o (by intro e;have:=congrArg List.length e;rw[zN8]at this;exact h (by first|exact List.eq_nil_of_length_eq_zero (by simp at this;omega)|(simp at this;exact this)));cases h)
  go_enter Tryz.func138,Tryz.ntmps138
  go_wp2
  go_ret
  refine⟨none,0,by rw[HL.o];rfl,by rw[HL.o];simp,fun W' ho=>?_,Below.refl _ _⟩;rw[HL.o];first|exact PL.none _ _ _|exact VL.nil _ _ _
 ·have hnil:=fun W=>Go.Lib.run_eql_slice_nil (P:=Tryz.prog) W 22 103 (some a) l.length c 0 0 Tryz.underlying22;go_enter Tryz.func138,Tryz.ntmps138
  go_wp2_with(at_builtin;refine zBr zZh _ rfl (.tmp 5) (.tmp 6) rfl w.heap.size (.slice (some ⟨w.heap.size,0,none⟩) 0 0) 0 [] rfl (World.ownsRow_made w #[] 0 Kl Kg Kc) (some a) l.length c w.heap.size (pv l) rfl (by rw[zN8]<;>omega) (HV.o.below (Kk.alloc Kl _)) (zZg l) Kg Kb Kc rfl ?_;intro g cap w1 aB hg1)
  go_ret
  rw[Nat.zero_add,List.nil_append]at aB;have h1:=zHn aB;have hb1:Below w.heap.size w w1:=(Kk.alloc Kl _).grown hg1 Kc (fun j hj=>by simp[Value.ownBlock]at hj;omega);refine⟨some ⟨g,0,none⟩,cap,rfl,h1.2.2.2,fun W' ho=>?_,hb1⟩;have hvp:VP (fun b=>b<W'.heap.size) W' (some ⟨g,0,none⟩) (pv l):=fun k u hu=>by
   have hf:=h1.2.2.1 k u hu;exact⟨g,0,rfl,Nat.lt_of_lt_of_le h1.2.1 ho.size,by rw[Nat.zero_add];exact⟨(ho.cell (p:=⟨g,k,none⟩) h1.1 h1.2.1).trans hf.1,(ho.frozen (p:=⟨g,k,none⟩) h1.1 h1.2.1).trans hf.2⟩⟩
  exact hvp.pl (fun b hb=>hb)
theorem zX3 (A:Option Addr)(l:List Int)(n c:Nat)(w:World)(hn:l.length=n)(hl:n<=35184372088832)(hp:VL w w.heap.size A (rv l)):
  Calls Tryz.prog 139 #[.slice A n c] w (kLx w n (fun W A'=>VL W W.heap.size A' (rv l))):=by
 subst hn;have hv:VL w w.heap.size A (rv l):=hp;have HV:=hd hv;clear hp hv;rcases A with _|a
 ·have hnil:=fun W=>Go.Lib.run_eql_slice_nil (P:=Tryz.prog) W 23 21 none l.length c 0 0 Tryz.underlying23;have HL:=hd (show l=[] by
   rcases Classical.em (l=[])with h|h
   ·exact h
   ·obtain⟨_,_,h,_⟩:=HV.o (by intro e;have:=congrArg List.length e;rw[zCg]at this;exact h (by first|exact List.eq_nil_of_length_eq_zero (by simp at this;omega)|(simp at this;exact this)));cases h)
  go_enter Tryz.func139,Tryz.ntmps139
  go_wp2
  go_ret
  refine⟨none,0,by rw[HL.o];rfl,by rw[HL.o];simp,fun W' ho=>?_,Below.refl _ _⟩;rw[HL.o];first|exact PL.none _ _ _|exact VL.nil _ _ _
 ·have hnil:=fun W=>Go.Lib.run_eql_slice_nil (P:=Tryz.prog) W 23 21 (some a) l.length c 0 0 Tryz.underlying23;go_enter Tryz.func139,Tryz.ntmps139
  go_wp2_with(at_builtin;refine zBr zTa _ rfl (.tmp 5) (.tmp 6) rfl w.heap.size (.slice (some ⟨w.heap.size,0,none⟩) 0 0) 0 [] rfl (World.ownsRow_made w #[] 0 Kl Kg Kc) (some a) l.length c w.heap.size (rv l) rfl (by rw[zCg]<;>omega) (HV.o.below (Kk.alloc Kl _)) (zNz l) Kg Kb Kc rfl ?_;intro g cap w1 aB hg1)
  go_ret
  rw[Nat.zero_add,List.nil_append]at aB;have h1:=zHn aB;have hb1:Below w.heap.size w w1:=(Kk.alloc Kl _).grown hg1 Kc (fun j hj=>by simp[Value.ownBlock]at hj;omega);refine⟨some ⟨g,0,none⟩,cap,rfl,h1.2.2.2,fun W' ho=>?_,hb1⟩;have hvp:VP (fun b=>b<W'.heap.size) W' (some ⟨g,0,none⟩) (rv l):=fun k u hu=>by
   have hf:=h1.2.2.1 k u hu;exact⟨g,0,rfl,Nat.lt_of_lt_of_le h1.2.1 ho.size,by rw[Nat.zero_add];exact⟨(ho.cell (p:=⟨g,k,none⟩) h1.1 h1.2.1).trans hf.1,(ho.frozen (p:=⟨g,k,none⟩) h1.1 h1.2.1).trans hf.2⟩⟩
  exact hvp.vl (fun b hb=>hb)
