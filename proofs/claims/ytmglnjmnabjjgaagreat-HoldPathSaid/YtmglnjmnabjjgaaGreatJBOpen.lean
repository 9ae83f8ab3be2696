import Derived.Test.YtmglnjmnabjjgaaGreatJBAt
set_option maxRecDepth 4000
namespace Go.Proofs.YtmglnjmnabjjgaaGreat
open Go.ChangeShapes Go.WideShapes Go.RowKit Go.Deep
variable {k:ByteArray}{l:List Pr}{P:Program}{ops:Array Oper}{rest:List Oper}{op:Oper}{x:Operand}{pos:String}{af:Array Edge}
theorem zMj :Tryz.prog.underlying 35=some (.struct (Tryz.prog.fieldsOf 35)):=Ka
theorem kL1 :((Tryz.prog.fieldsOf 35)[0]?).map (fun f=>(f.type,f.offset))=some (3,0):=Ka
theorem kL2 :((Tryz.prog.fieldsOf 35)[1]?).map (fun f=>(f.type,f.offset))=some (27,1):=Ka
theorem kL3 :((Tryz.prog.fieldsOf 35)[2]?).map (fun f=>(f.type,f.offset))=some (27,2):=Ka
theorem kL4 :((Tryz.prog.fieldsOf 35)[3]?).map (fun f=>(f.type,f.offset))=some (3,3):=Ka
theorem kL5 :((Tryz.prog.fieldsOf 35)[4]?).map (fun f=>(f.type,f.offset))=some (26,4):=Ka
theorem kL6 :((Tryz.prog.fieldsOf 35)[5]?).map (fun f=>(f.type,f.offset))=some (22,8):=Ka
theorem kL7 :((Tryz.prog.fieldsOf 35)[6]?).map (fun f=>(f.type,f.offset))=some (22,9):=Ka
theorem kL8 :((Tryz.prog.fieldsOf 35)[7]?).map (fun f=>(f.type,f.offset))=some (23,10):=Ka
theorem kL9 :((Tryz.prog.fieldsOf 35)[8]?).map (fun f=>(f.type,f.offset))=some (33,11):=Ka
theorem kMa :((Tryz.prog.fieldsOf 35)[9]?).map (fun f=>(f.type,f.offset))=some (33,16):=Ka
theorem kG4 :(Tryz.prog.fieldsOf 35).size=10:=Ka
theorem kCu :Tryz.prog.cellsOf 35=21:=Ka
theorem kCv :(Tryz.prog.fieldsOf 35).toList.map (·.type)=[3,27,27,3,26,22,22,23,33,33]:=Ka
section
variable {H:Type}{enc:TypeId×Value->H}{W:World}{base:Nat}{held:Bool}
theorem zQ6 {fuel:Nat}{cs:List Value}{x:DataW H×List MemPlace}(h:DataW.trod enc Tryz.prog W base (fun _=>true) held fuel 27 cs=some x):
  ∃(A:Option Addr)(l:List Int)(c:Nat),cs=[.slice A l.length c]/\l.length<=9223372036854775807/\l.length<=c/\InI l/\IL W W.heap.size A l:=by
 rcases open_ints Tryz.underlying27 Tryz.underlying3 zHm h with⟨hcs,_⟩|⟨a,len,cap,zs,hcs,_,hl,hm,hz,_,hc,hw⟩
 ·exact⟨none,[],0,hcs,by decide,Nat.le_refl _,InI.nil,IL.nil _ _ _⟩
 ·simp only[if_true]at hz;have hlen:(zs.take len).length=len:=by simp;omega
  refine⟨some a,zs.take len,cap,by rw[hlen];exact hcs,by rw[hlen];unfold maxLen at hm;omega,by rw[hlen];exact hl,fun k hk=>(kG0 (fun n hn=>hw n (List.mem_of_mem_take hn)) k hk).symm,fun hn=>?_⟩;have h0:0<len:=by
   rcases Nat.eq_zero_or_pos len with h|h
   ·subst h;simp at hn
   ·exact h
  have hs:=zY9 (hc 0 Kb);simp only[Addr.add,if_true]at hs;obtain⟨b,o,s⟩:=a;obtain rfl:s=none:=hs.2;refine⟨b,o,rfl,hs.1,fun k hk=>?_⟩;rw[hlen]at hk;have h1:=hc k Kb;rw[add_plain]at h1;rw[h1,jY _ k Kb];simp[List.getD,show k<zs.length by omega]
theorem kMb {k:Int}(h:(Lit.int .i64 k).wf=true):zFf k:=by
 have e1:IntKind.i64.min= -9223372036854775808:=by decide
 have e2:IntKind.i64.max=9223372036854775807:=by decide
 simp[Lit.wf,e1,e2]at h;exact h
theorem kG5 {fuel:Nat}{cs:List Value}{x:DataW H×List MemPlace}(h:DataW.trod enc Tryz.prog W base (fun _=>true) held fuel 35 cs=some x)(hw:∀n ∈ x.1.weights Tryz.prog 35,n<=reachBytes):
  ∃c a,cs=c.row.toList/\OkA W c a:=by
 obtain⟨xs,f1,rfl,rfl,hcl,hxl,hf⟩:=DataW.trod_struct zMj h;rw[kCu]at hcl;rw[kG4]at hxl;obtain⟨t0,e0,g0⟩:=Option.map_eq_some_iff.1 kL1;obtain⟨t1,e1,g1⟩:=Option.map_eq_some_iff.1 kL2;obtain⟨t2,e2,g2⟩:=Option.map_eq_some_iff.1 kL3;obtain⟨t3,e3,g3⟩:=Option.map_eq_some_iff.1 kL4;obtain⟨t4,e4,g4⟩:=Option.map_eq_some_iff.1 kL5;obtain⟨t5,e5,g5⟩:=Option.map_eq_some_iff.1 kL6;obtain⟨t6,e6,g6⟩:=Option.map_eq_some_iff.1 kL7;obtain⟨t7,e7,g7⟩:=Option.map_eq_some_iff.1 kL8;obtain⟨t8,e8,g8⟩:=Option.map_eq_some_iff.1 kL9;obtain⟨t9,e9,g9⟩:=Option.map_eq_some_iff.1 kMa;simp only[Prod.mk.injEq]at g0 g1 g2 g3 g4 g5 g6 g7 g8 g9;have r0:=hf 0 t0 e0;have r1:=hf 1 t1 e1;have r2:=hf 2 t2 e2;have r3:=hf 3 t3 e3;have r4:=hf 4 t4 e4;have r5:=hf 5 t5 e5;have r6:=hf 6 t6 e6;have r7:=hf 7 t7 e7;have r8:=hf 8 t8 e8;have r9:=hf 9 t9 e9;rw[g0.1,g0.2,zHm]at r0;rw[g1.1,g1.2,zKh]at r1;rw[g2.1,g2.2,zKh]at r2;rw[g3.1,g3.2,zHm]at r3;rw[g4.1,g4.2,zKf]at r4;rw[g5.1,g5.2,zIx]at r5;rw[g6.1,g6.2,zIx]at r6;rw[g7.1,g7.2,zMc]at r7;rw[g8.1,g8.2,zMg]at r8;rw[g9.1,g9.2,zMg]at r9;clear hf h e0 e1 e2 e3 e4 e5 e6 e7 e8 e9 g0 g1 g2 g3 g4 g5 g6 g7 g8 g9;match cs,hcl,xs,hxl with
 |[c0,c1,c2,c3,c4,c5,c6,c7,c8,c9,c10,c11,c12,c13,c14,c15,c16,c17,c18,c19,c20],_,[x0,x1,x2,x3,x4,x5,x6,x7,x8,x9],_=>
  simp only[List.drop_zero,List.take_succ_cons,List.take_zero,List.drop_succ_cons,List.getElem?_cons_zero,List.getElem?_cons_succ]at r0 r1 r2 r3 r4 r5 r6 r7 r8 r9;have oF:∀n ∈ DataW.weightsEach Tryz.prog [3,27,27,3,26,22,22,23,33,33] [x0.1,x1.1,x2.1,x3.1,x4.1,x5.1,x6.1,x7.1,x8.1,x9.1],n<=reachBytes:=fun n hn=>hw n (by
   simp only[DataW.weights,zMj,kCv,List.map_cons,List.map_nil];exact hn)
  obtain⟨n0,k0,_,C2⟩:=DataW.trod_int Tryz.underlying3 r0;obtain⟨A,q,cq,k1,a1,a2,a3,a4⟩:=zQ6 r1;obtain⟨B,t,ct,k2,b1,b2,b3,b4⟩:=zQ6 r2;obtain⟨n3,k3,_,_⟩:=DataW.trod_int Tryz.underlying3 r3;obtain⟨d0,d1,d2,d3,n,k4,hn,_,_⟩:=zQ4 _ _ _ r4 (fun n hn=>oF n (DataW.weights_mem_each (j:=4) rfl rfl n hn));obtain⟨PO,o,po,k5,o1,o2,o3,o4⟩:=zKg r5 (fun n hn=>oF n (DataW.weights_mem_each (j:=5) rfl rfl n hn));obtain⟨PW,w,pw,k6,w1,w2,w3,w4⟩:=zKg r6 (fun n hn=>oF n (DataW.weights_mem_each (j:=6) rfl rfl n hn));obtain⟨TX,tx,tc,k7,C3,C4,C5,_⟩:=zN6 r7 (fun n hn=>oF n (DataW.weights_mem_each (j:=7) rfl rfl n hn));obtain⟨fi,f0,ER,f2,f3,fp,fq,k8,⟨FA,fc,rfl,rfl,C6,C7,C8⟩,⟨FB,fd,rfl,rfl,C9,CB,CC⟩⟩:=zMi r8;obtain⟨gi,h0,h1,h2,h3,gp,gq,k9,⟨GA,gc,rfl,rfl,CE,CF,CG⟩,⟨GB,gd,rfl,rfl,CH,CI,CJ⟩⟩:=zMi r9;obtain⟨lf,P,np,pc,X,nt,tc',K,nk,kc,hv⟩:=hn.val;simp only[Value.agg.injEq,Array.mk.injEq,List.cons.injEq,and_true]at hv;obtain⟨rfl,rfl,rfl,rfl⟩:=hv;simp only[List.cons.injEq,and_true]at k0 k1 k2 k3 k4 k5 k6 k7 k8 k9;obtain⟨rfl,rfl,rfl,rfl⟩:=k4;obtain⟨rfl,rfl,rfl,rfl,rfl⟩:=k8;obtain⟨rfl,rfl,rfl,rfl,rfl⟩:=k9;subst k0 k1 k2 k3 k5 k6 k7;refine⟨OC.mk n0 A q.length cq B t.length ct n3 lf P np pc X nt tc' K nk kc PO o.length po PW w.length pw TX tx.length tc fi FA fp.1.length fc fp.2 FB fq.1.length fd fq.2 gi GA gp.1.length gc gp.2 GB gq.1.length gd gq.2,
   ⟨n0,q,t,n3,n,o,w,tx,⟨fi,fp,fq⟩,⟨gi,gp,gq⟩⟩,rfl,?_⟩
  exact OkA.mk rfl (kMb C2) rfl rfl a2 a1 a4 a3 rfl b2 b1 b4 b3 ⟨_,hn⟩ rfl o3 o2 o1 o4 rfl w3 w2 w1 w4 rfl C4 C3 C5 ⟨rfl,rfl,rfl,rfl,rfl,C7,CB,C6,C9,C8,CC⟩ ⟨rfl,rfl,rfl,rfl,rfl,CF,CI,CE,CH,CG,CJ⟩
theorem zGs {r:Reach}{b0:Nat}{v:Value}{d:DataW H}{p:List MemPlace}(hv:Value.okWide Tryz.prog W r b0 35 v)(h:DataW.Trod enc Tryz.prog W base (fun _=>true) held 35 v d p)(hw:∀n ∈ d.weights Tryz.prog 35,n<=reachBytes):
  ∃c a,v=.agg (OC.row c)/\OkA W c a:=by
 obtain⟨fuel,hf⟩:=h;obtain⟨c,a,hcs,hok⟩:=kG5 hf hw;obtain⟨cs,rfl,hcz⟩:=okWide_struct zMj hv;have e:cs=c.row:=by
  apply Array.toList_inj.1;simpa[Value.cells]using hcs
 subst e;exact⟨c,a,rfl,hok⟩
end
open Go.RowKit
def Fit (l:List Pr):Prop:=l.length<=60/\∀p ∈ l,p.1.size<=100/\p.2.size<=100
theorem Fit.at_ (h:Fit l){k:Nat}(hk:k<l.length):(jU l k).1.size<=100/\(jU l k).2.size<=100:=by
 rw[zB7 l k hk];exact h.2 _ (List.getElem_mem hk)
theorem Fit.wide (h:Fit l):zIo l:=⟨by have:=h.1;omega,fun p hp=>by have:=h.2 p hp;omega⟩
def zMs (n:Nat)(L:Nat->List Pr):Int:=(((List.range n).map fun k=>chk (L k)).find? (· !=0)).getD 0
theorem zIz (n:Nat)(L:Nat->List Pr)(h:∀j,j<n->chk (L j)=0):zMs n L=0:=by
 unfold zMs;rw[List.find?_eq_none.2]
 ·rfl
 ·intro x hx;obtain⟨j,hj,rfl⟩:=List.mem_map.1 hx;simp[h j (List.mem_range.1 hj)]
theorem zGd (n:Nat)(L:Nat->List Pr)(k:Nat)(hk:k<n)(h0:∀j,j<k->chk (L j)=0)(h:chk (L k)≠0):zMs n L=chk (L k):=by
 unfold zMs;rw[zN1 (fun k=>chk (L k)) (· !=0) n k hk (fun j hj=>by simp[h0 j hj]) (by simpa using h)];rfl
def zB9 (l:List Pr):Prop:=l.Pairwise fun p q=>p.1≠q.1
theorem zTh (l:List Pr)(k:ByteArray)(p:Pr)(h:zI3 l k=some p):p ∈ l/\p.1=k:=by
 unfold zI3 at h;have h2:=List.find?_some h;exact⟨List.mem_of_find?_eq_some h,toList_inj (by simpa using h2)⟩
theorem zDb (hA:zB9 l){p:Pr}(hp:p ∈ l):zI3 l p.1=some p:=by
 induction l with
 |nil=>cases hp
 | cons q r ih=>
  obtain⟨h1,h2⟩:=List.pairwise_cons.1 hA;unfold zI3;rw[List.find?_cons];rcases List.mem_cons.1 hp with rfl|hr
  ·simp
  ·have hne:(q.1.toList==p.1.toList)=false:=by
    rw[beq_eq_false_iff_ne];exact fun e=>h1 p hr (toList_inj e)
   rw[hne];exact ih h2 hr
theorem zFc :zI3 l k=none ↔∀p ∈ l,p.1≠k:=by
 unfold zI3;rw[List.find?_eq_none];constructor
 ·intro h p hp e;exact h p hp (by rw[e];simp)
 ·intro h p hp e;exact h p hp (toList_inj (by simpa using e))
def zPe (l:List Pr)(k:ByteArray):List Pr:=l.filter fun p=>decide (p.1≠k)
theorem zRm (l:List Pr)(k q:ByteArray):zI3 (zPe l k) q=if q=k then none else zI3 l q:=by
 by_cases e:q=k
 ·subst e;rw[if_pos rfl,zFc];intro p hp;exact of_decide_eq_true (List.mem_filter.1 hp).2
 ·rw[if_neg e];unfold zPe zI3;induction l with
  |nil=>rfl
  |cons p r ih=>
   by_cases hk:p.1=k
   ·have hp:(p.1.toList==q.toList)=false:=by rw[beq_eq_false_iff_ne];exact fun e'=>e (by rw[<-toList_inj e',hk])
    rw[List.filter_cons_of_neg (by simp[hk]),List.find?_cons,hp];exact ih
   ·rw[List.filter_cons_of_pos (by simp[hk]),List.find?_cons,List.find?_cons,ih]
theorem zZ3 (l:List Pr)(hA:zB9 l)(k:ByteArray):(zPe l k).length+(if(zI3 l k).isSome then 1 else 0)=l.length:=by
 induction l with
 |nil=>simp[zPe,zI3]
 |cons p r ih=>
  obtain⟨h1,h2⟩:=List.pairwise_cons.1 hA;have ih:=ih h2;unfold zPe zI3 at ih⊢;by_cases hk:p.1=k
  ·subst hk;have hr:r.filter (fun q=>decide (q.1≠p.1))=r:=List.filter_eq_self.2 fun q hq=>by simpa using fun e:q.1=p.1=>h1 q hq e.symm
   rw[List.filter_cons_of_neg Kc,List.find?_cons,hr];simp
  ·have hp:(p.1.toList==k.toList)=false:=by rw[beq_eq_false_iff_ne];exact fun e'=>hk (toList_inj e')
   rw[List.filter_cons_of_pos (by simp[hk]),List.find?_cons,hp];simp only[List.length_cons];omega
theorem zMt (l:List Pr)(n:Nat)(hn:n<l.length):l.take (n+1)=l.take n++[((jU l n).1,(jU l n).2)]:=by
 rw[List.take_succ_eq_append_getElem hn,zB7 l n hn]
theorem zMu (l:List Pr)(hA:zB9 l)(n:Nat)(hn:n<l.length):zI3 (l.take n) (jU l n).1=none:=by
 rw[zFc];intro p hp e;obtain⟨j,hj,rfl⟩:=List.mem_iff_getElem.1 hp;rw[List.length_take]at hj;rw[List.getElem_take,zB7 l n hn]at e;exact List.pairwise_iff_getElem.1 hA j n Kb hn Kb e
def zGz (l:List Pr)(p:Pr):Bool:=l.any (zJr p)
theorem zDo (l:List Pr)(p:Pr):zGz l p=true ↔ p ∈ l:=by
 unfold zGz;rw[List.any_eq_true];constructor
 ·rintro⟨q,hq,h⟩;rw[(zIa p q).1 h];exact hq
 ·exact fun h=>⟨p,h,(zIa p p).2 rfl⟩
theorem kDn (l:List Pr)(hA:zB9 l)(k v:ByteArray):zGz l (k,v)=(zKz l k&&(kJv l k).toList==v.toList):=by
 rw[Bool.eq_iff_iff,zDo];unfold zKz kJv;cases hf:zI3 l k with
 |none=>
  rw[zFc]at hf;simp only[Option.isSome_none,Bool.false_and,Bool.false_eq_true,iff_false];exact fun h=>hf (k,v) h rfl
 |some p=>
  obtain⟨h1,h2⟩:=zTh l k p hf;simp only[Option.isSome_some,Bool.true_and,Option.getD_some];rw[beq_iff_eq];constructor
  ·intro h;have:=zDb hA h;rw[hf]at this;cases this
   rfl
  ·intro h;obtain⟨p1,p2⟩:=p;cases h2
   rw[<-toList_inj h];exact h1
theorem zJt :∀a:List UInt8,Op.bytesLess a a=false
 |[]=>rfl
 |a::x=>by
  rw[Op.bytesLess,zJt x];simp[UInt8.lt_irrefl]
theorem zPf :∀a b c:List UInt8,Op.bytesLess a b=true->Op.bytesLess b c=true->Op.bytesLess a c=true
 |[],[],_,h,_=>by simp[Op.bytesLess]at h
 |[],_::_,[],_,h=>by simp[Op.bytesLess]at h
 |[],_::_,_::_,_,_=>rfl
 |_::_,[],_,h,_=>by simp[Op.bytesLess]at h
 |_::_,_::_,[],_,h=>by simp[Op.bytesLess]at h
 |a::x,b::y,c::z,h1,h2=>by
  simp only[Op.bytesLess,Bool.or_eq_true,Bool.and_eq_true,decide_eq_true_iff,beq_iff_eq]at h1 h2⊢;rcases h1 with h1|⟨rfl,h1⟩
  ·rcases h2 with h2|⟨rfl,h2⟩
   ·exact Or.inl (UInt8.lt_trans h1 h2)
   ·exact Or.inl h1
  ·rcases h2 with h2|⟨rfl,h2⟩
   ·exact Or.inl h2
   ·exact Or.inr ⟨rfl,zPf x y z h1 h2⟩
theorem zPg :∀a b:List UInt8,Op.bytesLess a b=false->Op.bytesLess b a=false->a=b
 |[],[],_,_=>rfl
 |[],_::_,h,_=>by simp[Op.bytesLess]at h
 |_::_,[],_,h=>by simp[Op.bytesLess]at h
 |a::x,b::y,h1,h2=>by
  simp only[Op.bytesLess,Bool.or_eq_false_iff,decide_eq_false_iff_not,Bool.and_eq_false_imp,beq_iff_eq]at h1 h2;have e:a=b:=UInt8.le_antisymm (UInt8.not_lt.1 h2.1) (UInt8.not_lt.1 h1.1);subst e;rw[zPg x y (h1.2 rfl) (h2.2 rfl)]
def ltK (p q:Pr):Bool:=Op.bytesLess p.1.toList q.1.toList
theorem zIb (p:Pr):ltK p p=false:=zJt _
theorem zHp (p q r:Pr)(h1:ltK p q=true)(h2:ltK q r=true):ltK p r=true:=zPf _ _ _ h1 h2
theorem zMv (p q:Pr)(h1:ltK p q=false)(h2:ltK q p=false):p.1=q.1:=toList_inj (zPg _ _ h1 h2)
theorem zZ4 {p q r:Pr}(h:p.1=q.1):ltK p r=ltK q r/\ltK r p=ltK r q:=by unfold ltK;rw[h];exact⟨rfl,rfl⟩
theorem zOc (p q r:Pr)(h1:ltK p q=false)(h2:ltK q r=false):ltK p r=false:=by
 cases h:ltK p r
 ·rfl
 ·cases h3:ltK q p
  ·rw[(zZ4 (zMv p q h1 h3)).1,h2]at h;cases h
  ·rw[zHp q p r h3 h]at h2;cases h2
theorem zZ5 (p q:Pr):leB p.1 q.1=true ↔ ltK q p=false:=by
 unfold leB;constructor
 ·intro h;cases h2:ltK q p
  ·rfl
  ·simp only[Bool.or_eq_true,beq_iff_eq]at h;rcases h with h|h
   ·have:=zPf _ _ _ h h2;rw[zJt]at this;cases this
   ·unfold ltK at h2;rw[h,zJt]at h2;cases h2
 ·intro h;cases h2:Op.bytesLess p.1.toList q.1.toList
  ·simp only[Bool.false_or,beq_iff_eq];exact zPg _ _ h2 h
  ·rfl
def zIp (l:List Pr):Prop:=l.Pairwise fun p q=>ltK p q=true
theorem zIp.apart (h:zIp l):zB9 l:=h.imp fun{p q} bg e=>by
 rw[(zZ4 e).1,zIb]at bg;cases bg
theorem zEw :∀{l m:List Pr},zIp l->zIp m->(∀p,p ∈ l ↔ p ∈ m)->l=m
 |[],[],_,_,_=>rfl
 |[],b::s,_,_,h=>by have:=(h b).2 Kc;simp at this
 |a::r,[],_,_,h=>by have:=(h a).1 Kc;simp at this
 | a::r,b::s,h1,h2,h=>by
  obtain⟨a1,a2⟩:=List.pairwise_cons.1 h1;obtain⟨b1,b2⟩:=List.pairwise_cons.1 h2;have no:∀{p q:Pr},ltK p q=true->ltK q p=true->False:=fun{p q} x y=>by
   have:=zHp p q p x y;rw[zIb]at this;cases this
  have hab:a=b:=by
   rcases List.mem_cons.1 ((h a).1 Kc)with e|ha
   ·exact e
   ·rcases List.mem_cons.1 ((h b).2 Kc)with e|hb
    ·exact e.symm
    ·exact(no (a1 b hb) (b1 a ha)).elim
  subst hab;rw[zEw a2 b2 fun p=>⟨fun hp=>by
   rcases List.mem_cons.1 ((h p).1 (by simp[hp]))with e|hp'
   ·subst e;exact(no (a1 p hp) (a1 p hp)).elim
   ·exact hp',fun hp=>by
   rcases List.mem_cons.1 ((h p).2 (by simp[hp]))with e|hp'
   ·subst e;exact(no (b1 p hp) (b1 p hp)).elim
   ·exact hp'⟩]
def srt (l:List Pr):List Pr:=l.mergeSort fun p q=> !ltK q p
theorem zPh (l:List Pr):(srt l).Perm l:=List.mergeSort_perm _ _
theorem zPi (l:List Pr)(p:Pr):p ∈ srt l ↔ p ∈ l:=(zPh l).mem_iff
theorem zE2 (l:List Pr):(srt l).length=l.length:=(zPh l).length_eq
theorem zGe (l:List Pr)(h:zB9 l):zIp (srt l):=by
 have h1:(srt l).Pairwise fun p q=>(!ltK q p)=true:=by
  unfold srt;refine List.pairwise_mergeSort (fun a b c h1 h2=>?_) (fun a b=>?_) l
  ·simp only[Bool.not_eq_true']at h1 h2⊢;exact zOc c b a h2 h1
  ·cases h:ltK b a
   ·rfl
   ·cases h2:ltK a b
    ·rfl
    ·have:=zHp a b a h2 h;rw[zIb]at this;cases this
 have h2:zB9 (srt l):=((zPh l).pairwise_iff (fun{a b} hab=>Ne.symm hab)).2 h;refine(h1.and h2).imp fun{p q}⟨x,y⟩=>?_;cases bg:ltK p q
 ·exact absurd (zMv p q bg (by simpa using x)) y
 ·rfl
theorem kKn {m:List Pr}(h:zIp m)(hp:m.Perm l):m=srt l:=
 zEw h (zGe l ((hp.pairwise_iff (R:=fun p q:Pr=>p.1≠q.1) (fun{_a _b} hab=>Ne.symm hab)).1 h.apart)) fun p=>(hp.mem_iff).trans (zPi l p).symm
theorem zZ6 (l:List Pr)(h:chk l=0):l.length<=16/\∀k,k<l.length->zEt l k=0:=by
 unfold chk at h;by_cases oG:16<l.length
 ·rw[if_pos oG]at h;cases h
 ·rw[if_neg oG]at h;refine⟨by omega,fun k=>?_⟩;induction k using Nat.strongRecOn with
  |ind k ih=>
   intro hk;cases e:zEt l k !=0
   ·simpa using e
   ·have:=zI9 l k hk (fun j hj=>ih j hj Kb) (by simpa using e);rw[h]at this;exact this.symm
theorem zOd {k:Nat}(h:zEt l k=0):zVt (jU l k).1=true/\zXo (jU l k).2=true/\(0<k->leB (jU l k).1 (jU l (k-1)).1=false):=by
 unfold zEt at h;by_cases h1:(zVt (jU l k).1&&zXo (jU l k).2)=false
 ·rw[if_pos h1]at h;cases h
 ·rw[if_neg h1]at h;by_cases h2:(decide (0<k)&&leB (jU l k).1 (jU l (k-1)).1)=true
  ·rw[if_pos h2]at h;cases h
  ·simp only[Bool.and_eq_false_imp,Bool.not_eq_false,Classical.not_imp,Bool.and_eq_true,decide_eq_true_iff]at h1 h2;refine⟨h1.1,by simpa using h1.2,fun hk=>?_⟩;cases h3:leB (jU l k).1 (jU l (k-1)).1
   ·rfl
   ·exact absurd ⟨hk,h3⟩ h2
theorem zC8 (l:List Pr):chk l=0 ↔ l.length<=16/\(∀p ∈ l,zVt p.1=true/\zXo p.2=true)/\zIp l:=by
 constructor
 ·intro h;obtain⟨oG,hs⟩:=zZ6 l h;refine⟨oG,fun p hp=>?_,?_⟩
  ·obtain⟨j,hj,rfl⟩:=List.mem_iff_getElem.1 hp;have:=zOd (hs j hj);rw[zB7 l j hj]at this;exact⟨this.1,this.2.1⟩
  ·have step:∀k(hk:k+1<l.length),ltK (l[k]'Kb) l[k+1]=true:=by
    intro k hk;have:=(zOd (hs (k+1) hk)).2.2 Kb;rw[zB7 l (k+1) hk,Nat.add_sub_cancel,zB7 l k Kb]at this;cases h2:ltK (l[k]'Kb) l[k+1]
    ·rw[(zZ5 _ _).2 h2]at this;cases this
    ·rfl
   unfold zIp;rw[List.pairwise_iff_getElem];intro i j hi hj hij;obtain⟨d,rfl⟩:∃d,j=i+1+d:=⟨j-i-1,by omega⟩;clear hij;induction d with
   |zero=>exact step i hj
   |succ d ih=>exact zHp _ _ _ (ih Kb) (step (i+1+d) hj)
 ·rintro⟨oG,hk,hr⟩;unfold chk;rw[if_neg Kb];refine zLz l fun j hj=>?_;unfold zEt;have hm:=hk _ (List.getElem_mem hj);rw[zB7 l j hj,hm.1,hm.2];rw[if_neg Kc,if_neg];simp only[Bool.and_eq_true,decide_eq_true_iff,not_and];intro h0 h1;rw[zB7 l (j-1) Kb]at h1;have h2:=List.pairwise_iff_getElem.1 hr (j-1) j Kb hj Kb;rw[(zZ5 _ _).1 h1]at h2;cases h2
theorem zIc (h:chk l=0):Fit l:=by
 obtain⟨h1,h2,_⟩:=(zC8 l).1 h;refine⟨by omega,fun p hp=>?_⟩;have:=h2 p hp;unfold zVt zXo at this;simp only[Bool.and_eq_true,decide_eq_true_iff]at this;omega
theorem zBv (h:chk l=0):zB9 l:=((zC8 l).1 h).2.2.apart
def zD1 (l m:List Pr):List Pr:=l.filter fun p=> !zGz m p
theorem zC2 (l m:List Pr)(p:Pr):p ∈ zD1 l m ↔ p ∈ l/\p ∉ m:=by
 unfold zD1;rw[List.mem_filter];constructor
 ·rintro⟨h1,h2⟩;refine⟨h1,fun h=>?_⟩;rw[(zDo m p).2 h]at h2;cases h2
 ·rintro⟨h1,h2⟩;refine⟨h1,?_⟩;cases h:zGz m p
  ·rfl
  ·exact absurd ((zDo m p).1 h) h2
theorem zZ7 (l:List Pr):zD1 l []=l:=List.filter_eq_self.2 fun _ _=>rfl
theorem zD2 (h:zB9 l)(m:List Pr):zB9 (zD1 l m):=List.Pairwise.filter _ h
theorem zZ8 (l m:List Pr):(zD1 l m).length<=l.length:=List.length_filter_le _ _
theorem zRn (m k:List Pr)(p:Pr):zGz (m++k) p=(zGz m p||zGz k p):=by unfold zGz;rw[List.any_append]
theorem zZ9 (hA:zB9 l)(m:List Pr)(q:Pr)(h:zGz (zD1 l m) q=true):zD1 l (m++[q])=zPe (zD1 l m) q.1:=by
 have hq:=(zC2 l m q).1 ((zDo _ _).1 h);unfold zD1 zPe;rw[List.filter_filter];refine List.filter_congr fun p hp=>?_;rw[zRn];have e:zGz [q] p=decide (p.1=q.1):=by
  rw[Bool.eq_iff_iff,zDo,List.mem_singleton,decide_eq_true_iff];constructor
  ·rintro rfl;rfl
  ·intro hk;have h1:=zDb hA hp;have h2:=zDb hA hq.1;rw[hk,h2]at h1;exact(Option.some.inj h1).symm
 rw[e];by_cases hk:p.1=q.1
 ·simp[hk]
 ·simp[hk]
def kMi {α:Type}(x y:α):Nat->α:=fun k=>if k=0 then x else y
def zGf {α:Type}(x y z:α):Nat->α:=fun k=>if k=0 then x else if k=1 then y else z
def kFk (l m:List Pr):Int:=if chk l=0 then chk m else chk l
def chk3 (l m n:List Pr):Int:=if chk l=0 then kFk m n else chk l
theorem kMj (l m:List Pr):zMs 2 (kMi l m)=kFk l m:=by
 unfold kFk;by_cases h:chk l=0
 ·rw[if_pos h];by_cases h2:chk m=0
  ·rw[h2];exact zIz 2 _ fun j hj=>by
    match j,hj with
    |0,_=>exact h
    |1,_=>exact h2
  ·exact zGd 2 (kMi l m) 1 Kb (fun j hj=>by have e0:j=0:=Kb;subst e0;exact h) h2
 ·rw[if_neg h];exact zGd 2 (kMi l m) 0 Kb (fun j hj=>by omega) h
theorem kHo (l m n:List Pr):zMs 3 (zGf l m n)=chk3 l m n:=by
 unfold chk3 kFk;by_cases h:chk l=0
 ·rw [if_pos h];by_cases h2:chk m=0
  ·rw[if_pos h2];by_cases h3:chk n=0
   ·rw[h3];exact zIz 3 _ fun j hj=>by
     match j,hj with
     |0,_=>exact h
     |1,_=>exact h2
     |2,_=>exact h3
   ·exact zGd 3 (zGf l m n) 2 Kb (fun j hj=>by
     match j,hj with
     |0,_=>exact h
     |1,_=>exact h2) h3
  ·rw[if_neg h2];exact zGd 3 (zGf l m n) 1 Kb (fun j hj=>by have e0:j=0:=Kb;subst e0;exact h) h2
 ·rw[if_neg h];exact zGd 3 (zGf l m n) 0 Kb (fun j hj=>by omega) h
def zMw (l new:List Pr):Bool:=new.any fun p=>zKz l p.1
def zG0 (l old:List Pr):Bool:=old.any fun p=> !zGz l p
def zDp (l old new:List Pr):Int:=if zG0 l old=true then 9 else if zMw (zD1 l old) new=true then 9 else if 16<(zD1 l old).length+new.length then 2 else 0
def zA7 (l old new:List Pr):List Pr:=srt (zD1 l old++new)
theorem zWw {old:List Pr}{n:Nat}(hn:n<old.length)(h:zGz l ((jU old n).1,(jU old n).2)=false):zG0 l old=true:=by
 unfold zG0;rw[List.any_eq_true];refine⟨_,List.getElem_mem hn,?_⟩;rw[zB7 old n hn]at h;rw[show old[n]=(old[n].1,old[n].2)from rfl,h];rfl
theorem zTi {old:List Pr}(h:∀j,j<old.length->zGz l ((jU old j).1,(jU old j).2)=true):zG0 l old=false:=by
 unfold zG0;rw[List.any_eq_false];intro p hp;obtain⟨j,hj,rfl⟩:=List.mem_iff_getElem.1 hp;have:=h j hj;rw[zB7 old j hj]at this;rw[show old[j]=(old[j].1,old[j].2)from rfl,this];simp
theorem kDo {new:List Pr}{n:Nat}(hn:n<new.length)(h:zKz l (jU new n).1=true):zMw l new=true:=by
 unfold zMw;rw[List.any_eq_true];refine⟨_,List.getElem_mem hn,?_⟩;rw[zB7 new n hn]at h;exact h
theorem kAa {new:List Pr}(h:∀j,j<new.length->zKz l (jU new j).1=false):zMw l new=false:=by
 unfold zMw;rw[List.any_eq_false];intro p hp;obtain⟨j,hj,rfl⟩:=List.mem_iff_getElem.1 hp;have:=h j hj;rw[zB7 new j hj]at this;rw[this];simp
theorem kDp {old:List Pr}(hO:zB9 old){n:Nat}(hn:n<old.length):zGz (zD1 l (old.take n)) ((jU old n).1,(jU old n).2)=zGz l ((jU old n).1,(jU old n).2):=by
 rw[Bool.eq_iff_iff,zDo,zDo,zC2];constructor
 ·exact fun h=>h.1
 ·intro h;refine⟨h,fun hm=>?_⟩;have h1:=zFc.1 (zMu old hO n hn) _ hm;exact h1 rfl
theorem zTj (l m:List Pr)(k:ByteArray):zKz (l++m) k=(zKz l k||zKz m k):=by
 unfold zKz zI3;rw[List.find?_append];cases List.find? (fun p=>p.1.toList==k.toList) l<;>simp
theorem kAb {new:List Pr}(hN:zB9 new){n:Nat}(hn:n<new.length):zKz (l++new.take n) (jU new n).1=zKz l (jU new n).1:=by
 rw[zTj];have:zKz (new.take n) (jU new n).1=false:=by unfold zKz;rw[zMu new hN n hn];rfl
 rw[this,Bool.or_false]
theorem zHq (h:zKz l k=false):zI3 l k=none:=by
 unfold zKz at h;cases hf:zI3 l k with
 |none=>rfl
 |some p=>rw[hf]at h;cases h
theorem kAc {new:List Pr}(hl:zB9 l)(hN:zB9 new)(h:zMw l new=false):zB9 (l++new):=by
 unfold zB9;rw[List.pairwise_append];refine⟨hl,hN,fun a ha b hb e=>?_⟩;unfold zMw at h;rw[List.any_eq_false]at h;have h1:=h b hb;have:=zHq (by simpa using h1);exact zFc.1 this a ha e
theorem zU2 :zKz l k=true ↔∃p ∈ l,p.1=k:=by
 cases h:zKz l k
 ·have:=zFc.1 (zHq h);simp only[Bool.false_eq_true,false_iff];rintro⟨p,hp,e⟩;exact this p hp e
 ·simp only[true_iff];unfold zKz at h;obtain⟨p,hp⟩:=Option.isSome_iff_exists.1 h;exact⟨p,zTh l k p hp⟩
structure Can (l old new:List Pr):Prop where
 l0:chk l=0
 o0:chk old=0
 n0:chk new=0
 among:∀p ∈ old,p ∈ l
 free:∀p ∈ zD1 l old,∀q ∈ new,p.1≠q.1
 room:(zD1 l old).length+new.length<=16
theorem kKo {old new:List Pr}(h:chk3 l old new=0)(h0:zDp l old new=0):Can l old new:=by
 unfold chk3 kFk at h;have e1:chk l=0:=by
  by_cases e:chk l=0
  ·exact e
  ·rw[if_neg e]at h;exact absurd h e
 rw[if_pos e1]at h;have e2:chk old=0:=by
  by_cases e:chk old=0
  ·exact e
  ·rw[if_neg e]at h;exact absurd h e
 rw[if_pos e2]at h;unfold zDp at h0;cases hs:zG0 l old
 ·cases hc:zMw (zD1 l old) new
  ·rw[hs,hc,if_neg Kc,if_neg Kc]at h0;refine⟨e1,e2,h,fun p hp=>?_,fun p hp q hq e=>?_,?_⟩
   ·unfold zG0 at hs;rw[List.any_eq_false]at hs;exact(zDo l p).1 (by simpa using hs p hp)
   ·unfold zMw at hc;rw[List.any_eq_false]at hc;exact hc q hq (zU2.2 ⟨p,hp,e⟩)
   ·by_cases e:16<(zD1 l old).length+new.length
    ·rw[if_pos e]at h0;cases h0
    ·omega
  ·rw[hs,hc,if_neg Kc,if_pos rfl]at h0;cases h0
 ·rw[hs,if_pos rfl]at h0;cases h0
theorem Can.chk3 {old new:List Pr}(h:Can l old new):chk3 l old new=0:=by
 unfold YtmglnjmnabjjgaaGreat.chk3 kFk;rw[if_pos h.l0,if_pos h.o0];exact h.n0
theorem Can.zero {old new:List Pr}(h:Can l old new):zDp l old new=0:=by
 unfold zDp;have hs:zG0 l old=false:=by
  unfold zG0;rw[List.any_eq_false];intro p hp;rw[(zDo l p).2 (h.among p hp)];simp
 have hc:zMw (zD1 l old) new=false:=by
  unfold zMw;rw[List.any_eq_false];intro q hq hb;obtain⟨p,hp,e⟩:=zU2.1 hb;exact h.free p hp q hq e
 rw[hs,hc,if_neg Kc,if_neg Kc,if_neg (by have:=h.room;omega)]
theorem Can.apart {old new:List Pr}(h:Can l old new):zB9 (zD1 l old++new):=by
 unfold zB9;rw[List.pairwise_append];exact⟨zD2 (zBv h.l0) old,zBv h.n0,fun p hp q hq=>h.free p hp q hq⟩
theorem Can.mem {old new:List Pr}(_:Can l old new)(p:Pr):p ∈ zA7 l old new ↔ (p ∈ l/\p ∉ old)∨p ∈ new:=by
 unfold zA7;rw[zPi,List.mem_append,zC2]
theorem Can.may {old new:List Pr}(h:Can l old new):chk (zA7 l old new)=0:=by
 refine(zC8 _).2 ⟨?_,fun p hp=>?_,zGe _ h.apart⟩
 ·unfold zA7;rw[zE2,List.length_append];exact h.room
 ·rcases(h.mem p).1 hp with hp|hp
  ·exact((zC8 l).1 h.l0).2.1 p hp.1
  ·exact((zC8 new).1 h.n0).2.1 p hp
def PE (l old new:List Pr):Int:=if chk3 l old new=0 then zDp l old new else chk3 l old new
def PLs (l old new:List Pr):List Pr:=if PE l old new=0 then zA7 l old new else[]
theorem zPj {old new:List Pr}:PE l old new=0 ↔ Can l old new:=by
 unfold PE;constructor
 ·intro h;by_cases h3:chk3 l old new=0
  ·rw[if_pos h3]at h;exact kKo h3 h
  ·rw[if_neg h3]at h;exact absurd h h3
 ·intro h;rw[if_pos h.chk3];exact h.zero
theorem Can.list {old new:List Pr}(h:Can l old new):PLs l old new=zA7 l old new:=by unfold PLs;rw[if_pos (zPj.2 h)]
open Go.RowKit Go.Maps
theorem zU3 :Keyed Tryz.prog 3:=int_keyed Tryz.underlying3
theorem kAd (w:World):(zeroValue 3).run Tryz.prog w=.ok (.int .i64 0) w:=Ka
theorem zKo {H:Type}(w:World){o:Oper}{a:Act}{Q:Exit->Act->World->Prop}
  (hg:o.guard=none) (m x v:Operand) (t:TypeId) (hop:o.op=Op.insert t m x v)
  (k e:TypeId) (K:Keyed P k) (ht:P.underlying t=some (.map k e)) (R:Value->Option (DataW H×List MemPlace)) (b n:Nat) (D:DataW H)
  (hm:a.eval m=.map (some b)) (hown:w.ownsMap P k R b n D) (hn:n<maxLen) (key val:Value) (kl:Lit) (hx:a.eval x=key) (hv:a.eval v=val) (hkey:keyOf P k key=some kl)
  (d:DataW H) (ps:List MemPlace) (hval:R val=some (d,ps))
  (hK:∀w',w'.ownsMap P k R b (n+1) (D.put kl d)->w.grownBy w' (some b)->wpList P ops Q rest (a.put o.dst undef) w'):
  wpList P ops Q (o::rest) a w:=by
 refine wpList_plain hg fun K' hK'=>?_;obtain⟨w',hrun,r1,r2⟩:=hown.update K ht hn hkey hval;unfold Oper.wp;simp[execOp,hop,hm,hx,hv,hrun,Result.andThen];exact hK' _ _ (hK w' r1 r2)
def kI3 (w:World)(n:Nat)(D:DataW Unit)(w':World):Prop:=w'.ownsMap Tryz.prog 3 (plainElem Tryz.prog 3) w.heap.size n D/\Below w.heap.size w w'
theorem kI3.made (w:World):kI3 w 0 (.map []) (w.alloc (.map #[] 0)):=⟨World.ownsMap_made w Tryz.prog 3 _,Kl.alloc Km _⟩
theorem kI3.next {w w1 w2:World}{n:Nat}{D D':DataW Unit}(h:kI3 w n D w1)(h2:w2.ownsMap Tryz.prog 3 (plainElem Tryz.prog 3) w.heap.size (n+1) D')(hg:w1.grownBy w2 (some w.heap.size)):kI3 w (n+1) D' w2:=
 ⟨h2,h.2.grown hg h.2.size (fun j hj=>by cases hj;exact Nat.le_refl _)⟩
def kMk :DataW Unit:=((((((((((DataW.map []).put (.int .i64 1) (.lit (.int .i64 2))).put (.int .i64 2) (.lit (.int .i64 1))).put (.int .i64 3) (.lit (.int .i64 4))).put (.int .i64 4) (.lit (.int .i64 3))).put (.int .i64 5) (.lit (.int .i64 5))).put (.int .i64 6) (.lit (.int .i64 6))).put (.int .i64 7) (.lit (.int .i64 8))).put (.int .i64 8) (.lit (.int .i64 7))).put (.int .i64 9) (.lit (.int .i64 9)))
theorem kHp (k:Int):kMk.atKey (.int .i64 k) (.lit (.int .i64 0))=.lit (.int .i64 (zA0 k)):=by
 have no:∀a b:Int,a≠b->(Lit.int .i64 a)≠.int .i64 b:=fun a b h e=>by injection e with _ e;exact h e
 by_cases h1:1<=k
 ·by_cases h2:k<=9
  ·rcases zV0 h1 h2 with rfl|rfl|rfl|rfl|rfl|rfl|rfl|rfl|rfl<;>rfl
  ·rw[(zH7 k).2 (by simp[kindB,decide_eq_false h2]),kMk];iterate 9 rw[atKey_put_other (no _ _ Kb)]
   rfl
 ·rw[(zH7 k).2 (by simp[kindB,decide_eq_false h1]),kMk];iterate 9 rw[atKey_put_other (no _ _ Kb)]
  rfl
theorem kHq {k:Int}(h:zFf k):(Lit.int .i64 k).wf=true:=by
 obtain⟨h1,h2⟩:=h;show(decide (IntKind.i64.min<=k)&&decide (k<=IntKind.i64.max))=true
 rw[Bool.and_eq_true,decide_eq_true_iff,decide_eq_true_iff];exact⟨h1,h2⟩
set_option maxHeartbeats 2000000 in
theorem zBk (k:Int)(hk:zFf k)(w:World):Calls Tryz.prog 97 #[.int .i64 k] w (jA (.int .i64 (zA0 k)) w):=by
 have dF:=hd (keyOf_int_mk (P:=Tryz.prog) Tryz.underlying3 (kHq hk));have HO:=hd (kI3.made w);have hm:=fun W=>run_makeMap (P:=Tryz.prog) 154 W;clear hk;go_enter Tryz.func97,Tryz.ntmps97
 go_wp2_with(first
  |(refine zKo _ rfl _ _ _ _ rfl 3 3 zU3 Tryz.underlying154 _ _ _ _ rfl HO.o.1 Kg _ _ _ rfl rfl (keyOf_int_mk Tryz.underlying3 Kd) _ [] (plainElem_int Tryz.underlying3 Kd) ?_;intro w9 aj xe;have HO:=hd (HO.o.next aj xe);clear aj xe)
  |(at_lookup;refine wpList_lookup_own_int _ rfl _ _ 154 rfl 3 3 .i64 zU3 Tryz.underlying154 Tryz.underlying3 (kAd _) _ _ _ rfl HO.o.1 _ _ rfl dF.o ?_;intro c hat hwc))
 go_ret
 have he:c=zA0 k:=by
  have h2:=kHp k;have h3:(DataW.lit (.int .i64 (zA0 k)):DataW Unit)=.lit (.int .i64 c):=h2.symm.trans hat;injection h3 with h3;injection h3 with _ h3;exact h3.symm
 exact⟨by rw[he];rfl,HO.o.2⟩
section
variable {W:World}{c d:OC}{a b:OpP}{E:Bool}
theorem zKp {s t:Sl}{si ti:Bool}{A B C D:Option Addr}{na ca nb cb nc cc nd cd:Nat}{x y u v:Int}(h:zIi W si A na ca x B nb cb y s)(g:zIi W ti C nc cc u D nd cd v t)(h1:na<=10000000)(h2:nb<=10000000)(h3:nc<=10000000)(h4:nd<=10000000)(hs:zF7 s t=E):
  Calls Tryz.prog 64 #[.agg #[.bool si,.slice A na ca,.int .i64 x,.slice B nb cb,.int .i64 y],.agg #[.bool ti,.slice C nc cc,.int .i64 u,.slice D nd cd,.int .i64 v]] W (jA (.bool E) W):=by
 obtain⟨a1,a2⟩:=h.two h1 h2;obtain⟨b1,b2⟩:=g.two h3 h4;have e1:=h.his;have e2:=h.hx;have e3:=h.hy;have e4:=g.his;have e5:=g.hx;have e6:=g.hy;subst hs e1 e2 e3 e4 e5 e6;exact zL4 W s t A B C D na nb nc nd ca cb cc cd a1 a2 b1 b2
end
def zU4 (cs:Array Value):Nat->List Value->Array Value
 |_,[]=>cs
 |j,v::r=>zU4 (cs.setIfInBounds j v) (j+1) r
theorem zHr (g:Nat)(t:TypeId):∀(vs:List Value)(j:Nat)(w:World)(cs:Array Value),w.heap[g]? =some (.cells cs t (0,0))->(w.setCells g j vs).heap[g]? =some (.cells (zU4 cs j vs) t (0,0))/\Off g w (w.setCells g j vs)
 |[],j,w,cs,h=>⟨h,Off.refl g w⟩
 |v::r,j,w,cs,h=>by
  obtain⟨h1,h2⟩:=zHr g t r (j+1) _ _ (kAk w g t cs j v h);have h3:Off g w (w.setCell ⟨g,j,none⟩ v):=⟨rfl,rfl,rfl,by show _<=(w.heap.modify g _).size;simp,fun k _ hne=>Below.heap_setCell w ⟨g,j,none⟩ v k (by simpa using hne)⟩;exact⟨h1,h3.trans h2⟩
theorem jR.off {w w':World}{g g':Nat}{c:OC}(h:jR w g c)(ho:Off g' w w')(hne:g≠g'):jR w' g c:=(ho.block g h.lt hne).trans h
theorem zL {ty:TypeId}{n:Nat}(hsz:(Tryz.prog.info? ty).map (·.size)=some n){a:Act}{W:World}{Q:Exit->Act->World->Prop}{g:Nat}{c:OC}(h:jR W g c)(x y:Operand)(ho:op.op=.store ty x y)(hgd:op.guard=none)(hd:op.dst=none)
  (j:Nat) (v:Value) (vs:List Value) (c':OC) (hx:a.eval x=.pointer (some ⟨g,j,none⟩)) (hy:a.eval y=v) (hv:v.cells=vs.toArray) (hn:vs.length=n) (h1:∀u ∈ vs,u.oneCell'=true) (hj:j+vs.length<=21) (hc:zU4 c.row j vs=c'.row)
  (hk:∀W',jR W' g c'->Off g W W'->wpList Tryz.prog ops Q rest a W'):wpList Tryz.prog ops Q (op::rest) a W:=by
 have hcell:∀i,i<vs.length->(W.cell? ⟨g,j+i,none⟩).isSome=true/\W.frozen? ⟨g,j+i,none⟩=false:=fun i hi=>by
  refine⟨?_,h.thaw _⟩;have hs:j+i<c.row.size:=by rw[OC.size];omega
  rw[h.cell (j+i) _ (Array.getElem?_eq_getElem hs)];rfl
 have hrun:=run_storeCells_cells (P:=Tryz.prog) g j vs 0 W (fun i hi=>by simpa using(hcell i hi).1) (fun i hi=>by simpa using(hcell i hi).2) h1;have hst:(storeVar ty ⟨g,j,none⟩ v).run Tryz.prog W=.ok () (W.setCells g j vs):=by
  cases hq:Tryz.prog.info? ty with
  |none=>simp[hq]at hsz
  |some i=>
   have hs:i.size=vs.length:=by simp[hq]at hsz;omega
   simp only[Nat.add_zero]at hrun;simp[storeVar,sizeOf,typeInfo,hq,hv,hs,hrun]
 refine wpList_plain hgd fun K hK=>?_;unfold Oper.wp execOp;simp only[ho,hx,hy,Instr.storeAt,Instr.sureAddr,Sem.run_bind,Sem.run_pure,Result.andThen_ok,hst];obtain⟨r1,r2⟩:=zHr g _ vs j W _ h;rw[hc]at r1;exact hK _ _ (by rw[hd];exact hk _ r1 r2)
theorem zF {Q:Exit->Act->World->Prop}{dst:Option Nat}{ty:TypeId}{y:Operand}{t:TypeId}{a:Act}{w:World}(h:wpList P ops Q ({dst:=dst,op:=.store ty x y,type:=t,pos:=pos,after:=af,guard:=none}::rest) a w):wpList P ops Q ({dst:=dst,op:=.store ty x y,type:=t,pos:=pos,after:=af,guard:=none}::rest) a w:=h
theorem zC {Q:Exit->Act->World->Prop}{dst:Option Nat}{ty:TypeId}{t:TypeId}{a:Act}{w:World}(h:wpList P ops Q ({dst:=dst,op:=.load ty x,type:=t,pos:=pos,after:=af,guard:=none}::rest) a w):wpList P ops Q ({dst:=dst,op:=.load ty x,type:=t,pos:=pos,after:=af,guard:=none}::rest) a w:=h
theorem kH {Q:Exit->Act->World->Prop}{dst:Option Nat}{ty:TypeId}{t:TypeId}{gq:Nat×Bool}{a:Act}{w:World}(h:wpList P ops Q ({dst:=dst,op:=.load ty x,type:=t,pos:=pos,after:=af,guard:=some gq}::rest) a w):wpList P ops Q ({dst:=dst,op:=.load ty x,type:=t,pos:=pos,after:=af,guard:=some gq}::rest) a w:=h
theorem zDq {a:Act}{w:World}{Q:Exit->Act->World->Prop}{g:Nat}{c:OC}(h:jR w g c)
  (x:Operand) (ho:op.op=.load 35 x) (hw:Region.wanted op (yielded ops a.tmps)=true) (hx:a.eval x=.pointer (some ⟨g,0,none⟩)) (hk:wpList Tryz.prog ops Q rest (a.put op.dst (.agg c.row)) w):wpList Tryz.prog ops Q (op::rest) a w:=by
 obtain⟨d,h1,h2,h3⟩:=zK4;refine wpList_step fun K hK=>?_;rw[if_pos hw];exact wp_load_mid 35 x ho g 0 hx c.row.toList d h.range h1 h2 h3 (hK _ _ hk)
theorem zD3 {ty:TypeId}{d:TypeDesc}(hu:Tryz.prog.underlying ty=some d)(hd:d.isRow=false){w:World}{a:Addr}{v:Value}(hc:w.cell? a=some v):(loadVar ty a).run Tryz.prog w=.ok v w:=by
 have hagg:(isAgg ty).run Tryz.prog w=.ok false w:=by
  unfold isAgg;rw[Sem.run_bind,run_underlying hu w];cases d<;>simp_all
 simp[loadVar,Sem.run_bind,hagg,hc]
theorem zE {ty:TypeId}{a:Act}{w:World}{Q:Exit->Act->World->Prop}{g:Nat}{c:OC}(h:jR w g c){j:Nat}{v:Value}
  (x:Operand) (ho:op.op=.load ty x) (hgd:op.guard=none) (hx:a.eval x=.pointer (some ⟨g,j,none⟩)) (hv:c.row[j]? =some v) {d:TypeDesc} (hu:Tryz.prog.underlying ty=some d) (hd:d.isRow=false) (hk:wpList Tryz.prog ops Q rest (a.put op.dst v) w):wpList Tryz.prog ops Q (op::rest) a w:=by
 have hc:=h.cell j v hv;have hl:=zD3 hu hd hc;refine wpList_plain hgd fun K hK=>?_;unfold Oper.wp execOp;simp only[ho,hx,Instr.loadAt,Instr.sureAddr,Sem.run_bind,Sem.run_pure,Result.andThen_ok,hl];exact hK _ _ hk
theorem kR {ty:TypeId}{a:Act}{w:World}{Q:Exit->Act->World->Prop}{g:Nat}{c:OC}(h:jR w g c){j:Nat}{vs:List Value}
  (hrow:∃d,Tryz.prog.underlying ty=some d/\d.isRow=true/\(Tryz.prog.info? ty).map (·.size)=some vs.length) (x:Operand) (ho:op.op=.load ty x) (hgd:op.guard=none) (hx:a.eval x=.pointer (some ⟨g,j,none⟩)) (hv:(c.row.extract j (j+vs.length)).toList=vs) (hk:wpList Tryz.prog ops Q rest (a.put op.dst (.agg vs.toArray)) w):wpList Tryz.prog ops Q (op::rest) a w:=by
 obtain⟨d,h1,h2,h3⟩:=hrow;refine wpList_load_mid hgd ty x ho g j hx vs d (fun i v hi=>?_) h1 h2 h3 hk;refine h.cell (j+i) v ?_;rw[<-hv]at hi;simp only[Array.toList_extract,List.extract_eq_take_drop,List.getElem?_take,List.getElem?_drop]at hi;split at hi
 ·simpa using hi
 ·cases hi
theorem zCp :∃d,Tryz.prog.underlying 26=some d/\d.isRow=true/\(Tryz.prog.info? 26).map (·.size)=some 4:=⟨.struct (Tryz.prog.fieldsOf 26),by kernel_rfl,rfl,by kernel_rfl⟩
theorem zD4 :∃d,Tryz.prog.underlying 33=some d/\d.isRow=true/\(Tryz.prog.info? 33).map (·.size)=some 5:=⟨.struct (Tryz.prog.fieldsOf 33),by kernel_rfl,rfl,by kernel_rfl⟩
theorem zHs :(Tryz.prog.info? 3).map (·.size)=some 1:=Ka
theorem zCa :(Tryz.prog.info? 27).map (·.size)=some 1:=Ka
theorem zCq :(Tryz.prog.info? 22).map (·.size)=some 1:=Ka
theorem zFu :(Tryz.prog.info? 23).map (·.size)=some 1:=Ka
theorem zKq :(Tryz.prog.info? 26).map (·.size)=some 4:=Ka
theorem zJu :(Tryz.prog.info? 33).map (·.size)=some 5:=Ka
theorem zHt {v:Value}(h:v.oneCell'=true):∀u ∈ [v],u.oneCell'=true:=by simpa using h
theorem zBb (w:World)(c:OC):∃W0,(w.alloc (.cells c.row 35)).alloc (.cells #[.int .i64 0,.slice none 0 0,.slice none 0 0,.int .i64 0,.bool false,.slice none 0 0,.slice none 0 0,.slice none 0 0,.slice none 0 0,.slice none 0 0,.slice none 0 0,.bool false,.slice none 0 0,.int .i64 0,.slice none 0 0,.int .i64 0,.bool false,.slice none 0 0,.int .i64 0,.slice none 0 0,.int .i64 0] 35)=W0/\Below w.heap.size w W0/\W0.heap.size=w.heap.size+1+1/\jR W0 w.heap.size c/\jR W0 (w.heap.size+1) OC.zero:=by
 have h:=zK2 w (.cells c.row 35) (.cells OC.zero.row 35);exact⟨_,rfl,kM Kl Km,by simp,h.1,h.2⟩
theorem zN {w W W':World}{g:Nat}(hb:Below w.heap.size w W)(ho:Off g W W')(hg:w.heap.size<=g):Below w.heap.size w W':=hb.trans (ho.below hg hb.size)
