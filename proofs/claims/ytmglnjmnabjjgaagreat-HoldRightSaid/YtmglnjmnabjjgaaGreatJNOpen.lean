import Derived.Test.YtmglnjmnabjjgaaGreatRows
import Derived.ProofKit
import Derived.OpenShut
import Derived.Deep.Fields
import Derived.Test.YtmglnjmnabjjgaaGreatJXMove5
set_option maxRecDepth 4000
namespace Go.Proofs.YtmglnjmnabjjgaaGreat
open Go.ChangeShapes Go.WideShapes Go.RowKit Go.Deep
variable {P:Program}{r:Reach}{p:List MemPlace}
theorem own :ownKnob Tryz.prog.godebug=none:=Ka
theorem zEn :laidOutB Tryz.prog=true:=Ka
theorem zV6 :Tryz.prog.cellsOf 21=1:=Ka
theorem zN4 :Tryz.prog.cellsOf 4=1:=Ka
theorem zQ2 :Tryz.prog.cellsOf 9=1:=Ka
theorem zN5 :Tryz.prog.cellsOf 103=2:=Ka
theorem zKf :Tryz.prog.cellsOf 26=4:=Ka
theorem zIx :Tryz.prog.cellsOf 22=1:=Ka
theorem zMc :Tryz.prog.cellsOf 23=1:=Ka
theorem zS4 :Tryz.prog.cellsOf 24=1:=Ka
theorem zV7 :Tryz.prog.bytesOf 21=4:=Ka
theorem zV8 :Tryz.prog.bytesOf 103=32:=Ka
theorem zV9 :Tryz.prog.bytesOf 26=80:=Ka
theorem zS5 :Tryz.prog.underlying 103=some (.struct (Tryz.prog.fieldsOf 103)):=Ka
theorem zIy :Tryz.prog.underlying 26=some (.struct (Tryz.prog.fieldsOf 26)):=Ka
theorem kJ2 :((Tryz.prog.fieldsOf 103)[0]?).map (fun f=>(f.type,f.offset))=some (9,0):=Ka
theorem kJ3 :((Tryz.prog.fieldsOf 103)[1]?).map (fun f=>(f.type,f.offset))=some (9,1):=Ka
theorem kJ4 :((Tryz.prog.fieldsOf 26)[0]?).map (fun f=>(f.type,f.offset))=some (4,0):=Ka
theorem kJ5 :((Tryz.prog.fieldsOf 26)[1]?).map (fun f=>(f.type,f.offset))=some (22,1):=Ka
theorem kJ6 :((Tryz.prog.fieldsOf 26)[2]?).map (fun f=>(f.type,f.offset))=some (23,2):=Ka
theorem kJ7 :((Tryz.prog.fieldsOf 26)[3]?).map (fun f=>(f.type,f.offset))=some (24,3):=Ka
theorem zY7 :(Tryz.prog.fieldsOf 103).size=2:=Ka
theorem zY8 :(Tryz.prog.fieldsOf 26).size=4:=Ka
theorem zWa :(Tryz.prog.fieldsOf 26).toList.map (·.type)=[4,22,23,24]:=Ka
theorem zMd {w:World}{a:Addr}{v:Value}(h:w.cell? a=some v):a.block<w.heap.size/\a.spot=none:=by
 unfold World.cell? at h;cases hb:w.heap[a.block]? with
 |none=>rw[hb]at h;cases h
 |some o=>
  rw[hb]at h;refine⟨(Array.getElem?_eq_some_iff.1 hb).1,?_⟩;cases o<;>simp at h
  exact h.1
section
variable {H:Type}
theorem kCs (d:DataW H):1<=Rows.uptoBulk d:=by
 cases d with
 |lit l=>cases l<;>simp[Rows.uptoBulk]
 |nil=>simp[Rows.uptoBulk]
 |ptr d=>simp[Rows.uptoBulk]
 |slice elems spare=>simp[Rows.uptoBulk]
 |agg parts=>simp[Rows.uptoBulk]
 |iface t d=>simp[Rows.uptoBulk]
 |map entries=>simp[Rows.uptoBulk]
 |held h=>simp[Rows.uptoBulk]
theorem zS6 (l:List (DataW H)):l.length<=Rows.uptoBulkAll l:=by
 induction l with
 |nil=>simp[Rows.uptoBulkAll]
 |cons x r ih=>have:=kCs x;simp only[Rows.uptoBulkAll,List.length_cons];omega
theorem zQ3 (q:Nat->NT):∀(l:List (DataW H))(s:Nat),(∀i d,l[i]? =some d->sizeT (q (s+i))<=Rows.uptoBulk d)->sizeK ((List.range' s l.length).map q)<=Rows.uptoBulkAll l
 |[],s,_=>by simp[sizeK]
 |d::r,s,h=>by
  have h0:=h 0 d rfl;have h1:=zQ3 q r (s+1) (fun i d hd=>by have:=h (i+1) d hd;rwa[show s+(i+1)=s+1+i by omega]at this);simp only[List.length_cons,List.range'_succ,List.map_cons,sizeK,Rows.uptoBulkAll];have h0':sizeT (q s)<=Rows.uptoBulk d:=h0;omega
theorem zMe {e:TypeId}:∀{l:List (DataW H)}{d:DataW H},d ∈ l->∀n ∈ d.weights P e,n ∈ DataW.weightsAll P e l
 |[],_,h,_,_=>by cases h
 |x::r,d,h,n,hn=>by
  simp only[DataW.weightsAll,List.mem_append];rcases List.mem_cons.1 h with rfl|h
  ·exact .inl hn
  ·exact .inr (zMe h n hn)
end
section
variable {H:Type}{enc:TypeId×Value->H}{W:World}{base:Nat}{sp:Nat->Bool}{held:Bool}
theorem zN6 {fuel:Nat}{cs:List Value}{x:DataW H×List MemPlace}(h:DataW.trod enc Tryz.prog W base sp held fuel 23 cs=some x)(hw:∀n ∈ x.1.weights Tryz.prog 23,n<=reachBytes):
  ∃(A:Option Addr)(l:List Int)(c:Nat),cs=[.slice A l.length c]/\l.length<=35184372088832/\l.length<=c/\VL W W.heap.size A (rv l)/\l.length+1<=Rows.uptoBulk x.1:=by
 rcases open_ints Tryz.underlying23 Tryz.underlying21 zV6 h with⟨hcs,rfl⟩|⟨a,len,cap,zs,hcs,_,hl,hm,hz,rfl,hc,_⟩
 ·exact⟨none,[],0,hcs,by decide,Nat.le_refl _,VL.nil _ _ _,by simp[Rows.uptoBulk]⟩
 ·have hzl:len<=zs.length:=by rw[hz];split<;>omega
  have hlen:(zs.take len).length=len:=by simp;omega
  have hb:=hw ((lits .i32 (zs.take len) (H:=H)).length*4+(lits .i32 (zs.drop len) (H:=H)).length*4) (by simp[DataW.weights,Tryz.underlying23,zV7,Nat.add_mul]);have aY:(lits (H:=H) .i32 (zs.take len)).length=len:=by simp[lits];omega
  refine⟨some a,zs.take len,cap,by rw[hlen];exact hcs,by rw[hlen];rw[aY]at hb;unfold reachBytes at hb;omega,by rw[hlen];exact hl,fun hn=>?_,?_⟩
  ·have h0:0<len:=by
    rcases Nat.eq_zero_or_pos len with h|h
    ·subst h;simp[rv]at hn
    ·exact h
   have hs:=zMd (hc 0 Kb);simp only[Addr.add,if_true]at hs;obtain⟨b,o,s⟩:=a;obtain rfl:s=none:=hs.2;refine⟨b,o,rfl,hs.1,fun k u hk=>?_⟩;have hkl:k<len:=by have:=(List.getElem?_eq_some_iff.1 hk).1;rw[zCg,hlen]at this;exact this
   have h1:=hc k Kb;rw[add_plain]at h1;rw[h1,<-hk,kJt _ k Kb,zNy _ k Kb];simp[List.getD,show k<zs.length by omega]
  ·rw[hlen];have:=zS6 (lits (H:=H) .i32 (zs.take len));rw[aY]at this;simp only[Rows.uptoBulk];omega
theorem zKg {fuel:Nat}{cs:List Value}{x:DataW H×List MemPlace}(h:DataW.trod enc Tryz.prog W base sp held fuel 22 cs=some x)(hw:∀n ∈ x.1.weights Tryz.prog 22,n<=reachBytes):
  ∃(A:Option Addr)(l:List Pr)(c:Nat),cs=[.slice A l.length c]/\zIo l/\l.length<=4398046511104/\l.length<=c/\PL W W.heap.size A l:=by
 rcases DataW.trod_slice Tryz.underlying22 h with⟨hcs,_⟩|⟨a,len,cap,elems,rest,n,_,hcs,rfl,_,hl,hm,hlen,hel,_,_⟩
 ·exact⟨none,[],0,hcs,⟨by decide,by simp⟩,by decide,Nat.le_refl _,PL.nil _ _ _⟩
 ·have key:∀i,i<len->∃q:Pr,q.1.size<=maxLen/\q.2.size<=maxLen/\W.cell? (a.add (i*2))=some (.string q.1)/\W.cell? (a.add (i*2+1))=some (.string q.2):=by
   intro i him;have h1:=hel i him;rw[zN5,List.getElem?_eq_getElem Kb]at h1;obtain⟨cs',hc,ht⟩:=Option.bind_eq_some_iff.1 h1;obtain⟨ys,m,_,_,hcl,uv,hf⟩:=DataW.trod_struct zS5 ht;rw[zN5]at hcl;rw[zY7]at uv;obtain⟨_,_,hat⟩:=World.cells?_some hc;obtain⟨f0,e0,g0⟩:=Option.map_eq_some_iff.1 kJ2;obtain⟨f1,e1,g1⟩:=Option.map_eq_some_iff.1 kJ3;have r0:=hf 0 f0 e0;have r1:=hf 1 f1 e1;simp only[Prod.mk.injEq]at g0 g1;rw[g0.1,g0.2,zQ2]at r0;rw[g1.1,g1.2,zQ2]at r1;match cs',hcl,ys,uv with
   |[c0,c1],_,[y0,y1],_=>
    simp only[List.drop_zero,List.take_succ_cons,List.take_zero,List.drop_succ_cons,List.getElem?_cons_zero,List.getElem?_cons_succ]at r0 r1;have a0:=hat (i:=0) Kb;have a1:=hat (i:=1) Kb;rw[add_add]at a0 a1;simp only[List.getElem?_cons_zero,List.getElem?_cons_succ,Nat.add_zero]at a0 a1;obtain⟨s0,uw,_,w0⟩:=DataW.trod_string Tryz.underlying9 r0;obtain⟨s1,ux,_,w1⟩:=DataW.trod_string Tryz.underlying9 r1;simp only[List.cons.injEq,and_true]at uw ux;subst uw ux;exact⟨(s0,s1),w0,w1,a0,a1⟩
  obtain⟨q,hq⟩:=choose_lt key;have bp:((List.range len).map q).length=len:=by simp
  have hget:∀k,k<len->jU ((List.range len).map q) k=q k:=fun k hk=>by
   rw[zB7 _ k (by simpa using hk)];simp
  have hb:=hw (elems.length*32+rest.length*32) (by simp[DataW.weights,Tryz.underlying22,zV8,Nat.add_mul]);refine⟨some a,(List.range len).map q,cap,by rw[bp];exact hcs,⟨by rw[bp];unfold maxLen at hm;omega,fun p hp=>?_⟩,by rw[bp];unfold reachBytes at hb;omega,by rw[bp];exact hl,fun hn=>?_⟩
  ·obtain⟨k,hk,rfl⟩:=List.mem_map.1 hp;have:=hq k (List.mem_range.1 hk);unfold maxLen at this;omega
  ·have h0:0<len:=by
    rcases Nat.eq_zero_or_pos len with h|h
    ·subst h;exact absurd rfl hn
    ·exact h
   have hs:=zMd (hq 0 h0).2.2.1;simp only[Nat.zero_mul,Addr.add,if_true]at hs;obtain⟨b,o,s⟩:=a;obtain rfl:s=none:=hs.2;refine⟨b,o,rfl,hs.1,fun k hk=>?_⟩;rw[bp]at hk;rw[hget k hk];have h1:=(hq k hk).2.2.1;have h2:=(hq k hk).2.2.2;rw[add_plain]at h1 h2;exact⟨h1,h2⟩
theorem zV.deeper {w:World}{B:Nat}:∀{d:Nat}{v:Value}{n:NT},zV d w B v n->zV (d+1) w B v n
 |0,_,_,h=>h.elim
 |d+1,_,_,⟨PA,pc,TA,tc,KA,kc,e,hp,ht,hf,hks⟩=>⟨PA,pc,TA,tc,KA,kc,e,hp,ht,hf,fun k m hm=>by
   obtain⟨b,o,u,e1,hb,hn,hc⟩:=hks k m hm;exact⟨b,o,u,e1,hb,hn.deeper,hc⟩⟩
instance : Inhabited NT:=⟨.mk false [] [] []⟩
theorem zQ4 :∀(fuel:Nat)(cs:List Value)(x:DataW H×List MemPlace),DataW.trod enc Tryz.prog W base sp held fuel 26 cs=some x->(∀n ∈ x.1.weights Tryz.prog 26,n<=reachBytes)->
  ∃c0 c1 c2 c3 n,cs=[c0,c1,c2,c3]/\zV fuel W W.heap.size (.agg #[c0,c1,c2,c3]) n/\sizeT n<=Rows.uptoBulk x.1/\zRi n:=by
 intro fuel;induction fuel using Nat.strongRecOn with
 | ind fuel ih=>
  intro cs x h hw;obtain⟨xs,f1,rfl,rfl,hcl,hxl,hf⟩:=DataW.trod_struct zIy h;rw[zKf]at hcl;rw[zY8]at hxl;obtain⟨t0,e0,g0⟩:=Option.map_eq_some_iff.1 kJ4;obtain⟨t1,e1,g1⟩:=Option.map_eq_some_iff.1 kJ5;obtain⟨t2,e2,g2⟩:=Option.map_eq_some_iff.1 kJ6;obtain⟨t3,e3,g3⟩:=Option.map_eq_some_iff.1 kJ7;simp only[Prod.mk.injEq]at g0 g1 g2 g3;have r0:=hf 0 t0 e0;have r1:=hf 1 t1 e1;have r2:=hf 2 t2 e2;have r3:=hf 3 t3 e3;rw[g0.1,g0.2,zN4]at r0;rw[g1.1,g1.2,zIx]at r1;rw[g2.1,g2.2,zMc]at r2;rw[g3.1,g3.2,zS4]at r3;match cs,hcl,xs,hxl with
  | [c0,c1,c2,c3],_,[x0,x1,x2,x3],_=>
   simp only[List.drop_zero,List.take_succ_cons,List.take_zero,List.drop_succ_cons,List.getElem?_cons_zero,List.getElem?_cons_succ]at r0 r1 r2 r3;have kj:∀n ∈ DataW.weightsEach Tryz.prog [4,22,23,24] [x0.1,x1.1,x2.1,x3.1],n<=reachBytes:=fun n hn=>hw n (by
    simp only[DataW.weights,zIy,zWa,List.map_cons,List.map_nil];exact hn)
   obtain⟨lf,k0,_⟩:=DataW.trod_bool Tryz.underlying4 r0;obtain⟨PA,ps,pc,k1,wY,hpl,hpc,hP⟩:=zKg r1 (fun n hn=>kj n (DataW.weights_mem_each (j:=1) rfl rfl n hn));obtain⟨TA,tx,tc,k2,htl,wZ,hT,ze⟩:=zN6 r2 (fun n hn=>kj n (DataW.weights_mem_each (j:=2) rfl rfl n hn));simp only[List.cons.injEq,and_true]at k0 k1 k2;subst k0 k1 k2;have hwk:=fun n hn=>kj n (DataW.weights_mem_each (j:=3) rfl rfl n hn);have hk:∃(KA:Option Addr)(ks:List NT)(kc:Nat),c3=.slice KA ks.length kc/\ks.length<=1759218604390/\zKn f1 W W.heap.size KA ks/\sizeK ks+1<=Rows.uptoBulk x3.1/\ks.length<=kc/\zU1 ks:=by
    rcases DataW.trod_slice Tryz.underlying24 r3 with⟨hcs,rfl⟩|⟨a,len,cap,elems,rest,f2,rfl,hcs,rfl,_,hl,hm,hlen,hel,_,_⟩
    ·simp only[List.cons.injEq,and_true]at hcs;exact⟨none,[],0,hcs,by decide,fun k m hm=>by simp at hm,by simp[sizeK,Rows.uptoBulk],Nat.le_refl _,trivial⟩
    ·have key:∀i,i<len->∃m:NT,(∃u,zV f2 W W.heap.size u m/\∃c0 c1 c2 c3,u=.agg #[c0,c1,c2,c3]/\W.cell? (a.add (i*4))=some c0/\W.cell? (a.add (i*4+1))=some c1/\W.cell? (a.add (i*4+2))=some c2/\W.cell? (a.add (i*4+3))=some c3)/\(∀d,(elems.map (·.1))[i]? =some d->sizeT m<=Rows.uptoBulk d)/\zRi m:=by
      intro i him;have h1:=hel i him;have lI:i<elems.length:=Kb;rw[zKf,List.getElem?_eq_getElem lI]at h1;obtain⟨cs',hc,ht⟩:=Option.bind_eq_some_iff.1 h1;obtain⟨b0,b1,b2,b3,m,rfl,hn,hs,xa⟩:=ih f2 Kb cs' _ ht (fun n hn=>hwk n (by
       simp only[DataW.weights,Tryz.underlying24,List.mem_cons,List.mem_append];exact .inr (.inl (zMe (List.mem_map.2 ⟨_,List.getElem_mem lI,rfl⟩) n hn))))
      obtain⟨_,_,hat⟩:=World.cells?_some hc;have a0:=hat (i:=0) Kb;have a1:=hat (i:=1) Kb;have a2:=hat (i:=2) Kb;have a3:=hat (i:=3) Kb;rw[add_add]at a0 a1 a2 a3;simp only[List.getElem?_cons_zero,List.getElem?_cons_succ,Nat.add_zero]at a0 a1 a2 a3;refine⟨m,⟨_,hn,b0,b1,b2,b3,rfl,a0,a1,a2,a3⟩,fun d hd=>?_,xa⟩;rw[List.getElem?_map,List.getElem?_eq_getElem lI]at hd;simp only[Option.map_some,Option.some.injEq]at hd;rw[<-hd];exact hs
     obtain⟨q,hq⟩:=choose_lt key;have bp:((List.range len).map q).length=len:=by simp
     have hb:=hwk (elems.length*80+rest.length*80) (by simp[DataW.weights,Tryz.underlying24,zV9,Nat.add_mul]);refine⟨some a,(List.range len).map q,cap,by rw[bp];simpa using hcs,by rw[bp];unfold reachBytes at hb;omega,fun k m hm=>?_,?_,by rw[bp];exact hl,zRj fun k m hm=>?_⟩
     ·have hkl:k<len:=by have:=(List.getElem?_eq_some_iff.1 hm).1;rwa[bp]at this
      rw[List.getElem?_map,List.getElem?_range hkl]at hm;simp only[Option.map_some,Option.some.injEq]at hm;subst hm;obtain⟨⟨u,hn,d0,d1,d2,d3,eu,a0,a1,a2,a3⟩,_,_⟩:=hq k hkl;obtain⟨⟨_,_,_,_,_,_,_,z0,_⟩,_,_⟩:=hq 0 Kb;have hab:=zMd z0;simp only[Nat.zero_mul,Addr.add,if_true]at hab;obtain⟨b,o,s⟩:=a;obtain rfl:s=none:=hab.2;rw[add_plain]at a0 a1 a2 a3;exact⟨b,o,u,rfl,hab.1,hn.deeper,d0,d1,d2,d3,eu,a0,a1,a2,a3⟩
     ·have hbk:=zQ3 q (elems.map (·.1)) 0 (fun i d hd=>by
       have hil:i<len:=by have:=(List.getElem?_eq_some_iff.1 hd).1;simp at this;omega
       rw[Nat.zero_add];exact(hq i hil).2.1 d hd)
      rw[List.length_map,hlen,<-List.range_eq_range']at hbk;simp only[Rows.uptoBulk];omega
     ·have hkl:k<len:=by have:=(List.getElem?_eq_some_iff.1 hm).1;rwa[bp]at this
      rw[List.getElem?_map,List.getElem?_range hkl]at hm;simp only[Option.map_some,Option.some.injEq]at hm;subst hm;exact(hq k hkl).2.2
   obtain⟨KA,ks,kc,rfl,hkl,hK,zf,hkc,htk⟩:=hk;refine⟨_,_,_,_,.mk lf ps tx ks,rfl,zV.shut rfl rfl rfl hP hT ⟨wY,hpl,htl,by omega,hpc,wZ,hkc⟩ hK,?_,⟨hkl,htk⟩⟩;simp only[sizeT,Rows.uptoBulk,Rows.uptoBulkAll,List.map_cons,List.map_nil];omega
theorem zJi {b0:Nat}{v:Value}{d:DataW H}(hv:Value.okWide Tryz.prog W r b0 26 v)(h:DataW.Trod enc Tryz.prog W base sp held 26 v d p)(hw:∀n ∈ d.weights Tryz.prog 26,n<=reachBytes):
  ∃f n,zV f W W.heap.size v n/\sizeT n<=Rows.uptoBulk d/\zRi n:=by
 obtain⟨fuel,hf⟩:=h;obtain⟨c0,c1,c2,c3,n,hcs,hn,hs,ht⟩:=zQ4 fuel _ _ hf hw;obtain⟨cs,rfl,hcz⟩:=okWide_struct zIy hv;have e:cs=#[c0,c1,c2,c3]:=by
  apply Array.toList_inj.1;simpa[Value.cells]using hcs
 subst e;exact⟨fuel,n,hn,hs,ht⟩
end
theorem zHm :Tryz.prog.cellsOf 3=1:=Ka
theorem zY9 {w:World}{a:Addr}{v:Value}(h:w.cell? a=some v):a.block<w.heap.size/\a.spot=none:=by
 unfold World.cell? at h;cases hb:w.heap[a.block]? with
 |none=>rw[hb]at h;cases h
 |some o=>
  rw[hb]at h;refine⟨(Array.getElem?_eq_some_iff.1 hb).1,?_⟩;cases o<;>simp at h
  exact h.1
def kM4 (l:List Int):Prop:=∀k,k<l.length-> -9223372036854775808<=iAt l k/\iAt l k<=9223372036854775807
theorem kG0 {l:List Int}(h:∀n ∈ l,(Lit.int .i64 n).wf=true):kM4 l:=by
 intro k hk;have:=h (iAt l k) (by rw[jY l k hk];exact List.getElem_mem hk);have e1:IntKind.i64.min= -9223372036854775808:=by decide
 have e2:IntKind.i64.max=9223372036854775807:=by decide
 simp[Lit.wf,e1,e2]at this;omega
theorem zZa :Tryz.prog.underlying 29=some (.struct (Tryz.prog.fieldsOf 29)):=Ka
theorem kM5 :((Tryz.prog.fieldsOf 29)[0]?).map (fun f=>(f.type,f.offset))=some (27,0):=Ka
theorem kM6 :((Tryz.prog.fieldsOf 29)[1]?).map (fun f=>(f.type,f.offset))=some (3,1):=Ka
theorem kG1 :(Tryz.prog.fieldsOf 29).size=2:=Ka
theorem zO2 :Tryz.prog.cellsOf 29=2:=Ka
theorem zKh :Tryz.prog.cellsOf 27=1:=Ka
theorem zQ5 :Tryz.prog.underlying 31=some (.struct (Tryz.prog.fieldsOf 31)):=Ka
theorem kG2 :((Tryz.prog.fieldsOf 31)[0]?).map (fun f=>(f.type,f.offset))=some (29,0):=Ka
theorem kG3 :((Tryz.prog.fieldsOf 31)[1]?).map (fun f=>(f.type,f.offset))=some (29,2):=Ka
theorem zWb :(Tryz.prog.fieldsOf 31).size=2:=Ka
theorem zMf :Tryz.prog.cellsOf 31=4:=Ka
theorem zN7 :Tryz.prog.underlying 33=some (.struct (Tryz.prog.fieldsOf 33)):=Ka
theorem kLz :((Tryz.prog.fieldsOf 33)[0]?).map (fun f=>(f.type,f.offset))=some (4,0):=Ka
theorem kL0 :((Tryz.prog.fieldsOf 33)[1]?).map (fun f=>(f.type,f.offset))=some (31,1):=Ka
theorem kCt :(Tryz.prog.fieldsOf 33).size=2:=Ka
theorem zMg :Tryz.prog.cellsOf 33=5:=Ka
section
variable {H:Type}{enc:TypeId×Value->H}{W:World}{base:Nat}{held:Bool}
theorem zWc {fuel:Nat}{cs:List Value}{x:DataW H×List MemPlace}(h:DataW.trod enc Tryz.prog W base (fun _=>true) held fuel 27 cs=some x):
  ∃(A:Option Addr)(l:List Int)(c:Nat),cs=[.slice A l.length c]/\l.length<=9223372036854775807/\l.length<=c/\IL W W.heap.size A l:=by
 rcases open_ints Tryz.underlying27 Tryz.underlying3 zHm h with⟨hcs,_⟩|⟨a,len,cap,zs,hcs,_,hl,hm,hz,_,hc,hw⟩
 ·exact⟨none,[],0,hcs,by decide,Nat.le_refl _,IL.nil _ _ _⟩
 ·simp only[if_true]at hz;have hlen:(zs.take len).length=len:=by simp;omega
  refine⟨some a,zs.take len,cap,by rw[hlen];exact hcs,by rw[hlen];unfold maxLen at hm;omega,by rw[hlen];exact hl,fun hn=>?_⟩;have h0:0<len:=by
   rcases Nat.eq_zero_or_pos len with h|h
   ·subst h;simp at hn
   ·exact h
  have hs:=zY9 (hc 0 Kb);simp only[Addr.add,if_true]at hs;obtain⟨b,o,s⟩:=a;obtain rfl:s=none:=hs.2;refine⟨b,o,rfl,hs.1,fun k hk=>?_⟩;rw[hlen]at hk;have h1:=hc k Kb;rw[add_plain]at h1;rw[h1,jY _ k Kb];simp[List.getD,show k<zs.length by omega]
def zMh (W:World)(c0 c1:Value)(p:List Int×Int):Prop:=∃A c,c0=.slice A p.1.length c/\c1=.int .i64 p.2/\p.1.length<=9223372036854775807/\p.1.length<=c/\IL W W.heap.size A p.1
theorem zUo {fuel:Nat}{cs:List Value}{x:DataW H×List MemPlace}(h:DataW.trod enc Tryz.prog W base (fun _=>true) held fuel 29 cs=some x):∃c0 c1 p,cs=[c0,c1]/\zMh W c0 c1 p:=by
 obtain⟨xs,f1,rfl,rfl,hcl,hxl,hf⟩:=DataW.trod_struct zZa h;rw[zO2]at hcl;rw[kG1]at hxl;obtain⟨t0,e0,g0⟩:=Option.map_eq_some_iff.1 kM5;obtain⟨t1,e1,g1⟩:=Option.map_eq_some_iff.1 kM6;simp only[Prod.mk.injEq]at g0 g1;have r0:=hf 0 t0 e0;have r1:=hf 1 t1 e1;rw[g0.1,g0.2,zKh]at r0;rw[g1.1,g1.2,zHm]at r1;match cs,hcl,xs,hxl with
 |[c0,c1],_,[x0,x1],_=>
  simp only[List.drop_zero,List.take_succ_cons,List.take_zero,List.drop_succ_cons,List.getElem?_cons_zero,List.getElem?_cons_succ]at r0 r1;obtain⟨A,l,c,k0,h1,h2,h3⟩:=zWc r0;obtain⟨n,k1,_,_⟩:=DataW.trod_int Tryz.underlying3 r1;simp only[List.cons.injEq,and_true]at k0 k1;exact⟨c0,c1,(l,n),rfl,A,c,k0,k1,h1,h2,h3⟩
end
section
variable {H:Type}{enc:TypeId×Value->H}{W:World}{base:Nat}{held:Bool}
theorem zS7 {fuel:Nat}{cs:List Value}{x:DataW H×List MemPlace}(h:DataW.trod enc Tryz.prog W base (fun _=>true) held fuel 31 cs=some x):∃c0 c1 c2 c3 p q,cs=[c0,c1,c2,c3]/\zMh W c0 c1 p/\zMh W c2 c3 q:=by
 obtain⟨xs,f1,rfl,rfl,hcl,hxl,hf⟩:=DataW.trod_struct zQ5 h;rw[zMf]at hcl;rw[zWb]at hxl;obtain⟨t0,e0,g0⟩:=Option.map_eq_some_iff.1 kG2;obtain⟨t1,e1,g1⟩:=Option.map_eq_some_iff.1 kG3;simp only[Prod.mk.injEq]at g0 g1;have r0:=hf 0 t0 e0;have r1:=hf 1 t1 e1;rw[g0.1,g0.2,zO2]at r0;rw[g1.1,g1.2,zO2]at r1;match cs,hcl,xs,hxl with
 |[c0,c1,c2,c3],_,[x0,x1],_=>
  simp only[List.drop_zero,List.take_succ_cons,List.take_zero,List.drop_succ_cons,List.getElem?_cons_zero,List.getElem?_cons_succ]at r0 r1;obtain⟨a0,a1,p,k0,h0⟩:=zUo r0;obtain⟨a2,a3,q,k1,h1⟩:=zUo r1;simp only[List.cons.injEq,and_true]at k0 k1;obtain⟨rfl,rfl⟩:=k0;obtain⟨rfl,rfl⟩:=k1;exact⟨_,_,_,_,p,q,rfl,h0,h1⟩
theorem zMi {fuel:Nat}{cs:List Value}{x:DataW H×List MemPlace}(h:DataW.trod enc Tryz.prog W base (fun _=>true) held fuel 33 cs=some x):∃is c0 c1 c2 c3 p q,cs=[.bool is,c0,c1,c2,c3]/\zMh W c0 c1 p/\zMh W c2 c3 q:=by
 obtain⟨xs,f1,rfl,rfl,hcl,hxl,hf⟩:=DataW.trod_struct zN7 h;rw[zMg]at hcl;rw[kCt]at hxl;obtain⟨t0,e0,g0⟩:=Option.map_eq_some_iff.1 kLz;obtain⟨t1,e1,g1⟩:=Option.map_eq_some_iff.1 kL0;simp only[Prod.mk.injEq]at g0 g1;have r0:=hf 0 t0 e0;have r1:=hf 1 t1 e1;rw[g0.1,g0.2,zN4]at r0;rw[g1.1,g1.2,zMf]at r1;match cs,hcl,xs,hxl with
 |[c0,c1,c2,c3,c4],_,[x0,x1],_=>
  simp only[List.drop_zero,List.take_succ_cons,List.take_zero,List.drop_succ_cons,List.getElem?_cons_zero,List.getElem?_cons_succ]at r0 r1;obtain⟨is,k0,_⟩:=DataW.trod_bool Tryz.underlying4 r0;obtain⟨a0,a1,a2,a3,p,q,k1,h0,h1⟩:=zS7 r1;simp only[List.cons.injEq,and_true]at k0 k1;obtain rfl:=k0;obtain⟨rfl,rfl,rfl,rfl⟩:=k1;exact⟨is,_,_,_,_,p,q,rfl,h0,h1⟩
end
theorem zMj :Tryz.prog.underlying 35=some (.struct (Tryz.prog.fieldsOf 35)):=Ka
theorem kL1 :((Tryz.prog.fieldsOf 35)[0]?).map (fun f=>(f.type,f.offset))=some (3,0):=Ka
theorem kL2 :((Tryz.prog.fieldsOf 35)[1]?).map (fun f=>(f.type,f.offset))=some (27,1):=Ka
theorem kL3 :((Tryz.prog.fieldsOf 35)[2]?).map (fun f=>(f.type,f.offset))=some (27,2):=Ka
theorem kL4 :((Tryz.prog.fieldsOf 35)[3]?).map (fun f=>(f.type,f.offset))=some (3,3):=Ka
theorem kL5 :((Tryz.prog.fieldsOf 35)[4]?).map (fun f=>(f.type,f.offset))=some (26,4):=Ka
theorem kL6 :((Tryz.prog.fieldsOf 35)[5]?).map (fun f=>(f.type,f.offset))=some (22,8):=Ka
theorem kL7 :((Tryz.prog.fieldsOf 35)[6]?).map (fun f=>(f.type,f.offset))=some (22,9):=Ka
theorem kL8 :((Tryz.prog.fieldsOf 35)[7]?).map (fun f=>(f.type,f.offset))=some (23,10):=Ka
theorem kL9 :((Tryz.prog.fieldsOf 35)[8]?).map (fun f=>(f.type,f.offset))=some (33,11):=Ka
theorem kMa :((Tryz.prog.fieldsOf 35)[9]?).map (fun f=>(f.type,f.offset))=some (33,16):=Ka
theorem kG4 :(Tryz.prog.fieldsOf 35).size=10:=Ka
theorem kCu :Tryz.prog.cellsOf 35=21:=Ka
theorem kCv :(Tryz.prog.fieldsOf 35).toList.map (·.type)=[3,27,27,3,26,22,22,23,33,33]:=Ka
section
variable {H:Type}{enc:TypeId×Value->H}{W:World}{base:Nat}{held:Bool}
theorem zQ6 {fuel:Nat}{cs:List Value}{x:DataW H×List MemPlace}(h:DataW.trod enc Tryz.prog W base (fun _=>true) held fuel 27 cs=some x):
  ∃(A:Option Addr)(l:List Int)(c:Nat),cs=[.slice A l.length c]/\l.length<=9223372036854775807/\l.length<=c/\InI l/\IL W W.heap.size A l:=by
 rcases open_ints Tryz.underlying27 Tryz.underlying3 zHm h with⟨hcs,_⟩|⟨a,len,cap,zs,hcs,_,hl,hm,hz,_,hc,hw⟩
 ·exact⟨none,[],0,hcs,by decide,Nat.le_refl _,InI.nil,IL.nil _ _ _⟩
 ·simp only[if_true]at hz;have hlen:(zs.take len).length=len:=by simp;omega
  refine⟨some a,zs.take len,cap,by rw[hlen];exact hcs,by rw[hlen];unfold maxLen at hm;omega,by rw[hlen];exact hl,fun k hk=>(kG0 (fun n hn=>hw n (List.mem_of_mem_take hn)) k hk).symm,fun hn=>?_⟩;have h0:0<len:=by
   rcases Nat.eq_zero_or_pos len with h|h
   ·subst h;simp at hn
   ·exact h
  have hs:=zY9 (hc 0 Kb);simp only[Addr.add,if_true]at hs;obtain⟨b,o,s⟩:=a;obtain rfl:s=none:=hs.2;refine⟨b,o,rfl,hs.1,fun k hk=>?_⟩;rw[hlen]at hk;have h1:=hc k Kb;rw[add_plain]at h1;rw[h1,jY _ k Kb];simp[List.getD,show k<zs.length by omega]
theorem kMb {k:Int}(h:(Lit.int .i64 k).wf=true):zFf k:=by
 have e1:IntKind.i64.min= -9223372036854775808:=by decide
 have e2:IntKind.i64.max=9223372036854775807:=by decide
 simp[Lit.wf,e1,e2]at h;exact h
theorem kG5 {fuel:Nat}{cs:List Value}{x:DataW H×List MemPlace}(h:DataW.trod enc Tryz.prog W base (fun _=>true) held fuel 35 cs=some x)(hw:∀n ∈ x.1.weights Tryz.prog 35,n<=reachBytes):
  ∃c a,cs=c.row.toList/\OkA W c a:=by
 obtain⟨xs,f1,rfl,rfl,hcl,hxl,hf⟩:=DataW.trod_struct zMj h;rw[kCu]at hcl;rw[kG4]at hxl;obtain⟨t0,e0,g0⟩:=Option.map_eq_some_iff.1 kL1;obtain⟨t1,e1,g1⟩:=Option.map_eq_some_iff.1 kL2;obtain⟨t2,e2,g2⟩:=Option.map_eq_some_iff.1 kL3;obtain⟨t3,e3,g3⟩:=Option.map_eq_some_iff.1 kL4;obtain⟨t4,e4,g4⟩:=Option.map_eq_some_iff.1 kL5;obtain⟨t5,e5,g5⟩:=Option.map_eq_some_iff.1 kL6;obtain⟨t6,e6,g6⟩:=Option.map_eq_some_iff.1 kL7;obtain⟨t7,e7,g7⟩:=Option.map_eq_some_iff.1 kL8;obtain⟨t8,e8,g8⟩:=Option.map_eq_some_iff.1 kL9;obtain⟨t9,e9,g9⟩:=Option.map_eq_some_iff.1 kMa;simp only[Prod.mk.injEq]at g0 g1 g2 g3 g4 g5 g6 g7 g8 g9;have r0:=hf 0 t0 e0;have r1:=hf 1 t1 e1;have r2:=hf 2 t2 e2;have r3:=hf 3 t3 e3;have r4:=hf 4 t4 e4;have r5:=hf 5 t5 e5;have r6:=hf 6 t6 e6;have r7:=hf 7 t7 e7;have r8:=hf 8 t8 e8;have r9:=hf 9 t9 e9;rw[g0.1,g0.2,zHm]at r0;rw[g1.1,g1.2,zKh]at r1;rw[g2.1,g2.2,zKh]at r2;rw[g3.1,g3.2,zHm]at r3;rw[g4.1,g4.2,zKf]at r4;rw[g5.1,g5.2,zIx]at r5;rw[g6.1,g6.2,zIx]at r6;rw[g7.1,g7.2,zMc]at r7;rw[g8.1,g8.2,zMg]at r8;rw[g9.1,g9.2,zMg]at r9;clear hf h e0 e1 e2 e3 e4 e5 e6 e7 e8 e9 g0 g1 g2 g3 g4 g5 g6 g7 g8 g9;match cs,hcl,xs,hxl with
 |[c0,c1,c2,c3,c4,c5,c6,c7,c8,c9,c10,c11,c12,c13,c14,c15,c16,c17,c18,c19,c20],_,[x0,x1,x2,x3,x4,x5,x6,x7,x8,x9],_=>
  simp only[List.drop_zero,List.take_succ_cons,List.take_zero,List.drop_succ_cons,List.getElem?_cons_zero,List.getElem?_cons_succ]at r0 r1 r2 r3 r4 r5 r6 r7 r8 r9;have kj:∀n ∈ DataW.weightsEach Tryz.prog [3,27,27,3,26,22,22,23,33,33] [x0.1,x1.1,x2.1,x3.1,x4.1,x5.1,x6.1,x7.1,x8.1,x9.1],n<=reachBytes:=fun n hn=>hw n (by
   simp only[DataW.weights,zMj,kCv,List.map_cons,List.map_nil];exact hn)
  obtain⟨n0,k0,_,xb⟩:=DataW.trod_int Tryz.underlying3 r0;obtain⟨A,q,cq,k1,a1,a2,a3,a4⟩:=zQ6 r1;obtain⟨B,t,ct,k2,b1,b2,b3,b4⟩:=zQ6 r2;obtain⟨n3,k3,_,_⟩:=DataW.trod_int Tryz.underlying3 r3;obtain⟨d0,d1,d2,d3,n,k4,hn,_,_⟩:=zQ4 _ _ _ r4 (fun n hn=>kj n (DataW.weights_mem_each (j:=4) rfl rfl n hn));obtain⟨PO,o,po,k5,o1,o2,o3,o4⟩:=zKg r5 (fun n hn=>kj n (DataW.weights_mem_each (j:=5) rfl rfl n hn));obtain⟨PW,w,pw,k6,w1,w2,w3,w4⟩:=zKg r6 (fun n hn=>kj n (DataW.weights_mem_each (j:=6) rfl rfl n hn));obtain⟨TX,tx,tc,k7,xc,xd,xe,_⟩:=zN6 r7 (fun n hn=>kj n (DataW.weights_mem_each (j:=7) rfl rfl n hn));obtain⟨fi,f0,zg,f2,f3,fp,fq,k8,⟨FA,fc,rfl,rfl,xf,xg,xh⟩,⟨FB,fd,rfl,rfl,xj,xk,xm⟩⟩:=zMi r8;obtain⟨gi,h0,h1,h2,h3,gp,gq,k9,⟨GA,gc,rfl,rfl,xn,xo,xp⟩,⟨GB,gd,rfl,rfl,xq,xt,xu⟩⟩:=zMi r9;obtain⟨lf,P,np,pc,X,nt,tc',K,nk,kc,hv⟩:=hn.val;simp only[Value.agg.injEq,Array.mk.injEq,List.cons.injEq,and_true]at hv;obtain⟨rfl,rfl,rfl,rfl⟩:=hv;simp only[List.cons.injEq,and_true]at k0 k1 k2 k3 k4 k5 k6 k7 k8 k9;obtain⟨rfl,rfl,rfl,rfl⟩:=k4;obtain⟨rfl,rfl,rfl,rfl,rfl⟩:=k8;obtain⟨rfl,rfl,rfl,rfl,rfl⟩:=k9;subst k0 k1 k2 k3 k5 k6 k7;refine⟨OC.mk n0 A q.length cq B t.length ct n3 lf P np pc X nt tc' K nk kc PO o.length po PW w.length pw TX tx.length tc fi FA fp.1.length fc fp.2 FB fq.1.length fd fq.2 gi GA gp.1.length gc gp.2 GB gq.1.length gd gq.2,
   ⟨n0,q,t,n3,n,o,w,tx,⟨fi,fp,fq⟩,⟨gi,gp,gq⟩⟩,rfl,?_⟩
  exact OkA.mk rfl (kMb xb) rfl rfl a2 a1 a4 a3 rfl b2 b1 b4 b3 ⟨_,hn⟩ rfl o3 o2 o1 o4 rfl w3 w2 w1 w4 rfl xd xc xe ⟨rfl,rfl,rfl,rfl,rfl,xg,xk,xf,xj,xh,xm⟩ ⟨rfl,rfl,rfl,rfl,rfl,xo,xt,xn,xq,xp,xu⟩
theorem zGs {b0:Nat}{v:Value}{d:DataW H}(hv:Value.okWide Tryz.prog W r b0 35 v)(h:DataW.Trod enc Tryz.prog W base (fun _=>true) held 35 v d p)(hw:∀n ∈ d.weights Tryz.prog 35,n<=reachBytes):
  ∃c a,v=.agg (OC.row c)/\OkA W c a:=by
 obtain⟨fuel,hf⟩:=h;obtain⟨c,a,hcs,hok⟩:=kG5 hf hw;obtain⟨cs,rfl,hcz⟩:=okWide_struct zMj hv;have e:cs=c.row:=by
  apply Array.toList_inj.1;simpa[Value.cells]using hcs
 subst e;exact⟨c,a,rfl,hok⟩
end
structure kNj where
 id:Int
 kind:Int
 aff:Int
 live:Bool
 p:List Int
 q:List Int×Int
 a:List Int×Int
 f:List Int×Int
def kVy :kNj:=⟨0,0,0,false,[],([],0),([],0),([],0)⟩
def kV4 (r s:kNj):Bool:=r.id==s.id&&(r.kind==s.kind&&(r.aff==s.aff&&(r.live==s.live&&(decide (r.p=s.p)&&(samP r.q s.q&&(samP r.a s.a&&samP r.f s.f))))))
theorem kQ1 (r:kNj):kV4 r r=true:=by simp[kV4,samP]
def kO1 (r:kNj):Bool:=decide (r.p.length<=50)&&(decide (r.q.1.length<=50)&&(decide (r.a.1.length<=50)&&decide (r.f.1.length<=50)))
def kO9 (l:List kNj):Bool:=l.all kO1&&decide (l.length<=300)
theorem kUg {l:List kNj}{k:Nat}{r:kNj}(h:l[k]? =some r)(hf:kO1 r=false):kO9 l=false:=by
 unfold kO9;rw[Bool.and_eq_false_iff];left
 rw[List.all_eq_false];exact⟨r,List.mem_of_getElem? h,by simp[hf]⟩
theorem kTa {l:List kNj}(h:∀(k:Nat)(r:kNj),l[k]? =some r->kO1 r=true):kO9 l=decide (l.length<=300):=by
 unfold kO9;rw[List.all_eq_true.2 (fun r hr=>by obtain⟨k,hk⟩:=List.getElem?_of_mem hr;exact h k r hk),Bool.true_and]
theorem kPa {r:kNj}(h:kO1 r=true):r.p.length<=50/\r.q.1.length<=50/\r.a.1.length<=50/\r.f.1.length<=50:=by
 simpa[kO1,and_assoc]using h
theorem kN9 {l:List kNj}(h:kO9 l=true){r:kNj}(hr:r ∈ l):kO1 r=true:=by
 unfold kO9 at h;rw[Bool.and_eq_true,List.all_eq_true]at h;exact h.1 r hr
def zP (p:List Int×Int):Bool:=samP p ([],0)
def chkR (n:NT)(r:kNj):Int:=
 if r.kind=1 then(if r.aff≠0∨zP r.q=false∨(zP r.a&&zP r.f)=false then 1 else(zGm n r.p).2)
 else if r.kind=2 then(if r.aff<0∨2<r.aff∨r.p.length≠0∨(zP r.a&&zP r.f)=false then 1 else zK6 n r.q)
 else if r.kind=3 then(if r.aff<0∨4<r.aff∨r.p.length≠0∨zP r.q=false then 1 else if zK6 n r.a≠0 then zK6 n r.a else zK6 n r.f)
 else 1
open Go.RowKit Go.Maps
theorem zU3 :Keyed Tryz.prog 3:=int_keyed Tryz.underlying3
theorem kAd (w:World):(zeroValue 3).run Tryz.prog w=.ok (.int .i64 0) w:=Ka
theorem zKo {H:Type}(w:World){ops:Array Oper}{rest:List Oper}{o:Oper}{a:Act}{Q:Exit->Act->World->Prop}
  (hg:o.guard=none) (m x v:Operand) (t:TypeId) (hop:o.op=Op.insert t m x v)
  (k e:TypeId) (K:Keyed P k) (ht:P.underlying t=some (.map k e)) (R:Value->Option (DataW H×List MemPlace)) (b n:Nat) (D:DataW H)
  (hm:a.eval m=.map (some b)) (hown:w.ownsMap P k R b n D) (hn:n<maxLen) (key val:Value) (kl:Lit) (hx:a.eval x=key) (hv:a.eval v=val) (hkey:keyOf P k key=some kl)
  (d:DataW H) (ps:List MemPlace) (hval:R val=some (d,ps))
  (hK:∀w',w'.ownsMap P k R b (n+1) (D.put kl d)->w.grownBy w' (some b)->wpList P ops Q rest (a.put o.dst undef) w'):
  wpList P ops Q (o::rest) a w:=by
 refine wpList_plain hg fun K' hK'=>?_;obtain⟨w',hrun,r1,r2⟩:=hown.update K ht hn hkey hval;unfold Oper.wp;simp[execOp,hop,hm,hx,hv,hrun,Result.andThen];exact hK' _ _ (hK w' r1 r2)
def kI3 (w:World)(n:Nat)(D:DataW Unit)(w':World):Prop:=w'.ownsMap Tryz.prog 3 (plainElem Tryz.prog 3) w.heap.size n D/\Below w.heap.size w w'
theorem kI3.made (w:World):kI3 w 0 (.map []) (w.alloc (.map #[] 0)):=⟨World.ownsMap_made w Tryz.prog 3 _,Kk.alloc Kl _⟩
theorem kI3.next {w w1 w2:World}{n:Nat}{D D':DataW Unit}(h:kI3 w n D w1)(h2:w2.ownsMap Tryz.prog 3 (plainElem Tryz.prog 3) w.heap.size (n+1) D')(hg:w1.grownBy w2 (some w.heap.size)):kI3 w (n+1) D' w2:=
 ⟨h2,h.2.grown hg h.2.size (fun j hj=>by cases hj;exact Nat.le_refl _)⟩
def kMk :DataW Unit:=((((((((((DataW.map []).put (.int .i64 1) (.lit (.int .i64 2))).put (.int .i64 2) (.lit (.int .i64 1))).put (.int .i64 3) (.lit (.int .i64 4))).put (.int .i64 4) (.lit (.int .i64 3))).put (.int .i64 5) (.lit (.int .i64 5))).put (.int .i64 6) (.lit (.int .i64 6))).put (.int .i64 7) (.lit (.int .i64 8))).put (.int .i64 8) (.lit (.int .i64 7))).put (.int .i64 9) (.lit (.int .i64 9)))
theorem kHp (k:Int):kMk.atKey (.int .i64 k) (.lit (.int .i64 0))=.lit (.int .i64 (zA0 k)):=by
 have no:∀a b:Int,a≠b->(Lit.int .i64 a)≠.int .i64 b:=fun a b h e=>by injection e with _ e;exact h e
 by_cases h1:1<=k
 ·by_cases h2:k<=9
  ·rcases zV0 h1 h2 with rfl|rfl|rfl|rfl|rfl|rfl|rfl|rfl|rfl<;>rfl
  ·rw[(zH7 k).2 (by simp[kindB,decide_eq_false h2]),kMk];iterate 9 rw[atKey_put_other (no _ _ Kb)]
   rfl
 ·rw[(zH7 k).2 (by simp[kindB,decide_eq_false h1]),kMk];iterate 9 rw[atKey_put_other (no _ _ Kb)]
  rfl
theorem kHq {k:Int}(h:zFf k):(Lit.int .i64 k).wf=true:=by
 obtain⟨h1,h2⟩:=h;show(decide (IntKind.i64.min<=k)&&decide (k<=IntKind.i64.max))=true
 rw[Bool.and_eq_true,decide_eq_true_iff,decide_eq_true_iff];exact⟨h1,h2⟩
set_option maxHeartbeats 2000000 in
theorem zBk (k:Int)(hk:zFf k)(w:World):Calls Tryz.prog 97 #[.int .i64 k] w (jA (.int .i64 (zA0 k)) w):=by
 have cN:=hd (keyOf_int_mk (P:=Tryz.prog) Tryz.underlying3 (kHq hk));have HO:=hd (kI3.made w);have hm:=fun W=>run_makeMap (P:=Tryz.prog) 154 W;clear hk;go_enter Tryz.func97,Tryz.ntmps97
 go_wp2_with(first
  |(refine zKo _ rfl _ _ _ _ rfl 3 3 zU3 Tryz.underlying154 _ _ _ _ rfl HO.o.1 Kg _ _ _ rfl rfl (keyOf_int_mk Tryz.underlying3 Kd) _ [] (plainElem_int Tryz.underlying3 Kd) ?_;intro w9 ag rN;have HO:=hd (HO.o.next ag rN);clear ag rN)
  |(at_lookup;refine wpList_lookup_own_int _ rfl _ _ 154 rfl 3 3 .i64 zU3 Tryz.underlying154 Tryz.underlying3 (kAd _) _ _ _ rfl HO.o.1 _ _ rfl cN.o ?_;intro c hat hwc))
 go_ret
 have he:c=zA0 k:=by
  have h2:=kHp k;have h3:(DataW.lit (.int .i64 (zA0 k)):DataW Unit)=.lit (.int .i64 c):=h2.symm.trans hat;injection h3 with h3;injection h3 with _ h3;exact h3.symm
 exact⟨by rw[he];rfl,HO.o.2⟩
open Go.RowKit
section
variable {W:World}{c d:OC}{a b:OpP}{E:Bool}
theorem zKp {s t:Sl}{si ti:Bool}{A B C D:Option Addr}{na ca nb cb nc cc nd cd:Nat}{x y u v:Int}(h:zIi W si A na ca x B nb cb y s)(g:zIi W ti C nc cc u D nd cd v t)(h1:na<=10000000)(h2:nb<=10000000)(h3:nc<=10000000)(h4:nd<=10000000)(hs:zF7 s t=E):
  Calls Tryz.prog 64 #[.agg #[.bool si,.slice A na ca,.int .i64 x,.slice B nb cb,.int .i64 y],.agg #[.bool ti,.slice C nc cc,.int .i64 u,.slice D nd cd,.int .i64 v]] W (jA (.bool E) W):=by
 obtain⟨a1,a2⟩:=h.two h1 h2;obtain⟨b1,b2⟩:=g.two h3 h4;have e1:=h.his;have e2:=h.hx;have e3:=h.hy;have e4:=g.his;have e5:=g.hx;have e6:=g.hy;subst hs e1 e2 e3 e4 e5 e6;exact zL4 W s t A B C D na nb nc nd ca cb cc cd a1 a2 b1 b2
end
