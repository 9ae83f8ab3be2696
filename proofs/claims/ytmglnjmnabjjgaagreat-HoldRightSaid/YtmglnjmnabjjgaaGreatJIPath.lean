import Derived.Test.YtmglnjmnabjjgaaGreatProg
import Derived.WalkLawsBesides
import Derived.WalkSpells
import Derived.BigQuiet
import Derived.Deep.AppendLies
set_option maxRecDepth 4000
set_option maxHeartbeats 8000000
namespace Go.Proofs.YtmglnjmnabjjgaaGreat
variable {P p:Prop}{k:IntKind}{f:FuncId}{ops:Array Oper}
def Kq (p:Prop):Prop:=p
theorem Kq.o (h:Kq p):p:=h
theorem hd (h:p):Kq p:=h
theorem Ka (h:P:=by kernel_rfl):P:=h
theorem Kb (h:P:=by omega):P:=h
theorem Kc (h:P:=by simp):P:=h
theorem Kd (h:P:=by decide):P:=h
theorem Ke (h:P:=by rfl):P:=h
theorem Kf (h:P:=by simp;omega):P:=h
theorem Kg (h:P:=by unfold maxLen;omega):P:=h
theorem Kh (h:P:=by intro u hu;simp at hu;rcases hu with rfl|rfl|rfl|rfl|rfl<;>rfl):P:=h
theorem Ki (h:P:=by first|exact⟨_,rfl⟩|exact⟨_,World.drewN_drewN _ _ _⟩|exact⟨_,(World.drewN_drewN _ _ _).trans (World.drewN_drewN _ _ _)⟩):P:=h
theorem Kj (h:P:=by first|rfl|(unfold Act.eval;rfl)):P:=h
theorem Kk {n:Nat}{w:Go.World}:Go.RowKit.Below n w w:=Go.RowKit.Below.refl _ _
theorem Kl {n:Nat}:n<=n:=Nat.le_refl n
theorem Km (h:P:=by exact Nat.le_of_ble_eq_true rfl):P:=h
def iAt (l:List Int)(k:Nat):Int:=l.getD k 0
theorem jY (l:List Int)(k:Nat)(hk:k<l.length):iAt l k=l[k]:=by
 unfold iAt;rw[List.getD_eq_getElem?_getD,List.getElem?_eq_getElem hk];rfl
def kO :List Int->List Int->Nat
 |x::a,y::b=>if x=y then kO a b+1 else 0
 |_,_=>0
theorem zHf :∀a b:List Int,kO a b<=a.length/\kO a b<=b.length
 |[],_=>by simp[kO]
 |_::_,[]=>by simp[kO]
 |x::a,y::b=>by
  have:=zHf a b;unfold kO;split<;>simp<;>omega
theorem zGp :∀(a b:List Int)(j:Nat),j<kO a b->iAt a j=iAt b j
 |[],_,j=>by simp[kO]
 |_::_,[],j=>by simp[kO]
 |x::a,y::b,j=>by
  unfold kO;split
  ·rename_i h
   intro hj;cases j with
   |zero=>simpa[iAt]using h
   |succ j=>simpa[iAt]using zGp a b j Kb
  ·intro hj;omega
theorem zEc :∀(a b:List Int)(k:Nat),k<=a.length->k<=b.length->(∀j,j<k->iAt a j=iAt b j)->(k<a.length->k<b.length->iAt a k≠iAt b k)->kO a b=k
 |[],b,k=>by intro h;simp[kO]at*;omega
 |_::_,[],k=>by intro _ h;simp[kO]at*;omega
 |x::a,y::b,k=>by
  intro h1 h2 h3 h4;unfold kO;cases k with
  |zero=>rw[if_neg (by simpa[iAt]using h4 Kc Kc)]
  |succ k=>
   rw[if_pos (by simpa[iAt]using h3 0 Kb)];rw[zEc a b k (by simpa using h1) (by simpa using h2) (fun j hj=>by simpa[iAt]using h3 (j+1) Kb) (fun g1 g2=>by simpa[iAt]using h4 (by simpa using g1) (by simpa using g2))]
theorem zQl :∀a b:List Int,kO a b<a.length->kO a b<b.length->iAt a (kO a b)≠iAt b (kO a b)
 |[],_=>by simp[kO]
 |_::_,[]=>by simp[kO]
 |x::a,y::b=>by
  unfold kO;split
  ·rename_i h
   intro h1 h2;simpa[iAt]using zQl a b (by simpa using h1) (by simpa using h2)
  ·rename_i h
   intro _ _;simpa[iAt]using h
theorem zSo (a b:List Int):a.take (kO a b)=b.take (kO a b):=by
 have hl:=zHf a b;apply List.ext_getElem
 ·simp;omega
 ·intro i h1 h2;have hi:i<kO a b:=by simp at h1;omega
  have:=zGp a b i hi;rw[jY a i Kb,jY b i Kb]at this;simpa using this
theorem zDg (a b:List Int):kO a b=a.length ↔ a<+:b:=by
 constructor
 ·intro h;have:=zSo a b;rw[h,List.take_length]at this;rw[this];exact List.take_prefix _ _
 ·rintro⟨c,rfl⟩;refine zEc a (a++c) _ Kl Kc (fun j hj=>?_) (fun h=>absurd h Kb);rw[jY a j hj,jY (a++c) j Kf,List.getElem_append_left hj]
theorem zYh (a b:List Int)(h:a.length=b.length):kO a b=a.length ↔ a=b:=by
 rw[zDg];constructor
 ·intro hp;exact hp.eq_of_length h
 ·rintro rfl;exact List.prefix_refl _
theorem zSp (a:List Int):kO a a=a.length:=(zDg a a).2 (List.prefix_refl _)
def zQm (a b:Int):Int:=if a<b then-1 else if b<a then 1 else 0
def zLv :List Int->List Int->Int
 |[],[]=>0
 |[],_::_=> -1
 |_::_,[]=>1
 |x::a,y::b=>if x<y then-1 else if y<x then 1 else zLv a b
def zEd (a b:List Int):Bool:=decide (a=b)
def zBu (a b:List Int):Bool:=decide (a.length<b.length)&&decide (kO a b=a.length)
def zFg (a b:List Int):Bool:=decide (kO a b+1=a.length)&&decide (kO a b<b.length)&&decide (iAt a (kO a b)<iAt b (kO a b))
theorem zYi :∀a b:List Int,kO a b<a.length->kO a b<b.length->zLv a b=zQm (iAt a (kO a b)) (iAt b (kO a b))
 |[],_=>by simp[kO]
 |_::_,[]=>by simp[kO]
 | x::a,y::b=>by
  unfold kO zLv;split
  ·rename_i h
   subst h;intro h1 h2;rw[if_neg Kb,if_neg Kb];simpa[iAt]using zYi a b (by simpa using h1) (by simpa using h2)
  ·intro _ _;simp only[zQm,iAt,List.getD_cons_zero];split
   ·rfl
   ·rw[if_pos Kb];split
    ·rfl
    ·omega
theorem zUe :∀a b:List Int,kO a b=a.length∨kO a b=b.length->zLv a b=zQm a.length b.length
 |[],[]=>by simp[zLv,zQm]
 |[],y::b=>by intro _;simp[zLv,zQm]
 |x::a,[]=>by intro _;simp[zLv,zQm];omega
 |x::a,y::b=>by
  unfold kO zLv;split
  ·rename_i h
   subst h;intro h1;rw[if_neg Kb,if_neg Kb,zUe a b (by simpa using h1)];simp[zQm]
  ·intro h;simp at h
theorem zE0 (a b:List Int):zBu a b=true ↔ a.length<b.length/\a<+:b:=by
 unfold zBu;rw[Bool.and_eq_true,decide_eq_true_iff,decide_eq_true_iff,zDg]
theorem zEe (a b:List Int):zFg a b=true ↔ kO a b+1=a.length/\kO a b<b.length/\iAt a (kO a b)<iAt b (kO a b):=by
 unfold zFg;simp only[Bool.and_eq_true,decide_eq_true_iff,and_assoc]
theorem zYj {a b:List Int}(h:a<+:b){j:Nat}(hj:j<a.length):iAt a j=iAt b j:=by
 obtain⟨c,rfl⟩:=h;rw[jY a j hj,jY (a++c) j Kf,List.getElem_append_left hj]
def sib (l:List Int)(v:Int):List Int:=l.set (l.length-1) v
def lastL (l:List Int):Int:=iAt l (l.length-1)
def zGq (l:List Int):List Int×Int:=if l.length=0 then([],6)else(l.take (l.length-1),0)
def zBg (l:List Int):List Int×Int:=if l.length=0 then([],6)else if lastL l=9223372036854775807 then([],8)else(sib l (lastL l+1),0)
def jV (l:List Int):List Int×Int:=if l.length=0 then([],6)else if lastL l<=0 then([],8)else(sib l (lastL l-1),0)
theorem kCl :∀a b:List Int,zLv b a= -zLv a b
 |[],[]=>rfl
 |[],_::_=>rfl
 |_::_,[]=>rfl
 |x::a,y::b=>by
  rw[zLv,zLv];split
  ·rw[if_neg Kb];try rfl
  ·split
   ·rfl
   ·exact kCl a b
theorem zYk :∀a b:List Int,zLv a b=0->a=b
 |[],[]=>fun _=>rfl
 |[],_::_=>fun h=>by rw[zLv]at h;omega
 |_::_,[]=>fun h=>by rw[zLv]at h;omega
 |x::a,y::b=>fun h=>by
  rw[zLv]at h;split at h
  ·omega
  ·split at h
   ·omega
   ·rw[zYk a b h,show x=y by omega]
theorem zQn :∀a:List Int,zLv a a=0
 |[]=>rfl
 |x::a=>by rw[zLv,if_neg Kb,if_neg Kb];exact zQn a
theorem zIs (x:Int)(a b:List Int):zBu (x::a) (x::b)=zBu a b:=by
 unfold zBu;rw[kO,if_pos rfl];simp
def kFb (a b:List Int×Int):Int:=if zLv a.1 b.1=0 then zQm a.2 b.2 else zLv a.1 b.1
def samP (a b:List Int×Int):Bool:=decide (a=b)
theorem zYl (a b:List Int×Int):(kFb a b=0) ↔ a=b:=by
 constructor
 ·intro h;unfold kFb at h;split at h
  ·rename_i h0
   have h1:=zYk _ _ h0;unfold zQm at h;split at h
   ·omega
   ·split at h
    ·omega
    ·exact Prod.ext h1 Kb
  ·omega
 ·rintro rfl;unfold kFb zQm;rw[if_pos (zQn _),if_neg Kb,if_neg Kb]
theorem kGt (a b:List Int×Int):samP a b=decide (kFb a b=0):=by
 unfold samP;rw[decide_eq_decide,zYl]
def isR (c:Int):Bool:=decide (0<=c/\c<=55295∨57344<=c/\c<=1114111)
def okR (l:List Int):Bool:=l.all isR
def zNh (l:List Int):Int:=if okR l then 0 else 4
def sameL (l m:List Int):Bool:=decide (l=m)
def atL (l:List Int)(n:Nat):Int:=l.getD n 0
theorem kGu (c:Int):isR c=true ↔ (0<=c/\c<=55295∨57344<=c/\c<=1114111):=by unfold isR;rw[decide_eq_true_iff]
theorem zNy (l:List Int)(n:Nat)(h:n<l.length):atL l n=l[n]:=by unfold atL;simp[h]
theorem zYm (l:List Int):okR l=true ↔∀k,k<l.length->isR (atL l k)=true:=by
 unfold okR;rw[List.all_eq_true];constructor
 ·intro h k hk;rw[zNy l k hk];exact h _ (List.getElem_mem hk)
 ·intro h x hx;obtain⟨k,hk,rfl⟩:=List.mem_iff_getElem.1 hx;have:=h k hk;rwa[zNy l k hk]at this
theorem kJs {l:List Int}{k:Nat}(hk:k<l.length)(h:isR (atL l k)=false):okR l=false:=by
 cases hh:okR l
 ·rfl
 ·have:=(zYm l).1 hh k hk;rw[h]at this;cases this
theorem zBq (l m:List Int):okR (l++m)=(okR l&&okR m):=by unfold okR;rw[List.all_append]
theorem zFj {l:List Int}(h:okR l=true)(n:Nat):okR (l.take n)=true:=by
 unfold okR at*;rw[List.all_eq_true]at*;exact fun x hx=>h x (List.mem_of_mem_take hx)
theorem zFk {l:List Int}(h:okR l=true)(n:Nat):okR (l.drop n)=true:=by
 unfold okR at*;rw[List.all_eq_true]at*;exact fun x hx=>h x (List.mem_of_mem_drop hx)
def zFx (r:List Int)(p:Int)(s:List Int):List Int×Int:=
 if okR r&&okR s then if 0<=p/\p<=r.length then(r.take p.toNat++(s++r.drop p.toNat),0)else([],8)else([],4)
def zFe (r:List Int)(p:Int)(s:List Int):List Int×Int:=
 if okR r&&okR s then if 0<=p/\p<=r.length then if(r.drop p.toNat).take s.length=s then(r.take p.toNat++r.drop (p.toNat+s.length),0)else([],9)else([],8)else([],4)
def atE (r:List Int)(p:Int)(s:List Int):Int:=if okR r&&okR s then if 0<=p/\p<=r.length then 0 else 8 else 4
theorem zSq (r:List Int)(p:Int)(s l:List Int)(h:zFx r p s=(l,0)):zFe l p s=(r,0)/\l.length=r.length+s.length:=by
 unfold zFx at h;split at h
 ·rename_i hk
  split at h
  ·rename_i hp
   simp only[Prod.mk.injEq,and_true]at h;subst h;simp only[Bool.and_eq_true]at hk;obtain⟨n,hn⟩:∃n,p.toNat=n:=⟨_,rfl⟩;have hnl:n<=r.length:=Kb;have hl:(r.take n).length=n:=by simp;omega
   rw[hn];have ok:okR (r.take n++(s++r.drop n))=true:=by
    rw[zBq,zBq,zFj hk.1,zFk hk.1,hk.2];rfl
   have e1:(r.take n++(s++r.drop n)).drop n=s++r.drop n:=by
    conv=>lhs;arg 1;rw[<-hl]
    rw[hl];exact List.drop_left' hl
   have e2:(r.take n++(s++r.drop n)).take n=r.take n:=List.take_left' hl;have e3:(r.take n++(s++r.drop n)).drop (n+s.length)=r.drop n:=by
    rw[<-List.drop_drop,e1];exact List.drop_left' rfl
   constructor
   ·unfold zFe;rw[if_pos (by rw[ok,hk.2];rfl),if_pos Kf,hn,e1,List.take_left' rfl,if_pos rfl,e2,e3,List.take_append_drop]
   ·simp;omega
  ·simp at h
 ·simp at h
theorem zYn (r:List Int)(p:Int)(s l:List Int)(h:zFe r p s=(l,0)):zFx l p s=(r,0):=by
 unfold zFe at h;split at h
 ·rename_i hk
  split at h
  ·rename_i hp
   split at h
   ·rename_i hs
    simp only[Prod.mk.injEq,and_true]at h;subst h;simp only[Bool.and_eq_true]at hk;obtain⟨n,hn⟩:∃n,p.toNat=n:=⟨_,rfl⟩;rw[hn]at hs⊢;have hnl:n<=r.length:=Kb;have hl:(r.take n).length=n:=by simp;omega
    have e1:(r.take n++r.drop (n+s.length)).take n=r.take n:=List.take_left' hl;have e2:(r.take n++r.drop (n+s.length)).drop n=r.drop (n+s.length):=List.drop_left' hl;have e3:s++r.drop (n+s.length)=r.drop n:=by
     rw[<-List.drop_drop];conv=>lhs;arg 1;rw[<-hs]
     exact List.take_append_drop _ _
    unfold zFx;rw[if_pos (by rw[zBq,zFj hk.1,zFk hk.1,hk.2];rfl),if_pos Kf,hn,e1,e2,e3,List.take_append_drop]
   ·simp at h
  ·simp at h
 ·simp at h
def dg (n:Nat):UInt8:=if n<10 then UInt8.ofNat (48+n)else UInt8.ofNat (87+n)
def hval (b:UInt8):Nat:=if b.toNat<=57 then b.toNat-48 else b.toNat-87
def val (l:List UInt8):Nat:=l.foldl (fun n b=>n*16+hval b) 0
open Go.RowKit
open Go.WideShapes (add_plain)
theorem kC {a b:Bool}(h:a=b):Ending.returned (.bool a)=.returned (.bool b):=by rw[h]
theorem zAj {a b:Int}(h:a=b):Ending.returned (.int k a)=.returned (.int k b):=by rw[h]
theorem zZ {B:Nat}{a w:World}(h:Below B a w)(n:Nat):Below B a (w.drewN n):=⟨h.os,h.tape,h.output,h.size,h.block⟩
theorem zBm {p:Nat->Prop}{n:Nat}(h:Kq (∀j,j<n->p j))(hn:p n):Kq (∀j,j<n+1->p j):=fun j hj=>by
 by_cases e:j=n
 ·subst e;exact hn
 ·exact h.o j Kb
def zHa (v:Value)(w:World)(e:Ending)(w':World):Prop:=e=.returned v/\∃k,w'=w.drewN k
def jA (v:Value)(w:World)(e:Ending)(w':World):Prop:=e=.returned v/\Below w.heap.size w w'
def jW (w:World)(e:Ending)(w':World):Prop:=e=.returned (.bool true)/\Below w.heap.size w w'
theorem kW {v v':Value}{w w':World}(h:v'=v)(hw:∃k,w'=w.drewN k):zHa v w (.returned v') w':=⟨by rw[h],hw⟩
theorem zF2 {a b:Int}(h:a=b):Value.int k a=.int k b:=by rw[h]
theorem zA3 {a b:Bool}(h:a=b):Value.bool a=.bool b:=by rw[h]
theorem zHa.still {v:Value}{w:World}{e:Ending}{w':World}(h:zHa v w e w'):jA v w e w':=by
 obtain⟨he,k,rfl⟩:=h;exact⟨he,zZ Kk _⟩
theorem zLw {args:Array Value}{v:Value}{w:World}(h:Calls Tryz.prog f args w (zHa v w)):Calls Tryz.prog f args w (jA v w):=h.mono fun _ _ hq=>hq.still
theorem zQo {args:Array Value}{v:Value}{w:World}{n:Nat}(h:Calls Tryz.prog f args (w.drewN n) (zHa v (w.drewN n))):
  Calls Tryz.prog f args (w.drewN n) fun e w'=>e=.returned v/\∃m,w'=w.drewN m:=
 h.mono fun _ _⟨he,m,hm⟩=>⟨he,n+m,by rw[hm,World.drewN_drewN]⟩
def rv (l:List Int):List Value:=l.map (Value.int .i32)
theorem zCg (l:List Int):(rv l).length=l.length:=by simp[rv]
theorem zQp (l m:List Int):rv (l++m)=rv l++rv m:=by simp[rv]
theorem zOr (l:List Int)(n:Nat):rv (l.take n)=(rv l).take n:=by simp[rv]
theorem zOs (l:List Int)(n:Nat):rv (l.drop n)=(rv l).drop n:=by simp[rv]
theorem kJt (l:List Int)(k:Nat)(h:k<l.length):(rv l)[k]? =some (.int .i32 (atL l k)):=by simp[rv,zNy l k h,h]
theorem zNz (l:List Int):∀u ∈ rv l,u.oneCell'=true:=by
 intro u hu;obtain⟨x,_,rfl⟩:=List.mem_map.1 hu;rfl
def VL (w:World)(B:Nat)(A:Option Addr)(xs:List Value):Prop:=
 xs≠[]->∃b o,A=some ⟨b,o,none⟩/\b<B/\∀k u,xs[k]? =some u->w.cell? ⟨b,o+k,none⟩=some u
section
variable {w w':World}{B B':Nat}{A:Option Addr}{xs:List Value}
theorem VL.keep (h:VL w B A xs)(hk:∀p:Addr,p.block<B->w'.cell? p=w.cell? p):VL w' B A xs:=fun hn=>by
 obtain⟨b,o,e,hb,hc⟩:=h hn;exact⟨b,o,e,hb,fun k u wB=>(hk _ hb).trans (hc k u wB)⟩
theorem VL.below (h:VL w B A xs)(hb:Below B w w'):VL w' B A xs:=h.keep fun _ hp=>hb.cell hp
theorem VL.more (h:VL w B A xs)(hB:B<=B'):VL w B' A xs:=fun hn=>by
 obtain⟨b,o,e,hb,hc⟩:=h hn;exact⟨b,o,e,by omega,hc⟩
theorem VL.later (h:VL w w.heap.size A xs)(hb:Below w.heap.size w w'):VL w' w'.heap.size A xs:=(h.below hb).more hb.size
theorem VL.nil (w:World)(B:Nat)(A:Option Addr):VL w B A []:=fun h=>absurd rfl h
theorem VL.take (h:VL w B A xs)(n:Nat):VL w B A (xs.take n):=fun hn=>by
 obtain⟨b,o,e,hb,hc⟩:=h (by rintro rfl;simp at hn);refine⟨b,o,e,hb,fun k u hk=>hc k u ?_⟩;rw[List.getElem?_take]at hk;split at hk
 ·exact hk
 ·cases hk
theorem VL.drop (h:VL w B A xs)(n c m:Nat)(hm:m=xs.length)(hc:m<=c):VL w B (if c=n then A else A.map (·.add (n*1))) (xs.drop n):=fun hn=>by
 have hl:n<xs.length:=by
  rcases Nat.lt_or_ge n xs.length with h|h
  ·exact h
  ·exact absurd (List.drop_eq_nil_of_le h) hn
 obtain⟨b,o,rfl,hb,hcell⟩:=h (by rintro rfl;simp at hl);rw[if_neg Kb];refine⟨b,o+n,by simp[add_plain],hb,fun k u hk=>?_⟩;rw[List.getElem?_drop]at hk;rw[Nat.add_assoc];exact hcell _ u hk
end
theorem VL.rune {w:World}{B:Nat}{A:Option Addr}{l:List Int}(h:VL w B A (rv l)){k:Nat}(hk:k<l.length):∃b o,A=some ⟨b,o,none⟩/\b<B/\w.cell? ⟨b,o+k,none⟩=some (.int .i32 (atL l k)):=by
 obtain⟨b,o,e,hb,hc⟩:=h (by intro e;have:=congrArg List.length e;rw[zCg]at this;simp at this;subst this;simp at hk);exact⟨b,o,e,hb,hc k _ (kJt l k hk)⟩
def zE1 (t:TypeId)(w:World)(b:Nat)(v:Value)(xs:List Value):Prop:=
 ∃(A:Option Addr)(c:Nat),v=.slice A xs.length c/\xs.length<=c/\c<=maxLen/\w.ownsRow b t 1 v xs.length xs
section
variable {t:TypeId}{w w':World}{b b':Nat}{v:Value}{xs:List Value}
theorem zE1.of_own {n:Nat}(h:w.ownsRow b t 1 v n xs)(hn:n=xs.length):zE1 t w b v xs:=by
 subst hn;rcases h.2 with⟨e,h0⟩|⟨g,cap,cur,e,_,_,h3,h4,_⟩
 ·exact⟨none,0,by rw[e,h0],by omega,by unfold maxLen;omega,h⟩
 ·exact⟨some ⟨g,0,none⟩,cap,e,h3,h4,h⟩
theorem zE1.own (h:zE1 t w b v xs):w.ownsRow b t 1 v xs.length xs:=by
 obtain⟨_,_,_,_,_,h⟩:=h;exact h
theorem zE1.nil (w:World)(b:Nat):zE1 t w b (.slice none 0 0) []:=zE1.of_own (World.ownsRow_nil w b t 1) rfl
theorem zE1.lt (h:zE1 t w b v xs){j:Nat}(hj:v.ownBlock=some j):b<=j/\j<w.heap.size:=h.own.lt j hj
theorem zE1.weaken (h:zE1 t w b v xs)(hb:b'<=b):zE1 t w b' v xs:=by
 obtain⟨A,c,e,h1,h2,h3⟩:=h;refine⟨A,c,e,h1,h2,h3.1,?_⟩;rcases h3.2 with h4|⟨g,cap,cur,e2,hbg,rest⟩
 ·exact .inl h4
 ·exact .inr ⟨g,cap,cur,e2,by omega,rest⟩
end
structure kBq (b:Nat)(v:Value)(W w':World):Prop where
 size:W.heap.size<=w'.heap.size
 below:∀B w0,B<=b->B<=W.heap.size->Below B w0 W->Below B w0 w'
 cell:∀p:Addr,p.block<W.heap.size->some p.block≠v.ownBlock->w'.cell? p=W.cell? p
theorem kBq.refl (b:Nat)(v:Value)(W:World):kBq b v W W:=⟨Nat.le_refl _,fun _ _ _ _ h=>h,fun _ _ _=>rfl⟩
theorem zDh {w:World}{rest:List Oper}{o:Oper}{a:Act}{Q:Exit->Act->World->Prop}(hgd:o.guard=none)(s x:Operand)(t:TypeId)
  (ho:o.op=.call {callee:=.builtin .append,args:=#[s,x],argTypes:=#[t,t]})
  (base:Nat) (e:TypeId) (i:TypeInfo) (size:Nat) (ht:Tryz.prog.underlying t=some (.slice e)) (hi:Tryz.prog.info? e=some i)
  (v:Value) (n:Nat) (xs:List Value) (hs:a.eval s=v) (hown:w.ownsRow base e size v n xs) (c:Nat) (hx:a.eval x=.slice none 0 c)
  (h:wpList Tryz.prog ops Q rest (a.put o.dst v) w):wpList Tryz.prog ops Q (o::rest) a w:=by
 refine wpList_plain hgd fun K hK=>?_;have hrun:(Builtin.append_ #[t,t] o.type #[v,.slice none 0 c]).run Tryz.prog w=.ok v w:=by
  rcases hown.2 with⟨rfl,rfl⟩|⟨g,cap,cur,rfl,_,_,hnc,_⟩
  ·simp[Builtin.append_,run_underlying ht,sizeOf,typeInfo,hi,Builtin.lenOf,Builtin.firstCells]
  ·simp[Builtin.append_,run_underlying ht,sizeOf,typeInfo,hi,Builtin.lenOf,Builtin.firstCells,hnc,storeCells]
 unfold Oper.wp;simp[execOp,ho,resolve,invoke,builtin,hs,hx,hrun,Result.andThen];exact hK _ _ h
structure kMy (ts te:TypeId)(by_:Nat):Prop where
 under:Tryz.prog.underlying ts=some (.slice te)
 info:∃i z,Tryz.prog.info? te=some i/\i.zero=some z/\i.size=1/\i.bytes=by_/\z.cells.size=1
theorem zOt :(Tryz.prog.info? 21).map (fun i=>(i.zero,i.size,i.bytes))=some (some (.int .i32 0),1,4):=Ka
theorem zLg :kMy 23 21 4:=⟨Tryz.underlying23,by
 obtain⟨i0,hi,hz0,hz1,hz2⟩:=info_parts zOt;exact⟨i0,_,hi,hz0,hz1,hz2,rfl⟩⟩
theorem zLx {ts te:TypeId}{by_:Nat}(E:kMy ts te by_)(hby:by_<=64)(W:World){rest:List Oper}{o:Oper}{a:Act}{Q:Exit->Act->World->Prop}(hgd:o.guard=none)(s x:Operand)
  (ho:o.op=.call {callee:=.builtin .append,args:=#[s,x],argTypes:=#[ts,ts]})
  (b:Nat) (v:Value) (k l:List Value) (hs:a.eval s=v) (hO:zE1 te W b v k) (A:Option Addr) (n c B:Nat) (hx:a.eval x=.slice A n c) (hn:l.length=n) (hp:VL W B A l) (h1:∀u ∈ l,u.oneCell'=true) (hlen:k.length+l.length<=2200000) (hb:b<=W.heap.size)
  (hK:∀v' w',zE1 te w' b v' (k++l)->kBq b v W w'->wpList Tryz.prog ops Q rest (a.put o.dst v') w'):
  wpList Tryz.prog ops Q (o::rest) a W:=by
 subst hn;obtain⟨i0,z,hi,hz0,hz1,hz2,hz3⟩:=E.info;rcases A with _|ad
 ·have hl:l=[]:=by
   rcases Classical.em (l=[])with h|h
   ·exact h
   ·obtain⟨_,_,h,_⟩:=hp h;cases h
  subst hl;refine zDh hgd s x ts ho b te i0 1 E.under hi v k.length k hs hO.own c hx ?_;exact hK v W (by rw[List.append_nil];exact hO) (kBq.refl _ _ _)
 ·have hc:∀j u,l[j]? =some u->W.cell? (ad.add j)=some u:=by
   intro j u hj;have hjl:j<l.length:=(List.getElem?_eq_some_iff.1 hj).1;obtain⟨b',o',e,_,h⟩:=hp (by rintro rfl;simp at hjl);obtain rfl:=Option.some.inj e;rw[add_plain,h j u hj]
  have hbb:(k.length+l.length)*by_<=2200000*64:=Nat.mul_le_mul hlen hby;refine wpList_append_own _ hgd s x ts ho b te i0 _ 1 by_ E.under hi hz0 hz1 hz2 hz3 Kd v k.length k hs hO.own ad l.length c l hx Kc hc h1
   Kg Kb hb (fun v' w' h1 h2 _=>hK v' w' (zE1.of_own (n:=k.length+l.length) h1 Kc) ?_)
  exact⟨h2.size,fun B w0 hB qX hb0=>hb0.grown h2 qX (fun j hj=>Nat.le_trans hB (hO.lt hj).1),fun p hp hne=>World.cell?_of_block (h2.block p.block hp hne)⟩
theorem zYo (w:World)(t:TypeId)(xs:List Value):VL (w.alloc (.cells xs.toArray t)) (w.heap.size+1) (some ⟨w.heap.size,0,none⟩) xs:=fun _=>
 ⟨w.heap.size,0,rfl,by omega,fun k u hk=>by
  rw[World.cell?_alloc_new];simpa using hk⟩
def zYp (w:World)(l:List Int)(e:Ending)(w':World):Prop:=∃v,e=.returned v/\zE1 21 w' w.heap.size v (rv l)/\Below w.heap.size w w'
def kJu (w:World)(r:List Int×Int)(e:Ending)(w':World):Prop:=∃v,e=.returned (.tuple #[v,.int .i64 r.2])/\zE1 21 w' w.heap.size v (rv r.1)/\Below w.heap.size w w'
theorem zI8 {w w':World}{r:List Int×Int}{l:List Int}{e:Int}{v:Value}(h:r=(l,e))(ho:zE1 21 w' w.heap.size v (rv l))(hb:Below w.heap.size w w'):kJu w r (.returned (.tuple #[v,.int .i64 e])) w':=by
 subst h;exact⟨v,rfl,ho,hb⟩
abbrev Pr :=ByteArray×ByteArray
def noPr :Pr:=(ByteArray.empty,ByteArray.empty)
def zLy (c:UInt8):Bool:=decide (97<=(c.toNat:Int))&&decide ((c.toNat:Int)<=122)
def zVs (c:UInt8):Bool:=decide (48<=(c.toNat:Int))&&decide ((c.toNat:Int)<=57)
def zNi (c:UInt8):Bool:=zLy c||zVs c||((c.toNat:Int)==45)
def zVt (s:ByteArray):Bool:=decide (1<=s.size)&&decide (s.size<=16)&&s.data.toList.all zLy
def zXo (s:ByteArray):Bool:=decide (s.size<=32)&&s.data.toList.all zNi
def leB (a b:ByteArray):Bool:=Op.bytesLess a.toList b.toList||a.toList==b.toList
def jU (l:List Pr)(k:Nat):Pr:=l.getD k noPr
def zEt (l:List Pr)(k:Nat):Int:=
 if(zVt (jU l k).1&&zXo (jU l k).2)=false then 3 else if(decide (0<k)&&leB (jU l k).1 (jU l (k-1)).1)=true then 1 else 0
def zN0 (l:List Pr):Int:=(((List.range l.length).map (zEt l)).find? (· !=0)).getD 0
def chk (l:List Pr):Int:=if 16<l.length then 2 else zN0 l
theorem zLz (l:List Pr)(h:∀j,j<l.length->zEt l j=0):zN0 l=0:=by
 unfold zN0;rw[List.find?_eq_none.2]
 ·rfl
 ·intro x hx;obtain⟨j,hj,rfl⟩:=List.mem_map.1 hx;simp[h j (List.mem_range.1 hj)]
theorem zN1 {α:Type}(f:Nat->α)(p:α->Bool):∀(n k:Nat),k<n->(∀j,j<k->p (f j)=false)->p (f k)=true->((List.range n).map f).find? p=some (f k):=by
 intro n;induction n with
 |zero=>intro k h;omega
 | succ n ih=>
  intro k hk h0 h1;rw[List.range_succ,List.map_append,List.find?_append];by_cases e:k<n
  ·rw[ih k e h0 h1];rfl
  ·have:k=n:=Kb;subst this;rw[List.find?_eq_none.2]
   ·simp[h1]
   ·intro x hx;obtain⟨j,hj,rfl⟩:=List.mem_map.1 hx;simp[h0 j (List.mem_range.1 hj)]
theorem zI9 (l:List Pr)(k:Nat)(hk:k<l.length)(h0:∀j,j<k->zEt l j=0)(h:zEt l k≠0):zN0 l=zEt l k:=by
 unfold zN0;rw[zN1 (zEt l) (· !=0) l.length k hk (fun j hj=>by simp[h0 j hj]) (by simpa using h)];rfl
def zI3 (l:List Pr)(k:ByteArray):Option Pr:=l.find? (fun p=>p.1.toList==k.toList)
def kJv (l:List Pr)(k:ByteArray):ByteArray:=((zI3 l k).getD noPr).2
def zKz (l:List Pr)(k:ByteArray):Bool:=(zI3 l k).isSome
theorem zVu (c:UInt8)(w:World):Calls Tryz.prog 144 #[.int .u8 (c.toNat:Int)] w fun e w'=>e=.returned (.bool (zLy c))/\w=w':=by
 by_cases h1:(97:Int)<=(c.toNat:Int)
 ·go_enter Tryz.func144,Tryz.ntmps144
  go_wp2
  go_ret
  exact⟨kC (by unfold zLy;simp[h1]),rfl⟩
 ·have h2:decide ((97:Int)<=(c.toNat:Int))=false:=by simpa using h1
  go_enter Tryz.func144,Tryz.ntmps144
  go_wp2
  go_ret
  exact⟨kC (by unfold zLy;simp;omega),rfl⟩
theorem zYq (c:UInt8)(w:World):Calls Tryz.prog 145 #[.int .u8 (c.toNat:Int)] w fun e w'=>e=.returned (.bool (zVs c))/\w=w':=by
 by_cases h1:(48:Int)<=(c.toNat:Int)
 ·go_enter Tryz.func145,Tryz.ntmps145
  go_wp2
  go_ret
  exact⟨kC (by unfold zVs;simp[h1]),rfl⟩
 ·have h2:decide ((48:Int)<=(c.toNat:Int))=false:=by simpa using h1
  go_enter Tryz.func145,Tryz.ntmps145
  go_wp2
  go_ret
  exact⟨kC (by unfold zVs;simp;omega),rfl⟩
theorem zJa (c:UInt8)(b:Bool)(h:zLy c=b)(w:World):Calls Tryz.prog 144 #[.int .u8 (c.toNat:Int)] w fun e w'=>e=.returned (.bool b)/\w=w':=h▸zVu c w
theorem zUf (c:UInt8)(b:Bool)(h:zVs c=b)(w:World):Calls Tryz.prog 145 #[.int .u8 (c.toNat:Int)] w fun e w'=>e=.returned (.bool b)/\w=w':=h▸zYq c w
theorem zUg (p:UInt8->Bool)(s:ByteArray)(h:∀j(hj:j<s.size),p s[j]=true):s.data.toList.all p=true:=by
 rw[List.all_eq_true];intro x hx;obtain⟨j,hj,rfl⟩:=List.mem_iff_getElem.1 hx;exact h j (by simpa using hj)
theorem zQq (p:UInt8->Bool)(s:ByteArray)(j:Nat)(hj:j<s.size)(h:p s[j]=false):s.data.toList.all p=false:=by
 cases hh:s.data.toList.all p
 ·rfl
 ·rw[List.all_eq_true]at hh;have hj':j<s.data.toList.length:=by simpa using hj
  have e:p s[j]=true:=hh _ (List.getElem_mem hj');rw[h]at e;cases e
theorem more (p:UInt8->Bool)(s:ByteArray)(k:Nat)(hk:k<s.size)(h:Kq (∀j(hj:j<s.size),j<k->p s[j]=true))(hp:p s[k]=true):Kq (∀j(hj:j<s.size),j<k+1->p s[j]=true):=by
 intro j hj hl;by_cases e:j=k
 ·subst e;exact hp
 ·exact h.o j hj Kb
theorem zQr [Decidable p](h:¬p):decide p=false:=by simpa using h
theorem kGv (s:ByteArray)(w:World)(hs:s.size<=9223372036854775807):Calls Tryz.prog 125 #[.string s] w fun e w'=>e=.returned (.bool (zVt s))/\w=w':=by
 by_cases h1:(s.size:Int)<1
 ·go_enter Tryz.func125,Tryz.ntmps125
  go_wp2
  go_ret
  exact⟨kC (by unfold zVt;rw[zQr (show¬1<=s.size by omega)];rfl),rfl⟩
 ·by_cases h2:(16:Int)<(s.size:Int)
  ·go_enter Tryz.func125,Tryz.ntmps125
   go_wp2
   go_ret
   exact⟨kC (by unfold zVt;rw[zQr (show¬s.size<=16 by omega)];simp),rfl⟩
  ·go_enter Tryz.func125,Tryz.ntmps125
   go_wp2
   go_loop [14] (fun i=>∃k:Nat,k<=s.size/\i=.int .i64 k/\Kq (∀j(hj:j<s.size),j<k->zLy s[j]=true)) (fun i=>s.size-(intOf i).toNat)
   case atStart=>exact⟨0,Nat.zero_le _,rfl,fun j _ hj=>absurd hj (Nat.not_lt_zero _)⟩
   case round=>
    obtain⟨k,hk,rfl,HA⟩:=hrel;by_cases hlt:k<s.size
    ·cases hc:zLy s[k]
     ·have hC:=hd (zJa s[k] _ hc w);have HF:=hd (zQq zLy s k hlt hc);clear hc;go_wp2_with(go_at_call 144;refine hC.o.mono ?_;rintro e w' ⟨rfl,rfl⟩)
      go_ret
      exact⟨kC (by unfold zVt;rw[HF.o];simp),rfl⟩
     ·have hC:=hd (zJa s[k] _ hc w);have HF:=more zLy s k hlt HA hc;clear hc HA;go_wp2_with(go_at_call 144;refine hC.o.mono ?_;rintro e w' ⟨rfl,rfl⟩)
      go_round
      case rel=>exact⟨k+1,by omega,by go_num,HF⟩
      case measure=>simp[intOf];omega
    ·go_wp2
     go_ret
     have hk':k=s.size:=Kb;subst hk';exact⟨kC (by unfold zVt;rw[zUg _ _ (fun j hj=>HA.o j hj hj)];simp;omega),rfl⟩
theorem kGw (s:ByteArray)(w:World)(hs:s.size<=9223372036854775807):Calls Tryz.prog 126 #[.string s] w fun e w'=>e=.returned (.bool (zXo s))/\w=w':=by
 by_cases h2:(32:Int)<(s.size:Int)
 ·go_enter Tryz.func126,Tryz.ntmps126
  go_wp2
  go_ret
  exact⟨kC (by unfold zXo;rw[zQr (show¬s.size<=32 by omega)];simp),rfl⟩
 ·go_enter Tryz.func126,Tryz.ntmps126
  go_wp2
  go_loop [10] (fun i=>∃k:Nat,k<=s.size/\i=.int .i64 k/\Kq (∀j(hj:j<s.size),j<k->zNi s[j]=true)) (fun i=>s.size-(intOf i).toNat)
  case atStart=>exact⟨0,Nat.zero_le _,rfl,fun j _ hj=>absurd hj (Nat.not_lt_zero _)⟩
  case round=>
   obtain⟨k,hk,rfl,HA⟩:=hrel;by_cases hlt:k<s.size
   ·cases hc:zLy s[k]
    ·have hC:=hd (zJa s[k] _ hc w);cases hg:zVs s[k]
     ·have hD:=hd (zUf s[k] _ hg w);cases he:((s[k].toNat:Int)==45)
      ·have he':((s[k].toNat:Int) !=45)=true:=by simpa using he
       have HF:=hd (zQq zNi s k hlt (by unfold zNi;rw[hc,hg,he];rfl));clear hc hg HA;go_wp2_with(first|(go_at_call 144;refine hC.o.mono ?_;rintro e w' ⟨rfl,rfl⟩)|(go_at_call 145;refine hD.o.mono ?_;rintro e w' ⟨rfl,rfl⟩))
       go_ret
       exact⟨kC (by unfold zXo;rw[HF.o];simp),rfl⟩
      ·have he':((s[k].toNat:Int) !=45)=false:=by simpa using he
       have HF:=more zNi s k hlt HA (by unfold zNi;rw[hc,hg,he];rfl);clear hc hg HA;go_wp2_with(first|(go_at_call 144;refine hC.o.mono ?_;rintro e w' ⟨rfl,rfl⟩)|(go_at_call 145;refine hD.o.mono ?_;rintro e w' ⟨rfl,rfl⟩))
       go_round
       case rel=>exact⟨k+1,by omega,by go_num,HF⟩
       case measure=>simp[intOf];omega
     ·have hD:=hd (zUf s[k] _ hg w);have HF:=more zNi s k hlt HA (by unfold zNi;rw[hc,hg];rfl);clear hc hg HA;go_wp2_with(first|(go_at_call 144;refine hC.o.mono ?_;rintro e w' ⟨rfl,rfl⟩)|(go_at_call 145;refine hD.o.mono ?_;rintro e w' ⟨rfl,rfl⟩))
      go_round
      case rel=>exact⟨k+1,by omega,by go_num,HF⟩
      case measure=>simp[intOf];omega
    ·have hC:=hd (zJa s[k] _ hc w);have HF:=more zNi s k hlt HA (by unfold zNi;rw[hc];rfl);clear hc HA;go_wp2_with(go_at_call 144;refine hC.o.mono ?_;rintro e w' ⟨rfl,rfl⟩)
     go_round
     case rel=>exact⟨k+1,by omega,by go_num,HF⟩
     case measure=>simp[intOf];omega
   ·go_wp2
    go_ret
    have hk':k=s.size:=Kb;subst hk';exact⟨kC (by unfold zXo;rw[zUg _ _ (fun j hj=>HA.o j hj hj)];simp;omega),rfl⟩
def IL (w:World)(B:Nat)(A:Option Addr)(l:List Int):Prop:=
 l≠[]->∃b o,A=some ⟨b,o,none⟩/\b<B/\∀k,k<l.length->w.cell? ⟨b,o+k,none⟩=some (.int .i64 (iAt l k))
theorem IL.keep {w w':World}{B:Nat}{A:Option Addr}{l:List Int}(h:IL w B A l)(hk:∀p:Addr,p.block<B->w'.cell? p=w.cell? p):IL w' B A l:=fun hn=>by
 obtain⟨b,o,e,hb,hc⟩:=h hn;exact⟨b,o,e,hb,fun k hkl=>(hk _ hb).trans (hc k hkl)⟩
theorem IL.below {w w':World}{B:Nat}{A:Option Addr}{l:List Int}(h:IL w B A l)(hb:Below B w w'):IL w' B A l:=h.keep fun _ hp=>hb.cell hp
theorem IL.more {w:World}{B B':Nat}{A:Option Addr}{l:List Int}(h:IL w B A l)(hB:B<=B'):IL w B' A l:=fun hn=>by
 obtain⟨b,o,e,hb,hc⟩:=h hn;exact⟨b,o,e,by omega,hc⟩
theorem IL.later {w w':World}{A:Option Addr}{l:List Int}(h:IL w w.heap.size A l)(hb:Below w.heap.size w w'):IL w' w'.heap.size A l:=(h.below hb).more hb.size
theorem IL.at_ {w:World}{B:Nat}{A:Option Addr}{l:List Int}(h:IL w B A l){k:Nat}(hk:k<l.length):∃b o,A=some ⟨b,o,none⟩/\b<B/\w.cell? ⟨b,o+k,none⟩=some (.int .i64 (iAt l k)):=by
 obtain⟨b,o,e,hb,hc⟩:=h (by intro e;subst e;simp at hk);exact⟨b,o,e,hb,hc k hk⟩
theorem IL.nil (w:World)(B:Nat)(A:Option Addr):IL w B A []:=fun h=>absurd rfl h
theorem IL.take {w:World}{B:Nat}{A:Option Addr}{l:List Int}(h:IL w B A l)(n:Nat):IL w B A (l.take n):=fun hn=>by
 obtain⟨b,o,e,hb,hc⟩:=h (by rintro rfl;simp at hn);refine⟨b,o,e,hb,fun k hk=>?_⟩;have hk':k<n/\k<l.length:=by rw[List.length_take]at hk;omega
 rw[hc k hk'.2,jY _ k hk,jY _ k hk'.2];simp
def zBt (w:World)(b:Nat)(v:Value)(l:List Int):Prop:=
 ∃(A:Option Addr)(c:Nat),v=.slice A l.length c/\l.length<=c/\c<=maxLen/\w.ownsRow b 3 1 v l.length (l.map (Value.int .i64))
theorem zBt.of_own {w:World}{b n:Nat}{v:Value}{l:List Int}(h:w.ownsRow b 3 1 v n (l.map (Value.int .i64)))(hn:n=l.length):zBt w b v l:=by
 subst hn;rcases h.2 with⟨e,h0⟩|⟨g,cap,cur,e,_,_,h3,h4,_⟩
 ·exact⟨none,0,by rw[e,h0],by omega,by unfold maxLen;omega,h⟩
 ·exact⟨some ⟨g,0,none⟩,cap,e,h3,h4,h⟩
theorem zBt.own {w:World}{b:Nat}{v:Value}{l:List Int}(h:zBt w b v l):w.ownsRow b 3 1 v l.length (l.map (Value.int .i64)):=by
 obtain⟨_,_,_,_,_,h⟩:=h;exact h
theorem zBt.nil (w:World)(b:Nat):zBt w b (.slice none 0 0) []:=zBt.of_own (World.ownsRow_nil w b 3 1) rfl
theorem zBt.lt {w:World}{b:Nat}{v:Value}{l:List Int}(h:zBt w b v l){j:Nat}(hj:v.ownBlock=some j):b<=j/\j<w.heap.size:=h.own.lt j hj
theorem zBt.below {w w':World}{b:Nat}{v:Value}{l:List Int}(h:zBt w b v l)(hb:Below w.heap.size w w'):zBt w' b v l:=by
 obtain⟨A,c,e,h1,h2,h3⟩:=h;refine⟨A,c,e,h1,h2,h3.1,?_⟩;rcases h3.2 with h4|⟨g,cap,cur,e2,hbg,hg,rest⟩
 ·exact .inl h4
 ·refine .inr ⟨g,cap,cur,e2,hbg,?_,rest⟩;rw[hb.block g (Array.getElem?_eq_some_iff.1 hg).1];exact hg
theorem zBt.weaken {w:World}{b b':Nat}{v:Value}{l:List Int}(h:zBt w b v l)(hb:b'<=b):zBt w b' v l:=by
 obtain⟨A,c,e,h1,h2,h3⟩:=h;refine⟨A,c,e,h1,h2,h3.1,?_⟩;rcases h3.2 with h4|⟨g,cap,cur,e2,hbg,rest⟩
 ·exact .inl h4
 ·exact .inr ⟨g,cap,cur,e2,by omega,rest⟩
theorem zBt.open_ {w:World}{b:Nat}{v:Value}{l:List Int}(h:zBt w b v l):∃(A:Option Addr)(c:Nat),v=.slice A l.length c/\l.length<=c/\c<=maxLen/\IL w w.heap.size A l:=by
 obtain⟨A,c,e,h1,h2,h3⟩:=h;refine⟨A,c,e,h1,h2,fun hn=>?_⟩;have hl:0<l.length:=List.length_pos_iff.2 hn;rcases h3.2 with⟨_,h0⟩|⟨g,cap,cur,e2,hbg,hg,_⟩
 ·omega
 ·have e3:A=some ⟨g,0,none⟩:=by
   have:=e.symm.trans e2;injection this
  subst e3;refine⟨g,0,rfl,(Array.getElem?_eq_some_iff.1 hg).1,fun k hk=>?_⟩;have:=h3.cells (g:=g) (by rw[e];rfl) k (.int .i64 (iAt l k)) (by simp[jY l k hk,hk]);rwa[add_plain]at this
theorem zH5 (A B:Option Addr)(l m:List Int)(c d:Nat)(w:World)(hl:l.length<=9223372036854775807)(hm:m.length<=9223372036854775807)(hp:IL w w.heap.size A l)(hq:IL w w.heap.size B m):
  Calls Tryz.prog 51 #[.slice A l.length c,.slice B m.length d] w (zHa (.int .i64 (kO l m)) w):=by
 have HP:=hd hp;have HQ:=hd hq;clear hp hq;by_cases cV:m.length<l.length;all_goals
  go_enter Tryz.func51,Tryz.ntmps51
  go_wp2
  go_loopw [13] (fun i wr=>∃n:Nat,n<=l.length/\n<=m.length/\i=.int .i64 n/\(∃k,wr=w.drewN k)/\Kq (∀j,j<n->iAt l j=iAt m j)) (fun i _=>l.length-(intOf i).toNat)
  case atStart=>exact⟨0,Nat.zero_le _,Nat.zero_le _,rfl,⟨0,rfl⟩,fun j hj=>absurd hj (Nat.not_lt_zero _)⟩
  case round=>
   obtain⟨n,ij,iL,rfl,⟨kd,rfl⟩,HA⟩:=hrel;by_cases hlt:n<l.length/\n<m.length
   ·obtain⟨h1,h2⟩:=hlt;obtain⟨b1,o1,rfl,aY,c1⟩:=HP.o.at_ h1;obtain⟨b2,o2,rfl,hl2,c2⟩:=HQ.o.at_ h2;by_cases hs:iAt l n=iAt m n
    ·have HB:=zBm (p:=fun j=>iAt l j=iAt m j) HA hs;have hx:(iAt l n !=iAt m n)=false:=by simp[hs]
     clear HA hs;go_wp2_with fail
     go_quiet(fail)
     go_wp2
     go_roundw
     case rel=>exact⟨n+1,by omega,by omega,by go_num,Ki,HB⟩
     case measure=>simp[intOf];omega
    ·have HF:=hd (zEc l m n Kb Kb HA.o (fun _ _=>hs));have hx:(iAt l n !=iAt m n)=true:=by simp[hs]
     clear HA hs;go_wp2_with fail
     go_quiet(fail)
     go_wp2
     go_ret
     exact kW (zF2 (by rw[HF.o])) Ki
   ·have HF:=hd (zEc l m n Kb Kb HA.o (fun _ _=>by omega));first|(have hx:¬n<m.length:=by omega)|skip
    first|(have hy:¬n<l.length:=by omega)|skip
    clear HA;go_wp2
    go_ret
    exact kW (zF2 (by rw[HF.o];omega)) ⟨kd,rfl⟩
theorem zQh (l m:List Int)(h:l.length=m.length)(h2:kO l m=l.length):zEd l m=true:=by
 unfold zEd;exact decide_eq_true ((zYh l m h).1 h2)
theorem zLf (l m:List Int)(h:l.length≠m.length∨kO l m≠l.length):zEd l m=false:=by
 unfold zEd;refine decide_eq_false ?_;rintro rfl;rcases h with h|h
 ·exact h rfl
 ·exact h (zSp l)
theorem zYd (l m:List Int)(h:l.length<m.length)(h2:kO l m=l.length):zBu l m=true:=by
 unfold zBu;simp[h,h2]
theorem zUb (l m:List Int)(h:¬l.length<m.length∨kO l m≠l.length):zBu l m=false:=by
 unfold zBu;rcases h with h|h<;>simp[h]
theorem kO3 (h:P:=by
 go_wp2_with(go_at_call 51;refine HC.o.mono ?_;rintro e w' ⟨rfl,kd,rfl⟩)
 go_ret
 exact kW (zA3 (by rw[HF.o])) Ki):P:=h
theorem zQi (A B:Option Addr)(l m:List Int)(c d:Nat)(w:World)(hl:l.length<=9223372036854775807)(hm:m.length<=9223372036854775807)(hp:IL w w.heap.size A l)(hq:IL w w.heap.size B m):
  Calls Tryz.prog 23 #[.slice A l.length c,.slice B m.length d] w (zHa (.bool (zEd l m)) w):=by
 have HC:=hd (zH5 A B l m c d w hl hm hp hq);clear hp hq;by_cases h1:l.length=m.length
 ·have hx:((l.length:Int)==(m.length:Int))=true:=by simp[h1]
  by_cases h2:kO l m=l.length
  ·have hy:((kO l m:Int)==(l.length:Int))=true:=by simp[h2]
   have HF:=hd (zQh l m h1 h2);clear h1 h2;go_enter Tryz.func23,Tryz.ntmps23
   exact kO3
  ·have hy:((kO l m:Int)==(l.length:Int))=false:=by simp;omega
   have HF:=hd (zLf l m (.inr h2));clear h1 h2;go_enter Tryz.func23,Tryz.ntmps23
   exact kO3
 ·have hx:((l.length:Int)==(m.length:Int))=false:=by simp;omega
  have HF:=hd (zLf l m (.inl h1));clear h1;go_enter Tryz.func23,Tryz.ntmps23
  go_wp2
  go_ret
  exact kW (zA3 (by rw[HF.o])) ⟨0,rfl⟩
theorem zYe (A B:Option Addr)(l m:List Int)(c d:Nat)(w:World)(hl:l.length<=9223372036854775807)(hm:m.length<=9223372036854775807)(hp:IL w w.heap.size A l)(hq:IL w w.heap.size B m):
  Calls Tryz.prog 116 #[.slice A l.length c,.slice B m.length d] w (zHa (.bool (zBu l m)) w):=by
 have HC:=hd (zH5 A B l m c d w hl hm hp hq);clear hp hq;by_cases h1:l.length<m.length
 ·by_cases h2:kO l m=l.length
  ·have hy:((kO l m:Int)==(l.length:Int))=true:=by simp[h2]
   have HF:=hd (zYd l m h1 h2);clear h2;go_enter Tryz.func116,Tryz.ntmps116
   exact kO3
  ·have hy:((kO l m:Int)==(l.length:Int))=false:=by simp;omega
   have HF:=hd (zUb l m (.inr h2));clear h2;go_enter Tryz.func116,Tryz.ntmps116
   exact kO3
 ·have hx:decide (l.length<m.length)=false:=decide_eq_false h1;have HF:=hd (zUb l m (.inl h1));clear h1;go_enter Tryz.func116,Tryz.ntmps116
  go_wp2
  go_ret
  exact kW (zA3 (by rw[HF.o])) ⟨0,rfl⟩
theorem zVv (A B:Option Addr)(l m:List Int)(c d:Nat)(w:World)(hl:l.length<=9223372036854775807)(_hm:m.length<=9223372036854775807)(hp:IL w w.heap.size A l)(hq:IL w w.heap.size B m):
  Calls Tryz.prog 37 #[.slice A l.length c,.slice B m.length d] w (zHa (.bool (zEd l m)) w):=by
 have HP:=hd hp;have HQ:=hd hq;clear hp hq;by_cases hlm:l.length=m.length
 ·have hx:((l.length:Int) !=(m.length:Int))=false:=by simp;omega
  have HL:=hd hlm;clear hlm;go_enter Tryz.func37,Tryz.ntmps37
  go_wp2
  go_loopw [13] (fun i wr=>∃n:Nat,n<=l.length/\i=.int .i64 n/\(∃k,wr=w.drewN k)/\Kq (∀j,j<n->iAt l j=iAt m j)) (fun i _=>l.length-(intOf i).toNat)
  case atStart=>exact⟨0,Nat.zero_le _,rfl,⟨0,rfl⟩,fun j hj=>absurd hj (Nat.not_lt_zero _)⟩
  case round=>
   obtain⟨n,ij,rfl,⟨kd,rfl⟩,HA⟩:=hrel;by_cases h1:n<l.length
   ·have h2:n<m.length:=by have:=HL.o;omega
    obtain⟨b1,o1,rfl,aY,c1⟩:=HP.o.at_ h1;obtain⟨b2,o2,rfl,hl2,c2⟩:=HQ.o.at_ h2;by_cases hs:iAt l n=iAt m n
    ·have HB:=zBm (p:=fun j=>iAt l j=iAt m j) HA hs;have hy:(iAt l n !=iAt m n)=false:=by simp[hs]
     clear HA hs;go_wp2_with fail
     go_quiet(fail)
     go_wp2
     go_roundw
     case rel=>exact⟨n+1,by omega,by go_num,Ki,HB⟩
     case measure=>simp[intOf];omega
    ·have HF:=hd (zLf l m (.inr (by have:=zEc l m n Kb Kb HA.o (fun _ _=>hs);omega)));have hy:(iAt l n !=iAt m n)=true:=by simp[hs]
     clear HA hs;go_wp2_with fail
     go_quiet(fail)
     go_wp2
     go_ret
     exact kW (zA3 (by rw[HF.o])) Ki
   ·have HF:=hd (zQh l m HL.o (by have:=zEc l m n Kb (by have:=HL.o;omega) HA.o (fun _ _=>by omega);omega));clear HA;go_wp2
    go_ret
    exact kW (zA3 (by rw[HF.o])) Ki
 ·have hx:((l.length:Int) !=(m.length:Int))=true:=by simp;omega
  have HF:=hd (zLf l m (.inl hlm));clear hlm;go_enter Tryz.func37,Tryz.ntmps37
  go_wp2
  go_ret
  exact kW (zA3 (by rw[HF.o])) ⟨0,rfl⟩
