import Derived.Test.YtmglnjmnabjjgaaGreatJIComp
import Derived.Laws.EntriesVeiled
import Derived.Shelf.Abstract
set_option maxRecDepth 100000
set_option maxHeartbeats 8000000
namespace Go.Proofs.YtmglnjmnabjjgaaGreat
open Go.RowKit
variable {a b u v:Value}{w w':World}{l m:List Int}{B N d g gv gw k nk:Nat}{P:Prop}{A:Option Addr}{t:TypeId}{O O':Option Nat}{fv:FuncId}
theorem kMg {c:Int}(h:0<=c/\c<=55295∨57344<=c/\c<=1114111):isR c=true:=(kGu c).2 h
theorem kMh {c:Int}(h:¬(0<=c/\c<=55295∨57344<=c/\c<=1114111)):isR c=false:=decide_eq_false h
def kLt (v:Value)(w:World)(e:Ending)(w':World):Prop:=e=.returned v/\w=w'
theorem zFp {v':Value}(h:v'=v):kLt v w (.returned v') w:=⟨by rw[h],rfl⟩
theorem zWr (c:Int)(w:World):Calls Tryz.prog 143 #[.int .i32 c] w (kLt (.bool (isR c)) w):=by
 rcases(show c<0∨(0<=c/\c<=55295)∨(55295<c/\c<57344)∨(57344<=c/\c<=1114111)∨1114111<c by omega)with h|⟨h,h2⟩|⟨h,h2⟩|⟨h,h2⟩|h;all_goals
  first
  |have HF:=hd (kMg (c:=c) Kb)
  |have HF:=hd (kMh (c:=c) Kb)
  first|have g1:0<=c:=by omega|have g1:c<0:=Kb
  first|have g2:c<=55295:=by omega|have g2:55295<c:=Kb
  first|have g3:57344<=c:=by omega|have g3:c<57344:=Kb
  first|have g4:c<=1114111:=by omega|have g4:1114111<c:=Kb
  go_enter Tryz.func143,Tryz.ntmps143
  go_wp2
  go_ret
  exact zFp (zA3 (by rw[HF.o]<;>(simp;omega)))
theorem zMo (A:Option Addr)(l:List Int)(n c:Nat)(w:World)(hn:l.length=n)(hl:n<=9223372036854775807)(hp:VL w w.heap.size A (rv l)):
  Calls Tryz.prog 124 #[.slice A n c] w (kLt (.int .i64 (zNh l)) w):=by
 have HP:=hd hp;have HN:=hd hn;clear hp hn;go_enter Tryz.func124,Tryz.ntmps124
 go_wp2
 go_loop [7] (fun i=>∃k:Nat,k<=n/\i=.int .i64 k/\Kq (∀j,j<k->isR (atL l j)=true)) (fun i=>n-(intOf i).toNat)
 case atStart=>exact⟨0,Nat.zero_le _,rfl,fun j hj=>absurd hj (Nat.not_lt_zero _)⟩
 case round=>
  obtain⟨k,hk,rfl,HA⟩:=hrel;by_cases hlt:k<n
  ·obtain⟨b,o,rfl,hbl,hc⟩:=HP.o.rune (k:=k) (by have:=HN.o;omega);have HC:=hd (zWr (atL l k) w);cases hr:isR (atL l k)
   ·have HF:=hd (show zNh l=4 by unfold zNh;rw[kJs (by have:=HN.o;omega) hr];rfl);rw[hr]at HC;clear hr HA;go_wp2_with(go_at_call 143;refine HC.o.mono ?_;rintro e w' ⟨rfl,rfl⟩)
    go_ret
    exact zFp (zF2 (by rw[HF.o]))
   ·have HB:=zBm (p:=fun j=>isR (atL l j)=true) HA hr;rw[hr]at HC;clear hr HA;go_wp2_with(go_at_call 143;refine HC.o.mono ?_;rintro e w' ⟨rfl,rfl⟩)
    go_round
    case rel=>exact⟨k+1,by omega,by go_num,HB⟩
    case measure=>simp[intOf];omega
  ·have HF:=hd (show zNh l=0 by unfold zNh;rw[(zYm l).2 (fun j hj=>HA.o j (by have:=HN.o;omega))];rfl);clear HA;go_wp2
   go_ret
   exact zFp (zF2 (by rw[HF.o]))
theorem zK0 (h:l.length≠m.length):sameL l m=false:=by
 unfold sameL;exact decide_eq_false fun e=>h (by rw[e])
theorem zMp (h:atL l k≠atL m k):sameL l m=false:=by
 unfold sameL;exact decide_eq_false fun e=>h (by rw[e])
theorem zRg (hl:l.length=m.length)(h:∀k,k<l.length->atL l k=atL m k):sameL l m=true:=by
 unfold sameL;refine decide_eq_true (List.ext_getElem hl fun i h1 h2=>?_);have:=h i h1;rwa[zNy l i h1,zNy m i h2]at this
theorem zWs (l:List Int):sameL l l=true:=decide_eq_true rfl
theorem kQr (h:P:=by
 go_wp2
 go_loopw [13] (fun i wr=>∃n:Nat,n<=a/\i=.int .i64 n/\(∃k,wr=w.drewN k)/\Kq (∀j,j<n->atL l j=atL m j)) (fun i _=>a-(intOf i).toNat)
 case atStart=>exact⟨0,Nat.zero_le _,rfl,⟨0,rfl⟩,fun j hj=>absurd hj (Nat.not_lt_zero _)⟩
 case round=>
  obtain⟨n,ij,rfl,⟨kd,rfl⟩,HA⟩:=hrel;by_cases hlt:n<a
  ·obtain⟨b1,o1,rfl,aY,c1⟩:=HP.o.rune (k:=n) (by have:=HL.o;omega);obtain⟨b2,o2,rfl,hl2,c2⟩:=HQ.o.rune (k:=n) (by have:=HM.o;omega);by_cases hs:atL l n=atL m n
   ·have HB:=zBm (p:=fun j=>atL l j=atL m j) HA hs;have hx:(atL l n !=atL m n)=false:=by simp[hs]
    clear HA hs;go_wp2_with fail
    go_quiet(fail)
    go_wp2
    go_roundw
    case rel=>exact⟨n+1,by omega,by go_num,Ki,HB⟩
    case measure=>simp[intOf];omega
   ·have HF:=hd (show r=false by rw[<-HR.o];exact zMp hs);have hx:(atL l n !=atL m n)=true:=by simp[hs]
    clear HA hs;go_wp2_with fail
    go_quiet(fail)
    go_wp2
    go_ret
    exact kW (zA3 (by rw[HF.o])) Ki
  ·have HF:=hd (show r=true by rw[<-HR.o];exact zRg (by rw[HL.o,HM.o]) (fun j hj=>HA.o j (by have:=HL.o;omega)));clear HA;go_wp2
   go_ret
   exact kW (zA3 (by rw[HF.o])) ⟨kd,rfl⟩):P:=h
theorem zZy (A B:Option Addr)(l m:List Int)(a b c d:Nat)(r:Bool)(hr:sameL l m=r)(w:World)(ha:l.length=a)(hb:m.length=b)(hl:a<=9223372036854775807)(hm:b<=9223372036854775807)(hp:VL w w.heap.size A (rv l))(hq:VL w w.heap.size B (rv m)):
  Calls Tryz.prog 35 #[.slice A a c,.slice B b d] w (zHa (.bool r) w):=by
 have HP:=hd hp;have HQ:=hd hq;have HL:=hd ha;have HM:=hd hb;have HR:=hd hr;clear hp hq ha hb hr;by_cases hab:a=b
 ·subst hab;go_enter Tryz.func35,Tryz.ntmps35
  exact kQr
 ·have HF:=hd (show r=false by rw[<-HR.o];exact zK0 (by rw[HL.o,HM.o];exact hab));have hx:((a:Int) !=(b:Int))=true:=by simp;omega
  have hy:((a:Int)==(b:Int))=false:=by simp;omega
  clear hab;go_enter Tryz.func35,Tryz.ntmps35
  go_wp2
  go_ret
  exact kW (zA3 (by rw[HF.o])) ⟨0,rfl⟩
theorem zZz (A B:Option Addr)(l m:List Int)(a b c d:Nat)(r:Bool)(hr:sameL l m=r)(w:World)(ha:l.length=a)(hb:m.length=b)(hl:a<=9223372036854775807)(hm:b<=9223372036854775807)(hp:VL w w.heap.size A (rv l))(hq:VL w w.heap.size B (rv m)):
  Calls Tryz.prog 151 #[.slice A a c,.slice B b d] w (zHa (.bool r) w):=by
 have HP:=hd hp;have HQ:=hd hq;have HL:=hd ha;have HM:=hd hb;have HR:=hd hr;clear hp hq ha hb hr;by_cases hab:a=b
 ·subst hab;go_enter Tryz.func151,Tryz.ntmps151
  exact kQr
 ·have HF:=hd (show r=false by rw[<-HR.o];exact zK0 (by rw[HL.o,HM.o];exact hab));have hx:((a:Int) !=(b:Int))=true:=by simp;omega
  have hy:((a:Int)==(b:Int))=false:=by simp;omega
  clear hab;go_enter Tryz.func151,Tryz.ntmps151
  go_wp2
  go_ret
  exact kW (zA3 (by rw[HF.o])) ⟨0,rfl⟩
theorem zUw (A B:Option Addr)(l m:List Int)(a b c d:Nat)(r:Bool)(hr:sameL l m=r)(w:World)(ha:l.length=a)(hb:m.length=b)(hl:a<=9223372036854775807)(hm:b<=9223372036854775807)(hp:VL w w.heap.size A (rv l))(hq:VL w w.heap.size B (rv m)):
  Calls Tryz.prog 146 #[.slice A a c,.slice B b d] w (zHa (.bool r) w):=by
 have HC:=hd (zZz A B l m a b c d r hr w ha hb hl hm hp hq);clear hr ha hb hp hq;go_enter Tryz.func146,Tryz.ntmps146
 go_wp2_with fail
 refine HC.o.mono ?_;rintro e w' ⟨rfl,kd,rfl⟩;go_wp2
 go_ret
 exact kW rfl Ki
theorem kO2 (h:P:=by
 go_enter Tryz.func135,Tryz.ntmps135
 go_wp2_with fail
 refine HC.o.mono ?_;rintro e w' ⟨rfl,rfl⟩;go_wp2_with fail
 refine HD.o.mono ?_;rintro e w' ⟨rfl,rfl⟩;go_wp2
 go_ret
 exact zFp (zF2 (by rw[HF.o]))):P:=h
theorem zMq (A B:Option Addr)(l m:List Int)(a b c d:Nat)(p r:Int)(hr:atE l p m=r)(w:World)(ha:l.length=a)(hb:m.length=b)(hl:a<=9223372036854775807)(hm:b<=9223372036854775807)(hp:VL w w.heap.size A (rv l))(hq:VL w w.heap.size B (rv m)):
  Calls Tryz.prog 135 #[.slice A a c,.int .i64 p,.slice B b d] w (kLt (.int .i64 r) w):=by
 have HC:=hd (zMo A l a c w ha hl hp);have HD:=hd (zMo B m b d w hb hm hq);have HR:=hd hr;have HL:=hd ha;unfold zNh at HC HD;clear hr hp hq ha hb;cases h1:okR l
 ·have HF:=hd (show r=4 by rw[<-HR.o];unfold atE;rw[h1];rfl);rw[h1]at HC;clear h1;go_enter Tryz.func135,Tryz.ntmps135
  go_wp2_with fail
  refine HC.o.mono ?_;rintro e w' ⟨rfl,rfl⟩;go_wp2
  go_ret
  exact zFp (zF2 (by rw[HF.o]))
 ·cases h2:okR m
  ·have HF:=hd (show r=4 by rw[<-HR.o];unfold atE;rw[h1,h2];rfl);rw[h1]at HC;rw[h2]at HD;clear h1 h2;exact kO2
  ·have qR:=hd (show(okR l&&okR m)=true by rw[h1,h2];rfl);rw[h1]at HC;rw[h2]at HD;clear h1 h2;rcases(show p<0∨(0<=p/\p<=a)∨(a:Int)<p by omega)with h3|⟨h3,h4⟩|h3
   ·have HF:=hd (show r=8 by rw[<-HR.o];unfold atE;rw[if_pos qR.o,if_neg (by have:=HL.o;omega)]);exact kO2
   ·have HF:=hd (show r=0 by rw[<-HR.o];unfold atE;rw[if_pos qR.o,if_pos (by have:=HL.o;omega)]);exact kO2
   ·have HF:=hd (show r=8 by rw[<-HR.o];unfold atE;rw[if_pos qR.o,if_neg (by have:=HL.o;omega)]);exact kO2
inductive NT where
 |mk (lf:Bool) (ps:List Pr) (tx:List Int) (ks:List NT)
def NT.lf :NT->Bool
 |.mk a _ _ _=>a
def NT.ps :NT->List Pr
 |.mk _ a _ _=>a
def NT.tx :NT->List Int
 |.mk _ _ a _=>a
def NT.ks :NT->List NT
 |.mk _ _ _ a=>a
theorem NT.eta (n:NT):NT.mk n.lf n.ps n.tx n.ks=n:=by cases n;rfl
mutual
def sizeT :NT->Nat
 |.mk _ _ tx ks=>1+tx.length+sizeK ks
def sizeK :List NT->Nat
 |[]=>0
 |k::r=>sizeT k+sizeK r
end
mutual
def zAy :NT->List Int
 |.mk _ _ tx ks=>tx++kSo ks
def kSo :List NT->List Int
 |[]=>[]
 |k::r=>zAy k++kSo r
end
def zPb (lf:Bool)(ps:List Pr)(tx:List Int)(nk:Nat):Int:=
 if chk ps≠0 then chk ps else if(lf&&decide (0<nk)|| !lf&&decide (0<tx.length))=true then 7 else zNh tx
mutual
def zAh :NT->Int
 |.mk lf ps tx ks=>if zPb lf ps tx ks.length≠0 then zPb lf ps tx ks.length else kBr ks
def kBr :List NT->Int
 |[]=>0
 |k::r=>if zAh k≠0 then zAh k else kBr r
end
def zAd (n:NT):Int:=if 1048576<wrap64 (sizeT n)then 2 else zAh n
noncomputable def eqT (a b:NT):Bool:=@decide (a=b) (Classical.propDecidable _)
theorem zD8 (a:NT):eqT a a=true:=by unfold eqT;exact@decide_eq_true _ (Classical.propDecidable _) rfl
theorem zPc {a b:NT}(h:a=b):eqT a b=true:=by subst h;exact zD8 a
theorem zUx {a b:NT}(h:a≠b):eqT a b=false:=by unfold eqT;exact@decide_eq_false _ (Classical.propDecidable _) h
theorem kZ (a b:List NT):sizeK (a++b)=sizeK a+sizeK b:=by
 induction a with
 |nil=>simp[sizeK]
 |cons x r ih=>simp only[List.cons_append,sizeK,ih];omega
theorem zPd {α:Type}{l:List α}{x:α}(h:l[k]? =some x):l.take (k+1)=l.take k++[x]:=by
 rw[List.take_add_one,h];rfl
theorem zCo {α:Type}{l:List α}{x:α}(h:l[k]? =some x):l.drop k=x::l.drop (k+1):=by
 obtain⟨h1,h2⟩:=List.getElem?_eq_some_iff.1 h;rw[List.drop_eq_getElem_cons h1,h2]
mutual
theorem zUy :∀n:NT,(zAy n).length<=sizeT n
 |.mk _ _ tx ks=>by have:=zUz ks;simp only[zAy,sizeT,List.length_append];omega
theorem zUz :∀l:List NT,(kSo l).length<=sizeK l
 |[]=>by simp[kSo]
 |k::r=>by have h1:=zUy k;have h2:=zUz r;simp only[kSo,sizeK,List.length_append];omega
end
theorem zJs (n:NT):1<=sizeT n:=by cases n;simp only[sizeT];omega
section
variable {σ:Type}(step:σ->NT->Bool×σ)
mutual
def zEg :σ->NT->Bool×σ
 |s,.mk lf ps tx ks=>if(step s (.mk lf ps tx ks)).1=true then walkK (step s (.mk lf ps tx ks)).2 ks else(false,(step s (.mk lf ps tx ks)).2)
def walkK :σ->List NT->Bool×σ
 |s,[]=>(true,s)
 |s,k::r=>if(zEg s k).1=true then walkK (zEg s k).2 r else(false,(zEg s k).2)
end
variable {step}
theorem zWt {s:σ}{ks:List NT}{n:NT}(h:ks[k]? =some n)(h0:(zEg step s n).1=true):walkK step s (ks.drop k)=walkK step (zEg step s n).2 (ks.drop (k+1)):=by
 rw[zCo h,walkK,if_pos h0]
theorem zWu {s:σ}{ks:List NT}{n:NT}(h:ks[k]? =some n)(h0:(zEg step s n).1=false):walkK step s (ks.drop k)=(false,(zEg step s n).2):=by
 rw[zCo h,walkK,if_neg (by simp[h0])]
theorem zZ0 {s:σ}{ks:List NT}(h:ks.length<=k):walkK step s (ks.drop k)=(true,s):=by
 rw[List.drop_eq_nil_of_le h];rfl
end
def zZ1 (z:Int)(n:NT):Bool×Int:=(true,wrap64 (z+(1+n.tx.length)))
def zWv (_:Int)(n:NT):Bool×Int:=(zPb n.lf n.ps n.tx n.ks.length==0,zPb n.lf n.ps n.tx n.ks.length)
theorem kDm (a b:Int):wrap64 (wrap64 a+b)=wrap64 (a+b):=by unfold wrap64;omega
theorem zGy (a:Int)(h: -9223372036854775808<=a)(h':a<=9223372036854775807):wrap64 a=a:=by unfold wrap64;omega
mutual
theorem zRh :∀(n:NT)(z:Int),zEg zZ1 (wrap64 z) n=(true,wrap64 (z+sizeT n))
 |.mk lf ps tx ks,z=>by
  rw[zEg];simp only[zZ1,NT.tx,if_true];rw[kDm,zOa ks];simp only[sizeT];congr 2
  omega
theorem zOa :∀(l:List NT)(z:Int),walkK zZ1 (wrap64 z) l=(true,wrap64 (z+sizeK l))
 |[],z=>by simp[walkK,sizeK]
 |k::r,z=>by
  rw[walkK,zRh k z];simp only[if_true];rw[zOa r];simp only[sizeK];congr 2
  omega
end
mutual
theorem zOb :∀(n:NT)(e:Int),zEg zWv e n=(zAh n==0,zAh n)
 |.mk lf ps tx ks,e=>by
  rw[zEg,zAh];simp only[zWv,NT.lf,NT.ps,NT.tx,NT.ks];rcases Classical.em (zPb lf ps tx ks.length=0)with h|h
  ·simp only[h,beq_self_eq_true,if_true,ne_eq,not_true,if_false];exact zMr ks
  ·have h2:(zPb lf ps tx ks.length==0)=false:=by simp[h]
   simp only[h2,ne_eq,h,not_false_iff,if_true,if_false,Bool.false_eq_true]
theorem zMr :∀(ks:List NT),walkK zWv 0 ks=(kBr ks==0,kBr ks)
 |[]=>by simp[walkK,kBr]
 |k::r=>by
  rw[walkK,zOb k 0,kBr];rcases Classical.em (zAh k=0)with h|h
  ·simp only[h,beq_self_eq_true,if_true,ne_eq,not_true,if_false];exact zMr r
  ·have h2:(zAh k==0)=false:=by simp[h]
   simp only[h2,ne_eq,h,not_false_iff,if_true,if_false,Bool.false_eq_true]
end
def zU0 (ps:List Pr)(nt nk pc tc kc:Nat):Prop:=zIo ps/\ps.length<=4398046511104/\nt<=35184372088832/\nk<=1759218604441/\ps.length<=pc/\nt<=tc/\nk<=kc
mutual
def zRi :NT->Prop
 |.mk _ _ _ ks=>ks.length<=1759218604390/\zU1 ks
def zU1 :List NT->Prop
 |[]=>True
 |k::r=>zRi k/\zU1 r
end
theorem zRj :∀{l:List NT},(∀(k:Nat)(m:NT),l[k]? =some m->zRi m)->zU1 l
 |[],_=>trivial
 |x::_,h=>⟨h 0 x rfl,zRj fun k m hm=>h (k+1) m hm⟩
def zK1 (w:World)(b q:Nat)(u:Value):Prop:=
 ∃c0 c1 c2 c3,u=.agg #[c0,c1,c2,c3]/\w.cell? ⟨b,q,none⟩=some c0/\w.cell? ⟨b,q+1,none⟩=some c1/\w.cell? ⟨b,q+2,none⟩=some c2/\w.cell? ⟨b,q+3,none⟩=some c3
def zV :Nat->World->Nat->Value->NT->Prop
 |0,_,_,_,_=>False
 |d+1,w,B,v,n=>∃PA pc TA tc KA kc,v=.agg #[.bool n.lf,.slice PA n.ps.length pc,.slice TA n.tx.length tc,.slice KA n.ks.length kc]/\PL w B PA n.ps/\VL w B TA (rv n.tx)/\zU0 n.ps n.tx.length n.ks.length pc tc kc/\
   ∀k m,n.ks[k]? =some m->∃b o u,KA=some ⟨b,o,none⟩/\b<B/\zV d w B u m/\zK1 w b (o+k*4) u
def zKn (d:Nat)(w:World)(B:Nat)(A:Option Addr)(ks:List NT):Prop:=
 ∀k m,ks[k]? =some m->∃b o u,A=some ⟨b,o,none⟩/\b<B/\zV d w B u m/\zK1 w b (o+k*4) u
theorem zK1.keep {b q:Nat}(h:zK1 w b q u)(hk:∀p:Addr,p.block=b->w'.cell? p=w.cell? p):zK1 w' b q u:=by
 obtain⟨c0,c1,c2,c3,e,h0,h1,h2,h3⟩:=h;exact⟨c0,c1,c2,c3,e,(hk _ rfl).trans h0,(hk _ rfl).trans h1,(hk _ rfl).trans h2,(hk _ rfl).trans h3⟩
theorem zV.keep (hk:∀p:Addr,p.block<B->w'.cell? p=w.cell? p):∀{d:Nat}{v:Value}{n:NT},zV d w B v n->zV d w' B v n
 |0,_,_,h=>h
 |d+1,_,_,⟨PA,pc,TA,tc,KA,kc,e,hp,ht,hf,hks⟩=>⟨PA,pc,TA,tc,KA,kc,e,hp.keep hk,ht.keep hk,hf,fun k m hm=>by
   obtain⟨b,o,u,e1,hb,hn,hc⟩:=hks k m hm;exact⟨b,o,u,e1,hb,hn.keep hk,hc.keep fun p hp=>hk p Kb⟩⟩
theorem zV.more {B':Nat}(hB:B<=B'):∀{d:Nat}{v:Value}{n:NT},zV d w B v n->zV d w B' v n
 |0,_,_,h=>h
 |d+1,_,_,⟨PA,pc,TA,tc,KA,kc,e,hp,ht,hf,hks⟩=>⟨PA,pc,TA,tc,KA,kc,e,hp.more hB,ht.more hB,hf,fun k m hm=>by
   obtain⟨b,o,u,e1,hb,hn,hc⟩:=hks k m hm;exact⟨b,o,u,e1,by omega,hn.more hB,hc⟩⟩
theorem zV.below {n:NT}(h:zV d w B v n)(hb:Below B w w'):zV d w' B v n:=h.keep fun _ hp=>hb.cell hp
theorem zV.later {n:NT}(h:zV d w w.heap.size v n)(hb:Below w.heap.size w w'):zV d w' w'.heap.size v n:=(h.below hb).more hb.size
theorem zKn.keep {ks:List NT}(h:zKn d w B A ks)(hk:∀p:Addr,p.block<B->w'.cell? p=w.cell? p):zKn d w' B A ks:=fun k m hm=>by
 obtain⟨b,o,u,e1,hb,hn,hc⟩:=h k m hm;exact⟨b,o,u,e1,hb,hn.keep hk,hc.keep fun p hp=>hk p Kb⟩
theorem zKn.below {ks:List NT}(h:zKn d w B A ks)(hb:Below B w w'):zKn d w' B A ks:=h.keep fun _ hp=>hb.cell hp
theorem zV.open_ {n:NT}(h:zV d w B v n):∃d' lf ps tx ks PA pc TA tc KA kc,d=d'+1/\n=.mk lf ps tx ks/\
  v=.agg #[.bool lf,.slice PA ps.length pc,.slice TA tx.length tc,.slice KA ks.length kc]/\PL w B PA ps/\VL w B TA (rv tx)/\zU0 ps tx.length ks.length pc tc kc/\zKn d' w B KA ks:=by
 cases d with
 |zero=>exact h.elim
 |succ d=>
  cases n with
  |mk lf ps tx ks=>
   obtain⟨PA,pc,TA,tc,KA,kc,e,hp,ht,hf,hks⟩:=h;exact⟨d,lf,ps,tx,ks,PA,pc,TA,tc,KA,kc,rfl,rfl,e,hp,ht,hf,hks⟩
theorem zV.shut {lf:Bool}{ps:List Pr}{tx:List Int}{ks:List NT}{PA TA KA:Option Addr}{pc tc kc np nt:Nat}(ww:np=ps.length)(hnt:nt=tx.length)(fE:nk=ks.length)(hp:PL w B PA ps)(ht:VL w B TA (rv tx))(hf:zU0 ps tx.length ks.length pc tc kc)(hks:zKn d w B KA ks):
  zV (d+1) w B (.agg #[.bool lf,.slice PA np pc,.slice TA nt tc,.slice KA nk kc]) (.mk lf ps tx ks):=by
 subst ww hnt fE;exact⟨PA,pc,TA,tc,KA,kc,rfl,hp,ht,hf,hks⟩
theorem zKn.at_ {ks:List NT}(h:zKn d w B A ks)(hk:k<ks.length):∃m b o lf PA np pc TA nt tc KA nk kc,ks[k]? =some m/\A=some ⟨b,o,none⟩/\b<B/\
  zV d w B (.agg #[.bool lf,.slice PA np pc,.slice TA nt tc,.slice KA nk kc]) m/\
  w.cell? ⟨b,o+k*4,none⟩=some (.bool lf)/\w.cell? ⟨b,o+k*4+1,none⟩=some (.slice PA np pc)/\w.cell? ⟨b,o+k*4+2,none⟩=some (.slice TA nt tc)/\w.cell? ⟨b,o+k*4+3,none⟩=some (.slice KA nk kc):=by
 obtain⟨m,hm⟩:∃m,ks[k]? =some m:=⟨_,List.getElem?_eq_getElem hk⟩;obtain⟨b,o,u,e,hb,hn,c0,c1,c2,c3,eu,h0,h1,h2,h3⟩:=h k m hm;have hn':=hn;obtain⟨d',lf,ps,tx,ks',PA,pc,TA,tc,KA,kc,_,rfl,ev,_⟩:=hn.open_;rw[eu]at ev;simp only[Value.agg.injEq,Array.mk.injEq,List.cons.injEq,and_true]at ev;obtain⟨rfl,rfl,rfl,rfl⟩:=ev;subst eu;exact⟨_,b,o,lf,PA,_,pc,TA,_,tc,KA,_,kc,hm,e,hb,hn',h0,h1,h2,h3⟩
theorem kHm {c d:Value}(hb:Below (w.alloc (.cells #[a,b,c,d] t)).heap.size (w.alloc (.cells #[a,b,c,d] t)) w'):
  w'.cell? ⟨w.heap.size,0,none⟩=some a/\w'.cell? ⟨w.heap.size,1,none⟩=some b/\w'.cell? ⟨w.heap.size,2,none⟩=some c/\w'.cell? ⟨w.heap.size,3,none⟩=some d:=by
 refine⟨?_,?_,?_,?_⟩<;>(rw[hb.cell Kc,World.cell?_alloc_at _ _ _ _ rfl];rfl)
theorem zZ2 {lf:Bool}{ps:List Pr}{tx:List Int}(h:chk ps≠0):zPb lf ps tx nk=chk ps:=by unfold zPb;rw[if_pos h]
theorem zRk {lf:Bool}{ps:List Pr}{tx:List Int}(h:chk ps=0)(h1:lf=true/\0<nk∨lf=false/\0<tx.length):zPb lf ps tx nk=7:=by
 unfold zPb;rw[if_neg (by simp[h]),if_pos];rcases h1 with⟨rfl,h1⟩|⟨rfl,h1⟩<;>simp[h1]
theorem zRl {lf:Bool}{ps:List Pr}{tx:List Int}(h:chk ps=0)(h1:lf=true/\nk=0∨lf=false/\tx.length=0):zPb lf ps tx nk=zNh tx:=by
 unfold zPb;rw[if_neg (by simp[h]),if_neg];rcases h1 with⟨rfl,h1⟩|⟨rfl,h1⟩<;>simp[h1]
theorem kOp (h:P:=by
 go_wp2_with(first
  |(go_at_call 100;refine HC.o.mono ?_;rintro e w' ⟨rfl,hb⟩;obtain⟨x0,x1,x2,x3⟩:=kHm hb)
  |(go_at_call 124;refine(HD _ (hb1.trans (hb.mono hb1.size))).o.mono ?_;rintro e w'' ⟨rfl,rfl⟩)
  |fail)
 go_ret
 exact⟨zAj HF.o.symm,hb1.trans (hb.mono hb1.size)⟩):P:=h
theorem kHn (lf:Bool)(ps:List Pr)(tx:List Int)(PA TA KA:Option Addr)(pc tc nk kc:Nat)(w:World)(hf:zU0 ps tx.length nk pc tc kc)(hp:PL w w.heap.size PA ps)(ht:VL w w.heap.size TA (rv tx)):
  Calls Tryz.prog 96 #[.agg #[.bool lf,.slice PA ps.length pc,.slice TA tx.length tc,.slice KA nk kc]] w (jA (.int .i64 (zPb lf ps tx nk)) w):=by
 have hb1:Below w.heap.size w (w.alloc (.cells #[.bool lf,.slice PA ps.length pc,.slice TA tx.length tc,.slice KA nk kc] 26)):=Kk.alloc Kl _;have HC:=hd (zKb PA ps pc _ hf.1 ((hp.below hb1).more hb1.size));have HD:=fun(w':World)(hb:Below w.heap.size w w')=>hd (zMo TA tx tx.length tc w' rfl (by have:=hf.2.2.1;omega) ((ht.below hb).more hb.size));obtain⟨_,_,f2,f3⟩:=hf;clear hp ht;obtain⟨E,hE⟩:∃E,E=chk ps:=⟨_,rfl⟩;rw[<-hE]at HC;rcases Classical.em (E=0)with h0|h0
 ·subst h0;have g1:(decide ((0:Int)<(nk:Int))=true/\0<nk)∨(decide ((0:Int)<(nk:Int))=false/\nk=0):=by
   rcases Nat.eq_zero_or_pos nk with h|h
   ·exact .inr ⟨by simp;omega,h⟩
   ·exact .inl ⟨by simp;omega,h⟩
  have g2:(decide ((0:Int)<(tx.length:Int))=true/\0<tx.length)∨(decide ((0:Int)<(tx.length:Int))=false/\tx.length=0):=by
   rcases Nat.eq_zero_or_pos tx.length with h|h
   ·exact .inr ⟨by rw[decide_eq_false_iff_not];omega,h⟩
   ·exact .inl ⟨by rw[decide_eq_true_iff];omega,h⟩
  cases lf
  ·rcases g2 with⟨g2,h2⟩|⟨g2,h2⟩
   ·have HF:=hd (zRk (lf:=false) (nk:=nk) hE.symm (.inr ⟨rfl,h2⟩));clear hE g1;go_enter Tryz.func96,Tryz.ntmps96
    exact kOp
   ·have HF:=hd (zRl (lf:=false) (nk:=nk) hE.symm (.inr ⟨rfl,h2⟩));have z2:¬0<tx.length:=Kb;clear hE g1 h2;go_enter Tryz.func96,Tryz.ntmps96
    exact kOp
  ·rcases g1 with⟨g1,h1⟩|⟨g1,h1⟩
   ·have HF:=hd (zRk (lf:=true) (tx:=tx) hE.symm (.inl ⟨rfl,h1⟩));clear hE g2;go_enter Tryz.func96,Tryz.ntmps96
    exact kOp
   ·have HF:=hd (zRl (lf:=true) (tx:=tx) hE.symm (.inl ⟨rfl,h1⟩));have z1:¬0<nk:=Kb;clear hE g2 h1;go_enter Tryz.func96,Tryz.ntmps96
    exact kOp
 ·have HF:=hd (show zPb lf ps tx nk=E by rw[hE];exact zZ2 (by rw[<-hE];exact h0));have h1:(E !=0)=true:=by simp[h0]
  have h2:(E==0)=false:=by simp[h0]
  clear hE h0;go_enter Tryz.func96,Tryz.ntmps96
  exact kOp
structure Eff (g:Nat)(O O':Option Nat)(w w':World):Prop where
 below:Below g w w'
 size:w.heap.size<=w'.heap.size
 cell:∀p:Addr,p.block<w.heap.size->p.block≠g->some p.block≠O->w'.cell? p=w.cell? p
 own:O'=O∨∃j,O'=some j/\w.heap.size<=j
theorem Eff.refl (g:Nat)(O:Option Nat)(w:World):Eff g O O w w:=⟨Below.refl _ _,Nat.le_refl _,fun _ _ _ _=>rfl,.inl rfl⟩
theorem Eff.trans {O'':Option Nat}{w'':World}(h:Eff g O O' w w')(h':Eff g O' O'' w' w''):Eff g O O'' w w'':=
 ⟨h.below.trans h'.below,Nat.le_trans h.size h'.size,fun p hp hg hO=>by
  have hs:=h.size;rw[h'.cell p Kb hg (by
   rcases h.own with e|⟨j,e,hj⟩
   ·rw[e];exact hO
   ·rw[e];intro e2;injection e2 with e2;omega)]
  exact h.cell p hp hg hO,by
  have hs:=h.size;rcases h'.own with e|⟨j,e,hj⟩
  ·rw[e];exact h.own
  ·exact .inr ⟨j,e,by omega⟩⟩
theorem Eff.alloc (h:Eff g O O' w w')(hg:g<=w'.heap.size)(o:Obj):Eff g O O' w (w'.alloc o):=
 ⟨h.below.alloc hg o,by have:=h.size;simp;omega,fun p hp hg hO=>by
  have hs:=h.size;rw[World.cell?_alloc_lt _ _ p Kb];exact h.cell p hp hg hO,h.own⟩
def kGz (g gv gw:Nat)(fv:FuncId)(w:World):Prop:=
 w.cell? ⟨gv,0,none⟩=some (.func (.func fv) #[] #[.pointer (some ⟨g,0,none⟩)])/\
 w.cell? ⟨gw,0,none⟩=some (.func (.func 123) #[] #[.pointer (some ⟨gv,0,none⟩),.pointer (some ⟨gw,0,none⟩)])
def Did {σ:Type}(g:Nat)(Q:σ->Option Nat->World->Prop)(O:Option Nat)(r:Bool×σ)(w:World)(e:Ending)(w':World):Prop:=
 e=.returned (.bool r.1)/\∃O',Q r.2 O' w'/\Eff g O O' w w'
structure zY1 {σ:Type}(fv:FuncId)(g N:Nat)(step:σ->NT->Bool×σ)(Q:σ->Option Nat->World->Prop)(pre:σ->NT->Prop)(preK:σ->List NT->Prop):Prop where
 enters:∀args w,(callFunc fv args).run Tryz.prog w=.ok (.enter fv args) w
 valid:∀s O w,Q s O w->∀j,O=some j->N<=j/\j<w.heap.size
 later:∀s O w o,N<=w.heap.size->Q s O w->Q s O (w.alloc o)
 kids:∀s lf ps tx ks,pre s (.mk lf ps tx ks)->(step s (.mk lf ps tx ks)).1=true->preK (step s (.mk lf ps tx ks)).2 ks
 next:∀s m r,preK s (m::r)->pre s m/\((zEg step s m).1=true->preK (zEg step s m).2 r)
 does:∀d w v n s O,pre s n->Q s O w->N<=w.heap.size->zV d w g v n->Calls Tryz.prog fv #[v,.pointer (some ⟨g,0,none⟩)] w (Did g Q O (step s n) w)
theorem kGz.eff (h:kGz g gv gw fv w)(hN:N<=w.heap.size)(hv:gv<N)(hw:gw<N)(nL:gv≠g)(l5:gw≠g)(hO:∀j,O=some j->N<=j/\j<w.heap.size)(ha:Eff g O O' w w'):kGz g gv gw fv w':=
 ⟨(ha.cell ⟨gv,0,none⟩ (Nat.lt_of_lt_of_le hv hN) nL (by intro e;have h1:N<=gv:=(hO _ e.symm).1;omega)).trans h.1,(ha.cell ⟨gw,0,none⟩ (Nat.lt_of_lt_of_le hw hN) l5 (by intro e;have h1:N<=gw:=(hO _ e.symm).1;omega)).trans h.2⟩
theorem zL9 {σ:Type}{Q:σ->Option Nat->World->Prop}{r:Bool×σ}{b:Bool}{s:σ}(h:r=(b,s))(hq:Q s O' w')(ha:Eff g O O' w w'):Did g Q O r w (.returned (.bool b)) w':=by
 subst h;exact⟨rfl,O',hq,ha⟩
theorem kLy {c d:Value}(hg:g<w.heap.size)(hO:∀j,O=some j->j<w.heap.size)(hb:Eff g O O' (w.alloc (.cells #[a,b,c,d] t)) w'):
  w'.cell? ⟨w.heap.size,0,none⟩=some a/\w'.cell? ⟨w.heap.size,1,none⟩=some b/\w'.cell? ⟨w.heap.size,2,none⟩=some c/\w'.cell? ⟨w.heap.size,3,none⟩=some d:=by
 refine⟨?_,?_,?_,?_⟩<;>(rw[hb.cell _ Kc Kf (by intro e;have:=hO _ e.symm;simp at this),World.cell?_alloc_at _ _ _ _ rfl];rfl)
theorem kCr {σ:Type}{step:σ->NT->Bool×σ}{Q:σ->Option Nat->World->Prop}{pre:σ->NT->Prop}{preK:σ->List NT->Prop}(V:zY1 fv g N step Q pre preK)(hg:g<N)(hv:gv<N)(hw:gw<N)(nL:gv≠g)(l5:gw≠g):
  ∀(d:Nat)(w:World)(v:Value)(n:NT)(s:σ)(O:Option Nat),pre s n->Q s O w->N<=w.heap.size->kGz g gv gw fv w->zV d w g v n->
   Calls Tryz.prog 123 #[v,.pointer (some ⟨gv,0,none⟩),.pointer (some ⟨gw,0,none⟩)] w (Did g Q O (zEg step s n) w):=by
 intro d;induction d with
 |zero=>intro w v n s O _ _ _ _ h;exact h.elim
 | succ d ih=>
  intro w v n s O hpre hQ hN hV hn;have hn0:=hn;obtain⟨d',lf,ps,tx,ks,PA,pc,TA,tc,KA,kc,hd',rfl,rfl,hp,ht,hf,hks⟩:=hn.open_;obtain rfl:d=d':=Kb;have hO:=V.valid s O w hQ;have hN':=Nat.lt_of_lt_of_le hg hN;obtain⟨wb,hwb⟩:∃wb,wb=w.alloc (.cells #[.bool lf,.slice PA ps.length pc,.slice TA tx.length tc,.slice KA ks.length kc] 26):=⟨_,rfl⟩;have hab:Eff g O O w wb:=hwb▸(Eff.refl g O w).alloc Kb _;have bn:wb.heap.size=w.heap.size+1:=by rw[hwb];simp
  have HV:=hd (V.does (d+1) wb _ _ s O hpre (hwb▸V.later s O w _ hN hQ) Kb (hn0.below hab.below));have hvb:=hV.eff hN hv hw nL l5 hO hab;have hE:=V.enters;obtain⟨r,hr⟩:∃r,r=step s (.mk lf ps tx ks):=⟨_,rfl⟩;rw[<-hr]at HV;obtain⟨rb,s1⟩:=r;have HR:=hd hr;have gF:=hd hpre;have bJ:=hd hks;have HO:=hd hO;have qT:=hd hab;have wy:=hd hvb;have hf3:=hf.2.2.2.1;obtain⟨v1,v2⟩:=hvb;obtain⟨w1,w2⟩:=hV;subst hwb;clear hr hQ hks hn hn0 hp ht hd' hO hab hf hpre;cases rb
  ·have HF:=hd (show zEg step s (.mk lf ps tx ks)=(false,s1) by rw[zEg,if_neg (by rw[<-HR.o];simp),<-HR.o]);clear bJ ih;go_enter Tryz.func123,Tryz.ntmps123
   go_wp2_with(first|(refine HV.o.mono ?_;rintro e w' ⟨rfl,O',hq,ha⟩))
   go_ret
   exact zL9 HF.o hq (qT.o.trans ha)
  ·have HF:=hd (show zEg step s (.mk lf ps tx ks)=walkK step s1 (ks.drop 0) by rw[zEg,if_pos (by rw[<-HR.o]),<-HR.o];rfl);have pJ:=hd (show preK s1 (ks.drop 0)from(by have:=V.kids s lf ps tx ks gF.o (by rw[<-HR.o]);rw[<-HR.o]at this;exact this));clear HR;go_enter Tryz.func123,Tryz.ntmps123
   go_wp2_with(first|(refine HV.o.mono ?_;rintro e w' ⟨rfl,O1,hq1,ha1⟩;obtain⟨x0,x1,x2,x3⟩:=kLy hN' (fun j hj=>(HO.o j hj).2) ha1))
   have tX:=hd hq1;have tY:=hd (qT.o.trans ha1);clear x0 x1 x2 x3 hq1 ha1 HV v1 v2 qT;go_loopw [14] (fun i wr=>∃(k:Nat)(s2:σ)(O2:Option Nat),k<=ks.length/\i=.int .i64 k/\Kq (Q s2 O2 wr)/\Kq (Eff g O O2 w wr)/\Kq (zEg step s (.mk lf ps tx ks)=walkK step s2 (ks.drop k))/\Kq (preK s2 (ks.drop k))) (fun i _=>ks.length-(intOf i).toNat)
   case atStart=>exact⟨0,s1,O1,Nat.zero_le _,rfl,tX,tY,HF,pJ⟩
   case round=>
    obtain⟨k,s2,O2,hk,rfl,au,iK,dQ,tZ⟩:=hrel;clear tX tY HF pJ;by_cases hlt:k<ks.length
    ·obtain⟨m,b,o,lf',PA',np',pc',TA',nt',tc',KA',nk',kc',hm,rfl,hbg,cO,c0,c1,c2,c3⟩:=((bJ.o.below iK.o.below)).at_ hlt;have HM:=hd hm;have qU:=V.next s2 m (ks.drop (k+1)) (by rw[<-zCo hm];exact tZ.o);have ua:=hd qU.2;have hsz:=iK.o.size;obtain⟨u1,u2⟩:=(show kGz g gv gw fv w from⟨w1,w2⟩).eff hN hv hw nL l5 HO.o iK.o;obtain⟨wk,hwk⟩:∃wk,wk=wr.alloc (.cells #[.bool lf',.slice PA' np' pc',.slice TA' nt' tc',.slice KA' nk' kc'] 26):=⟨_,rfl⟩;have pK:Eff g O2 O2 wr wk:=hwk▸(Eff.refl g O2 wr).alloc Kb _;have hsk:wk.heap.size=wr.heap.size+1:=by rw[hwk];simp
     have hvk:=(show kGz g gv gw fv wr from⟨u1,u2⟩).eff Kb hv hw nL l5 (V.valid s2 O2 wr au.o) pK;have HC:=hd (ih wk _ m s2 O2 qU.1 (hwk▸V.later s2 O2 wr _ Kb au.o) Kb hvk (cO.below pK.below));have ub:=hd (iK.o.trans pK);obtain⟨r,hr⟩:∃r,r=zEg step s2 m:=⟨_,rfl⟩;rw[<-hr]at HC;obtain⟨rb,s3⟩:=r;have HR:=hd hr;obtain⟨y1,y2⟩:=hvk;subst hwk;clear hm cO hr pK w1 w2 bJ wy qU tZ;cases rb
     ·have nM:=hd (show zEg step s (.mk lf ps tx ks)=(false,s3) by rw[dQ.o,zWu HM.o (by rw[<-HR.o]),<-HR.o]);clear dQ HM HR;go_wp2_with(first|(refine HC.o.mono ?_;rintro e w' ⟨rfl,O3,l6,qV⟩))
      go_ret
      exact zL9 nM.o l6 (ub.o.trans qV)
     ·have nM:=hd (show zEg step s (.mk lf ps tx ks)=walkK step s3 (ks.drop (k+1)) by rw[dQ.o,zWt HM.o (by rw[<-HR.o]),<-HR.o]);have wz:=hd (show preK s3 (ks.drop (k+1))from(by have:=ua.o (by rw[<-HR.o]);rw[<-HR.o]at this;exact this));clear dQ HM HR ua;go_wp2_with(first|(refine HC.o.mono ?_;rintro e w' ⟨rfl,O3,l6,qV⟩))
      go_roundw
      case rel=>exact⟨k+1,s3,O3,by omega,by go_num,hd l6,hd (ub.o.trans qV),nM,wz⟩
      case measure=>simp[intOf];omega
    ·have nM:=hd (show zEg step s (.mk lf ps tx ks)=(true,s2) by rw[dQ.o,zZ0 Kb]);clear dQ;go_wp2
     go_ret
     exact zL9 nM.o au.o iK.o
def kM3 {σ:Type}(g:Nat)(Q:σ->Option Nat->World->Prop)(s:σ)(w:World)(e:Ending)(w':World):Prop:=
 e=.returned (.tuple #[])/\∃O',Q s O' w'/\Below g w w'
theorem zOz {σ:Type}{step:σ->NT->Bool×σ}{Q:Nat->σ->Option Nat->World->Prop}{pre:σ->NT->Prop}{preK:σ->List NT->Prop}{n:NT}{s:σ}(V:∀N,w.heap.size<=N->zY1 fv g N step (Q N) pre preK)(hg:g<w.heap.size)(hpre:pre s n)(hQ:∀N wa,w.heap.size<=N->Below w.heap.size w wa->Q N s none wa)(hn:zV d w g v n):
  Calls Tryz.prog 94 #[v,.func (.func fv) #[] #[.pointer (some ⟨g,0,none⟩)]] w (kM3 g (Q (w.heap.size+3)) (zEg step s n).2 w):=by
 obtain⟨N,hN⟩:∃N,N=w.heap.size+3:=⟨_,rfl⟩;have V0:=V N Kb;have hn0:=hn;obtain⟨d',lf,ps,tx,ks,PA,pc,TA,tc,KA,kc,hd',rfl,rfl,hp,ht,hf,hks⟩:=hn.open_;obtain⟨f0,j0⟩:∃f:Value,f=.func (.func 123) #[] #[.pointer (some ⟨w.heap.size+1,0,none⟩),.pointer (some ⟨w.heap.size+2,0,none⟩)]:=⟨_,rfl⟩;obtain⟨wa,ey⟩:∃wa,wa=((w.alloc (.cells #[.bool lf,.slice PA ps.length pc,.slice TA tx.length tc,.slice KA ks.length kc] 26)).alloc (.cells #[.func (.func fv) #[] #[.pointer (some ⟨g,0,none⟩)]] 99)).alloc (.cells #[f0] 99):=⟨_,rfl⟩;have ud:Q N s none wa:=hQ N wa Kb (ey▸((((Below.refl _ w).alloc Kl _).alloc Kc _).alloc Kf _));have bK:Below g w wa:=ey▸((((Below.refl g w).alloc Kb _).alloc Kf _).alloc Kf _);have hsa:wa.heap.size=N:=by rw[ey,hN];simp
 have ue:kGz g (w.heap.size+1) (w.heap.size+2) fv wa:=by
  constructor
  ·rw[ey,World.cell?_alloc_lt _ _ _ Kc,World.cell?_alloc_at _ _ _ _ Kc];rfl
  ·rw[ey,World.cell?_alloc_at _ _ _ _ Kc,j0];rfl
 have HC:=hd (kCr V0 Kb Kb Kb Kb Kb d wa _ _ s none hpre ud Kb ue (hn0.below bK));obtain⟨v1,v2⟩:=ue;subst ey j0;have wA:=hd hN;clear ud hn0 hn hp ht hks hf V V0 hQ hd' hpre hN;go_enter Tryz.func94,Tryz.ntmps94
 go_wp2_with(first|(refine HC.o.mono ?_;rintro e w' ⟨rfl,O',hq,ha⟩))
 go_wp2
 go_end0
 exact⟨rfl,O',wA.o▸hq,bK.trans ha.below⟩
def One (t:TypeId)(g:Nat)(u:Value)(w:World):Prop:=w.heap[g]? =some (.cells #[u] t (0,0))
theorem One.alloc (h:One t g u w)(o:Obj):One t g u (w.alloc o):=(Below.heap_alloc w o g (lt_of_block h)).trans h
theorem One.new (t:TypeId)(u:Value)(w:World):One t w.heap.size u (w.alloc (.cells #[u] t (0,0))):=by
 show(w.heap.push _)[w.heap.size]? =_
 simp
theorem One.set (h:One t g u w)(x:Value):One t g x (w.setCell ⟨g,0,none⟩ x):=one_setCell h
theorem Eff.setCell (h:Eff g O O' w w')(x:Value):Eff g O O' w (w'.setCell ⟨g,0,none⟩ x):=
 ⟨h.below.setCell Kl x,by have:=h.size;simp;omega,fun p hp hg hO=>by
  rw[World.cell?_setCell_other _ _ _ _ (by intro e;exact hg (by rw[<-e]))];exact h.cell p hp hg hO,h.own⟩
theorem zKe (a:Int): -9223372036854775808<=wrap64 a/\wrap64 a<=9223372036854775807:=by unfold wrap64;omega
def QS (g:Nat)(z:Int)(O:Option Nat)(w:World):Prop:=O=none/\(-9223372036854775808<=z/\z<=9223372036854775807)/\One 3 g (.int .i64 z) w
theorem zO0 (g:Nat)(z:Int)(d:Nat)(w:World)(v:Value)(n:NT)(O:Option Nat)(qW:QS g z O w)(hn:zV d w g v n):
  Calls Tryz.prog 122 #[v,.pointer (some ⟨g,0,none⟩)] w (Did g (QS g) O (zZ1 z n) w):=by
 obtain⟨rfl,⟨hz1,hz2⟩,hQ⟩:=qW;obtain⟨d',lf,ps,tx,ks,PA,pc,TA,tc,KA,kc,hd',rfl,rfl,hp,ht,hf,hks⟩:=hn.open_;have hlt:=lt_of_block hQ;have h1:=cell_of_one (One.alloc hQ (.cells #[.bool lf,.slice PA ps.length pc,.slice TA tx.length tc,.slice KA ks.length kc] 26));have h2:=free_of_one (One.alloc hQ (.cells #[.bool lf,.slice PA ps.length pc,.slice TA tx.length tc,.slice KA ks.length kc] 26));have HQ:=hd hQ;have HE:=hd (Eff.refl g none w);have hl:=hf.2.2.1;clear hks hp ht hf hn hQ hd';go_enter Tryz.func122,Tryz.ntmps122
 go_wp2
 go_ret
 exact⟨rfl,none,⟨rfl,zKe _,(HQ.o.set _).alloc _⟩,(HE.o.setCell _).alloc Kf _⟩
theorem zV3 (g N:Nat):zY1 122 g N zZ1 (QS g) (fun _ _=>True) (fun _ _=>True):=
 ⟨enters_of Tryz.func122 Ka rfl,fun _ _ _ h j hj=>(by rw[h.1]at hj;cases hj),fun _ _ _ o _ h=>⟨h.1,h.2.1,h.2.2.alloc o⟩,fun _ _ _ _ _ _ _=>trivial,fun _ _ _ _=>⟨trivial,fun _=>trivial⟩,fun d w v n s O _ hQ _ hn=>zO0 g s d w v n O hQ hn⟩
theorem zUm (d:Nat)(w:World)(v:Value)(n:NT)(hn:zV d w w.heap.size v n):Calls Tryz.prog 93 #[v] w (jA (.int .i64 (wrap64 (sizeT n))) w):=by
 have hn0:=hn;obtain⟨d',lf,ps,tx,ks,PA,pc,TA,tc,KA,kc,hd',rfl,rfl,hp,ht,hf,hks⟩:=hn.open_;obtain⟨wb,hwb⟩:∃wb,wb=w.alloc (.cells #[.bool lf,.slice PA ps.length pc,.slice TA tx.length tc,.slice KA ks.length kc] 26):=⟨_,rfl⟩;have bn:wb.heap.size=w.heap.size+1:=by rw[hwb];simp
 have hb1:Below w.heap.size w wb:=hwb▸Kk.alloc Kl _;obtain⟨wc,hwc⟩:∃wc,wc=wb.alloc (.cells #[.int .i64 0] 3):=⟨_,rfl⟩;have hb2:Below w.heap.size w wc:=hwc▸hb1.alloc Kb _;have hsc:wc.heap.size=w.heap.size+1+1:=by rw[hwc];simp;omega
 have hQ:QS (w.heap.size+1) 0 none wc:=⟨rfl,by omega,by rw[hwc,<-bn];exact One.new _ _ _⟩;have HC:=hd (zOz (Q:=fun _=>QS (w.heap.size+1)) (fun N _=>zV3 (w.heap.size+1) N) Kb trivial (fun _ _ _ hb=>⟨hQ.1,hQ.2.1,(hb.block _ (lt_of_block hQ.2.2)).trans hQ.2.2⟩) ((hn0.below hb2).more Kb));have e:=zRh (.mk lf ps tx ks) 0;rw[zGy 0 Kb Kb,Int.zero_add]at e;rw[e]at HC;have HB:=hd hb2;clear hn hn0 hp ht hf hks hd' e hQ hb1 hb2;subst hwc hwb;go_enter Tryz.func93,Tryz.ntmps93
 go_wp2_with(first|(refine HC.o.mono ?_;rintro e w' ⟨rfl,O',⟨_,_,hq⟩,ha⟩;have x0:=cell_of_one hq))
 go_ret
 exact⟨rfl,HB.o.trans (ha.mono Kb)⟩
