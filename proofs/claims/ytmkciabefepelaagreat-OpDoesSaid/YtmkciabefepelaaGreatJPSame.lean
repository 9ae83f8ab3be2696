import Derived.Test.YtmkciabefepelaaGreatJIStand
import Derived.Laws.EntriesVeiled
set_option maxRecDepth 4000
set_option maxHeartbeats 8000000
namespace Go.Proofs.YtmkciabefepelaaGreat
open Go.RowKit
variable {P:Prop}{v:Value}{w w':World}{l m:List Int}{B d k nk:Nat}{A:Option Addr}
def zJr (x y:Pr):Bool:=x.1.toList==y.1.toList&&x.2.toList==y.2.toList
theorem toList_inj {a b:ByteArray}(h:a.toList=b.toList):a=b:=by
 rw[ByteArray.toList_eq,ByteArray.toList_eq]at h;exact ByteArray.ext (Array.toList_inj.1 h)
theorem zIa (x y:Pr):zJr x y=true ↔ x=y:=by
 unfold zJr;constructor
 ·intro h;simp only[Bool.and_eq_true,beq_iff_eq]at h;exact Prod.ext (toList_inj h.1) (toList_inj h.2)
 ·rintro rfl;simp
theorem kDl :Tryz.prog.underlying 94=some (.struct (Tryz.prog.fieldsOf 94)):=Ka
theorem kHk :Tryz.prog.stoodInHeld 94=false:=Ka
theorem zZw :Tryz.prog.eqGuardType Tryz.prog.depth 94=false:=Ka
theorem kHl (a b c d:ByteArray)(w:World):(Op.equalIn 10000 94 (.agg #[.string a,.string b]) (.agg #[.string c,.string d])).run Tryz.prog w=.ok (a.toList==c.toList&&b.toList==d.toList) w:=by
 have u9:=Tryz.underlying9;have a9:=Tryz.isAgg9;have z9:=Tryz.sizeOf9;rw[show(10000:Nat)=9999+1 from rfl,run_equalIn_agg w 9999 94 _ _ kDl kHk];simp only[Program.fieldsOf,Tryz.underlying94];go_simp;by_cases h1:a.toList=c.toList<;>by_cases h2:b.toList=d.toList<;>simp[h1,h2]
theorem kKm (a b c d:ByteArray)(w:World):(binOp .neq 94 (.agg #[.string a,.string b]) (.agg #[.string c,.string d])).run Tryz.prog w=.ok (.bool (!(a.toList==c.toList&&b.toList==d.toList))) w:=by
 rw[run_neq_struct,kHl];rfl
theorem kYn (a b c d:ByteArray)(w:World):(binOp .eql 94 (.agg #[.string a,.string b]) (.agg #[.string c,.string d])).run Tryz.prog w=.ok (.bool (a.toList==c.toList&&b.toList==d.toList)) w:=by
 rw[run_eql_struct,kHl];rfl
theorem zZx (l m:List Pr)(h:l.length=m.length)(h0:∀j,j<l.length->zJr (jU l j) (jU m j)=true):decide (l=m)=true:=by
 rw[decide_eq_true_iff];apply List.ext_getElem h;intro i h1 h2;have:=(zIa _ _).1 (h0 i h1);rwa[zB7 l i h1,zB7 m i h2]at this
theorem zUv (l m:List Pr)(n:Nat)(_h1:n<l.length)(h2:n<m.length)(h:zJr (jU l n) (jU m n)=false):decide (l=m)=false:=by
 rw[decide_eq_false_iff_not];rintro rfl;rw[(zIa _ _).2 rfl]at h;cases h
theorem kQ4 (h:P:=by
 go_wp2
 go_loopw [13] (fun i wr=>∃n:Nat,n<=l.length/\i=.int .i64 n/\Below w.heap.size w wr/\Kq (∀j,j<n->zJr (jU l j) (jU m j)=true)) (fun i _=>l.length-(intOf i).toNat)
 case atStart=>exact⟨0,Nat.zero_le _,rfl,Below.refl _ _,fun j hj=>absurd hj (Nat.not_lt_zero _)⟩
 case round=>
  obtain⟨n,hn,rfl,hb,HA⟩:=hrel;by_cases hlt:n<l.length
  ·have rN:n<m.length:=by have:=HL.o;omega
   obtain⟨b1,o1,rfl,bo,c1,c2⟩:=(hp.below hb).at_ hlt;obtain⟨b2,o2,rfl,hl2,d1,d2⟩:=(hq.below hb).at_ rN;have hne:=fun W=>kKm (jU l n).1 (jU l n).2 (jU m n).1 (jU m n).2 W;have hgd:=fun(x y:Operand)(op:BinOp)(W:World)=>run_eqGuard_agg (P:=Tryz.prog) W op 94 x y #[.string (jU l n).1,.string (jU l n).2] #[.string (jU m n).1,.string (jU m n).2] zZw;clear hp hq;cases hs:((jU l n).1.toList==(jU m n).1.toList&&(jU l n).2.toList==(jU m n).2.toList)
   ·have HF:=hd (zUv l m n hlt rN hs);clear HA;simp only[hs]at hne;clear hs;go_wp2_with fail
    go_quiet(fail)
    go_wp2
    go_ret
    exact⟨kC HF.o.symm,zZ hb _⟩
   ·have HB:=zBm (p:=fun j=>zJr (jU l j) (jU m j)=true) HA hs;clear HA;simp only[hs]at hne;clear hs;go_wp2_with fail
    go_quiet(fail)
    go_wp2
    go_roundw
    case rel=>exact⟨n+1,by omega,by go_num,zZ hb _,HB⟩
    case measure=>simp[intOf];omega
  ·have HF:=hd (zZx l m HL.o (fun j hj=>HA.o j Kb));clear HA hp hq;go_wp2
   go_ret
   exact⟨kC HF.o.symm,hb⟩):P:=h
theorem zWp (A B:Option Addr)(l m:List Pr)(c d:Nat)(w:World)(hl:l.length<=9223372036854775807)(hm:m.length<=9223372036854775807)(hp:PL w w.heap.size A l)(hq:PL w w.heap.size B m):
  Calls Tryz.prog 156 #[.slice A l.length c,.slice B m.length d] w fun e w'=>e=.returned (.bool (decide (l=m)))/\Below w.heap.size w w':=by
 by_cases hlm:l.length=m.length
 ·have hx:((l.length:Int) !=(m.length:Int))=false:=by simp;omega
  have HL:=hd hlm;clear hlm;go_enter Tryz.func156,Tryz.ntmps156
  exact kQ4
 ·have hx:((l.length:Int) !=(m.length:Int))=true:=by simp;omega
  have HF:=hd (show decide (l=m)=false by rw[decide_eq_false_iff_not];rintro rfl;exact hlm rfl);clear hlm;go_enter Tryz.func156,Tryz.ntmps156
  go_wp2
  go_ret
  exact⟨kC HF.o.symm,Below.refl _ _⟩
theorem zWq (A B:Option Addr)(l m:List Pr)(c d:Nat)(w:World)(hl:l.length<=9223372036854775807)(hm:m.length<=9223372036854775807)(hp:PL w w.heap.size A l)(hq:PL w w.heap.size B m):
  Calls Tryz.prog 50 #[.slice A l.length c,.slice B m.length d] w fun e w'=>e=.returned (.bool (decide (l=m)))/\Below w.heap.size w w':=by
 by_cases hlm:l.length=m.length
 ·have hx:((l.length:Int) !=(m.length:Int))=false:=by simp;omega
  have HL:=hd hlm;clear hlm;go_enter Tryz.func50,Tryz.ntmps50
  exact kQ4
 ·have hx:((l.length:Int) !=(m.length:Int))=true:=by simp;omega
  have HF:=hd (show decide (l=m)=false by rw[decide_eq_false_iff_not];rintro rfl;exact hlm rfl);clear hlm;go_enter Tryz.func50,Tryz.ntmps50
  go_wp2
  go_ret
  exact⟨kC HF.o.symm,Below.refl _ _⟩
theorem zRf (A B:Option Addr)(l m:List Pr)(c d:Nat)(w:World)(hl:l.length<=9223372036854775807)(hm:m.length<=9223372036854775807)(hp:PL w w.heap.size A l)(hq:PL w w.heap.size B m):
  Calls Tryz.prog 119 #[.slice A l.length c,.slice B m.length d] w fun e w'=>e=.returned (.bool (decide (l=m)))/\Below w.heap.size w w':=by
 have hC:=hd (zWp A B l m c d w hl hm hp hq);clear hp hq;go_enter Tryz.func119,Tryz.ntmps119
 go_wp2_with(go_at_call 156;refine hC.o.mono ?_;rintro e w' ⟨rfl,hb⟩)
 go_ret
 exact⟨rfl,hb⟩
theorem kMg {c:Int}(h:0<=c/\c<=55295∨57344<=c/\c<=1114111):isR c=true:=(kGu c).2 h
theorem kMh {c:Int}(h:¬(0<=c/\c<=55295∨57344<=c/\c<=1114111)):isR c=false:=decide_eq_false h
def kLt (v:Value)(w:World)(e:Ending)(w':World):Prop:=e=.returned v/\w=w'
theorem zFp {v':Value}(h:v'=v):kLt v w (.returned v') w:=⟨by rw[h],rfl⟩
theorem zWr (c:Int)(w:World):Calls Tryz.prog 151 #[.int .i32 c] w (kLt (.bool (isR c)) w):=by
 rcases(show c<0∨(0<=c/\c<=55295)∨(55295<c/\c<57344)∨(57344<=c/\c<=1114111)∨1114111<c by omega)with h|⟨h,h2⟩|⟨h,h2⟩|⟨h,h2⟩|h;all_goals
  first
  |have HF:=hd (kMg (c:=c) Kb)
  |have HF:=hd (kMh (c:=c) Kb)
  first|have g1:0<=c:=by omega|have g1:c<0:=Kb
  first|have g2:c<=55295:=by omega|have g2:55295<c:=Kb
  first|have g3:57344<=c:=by omega|have g3:c<57344:=Kb
  first|have g4:c<=1114111:=by omega|have g4:1114111<c:=Kb
  go_enter Tryz.func151,Tryz.ntmps151
  go_wp2
  go_ret
  exact zFp (zA3 (by rw[HF.o]<;>(simp;omega)))
theorem kXm (c:Int)(w:World):Calls Tryz.prog 167 #[.int .i32 c] w (kLt (.bool (isR c)) w):=by
 rcases(show c<0∨(0<=c/\c<=55295)∨(55295<c/\c<57344)∨(57344<=c/\c<=1114111)∨1114111<c by omega)with h|⟨h,h2⟩|⟨h,h2⟩|⟨h,h2⟩|h;all_goals
  first
  |have HF:=hd (kMg (c:=c) Kb)
  |have HF:=hd (kMh (c:=c) Kb)
  first|have g1:0<=c:=by omega|have g1:c<0:=Kb
  first|have g2:c<=55295:=by omega|have g2:55295<c:=Kb
  first|have g3:57344<=c:=by omega|have g3:c<57344:=Kb
  first|have g4:c<=1114111:=by omega|have g4:1114111<c:=Kb
  go_enter Tryz.func167,Tryz.ntmps167
  go_wp2
  go_ret
  exact zFp (zA3 (by rw[HF.o]<;>(simp;omega)))
theorem zMo (A:Option Addr)(l:List Int)(n c:Nat)(w:World)(hn:l.length=n)(hl:n<=9223372036854775807)(hp:VL w w.heap.size A (rv l)):
  Calls Tryz.prog 110 #[.slice A n c] w (kLt (.int .i64 (zNh l)) w):=by
 have HP:=hd hp;have HN:=hd hn;clear hp hn;go_enter Tryz.func110,Tryz.ntmps110
 go_wp2
 go_loop [7] (fun i=>∃k:Nat,k<=n/\i=.int .i64 k/\Kq (∀j,j<k->isR (atL l j)=true)) (fun i=>n-(intOf i).toNat)
 case atStart=>exact⟨0,Nat.zero_le _,rfl,fun j hj=>absurd hj (Nat.not_lt_zero _)⟩
 case round=>
  obtain⟨k,hk,rfl,HA⟩:=hrel;by_cases hlt:k<n
  ·obtain⟨b,o,rfl,hbl,hc⟩:=HP.o.rune (k:=k) (by have:=HN.o;omega);have HC:=hd (zWr (atL l k) w);cases hr:isR (atL l k)
   ·have HF:=hd (show zNh l=4 by unfold zNh;rw[kJs (by have:=HN.o;omega) hr];rfl);rw[hr]at HC;clear hr HA;go_wp2_with(go_at_call 151;refine HC.o.mono ?_;rintro e w' ⟨rfl,rfl⟩)
    go_ret
    exact zFp (zF2 (by rw[HF.o]))
   ·have HB:=zBm (p:=fun j=>isR (atL l j)=true) HA hr;rw[hr]at HC;clear hr HA;go_wp2_with(go_at_call 151;refine HC.o.mono ?_;rintro e w' ⟨rfl,rfl⟩)
    go_round
    case rel=>exact⟨k+1,by omega,by go_num,HB⟩
    case measure=>simp[intOf];omega
  ·have HF:=hd (show zNh l=0 by unfold zNh;rw[(zYm l).2 (fun j hj=>HA.o j (by have:=HN.o;omega))];rfl);clear HA;go_wp2
   go_ret
   exact zFp (zF2 (by rw[HF.o]))
theorem kOm (A:Option Addr)(l:List Int)(n c:Nat)(w:World)(hn:l.length=n)(hl:n<=9223372036854775807)(hp:VL w w.heap.size A (rv l)):
  Calls Tryz.prog 140 #[.slice A n c] w (kLt (.int .i64 (zNh l)) w):=by
 have HP:=hd hp;have HN:=hd hn;clear hp hn;go_enter Tryz.func140,Tryz.ntmps140
 go_wp2
 go_loop [7] (fun i=>∃k:Nat,k<=n/\i=.int .i64 k/\Kq (∀j,j<k->isR (atL l j)=true)) (fun i=>n-(intOf i).toNat)
 case atStart=>exact⟨0,Nat.zero_le _,rfl,fun j hj=>absurd hj (Nat.not_lt_zero _)⟩
 case round=>
  obtain⟨k,hk,rfl,HA⟩:=hrel;by_cases hlt:k<n
  ·obtain⟨b,o,rfl,hbl,hc⟩:=HP.o.rune (k:=k) (by have:=HN.o;omega);have HC:=hd (kXm (atL l k) w);cases hr:isR (atL l k)
   ·have HF:=hd (show zNh l=4 by unfold zNh;rw[kJs (by have:=HN.o;omega) hr];rfl);rw[hr]at HC;clear hr HA;go_wp2_with(go_at_call 167;refine HC.o.mono ?_;rintro e w' ⟨rfl,rfl⟩)
    go_ret
    exact zFp (zF2 (by rw[HF.o]))
   ·have HB:=zBm (p:=fun j=>isR (atL l j)=true) HA hr;rw[hr]at HC;clear hr HA;go_wp2_with(go_at_call 167;refine HC.o.mono ?_;rintro e w' ⟨rfl,rfl⟩)
    go_round
    case rel=>exact⟨k+1,by omega,by go_num,HB⟩
    case measure=>simp[intOf];omega
  ·have HF:=hd (show zNh l=0 by unfold zNh;rw[(zYm l).2 (fun j hj=>HA.o j (by have:=HN.o;omega))];rfl);clear HA;go_wp2
   go_ret
   exact zFp (zF2 (by rw[HF.o]))
theorem zK0 (h:l.length≠m.length):sameL l m=false:=by
 unfold sameL;exact decide_eq_false fun e=>h (by rw[e])
theorem zMp (h:atL l k≠atL m k):sameL l m=false:=by
 unfold sameL;exact decide_eq_false fun e=>h (by rw[e])
theorem zRg (hl:l.length=m.length)(h:∀k,k<l.length->atL l k=atL m k):sameL l m=true:=by
 unfold sameL;refine decide_eq_true (List.ext_getElem hl fun i h1 h2=>?_);have:=h i h1;rwa[zNy l i h1,zNy m i h2]at this
theorem zWs (l:List Int):sameL l l=true:=decide_eq_true rfl
theorem kQ5 (h:P:=by
 go_wp2
 go_loopw [13] (fun i wr=>∃n:Nat,n<=a/\i=.int .i64 n/\(∃k,wr=w.drewN k)/\Kq (∀j,j<n->atL l j=atL m j)) (fun i _=>a-(intOf i).toNat)
 case atStart=>exact⟨0,Nat.zero_le _,rfl,⟨0,rfl⟩,fun j hj=>absurd hj (Nat.not_lt_zero _)⟩
 case round=>
  obtain⟨n,jf,rfl,⟨kd,rfl⟩,HA⟩:=hrel;by_cases hlt:n<a
  ·obtain⟨b1,o1,rfl,bo,c1⟩:=HP.o.rune (k:=n) (by have:=HL.o;omega);obtain⟨b2,o2,rfl,hl2,c2⟩:=HQ.o.rune (k:=n) (by have:=HM.o;omega);by_cases hs:atL l n=atL m n
   ·have HB:=zBm (p:=fun j=>atL l j=atL m j) HA hs;have hx:(atL l n !=atL m n)=false:=by simp[hs]
    clear HA hs;go_wp2_with fail
    go_quiet(fail)
    go_wp2
    go_roundw
    case rel=>exact⟨n+1,by omega,by go_num,Ki,HB⟩
    case measure=>simp[intOf];omega
   ·have HF:=hd (show r=false by rw[<-HR.o];exact zMp hs);have hx:(atL l n !=atL m n)=true:=by simp[hs]
    clear HA hs;go_wp2_with fail
    go_quiet(fail)
    go_wp2
    go_ret
    exact kW (zA3 (by rw[HF.o])) Ki
  ·have HF:=hd (show r=true by rw[<-HR.o];exact zRg (by rw[HL.o,HM.o]) (fun j hj=>HA.o j (by have:=HL.o;omega)));clear HA;go_wp2
   go_ret
   exact kW (zA3 (by rw[HF.o])) ⟨kd,rfl⟩):P:=h
theorem zZy (A B:Option Addr)(l m:List Int)(a b c d:Nat)(r:Bool)(hr:sameL l m=r)(w:World)(ha:l.length=a)(hb:m.length=b)(hl:a<=9223372036854775807)(hm:b<=9223372036854775807)(hp:VL w w.heap.size A (rv l))(hq:VL w w.heap.size B (rv m)):
  Calls Tryz.prog 51 #[.slice A a c,.slice B b d] w (zHa (.bool r) w):=by
 have HP:=hd hp;have HQ:=hd hq;have HL:=hd ha;have HM:=hd hb;have HR:=hd hr;clear hp hq ha hb hr;by_cases hab:a=b
 ·subst hab;go_enter Tryz.func51,Tryz.ntmps51
  exact kQ5
 ·have HF:=hd (show r=false by rw[<-HR.o];exact zK0 (by rw[HL.o,HM.o];exact hab));have hx:((a:Int) !=(b:Int))=true:=by simp;omega
  have hy:((a:Int)==(b:Int))=false:=by simp;omega
  clear hab;go_enter Tryz.func51,Tryz.ntmps51
  go_wp2
  go_ret
  exact kW (zA3 (by rw[HF.o])) ⟨0,rfl⟩
theorem zZz (A B:Option Addr)(l m:List Int)(a b c d:Nat)(r:Bool)(hr:sameL l m=r)(w:World)(ha:l.length=a)(hb:m.length=b)(hl:a<=9223372036854775807)(hm:b<=9223372036854775807)(hp:VL w w.heap.size A (rv l))(hq:VL w w.heap.size B (rv m)):
  Calls Tryz.prog 157 #[.slice A a c,.slice B b d] w (zHa (.bool r) w):=by
 have HP:=hd hp;have HQ:=hd hq;have HL:=hd ha;have HM:=hd hb;have HR:=hd hr;clear hp hq ha hb hr;by_cases hab:a=b
 ·subst hab;go_enter Tryz.func157,Tryz.ntmps157
  exact kQ5
 ·have HF:=hd (show r=false by rw[<-HR.o];exact zK0 (by rw[HL.o,HM.o];exact hab));have hx:((a:Int) !=(b:Int))=true:=by simp;omega
  have hy:((a:Int)==(b:Int))=false:=by simp;omega
  clear hab;go_enter Tryz.func157,Tryz.ntmps157
  go_wp2
  go_ret
  exact kW (zA3 (by rw[HF.o])) ⟨0,rfl⟩
theorem zUw (A B:Option Addr)(l m:List Int)(a b c d:Nat)(r:Bool)(hr:sameL l m=r)(w:World)(ha:l.length=a)(hb:m.length=b)(hl:a<=9223372036854775807)(hm:b<=9223372036854775807)(hp:VL w w.heap.size A (rv l))(hq:VL w w.heap.size B (rv m)):
  Calls Tryz.prog 120 #[.slice A a c,.slice B b d] w (zHa (.bool r) w):=by
 have HC:=hd (zZz A B l m a b c d r hr w ha hb hl hm hp hq);clear hr ha hb hp hq;go_enter Tryz.func120,Tryz.ntmps120
 go_wp2_with fail
 refine HC.o.mono ?_;rintro e w' ⟨rfl,kd,rfl⟩;go_wp2
 go_ret
 exact kW rfl Ki
theorem kPb (h:P:=by
 go_enter Tryz.func164,Tryz.ntmps164
 go_wp2_with fail
 refine HC.o.mono ?_;rintro e w' ⟨rfl,rfl⟩;go_wp2_with fail
 refine HD.o.mono ?_;rintro e w' ⟨rfl,rfl⟩;go_wp2
 go_ret
 exact zFp (zF2 (by rw[HF.o]))):P:=h
theorem zMq (A B:Option Addr)(l m:List Int)(a b c d:Nat)(p r:Int)(hr:atE l p m=r)(w:World)(ha:l.length=a)(hb:m.length=b)(hl:a<=9223372036854775807)(hm:b<=9223372036854775807)(hp:VL w w.heap.size A (rv l))(hq:VL w w.heap.size B (rv m)):
  Calls Tryz.prog 164 #[.slice A a c,.int .i64 p,.slice B b d] w (kLt (.int .i64 r) w):=by
 have HC:=hd (zMo A l a c w ha hl hp);have HD:=hd (zMo B m b d w hb hm hq);have HR:=hd hr;have HL:=hd ha;unfold zNh at HC HD;clear hr hp hq ha hb;cases h1:okR l
 ·have HF:=hd (show r=4 by rw[<-HR.o];unfold atE;rw[h1];rfl);rw[h1]at HC;clear h1;go_enter Tryz.func164,Tryz.ntmps164
  go_wp2_with fail
  refine HC.o.mono ?_;rintro e w' ⟨rfl,rfl⟩;go_wp2
  go_ret
  exact zFp (zF2 (by rw[HF.o]))
 ·cases h2:okR m
  ·have HF:=hd (show r=4 by rw[<-HR.o];unfold atE;rw[h1,h2];rfl);rw[h1]at HC;rw[h2]at HD;clear h1 h2;exact kPb
  ·have uM:=hd (show(okR l&&okR m)=true by rw[h1,h2];rfl);rw[h1]at HC;rw[h2]at HD;clear h1 h2;rcases(show p<0∨(0<=p/\p<=a)∨(a:Int)<p by omega)with h3|⟨h3,h4⟩|h3
   ·have HF:=hd (show r=8 by rw[<-HR.o];unfold atE;rw[if_pos uM.o,if_neg (by have:=HL.o;omega)]);exact kPb
   ·have HF:=hd (show r=0 by rw[<-HR.o];unfold atE;rw[if_pos uM.o,if_pos (by have:=HL.o;omega)]);exact kPb
   ·have HF:=hd (show r=8 by rw[<-HR.o];unfold atE;rw[if_pos uM.o,if_neg (by have:=HL.o;omega)]);exact kPb
inductive NT where
 |mk (lf:Bool) (ps:List Pr) (tx:List Int) (ks:List NT)
def NT.lf :NT->Bool
 |.mk a _ _ _=>a
def NT.ps :NT->List Pr
 |.mk _ a _ _=>a
def NT.tx :NT->List Int
 |.mk _ _ a _=>a
def NT.ks :NT->List NT
 |.mk _ _ _ a=>a
theorem NT.eta (n:NT):NT.mk n.lf n.ps n.tx n.ks=n:=by cases n;rfl
mutual
def sizeT :NT->Nat
 |.mk _ _ tx ks=>1+tx.length+sizeK ks
def sizeK :List NT->Nat
 |[]=>0
 |k::r=>sizeT k+sizeK r
end
mutual
def zAy :NT->List Int
 |.mk _ _ tx ks=>tx++textK ks
def textK :List NT->List Int
 |[]=>[]
 |k::r=>zAy k++textK r
end
def zPb (lf:Bool)(ps:List Pr)(tx:List Int)(nk:Nat):Int:=
 if chk ps≠0 then chk ps else if(lf&&decide (0<nk)|| !lf&&decide (0<tx.length))=true then 7 else zNh tx
mutual
def zAh :NT->Int
 |.mk lf ps tx ks=>if zPb lf ps tx ks.length≠0 then zPb lf ps tx ks.length else chkK ks
def chkK :List NT->Int
 |[]=>0
 |k::r=>if zAh k≠0 then zAh k else chkK r
end
def zAd (n:NT):Int:=if 1048576<wrap64 (sizeT n)then 2 else zAh n
def tyKey :ByteArray:={data:=#[116,121,112,101]}
noncomputable def eqT (a b:NT):Bool:=@decide (a=b) (Classical.propDecidable _)
theorem zD8 (a:NT):eqT a a=true:=by unfold eqT;exact@decide_eq_true _ (Classical.propDecidable _) rfl
theorem zPc {a b:NT}(h:a=b):eqT a b=true:=by subst h;exact zD8 a
theorem zUx {a b:NT}(h:a≠b):eqT a b=false:=by unfold eqT;exact@decide_eq_false _ (Classical.propDecidable _) h
theorem kZ (a b:List NT):sizeK (a++b)=sizeK a+sizeK b:=by
 induction a with
 |nil=>simp[sizeK]
 |cons x r ih=>simp only[List.cons_append,sizeK,ih];omega
theorem jQ (a b:List NT):textK (a++b)=textK a++textK b:=by
 induction a with
 |nil=>simp[textK]
 |cons x r ih=>simp only[List.cons_append,textK,ih,List.append_assoc]
theorem zPd {α:Type}{l:List α}{x:α}(h:l[k]? =some x):l.take (k+1)=l.take k++[x]:=by
 rw[List.take_add_one,h];rfl
theorem zCo {α:Type}{l:List α}{x:α}(h:l[k]? =some x):l.drop k=x::l.drop (k+1):=by
 obtain⟨h1,h2⟩:=List.getElem?_eq_some_iff.1 h;rw[List.drop_eq_getElem_cons h1,h2]
theorem kSv {ks:List NT}{n:NT}(h:ks[k]? =some n):sizeK (ks.take (k+1))=sizeK (ks.take k)+sizeT n:=by
 rw[zPd h,kZ];simp[sizeK]
mutual
theorem zUy :∀n:NT,(zAy n).length<=sizeT n
 |.mk _ _ tx ks=>by have:=zUz ks;simp only[zAy,sizeT,List.length_append];omega
theorem zUz :∀l:List NT,(textK l).length<=sizeK l
 |[]=>by simp[textK]
 |k::r=>by have h1:=zUy k;have h2:=zUz r;simp only[textK,sizeK,List.length_append];omega
end
theorem zJs (n:NT):1<=sizeT n:=by cases n;simp only[sizeT];omega
theorem kTp {ks:List NT}{n:NT}(h:ks[k]? =some n)(h0:zAh n=0):chkK (ks.drop k)=chkK (ks.drop (k+1)):=by
 rw[zCo h,chkK,if_neg (by simp[h0])]
theorem kTq {ks:List NT}{n:NT}(h:ks[k]? =some n)(h0:zAh n≠0):chkK (ks.drop k)=zAh n:=by
 rw[zCo h,chkK,if_pos h0]
theorem kUz {ks:List NT}(h:ks.length<=k):chkK (ks.drop k)=0:=by
 rw[List.drop_eq_nil_of_le h];rfl
section
variable {σ:Type}(step:σ->NT->Bool×σ)
mutual
def zEg :σ->NT->Bool×σ
 |s,.mk lf ps tx ks=>if(step s (.mk lf ps tx ks)).1=true then walkK (step s (.mk lf ps tx ks)).2 ks else(false,(step s (.mk lf ps tx ks)).2)
def walkK :σ->List NT->Bool×σ
 |s,[]=>(true,s)
 |s,k::r=>if(zEg s k).1=true then walkK (zEg s k).2 r else(false,(zEg s k).2)
end
variable {step}
theorem zWt {s:σ}{ks:List NT}{n:NT}(h:ks[k]? =some n)(h0:(zEg step s n).1=true):walkK step s (ks.drop k)=walkK step (zEg step s n).2 (ks.drop (k+1)):=by
 rw[zCo h,walkK,if_pos h0]
theorem zWu {s:σ}{ks:List NT}{n:NT}(h:ks[k]? =some n)(h0:(zEg step s n).1=false):walkK step s (ks.drop k)=(false,(zEg step s n).2):=by
 rw[zCo h,walkK,if_neg (by simp[h0])]
theorem zZ0 {s:σ}{ks:List NT}(h:ks.length<=k):walkK step s (ks.drop k)=(true,s):=by
 rw[List.drop_eq_nil_of_le h];rfl
end
def zZ1 (z:Int)(n:NT):Bool×Int:=(true,wrap64 (z+(1+n.tx.length)))
def zWv (_:Int)(n:NT):Bool×Int:=(zPb n.lf n.ps n.tx n.ks.length==0,zPb n.lf n.ps n.tx n.ks.length)
theorem kDm (a b:Int):wrap64 (wrap64 a+b)=wrap64 (a+b):=by unfold wrap64;omega
theorem kTr (a b:Int):wrap64 (a+wrap64 b)=wrap64 (a+b):=by unfold wrap64;omega
theorem zGy (a:Int)(h: -9223372036854775808<=a)(h':a<=9223372036854775807):wrap64 a=a:=by unfold wrap64;omega
mutual
theorem zRh :∀(n:NT)(z:Int),zEg zZ1 (wrap64 z) n=(true,wrap64 (z+sizeT n))
 |.mk lf ps tx ks,z=>by
  rw[zEg];simp only[zZ1,NT.tx,if_true];rw[kDm,zOa ks];simp only[sizeT];congr 2
  omega
theorem zOa :∀(l:List NT)(z:Int),walkK zZ1 (wrap64 z) l=(true,wrap64 (z+sizeK l))
 |[],z=>by simp[walkK,sizeK]
 |k::r,z=>by
  rw[walkK,zRh k z];simp only[if_true];rw[zOa r];simp only[sizeK];congr 2
  omega
end
mutual
theorem zOb :∀(n:NT)(e:Int),zEg zWv e n=(zAh n==0,zAh n)
 |.mk lf ps tx ks,e=>by
  rw[zEg,zAh];simp only[zWv,NT.lf,NT.ps,NT.tx,NT.ks];rcases Classical.em (zPb lf ps tx ks.length=0)with h|h
  ·simp only[h,beq_self_eq_true,if_true,ne_eq,not_true,if_false];exact zMr ks
  ·have h2:(zPb lf ps tx ks.length==0)=false:=by simp[h]
   simp only[h2,ne_eq,h,not_false_iff,if_true,if_false,Bool.false_eq_true]
theorem zMr :∀(ks:List NT),walkK zWv 0 ks=(chkK ks==0,chkK ks)
 |[]=>by simp[walkK,chkK]
 |k::r=>by
  rw[walkK,zOb k 0,chkK];rcases Classical.em (zAh k=0)with h|h
  ·simp only[h,beq_self_eq_true,if_true,ne_eq,not_true,if_false];exact zMr r
  ·have h2:(zAh k==0)=false:=by simp[h]
   simp only[h2,ne_eq,h,not_false_iff,if_true,if_false,Bool.false_eq_true]
end
def zU0 (ps:List Pr)(nt nk pc tc kc:Nat):Prop:=zIo ps/\ps.length<=4398046511104/\nt<=35184372088832/\nk<=1759218604441/\ps.length<=pc/\nt<=tc/\nk<=kc
mutual
def zRi :NT->Prop
 |.mk _ _ _ ks=>ks.length<=1759218604390/\zU1 ks
def zU1 :List NT->Prop
 |[]=>True
 |k::r=>zRi k/\zU1 r
end
theorem zRj :∀{l:List NT},(∀(k:Nat)(m:NT),l[k]? =some m->zRi m)->zU1 l
 |[],_=>trivial
 |x::_,h=>⟨h 0 x rfl,zRj fun k m hm=>h (k+1) m hm⟩
def zK1 (w:World)(b q:Nat)(u:Value):Prop:=
 ∃c0 c1 c2 c3,u=.agg #[c0,c1,c2,c3]/\w.cell? ⟨b,q,none⟩=some c0/\w.cell? ⟨b,q+1,none⟩=some c1/\w.cell? ⟨b,q+2,none⟩=some c2/\w.cell? ⟨b,q+3,none⟩=some c3
def zV :Nat->World->Nat->Value->NT->Prop
 |0,_,_,_,_=>False
 |d+1,w,B,v,n=>∃PA pc TA tc KA kc,v=.agg #[.bool n.lf,.slice PA n.ps.length pc,.slice TA n.tx.length tc,.slice KA n.ks.length kc]/\PL w B PA n.ps/\VL w B TA (rv n.tx)/\zU0 n.ps n.tx.length n.ks.length pc tc kc/\
   ∀k m,n.ks[k]? =some m->∃b o u,KA=some ⟨b,o,none⟩/\b<B/\zV d w B u m/\zK1 w b (o+k*4) u
def zKn (d:Nat)(w:World)(B:Nat)(A:Option Addr)(ks:List NT):Prop:=
 ∀k m,ks[k]? =some m->∃b o u,A=some ⟨b,o,none⟩/\b<B/\zV d w B u m/\zK1 w b (o+k*4) u
theorem zK1.keep {b q:Nat}{u:Value}(h:zK1 w b q u)(hk:∀p:Addr,p.block=b->w'.cell? p=w.cell? p):zK1 w' b q u:=by
 obtain⟨c0,c1,c2,c3,e,h0,h1,h2,h3⟩:=h;exact⟨c0,c1,c2,c3,e,(hk _ rfl).trans h0,(hk _ rfl).trans h1,(hk _ rfl).trans h2,(hk _ rfl).trans h3⟩
theorem zV.keep (hk:∀p:Addr,p.block<B->w'.cell? p=w.cell? p):∀{d:Nat}{v:Value}{n:NT},zV d w B v n->zV d w' B v n
 |0,_,_,h=>h
 |d+1,_,_,⟨PA,pc,TA,tc,KA,kc,e,hp,ht,hf,hks⟩=>⟨PA,pc,TA,tc,KA,kc,e,hp.keep hk,ht.keep hk,hf,fun k m hm=>by
   obtain⟨b,o,u,e1,hb,hn,hc⟩:=hks k m hm;exact⟨b,o,u,e1,hb,hn.keep hk,hc.keep fun p hp=>hk p Kb⟩⟩
theorem zV.more {B':Nat}(hB:B<=B'):∀{d:Nat}{v:Value}{n:NT},zV d w B v n->zV d w B' v n
 |0,_,_,h=>h
 |d+1,_,_,⟨PA,pc,TA,tc,KA,kc,e,hp,ht,hf,hks⟩=>⟨PA,pc,TA,tc,KA,kc,e,hp.more hB,ht.more hB,hf,fun k m hm=>by
   obtain⟨b,o,u,e1,hb,hn,hc⟩:=hks k m hm;exact⟨b,o,u,e1,by omega,hn.more hB,hc⟩⟩
theorem zV.below {n:NT}(h:zV d w B v n)(hb:Below B w w'):zV d w' B v n:=h.keep fun _ hp=>hb.cell hp
theorem zV.later {n:NT}(h:zV d w w.heap.size v n)(hb:Below w.heap.size w w'):zV d w' w'.heap.size v n:=(h.below hb).more hb.size
theorem zKn.keep {ks:List NT}(h:zKn d w B A ks)(hk:∀p:Addr,p.block<B->w'.cell? p=w.cell? p):zKn d w' B A ks:=fun k m hm=>by
 obtain⟨b,o,u,e1,hb,hn,hc⟩:=h k m hm;exact⟨b,o,u,e1,hb,hn.keep hk,hc.keep fun p hp=>hk p Kb⟩
theorem zKn.below {ks:List NT}(h:zKn d w B A ks)(hb:Below B w w'):zKn d w' B A ks:=h.keep fun _ hp=>hb.cell hp
theorem zV.open_ {n:NT}(h:zV d w B v n):∃d' lf ps tx ks PA pc TA tc KA kc,d=d'+1/\n=.mk lf ps tx ks/\
  v=.agg #[.bool lf,.slice PA ps.length pc,.slice TA tx.length tc,.slice KA ks.length kc]/\PL w B PA ps/\VL w B TA (rv tx)/\zU0 ps tx.length ks.length pc tc kc/\zKn d' w B KA ks:=by
 cases d with
 |zero=>exact h.elim
 |succ d=>
  cases n with
  |mk lf ps tx ks=>
   obtain⟨PA,pc,TA,tc,KA,kc,e,hp,ht,hf,hks⟩:=h;exact⟨d,lf,ps,tx,ks,PA,pc,TA,tc,KA,kc,rfl,rfl,e,hp,ht,hf,hks⟩
theorem zV.shut {lf:Bool}{ps:List Pr}{tx:List Int}{ks:List NT}{PA TA KA:Option Addr}{pc tc kc np nt:Nat}(Bj:np=ps.length)(hnt:nt=tx.length)(fG:nk=ks.length)(hp:PL w B PA ps)(ht:VL w B TA (rv tx))(hf:zU0 ps tx.length ks.length pc tc kc)(hks:zKn d w B KA ks):
  zV (d+1) w B (.agg #[.bool lf,.slice PA np pc,.slice TA nt tc,.slice KA nk kc]) (.mk lf ps tx ks):=by
 subst Bj hnt fG;exact⟨PA,pc,TA,tc,KA,kc,rfl,hp,ht,hf,hks⟩
theorem zKn.at_ {ks:List NT}(h:zKn d w B A ks)(hk:k<ks.length):∃m b o lf PA np pc TA nt tc KA nk kc,ks[k]? =some m/\A=some ⟨b,o,none⟩/\b<B/\
  zV d w B (.agg #[.bool lf,.slice PA np pc,.slice TA nt tc,.slice KA nk kc]) m/\
  w.cell? ⟨b,o+k*4,none⟩=some (.bool lf)/\w.cell? ⟨b,o+k*4+1,none⟩=some (.slice PA np pc)/\w.cell? ⟨b,o+k*4+2,none⟩=some (.slice TA nt tc)/\w.cell? ⟨b,o+k*4+3,none⟩=some (.slice KA nk kc):=by
 obtain⟨m,hm⟩:∃m,ks[k]? =some m:=⟨_,List.getElem?_eq_getElem hk⟩;obtain⟨b,o,u,e,hb,hn,c0,c1,c2,c3,eu,h0,h1,h2,h3⟩:=h k m hm;have hn':=hn;obtain⟨d',lf,ps,tx,ks',PA,pc,TA,tc,KA,kc,_,rfl,ev,_⟩:=hn.open_;rw[eu]at ev;simp only[Value.agg.injEq,Array.mk.injEq,List.cons.injEq,and_true]at ev;obtain⟨rfl,rfl,rfl,rfl⟩:=ev;subst eu;exact⟨_,b,o,lf,PA,_,pc,TA,_,tc,KA,_,kc,hm,e,hb,hn',h0,h1,h2,h3⟩
theorem kHm {a b c d:Value}{t:TypeId}(hb:Below (w.alloc (.cells #[a,b,c,d] t)).heap.size (w.alloc (.cells #[a,b,c,d] t)) w'):
  w'.cell? ⟨w.heap.size,0,none⟩=some a/\w'.cell? ⟨w.heap.size,1,none⟩=some b/\w'.cell? ⟨w.heap.size,2,none⟩=some c/\w'.cell? ⟨w.heap.size,3,none⟩=some d:=by
 refine⟨?_,?_,?_,?_⟩<;>(rw[hb.cell Kc,World.cell?_alloc_at _ _ _ _ rfl];rfl)
theorem zZ2 {lf:Bool}{ps:List Pr}{tx:List Int}(h:chk ps≠0):zPb lf ps tx nk=chk ps:=by unfold zPb;rw[if_pos h]
theorem zRk {lf:Bool}{ps:List Pr}{tx:List Int}(h:chk ps=0)(h1:lf=true/\0<nk∨lf=false/\0<tx.length):zPb lf ps tx nk=7:=by
 unfold zPb;rw[if_neg (by simp[h]),if_pos];rcases h1 with⟨rfl,h1⟩|⟨rfl,h1⟩<;>simp[h1]
theorem zRl {lf:Bool}{ps:List Pr}{tx:List Int}(h:chk ps=0)(h1:lf=true/\nk=0∨lf=false/\tx.length=0):zPb lf ps tx nk=zNh tx:=by
 unfold zPb;rw[if_neg (by simp[h]),if_neg];rcases h1 with⟨rfl,h1⟩|⟨rfl,h1⟩<;>simp[h1]
theorem kOz (h:P:=by
 go_wp2_with(first
  |(go_at_call 109;refine HC.o.mono ?_;rintro e w' ⟨rfl,hb⟩;obtain⟨x0,x1,x2,x3⟩:=kHm hb)
  |(go_at_call 110;refine(HD _ (hb1.trans (hb.mono hb1.size))).o.mono ?_;rintro e w'' ⟨rfl,rfl⟩)
  |fail)
 go_ret
 exact⟨zAj HF.o.symm,hb1.trans (hb.mono hb1.size)⟩):P:=h
theorem kHn (lf:Bool)(ps:List Pr)(tx:List Int)(PA TA KA:Option Addr)(pc tc nk kc:Nat)(w:World)(hf:zU0 ps tx.length nk pc tc kc)(hp:PL w w.heap.size PA ps)(ht:VL w w.heap.size TA (rv tx)):
  Calls Tryz.prog 55 #[.agg #[.bool lf,.slice PA ps.length pc,.slice TA tx.length tc,.slice KA nk kc]] w (jA (.int .i64 (zPb lf ps tx nk)) w):=by
 have hb1:Below w.heap.size w (w.alloc (.cells #[.bool lf,.slice PA ps.length pc,.slice TA tx.length tc,.slice KA nk kc] 26)):=Kk.alloc Kl _;have HC:=hd (zKb PA ps pc _ hf.1 ((hp.below hb1).more hb1.size));have HD:=fun(w':World)(hb:Below w.heap.size w w')=>hd (zMo TA tx tx.length tc w' rfl (by have:=hf.2.2.1;omega) ((ht.below hb).more hb.size));obtain⟨_,_,f2,f3⟩:=hf;clear hp ht;obtain⟨E,hE⟩:∃E,E=chk ps:=⟨_,rfl⟩;rw[<-hE]at HC;rcases Classical.em (E=0)with h0|h0
 ·subst h0;have g1:(decide ((0:Int)<(nk:Int))=true/\0<nk)∨(decide ((0:Int)<(nk:Int))=false/\nk=0):=by
   rcases Nat.eq_zero_or_pos nk with h|h
   ·exact .inr ⟨by simp;omega,h⟩
   ·exact .inl ⟨by simp;omega,h⟩
  have g2:(decide ((0:Int)<(tx.length:Int))=true/\0<tx.length)∨(decide ((0:Int)<(tx.length:Int))=false/\tx.length=0):=by
   rcases Nat.eq_zero_or_pos tx.length with h|h
   ·exact .inr ⟨by rw[decide_eq_false_iff_not];omega,h⟩
   ·exact .inl ⟨by rw[decide_eq_true_iff];omega,h⟩
  cases lf
  ·rcases g2 with⟨g2,h2⟩|⟨g2,h2⟩
   ·have HF:=hd (zRk (lf:=false) (nk:=nk) hE.symm (.inr ⟨rfl,h2⟩));clear hE g1;go_enter Tryz.func55,Tryz.ntmps55
    exact kOz
   ·have HF:=hd (zRl (lf:=false) (nk:=nk) hE.symm (.inr ⟨rfl,h2⟩));have z2:¬0<tx.length:=Kb;clear hE g1 h2;go_enter Tryz.func55,Tryz.ntmps55
    exact kOz
  ·rcases g1 with⟨g1,h1⟩|⟨g1,h1⟩
   ·have HF:=hd (zRk (lf:=true) (tx:=tx) hE.symm (.inl ⟨rfl,h1⟩));clear hE g2;go_enter Tryz.func55,Tryz.ntmps55
    exact kOz
   ·have HF:=hd (zRl (lf:=true) (tx:=tx) hE.symm (.inl ⟨rfl,h1⟩));have z1:¬0<nk:=Kb;clear hE g2 h1;go_enter Tryz.func55,Tryz.ntmps55
    exact kOz
 ·have HF:=hd (show zPb lf ps tx nk=E by rw[hE];exact zZ2 (by rw[<-hE];exact h0));have h1:(E !=0)=true:=by simp[h0]
  have h2:(E==0)=false:=by simp[h0]
  clear hE h0;go_enter Tryz.func55,Tryz.ntmps55
  exact kOz
