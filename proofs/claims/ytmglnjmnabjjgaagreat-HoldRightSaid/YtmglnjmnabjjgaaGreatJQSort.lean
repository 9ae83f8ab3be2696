import Derived.Test.YtmglnjmnabjjgaaGreatJUApp
import Derived.Lib.Bytealg
import Derived.Shelf.SlSortCmp.WholeK
import Derived.Sort.OwnSorted
set_option maxRecDepth 100000
set_option maxHeartbeats 8000000
namespace Go.Proofs.YtmglnjmnabjjgaaGreat
open Go.RowKit Go.Sort Go.Shelf
variable {key v:Value}{D:DataW Unit}{l ss:List Pr}{left:Lit->Bool}{w w':World}{e:Ending}
def zRq (x y:Pr):Int:=Lib.compareBytes x.1.data.toList y.1.data.toList
theorem zU6 :∀a b:List UInt8,decide (Lib.compareBytes a b<0)=Op.bytesLess a b
 |[],[]=>rfl
 |[],_::_=>rfl
 |_::_,[]=>rfl
 | a::x,b::y=>by
  rw[Lib.compareBytes,Op.bytesLess,<-zU6 x y];by_cases h1:a<b
  ·simp[h1]
  ·by_cases h2:b<a
   ·have:a≠b:=fun e=>by subst e;exact UInt8.lt_irrefl _ h2
    simp[h1,h2,this]
   ·have:a=b:=UInt8.le_antisymm (UInt8.not_lt.1 h2) (UInt8.not_lt.1 h1);subst this;simp[h1]
theorem zRr :ltOf zRq=ltK:=by
 funext x y
 unfold ltOf zRq ltK;rw[zU6,ByteArray.toList_eq,ByteArray.toList_eq]
theorem kM7 :SWO (ltOf zRq):=by
 rw[zRr];exact⟨zIb,zHp,zOc⟩
theorem zKr (a b:ByteArray)(w:World):
  Calls Tryz.prog 154 #[.string a,.string b] w fun e w'=>e=.returned (.int .i64 (Lib.compareBytes a.data.toList b.data.toList))/\w'=w:=by
 go_enter Tryz.func154,Tryz.ntmps154
 go_wp2
 rw[run_callFunc_extern Tryz.func165 Ka Ka Ka (e:=Extern.BytealgCompare.compare) Ka,Lib.run_compareString];simp only[Result.andThen];rw[Oper.upon_value];go_wp2
 go_ret
 exact⟨rfl,rfl⟩
theorem zRs (a b:ByteArray)(w:World):
  Calls Tryz.prog 149 #[.string a,.string b] w fun e w'=>e=.returned (.int .i64 (Lib.compareBytes a.data.toList b.data.toList))/\w'=w:=by
 go_enter Tryz.func149,Tryz.ntmps149
 go_wp2_with(go_at_call 154;refine(zKr _ _ _).mono ?_;rintro e w' ⟨rfl,rfl⟩)
 go_ret
 exact⟨rfl,rfl⟩
theorem zTl (x y:Pr)(W:World):Calls Tryz.prog 148 #[.agg #[.string x.1,.string x.2],.agg #[.string y.1,.string y.2]] W fun e w'=>e=.returned (.int .i64 (zRq x y))/\∃q os',w'=grow (W.drewN q) os':=by
 have hcon:=fun W'=>hd (zRs x.1 y.1 W');unfold zRq;generalize Lib.compareBytes x.1.data.toList y.1.data.toList=r at hcon⊢
 go_enter Tryz.func148,Tryz.ntmps148
 go_wp2_with(go_at_call 149;refine(hcon _).o.mono ?_;rintro e w' ⟨rfl,rfl⟩)
 go_ret
 exact⟨rfl,0,_,by rw[alloc_eq_grow,alloc_eq_grow,grow_grow];rfl⟩
theorem kDr (blk off size:Nat)(w:World):CmpLays Tryz.prog 148 #[] zTk 2 zRq blk off size w:=fun _ _ _ _ x y=>zTl x y _
theorem kAe (l:List Pr)(hA:zB9 l)(d:Array Pr)(hp:PermIn 0 l.toArray.size l.toArray d)(hs:SortedIn (ltOf zRq) 0 l.toArray.size d):d=(srt l).toArray:=by
 obtain⟨h1,_,h3⟩:=hp;have e1:d.extract 0 l.toArray.size=d:=by rw[<-h1];simp
 have e2:l.toArray.extract 0 l.toArray.size=l.toArray:=by simp
 rw[e1,e2]at h3;have hperm:d.toList.Perm l:=by simpa using h3
 have hap:zB9 d.toList:=(hperm.pairwise_iff (R:=fun p q:Pr=>p.1≠q.1) (fun{a b} hab=>Ne.symm hab)).2 hA;have hr:zIp d.toList:=by
  unfold zIp;rw[List.pairwise_iff_getElem];intro i j hi hj hij;have hd:d.size=l.length:=by simpa using h1
  have hs':=hs i j (Nat.zero_le _) hij (by rw[<-h1];simpa using hj);rw[zRr,getElem!_pos d j (by simpa using hj),getElem!_pos d i (by simpa using hi)]at hs';have hne:=List.pairwise_iff_getElem.1 hap i j hi hj hij;cases h:ltK d.toList[i] d.toList[j]
  ·exact absurd (zMv _ _ h hs') hne
  ·rfl
 have:=kKn hr hperm;rw[<-this]
theorem kDs (g cap:Nat)(l:List Pr)(w:World)(hH:HoldsK zTk 2 w g 0 l.toArray)(hg:g<w.heap.size)(hl:l.length<4611686018427387904)(hA:zB9 l):
  Calls Tryz.prog 147 #[.slice (some ⟨g,0,none⟩) l.length cap,.func (.func 148) #[] #[]] w fun e w'=>e=.returned (.tuple #[])/\∃n os,w'=sortWorldK zTk 2 w g 0 n (srt l).toArray os:=by
 have eg:∀args w,(callFunc 148 args).run Tryz.prog w=.ok (.enter 148 args) w:=enters_of Tryz.func148 Ka rfl;have h:=AnyQ.slices_SortFunc kKp 2 Tryz.isAgg103 Tryz.sizeOf103 zTk (fun _=>rfl) (fun x v hv=>by simp[zTk]at hv;rcases hv with rfl|rfl<;>rfl) zRq kM7 148 #[] g 0 cap l.toArray w eg (kDr g 0 l.toArray.size w) hH hg (by simpa using hl);exact h.mono fun e w'⟨he,d',n,os,hp,hs,hw⟩=>⟨he,n,os,by rw[hw,kAe l hA d' hp hs]⟩
open Go.RowKit Go.WideMaps Go.Maps Go.Sort
theorem kFl {z:Lit}(h:keyOf Tryz.prog 9 key=some z):∃s:ByteArray,key=.string s/\z=kl s/\s.size<=maxLen:=by
 cases key<;>simp[keyOf,Tryz.underlying9,mapKey]at h
 rename_i s
 obtain⟨hs,rfl⟩:=h;exact⟨s,rfl,rfl,hs⟩
theorem kAf {z:Lit}(h:keyOf Tryz.prog 9 key=some z):∃s:ByteArray,key=Value.string s:=let⟨s,h,_⟩:=kFl h;⟨s,h⟩
theorem zWy {z:DataW Unit×List MemPlace}(h:plainElem Tryz.prog 9 v=some z):∃s:ByteArray,v=Value.string s:=let⟨s,h,_⟩:=plainElem_string_inv Tryz.underlying9 h;⟨s,h⟩
def zXq (l:List Pr)(left:Lit->Bool)(ss:List Pr):Prop:=zB9 ss/\∀p,p ∈ ss ↔ p ∈ l/\left (kl p.1)=false
theorem zXq.start (h:zLa D l):zXq l (Maps.has D) []:=⟨List.Pairwise.nil,fun p=>by
 constructor
 ·intro h;cases h
 ·rintro⟨h1,h2⟩;rw[h.1,zDb h.2.2.2 h1]at h2;cases h2⟩
theorem zXq.step {x c:ByteArray}(h:zLa D l)(hC:zXq l left ss)(hl:left (kl x)=true)(hat:∀zd,D.atKey (kl x) zd=.lit (.string c.data.toList)):
  zXq l (fun z=>left z&& !z.sameKey (kl x)) (ss++[(x,c)]):=by
 have hh:(zI3 l x).isSome=true:=by rw[<-h.1];exact has_true_of_atKey hat
 obtain⟨p,hp⟩:=Option.isSome_iff_exists.1 hh;obtain⟨hm,hx⟩:=zTh l x p hp;have hc:p=(x,c):=by
  have:=hat .nil;rw[h.2.1 x p _ hp]at this;simp only[DataW.lit.injEq,Lit.string.injEq]at this;exact Prod.ext hx (ByteArray.ext (Array.toList_inj.1 this))
 subst hc;refine⟨?_,fun q=>?_⟩
 ·unfold zB9;rw[List.pairwise_append];refine⟨hC.1,List.pairwise_singleton _ _,fun a ha b hb e=>?_⟩;simp at hb;subst hb;have:=((hC.2 a).1 ha).2;rw[e,hl]at this;cases this
 ·rw[List.mem_append,hC.2];by_cases e:q.1=x
  ·have hs:(kl q.1).sameKey (kl x)=true:=by rw[e];exact WideAt.sameKey_self (zPo x)
   simp only[hs,Bool.not_true,Bool.and_false];constructor
   ·rintro(h1|h1)
    ·exact⟨h1.1,trivial⟩
    ·simp at h1;subst h1;exact⟨hm,trivial⟩
   ·rintro⟨h1,_⟩;have:=zDb h.2.2.2 h1;rw[e,hp]at this;cases this
    exact Or.inr Kc
  ·have hs:(kl q.1).sameKey (kl x)=false:=sameKey_ne fun e'=>e (zR0 e');simp only[hs,Bool.not_false,Bool.and_true];constructor
   ·rintro(h1|h1)
    ·exact h1
    ·simp at h1;subst h1;exact absurd rfl e
   ·exact Or.inl
theorem zXq.perm (h:zLa D l)(hC:zXq l left ss)(hl:∀z,left z=false):srt ss=srt l:=
 zEw (zGe _ hC.1) (zGe _ h.2.2.2) fun p=>by rw[zPi,zPi,hC.2,hl];simp
theorem zXq.len (h:zLa D l)(hC:zXq l left ss)(hl:∀z,left z=false):ss.length=l.length:=by
 rw[<-zE2,hC.perm h hl,zE2]
theorem kKq :(Tryz.prog.info? 103).map (fun i=>(i.zero,i.size,i.bytes))=some (some (.agg #[.string ByteArray.empty,.string ByteArray.empty]),2,32):=Ka
def kAg (w:World)(base:Nat)(v:Value)(l:List Pr):Prop:=∃A cap,v=.slice A l.length cap/\w.ownsRow base 103 2 v l.length (flat l)
theorem zWz (b:Nat)(l:List Pr)(w:World)(hM:zHb w b l)(hA:zB9 l)(xC:l.length<=200):
  Calls Tryz.prog 134 #[.map (some b)] w fun e w'=>∃v,e=.returned v/\kAg w' w.heap.size v (srt l)/\Below w.heap.size w w':=by
 obtain⟨i0,hi,hz0,hz1,hz2⟩:=info_parts kKq;have hbl:=hM.lt;obtain⟨D,hown,kq⟩:=hM;have kr:=hd kq;have HA:=hd hA;have HS:=hd kq.2.2.1;clear kq hA;have jb:Kq (zHb w b l):=hd ⟨D,hown,kr.o⟩;go_enter Tryz.func134,Tryz.ntmps134
 go_wp2_with(first
  |(at_len;refine zHx _ rfl _ rfl b l rfl jb.o ?_)
  |(at_make;refine wpList_make_own _ rfl _ _ 22 rfl w.heap.size 103 i0 _ 2 Tryz.underlying22 hi hz0 hz1 _ _ _ l.length rfl rfl rfl (by rw[hz2];omega) Kg Kl ?_;intro w1 oG hg1)
  |(at_range;refine wpList_range_own _ rfl _ 157 rfl 9 9 kD7 Tryz.underlying157 _ b l.length _ rfl (hown.kept hg1 Kc) ?_;intro w0 hrg0 hg0 hs0))
 go_frame
 go_loopw [3] (fun v wr=>∃(left:Lit->Bool)(cnt:Nat)(ss:List Pr),wr.ranges Tryz.prog 9 (plainElem Tryz.prog 9) b w1.heap.size l.length D left cnt/\ss.length+cnt<=200/\
   wr.ownsRow w.heap.size 103 2 v ss.length (flat ss)/\v≠.slice none 0 0/\Kq (zXq l left ss)/\Below w.heap.size w wr)
  (fun _ wr=>wr.rangeLeft b w1.heap.size)
 case atStart=>
  exact⟨_,_,[],hrg0,by rw[HS.o];simpa using xC,oG.kept hg0 (Or.inr (by simp[Value.ownBlock])),by simp,zXq.start kr.o,
   (Kk.grown hg1 Kl (fun j hj=>by cases hj)).grown hg0 hg1.size (fun j hj=>by cases hj)⟩
 case round=>
  obtain⟨left,cnt,ss,hrg,hcs,hrow,hnn,hC,hnx⟩:=hrel;go_wp2_with(first
   |(at_next;refine wpList_next_ranges _ rfl _ rfl 9 kD7 (plainElem Tryz.prog 9) Value.string Value.string (fun key kl hk=>kAf hk) (fun v y hv=>zWy hv) b w1.heap.size l.length _ _ _ rfl hrg ?_ ?_))
  ·intro hc0 hl0;rcases hrow.2 with⟨hnil,_⟩|⟨g,cap,cur,rfl,hbase,hb,h1,h2,h3,h4⟩
   ·exact absurd hnil hnn
   have hperm:=hd (hC.o.perm kr.o hl0);have hlen:=hd (hC.o.len kr.o hl0);have hc:=hd (kDs g cap ss wr (zMx hb h4) (Array.getElem?_eq_some_iff.1 hb).1 Kb hC.o.1);have hfin:=fun nn os=>hd (zMz (n:=nn) (os:=os) (ts:=srt ss) (zE2 ss) hbase hb h1 h2 h3);clear hl0 hb h4;go_wp2_with(go_at_call 147;refine hc.o.mono ?_;rintro e w' ⟨rfl,nn,os,rfl⟩)
   go_ret
   have xD:kAg (sortWorldK zTk 2 wr g 0 nn (srt ss).toArray os) w.heap.size (.slice (some ⟨g,0,none⟩) ss.length cap) (srt l):=
    ⟨some ⟨g,0,none⟩,cap,by rw[zE2,<-hlen.o],by rw[zE2,<-hlen.o,<-hperm.o];exact(hfin nn os).o⟩
   exact⟨_,rfl,xD,hnx.grown (zMy _) hnx.size (fun j hj=>by cases hj;exact hbase)⟩
  ·intro x c kl yd yp w2 cnt2 hkey hlk hv hat hrg2 hlt hg2 hs2 hen;obtain⟨x',ex,rfl,hxs⟩:=kFl hkey;obtain rfl:x=x':=by injection ex
   obtain⟨c',ec,pU,hcs'⟩:=plainElem_string_inv Tryz.underlying9 hv;obtain rfl:c=c':=by injection ec
   have pU:=congrArg Prod.fst pU;dsimp only at pU;subst pU;have xE:=hd (zXq.step kr.o hC.o hlk hat);have hrow2:=hrow.kept hg2 (Or.inr (row_ne_iter hrow hrg).symm);have HX:=hd hat;clear hs2 ex ec hv hkey hat hlk;go_wp2_with(first
    |(at_builtin;refine wpList_append_own _ rfl _ _ 22 rfl w.heap.size 103 i0 _ 2 32 Tryz.underlying22 hi hz0 hz1 hz2 rfl Kd _ _ _ rfl (hrow2.alloc _) ⟨w2.heap.size,0,none⟩ 1 1 [.string x,.string c] rfl rfl (cell_two_new _ _ _ _) (by simp[Value.oneCell']) (by unfold maxLen at*;omega) Kb (by have:=hnx.size;have:=hg2.size;simp;omega) ?_;intro v' w3 hown' hg3 hnil3;go_frame))
   have hrg3:=(hrg2.alloc (.cells #[.string x,.string c] 103)).kept hg3 (row_ne_low hrow2 hbl) (row_ne_iter hrow2 hrg2);have hrow3:w3.ownsRow w.heap.size 103 2 v' (ss++[(x,c)]).length (flat (ss++[(x,c)])):=by
    rw[zRo,List.length_append];exact hown'
   have hb3:=((hnx.grown hg2 hnx.size (fun j hj=>by cases hj;exact hg1.size)).alloc (by have:=hnx.size;have:=hg2.size;omega) (.cells #[.string x,.string c] 103)).grown hg3 (by have:=hnx.size;have:=hg2.size;simp;omega) (fun j hj=>(hrow2.lt j hj).1);go_roundw
   case rel=>exact⟨_,cnt2,ss++[(x,c)],hrg3,by simp;omega,hrow3,fun hv'=>by have:=(hnil3.1 hv').2;omega,xE,hb3⟩
   case measure=>rw[hrg3.left_eq,hrg.left_eq];exact hlt
open Go.RowKit Go.WideMaps Go.Maps
theorem kAg.base {b b':Nat}(h:kAg w b v l)(hb:b'<=b):kAg w b' v l:=by
 obtain⟨A,cap,e,h1,h2⟩:=h;refine⟨A,cap,e,h1,?_⟩;rcases h2 with h2|⟨g,c,cur,e2,hg,r⟩
 ·exact Or.inl h2
 ·exact Or.inr ⟨g,c,cur,e2,by omega,r⟩
theorem kFm (b:Nat)(l:List Pr)(k v:ByteArray)(r:Bool)(w:World)(hr:zGz l (k,v)=r)(hM:zHb w b l)(hA:zB9 l)(hk:k.size<=100):
  Calls Tryz.prog 133 #[.map (some b),.agg #[.string k,.string v]] w fun e w'=>e=.returned (.bool r)/\Below w.heap.size w w':=hr▸kH6 b l k v w hM hA hk
theorem kDt {a b:Value}{t:TypeId}(h:Below (w.alloc (.cells #[a,b] t)).heap.size (w.alloc (.cells #[a,b] t)) w'):w'.cell? ⟨w.heap.size,0,none⟩=some a/\w'.cell? ⟨w.heap.size,1,none⟩=some b:=
 ⟨(h.cell (p:=⟨w.heap.size,0,none⟩) Kc).trans Kc,(h.cell (p:=⟨w.heap.size,1,none⟩) Kc).trans Kc⟩
open Go.RowKit
theorem kAg.nil (w:World)(b:Nat):kAg w b (.slice none 0 0) []:=⟨none,0,rfl,rfl,Or.inl ⟨rfl,rfl⟩⟩
theorem LL3 {A B C:Option Addr}{m n:List Pr}(c d e:Nat)(hp:PL w w.heap.size A l)(hq:PL w w.heap.size B m)(hr:PL w w.heap.size C n):
  qLL (w.alloc (.cells #[.slice A l.length c,.slice B m.length d,.slice C n.length e] 22)) w.heap.size 0 3 (zGf A B C) (zGf l m n) (zGf c d e):=by
 refine⟨by simp,fun k hk=>?_⟩;have keep:Below w.heap.size w (w.alloc (.cells #[.slice A l.length c,.slice B m.length d,.slice C n.length e] 22)):=Kk.alloc Kl _;match k,hk with
 |0,_=>exact⟨by simp[zGf],(hp.below keep).more keep.size⟩
 |1,_=>exact⟨by simp[zGf],(hq.below keep).more keep.size⟩
 |2,_=>exact⟨by simp[zGf],(hr.below keep).more keep.size⟩
def zPk (w:World)(E:Int)(e:Ending)(w':World):Prop:=e=.returned (.tuple #[.slice none 0 0,.int .i64 E])/\Below w.heap.size w w'
def kAh (w:World)(l:List Pr)(e:Ending)(w':World):Prop:=∃v,e=.returned (.tuple #[v,.int .i64 0])/\kAg w' w.heap.size v l/\Below w.heap.size w w'
theorem zRt (A B C:Option Addr)(l m n:List Pr)(c d f:Nat)(w:World)(hF:zIo l)(hG:zIo m)(hH:zIo n)(hp:PL w w.heap.size A l)(hq:PL w w.heap.size B m)(hr:PL w w.heap.size C n)(r:Int)(hE:chk3 l m n=r):
  Calls Tryz.prog 131 #[.slice (some ⟨w.heap.size,0,none⟩) 3 3] (w.alloc (.cells #[.slice A l.length c,.slice B m.length d,.slice C n.length f] 22)) fun e w'=>e=.returned (.int .i64 r)/\Below w.heap.size w w':=by
 subst hE;rw[<-kHo];exact(zRz w.heap.size 0 3 3 (zGf A B C) (zGf l m n) (zGf c d f) _ Kb (fun k hk=>by
  match k,hk with
  |0,_=>exact hF
  |1,_=>exact hG
  |2,_=>exact hH) (LL3 c d f hp hq hr)).mono fun e w'⟨he,hb⟩=>⟨he,(Kk.alloc Kl _).trans (hb.mono Kc)⟩
theorem kAi (A B C:Option Addr)(l m n:List Pr)(c d f:Nat)(w:World)(hF:zIo l)(hG:zIo m)(hH:zIo n)(hp:PL w w.heap.size A l)(hq:PL w w.heap.size B m)(hr:PL w w.heap.size C n)(E:Int)(hE:chk3 l m n=E)(h0:(E !=0)=true):
  Calls Tryz.prog 110 #[.slice A l.length c,.slice B m.length d,.slice C n.length f] w (zPk w E):=by
 have hC:=hd (zRt A B C l m n c d f w hF hG hH hp hq hr E hE);clear hE hp hq hr hF hG hH;go_enter Tryz.func110,Tryz.ntmps110
 go_wp2_with(go_at_call 131;refine hC.o.mono ?_;rintro e w1 ⟨rfl,hb1⟩)
 go_ret2
 exact⟨rfl,hb1⟩
def zId (w:World)(l old new:List Pr)(e:Ending)(w':World):Prop:=if zDp l old new=0 then kAh w (zA7 l old new) e w' else zPk w (zDp l old new) e w'
theorem zTm {old new:List Pr}{E:Int}(h:zDp l old new=E)(h0:E≠0)(hr:zPk w E e w'):zId w l old new e w':=by
 unfold zId;rw[h,if_neg h0];exact hr
theorem kKr {old new:List Pr}(h:zDp l old new=0)(hr:kAh w (zA7 l old new) e w'):zId w l old new e w':=by
 unfold zId;rw[if_pos h];exact hr
theorem kDu (A B C:Option Addr)(l old new:List Pr)(c d f:Nat)(w:World)(hl:chk l=0)(ho:chk old=0)(hn:chk new=0)(hp:PL w w.heap.size A l)(hq:PL w w.heap.size B old)(hr:PL w w.heap.size C new):
  Calls Tryz.prog 110 #[.slice A l.length c,.slice B old.length d,.slice C new.length f] w (zId w l old new):=by
 have HF:=hd (zIc hl);have HG:=hd (zIc ho);have HH:=hd (zIc hn);have pV:=hd (zBv hl);have xG:=hd (zBv ho);have uG:=hd (zBv hn);have zh:=((zC8 l).1 hl).1;have zi:=((zC8 old).1 ho).1;have n16:=((zC8 new).1 hn).1;have hC:=hd (zRt A B C l old new c d f w HF.o.wide HG.o.wide HH.o.wide hp hq hr 0 (by unfold chk3 kFk;rw[if_pos hl,if_pos ho];exact hn));have HP:=hd hp;have HQ:=hd hq;have HR:=hd hr;clear hl ho hn hp hq hr;go_enter Tryz.func110,Tryz.ntmps110
 go_wp2_with(go_at_call 131;refine hC.o.mono ?_;rintro e w1 ⟨rfl,hb1⟩)
 clear hC;refine(zW5 A l c w1 HF.o pV.o (HP.o.qlater hb1)).mono ?_;rintro e w2 ⟨rfl,jb,hb2⟩;have hw2:Below w.heap.size w w2:=hb1.trans (hb2.mono hb1.size);have hge:w.heap.size<=w1.heap.size:=hb1.size;obtain⟨b0,hb0⟩:∃b0,b0=w1.heap.size:=⟨_,rfl⟩;rw[<-hb0]at jb hge⊢;clear hb0 hb2;go_wp2_with fail
 go_loopw [28] (fun i wr=>∃n:Nat,n<=old.length/\i=.int .i64 n/\zHb wr b0 (zD1 l (old.take n))/\Below w.heap.size w wr/\Kq (∀j,j<n->zGz l ((jU old j).1,(jU old j).2)=true)) (fun i _=>old.length-(intOf i).toNat)
 case atStart=>exact⟨0,Nat.zero_le _,rfl,by rw[List.take_zero,zZ7];exact jb,hw2,fun j hj=>absurd hj (Nat.not_lt_zero _)⟩
 case round=>
  clear jb hw2 hb1;obtain⟨n,hn,rfl,hM,hb,HX⟩:=hrel;by_cases hlt:n<old.length
  ·obtain⟨g,o,rfl,rV,c1,c2⟩:=(HQ.o.below hb).at_ hlt;obtain⟨s1,s2⟩:=HG.o.at_ hlt;have oH:Kq ((jU old n).1.size<=maxLen):=hd Kg;have HT:=hd (zMt old n hlt);have nA:=hd (zD2 pV.o (old.take n));have rW:=hd (kDp (l:=l) xG.o hlt);obtain⟨l',hl'⟩:∃l',l'=zD1 l (old.take n):=⟨_,rfl⟩;rw[<-hl']at hM nA rW;have HL:=hd hl';clear hl';cases hh:zGz l' ((jU old n).1,(jU old n).2)
   ·have HE:Kq (zDp l old new=9):=hd (by unfold zDp;rw[if_pos (zWw hlt (by rw[<-rW.o];exact hh))]);have hC:=hd (kFm b0 l' (jU old n).1 (jU old n).2 _ (wr.alloc (.cells #[.string (jU old n).1,.string (jU old n).2] 103)) hh (hM.alloc _) nA.o s1);clear hh;go_wp2_with(go_at_call 133;refine hC.o.mono ?_;rintro e w3 ⟨rfl,hb3⟩)
    go_ret2
    exact zTm HE.o Kd ⟨rfl,(hb.alloc hb.size _).trans (hb3.mono (by have:=hb.size;simp;omega))⟩
   ·have HY:=zBm (p:=fun j=>zGz l ((jU old j).1,(jU old j).2)=true) HX (by rw[<-rW.o];exact hh);have HN:=hd (zZ9 pV.o (old.take n) ((jU old n).1,(jU old n).2) (by rw[<-HL.o];exact hh));have hC:=hd (kFm b0 l' (jU old n).1 (jU old n).2 _ (wr.alloc (.cells #[.string (jU old n).1,.string (jU old n).2] 103)) hh (hM.alloc _) nA.o s1);have xH:=hM.alloc (.cells #[.string (jU old n).1,.string (jU old n).2] 103);clear hh HX;go_wp2_with(first
     |(go_at_call 133;refine hC.o.mono ?_;rintro e w3 ⟨rfl,hb3⟩;obtain⟨k1,k2⟩:=kDt hb3;have fK:=xH.below hb3)
     |(at_delete;refine zNa _ rfl _ _ rfl b0 l' rfl fK (jU old n).1 rfl oH.o ?_;intro w4 jb hg2))
    have hb4:Below w.heap.size w w4:=((hb.alloc hb.size _).trans (hb3.mono (by have:=hb.size;simp;omega))).grown hg2 (by have:=hb.size;have:=hb3.size;simp at this;omega) (fun j hj=>by cases hj;exact hge);go_roundw
    case rel=>exact⟨n+1,by omega,by go_num,by rw[HT.o,HN.o,<-HL.o];exact jb,hb4,HY⟩
    case measure=>simp[intOf];omega
  ·have HS:=hd (zTi (l:=l) (old:=old) (fun j hj=>HX.o j Kb));have fK:zHb wr b0 (zD1 l old):=by rw[List.take_of_length_le Kb]at hM;exact hM
   have nA:=hd (zD2 pV.o old);have cV:=zZ8 l old;obtain⟨l',hl'⟩:∃l',l'=zD1 l old:=⟨_,rfl⟩;rw[<-hl']at fK nA cV;have HL:=hd hl';clear hl' hM HX;obtain⟨wo,hwo⟩:∃wo:World,wo=wr:=⟨_,rfl⟩;subst hwo;go_wp2
   go_loopw [42] (fun i wr=>∃n:Nat,n<=new.length/\i=.int .i64 n/\zHb wr b0 (l'++new.take n)/\Below w.heap.size w wr/\Kq (∀j,j<n->zKz l' (jU new j).1=false)) (fun i _=>new.length-(intOf i).toNat)
   case atStart=>exact⟨0,Nat.zero_le _,rfl,by rw[List.take_zero,List.append_nil];exact fK,hb,fun j hj=>absurd hj (Nat.not_lt_zero _)⟩
   case round=>
    clear fK hb;obtain⟨k,hk,rfl,hM,hb,HX⟩:=hrel;by_cases oI:k<new.length
    ·obtain⟨g,o,rfl,rV,c1,c2⟩:=(HR.o.below hb).at_ oI;obtain⟨s1,s2⟩:=HH.o.at_ oI;have oH:Kq ((jU new k).1.size<=maxLen):=hd Kg;have xI:Kq ((jU new k).2.size<=maxLen):=hd Kg;have lm:Kq ((l'++new.take k).length<maxLen):=hd (by rw[List.length_append,List.length_take];unfold maxLen;omega);have oJ:=hd (kAb (l:=l') uG.o oI);have HT:=hd (zMt new k oI);cases hh:zKz l' (jU new k).1
     ·have hg0:zKz (l'++new.take k) (jU new k).1=false:=by rw[oJ.o];exact hh
      have xJ:=hd (zHq hg0);have HY:=zBm (p:=fun j=>zKz l' (jU new j).1=false) HX hh;clear hh HX;go_wp2_with(first
       |(at_lookup;refine zDr _ rfl _ _ rfl b0 (l'++new.take k) rfl (hM.alloc _) (jU new k).1 rfl oH.o ?_)
       |(at_mapUpdate;refine zR1 _ rfl _ _ _ rfl b0 (l'++new.take k) rfl (hM.alloc _) lm.o (jU new k).1 (jU new k).2 rfl rfl oH.o xI.o xJ.o ?_;intro w4 jb hg2))
      have xK:zHb w4 b0 (l'++new.take (k+1)):=by rw[HT.o,<-List.append_assoc];exact jb
      have hb4:Below w.heap.size w w4:=(hb.alloc hb.size _).grown hg2 (by have:=hb.size;simp;omega) (fun j hj=>by cases hj;exact hge);go_roundw
      case rel=>exact⟨k+1,by omega,by go_num,xK,hb4,HY⟩
      case measure=>simp[intOf];omega
     ·have hg0:zKz (l'++new.take k) (jU new k).1=true:=by rw[oJ.o];exact hh
      have HE:Kq (zDp l old new=9):=hd (by
       unfold zDp;rw[HS.o,<-HL.o,kDo oI hh];rfl)
      clear hh HX;go_wp2_with(first
       |(at_lookup;refine zDr _ rfl _ _ rfl b0 (l'++new.take k) rfl (hM.alloc _) (jU new k).1 rfl oH.o ?_))
      go_ret2
      exact zTm HE.o Kd ⟨rfl,hb.alloc hb.size _⟩
    ·have rX:=hd (kAa (l:=l') (new:=new) (fun j hj=>HX.o j Kb));have fK:zHb wr b0 (l'++new):=by rw[List.take_of_length_le Kb]at hM;exact hM
     have nS:=hd (kAc nA.o uG.o rX.o);have hlen:Kq ((l'++new).length=l'.length+new.length):=hd List.length_append;clear hM HX;obtain⟨r,hr⟩:∃r,r=l'++new:=⟨_,rfl⟩;rw[<-hr]at fK nS hlen;have xL:=hd hr;clear hr;by_cases j6:(16:Int)<(r.length:Int)
     ·have HE:Kq (zDp l old new=2):=hd (by
       unfold zDp;rw[HS.o,<-HL.o,rX.o,if_neg Kc,if_neg Kc,if_pos (by have:=hlen.o;omega)])
      go_wp2_with(first|(at_len;refine zHx _ rfl _ rfl b0 r rfl fK ?_))
      go_ret2
      exact zTm HE.o Kd ⟨rfl,hb⟩
     ·have HE:Kq (zDp l old new=0):=hd (by
       unfold zDp;rw[HS.o,<-HL.o,rX.o,if_neg Kc,if_neg Kc,if_neg (by have:=hlen.o;omega)])
      have xM:Kq (zA7 l old new=srt r):=hd (by unfold zA7;rw[xL.o,HL.o]);have hC:=hd (zWz b0 r wr fK nS.o Kb);go_wp2_with(first
       |(at_len;refine zHx _ rfl _ rfl b0 r rfl fK ?_)
       |(go_at_call 134;refine hC.o.mono ?_;rintro e w5 ⟨v,rfl,hO,bv⟩))
      go_ret2
      exact kKr HE.o ⟨v,rfl,by rw[xM.o];exact hO.base hb.size,hb.trans (bv.mono hb.size)⟩
def zM0 (w:World)(E:Int)(L:List Pr)(e:Ending)(w':World):Prop:=∃v,e=.returned (.tuple #[v,.int .i64 E])/\kAg w' w.heap.size v L/\Below w.heap.size w w'
theorem kDv (A B C:Option Addr)(l old new:List Pr)(c d f:Nat)(w:World)(hF:zIo l)(hG:zIo old)(hH:zIo new)(hp:PL w w.heap.size A l)(hq:PL w w.heap.size B old)(hr:PL w w.heap.size C new)(E:Int)(hE:PE l old new=E)(L:List Pr)(hL:PLs l old new=L):
  Calls Tryz.prog 110 #[.slice A l.length c,.slice B old.length d,.slice C new.length f] w (zM0 w E L):=by
 subst hE hL;by_cases h3:chk3 l old new=0
 ·have h3':=h3;unfold chk3 kFk at h3';have e1:chk l=0:=by
   by_cases e:chk l=0
   ·exact e
   ·rw[if_neg e]at h3';exact absurd h3' e
  rw[if_pos e1]at h3';have e2:chk old=0:=by
   by_cases e:chk old=0
   ·exact e
   ·rw[if_neg e]at h3';exact absurd h3' e
  rw[if_pos e2]at h3';refine(kDu A B C l old new c d f w e1 e2 h3' hp hq hr).mono fun e w' h=>?_;have rY:PE l old new=zDp l old new:=by unfold PE;rw[if_pos h3]
  unfold zId at h;unfold zM0 PLs;rw[rY];by_cases h0:zDp l old new=0
  ·rw[if_pos h0]at h⊢;rw[h0];exact h
  ·rw[if_neg h0]at h⊢;exact⟨_,h.1,kAg.nil _ _,h.2⟩
 ·refine(kAi A B C l old new c d f w hF hG hH hp hq hr _ rfl (by simpa using h3)).mono fun e w' h=>?_;have rY:PE l old new=chk3 l old new:=by unfold PE;rw[if_neg h3]
  unfold zM0 PLs;rw[rY,if_neg h3];exact⟨_,h.1,kAg.nil _ _,h.2⟩
def bs (l:List UInt8):ByteArray:=⟨l.toArray⟩
open Go.WideShapes (add_plain)
theorem zVm (n:Nat)(h0:0<n)(hn:n<=100000)(w:World)(ty:TypeId):∃cap cells,(Builtin.append_ #[23,3] ty #[.slice none 0 0,.int .i64 n]).run Tryz.prog w=.ok (.slice (some ⟨w.heap.size,0,none⟩) n cap) (w.drew.alloc (.cells cells 21))/\n<=cap/\cap<=maxLen/\cells.size=cap:=by
 obtain⟨i0,hi,hz0,hz1,hz2⟩:=info_parts zOt;have hc:=grownCap_ge w n 0 21;refine⟨_,_,Lib.run_append_nil_zeros w 23 3 ty 21 i0 _ .i64 .i64 Tryz.underlying23 Tryz.underlying3 hi hz0 n h0 Kb Kb (by rw[hz2];omega),hc,grownCap_le_maxLen w n 0 _ Kg,?_⟩;simp[Builtin.zeroCells,Value.cells];omega
theorem zX4 (n:Nat)(w:World)(hn:n<=100000):Calls Tryz.prog 150 #[.slice none 0 0,.int .i64 n] w (zYp w []):=by
 by_cases h0:0<n
 ·obtain⟨cap,cells,hrun,h1,h2,h3⟩:=zVm n h0 hn w 23;have H3:=hd h3;have l9:=hd hrun;have ra:(0:Int)<n:=Kb;clear h3 hrun;go_enter Tryz.func150,Tryz.ntmps150
  go_wp2_with(at_builtin;refine Lib.wpList_append_run _ rfl (.tmp 20) (.tmp 21) _ _ rfl (.slice none 0 0) (.int .i64 n) rfl rfl _ _ l9.o ?_)
  go_ret
  exact⟨_,rfl,zE1.of_own (World.ownsRow_made w.drew cells cap Kl h2 (by rw[H3.o];simp)) rfl,((zZ Kk 1).alloc Kl _)⟩
 ·obtain rfl:n=0:=Kb;go_enter Tryz.func150,Tryz.ntmps150
  go_wp2
  go_ret
  exact⟨_,rfl,zE1.nil _ _,Below.refl _ _⟩
def zF0 (L:Nat->List Int):Nat->List Int
 |0=>[]
 |k+1=>zF0 L k++L k
theorem zX5 (L:Nat->List Int)(N:Nat)(h:∀k,k<N->(L k).length<=1000)(k:Nat)(hk:k<=N):(zF0 L k).length<=k*1000:=by
 induction k with
 |zero=>simp[zF0]
 |succ k ih=>
  have:=ih Kb;have:=h k Kb;simp[zF0];omega
theorem zLq (b o N c:Nat)(As:Nat->Option Addr)(L:Nat->List Int)(cs:Nat->Nat)(w:World)(hN:N<=10)(hlen:∀k,k<N->(L k).length<=1000)(hcell:∀k,k<N->w.cell? ⟨b,o+k,none⟩=some (.slice (As k) (L k).length (cs k)))(hb:b<w.heap.size)
  (hv:∀k,k<N->VL w w.heap.size (As k) (rv (L k))):Calls Tryz.prog 136 #[.slice (some ⟨b,o,none⟩) N c] w (zYp w (zF0 L N)):=by
 have HL:=hd hlen;have HC:=hd hcell;have HV:=hd hv;have HT:=hd (zX5 L N hlen);clear hlen hcell hv;go_enter Tryz.func136,Tryz.ntmps136
 go_wp2
 go_loop [3,11] (fun s i=>∃k:Nat,k<=N/\i=.int .i64 k/\s=.int .i64 (zF0 L k).length) (fun _ i=>N-(intOf i).toNat)
 case atStart=>exact⟨0,Nat.zero_le _,rfl,rfl⟩
 case round=>
  obtain⟨k,hk,rfl,rfl⟩:=hrel;have ht:=HT.o k hk;have ht2:k*1000<=10000:=Kb;by_cases hlt:k<N
  ·have hc:=HC.o k hlt;have hl:=HL.o k hlt;have HX:=hd (show((zF0 L (k+1)).length:Int)=(zF0 L k).length+(L k).length by simp[zF0]);go_wp2
   go_round
   case rel=>exact⟨k+1,by omega,by go_num,by rw[HX.o]⟩
   case measure=>simp[intOf];omega
  ·obtain rfl:k=N:=Kb;clear hlt;go_wp2_with fail
   refine(zX4 (zF0 L k).length w Kb).mono ?_;rintro e w1 ⟨v1,rfl,aB,hb1⟩;have iM:=hd (show zE1 21 w1 w.heap.size v1 (rv (zF0 L 0))from aB);clear aB;go_wp2_with fail
   go_loopw [6,27] (fun v i wr=>∃j:Nat,j<=k/\i=.int .i64 j/\Kq (zE1 21 wr w.heap.size v (rv (zF0 L j)))/\Below w.heap.size w wr) (fun _ i _=>k-(intOf i).toNat)
   case atStart=>exact⟨0,Nat.zero_le _,rfl,iM,hb1⟩
   case round=>
    obtain⟨j,hj,rfl,ho,hbr⟩:=hrel;by_cases hlt:j<k
    ·have hc:=(hbr.cell (p:=⟨b,o+j,none⟩) hb).trans (HC.o j hlt);have rh:=hd ((HV.o j hlt).below hbr);have hl:=HL.o j hlt;have wC:=HT.o j hj;have hl2:(rv (zF0 L j)).length+(rv (L j)).length<=2200000:=by rw[zCg,zCg];omega
     go_wp2_with(at_builtin;refine zLx zLg Kd _ rfl (.tmp 31) (.tmp 32) rfl w.heap.size _ (rv (zF0 L j)) (rv (L j)) rfl ho.o (As j) (L j).length (cs j) w.heap.size rfl (zCg _) rh.o (zNz _) hl2 hbr.size ?_;intro v2 w2 ay hg2)
     have iN:=hd (show zE1 21 w2 w.heap.size v2 (rv (zF0 L (j+1))) by rw[zF0,zQp];exact ay);have hb2:=hg2.below w.heap.size w Kl hbr.size hbr;clear ay;go_roundw
     case rel=>exact⟨j+1,by omega,by go_num,iN,hb2⟩
     case measure=>simp[intOf];omega
    ·obtain rfl:j=k:=Kb;go_wp2
     go_ret
     exact⟨_,rfl,ho.o,hbr⟩
theorem zX6 (r s:List Int)(p e:Int)(h:atE r p s=e)(he:e≠0):zFx r p s=([],e):=by
 unfold atE at h;unfold zFx;split at h
 ·rename_i h1
  rw[if_pos h1];split at h
  ·omega
  ·rename_i h2
   rw[if_neg h2,h]
 ·rename_i h1
  rw[if_neg h1,h]
theorem kCa (r s:List Int)(p:Int)(h:atE r p s=0):∃k:Nat,p=k/\k<=r.length/\zFx r p s=(r.take k++(s++r.drop k),0):=by
 unfold atE at h;unfold zFx;split at h
 ·rename_i h1
  rw[if_pos h1];split at h
  ·rename_i h2
   exact⟨p.toNat,by omega,by omega,by rw[if_pos h2]⟩
  ·omega
 ·omega
theorem zLb (A:Option Addr)(n c k:Nat)(hk:k<=n)(hc:n<=c):∃D:Option Addr,(∀(w:World)(B:Nat)(xs:List Value),VL w B A xs->xs.length=n->VL w B D (xs.drop k))/\
  (∀W:World,(Instr.slice 23 (.slice A n c) (some (.int .i64 (k:Int))) none none).run Tryz.prog W=.ok (.slice D (n-k) (c-k)) W):=by
 refine⟨if c=k then A else A.map (·.add (k*1)),fun w B xs h hx=>h.drop k c n hx.symm hc,fun W=>?_⟩;have he:Tryz.prog.elem 23=21:=Ka;have hs:∀W,(sizeOf 21).run Tryz.prog W=.ok 1 W:=fun _=>by kernel_rfl
 rw[run_slice_l W 23 A n c (by rw[he];exact Tryz.underlying23) .i64 _ Kb Kb,he,hs];simp[Result.andThen,sliced]
theorem zLc (A:Option Addr)(n c k:Nat)(hk:k<=c):∀W:World,(Instr.slice 23 (.slice A n c) none (some (.int .i64 (k:Int))) none).run Tryz.prog W=.ok (.slice A k c) W:=fun W=>by
 have he:Tryz.prog.elem 23=21:=Ka;have hs:∀W,(sizeOf 21).run Tryz.prog W=.ok 1 W:=fun _=>by kernel_rfl
 rw[run_slice_h W 23 A n c (by rw[he];exact Tryz.underlying23) .i64 _ Kb Kb,he,hs];have e:(A.map fun x=>x.add 0)=A:=by
  cases A
  ·rfl
  ·simp[Addr.add]
 simp[Result.andThen,sliced,e]
def kGm {α:Type}(x y:α):Nat->α
 |0=>x
 |_=>y
def zQf {α:Type}(x y z:α):Nat->α
 |0=>x
 |1=>y
 |_=>z
theorem zYp.old {W:World}{l:List Int}(h:zYp W l e w')(hb:Below w.heap.size w W):zYp w l e w':=by
 obtain⟨v,he,ho,hb2⟩:=h;exact⟨v,he,ho.weaken hb.size,hb.trans (hb2.mono hb.size)⟩
theorem zNr (w:World):Below w.heap.size w w.drew:=zZ Kk 1
theorem kGn (A1 A2 A3:Option Addr)(l1 l2 l3:List Int)(n1 n2 n3 c1 c2 c3:Nat)(W:World)(t:TypeId)(g:Nat)(hg:g=W.heap.size)(h1:l1.length=n1)(h2:l2.length=n2)(h3:l3.length=n3)(m1:n1<=1000)(m2:n2<=1000)(m3:n3<=1000)
  (v1:VL W W.heap.size A1 (rv l1)) (v2:VL W W.heap.size A2 (rv l2)) (v3:VL W W.heap.size A3 (rv l3)):
  Calls Tryz.prog 136 #[.slice (some ⟨g,0,none⟩) 3 3] (W.alloc (.cells #[.slice A1 n1 c1,.slice A2 n2 c2,.slice A3 n3 c3] t)) (zYp W (l1++(l2++l3))):=by
 subst hg h1 h2 h3;have hb:Below W.heap.size W (W.alloc (.cells #[.slice A1 l1.length c1,.slice A2 l2.length c2,.slice A3 l3.length c3] t)):=Kk.alloc Kl _;have e:zF0 (zQf l1 l2 l3) 3=l1++(l2++l3):=by simp[zF0,zQf]
 rw[<-e];refine(zLq W.heap.size 0 3 3 (zQf A1 A2 A3) (zQf l1 l2 l3) (zQf c1 c2 c3) _ Kb (fun k hk=>?_) (fun k hk=>?_) Kc (fun k hk=>?_)).mono fun _ _ h=>h.old hb
 ·match k,hk with
  |0,_=>exact m1
  |1,_=>exact m2
  |2,_=>exact m3
 ·rw[World.cell?_alloc_new];match k,hk with
  |0,_=>simp[zQf]
  |1,_=>simp[zQf]
  |2,_=>simp[zQf]
 ·match k,hk with
  |0,_=>exact v1.later hb
  |1,_=>exact v2.later hb
  |2,_=>exact v3.later hb
theorem kCb (A1 A2:Option Addr)(l1 l2:List Int)(n1 n2 c1 c2:Nat)(W:World)(t:TypeId)(g:Nat)(hg:g=W.heap.size)(h1:l1.length=n1)(h2:l2.length=n2)(m1:n1<=1000)(m2:n2<=1000)
  (v1:VL W W.heap.size A1 (rv l1)) (v2:VL W W.heap.size A2 (rv l2)):
  Calls Tryz.prog 136 #[.slice (some ⟨g,0,none⟩) 2 2] (W.alloc (.cells #[.slice A1 n1 c1,.slice A2 n2 c2] t)) (zYp W (l1++l2)):=by
 subst hg h1 h2;have hb:Below W.heap.size W (W.alloc (.cells #[.slice A1 l1.length c1,.slice A2 l2.length c2] t)):=Kk.alloc Kl _;have e:zF0 (kGm l1 l2) 2=l1++l2:=by simp[zF0,kGm]
 rw[<-e];refine(zLq W.heap.size 0 2 2 (kGm A1 A2) (kGm l1 l2) (kGm c1 c2) _ Kb (fun k hk=>?_) (fun k hk=>?_) Kc (fun k hk=>?_)).mono fun _ _ h=>h.old hb
 ·match k,hk with
  |0,_=>exact m1
  |1,_=>exact m2
 ·rw[World.cell?_alloc_new];match k,hk with
  |0,_=>simp[kGm]
  |1,_=>simp[kGm]
 ·match k,hk with
  |0,_=>exact v1.later hb
  |1,_=>exact v2.later hb
theorem zVn (A B:Option Addr)(l m:List Int)(a b c d:Nat)(p:Int)(w:World)(ha:l.length=a)(hb:m.length=b)(hl:a<=1000)(hm:b<=1000)(oK:a<=c)(_hbd:b<=d)(hp:VL w w.heap.size A (rv l))(hq:VL w w.heap.size B (rv m)):
  Calls Tryz.prog 111 #[.slice A a c,.int .i64 p,.slice B b d] w (kJu w (zFx l p m)):=by
 obtain⟨e,he⟩:∃e,atE l p m=e:=⟨_,rfl⟩;have HC:=hd (zMq A B l m a b c d p e he w ha hb Kb Kb hp hq);by_cases gQ:e=0
 ·subst gQ;obtain⟨k,rfl,hk,hI⟩:=kCa l m p he;have HI:=hd hI;obtain⟨D,hD,oL⟩:=zLb A a c k Kb oK;have ku:=zLc A a c k Kb;have HD:=hd (hD w w.heap.size (rv l) hp (by rw[zCg];exact ha));have hka:k<=a:=Kb;have HA:=hd ha;have HB:=hd hb;have HP:=hd (hp.take k);have HQ:=hd hq;rw[<-zOr]at HP;rw[<-zOs]at HD;clear hI he hD hp hq hk ha hb;go_enter Tryz.func111,Tryz.ntmps111
  go_wp2_with fail
  refine HC.o.mono ?_;rintro e w' ⟨rfl,rfl⟩;go_wp2_with fail
  go_still_tail 7,Ka
  go_wp2_with fail
  refine(kGn A B D (l.take k) m (l.drop k) k b (a-k) c d (c-k) w.drew _ _ rfl (by have:=HA.o;simp;omega) HB.o (by have:=HA.o;simp;omega) Kb Kb Kb HP.o HQ.o HD.o).mono ?_;intro e w2 h2;obtain⟨v2,rfl,ay,hb2⟩:=h2;go_wp2
  go_ret2
  exact zI8 HI.o ay ((zNr w).trans hb2)
 ·have HE:=hd (zX6 l m p e he gQ);have h1:(e==0)=false:=by simpa using gQ
  have h2:(e !=0)=true:=by simpa using gQ
  clear he gQ hp hq ha hb;go_enter Tryz.func111,Tryz.ntmps111
  go_wp2_with fail
  refine HC.o.mono ?_;rintro e w' ⟨rfl,rfl⟩;go_wp2
  go_ret2
  exact zI8 HE.o (zE1.nil _ _) Kk
theorem zNs (A B:Option Addr)(l m:List Int)(a b c d:Nat)(r:Bool)(hr:decide (l.take m.length=m)=r)(w:World)(ha:l.length=a)(hb:m.length=b)(_hl:a<=1000)(hm:b<=1000)(oK:a<=c)(hp:VL w w.heap.size A (rv l))(hq:VL w w.heap.size B (rv m)):
  Calls Tryz.prog 137 #[.slice A a c,.slice B b d] w (zHa (.bool r) w):=by
 by_cases bK:b<=a
 ·have hv:=hp.take b;rw[<-zOr]at hv;have HC:=hd (zUw A B (l.take b) m b b c d r (by unfold sameL;rw[<-hr,hb]) w Kf hb Kb Kb hv hq);have ku:=zLc A a c b Kb;clear hr ha hb hp hq hv;go_enter Tryz.func137,Tryz.ntmps137
  go_wp2_with fail
  refine HC.o.mono ?_;rintro e w' ⟨rfl,kd,rfl⟩;go_wp2
  go_ret
  exact kW rfl Ki
 ·have HF:=hd (show r=false by
   rw[<-hr];refine decide_eq_false fun e=>?_;have:=congrArg List.length e;simp at this;omega)
  have hx:decide (b<=a)=false:=decide_eq_false bK;clear hr ha hb hp hq bK;go_enter Tryz.func137,Tryz.ntmps137
  go_wp2
  go_ret
  exact kW (zA3 (by rw[HF.o])) ⟨0,rfl⟩
theorem zX7 (r s:List Int)(p e:Int)(h:atE r p s=e)(he:e≠0):zFe r p s=([],e):=by
 unfold atE at h;unfold zFe;split at h
 ·rename_i h1
  rw[if_pos h1];split at h
  ·omega
  ·rename_i h2
   rw[if_neg h2,h]
 ·rename_i h1
  rw[if_neg h1,h]
theorem kCc (r s:List Int)(p:Int)(h:atE r p s=0):∃k:Nat,p=k/\k<=r.length/\zFe r p s=if(r.drop k).take s.length=s then(r.take k++r.drop (k+s.length),0)else([],9):=by
 unfold atE at h;unfold zFe;split at h
 ·rename_i h1
  rw[if_pos h1];split at h
  ·rename_i h2
   exact⟨p.toNat,by omega,by omega,by rw[if_pos h2]⟩
  ·omega
 ·omega
theorem zVo (A B:Option Addr)(l m:List Int)(a b c d:Nat)(p:Int)(w:World)(ha:l.length=a)(hb:m.length=b)(hl:a<=1000)(hm:b<=1000)(oK:a<=c)(_hbd:b<=d)(hp:VL w w.heap.size A (rv l))(hq:VL w w.heap.size B (rv m)):
  Calls Tryz.prog 112 #[.slice A a c,.int .i64 p,.slice B b d] w (kJu w (zFe l p m)):=by
 obtain⟨e,he⟩:∃e,atE l p m=e:=⟨_,rfl⟩;have HC:=hd (zMq A B l m a b c d p e he w ha hb Kb Kb hp hq);by_cases gQ:e=0
 ·subst gQ;obtain⟨k,rfl,hk,hI⟩:=kCc l m p he;obtain⟨D,hD,oL⟩:=zLb A a c k Kb oK;have ku:=zLc A a c k Kb;have oM:=hD w w.heap.size (rv l) hp (by rw[zCg];exact ha);rw[<-zOs]at oM;have hka:k<=a:=Kb;have pW:(l.drop k).length=a-k:=by rw[List.length_drop,ha]
  cases hr:decide ((l.drop k).take m.length=m)
  ·have HG:=hd (zNs D B (l.drop k) m (a-k) b (c-k) d false hr w pW hb Kb hm Kb oM hq);have HE:=hd (show zFe l k m=([],9) by rw[hI,if_neg (of_decide_eq_false hr)]);clear hI he hD hp hq hk ha hb hr oM pW;go_enter Tryz.func112,Tryz.ntmps112
   go_wp2_with fail
   refine HC.o.mono ?_;rintro e w' ⟨rfl,rfl⟩;go_wp2_with fail
   refine HG.o.mono ?_;rintro e w' ⟨rfl,kd,rfl⟩;go_wp2
   go_ret2
   exact zI8 HE.o (zE1.nil _ _) (zZ Kk _)
  ·have lO:=of_decide_eq_true hr;have hbl:k+b<=a:=by
    have:=congrArg List.length lO;simp at this;omega
   obtain⟨D2,uH,kv⟩:=zLb A a c (k+b) hbl oK;have lQ:=uH w w.heap.size (rv l) hp (by rw[zCg];exact ha);rw[<-zOs]at lQ;have uI:∀W:World,(Instr.slice 23 (.slice A a c) (some (.int .i64 ((k:Int)+(b:Int)))) none none).run Tryz.prog W=.ok (.slice D2 (a-(k+b)) (c-(k+b))) W:=fun W=>by
    have:=kv W;rwa[Int.natCast_add]at this
   have hwr:IntKind.i64.wrap ((k:Int)+(b:Int))=(k:Int)+(b:Int):=IntWalk.i64_in _ Kb;have HG:=hd (zNs D B (l.drop k) m (a-k) b (c-k) d true hr w pW hb Kb hm Kb oM hq);have HE:=hd (show zFe l k m=(l.take k++l.drop (k+m.length),0) by rw[hI,if_pos lO]);have HA:=hd ha;have HB:=hd hb;have HP:=hd (hp.take k);rw[<-zOr]at HP;have pX:=hd lQ;rw[<-HB.o]at pX;clear hI he hD hp hq hk ha hb hr oM pW uH lQ kv lO;go_enter Tryz.func112,Tryz.ntmps112
   go_wp2_with fail
   refine HC.o.mono ?_;rintro e w' ⟨rfl,rfl⟩;go_wp2_with fail
   refine HG.o.mono ?_;intro e w1 h1;obtain⟨rfl,hb1⟩:=h1.still;have HP:=hd (HP.o.later hb1);have pX:=hd (pX.o.later hb1);clear h1;go_wp2_with fail
   go_still_tail 9,Ka
   go_wp2_with fail
   refine(kCb A D2 (l.take k) (l.drop (k+m.length)) k (a-(k+b)) c (c-(k+b)) w1.drew _ _ rfl (by have:=HA.o;simp;omega) (by have:=HA.o;have:=HB.o;simp;omega) Kb Kb HP.o pX.o).mono ?_;intro e w2 h2;obtain⟨v2,rfl,ay,hb2⟩:=h2.old (w:=w) (hb1.trans ((zNr w1).mono hb1.size));go_wp2
   go_ret2
   exact zI8 HE.o ay hb2
 ·have HE:=hd (zX7 l m p e he gQ);have h1:(e==0)=false:=by simpa using gQ
  have h2:(e !=0)=true:=by simpa using gQ
  clear he gQ hp hq ha hb;go_enter Tryz.func112,Tryz.ntmps112
  go_wp2_with fail
  refine HC.o.mono ?_;rintro e w' ⟨rfl,rfl⟩;go_wp2
  go_ret2
  exact zI8 HE.o (zE1.nil _ _) Kk
