import Derived.Test.YtmkciabefepelaaGreatJUApp
import Derived.Lib.Bytealg
import Derived.Shelf.SlSortCmp.WholeK
import Derived.Sort.OwnSorted
set_option maxRecDepth 100000
set_option maxHeartbeats 8000000
namespace Go.Proofs.YtmkciabefepelaaGreat
open Go.RowKit Go.Sort
variable {w w':World}{g n:Nat}{cur:Array Value}{e:TypeId}{l ss:List Pr}{os:Array Obj}{key v:Value}{D:DataW Unit}{left:Lit->Bool}
def zTk (p:Pr):List Value:=[.string p.1,.string p.2]
def flat (l:List Pr):List Value:=l.flatMap zTk
instance : Inhabited Pr:=⟨noPr⟩
theorem zD5 (l:List Pr):(flat l).length=l.length*2:=by
 unfold flat;induction l with
 |nil=>rfl
 |cons p r ih=>rw[List.flatMap_cons,List.length_append,ih,List.length_cons];simp[zTk];omega
theorem zRo (l m:List Pr):flat (l++m)=flat l++flat m:=by unfold flat;rw[List.flatMap_append]
theorem kDq (l:List Pr)(k:Nat)(hk:k<l.length):(flat l)[k*2]? =some (.string (jU l k).1)/\(flat l)[k*2+1]? =some (.string (jU l k).2):=by
 induction l generalizing k with
 |nil=>simp at hk
 | cons p r ih=>
  cases k with
  |zero=>exact⟨rfl,rfl⟩
  |succ k=>
   have:=ih k (by simpa using hk);have e1:(flat (p::r))[(k+1)*2]? =(flat r)[k*2]? :=by
    show(Value.string p.1::Value.string p.2::flat r)[(k+1)*2]? =_
    rw[show(k+1)*2=k*2+1+1 by omega];rfl
   have e2:(flat (p::r))[(k+1)*2+1]? =(flat r)[k*2+1]? :=by
    show(Value.string p.1::Value.string p.2::flat r)[(k+1)*2+1]? =_
    rw[show(k+1)*2+1=k*2+1+1+1 by omega];rfl
   have e3:jU (p::r) (k+1)=jU r k:=rfl;rw[e1,e2,e3];exact this
theorem zU5 (l:List Pr):flatK zTk 2 l.toArray=(flat l).toArray:=by
 apply Array.ext
 ·simp[zD5]
 ·intro t h1 h2;have ht:t<l.length*2:=by simpa using h1
  have hk:t/2<l.length:=Kb;have hg:=kDq l (t/2) hk;rw[<-getElem!_pos (flatK zTk 2 l.toArray) t h1,get_flatK _ _ _ t (by simpa using ht)];have e:l.toArray[t/2]! =jU l (t/2):=by
   rw[getElem!_pos l.toArray (t/2) (by simpa using hk),zB7 l _ hk];rfl
  rw[e];have h3:(flat l)[t]? =some ((flat l).toArray[t]'h2):=by
   rw[List.getElem?_eq_getElem (by simpa[zD5]using ht)];rfl
  rcases Nat.mod_two_eq_zero_or_one t with h0|h0
  ·have:t=t/2*2:=Kb;rw[h0];rw[<-this,h3]at hg;exact(Option.some.inj hg.1).symm
  ·have:t=t/2*2+1:=Kb;rw[h0];rw[<-this,h3]at hg;exact(Option.some.inj hg.2).symm
theorem zMx (hb:w.heap[g]? =some (.cells cur e (0,0)))(ht:cur.toList.take (l.length*2)=flat l):HoldsK zTk 2 w g 0 l.toArray:=by
 unfold HoldsK;rw[zU5];intro j hj;have hj':j<(flat l).length:=by simpa using hj
 refine⟨?_,by simp[World.frozen?,hb]⟩;have h1:(cur.toList.take (l.length*2))[j]? =(flat l)[j]? :=by rw[ht]
 rw[List.getElem?_take_of_lt (by rwa[zD5]at hj')]at h1;simp only[World.cell?,hb,Nat.zero_add];simp only[Option.isSome_none,Bool.false_eq_true,if_false];rw[<-Array.getElem?_toList,h1,List.getElem?_eq_getElem hj',getElem!_pos (flat l).toArray j hj];rfl
theorem zRp {fr:Nat×Nat}(d:Array Pr)(hb:w.heap[g]? =some (.cells cur e fr)):
  (sortWorldK zTk 2 w g 0 n d os).heap[g]? =some (.cells (putCells id 0 (flatK zTk 2 d) cur) e fr):=by
 have hg:g<w.heap.size:=(Array.getElem?_eq_some_iff.1 hb).1;unfold sortWorldK putRowK;rw[heap_grow_old _ _ (by simpa[putRow,mapBlock,Sort.ahead]using hg)];simp[putRow,mapBlock,Sort.ahead,Array.getElem?_modify,hb,onCells]
theorem zMy (d:Array Pr):w.grownBy (sortWorldK zTk 2 w g 0 n d os) (some g):=by
 unfold sortWorldK putRowK;refine⟨rfl,rfl,rfl,by simp[grow,putRow,mapBlock,Sort.ahead],fun k hk hne=>?_⟩;rw[heap_grow_old _ _ (by simpa[putRow,mapBlock,Sort.ahead]using hk)];have:g≠k:=fun e=>hne (by rw[e]);simp[putRow,mapBlock,Sort.ahead,Array.getElem?_modify,this]
theorem zNj (cur:Array Value)(ts:List Value)(h:ts.length<=cur.size):(putCells id 0 ts.toArray cur).toList.take ts.length=ts:=by
 apply List.ext_getElem?;intro j;by_cases hj:j<ts.length
 ·rw[List.getElem?_take_of_lt hj,Array.getElem?_toList];simp[putCells,hj,show j<cur.size by omega]
 ·rw[List.getElem?_take_eq_none Kb,List.getElem?_eq_none Kb]
theorem zMz {base cap:Nat}{ts:List Pr}(hl:ts.length=ss.length)(hbase:base<=g)(hb:w.heap[g]? =some (.cells cur e (0,0)))
  (h1:ss.length<=cap) (h2:cap<=maxLen) (h3:cur.size=cap*2):
  (sortWorldK zTk 2 w g 0 n ts.toArray os).ownsRow base e 2 (.slice (some ⟨g,0,none⟩) ss.length cap) ss.length (flat ts):=
 ⟨by rw[zD5,hl],.inr ⟨g,cap,_,rfl,hbase,zRp _ hb,h1,h2,by simp[putCells,h3],by
  rw[zU5,<-hl,<-zD5];exact zNj cur _ (by rw[zD5,h3];omega)⟩⟩
open Go.Shelf
def zWx :Go.Shelf.Ren:=⟨fun|6=>176|15=>181|14=>180|28=>191|29=>192|20=>183|21=>184|22=>185|23=>186|24=>187|25=>188|26=>189|27=>190|46=>194|47=>195|48=>196|49=>197|50=>198|57=>199|n=>n,fun|22=>22|24=>94|25=>148|3=>3|39=>153|0=>0|53=>163|55=>165|4=>4|46=>156|45=>155|50=>160|5=>5|9=>9|66=>166|70=>170|76=>172|77=>173|n=>n,fun|n=>n⟩
theorem kKp :Go.Proofs.SlLaysF0.n6 Tryz.prog zWx:={
 mixed:=Ka
 f6:=⟨Tryz.f176.name,by decide,Tryz.func176.trans (congrArg some Ka)⟩
 f14:=⟨Tryz.f180.name,by decide,Tryz.func180.trans (congrArg some Ka)⟩
 f15:=Tryz.func181.trans (congrArg some Ka)
 f20:=⟨Tryz.f183.name,by decide,Tryz.func183.trans (congrArg some Ka)⟩
 f21:=⟨Tryz.f184.name,by decide,Tryz.func184.trans (congrArg some Ka)⟩
 f22:=⟨Tryz.f185.name,by decide,Tryz.func185.trans (congrArg some Ka)⟩
 f23:=⟨Tryz.f186.name,by decide,Tryz.func186.trans (congrArg some Ka)⟩
 f24:=⟨Tryz.f187.name,by decide,Tryz.func187.trans (congrArg some Ka)⟩
 f25:=⟨Tryz.f188.name,by decide,Tryz.func188.trans (congrArg some Ka)⟩
 f26:=⟨Tryz.f189.name,by decide,Tryz.func189.trans (congrArg some Ka)⟩
 f27:=⟨Tryz.f190.name,by decide,Tryz.func190.trans (congrArg some Ka)⟩
 f28:=Tryz.func191.trans (congrArg some Ka)
 f29:=Tryz.func192.trans (congrArg some Ka)
 f46:=⟨Tryz.f194.name,by decide,Tryz.func194.trans (congrArg some Ka)⟩
 f47:=Tryz.func195.trans (congrArg some Ka)
 f48:=Tryz.func196.trans (congrArg some Ka)
 f49:=⟨Tryz.f197.name,by decide,Tryz.func197.trans (congrArg some Ka)⟩
 f50:=⟨Tryz.f198.name,by decide,Tryz.func198.trans (congrArg some Ka)⟩
 f57:=⟨Tryz.f199.name,by decide,Tryz.func199.trans (congrArg some Ka)⟩
 t0:=Tryz.underlying0
 a0:=Tryz.isAgg0
 z0:=Tryz.sizeOf0
 v0:=Tryz.zeroValue0
 t3:=Tryz.underlying3
 a3:=Tryz.isAgg3
 z3:=Tryz.sizeOf3
 v3:=Tryz.zeroValue3
 t4:=Tryz.underlying4
 a4:=Tryz.isAgg4
 z4:=Tryz.sizeOf4
 v4:=Tryz.zeroValue4
 t5:=Tryz.underlying5
 a5:=Tryz.isAgg5
 z5:=Tryz.sizeOf5
 v5:=Tryz.zeroValue5
 t9:=Tryz.underlying9
 a9:=Tryz.isAgg9
 z9:=Tryz.sizeOf9
 v9:=Tryz.zeroValue9
 t22:=Tryz.underlying22
 a22:=Tryz.isAgg22
 z22:=Tryz.sizeOf22
 v22:=Tryz.zeroValue22
 t25:=Tryz.underlying148
 a25:=Tryz.isAgg148
 z25:=Tryz.sizeOf148
 v25:=Tryz.zeroValue148
 t39:=Tryz.underlying153
 a39:=Tryz.isAgg153
 z39:=Tryz.sizeOf153
 v39:=Tryz.zeroValue153
 t45:=Tryz.underlying155
 a45:=Tryz.isAgg155
 z45:=Tryz.sizeOf155
 v45:=Tryz.zeroValue155
 t46:=Tryz.underlying156
 a46:=Tryz.isAgg156
 z46:=Tryz.sizeOf156
 v46:=Tryz.zeroValue156
 t50:=Tryz.underlying160
 a50:=Tryz.isAgg160
 z50:=Tryz.sizeOf160
 v50:=Tryz.zeroValue160
 t53:=Tryz.underlying163
 a53:=Tryz.isAgg163
 z53:=Tryz.sizeOf163
 v53:=Tryz.zeroValue163
 t55:=Tryz.underlying165
 a55:=Tryz.isAgg165
 z55:=Tryz.sizeOf165
 v55:=Tryz.zeroValue165
 t66:=Tryz.underlying166
 a66:=Tryz.isAgg166
 z66:=Tryz.sizeOf166
 v66:=Tryz.zeroValue166
 t70:=Tryz.underlying170
 a70:=Tryz.isAgg170
 z70:=Tryz.sizeOf170
 v70:=Tryz.zeroValue170
 t76:=Tryz.underlying172
 a76:=Tryz.isAgg172
 z76:=Tryz.sizeOf172
 v76:=Tryz.zeroValue172
 t77:=Tryz.underlying173
 a77:=Tryz.isAgg173
 z77:=Tryz.sizeOf173
 v77:=Tryz.zeroValue173}
open Go.RowKit Go.Sort Go.Shelf
def zRq (x y:Pr):Int:=Lib.compareBytes x.1.data.toList y.1.data.toList
theorem zU6 :∀a b:List UInt8,decide (Lib.compareBytes a b<0)=Op.bytesLess a b
 |[],[]=>rfl
 |[],_::_=>rfl
 |_::_,[]=>rfl
 | a::x,b::y=>by
  rw[Lib.compareBytes,Op.bytesLess,<-zU6 x y];by_cases h1:a<b
  ·simp[h1]
  ·by_cases h2:b<a
   ·have:a≠b:=fun e=>by subst e;exact UInt8.lt_irrefl _ h2
    simp[h1,h2,this]
   ·have:a=b:=UInt8.le_antisymm (UInt8.not_lt.1 h2) (UInt8.not_lt.1 h1);subst this;simp[h1]
theorem zRr :ltOf zRq=ltK:=by
 funext x y
 unfold ltOf zRq ltK;rw[zU6,ByteArray.toList_eq,ByteArray.toList_eq]
theorem kM7 :SWO (ltOf zRq):=by
 rw[zRr];exact⟨zIb,zHp,zOc⟩
theorem zKr (a b:ByteArray)(w:World):
  Calls Tryz.prog 182 #[.string a,.string b] w fun e w'=>e=.returned (.int .i64 (Lib.compareBytes a.data.toList b.data.toList))/\w'=w:=by
 go_enter Tryz.func182,Tryz.ntmps182
 go_wp2
 rw[run_callFunc_extern Tryz.func193 Ka Ka Ka (e:=Extern.BytealgCompare.compare) Ka,Lib.run_compareString];simp only[Result.andThen];rw[Oper.upon_value];go_wp2
 go_ret
 exact⟨rfl,rfl⟩
theorem zRs (a b:ByteArray)(w:World):
  Calls Tryz.prog 178 #[.string a,.string b] w fun e w'=>e=.returned (.int .i64 (Lib.compareBytes a.data.toList b.data.toList))/\w'=w:=by
 go_enter Tryz.func178,Tryz.ntmps178
 go_wp2_with(go_at_call 182;refine(zKr _ _ _).mono ?_;rintro e w' ⟨rfl,rfl⟩)
 go_ret
 exact⟨rfl,rfl⟩
theorem zTl (x y:Pr)(W:World):Calls Tryz.prog 177 #[.agg #[.string x.1,.string x.2],.agg #[.string y.1,.string y.2]] W fun e w'=>e=.returned (.int .i64 (zRq x y))/\∃q os',w'=grow (W.drewN q) os':=by
 have hcon:=fun W'=>hd (zRs x.1 y.1 W');unfold zRq;generalize Lib.compareBytes x.1.data.toList y.1.data.toList=r at hcon⊢
 go_enter Tryz.func177,Tryz.ntmps177
 go_wp2_with(go_at_call 178;refine(hcon _).o.mono ?_;rintro e w' ⟨rfl,rfl⟩)
 go_ret
 exact⟨rfl,0,_,by rw[alloc_eq_grow,alloc_eq_grow,grow_grow];rfl⟩
theorem kDr (blk off size:Nat)(w:World):CmpLays Tryz.prog 177 #[] zTk 2 zRq blk off size w:=fun _ _ _ _ x y=>zTl x y _
theorem kAe (l:List Pr)(hA:zB9 l)(d:Array Pr)(hp:PermIn 0 l.toArray.size l.toArray d)(hs:SortedIn (ltOf zRq) 0 l.toArray.size d):d=(srt l).toArray:=by
 obtain⟨h1,_,h3⟩:=hp;have e1:d.extract 0 l.toArray.size=d:=by rw[<-h1];simp
 have e2:l.toArray.extract 0 l.toArray.size=l.toArray:=by simp
 rw[e1,e2]at h3;have hperm:d.toList.Perm l:=by simpa using h3
 have hap:zB9 d.toList:=(hperm.pairwise_iff (R:=fun p q:Pr=>p.1≠q.1) (fun{a b} hab=>Ne.symm hab)).2 hA;have hr:zIp d.toList:=by
  unfold zIp;rw[List.pairwise_iff_getElem];intro i j hi hj hij;have hd:d.size=l.length:=by simpa using h1
  have hs':=hs i j (Nat.zero_le _) hij (by rw[<-h1];simpa using hj);rw[zRr,getElem!_pos d j (by simpa using hj),getElem!_pos d i (by simpa using hi)]at hs';have hne:=List.pairwise_iff_getElem.1 hap i j hi hj hij;cases h:ltK d.toList[i] d.toList[j]
  ·exact absurd (zMv _ _ h hs') hne
  ·rfl
 have:=kKn hr hperm;rw[<-this]
theorem kDs (g cap:Nat)(l:List Pr)(w:World)(hH:HoldsK zTk 2 w g 0 l.toArray)(hg:g<w.heap.size)(hl:l.length<4611686018427387904)(hA:zB9 l):
  Calls Tryz.prog 176 #[.slice (some ⟨g,0,none⟩) l.length cap,.func (.func 177) #[] #[]] w fun e w'=>e=.returned (.tuple #[])/\∃n os,w'=sortWorldK zTk 2 w g 0 n (srt l).toArray os:=by
 have eg:∀args w,(callFunc 177 args).run Tryz.prog w=.ok (.enter 177 args) w:=enters_of Tryz.func177 Ka rfl;have h:=AnyQ.slices_SortFunc kKp 2 Tryz.isAgg94 Tryz.sizeOf94 zTk (fun _=>rfl) (fun x v hv=>by simp[zTk]at hv;rcases hv with rfl|rfl<;>rfl) zRq kM7 177 #[] g 0 cap l.toArray w eg (kDr g 0 l.toArray.size w) hH hg (by simpa using hl);exact h.mono fun e w'⟨he,d',n,os,hp,hs,hw⟩=>⟨he,n,os,by rw[hw,kAe l hA d' hp hs]⟩
open Go.RowKit Go.WideMaps Go.Maps Go.Sort
theorem kFl {z:Lit}(h:keyOf Tryz.prog 9 key=some z):∃s:ByteArray,key=.string s/\z=kl s/\s.size<=maxLen:=by
 cases key<;>simp[keyOf,Tryz.underlying9,mapKey]at h
 rename_i s
 obtain⟨hs,rfl⟩:=h;exact⟨s,rfl,rfl,hs⟩
theorem kAf {z:Lit}(h:keyOf Tryz.prog 9 key=some z):∃s:ByteArray,key=Value.string s:=let⟨s,h,_⟩:=kFl h;⟨s,h⟩
theorem zWy {z:DataW Unit×List MemPlace}(h:plainElem Tryz.prog 9 v=some z):∃s:ByteArray,v=Value.string s:=let⟨s,h,_⟩:=plainElem_string_inv Tryz.underlying9 h;⟨s,h⟩
def zXq (l:List Pr)(left:Lit->Bool)(ss:List Pr):Prop:=zB9 ss/\∀p,p ∈ ss ↔ p ∈ l/\left (kl p.1)=false
theorem zXq.start (h:zLa D l):zXq l (Maps.has D) []:=⟨List.Pairwise.nil,fun p=>by
 constructor
 ·intro h;cases h
 ·rintro⟨h1,h2⟩;rw[h.1,zDb h.2.2.2 h1]at h2;cases h2⟩
theorem zXq.step {x c:ByteArray}(h:zLa D l)(hC:zXq l left ss)(hl:left (kl x)=true)(hat:∀zd,D.atKey (kl x) zd=.lit (.string c.data.toList)):
  zXq l (fun z=>left z&& !z.sameKey (kl x)) (ss++[(x,c)]):=by
 have hh:(zI3 l x).isSome=true:=by rw[<-h.1];exact has_true_of_atKey hat
 obtain⟨p,hp⟩:=Option.isSome_iff_exists.1 hh;obtain⟨hm,hx⟩:=zTh l x p hp;have hc:p=(x,c):=by
  have:=hat .nil;rw[h.2.1 x p _ hp]at this;simp only[DataW.lit.injEq,Lit.string.injEq]at this;exact Prod.ext hx (ByteArray.ext (Array.toList_inj.1 this))
 subst hc;refine⟨?_,fun q=>?_⟩
 ·unfold zB9;rw[List.pairwise_append];refine⟨hC.1,List.pairwise_singleton _ _,fun a ha b hb e=>?_⟩;simp at hb;subst hb;have:=((hC.2 a).1 ha).2;rw[e,hl]at this;cases this
 ·rw[List.mem_append,hC.2];by_cases e:q.1=x
  ·have hs:(kl q.1).sameKey (kl x)=true:=by rw[e];exact WideAt.sameKey_self (zPo x)
   simp only[hs,Bool.not_true,Bool.and_false];constructor
   ·rintro(h1|h1)
    ·exact⟨h1.1,trivial⟩
    ·simp at h1;subst h1;exact⟨hm,trivial⟩
   ·rintro⟨h1,_⟩;have:=zDb h.2.2.2 h1;rw[e,hp]at this;cases this
    exact Or.inr Kc
  ·have hs:(kl q.1).sameKey (kl x)=false:=sameKey_ne fun e'=>e (zR0 e');simp only[hs,Bool.not_false,Bool.and_true];constructor
   ·rintro(h1|h1)
    ·exact h1
    ·simp at h1;subst h1;exact absurd rfl e
   ·exact Or.inl
theorem zXq.perm (h:zLa D l)(hC:zXq l left ss)(hl:∀z,left z=false):srt ss=srt l:=
 zEw (zGe _ hC.1) (zGe _ h.2.2.2) fun p=>by rw[zPi,zPi,hC.2,hl];simp
theorem zXq.len (h:zLa D l)(hC:zXq l left ss)(hl:∀z,left z=false):ss.length=l.length:=by
 rw[<-zE2,hC.perm h hl,zE2]
theorem kKq :(Tryz.prog.info? 94).map (fun i=>(i.zero,i.size,i.bytes))=some (some (.agg #[.string ByteArray.empty,.string ByteArray.empty]),2,32):=Ka
def kAg (w:World)(base:Nat)(v:Value)(l:List Pr):Prop:=∃A cap,v=.slice A l.length cap/\w.ownsRow base 94 2 v l.length (flat l)
theorem zWz (b:Nat)(l:List Pr)(w:World)(hM:zHb w b l)(hA:zB9 l)(CC:l.length<=200):
  Calls Tryz.prog 163 #[.map (some b)] w fun e w'=>∃v,e=.returned v/\kAg w' w.heap.size v (srt l)/\Below w.heap.size w w':=by
 obtain⟨i0,hi,hz0,hz1,hz2⟩:=info_parts kKq;have hbl:=hM.lt;obtain⟨D,hown,nE⟩:=hM;have nG:=hd nE;have HA:=hd hA;have HS:=hd nE.2.2.1;clear nE hA;have mz:Kr (zHb w b l):=hd ⟨D,hown,nG.o⟩;go_enter Tryz.func163,Tryz.ntmps163
 go_wp2_with(first
  |(at_len;refine zHx _ rfl _ rfl b l rfl mz.o ?_)
  |(at_make;refine wpList_make_own _ rfl _ _ 22 rfl w.heap.size 94 i0 _ 2 Tryz.underlying22 hi hz0 hz1 _ _ _ l.length rfl rfl rfl (by rw[hz2];omega) Kg Km ?_;intro w1 sG hg1)
  |(at_range;refine wpList_range_own _ rfl _ 136 rfl 9 9 kD7 Tryz.underlying136 _ b l.length _ rfl (hown.kept hg1 Kc) ?_;intro w0 hrg0 hg0 hs0))
 go_frame
 go_loopw [3] (fun v wr=>∃(left:Lit->Bool)(cnt:Nat)(ss:List Pr),wr.ranges Tryz.prog 9 (plainElem Tryz.prog 9) b w1.heap.size l.length D left cnt/\ss.length+cnt<=200/\
   wr.ownsRow w.heap.size 94 2 v ss.length (flat ss)/\v≠.slice none 0 0/\Kr (zXq l left ss)/\Below w.heap.size w wr)
  (fun _ wr=>wr.rangeLeft b w1.heap.size)
 case atStart=>
  exact⟨_,_,[],hrg0,by rw[HS.o];simpa using CC,sG.kept hg0 (Or.inr (by simp[Value.ownBlock])),by simp,zXq.start nG.o,
   (Kl.grown hg1 Km (fun j hj=>by cases hj)).grown hg0 hg1.size (fun j hj=>by cases hj)⟩
 case round=>
  obtain⟨left,cnt,ss,hrg,hcs,hrow,hnn,hC,hnx⟩:=hrel;go_wp2_with(first
   |(at_next;refine wpList_next_ranges _ rfl _ rfl 9 kD7 (plainElem Tryz.prog 9) Value.string Value.string (fun key kl hk=>kAf hk) (fun v y hv=>zWy hv) b w1.heap.size l.length _ _ _ rfl hrg ?_ ?_))
  ·intro hc0 hl0;rcases hrow.2 with⟨hnil,_⟩|⟨g,cap,cur,rfl,hbase,hb,h1,h2,h3,h4⟩
   ·exact absurd hnil hnn
   have hperm:=hd (hC.o.perm nG.o hl0);have hlen:=hd (hC.o.len nG.o hl0);have hc:=hd (kDs g cap ss wr (zMx hb h4) (Array.getElem?_eq_some_iff.1 hb).1 Kb hC.o.1);have hfin:=fun nn os=>hd (zMz (n:=nn) (os:=os) (ts:=srt ss) (zE2 ss) hbase hb h1 h2 h3);clear hl0 hb h4;go_wp2_with(go_at_call 176;refine hc.o.mono ?_;rintro e w' ⟨rfl,nn,os,rfl⟩)
   go_ret
   have CE:kAg (sortWorldK zTk 2 wr g 0 nn (srt ss).toArray os) w.heap.size (.slice (some ⟨g,0,none⟩) ss.length cap) (srt l):=
    ⟨some ⟨g,0,none⟩,cap,by rw[zE2,<-hlen.o],by rw[zE2,<-hlen.o,<-hperm.o];exact(hfin nn os).o⟩
   exact⟨_,rfl,CE,hnx.grown (zMy _) hnx.size (fun j hj=>by cases hj;exact hbase)⟩
  ·intro x c kl yd yp w2 cnt2 hkey hlk hv hat hrg2 hlt hg2 hs2 hen;obtain⟨x',ex,rfl,hxs⟩:=kFl hkey;obtain rfl:x=x':=by injection ex
   obtain⟨c',ec,ux,hcs'⟩:=plainElem_string_inv Tryz.underlying9 hv;obtain rfl:c=c':=by injection ec
   have ux:=congrArg Prod.fst ux;dsimp only at ux;subst ux;have CF:=hd (zXq.step nG.o hC.o hlk hat);have hrow2:=hrow.kept hg2 (Or.inr (row_ne_iter hrow hrg).symm);have HX:=hd hat;clear hs2 ex ec hv hkey hat hlk;go_wp2_with(first
    |(at_builtin;refine wpList_append_own _ rfl _ _ 22 rfl w.heap.size 94 i0 _ 2 32 Tryz.underlying22 hi hz0 hz1 hz2 rfl Kd _ _ _ rfl (hrow2.alloc _) ⟨w2.heap.size,0,none⟩ 1 1 [.string x,.string c] rfl rfl (cell_two_new _ _ _ _) (by simp[Value.oneCell']) (by unfold maxLen at*;omega) Kb (by have:=hnx.size;have:=hg2.size;simp;omega) ?_;intro v' w3 hown' hg3 hnil3;go_frame))
   have hrg3:=(hrg2.alloc (.cells #[.string x,.string c] 94)).kept hg3 (row_ne_low hrow2 hbl) (row_ne_iter hrow2 hrg2);have hrow3:w3.ownsRow w.heap.size 94 2 v' (ss++[(x,c)]).length (flat (ss++[(x,c)])):=by
    rw[zRo,List.length_append];exact hown'
   have hb3:=((hnx.grown hg2 hnx.size (fun j hj=>by cases hj;exact hg1.size)).alloc (by have:=hnx.size;have:=hg2.size;omega) (.cells #[.string x,.string c] 94)).grown hg3 (by have:=hnx.size;have:=hg2.size;simp;omega) (fun j hj=>(hrow2.lt j hj).1);go_roundw
   case rel=>exact⟨_,cnt2,ss++[(x,c)],hrg3,by simp;omega,hrow3,fun hv'=>by have:=(hnil3.1 hv').2;omega,CF,hb3⟩
   case measure=>rw[hrg3.left_eq,hrg.left_eq];exact hlt
open Go.RowKit Go.WideMaps Go.Maps
theorem kAg.base {b b':Nat}(h:kAg w b v l)(hb:b'<=b):kAg w b' v l:=by
 obtain⟨A,cap,e,h1,h2⟩:=h;refine⟨A,cap,e,h1,?_⟩;rcases h2 with h2|⟨g,c,cur,e2,hg,r⟩
 ·exact Or.inl h2
 ·exact Or.inr ⟨g,c,cur,e2,by omega,r⟩
theorem kFm (b:Nat)(l:List Pr)(k v:ByteArray)(r:Bool)(w:World)(hr:zGz l (k,v)=r)(hM:zHb w b l)(hA:zB9 l)(hk:k.size<=100):
  Calls Tryz.prog 162 #[.map (some b),.agg #[.string k,.string v]] w fun e w'=>e=.returned (.bool r)/\Below w.heap.size w w':=hr▸kH6 b l k v w hM hA hk
theorem kDt {a b:Value}{t:TypeId}(h:Below (w.alloc (.cells #[a,b] t)).heap.size (w.alloc (.cells #[a,b] t)) w'):w'.cell? ⟨w.heap.size,0,none⟩=some a/\w'.cell? ⟨w.heap.size,1,none⟩=some b:=
 ⟨(h.cell (p:=⟨w.heap.size,0,none⟩) Kc).trans Kc,(h.cell (p:=⟨w.heap.size,1,none⟩) Kc).trans Kc⟩
open Go.RowKit
theorem kAg.nil (w:World)(b:Nat):kAg w b (.slice none 0 0) []:=⟨none,0,rfl,rfl,Or.inl ⟨rfl,rfl⟩⟩
theorem LL3 {A B C:Option Addr}{m n:List Pr}(c d e:Nat)(hp:PL w w.heap.size A l)(hq:PL w w.heap.size B m)(hr:PL w w.heap.size C n):
  qLL (w.alloc (.cells #[.slice A l.length c,.slice B m.length d,.slice C n.length e] 22)) w.heap.size 0 3 (zGf A B C) (zGf l m n) (zGf c d e):=by
 refine⟨by simp,fun k hk=>?_⟩;have keep:Below w.heap.size w (w.alloc (.cells #[.slice A l.length c,.slice B m.length d,.slice C n.length e] 22)):=Kl.alloc Km _;match k,hk with
 |0,_=>exact⟨by simp[zGf],(hp.below keep).more keep.size⟩
 |1,_=>exact⟨by simp[zGf],(hq.below keep).more keep.size⟩
 |2,_=>exact⟨by simp[zGf],(hr.below keep).more keep.size⟩
def zPk (w:World)(E:Int)(e:Ending)(w':World):Prop:=e=.returned (.tuple #[.slice none 0 0,.int .i64 E])/\Below w.heap.size w w'
def kAh (w:World)(l:List Pr)(e:Ending)(w':World):Prop:=∃v,e=.returned (.tuple #[v,.int .i64 0])/\kAg w' w.heap.size v l/\Below w.heap.size w w'
theorem zRt (A B C:Option Addr)(l m n:List Pr)(c d f:Nat)(w:World)(hF:zIo l)(hG:zIo m)(hH:zIo n)(hp:PL w w.heap.size A l)(hq:PL w w.heap.size B m)(hr:PL w w.heap.size C n)(r:Int)(hE:chk3 l m n=r):
  Calls Tryz.prog 160 #[.slice (some ⟨w.heap.size,0,none⟩) 3 3] (w.alloc (.cells #[.slice A l.length c,.slice B m.length d,.slice C n.length f] 22)) fun e w'=>e=.returned (.int .i64 r)/\Below w.heap.size w w':=by
 subst hE;rw[<-kHo];exact(zRz w.heap.size 0 3 3 (zGf A B C) (zGf l m n) (zGf c d f) _ Kb (fun k hk=>by
  match k,hk with
  |0,_=>exact hF
  |1,_=>exact hG
  |2,_=>exact hH) (LL3 c d f hp hq hr)).mono fun e w'⟨he,hb⟩=>⟨he,(Kl.alloc Km _).trans (hb.mono Kc)⟩
theorem kAi (A B C:Option Addr)(l m n:List Pr)(c d f:Nat)(w:World)(hF:zIo l)(hG:zIo m)(hH:zIo n)(hp:PL w w.heap.size A l)(hq:PL w w.heap.size B m)(hr:PL w w.heap.size C n)(E:Int)(hE:chk3 l m n=E)(h0:(E !=0)=true):
  Calls Tryz.prog 134 #[.slice A l.length c,.slice B m.length d,.slice C n.length f] w (zPk w E):=by
 have hC:=hd (zRt A B C l m n c d f w hF hG hH hp hq hr E hE);clear hE hp hq hr hF hG hH;go_enter Tryz.func134,Tryz.ntmps134
 go_wp2_with(go_at_call 160;refine hC.o.mono ?_;rintro e w1 ⟨rfl,hb1⟩)
 go_ret2
 exact⟨rfl,hb1⟩
def zId (w:World)(l old new:List Pr)(e:Ending)(w':World):Prop:=if zDp l old new=0 then kAh w (zA7 l old new) e w' else zPk w (zDp l old new) e w'
theorem zTm {old new:List Pr}{E:Int}{e:Ending}(h:zDp l old new=E)(h0:E≠0)(hr:zPk w E e w'):zId w l old new e w':=by
 unfold zId;rw[h,if_neg h0];exact hr
theorem kKr {old new:List Pr}{e:Ending}(h:zDp l old new=0)(hr:kAh w (zA7 l old new) e w'):zId w l old new e w':=by
 unfold zId;rw[if_pos h];exact hr
theorem kDu (A B C:Option Addr)(l old new:List Pr)(c d f:Nat)(w:World)(hl:chk l=0)(ho:chk old=0)(hn:chk new=0)(hp:PL w w.heap.size A l)(hq:PL w w.heap.size B old)(hr:PL w w.heap.size C new):
  Calls Tryz.prog 134 #[.slice A l.length c,.slice B old.length d,.slice C new.length f] w (zId w l old new):=by
 have HF:=hd (zIc hl);have HG:=hd (zIc ho);have HH:=hd (zIc hn);have uy:=hd (zBv hl);have CG:=hd (zBv ho);have zg:=hd (zBv hn);have EB:=((zC8 l).1 hl).1;have EC:=((zC8 old).1 ho).1;have n16:=((zC8 new).1 hn).1;have hC:=hd (zRt A B C l old new c d f w HF.o.wide HG.o.wide HH.o.wide hp hq hr 0 (by unfold chk3 kFk;rw[if_pos hl,if_pos ho];exact hn));have HP:=hd hp;have HQ:=hd hq;have HR:=hd hr;clear hl ho hn hp hq hr;go_enter Tryz.func134,Tryz.ntmps134
 go_wp2_with(go_at_call 160;refine hC.o.mono ?_;rintro e w1 ⟨rfl,hb1⟩)
 clear hC;refine(zW5 A l c w1 HF.o uy.o (HP.o.qlater hb1)).mono ?_;rintro e w2 ⟨rfl,mz,hb2⟩;have hw2:Below w.heap.size w w2:=hb1.trans (hb2.mono hb1.size);have hge:w.heap.size<=w1.heap.size:=hb1.size;obtain⟨b0,hb0⟩:∃b0,b0=w1.heap.size:=⟨_,rfl⟩;rw[<-hb0]at mz hge⊢;clear hb0 hb2;go_wp2_with fail
 go_loopw [28] (fun i wr=>∃n:Nat,n<=old.length/\i=.int .i64 n/\zHb wr b0 (zD1 l (old.take n))/\Below w.heap.size w wr/\Kr (∀j,j<n->zGz l ((jU old j).1,(jU old j).2)=true)) (fun i _=>old.length-(intOf i).toNat)
 case atStart=>exact⟨0,Nat.zero_le _,rfl,by rw[List.take_zero,zZ7];exact mz,hw2,fun j hj=>absurd hj (Nat.not_lt_zero _)⟩
 case round=>
  clear mz hw2 hb1;obtain⟨n,hn,rfl,hM,hb,HX⟩:=hrel;by_cases hlt:n<old.length
  ·obtain⟨g,o,rfl,wQ,c1,c2⟩:=(HQ.o.below hb).at_ hlt;obtain⟨s1,s2⟩:=HG.o.at_ hlt;have sH:Kr ((jU old n).1.size<=maxLen):=hd Kg;have HT:=hd (zMt old n hlt);have qM:=hd (zD2 uy.o (old.take n));have iL:=hd (kDp (l:=l) CG.o hlt);obtain⟨l',hl'⟩:∃l',l'=zD1 l (old.take n):=⟨_,rfl⟩;rw[<-hl']at hM qM iL;have HL:=hd hl';clear hl';cases hh:zGz l' ((jU old n).1,(jU old n).2)
   ·have HE:Kr (zDp l old new=9):=hd (by unfold zDp;rw[if_pos (zWw hlt (by rw[<-iL.o];exact hh))]);have hC:=hd (kFm b0 l' (jU old n).1 (jU old n).2 _ (wr.alloc (.cells #[.string (jU old n).1,.string (jU old n).2] 94)) hh (hM.alloc _) qM.o s1);clear hh;go_wp2_with(go_at_call 162;refine hC.o.mono ?_;rintro e w3 ⟨rfl,hb3⟩)
    go_ret2
    exact zTm HE.o Kd ⟨rfl,(hb.alloc hb.size _).trans (hb3.mono (by have:=hb.size;simp;omega))⟩
   ·have HY:=zBm (p:=fun j=>zGz l ((jU old j).1,(jU old j).2)=true) HX (by rw[<-iL.o];exact hh);have HN:=hd (zZ9 uy.o (old.take n) ((jU old n).1,(jU old n).2) (by rw[<-HL.o];exact hh));have hC:=hd (kFm b0 l' (jU old n).1 (jU old n).2 _ (wr.alloc (.cells #[.string (jU old n).1,.string (jU old n).2] 94)) hh (hM.alloc _) qM.o s1);have CH:=hM.alloc (.cells #[.string (jU old n).1,.string (jU old n).2] 94);clear hh HX;go_wp2_with(first
     |(go_at_call 162;refine hC.o.mono ?_;rintro e w3 ⟨rfl,hb3⟩;obtain⟨k1,k2⟩:=kDt hb3;have ij:=CH.below hb3)
     |(at_delete;refine zNa _ rfl _ _ rfl b0 l' rfl ij (jU old n).1 rfl sH.o ?_;intro w4 mz hg2))
    have hb4:Below w.heap.size w w4:=((hb.alloc hb.size _).trans (hb3.mono (by have:=hb.size;simp;omega))).grown hg2 (by have:=hb.size;have:=hb3.size;simp at this;omega) (fun j hj=>by cases hj;exact hge);go_roundw
    case rel=>exact⟨n+1,by omega,by go_num,by rw[HT.o,HN.o,<-HL.o];exact mz,hb4,HY⟩
    case measure=>simp[intOf];omega
  ·have HS:=hd (zTi (l:=l) (old:=old) (fun j hj=>HX.o j Kb));have ij:zHb wr b0 (zD1 l old):=by rw[List.take_of_length_le Kb]at hM;exact hM
   have qM:=hd (zD2 uy.o old);have ed:=zZ8 l old;obtain⟨l',hl'⟩:∃l',l'=zD1 l old:=⟨_,rfl⟩;rw[<-hl']at ij qM ed;have HL:=hd hl';clear hl' hM HX;obtain⟨wo,hwo⟩:∃wo:World,wo=wr:=⟨_,rfl⟩;subst hwo;go_wp2
   go_loopw [42] (fun i wr=>∃n:Nat,n<=new.length/\i=.int .i64 n/\zHb wr b0 (l'++new.take n)/\Below w.heap.size w wr/\Kr (∀j,j<n->zKz l' (jU new j).1=false)) (fun i _=>new.length-(intOf i).toNat)
   case atStart=>exact⟨0,Nat.zero_le _,rfl,by rw[List.take_zero,List.append_nil];exact ij,hb,fun j hj=>absurd hj (Nat.not_lt_zero _)⟩
   case round=>
    clear ij hb;obtain⟨k,hk,rfl,hM,hb,HX⟩:=hrel;by_cases sI:k<new.length
    ·obtain⟨g,o,rfl,wQ,c1,c2⟩:=(HR.o.below hb).at_ sI;obtain⟨s1,s2⟩:=HH.o.at_ sI;have sH:Kr ((jU new k).1.size<=maxLen):=hd Kg;have CI:Kr ((jU new k).2.size<=maxLen):=hd Kg;have lm:Kr ((l'++new.take k).length<maxLen):=hd (by rw[List.length_append,List.length_take];unfold maxLen;omega);have sJ:=hd (kAb (l:=l') zg.o sI);have HT:=hd (zMt new k sI);cases hh:zKz l' (jU new k).1
     ·have hg0:zKz (l'++new.take k) (jU new k).1=false:=by rw[sJ.o];exact hh
      have CJ:=hd (zHq hg0);have HY:=zBm (p:=fun j=>zKz l' (jU new j).1=false) HX hh;clear hh HX;go_wp2_with(first
       |(at_lookup;refine zDr _ rfl _ _ rfl b0 (l'++new.take k) rfl (hM.alloc _) (jU new k).1 rfl sH.o ?_)
       |(at_mapUpdate;refine zR1 _ rfl _ _ _ rfl b0 (l'++new.take k) rfl (hM.alloc _) lm.o (jU new k).1 (jU new k).2 rfl rfl sH.o CI.o CJ.o ?_;intro w4 mz hg2))
      have CK:zHb w4 b0 (l'++new.take (k+1)):=by rw[HT.o,<-List.append_assoc];exact mz
      have hb4:Below w.heap.size w w4:=(hb.alloc hb.size _).grown hg2 (by have:=hb.size;simp;omega) (fun j hj=>by cases hj;exact hge);go_roundw
      case rel=>exact⟨k+1,by omega,by go_num,CK,hb4,HY⟩
      case measure=>simp[intOf];omega
     ·have hg0:zKz (l'++new.take k) (jU new k).1=true:=by rw[sJ.o];exact hh
      have HE:Kr (zDp l old new=9):=hd (by
       unfold zDp;rw[HS.o,<-HL.o,kDo sI hh];rfl)
      clear hh HX;go_wp2_with(first
       |(at_lookup;refine zDr _ rfl _ _ rfl b0 (l'++new.take k) rfl (hM.alloc _) (jU new k).1 rfl sH.o ?_))
      go_ret2
      exact zTm HE.o Kd ⟨rfl,hb.alloc hb.size _⟩
    ·have wR:=hd (kAa (l:=l') (new:=new) (fun j hj=>HX.o j Kb));have ij:zHb wr b0 (l'++new):=by rw[List.take_of_length_le Kb]at hM;exact hM
     have zh:=hd (kAc qM.o zg.o wR.o);have hlen:Kr ((l'++new).length=l'.length+new.length):=hd List.length_append;clear hM HX;obtain⟨r,hr⟩:∃r,r=l'++new:=⟨_,rfl⟩;rw[<-hr]at ij zh hlen;have CL:=hd hr;clear hr;by_cases nv:(16:Int)<(r.length:Int)
     ·have HE:Kr (zDp l old new=2):=hd (by
       unfold zDp;rw[HS.o,<-HL.o,wR.o,if_neg Kc,if_neg Kc,if_pos (by have:=hlen.o;omega)])
      go_wp2_with(first|(at_len;refine zHx _ rfl _ rfl b0 r rfl ij ?_))
      go_ret2
      exact zTm HE.o Kd ⟨rfl,hb⟩
     ·have HE:Kr (zDp l old new=0):=hd (by
       unfold zDp;rw[HS.o,<-HL.o,wR.o,if_neg Kc,if_neg Kc,if_neg (by have:=hlen.o;omega)])
      have uz:Kr (zA7 l old new=srt r):=hd (by unfold zA7;rw[CL.o,HL.o]);have hC:=hd (zWz b0 r wr ij zh.o Kb);go_wp2_with(first
       |(at_len;refine zHx _ rfl _ rfl b0 r rfl ij ?_)
       |(go_at_call 163;refine hC.o.mono ?_;rintro e w5 ⟨v,rfl,hO,bz⟩))
      go_ret2
      exact kKr HE.o ⟨v,rfl,by rw[uz.o];exact hO.base hb.size,hb.trans (bz.mono hb.size)⟩
def zM0 (w:World)(E:Int)(L:List Pr)(e:Ending)(w':World):Prop:=∃v,e=.returned (.tuple #[v,.int .i64 E])/\kAg w' w.heap.size v L/\Below w.heap.size w w'
theorem kDv (A B C:Option Addr)(l old new:List Pr)(c d f:Nat)(w:World)(hF:zIo l)(hG:zIo old)(hH:zIo new)(hp:PL w w.heap.size A l)(hq:PL w w.heap.size B old)(hr:PL w w.heap.size C new)(E:Int)(hE:PE l old new=E)(L:List Pr)(hL:PLs l old new=L):
  Calls Tryz.prog 134 #[.slice A l.length c,.slice B old.length d,.slice C new.length f] w (zM0 w E L):=by
 subst hE hL;by_cases h3:chk3 l old new=0
 ·have h3':=h3;unfold chk3 kFk at h3';have e1:chk l=0:=by
   by_cases e:chk l=0
   ·exact e
   ·rw[if_neg e]at h3';exact absurd h3' e
  rw[if_pos e1]at h3';have e2:chk old=0:=by
   by_cases e:chk old=0
   ·exact e
   ·rw[if_neg e]at h3';exact absurd h3' e
  rw[if_pos e2]at h3';refine(kDu A B C l old new c d f w e1 e2 h3' hp hq hr).mono fun e w' h=>?_;have wS:PE l old new=zDp l old new:=by unfold PE;rw[if_pos h3]
  unfold zId at h;unfold zM0 PLs;rw[wS];by_cases h0:zDp l old new=0
  ·rw[if_pos h0]at h⊢;rw[h0];exact h
  ·rw[if_neg h0]at h⊢;exact⟨_,h.1,kAg.nil _ _,h.2⟩
 ·refine(kAi A B C l old new c d f w hF hG hH hp hq hr _ rfl (by simpa using h3)).mono fun e w' h=>?_;have wS:PE l old new=chk3 l old new:=by unfold PE;rw[if_neg h3]
  unfold zM0 PLs;rw[wS,if_neg h3];exact⟨_,h.1,kAg.nil _ _,h.2⟩
def bs (l:List UInt8):ByteArray:=⟨l.toArray⟩
