import Derived.Test.YtmglnjmnabjjgaaGreatJTOrd
import Derived.Lib.AppendZeros
set_option maxRecDepth 4000
set_option maxHeartbeats 8000000
namespace Go.Proofs.YtmglnjmnabjjgaaGreat
open Go.RowKit
open Go.WideShapes (add_plain)
variable {W w w':World}{B g:Nat}{r10 r11 r12 r13 r14 r15 r16 r17 r18 r19 r20 r4 r5 r6 r7 r8 r9 u v x0 x1 x2 x3:Value}{t:TypeId}{l m:List Int}{b:Bool}
theorem kP7 {P:Prop}(h:P:=by
 clear HA;go_wp2
 go_ret
 exact kW (zA3 (by rw[HF.o])) Ki):P:=h
theorem zXf (A:Option Addr)(l:List Int)(n c:Nat)(w:World)(hn:l.length=n)(hl:n<=9223372036854775807)(hp:IL w w.heap.size A l):
  Calls Tryz.prog 82 #[.slice A n c] w (zHa (.bool (jI l)) w):=by
 have HP:=hd hp;have HN:=hd hn;clear hp hn;go_enter Tryz.func82,Tryz.ntmps82
 go_wp2
 go_loopw [7] (fun i wr=>∃k:Nat,k<=n/\i=.int .i64 k/\(∃m,wr=w.drewN m)/\Kr (∀j,j<k->0<=iAt l j/\iAt l j<=1048576)) (fun i _=>n-(intOf i).toNat)
 case atStart=>exact⟨0,Nat.zero_le _,rfl,⟨0,rfl⟩,fun j hj=>absurd hj (Nat.not_lt_zero _)⟩
 case round=>
  obtain⟨k,hk,rfl,⟨kd,rfl⟩,HA⟩:=hrel;by_cases hlt:k<n
  ·obtain⟨b1,o1,rfl,bl,c1⟩:=HP.o.at_ (show k<l.length by have:=HN.o;omega);by_cases h1:iAt l k<0
   ·have HF:=hd (zQx l k (by have:=HN.o;omega) Kb);exact kP7
   ·by_cases h2:1048576<iAt l k
    ·have HF:=hd (zQx l k (by have:=HN.o;omega) Kb);exact kP7
    ·have HB:=zBm (p:=fun j=>0<=iAt l j/\iAt l j<=1048576) HA ⟨by omega,by omega⟩;clear HA;go_wp2
     go_roundw
     case rel=>exact⟨k+1,by omega,by first|go_num|rfl,Ki,HB⟩
     case measure=>first|(simp[intOf];done)|(simp[intOf];omega)
  ·have HF:=hd ((zDf l).2 (fun j hj=>HA.o j (by have:=HN.o;omega)));exact kP7
theorem kA9 (A B:Option Addr)(l m:List Int)(n k c d:Nat)(w:World)(hn:l.length=n)(hk:m.length=k)(hl:n<=1000000)(hm:k<=1000000)(hp:IL w w.heap.size A l)(hq:IL w w.heap.size B m):
  Calls Tryz.prog 84 #[.slice A n c,.slice B k d] w (zHa (.int .i64 (zX l m)) w):=by
 subst hn hk;have HL:=hd (fun j=>kAs A B l m c d (w.drewN j) Kb Kb hp hq);have HS:=hd (fun j=>zQi A B l m c d (w.drewN j) Kb Kb hp hq);have HA:=hd (fun j=>zYe A B l m c d (w.drewN j) Kb Kb hp hq);clear hp hq;rcases zAt l m with⟨h0,h1,h2,h3⟩|⟨h0,h1,h2,h3⟩|⟨h0,h1,h2,h3⟩|⟨h0,h1,h2,h3⟩;all_goals
  rw[h1]at HL
  rw[h2]at HS
  rw[h3]at HA
  have H0:=hd h0
  clear h0 h1 h2 h3
  go_enter Tryz.func84,Tryz.ntmps84
  go_wp2_with(first
   |(go_at_call 115;refine Calls.mono (HL.o 0) ?_;rintro e w1 ⟨rfl,j1,rfl⟩)
   |(go_at_call 23;refine Calls.mono (HS.o _) ?_;rintro e w1 ⟨rfl,j2,rfl⟩)
   |(go_at_call 116;refine Calls.mono (HA.o _) ?_;rintro e w1 ⟨rfl,j3,rfl⟩))
  go_ret
  exact kW (zF2 (by rw[H0.o])) (by first|exact⟨_,rfl⟩|(simp only[World.drewN_drewN];exact⟨_,rfl⟩))
theorem zXg :madeCells #[Value.int .i64 0] 0=#[]:=by simp[madeCells,Array.range]
theorem zXh (A:Option Addr)(l:List Int)(n c:Nat)(w:World)(hn:l.length=n)(hl:n<=1000)(hp:IL w w.heap.size A l):
  Calls Tryz.prog 77 #[.slice A n c] w (zVq w l):=by
 have HP:=hd hp;have HN:=hd hn;clear hp hn;rcases A with _|a
 ·have hnil:=fun W=>Go.Lib.run_eql_slice_nil (P:=Tryz.prog) W 27 3 none n c 0 0 Tryz.underlying27;have HL:=hd (show l=[] by
   rcases Classical.em (l=[])with h|h
   ·exact h
   ·obtain⟨_,_,h,_⟩:=HP.o h;cases h)
  go_enter Tryz.func77,Tryz.ntmps77
  go_wp2
  go_ret
  exact⟨_,rfl,by rw[HL.o];exact zBt.nil _ _,Below.refl _ _⟩
 ·have hnil:=fun W=>Go.Lib.run_eql_slice_nil (P:=Tryz.prog) W 27 3 (some a) n c 0 0 Tryz.underlying27;go_enter Tryz.func77,Tryz.ntmps77
  have HO:=hd (show zBt (w.alloc (.cells #[] 3)) w.heap.size (.slice (some ⟨w.heap.size,0,none⟩) 0 0) []from zXg▸zBt.made w w.heap.size 0 Kb Km);go_wp2_with(at_builtin;(refine zCf _ rfl (.tmp 5) (.tmp 6) rfl w.heap.size (.slice (some ⟨w.heap.size,0,none⟩) 0 0) [] l rfl HO.o (some a) n c w.heap.size rfl HN.o (HP.o.below (Kl.alloc Km _)) (by have:=HN.o;simp;omega) Kc ?_;intro v' w1 aQ hg1))
  go_ret
  exact⟨v',rfl,by simpa using aQ,hg1.below _ _ Km Kc (Kl.alloc Km _)⟩
theorem kEm (A B:Option Addr)(l r:List Int)(n m k c d:Nat)(w:World)(hn:l.length=n)(hm:r.length=m)(hl:n<=1000)(hk:m≠0->k+m<=n)(hL:∀j,j<n-> -4000000<=iAt l j/\iAt l j<=4000000)(hR:∀j,j<m-> -4000000<=iAt r j/\iAt r j<=4000000)(hp:IL w w.heap.size A l)(hq:IL w w.heap.size B r):
  Calls Tryz.prog 83 #[.slice A n c,.int .i64 k,.slice B m d] w (zVq w (plusL l k r)):=by
 have HC:=hd (zXh A l n c w hn hl hp);have HN:=hd hn;have HM:=hd hm;have HL:=hd hL;have HR:=hd hR;have HQ:=hd hq;have yZ:=hd (fun j=>zJf (r.take j) l k);clear hn hm hL hR hp hq;go_enter Tryz.func83,Tryz.ntmps83
 go_wp2_with(go_at_call 77;refine Calls.mono HC.o ?_;rintro e w1 ⟨v1,rfl,ho,hb⟩;obtain⟨A1,c1,rfl,h1,h2⟩:=ho.open_at n HN.o;have HO:=hd ho;have HB:=hd hb;clear h2 ho hb)
 go_loopw [14] (fun i wr=>∃j:Nat,j<=m/\i=.int .i64 j/\Kr (zBt wr w.heap.size (.slice A1 n c1) (plusL l k (r.take j)))/\Kr (Below w.heap.size w wr)) (fun i _=>m-(intOf i).toNat)
 case atStart=>exact⟨0,Nat.zero_le _,rfl,HO,HB⟩
 case round=>
  obtain⟨j,hj,rfl,BG,za⟩:=hrel;by_cases hlt:j<m
  ·have hk:=hk Kb;obtain⟨b2,o2,rfl,hl2,e2⟩:=(HQ.o.below za.o).at_ (show j<r.length by have:=HM.o;omega);obtain⟨g,c2,e,g1,g2,g3,g4,g5,g6,g7⟩:=BG.o.form (by rw[yZ.o,HN.o];omega);rw[yZ.o,HN.o]at e;injection e with ea _ ec;subst ea ec;have e3:=g5 (k+j) (by rw[yZ.o,HN.o];omega);rw[zN3 _ _ _ _ (by rw[List.length_take];have:=HM.o;omega)]at e3;have e4:=g6 (k+j);have H7:=hd (g7 (k+j) (iAt l (k+j)+iAt r j));have b3:=HL.o (k+j) Kb;have b4:=HR.o j hlt;have HX:=hd (show plusL l k (r.take (j+1))=(plusL l k (r.take j)).set (k+j) (iAt l (k+j)+iAt r j) by
    rw[zVy _ _ _ _ (by have:=HM.o;omega),addL,zN3 _ _ _ _ (by rw[List.length_take];have:=HM.o;omega)])
   have aL:=hd (za.o.setCell g3 (p:=⟨g,k+j,none⟩) (.int .i64 (iAt l (k+j)+iAt r j)));clear g1 g2 g5 g6 g7;go_wp2
   go_roundw
   case rel=>exact⟨j+1,by omega,by first|go_num|rfl,hd (by rw[HX.o];exact H7.o),aL⟩
   case measure=>first|(simp[intOf];done)|(simp[intOf];omega)
  ·obtain rfl:j=m:=Kb;have HX:=hd (show r.take j=r by rw[<-HM.o,List.take_length]);go_wp2
   go_ret
   exact⟨_,rfl,by have:=BG.o;rwa[HX.o]at this,za.o⟩
theorem kBa (n:Nat)(h0:0<n)(hn:n<=10000)(w:World)(ty:TypeId):∃cap cells,(Builtin.append_ #[27,3] ty #[.slice none 0 0,.int .i64 n]).run Tryz.prog w=.ok (.slice (some ⟨w.heap.size,0,none⟩) n cap) (w.drew.alloc (.cells cells 3))/\n<=cap/\cap<=maxLen/\cells.size=cap:=by
 obtain⟨i0,hi,hz0,hz1,hz2⟩:=info_parts zSm;have hc:=grownCap_ge w n 0 3;refine⟨_,_,Lib.run_append_nil_zeros w 27 3 ty 3 i0 _ .i64 .i64 Tryz.underlying27 Tryz.underlying3 hi hz0 n h0 Kb Kb (by rw[hz2];omega),hc,grownCap_le_maxLen w n 0 _ Kg,?_⟩;simp[Builtin.zeroCells,Value.cells];omega
theorem kEn (n:Nat)(w:World)(hn:n<=10000):Calls Tryz.prog 117 #[.slice none 0 0,.int .i64 n] w (zVq w []):=by
 by_cases h0:0<n
 ·obtain⟨cap,cells,hrun,h1,h2,h3⟩:=kBa n h0 hn w 27;have H3:=hd h3;have qy:=hd hrun;have xD:(0:Int)<n:=Kb;clear h3 hrun;go_enter Tryz.func117,Tryz.ntmps117
  go_wp2_with(at_builtin;refine Lib.wpList_append_run _ rfl (.tmp 20) (.tmp 21) _ _ rfl (.slice none 0 0) (.int .i64 n) rfl rfl _ _ qy.o ?_)
  go_ret
  exact⟨_,rfl,zBt.of_own (World.ownsRow_made w.drew cells cap Km h2 (by rw[H3.o];simp)) rfl,((zZ Kl 1).alloc Km _)⟩
 ·obtain rfl:n=0:=Kb;go_enter Tryz.func117,Tryz.ntmps117
  go_wp2
  go_ret
  exact⟨_,rfl,zBt.nil _ _,Below.refl _ _⟩
def zR8 (L:Nat->List Int):Nat->List Int
 |0=>[]
 |k+1=>zR8 L k++L k
theorem kEo (L:Nat->List Int)(N:Nat)(h:∀k,k<N->(L k).length<=1000)(k:Nat)(hk:k<=N):(zR8 L k).length<=k*1000:=by
 induction k with
 |zero=>simp[zR8]
 |succ k ih=>
  have:=ih Kb;have:=h k Kb;simp[zR8];omega
theorem zXi (b o N c:Nat)(As:Nat->Option Addr)(L:Nat->List Int)(cs:Nat->Nat)(w:World)(hN:N<=4)(hlen:∀k,k<N->(L k).length<=1000)(hcell:∀k,k<N->w.cell? ⟨b,o+k,none⟩=some (.slice (As k) (L k).length (cs k)))(hb:b<w.heap.size)
  (hv:∀k,k<N->IL w w.heap.size (As k) (L k)):Calls Tryz.prog 85 #[.slice (some ⟨b,o,none⟩) N c] w (zVq w (zR8 L N)):=by
 have HL:=hd hlen;have HC:=hd hcell;have HV:=hd hv;have HT:=hd (kEo L N hlen);clear hlen hcell hv;go_enter Tryz.func85,Tryz.ntmps85
 go_wp2
 go_loop [3,11] (fun s i=>∃k:Nat,k<=N/\i=.int .i64 k/\s=.int .i64 (zR8 L k).length) (fun _ i=>N-(intOf i).toNat)
 case atStart=>exact⟨0,Nat.zero_le _,rfl,rfl⟩
 case round=>
  obtain⟨k,hk,rfl,rfl⟩:=hrel;have ht:=HT.o k hk;have ht2:k*1000<=4000:=Kb;by_cases hlt:k<N
  ·have hc:=HC.o k hlt;have hl:=HL.o k hlt;have HX:=hd (show((zR8 L (k+1)).length:Int)=(zR8 L k).length+(L k).length by simp[zR8]);go_wp2
   go_round
   case rel=>exact⟨k+1,by omega,by go_num,by rw[HX.o]⟩
   case measure=>simp[intOf];omega
  ·obtain rfl:k=N:=Kb;clear hlt;go_wp2_with fail
   refine(kEn (zR8 L k).length w Kb).mono ?_;rintro e w1 ⟨v1,rfl,aQ,hb1⟩;have bV:=hd (show zBt w1 w.heap.size v1 (zR8 L 0)from aQ);clear aQ;go_wp2_with fail
   go_loopw [6,27] (fun v i wr=>∃j:Nat,j<=k/\i=.int .i64 j/\Kr (zBt wr w.heap.size v (zR8 L j))/\Below w.heap.size w wr) (fun _ i _=>k-(intOf i).toNat)
   case atStart=>exact⟨0,Nat.zero_le _,rfl,bV,hb1⟩
   case round=>
    obtain⟨j,hj,rfl,ho,hbr⟩:=hrel;by_cases hlt:j<k
    ·have hc:=(hbr.cell (p:=⟨b,o+j,none⟩) hb).trans (HC.o j hlt);have yg:=hd ((HV.o j hlt).below hbr);have hl:=HL.o j hlt;have D5:=HT.o j hj;have hl2:(zR8 L j).length+(L j).length<=10000:=Kb;go_wp2_with(at_builtin;refine zCf _ rfl (.tmp 31) (.tmp 32) rfl w.heap.size _ (zR8 L j) (L j) rfl ho.o (As j) (L j).length (cs j) w.heap.size rfl rfl yg.o hl2 hbr.size ?_;intro v2 w2 aH hg2)
     have qz:=hd (show zBt w2 w.heap.size v2 (zR8 L (j+1))from aH);have hb2:=hg2.below w.heap.size w Km hbr.size hbr;clear aH;go_roundw
     case rel=>exact⟨j+1,by omega,by go_num,qz,hb2⟩
     case measure=>simp[intOf];omega
    ·obtain rfl:j=k:=Kb;go_wp2
     go_ret
     exact⟨_,rfl,ho.o,hbr⟩
theorem xlt {o:Obj}(h:w.heap[g]? =some o):g<w.heap.size:=(Array.getElem?_eq_some_iff.1 h).1
theorem zI1 {o:Obj}(h:W.heap[g]? =some o)(hb:Below W.heap.size W w'):w'.heap[g]? =some o:=(hb.block _ (xlt h)).trans h
theorem zD9 (h:w.heap[g]? =some (.cells #[x0,x1,x2,x3,r4,r5,r6,r7,r8,r9,r10,r11,r12,r13,r14,r15,r16,r17,r18,r19,r20] t (0,0))):
  w.cell? ⟨g,0,none⟩=some x0/\w.cell? ⟨g,1,none⟩=some x1/\w.cell? ⟨g,2,none⟩=some x2/\w.cell? ⟨g,3,none⟩=some x3:=by
 refine⟨?_,?_,?_,?_⟩<;>simp[World.cell?,h]
theorem zH2 (h:w.heap[g]? =some (.cells #[x0,x1,x2,x3,r4,r5,r6,r7,r8,r9,r10,r11,r12,r13,r14,r15,r16,r17,r18,r19,r20] t (0,0))):
  w.cell? ⟨g,4,none⟩=some r4/\w.cell? ⟨g,5,none⟩=some r5/\w.cell? ⟨g,6,none⟩=some r6/\w.cell? ⟨g,7,none⟩=some r7/\w.cell? ⟨g,8,none⟩=some r8/\w.cell? ⟨g,9,none⟩=some r9/\w.cell? ⟨g,10,none⟩=some r10/\w.cell? ⟨g,11,none⟩=some r11/\w.cell? ⟨g,12,none⟩=some r12/\w.cell? ⟨g,13,none⟩=some r13/\w.cell? ⟨g,14,none⟩=some r14/\w.cell? ⟨g,15,none⟩=some r15/\w.cell? ⟨g,16,none⟩=some r16/\w.cell? ⟨g,17,none⟩=some r17/\w.cell? ⟨g,18,none⟩=some r18/\w.cell? ⟨g,19,none⟩=some r19/\w.cell? ⟨g,20,none⟩=some r20:=by
 refine⟨?_,?_,?_,?_,?_,?_,?_,?_,?_,?_,?_,?_,?_,?_,?_,?_,?_⟩<;>simp[World.cell?,h]
def kBb (w:World)(r:List Int×Bool)(e:Ending)(w':World):Prop:=∃v,e=.returned (.tuple #[v,.bool r.2])/\zBt w' w.heap.size v r.1/\Below w.heap.size w w'
theorem kT {r:List Int×Bool}(h:r=(l,b))(ho:zBt w' w.heap.size v l)(hb:Below w.heap.size w w'):kBb w r (.returned (.tuple #[v,.bool b])) w':=by
 subst h;exact⟨v,rfl,ho,hb⟩
theorem zVq.old {e:Ending}(h:zVq W l e w')(hb:Below w.heap.size w W):zVq w l e w':=by
 obtain⟨v,he,ho,hb2⟩:=h;exact⟨v,he,ho.weaken hb.size,hb.trans (hb2.mono hb.size)⟩
theorem kFu (W:World)(l:List Int)(t:TypeId)(_hn:l≠[]):IL (W.alloc (.cells (l.map (Value.int .i64)).toArray t)) (W.heap.size+1) (some ⟨W.heap.size,0,none⟩) l:=fun _=>
 ⟨W.heap.size,0,rfl,by omega,fun k hk=>by rw[World.cell?_alloc_at _ _ _ _ rfl];simp[jY l k hk,hk]⟩
theorem kLd (W:World)(x:Int)(t:TypeId):IL (W.alloc (.cells #[.int .i64 x] t)) (W.alloc (.cells #[.int .i64 x] t)).heap.size (some ⟨W.heap.size,0,none⟩) [x]:=by
 have:=kFu W [x] t Kc;simpa using this
theorem kIe (W:World)(x y:Int)(t:TypeId):IL (W.alloc (.cells #[.int .i64 x,.int .i64 y] t)) (W.alloc (.cells #[.int .i64 x,.int .i64 y] t)).heap.size (some ⟨W.heap.size,0,none⟩) [x,y]:=by
 have:=kFu W [x,y] t Kc;simpa using this
theorem zQ (W:World)(o:Obj):Below W.heap.size W (W.alloc o):=Kl.alloc Km _
def XA (w:World)(v:Value)(l:List Int):Prop:=∃A n c,v=.slice A n c/\l.length=n/\n<=1000/\n<=c/\IL w w.heap.size A l
theorem XA.later (h:XA w v l)(hb:Below w.heap.size w w'):XA w' v l:=by
 obtain⟨A,n,c,e,h1,h2,h3,h4⟩:=h;exact⟨A,n,c,e,h1,h2,h3,h4.later hb⟩
theorem XA.own (h:zBt w B v l)(hl:l.length<=1000):XA w v l:=by
 obtain⟨A,c,e,h1,_,h2⟩:=h.open_;exact⟨A,_,c,e,rfl,hl,h1,h2⟩
theorem zCv (W:World)(d:Nat):XA W (.slice none 0 d) []:=⟨none,0,d,rfl,rfl,by omega,by omega,IL.nil _ _ _⟩
theorem zBf (W:World)(x:Int)(t:TypeId):XA (W.alloc (.cells #[.int .i64 x] t)) (.slice (some ⟨W.heap.size,0,none⟩) 1 1) [x]:=⟨_,_,_,rfl,rfl,by omega,by omega,kLd W x t⟩
theorem zDy (W:World)(x y:Int)(t:TypeId):XA (W.alloc (.cells #[.int .i64 x,.int .i64 y] t)) (.slice (some ⟨W.heap.size,0,none⟩) 2 2) [x,y]:=⟨_,_,_,rfl,rfl,by omega,by omega,kIe W x y t⟩
theorem zB3 (hp:XA W v l)(hs:jI l=b):Calls Tryz.prog 82 #[v] W (jA (.bool b) W):=by
 obtain⟨A,n,c,rfl,h1,h2,_,h3⟩:=hp;subst hs;exact zLw (zXf A l n c W h1 Kb h3)
theorem zVe {s:Int}(hp:XA W u l)(hq:XA W v m)(hs:zX l m=s):Calls Tryz.prog 84 #[u,v] W (zHa (.int .i64 s) W):=by
 obtain⟨A,n,c,rfl,h1,h2,_,h3⟩:=hp;obtain⟨B,k,d,rfl,g1,g2,_,g3⟩:=hq;subst hs;exact kA9 A B l m n k c d W h1 g1 Kb Kb h3 g3
def kI4 (l:List Int):Prop:=∀j,j<l.length-> -4000000<=iAt l j/\iAt l j<=4000000
theorem zBc :kI4 []:=fun _ h=>absurd h (Nat.not_lt_zero _)
theorem zBd {x:Int}(h: -4000000<=x/\x<=4000000):kI4 [x]:=fun j hj=>by
 obtain rfl:j=0:=by simp at hj;omega
 exact h
theorem zBe {x y:Int}(h: -4000000<=x/\x<=4000000)(h2: -4000000<=y/\y<=4000000):kI4 [x,y]:=fun j hj=>by
 rcases(show j=0∨j=1 by simp at hj;omega)with rfl|rfl
 ·exact h
 ·exact h2
theorem zCb {r:List Int}{k:Nat}{z:Int}(hz:(k:Int)=z)(hp:XA W u l)(hq:XA W v r)(hk:r.length≠0->k+r.length<=l.length)(hL:kI4 l)(hR:kI4 r):Calls Tryz.prog 83 #[u,.int .i64 z,v] W (zVq W (plusL l k r)):=by
 subst hz;obtain⟨A,n,c,rfl,rfl,h2,_,h3⟩:=hp;obtain⟨B,m,d,rfl,rfl,g2,_,g3⟩:=hq;exact kEm A B l r _ _ k c d W rfl rfl h2 hk hL hR h3 g3
theorem kEp (hp:XA W u l)(hq:XA W v m)(hs:zEd l m=b):Calls Tryz.prog 23 #[u,v] W (jA (.bool b) W):=by
 obtain⟨A,n,c,rfl,rfl,h2,h4,h3⟩:=hp;obtain⟨B,k,d,rfl,rfl,g2,g4,g3⟩:=hq;subst hs;exact zLw (zQi A B l m c d W Kb Kb h3 g3)
theorem zI {w0:World}(h:Below w0.heap.size w0 W)(hb:Below W.heap.size W w'):Below w0.heap.size w0 w':=h.trans (hb.mono h.size)
def two {α:Type}(x y:α):Nat->α
 |0=>x
 |_=>y
theorem kBc (A1 A2:Option Addr)(l1 l2:List Int)(n1 n2 c1 c2:Nat)(W:World)(t:TypeId)(g:Nat)(hg:g=W.heap.size)(h1:l1.length=n1)(h2:l2.length=n2)(m1:n1<=1000)(m2:n2<=1000)
  (v1:IL W W.heap.size A1 l1) (v2:IL W W.heap.size A2 l2):
  Calls Tryz.prog 85 #[.slice (some ⟨g,0,none⟩) 2 2] (W.alloc (.cells #[.slice A1 n1 c1,.slice A2 n2 c2] t)) (zVq W (l1++l2)):=by
 subst hg h1 h2;have hb:=zQ W (.cells #[.slice A1 l1.length c1,.slice A2 l2.length c2] t);have e:zR8 (two l1 l2) 2=l1++l2:=by simp[zR8,two]
 rw[<-e];refine(zXi W.heap.size 0 2 2 (two A1 A2) (two l1 l2) (two c1 c2) _ Kb (fun k hk=>?_) (fun k hk=>?_) Kc (fun k hk=>?_)).mono fun _ _ h=>h.old hb
 ·match k,hk with
  |0,_=>exact m1
  |1,_=>exact m2
 ·rw[World.cell?_alloc_at _ _ _ _ rfl];match k,hk with
  |0,_=>simp[two]
  |1,_=>simp[two]
 ·match k,hk with
  |0,_=>exact v1.later hb
  |1,_=>exact v2.later hb
theorem IL.drop {A:Option Addr}(h:IL w B A l)(n c m:Nat)(hm:m=l.length)(hc:m<=c):IL w B (if c=n then A else A.map (·.add (n*1))) (l.drop n):=fun hn=>by
 have hl:n<l.length:=by
  rcases Nat.lt_or_ge n l.length with h|h
  ·exact h
  ·exact absurd (List.drop_eq_nil_of_le h) hn
 obtain⟨b,o,rfl,hb,hcell⟩:=h (by rintro rfl;simp at hl);rw[if_neg Kb];refine⟨b,o+n,by simp[add_plain],hb,fun k hk=>?_⟩;rw[List.length_drop]at hk;rw[Nat.add_assoc,hcell _ Kb,jY _ k (by rw[List.length_drop];exact hk),jY _ (n+k) Kb,List.getElem_drop]
theorem kBd (A:Option Addr)(n c k:Nat)(hk:k<=n)(hc:n<=c):∃D:Option Addr,(∀(w:World)(B:Nat)(l:List Int),IL w B A l->l.length=n->IL w B D (l.drop k))/\
  (∀W:World,(Instr.slice 27 (.slice A n c) (some (.int .i64 (k:Int))) none none).run Tryz.prog W=.ok (.slice D (n-k) (c-k)) W):=by
 refine⟨if c=k then A else A.map (·.add (k*1)),fun w B xs h hx=>h.drop k c n hx.symm hc,fun W=>?_⟩;have he:Tryz.prog.elem 27=3:=Ka;have hs:∀W,(sizeOf 3).run Tryz.prog W=.ok 1 W:=fun _=>by kernel_rfl
 rw[run_slice_l W 27 A n c (by rw[he];exact Tryz.underlying27) .i64 _ Kb Kb,he,hs];simp[Result.andThen,sliced]
theorem zOk (h:jI l=true):kI4 l:=fun j hj=>by
 have:=(zDf l).1 h j hj;omega
