import Derived.Test.YtmkciabefepelaaGreatJQRow
set_option maxRecDepth 100000
set_option maxHeartbeats 8000000
namespace Go.Proofs.YtmkciabefepelaaGreat
open Go.RowKit
open Go.WideShapes (add_plain)
variable {e:Ending}{k l lo:Nat}{A:Option Addr}{L:List Pr}{r:List Int×Int}{q:List Int}
theorem zVm (n:Nat)(h0:0<n)(hn:n<=100000)(w:World)(ty:TypeId):∃cap cells,(Builtin.append_ #[23,3] ty #[.slice none 0 0,.int .i64 n]).run Tryz.prog w=.ok (.slice (some ⟨w.heap.size,0,none⟩) n cap) (w.drew.alloc (.cells cells 21))/\n<=cap/\cap<=maxLen/\cells.size=cap:=by
 obtain⟨i0,hi,hz0,hz1,hz2⟩:=info_parts zOt;have hc:=grownCap_ge w n 0 21;refine⟨_,_,Lib.run_append_nil_zeros w 23 3 ty 21 i0 _ .i64 .i64 Tryz.underlying23 Tryz.underlying3 hi hz0 n h0 Kb Kb (by rw[hz2];omega),hc,grownCap_le_maxLen w n 0 _ Kg,?_⟩;simp[Builtin.zeroCells,Value.cells];omega
theorem zX4 (n:Nat)(w:World)(hn:n<=100000):Calls Tryz.prog 179 #[.slice none 0 0,.int .i64 n] w (zYp w []):=by
 by_cases h0:0<n
 ·obtain⟨cap,cells,hrun,h1,h2,h3⟩:=zVm n h0 hn w 23;have H3:=hd h3;have oH:=hd hrun;have vX:(0:Int)<n:=Kb;clear h3 hrun;go_enter Tryz.func179,Tryz.ntmps179
  go_wp2_with(at_builtin;refine Lib.wpList_append_run _ rfl (.tmp 20) (.tmp 21) _ _ rfl (.slice none 0 0) (.int .i64 n) rfl rfl _ _ oH.o ?_)
  go_ret
  exact⟨_,rfl,zE1.of_own (World.ownsRow_made w.drew cells cap Km h2 (by rw[H3.o];simp)) rfl,((zZ Kl 1).alloc Km _)⟩
 ·obtain rfl:n=0:=Kb;go_enter Tryz.func179,Tryz.ntmps179
  go_wp2
  go_ret
  exact⟨_,rfl,zE1.nil _ _,Below.refl _ _⟩
def zF0 (L:Nat->List Int):Nat->List Int
 |0=>[]
 |k+1=>zF0 L k++L k
theorem zX5 (L:Nat->List Int)(N:Nat)(h:∀k,k<N->(L k).length<=1000)(k:Nat)(hk:k<=N):(zF0 L k).length<=k*1000:=by
 induction k with
 |zero=>simp[zF0]
 |succ k ih=>
  have:=ih Kb;have:=h k Kb;simp[zF0];omega
theorem zLq (b o N c:Nat)(As:Nat->Option Addr)(L:Nat->List Int)(cs:Nat->Nat)(w:World)(hN:N<=10)(hlen:∀k,k<N->(L k).length<=1000)(hcell:∀k,k<N->w.cell? ⟨b,o+k,none⟩=some (.slice (As k) (L k).length (cs k)))(hb:b<w.heap.size)
  (hv:∀k,k<N->VL w w.heap.size (As k) (rv (L k))):Calls Tryz.prog 165 #[.slice (some ⟨b,o,none⟩) N c] w (zYp w (zF0 L N)):=by
 have HL:=hd hlen;have HC:=hd hcell;have HV:=hd hv;have HT:=hd (zX5 L N hlen);clear hlen hcell hv;go_enter Tryz.func165,Tryz.ntmps165
 go_wp2
 go_loop [3,11] (fun s i=>∃k:Nat,k<=N/\i=.int .i64 k/\s=.int .i64 (zF0 L k).length) (fun _ i=>N-(intOf i).toNat)
 case atStart=>exact⟨0,Nat.zero_le _,rfl,rfl⟩
 case round=>
  obtain⟨k,hk,rfl,rfl⟩:=hrel;have ht:=HT.o k hk;have ht2:k*1000<=10000:=Kb;by_cases hlt:k<N
  ·have hc:=HC.o k hlt;have hl:=HL.o k hlt;have HX:=hd (show((zF0 L (k+1)).length:Int)=(zF0 L k).length+(L k).length by simp[zF0]);go_wp2
   go_round
   case rel=>exact⟨k+1,by omega,by go_num,by rw[HX.o]⟩
   case measure=>simp[intOf];omega
  ·obtain rfl:k=N:=Kb;clear hlt;go_wp2_with fail
   refine(zX4 (zF0 L k).length w Kb).mono ?_;rintro e w1 ⟨v1,rfl,aN,hb1⟩;have bW:=hd (show zE1 21 w1 w.heap.size v1 (rv (zF0 L 0))from aN);clear aN;go_wp2_with fail
   go_loopw [6,27] (fun v i wr=>∃j:Nat,j<=k/\i=.int .i64 j/\Kr (zE1 21 wr w.heap.size v (rv (zF0 L j)))/\Below w.heap.size w wr) (fun _ i _=>k-(intOf i).toNat)
   case atStart=>exact⟨0,Nat.zero_le _,rfl,bW,hb1⟩
   case round=>
    obtain⟨j,hj,rfl,ho,hbr⟩:=hrel;by_cases hlt:j<k
    ·have hc:=(hbr.cell (p:=⟨b,o+j,none⟩) hb).trans (HC.o j hlt);have vY:=hd ((HV.o j hlt).below hbr);have hl:=HL.o j hlt;have BX:=HT.o j hj;have hl2:(rv (zF0 L j)).length+(rv (L j)).length<=2200000:=by rw[zCg,zCg];omega
     go_wp2_with(at_builtin;refine zLx zLg Kd _ rfl (.tmp 31) (.tmp 32) rfl w.heap.size _ (rv (zF0 L j)) (rv (L j)) rfl ho.o (As j) (L j).length (cs j) w.heap.size rfl (zCg _) vY.o (zNz _) hl2 hbr.size ?_;intro v2 w2 aG hg2)
     have oI:=hd (show zE1 21 w2 w.heap.size v2 (rv (zF0 L (j+1))) by rw[zF0,zQp];exact aG);have hb2:=hg2.below w.heap.size w Km hbr.size hbr;clear aG;go_roundw
     case rel=>exact⟨j+1,by omega,by go_num,oI,hb2⟩
     case measure=>simp[intOf];omega
    ·obtain rfl:j=k:=Kb;go_wp2
     go_ret
     exact⟨_,rfl,ho.o,hbr⟩
theorem zX6 (r s:List Int)(p e:Int)(h:atE r p s=e)(he:e≠0):zFx r p s=([],e):=by
 unfold atE at h;unfold zFx;split at h
 ·rename_i h1
  rw[if_pos h1];split at h
  ·omega
  ·rename_i h2
   rw[if_neg h2,h]
 ·rename_i h1
  rw[if_neg h1,h]
theorem kCa (r s:List Int)(p:Int)(h:atE r p s=0):∃k:Nat,p=k/\k<=r.length/\zFx r p s=(r.take k++(s++r.drop k),0):=by
 unfold atE at h;unfold zFx;split at h
 ·rename_i h1
  rw[if_pos h1];split at h
  ·rename_i h2
   exact⟨p.toNat,by omega,by omega,by rw[if_pos h2]⟩
  ·omega
 ·omega
theorem zLb (A:Option Addr)(n c k:Nat)(hk:k<=n)(hc:n<=c):∃D:Option Addr,(∀(w:World)(B:Nat)(xs:List Value),VL w B A xs->xs.length=n->VL w B D (xs.drop k))/\
  (∀W:World,(Instr.slice 23 (.slice A n c) (some (.int .i64 (k:Int))) none none).run Tryz.prog W=.ok (.slice D (n-k) (c-k)) W):=by
 refine⟨if c=k then A else A.map (·.add (k*1)),fun w B xs h hx=>h.drop k c n hx.symm hc,fun W=>?_⟩;have he:Tryz.prog.elem 23=21:=Ka;have hs:∀W,(sizeOf 21).run Tryz.prog W=.ok 1 W:=fun _=>by kernel_rfl
 rw[run_slice_l W 23 A n c (by rw[he];exact Tryz.underlying23) .i64 _ Kb Kb,he,hs];simp[Result.andThen,sliced]
theorem zLc (A:Option Addr)(n c k:Nat)(hk:k<=c):∀W:World,(Instr.slice 23 (.slice A n c) none (some (.int .i64 (k:Int))) none).run Tryz.prog W=.ok (.slice A k c) W:=fun W=>by
 have he:Tryz.prog.elem 23=21:=Ka;have hs:∀W,(sizeOf 21).run Tryz.prog W=.ok 1 W:=fun _=>by kernel_rfl
 rw[run_slice_h W 23 A n c (by rw[he];exact Tryz.underlying23) .i64 _ Kb Kb,he,hs];have e:(A.map fun x=>x.add 0)=A:=by
  cases A
  ·rfl
  ·simp[Addr.add]
 simp[Result.andThen,sliced,e]
def kGm {α:Type}(x y:α):Nat->α
 |0=>x
 |_=>y
def zQf {α:Type}(x y z:α):Nat->α
 |0=>x
 |1=>y
 |_=>z
theorem zYp.old {w W w':World}{l:List Int}(h:zYp W l e w')(hb:Below w.heap.size w W):zYp w l e w':=by
 obtain⟨v,he,ho,hb2⟩:=h;exact⟨v,he,ho.weaken hb.size,hb.trans (hb2.mono hb.size)⟩
theorem zNr (w:World):Below w.heap.size w w.drew:=zZ Kl 1
theorem kGn (A1 A2 A3:Option Addr)(l1 l2 l3:List Int)(n1 n2 n3 c1 c2 c3:Nat)(W:World)(t:TypeId)(g:Nat)(hg:g=W.heap.size)(h1:l1.length=n1)(h2:l2.length=n2)(h3:l3.length=n3)(m1:n1<=1000)(m2:n2<=1000)(m3:n3<=1000)
  (v1:VL W W.heap.size A1 (rv l1)) (v2:VL W W.heap.size A2 (rv l2)) (v3:VL W W.heap.size A3 (rv l3)):
  Calls Tryz.prog 165 #[.slice (some ⟨g,0,none⟩) 3 3] (W.alloc (.cells #[.slice A1 n1 c1,.slice A2 n2 c2,.slice A3 n3 c3] t)) (zYp W (l1++(l2++l3))):=by
 subst hg h1 h2 h3;have hb:Below W.heap.size W (W.alloc (.cells #[.slice A1 l1.length c1,.slice A2 l2.length c2,.slice A3 l3.length c3] t)):=Kl.alloc Km _;have e:zF0 (zQf l1 l2 l3) 3=l1++(l2++l3):=by simp[zF0,zQf]
 rw[<-e];refine(zLq W.heap.size 0 3 3 (zQf A1 A2 A3) (zQf l1 l2 l3) (zQf c1 c2 c3) _ Kb (fun k hk=>?_) (fun k hk=>?_) Kc (fun k hk=>?_)).mono fun _ _ h=>h.old hb
 ·match k,hk with
  |0,_=>exact m1
  |1,_=>exact m2
  |2,_=>exact m3
 ·rw[World.cell?_alloc_new];match k,hk with
  |0,_=>simp[zQf]
  |1,_=>simp[zQf]
  |2,_=>simp[zQf]
 ·match k,hk with
  |0,_=>exact v1.later hb
  |1,_=>exact v2.later hb
  |2,_=>exact v3.later hb
theorem kCb (A1 A2:Option Addr)(l1 l2:List Int)(n1 n2 c1 c2:Nat)(W:World)(t:TypeId)(g:Nat)(hg:g=W.heap.size)(h1:l1.length=n1)(h2:l2.length=n2)(m1:n1<=1000)(m2:n2<=1000)
  (v1:VL W W.heap.size A1 (rv l1)) (v2:VL W W.heap.size A2 (rv l2)):
  Calls Tryz.prog 165 #[.slice (some ⟨g,0,none⟩) 2 2] (W.alloc (.cells #[.slice A1 n1 c1,.slice A2 n2 c2] t)) (zYp W (l1++l2)):=by
 subst hg h1 h2;have hb:Below W.heap.size W (W.alloc (.cells #[.slice A1 l1.length c1,.slice A2 l2.length c2] t)):=Kl.alloc Km _;have e:zF0 (kGm l1 l2) 2=l1++l2:=by simp[zF0,kGm]
 rw[<-e];refine(zLq W.heap.size 0 2 2 (kGm A1 A2) (kGm l1 l2) (kGm c1 c2) _ Kb (fun k hk=>?_) (fun k hk=>?_) Kc (fun k hk=>?_)).mono fun _ _ h=>h.old hb
 ·match k,hk with
  |0,_=>exact m1
  |1,_=>exact m2
 ·rw[World.cell?_alloc_new];match k,hk with
  |0,_=>simp[kGm]
  |1,_=>simp[kGm]
 ·match k,hk with
  |0,_=>exact v1.later hb
  |1,_=>exact v2.later hb
theorem zVn (A B:Option Addr)(l m:List Int)(a b c d:Nat)(p:Int)(w:World)(ha:l.length=a)(hb:m.length=b)(hl:a<=1000)(hm:b<=1000)(rM:a<=c)(_hbd:b<=d)(hp:VL w w.heap.size A (rv l))(hq:VL w w.heap.size B (rv m)):
  Calls Tryz.prog 135 #[.slice A a c,.int .i64 p,.slice B b d] w (kJu w (zFx l p m)):=by
 obtain⟨e,he⟩:∃e,atE l p m=e:=⟨_,rfl⟩;have HC:=hd (zMq A B l m a b c d p e he w ha hb Kb Kb hp hq);by_cases jy:e=0
 ·subst jy;obtain⟨k,rfl,hk,hI⟩:=kCa l m p he;have HI:=hd hI;obtain⟨D,hD,rN⟩:=zLb A a c k Kb rM;have nr:=zLc A a c k Kb;have HD:=hd (hD w w.heap.size (rv l) hp (by rw[zCg];exact ha));have hka:k<=a:=Kb;have HA:=hd ha;have HB:=hd hb;have HP:=hd (hp.take k);have HQ:=hd hq;rw[<-zOr]at HP;rw[<-zOs]at HD;clear hI he hD hp hq hk ha hb;go_enter Tryz.func135,Tryz.ntmps135
  go_wp2_with fail
  refine HC.o.mono ?_;rintro e w' ⟨rfl,rfl⟩;go_wp2_with fail
  go_still_tail 7,Ka
  go_wp2_with fail
  refine(kGn A B D (l.take k) m (l.drop k) k b (a-k) c d (c-k) w.drew _ _ rfl (by have:=HA.o;simp;omega) HB.o (by have:=HA.o;simp;omega) Kb Kb Kb HP.o HQ.o HD.o).mono ?_;intro e w2 h2;obtain⟨v2,rfl,aG,hb2⟩:=h2;go_wp2
  go_ret2
  exact zI8 HI.o aG ((zNr w).trans hb2)
 ·have HE:=hd (zX6 l m p e he jy);have h1:(e==0)=false:=by simpa using jy
  have h2:(e !=0)=true:=by simpa using jy
  clear he jy hp hq ha hb;go_enter Tryz.func135,Tryz.ntmps135
  go_wp2_with fail
  refine HC.o.mono ?_;rintro e w' ⟨rfl,rfl⟩;go_wp2
  go_ret2
  exact zI8 HE.o (zE1.nil _ _) Kl
theorem zNs (A B:Option Addr)(l m:List Int)(a b c d:Nat)(r:Bool)(hr:decide (l.take m.length=m)=r)(w:World)(ha:l.length=a)(hb:m.length=b)(_hl:a<=1000)(hm:b<=1000)(rM:a<=c)(hp:VL w w.heap.size A (rv l))(hq:VL w w.heap.size B (rv m)):
  Calls Tryz.prog 166 #[.slice A a c,.slice B b d] w (zHa (.bool r) w):=by
 by_cases bX:b<=a
 ·have hv:=hp.take b;rw[<-zOr]at hv;have HC:=hd (zUw A B (l.take b) m b b c d r (by unfold sameL;rw[<-hr,hb]) w Kf hb Kb Kb hv hq);have nr:=zLc A a c b Kb;clear hr ha hb hp hq hv;go_enter Tryz.func166,Tryz.ntmps166
  go_wp2_with fail
  refine HC.o.mono ?_;rintro e w' ⟨rfl,kd,rfl⟩;go_wp2
  go_ret
  exact kW rfl Ki
 ·have HF:=hd (show r=false by
   rw[<-hr];refine decide_eq_false fun e=>?_;have:=congrArg List.length e;simp at this;omega)
  have hx:decide (b<=a)=false:=decide_eq_false bX;clear hr ha hb hp hq bX;go_enter Tryz.func166,Tryz.ntmps166
  go_wp2
  go_ret
  exact kW (zA3 (by rw[HF.o])) ⟨0,rfl⟩
theorem zX7 (r s:List Int)(p e:Int)(h:atE r p s=e)(he:e≠0):zFe r p s=([],e):=by
 unfold atE at h;unfold zFe;split at h
 ·rename_i h1
  rw[if_pos h1];split at h
  ·omega
  ·rename_i h2
   rw[if_neg h2,h]
 ·rename_i h1
  rw[if_neg h1,h]
theorem kCc (r s:List Int)(p:Int)(h:atE r p s=0):∃k:Nat,p=k/\k<=r.length/\zFe r p s=if(r.drop k).take s.length=s then(r.take k++r.drop (k+s.length),0)else([],9):=by
 unfold atE at h;unfold zFe;split at h
 ·rename_i h1
  rw[if_pos h1];split at h
  ·rename_i h2
   exact⟨p.toNat,by omega,by omega,by rw[if_pos h2]⟩
  ·omega
 ·omega
theorem zVo (A B:Option Addr)(l m:List Int)(a b c d:Nat)(p:Int)(w:World)(ha:l.length=a)(hb:m.length=b)(hl:a<=1000)(hm:b<=1000)(rM:a<=c)(_hbd:b<=d)(hp:VL w w.heap.size A (rv l))(hq:VL w w.heap.size B (rv m)):
  Calls Tryz.prog 136 #[.slice A a c,.int .i64 p,.slice B b d] w (kJu w (zFe l p m)):=by
 obtain⟨e,he⟩:∃e,atE l p m=e:=⟨_,rfl⟩;have HC:=hd (zMq A B l m a b c d p e he w ha hb Kb Kb hp hq);by_cases jy:e=0
 ·subst jy;obtain⟨k,rfl,hk,hI⟩:=kCc l m p he;obtain⟨D,hD,rN⟩:=zLb A a c k Kb rM;have nr:=zLc A a c k Kb;have rO:=hD w w.heap.size (rv l) hp (by rw[zCg];exact ha);rw[<-zOs]at rO;have hka:k<=a:=Kb;have uf:(l.drop k).length=a-k:=by rw[List.length_drop,ha]
  cases hr:decide ((l.drop k).take m.length=m)
  ·have HG:=hd (zNs D B (l.drop k) m (a-k) b (c-k) d false hr w uf hb Kb hm Kb rO hq);have HE:=hd (show zFe l k m=([],9) by rw[hI,if_neg (of_decide_eq_false hr)]);clear hI he hD hp hq hk ha hb hr rO uf;go_enter Tryz.func136,Tryz.ntmps136
   go_wp2_with fail
   refine HC.o.mono ?_;rintro e w' ⟨rfl,rfl⟩;go_wp2_with fail
   refine HG.o.mono ?_;rintro e w' ⟨rfl,kd,rfl⟩;go_wp2
   go_ret2
   exact zI8 HE.o (zE1.nil _ _) (zZ Kl _)
  ·have oJ:=of_decide_eq_true hr;have hbl:k+b<=a:=by
    have:=congrArg List.length oJ;simp at this;omega
   obtain⟨D2,yI,nu⟩:=zLb A a c (k+b) hbl rM;have oK:=yI w w.heap.size (rv l) hp (by rw[zCg];exact ha);rw[<-zOs]at oK;have yJ:∀W:World,(Instr.slice 23 (.slice A a c) (some (.int .i64 ((k:Int)+(b:Int)))) none none).run Tryz.prog W=.ok (.slice D2 (a-(k+b)) (c-(k+b))) W:=fun W=>by
    have:=nu W;rwa[Int.natCast_add]at this
   have hwr:IntKind.i64.wrap ((k:Int)+(b:Int))=(k:Int)+(b:Int):=IntWalk.i64_in _ Kb;have HG:=hd (zNs D B (l.drop k) m (a-k) b (c-k) d true hr w uf hb Kb hm Kb rO hq);have HE:=hd (show zFe l k m=(l.take k++l.drop (k+m.length),0) by rw[hI,if_pos oJ]);have HA:=hd ha;have HB:=hd hb;have HP:=hd (hp.take k);rw[<-zOr]at HP;have mf:=hd oK;rw[<-HB.o]at mf;clear hI he hD hp hq hk ha hb hr rO uf yI oK nu oJ;go_enter Tryz.func136,Tryz.ntmps136
   go_wp2_with fail
   refine HC.o.mono ?_;rintro e w' ⟨rfl,rfl⟩;go_wp2_with fail
   refine HG.o.mono ?_;intro e w1 h1;obtain⟨rfl,hb1⟩:=h1.still;have HP:=hd (HP.o.later hb1);have mf:=hd (mf.o.later hb1);clear h1;go_wp2_with fail
   go_still_tail 9,Ka
   go_wp2_with fail
   refine(kCb A D2 (l.take k) (l.drop (k+m.length)) k (a-(k+b)) c (c-(k+b)) w1.drew _ _ rfl (by have:=HA.o;simp;omega) (by have:=HA.o;have:=HB.o;simp;omega) Kb Kb HP.o mf.o).mono ?_;intro e w2 h2;obtain⟨v2,rfl,aG,hb2⟩:=h2.old (w:=w) (hb1.trans ((zNr w1).mono hb1.size));go_wp2
   go_ret2
   exact zI8 HE.o aG hb2
 ·have HE:=hd (zX7 l m p e he jy);have h1:(e==0)=false:=by simpa using jy
  have h2:(e !=0)=true:=by simpa using jy
  clear he jy hp hq ha hb;go_enter Tryz.func136,Tryz.ntmps136
  go_wp2_with fail
  refine HC.o.mono ?_;rintro e w' ⟨rfl,rfl⟩;go_wp2
  go_ret2
  exact zI8 HE.o (zE1.nil _ _) Kl
theorem zX8 {w:World}{xs:List Value}(h:VP (fun b=>lo<=b/\b<w.heap.size) w A xs):zH3 lo w (fun W=>VP (fun b=>b<W.heap.size) W A xs):=fun W' ho k u hu=>by
 obtain⟨b,o,e,hb,hc,hf⟩:=h k u hu;exact⟨b,o,e,Nat.lt_of_lt_of_le hb.2 ho.size,(ho.cell (p:=⟨b,o+k,none⟩) hb.1 hb.2).trans hc,(ho.frozen (p:=⟨b,o+k,none⟩) hb.1 hb.2).trans hf⟩
def kJo (w:World)(r:List Pr×Int)(e:Ending)(w':World):Prop:=∃A c,e=.returned (.tuple #[.slice A r.1.length c,.int .i64 r.2])/\r.1.length<=c/\zH3 w.heap.size w' (fun W=>PL W W.heap.size A r.1)/\Below w.heap.size w w'
theorem zM0.told {w w':World}{E:Int}(h:zM0 w E L e w'):kJo w (L,E) e w':=by
 obtain⟨v,rfl,ho,hb⟩:=h;obtain⟨A0,c0,_,h1⟩:=ho;obtain⟨A,c,rfl,hc,_,_⟩:=zC9 h1;refine⟨A,c,rfl,hc,fun W hW=>?_,hb⟩;have hv:=zX8 (zIr h1) W hW;exact VP.pl (l:=L) hv (fun _ h=>h)
def kGo (w:World)(r:List Int×Int)(e:Ending)(w':World):Prop:=∃A c,e=.returned (.tuple #[.slice A r.1.length c,.int .i64 r.2])/\r.1.length<=c/\zH3 w.heap.size w' (fun W=>VL W W.heap.size A (rv r.1))/\Below w.heap.size w w'
theorem kJu.told {w w':World}(h:kJu w r e w'):kGo w r e w':=by
 obtain⟨v,rfl,ho,hb⟩:=h;have h1:=ho.own;obtain⟨A,c,rfl,hc,_,_⟩:=zC9 h1;rw[zCg]at hc h1;refine⟨A,c,by rw[zCg],hc,fun W hW=>?_,hb⟩;have hv:=zX8 (zIr h1) W hW;exact VP.vl hv (fun _ h=>h)
section
variable {w:World}{c m:NC}{o:OC}{n mt:NT}{a:OpP}
theorem kS.setP (h:kS w m mt)(hP:PL w w.heap.size A L)(hw:chk L=0)(hk:L.length<=k):kS w {m with P:=A,np:=L.length,pc:=k} (zEs mt L):=by
 have hp:=h.parts;have hf:=hp.f;have hfit:=zIc hw;obtain⟨d,hK⟩:=hp.k;have nv:=((zC8 L).1 hw).1;exact zHz.has ⟨hp.lf,rfl,hp.nt,hp.nk,hP,hp.x,⟨⟨by show L.length<=_;omega,fun p hp=>by have:=hfit.2 p hp;omega⟩,by show L.length<=_;omega,hf.2.2.1,hf.2.2.2.1,hk,hf.2.2.2.2.2.1,hf.2.2.2.2.2.2⟩,d,hK⟩
theorem kS.setX {L:List Int}(h:kS w m mt)(hX:VL w w.heap.size A (rv L))(hl:L.length<=35184372088832)(hk:L.length<=k):kS w {m with X:=A,nt:=L.length,tc:=k} (zCz mt L):=by
 have hp:=h.parts;have hf:=hp.f;obtain⟨d,hK⟩:=hp.k;exact zHz.has ⟨hp.lf,hp.np,rfl,hp.nk,hp.p,hX,⟨hf.1,hf.2.1,hl,hf.2.2.2.1,hf.2.2.2.2.1,hk,hf.2.2.2.2.2.2⟩,d,hK⟩
theorem zT9 {r:List Pr×Int}(h:kS w m mt)(ho:OkA w o a)(hE:(PLs mt.ps a.o a.w,PE mt.ps a.o a.w)=r):Calls Tryz.prog 134 #[.slice m.P m.np m.pc,.slice o.O o.no o.co,.slice o.W o.nw o.cw] w (kJo w r):=by
 have hp:=h.parts;have h1:=hp.p;have e1:=hp.np;have e2:=ho.hno;have e3:=ho.hnw;rw[<-hE,<-e1,<-e2,<-e3];exact(kDv m.P o.O o.W mt.ps a.o a.w m.pc o.co o.cw w hp.f.1 ho.hwo ho.hww h1 ho.ho ho.hw _ rfl _ rfl).mono fun e w' h=>h.told
theorem kE5 (h:kS w m mt)(ho:OkA w o a)(ta:zAf a)(hs:sizeT mt<=900)(hE:zFx mt.tx a.z a.x=r):Calls Tryz.prog 135 #[.slice m.X m.nt m.tc,.int .i64 o.z,.slice o.S o.nx o.cx] w (kGo w r):=by
 have hp:=h.parts;have e1:=hp.nt;have e2:=ho.hnx;have e3:=ta.hx;have hl:mt.tx.length<=sizeT mt:=by obtain⟨lf,ps,tx,ks⟩:=mt;simp only[sizeT,NT.tx];omega
 rw[<-hE,ho.hz];exact(zVn m.X o.S mt.tx a.x m.nt o.nx m.tc o.cx o.z w e1 e2 Kb Kb (by have:=hp.f.2.2.2.2.2.1;omega) ho.hcx hp.x ho.hx).mono fun e w' h=>h.told
theorem kE6 (h:kS w m mt)(ho:OkA w o a)(ta:zAf a)(hs:sizeT mt<=900)(hE:zFe mt.tx a.z a.x=r):Calls Tryz.prog 136 #[.slice m.X m.nt m.tc,.int .i64 o.z,.slice o.S o.nx o.cx] w (kGo w r):=by
 have hp:=h.parts;have e1:=hp.nt;have e2:=ho.hnx;have e3:=ta.hx;have hl:mt.tx.length<=sizeT mt:=by obtain⟨lf,ps,tx,ks⟩:=mt;simp only[sizeT,NT.tx];omega
 rw[<-hE,ho.hz];exact(zVo m.X o.S mt.tx a.x m.nt o.nx m.tc o.cx o.z w e1 e2 Kb Kb (by have:=hp.f.2.2.2.2.2.1;omega) ho.hcx hp.x ho.hx).mono fun e w' h=>h.told
theorem zLr {E:Int}(ho:OkA w o a)(hE:chk a.w=E):Calls Tryz.prog 109 #[.slice o.W o.nw o.cw] w (jA (.int .i64 E) w):=by
 subst hE;rw[<-ho.hnw];exact zKb o.W a.w o.cw w ho.hww ho.hw
theorem zLd {E:Bool}(h:kS w m mt)(ho:OkA w o a)(hE:decide (a.o=mt.ps)=E):Calls Tryz.prog 119 #[.slice o.O o.no o.co,.slice m.P m.np m.pc] w (jA (.bool E) w):=by
 have hp:=h.parts;subst hE;rw[<-ho.hno,<-hp.np];have:=hp.f.2.1;have:=ho.hmo;have:=ho.hno;exact zRf o.O m.P a.o mt.ps o.co m.pc w Kb Kb ho.ho hp.p
def zX9 (w:World)(r:List Int×Int)(e:Ending)(w':World):Prop:=∃A l c,e=.returned (.tuple #[.slice A l c,.int .i64 r.2])/\r.1.length=l/\l<=c/\zH3 w.heap.size w' (fun W=>IL W W.heap.size A r.1)/\Below w.heap.size w w'
theorem zOp.told {w w':World}(h:zOp w r e w'):zX9 w r e w':=by
 obtain⟨v,rfl,ho,hb⟩:=h;obtain⟨A,c,rfl,h1,_,h2⟩:=ho.open_;exact⟨A,_,c,rfl,rfl,h1,zI6 ho,hb⟩
structure Pth (lo:Nat)(w2:World)(A:Option Addr)(l c:Nat)(q:List Int)(W:World):Prop where
 len:q.length=l
 le:l<=1000
 cap:l<=c
 inn:InI q
 st:zH3 lo w2 (fun W=>IL W W.heap.size A q)
 hi:zA5 lo w2 W
theorem Pth.call {w2 W W':World}{c:Nat}(h:Pth lo w2 A l c q W)(hb:Below W.heap.size W W'):Pth lo w2 A l c q W':={h with hi:=h.hi.call hb}
theorem Pth.off {g:Nat}{w2 W W':World}{c:Nat}(h:Pth lo w2 A l c q W)(ho:Off g W W')(hg:g<lo∨w2.heap.size<=g):Pth lo w2 A l c q W':={h with hi:=h.hi.off2 ho hg}
theorem Pth.has {w2 W:World}{c:Nat}(h:Pth lo w2 A l c q W):zKt W A l c q:=⟨h.len,h.le,h.cap,h.st W h.hi,h.inn⟩
theorem zI7 (ho:OkA w o a)(ta:zAf a)(hE:jV a.q=r):Calls Tryz.prog 117 #[.slice o.Q o.lq o.cq] w (zX9 w r):=by
 have hq:=ho.hasq ta;rw[<-hE];exact(zUd o.Q a.q o.lq o.cq w hq.len hq.le hq.inn hq.il).mono fun e w' h=>h.told
theorem kE7 (ho:OkA w o a)(ta:zAf a)(hE:zBg a.q=r):Calls Tryz.prog 118 #[.slice o.Q o.lq o.cq] w (zX9 w r):=by
 have hq:=ho.hasq ta;rw[<-hE];exact(zOq o.Q a.q o.lq o.cq w hq.len hq.le hq.inn hq.il).mono fun e w' h=>h.told
end
theorem Pth.grown {w2 W W':World}{c:Nat}{row:Option Nat}(h:Pth lo w2 A l c q W)(hg:W.grownBy W' row)(hr:∀j,row=some j->w2.heap.size<=j):Pth lo w2 A l c q W':=
 {h with hi:=⟨Nat.le_trans h.hi.size hg.size,fun k h1 h2=>(hg.block k (Nat.lt_of_lt_of_le h2 h.hi.size) (fun e=>by have:=hr k e.symm;omega)).trans (h.hi.block k h1 h2)⟩}
theorem zLe (n:NT):n.ks.length<=sizeT n:=by
 obtain⟨lf,ps,tx,ks⟩:=n;have h2:∀(l:List NT),l.length<=sizeK l:=fun l=>by
  induction l with
  |nil=>simp
  |cons k r ih=>have:=zJs k;simp only[List.length_cons,sizeK];omega
 have:=h2 ks;simp only[sizeT,NT.ks];omega
