import Derived.Test.YtmglnjmnabjjgaaGreatJUBase
set_option maxRecDepth 100000
set_option maxHeartbeats 8000000
namespace Go.Proofs.YtmglnjmnabjjgaaGreat
open Go.RowKit
variable {t tb:TypeId}{A:Option Addr}
theorem jT.grew {w w':World}{g:Nat}{r:Array Value}{row:Option Nat}(h:jT t w g r)(hg:w.grownBy w' row)(hn:row≠some g):jT t w' g r:=(hg.block g h.lt (fun e=>hn e.symm)).trans h
theorem kN1 {w w':World}{base g:Nat}{size:Nat}{v:Value}{n:Nat}{xs:List Value}(h:w.ownsRow base t size v n xs)(ho:Off g w w')(hg:v.ownBlock≠some g):w'.ownsRow base t size v n xs:=
 kNl h fun q hq=>ho.block q (h.lt q hq).2 fun e=>hg (e▸hq)
structure kOf (w:World)(nd:Array Value)(f:Int)(gks:List NT)(rs:List Int)(k:Nat)(R K:Value)(us:List Value)(Fs:Nat->Nat->Prop)(W:World):Prop where
 v2:jT 26 W w.heap.size nd
 v6:jT 64 W (w.heap.size+1) #[.int .i64 f,R,K]
 below:Below w.heap.size w W
 r:W.ownsRow (w.heap.size+2) 3 1 R rs.length (rs.map (Value.int .i64))
 rk:W.ownsRow (w.heap.size+2) 53 1 K k us
 ra:∀q,R.ownBlock=some q->K.ownBlock≠some q
 ul:us.length=k
 kids:∀j m u,gks[j]? =some m->us[j]? =some u->Gh W u m (Fs j)
 sub:∀j q,Fs j q->w.heap.size+2<=q/\q<W.heap.size/\R.ownBlock≠some q/\K.ownBlock≠some q
 dis:∀i j q,i≠j->Fs i q->¬Fs j q
section
variable {w W W2 W5:World}{nd:Array Value}{f:Int}{gks:List NT}{rs:List Int}{k:Nat}{R K:Value}{us:List Value}{Fs:Nat->Nat->Prop}
theorem kOf.lt (h:kOf w nd f gks rs k R K us Fs W):w.heap.size+1<W.heap.size:=h.v6.lt
theorem kOf.rune {y:Int}{c:Nat}(h:kOf w nd f gks rs 0 R (.slice none 0 0) [] (fun _ _=>False) W)(hown:W2.ownsRow (w.heap.size+2) 3 1 (.slice A (rs.length+1) c) (rs.length+1) (rs.map (Value.int .i64)++[.int .i64 y]))
  (hg:(W.alloc (.cells #[.int .i64 y] tb)).grownBy W2 R.ownBlock) (hv:jT 64 W5 (w.heap.size+1) #[.int .i64 f,.slice A (rs.length+1) c,.slice none 0 0]) (ho:Off (w.heap.size+1) W2 W5):
  kOf w nd f gks (rs++[y]) 0 (.slice A (rs.length+1) c) (.slice none 0 0) [] (fun _ _=>False) W5:=by
 have hR:∀q,R.ownBlock=some q->w.heap.size+2<=q:=fun q hq=>(h.r.lt q hq).1;have hb:=(h.below.alloc h.below.size (.cells #[.int .i64 y] tb)).grown hg (by have:=h.lt;simp;omega) (fun j hj=>by have:=hR j hj;omega);refine⟨((h.v2.alloc _).grew hg fun e=>by have:=hR _ e;omega).off ho Kb,hv,hb.trans (ho.below Kb hb.size),?_,World.ownsRow_nil _ _ _ _,fun q _ e=>(by cases e),rfl,fun j m u _ e=>(by simp at e),fun _ _ h=>h.elim,fun _ _ _ _ h=>h.elim⟩;rw[List.length_append,List.map_append];exact kN1 hown ho fun e=>by have:=hown.lt _ e;omega
theorem kOf.kid {m:NT}{p:Value}{W1 W4:World}{nk:Array Value}{tn:TypeId}{c:Nat}(h:kOf w nd f gks rs k R K us Fs W)(hm:gks[k]? =some m)(h1:W1=W.alloc (.cells nk tn))(hG:Gh W4 p m (fun q=>W1.heap.size<=q/\q<W4.heap.size))(hB:Below W1.heap.size W1 W4)
  (hown:W2.ownsRow (w.heap.size+2) 53 1 (.slice A (k+1) c) (k+1) (us++[p])) (hg:(W4.alloc (.cells #[p] tb)).grownBy W2 K.ownBlock) (hat:(Value.slice A (k+1) c).ownBlock=K.ownBlock∨∃q,(Value.slice A (k+1) c).ownBlock=some q/\W4.heap.size+1<=q)
  (hv:jT 64 W5 (w.heap.size+1) #[.int .i64 f,R,.slice A (k+1) c]) (ho:Off (w.heap.size+1) W2 W5):
  kOf w nd f gks rs (k+1) R (.slice A (k+1) c) (us++[p]) (fun j q=>if j=k then W1.heap.size<=q/\q<W4.heap.size else Fs j q) W5:=by
 have hK:∀q,K.ownBlock=some q->w.heap.size+2<=q/\q<W.heap.size:=fun q hq=>h.rk.lt q hq;have hR:∀q,R.ownBlock=some q->w.heap.size+2<=q/\q<W.heap.size:=fun q hq=>h.r.lt q hq;have hs1:W1.heap.size=W.heap.size+1:=by rw[h1];simp
 have CE:=hB.size;have hlt:=h.lt;have hs2:=hg.size;simp only[World.size_alloc]at hs2;have CF:=ho.size;--blocks that lay there ahead of the round,but the variable and the row of zKn
 have keep:∀q,q<W.heap.size->q≠w.heap.size+1->K.ownBlock≠some q->W5.heap[q]? =W.heap[q]? :=fun q hq hne hk=>by
  rw[ho.block q Kb hne,hg.block q Kf (fun e=>hk e.symm),Below.heap_alloc W4 _ q Kb,hB.block q Kb,h1,Below.heap_alloc W _ q hq]
 have qD:∀q,W1.heap.size<=q->q<W4.heap.size->W5.heap[q]? =W4.heap[q]? :=fun q h2 h3=>by
  rw[ho.block q Kb Kb,hg.block q Kf (fun e=>by have:=hK q e.symm;omega),Below.heap_alloc W4 _ q h3]
 have hb4:Below w.heap.size w W4:=(h1▸(h.below.alloc h.below.size (.cells nk tn)):Below w.heap.size w W1).trans (hB.mono Kb);have hb:=(hb4.alloc hb4.size (.cells #[p] tb)).grown hg Kf (fun j hj=>by have:=hK j hj;omega);have hKn:∀q,(Value.slice A (k+1) c).ownBlock=some q->q<W.heap.size/\K.ownBlock=some q∨W4.heap.size+1<=q:=fun q hq=>by
  rcases hat with e|⟨q',e,hq'⟩
  ·rw[e]at hq;exact .inl ⟨(hK q hq).2,hq⟩
  ·rw[e]at hq;injection hq with hq;exact .inr Kb
 refine⟨(keep _ h.v2.lt Kb fun e=>by have:=hK _ e;omega).trans h.v2,hv,hb.trans (ho.below Kb hb.size),kNl h.r fun q hq=>keep q (hR q hq).2 (by have:=hR q hq;omega) (h.ra q hq),kN1 hown ho fun e=>by have:=hown.lt _ e;omega,fun q hq e=>?_,by simp[h.ul],fun j m' u e1 e2=>?_,fun j q hq=>?_,fun i j q hne hq1 hq2=>?_⟩
 ·rcases hKn q e with⟨_,e2⟩|e2
  ·exact h.ra q hq e2
  ·have:=hR q hq;omega
 ·by_cases e:j=k
  ·subst e;rw[hm]at e1;rw[List.getElem?_append_right (by rw[h.ul];exact Nat.le_refl _),h.ul,Nat.sub_self]at e2;simp only[List.getElem?_cons_zero,Option.some.injEq]at e1 e2;subst e1 e2;rw[show(fun q=>if j=j then W1.heap.size<=q/\q<W4.heap.size else Fs j q)=fun q=>W1.heap.size<=q/\q<W4.heap.size from funext fun q=>if_pos rfl];exact hG.frame fun q hq=>qD q hq.1 hq.2
  ·have hj:j<us.length:=by
    have:=(List.getElem?_eq_some_iff.1 e2).1;rw[List.length_append,List.length_singleton]at this;have:=h.ul;omega
   rw[List.getElem?_append_left hj]at e2;rw[show(fun q=>if j=k then W1.heap.size<=q/\q<W4.heap.size else Fs j q)=Fs j from funext fun q=>if_neg e];exact(h.kids j m' u e1 e2).frame fun q hq=>by
    have:=h.sub j q hq;exact keep q this.2.1 Kb this.2.2.2
 ·by_cases e:j=k
  ·rw[if_pos e]at hq;refine⟨by omega,by omega,fun e=>by have:=hR q e;omega,fun e=>?_⟩;rcases hKn q e with e2|e2<;>omega
  ·rw[if_neg e]at hq;have:=h.sub j q hq;refine⟨this.1,by omega,this.2.2.1,fun e=>?_⟩;rcases hKn q e with e2|e2
   ·exact this.2.2.2 e2.2
   ·omega
 ·by_cases e1:i=k
  ·have e2:j≠k:=fun h=>hne (e1.trans h.symm);rw[if_pos e1]at hq1;rw[if_neg e2]at hq2;have:=h.sub j q hq2;omega
  ·rw[if_neg e1]at hq1;by_cases e2:j=k
   ·rw[if_pos e2]at hq2;have:=h.sub i q hq1;omega
   ·rw[if_neg e2]at hq2;exact h.dis i j q hne hq1 hq2
theorem Gh.ptr {p:Value}{m:NT}{F:Nat->Prop}(h:Gh W p m F):∃b,p=.pointer (some ⟨b,0,none⟩):=by cases h;exact⟨_,rfl⟩
theorem Gh.one {p:Value}{m:NT}{F:Nat->Prop}(h:Gh W p m F):p.oneCell'=true:=by cases h;rfl
theorem kOf.v6_call {o:Obj}{W4:World}(h:kOf w nd f gks rs k R K us Fs W)(hB:Below (W.alloc o).heap.size (W.alloc o) W4):jT 64 W4 (w.heap.size+1) #[.int .i64 f,R,K]:=(h.v6.alloc o).keep hB
theorem kOf.rk_call {o:Obj}{W4:World}(h:kOf w nd f gks rs k R K us Fs W)(hB:Below (W.alloc o).heap.size (W.alloc o) W4):W4.ownsRow (w.heap.size+2) 53 1 K k us:=
 kNl h.rk fun q hq=>by
  have:=(h.rk.lt q hq).2;rw[hB.block q Kf,Below.heap_alloc W _ q this]
theorem kOf.done (h:kOf w nd f gks rs gks.length R K us Fs W):Gh W (.pointer (some ⟨w.heap.size+1,0,none⟩)) (.mk false [] (f::rs) gks) (fun q=>w.heap.size<=q/\q<W.heap.size):=by
 have hlt:=h.lt;have hK:=h.rk.lt;have hR:=h.r.lt;exact .mk _ (w.heap.size+1) f rs gks R K us Fs h.v6 ⟨by omega,hlt⟩ (kNo h.r fun _ _=>Nat.zero_le _) (kNo h.rk fun _ _=>Nat.zero_le _) h.ul (fun q hq=>⟨⟨by have:=hR q hq;omega,(hR q hq).2⟩,by have:=hR q hq;omega⟩)
  (fun q hq=>⟨⟨by have:=hK q hq;omega,(hK q hq).2⟩,by have:=hK q hq;omega,fun e=>h.ra q e hq⟩) h.kids (fun j q hq=>by have:=h.sub j q hq;exact⟨⟨by omega,this.2.1⟩,by omega,this.2.2⟩) h.dis
end
theorem kPz :(Tryz.prog.info? 62).map (·.size)=some 1:=Ka
def kWb (f:Int)(n:NT)(w:World)(e:Ending)(w':World):Prop:=∃p,e=.returned (.tuple #[p,.int .i64 (f+sizeT n)])/\Gh w' p (kQ3 n f) (fun q=>w.heap.size<=q/\q<w'.heap.size)/\Below w.heap.size w w'
theorem kR9 :∀(d:Nat)(w:World)(v:Value)(n:NT)(f:Int),zV d w w.heap.size v n->0<=f->f+sizeT n<=500000->Calls Tryz.prog 16 #[v,.int .i64 f] w (kWb f n w):=by
 intro d;induction d with
 |zero=>intro w v n f h;exact h.elim
 | succ d ih=>
  intro w v n f hn lH qE;obtain⟨d',lf,ps,tx,ks,PA,pc,TA,tc,KA,kc,hd',rfl,rfl,hp,ht,hf,hks⟩:=hn.open_;obtain rfl:d=d':=Kb;simp only[sizeT]at qE;have hkl:ks.length<=500000:=by have:=kOn ks;omega
  have hl:=hf.2.2.1;have bB:=hf.2.2.2.1;obtain⟨nd,hnd⟩:∃nd:Array Value,#[.bool lf,.slice PA ps.length pc,.slice TA tx.length tc,.slice KA ks.length kc]=nd:=⟨_,rfl⟩;obtain⟨wb,hwb⟩:∃wb,(w.alloc (.cells #[.bool lf,.slice PA ps.length pc,.slice TA tx.length tc,.slice KA ks.length kc] 26)).alloc (.cells #[.int .i64 f,.slice none 0 0,.slice none 0 0] 64)=wb:=⟨_,rfl⟩;have hM:kOf w nd f (kPx ks (f+1+tx.length)) [] 0 (.slice none 0 0) (.slice none 0 0) [] (fun _ _=>False) wb:=by
   have e1:(w.alloc (.cells nd 26)).heap.size=w.heap.size+1:=by simp
   have h2:=jT.new (w.alloc (.cells nd 26)) 64 #[.int .i64 f,.slice none 0 0,.slice none 0 0];rw[e1]at h2;rw[<-hwb,hnd];exact⟨(jT.new w 26 nd).alloc _,h2,(Kl.alloc Km _).alloc (by rw[e1];omega) _,World.ownsRow_nil _ _ _ _,World.ownsRow_nil _ _ _ _,fun q e=>(by cases e),rfl,fun j m u _ e=>(by simp at e),fun _ _ h=>h.elim,fun _ _ _ _ h=>h.elim⟩
  have HW:=hd hwb;have HM:=hd hM;have bR:=hd hks;have CG:=hd hnd;have HF:=hd qE;clear hn hp ht hf hks hd' hwb hM;have e2:nd[2]? =some (.slice TA tx.length tc):=by rw[<-hnd];rfl
  have e3:nd[3]? =some (.slice KA ks.length kc):=by rw[<-hnd];rfl
  have E2:=hd e2;have E3:=hd e3;clear hnd e2 e3;go_enter Tryz.func16,Tryz.ntmps16
  go_upto_region 2 with fail
  rw[HW.o];clear HW;have c2:=HM.o.v2.cell 2 _ E2.o;have Ay:f+1<=1000000:=by have:=HF.o;omega
  go_wp2
  clear c2;go_loopw [1,19] (fun z i wr=>∃(k:Nat)(y:Int)(A:Option Addr)(c:Nat),k<=tx.length/\z=.int .i64 y/\i=.int .i64 k/\0<=y/\y<=1000000/\Kr (y=f+1+k)/\Kr (kOf w nd f (kPx ks (f+1+tx.length)) (kSj (f+1) k) 0 (.slice A k c) (.slice none 0 0) [] (fun _ _=>False) wr)) (fun _ i _=>tx.length-(intOf i).toNat)
  case atStart=>exact⟨0,f+1,none,0,Nat.zero_le _,rfl,rfl,by omega,by omega,hd Kc,HM⟩
  case round=>
   obtain⟨k,y,A,c,hk,rfl,rfl,hy0,hy1,HY,HG⟩:=hrel;by_cases hlt:k<tx.length
   ·have c1:=HG.o.v6.cell 1 (.slice A k c) rfl;have CH:y+1<=1000000:=by have:=HY.o;have:=HF.o;omega
    go_wp2_with(first
     |(at_builtin;refine kOg giG wr rfl (.tmp 25) (.tmp 27) rfl (w.heap.size+2) (.slice A k c) k ((kSj (f+1) k).map (Value.int .i64)) [.int .i64 y] rfl (by have h:=HG.o.r;rw[kOr]at h;exact h) rfl rfl (by simp[Value.oneCell']) Kb Kd (by have:=HG.o.lt;omega) ?_;intro A2 c2 w2 hown hgr hat;have HOWN:=hd hown;have bP:=hd hgr;have HV:=hd ((HG.o.v6.alloc _).grew hgr (fun e=>by have:=HG.o.r.lt _ e;omega));clear hown hgr hat)
     |((with_reducible refine zF (ty:=27) (x:=.tmp 30) ?_);refine zFd zCa (r':=#[.int .i64 f,.slice A2 (k+1) c2,.slice none 0 0]) HV.o _ _ rfl rfl rfl 1 (.slice A2 (k+1) c2) rfl rfl rfl rfl (by show(1:Nat)<3;decide) rfl ?_;intro W5 hv ho;have HN:=hd (kOf.rune (y:=y) HG.o (by rw[kOr];exact HOWN.o) bP.o (by rw[kOr];exact hv) ho);clear hv ho))
    go_roundw
    case rel=>exact⟨k+1,y+1,A2,c2,by omega,by go_num,by go_num,by omega,by omega,hd (by rw[HY.o];omega),hd (by have h:=HN.o;rw[kOr,HY.o,<-kTb]at h;exact h)⟩
    case measure=>simp[intOf];omega
   ·obtain rfl:k=tx.length:=Kb;have c3:=HG.o.v2.cell 3 _ E3.o;have hgl:=kRz ks (f+1+tx.length);go_wp2
    clear c3;go_loopw [1,37] (fun z i wr2=>∃(k:Nat)(y2:Int)(A2:Option Addr)(c2:Nat)(us:List Value)(Fs:Nat->Nat->Prop),k<=ks.length/\z=.int .i64 y2/\i=.int .i64 k/\0<=y2/\y2<=1000000/\Kr (y2=f+1+tx.length+sizeK (ks.take k))/\Kr (kOf w nd f (kPx ks (f+1+tx.length)) (kSj (f+1) tx.length) k (.slice A tx.length c) (.slice A2 k c2) us Fs wr2)) (fun _ i _=>ks.length-(intOf i).toNat)
    case atStart=>exact⟨0,y,none,0,[],fun _ _=>False,Nat.zero_le _,rfl,rfl,hy0,hy1,hd (by rw[HY.o];simp[sizeK]),HG⟩
    case round=>
     obtain⟨k,y2,A2,c2,us,Fs,hk2,rfl,rfl,hz0,hz1,HZ,HH⟩:=hrel;clear HG HY hk;by_cases aS:k<ks.length
     ·obtain⟨m,b,o,lf1,dh,dA,di,dt,dB,dv,dw,dC,kc1,hm,rfl,hbg,cK,d0,d1,d2,d3⟩:=(bR.o.below HH.o.below).at_ aS;have hsz:=HH.o.below.size;obtain⟨wk,hwk⟩:∃wk,wk=wr.alloc (.cells #[.bool lf1,.slice dh dA di,.slice dt dB dv,.slice dw dC kc1] 26):=⟨_,rfl⟩;have hbk:Below wr.heap.size wr wk:=hwk▸Kl.alloc Km _;have hst:=kPy hm;have Az:sizeK ks=sizeK (ks.take (k+1))+sizeK (ks.drop (k+1)):=by rw[<-kZ,List.take_append_drop]
      have A7:y2+sizeT m<=500000:=by have:=HZ.o;have:=HF.o;omega
      have HC:=hd (ih wk _ m y2 (((cK.more hsz).below hbk).more hbk.size) hz0 A7);have fA:=hd (kR0 ks (f+1+tx.length) k m hm);have HST:=hd hst;have jq:=hd HH.o.lt;subst hwk;clear hm cK hbk hst Az;go_wp2_with(first
       |(go_at_call 16;refine HC.o.mono ?_;rintro e w4 ⟨p,rfl,hG,hB⟩;obtain⟨bp,rfl⟩:=hG.ptr;have HP:=hd hG;have aO:=hd hB;have hs4:=hB.size;have HV:=hd (HH.o.v6_call hB);have c5:=HV.o.cell 2 (.slice A2 k c2) rfl;clear hG hB)
       |(at_builtin;refine kOg gpG w4 rfl (.tmp 51) (.tmp 53) rfl (w.heap.size+2) (.slice A2 k c2) k us [.pointer (some ⟨bp,0,none⟩)] rfl (HH.o.rk_call aO.o) rfl rfl (by simp[Value.oneCell']) Kb Kd (by have:=jq.o;simp at hs4;omega) ?_;intro A3 c6 w5 hown hgr hat;have HOWN:=hd hown;have bP:=hd hgr;have sG:=hd hat;have HV:=hd ((HV.o.alloc _).grew hgr (fun e=>by have:=HH.o.rk.lt _ e;omega));clear hown hgr hat c5)
       |((with_reducible refine zF (ty:=62) (x:=.tmp 56) ?_);refine zFd kPz (r':=#[.int .i64 f,.slice A tx.length c,.slice A3 (k+1) c6]) HV.o _ _ rfl rfl rfl 2 (.slice A3 (k+1) c6) rfl rfl rfl rfl (by show(2:Nat)<3;decide) rfl ?_;intro W5 hv ho;have HN:=hd (kOf.kid (m:=kQ3 m y2) HH.o (by rw[HZ.o];exact fA.o) rfl HP.o aO.o HOWN.o bP.o sG.o hv ho);clear hv ho))
      go_roundw
      case rel=>exact⟨k+1,y2+sizeT m,A3,c6,_,_,by omega,rfl,by go_num,by omega,by omega,hd (by rw[HST.o,HZ.o];omega),HN⟩
      case measure=>simp[intOf];omega
     ·obtain rfl:k=ks.length:=Kb;have HE:=hd (show y2=f+sizeT (.mk lf ps tx ks) by rw[HZ.o,List.take_of_length_le Km];simp only[sizeT];omega);have HD:=hd (by have h:=HH.o;rw[<-hgl]at h;exact h.done);go_wp2
      go_ret2
      refine⟨_,by rw[<-HE.o];rfl,HD.o,HH.o.below⟩
def kWd (F:Nat->Prop)(v:Value)(n k:NT)(w:World)(e:Ending)(w':World):Prop:=∃p Fk F',e=.returned p/\Gh w' p k Fk/\Gh w' v n F'/\(∀q,Fk q->¬F' q)/\(∀q,Fk q∨F' q->F q∨(w.heap.size<=q/\q<w'.heap.size))/\Tch F w w'
def kVe (F Fk:Nat->Prop)(v:Value)(n:NT)(w:World)(e:Ending)(w':World):Prop:=∃F',e=.returned (.tuple #[])/\Gh w' v n F'/\(∀q,F' q->F q∨Fk q∨(w.heap.size<=q/\q<w'.heap.size))/\Tch F w w'
theorem kTm {w:World}{b:Nat}{lab:Int}{rs:List Int}{ks:List NT}{R:Value}{c:Nat}{us:List Value}{Fs:Nat->Nat->Prop}{F:Nat->Prop}(h:GhO w b lab rs ks R (.slice A ks.length c) us Fs F):VL w w.heap.size A us:=VP.vl (kU5 h.hk fun g hg=>(h.hk.lt g hg).2) (fun _ h=>h)
theorem kPm {w:World}{b:Nat}{lab:Int}{rs:List Int}{ks:List NT}{R K:Value}{us:List Value}{Fs:Nat->Nat->Prop}{F:Nat->Prop}(h:GhO w b lab rs ks R K us Fs F):∀u ∈ us,u.oneCell'=true:=fun u hu=>by
 obtain⟨j,hj,rfl⟩:=List.mem_iff_getElem.1 hu;exact(h.kids j _ _ (List.getElem?_eq_getElem (by rw[<-h.hl];exact hj)) (List.getElem?_eq_getElem hj)).one
theorem kPn (u:List Int)(i:Int):iAt (u++[i]) u.length=i:=by unfold iAt;simp[List.getD_eq_getElem?_getD]
theorem kQa {w:World}{v:Value}{n x k:NT}{F:Nat->Prop}{u:List Int}{lq cq i:Nat}(hg:Gh w v n F)(hF:∀q,F q->q<w.heap.size)(hq:zKt w A lq cq (u++[(i:Int)]))(hx:kB n u=some x)(hi:x.ks[i]? =some k)(hs:x.ks.length<=500000):
  Calls Tryz.prog 44 #[v,.slice A lq cq] w (kWd F v (putT n u (jS x i 1 [])) k w):=by
 obtain⟨pu,Fm,hpt,dL,hsub,bi⟩:=Gh.sub u hg hx;obtain⟨b,lab,rs,ks,RA,rc,KA,kc,us,Fs,rfl,rfl,hO⟩:=dL.opened;have hi':ks[i]? =some k:=hi;have hik:i<ks.length:=(List.getElem?_eq_some_iff.1 hi').1;have hsl:ks.length<=500000:=hs;obtain⟨pk,hpk⟩:∃p,us[i]? =some p:=⟨_,List.getElem?_eq_getElem (by rw[hO.hl];exact hik)⟩;have jr:=hO.kids i k pk hi' hpk;obtain⟨bk,rfl⟩:=jr.ptr;obtain⟨KA',kc',eK,hkc,_,hfree⟩:=zC9 hO.hk;injection eK with je _ jf;subst je jf;obtain⟨g,rfl,_,_,hcell,_⟩:=hfree i _ hpk;have hvl:=kTm hO;have fB:=kPm hO;have gU:=hO.hl;obtain⟨D,hD,av⟩:=kQl (some ⟨g,0,none⟩) ks.length kc (i+1) Kb hkc;have az:=kPs (some ⟨g,0,none⟩) ks.length kc i Kb;have ay:∀W:World,(Instr.slice 62 (.slice (some ⟨g,0,none⟩) ks.length kc) (some (.int .i64 ((i:Int)+1))) none none).run Tryz.prog W=.ok (.slice D (ks.length-(i+1)) (kc-(i+1))) W:=by
  rw[show((i:Int)+1)=((i+1:Nat):Int) by omega];exact av
 obtain⟨ul,dV⟩:∃l,u.length=l:=⟨_,rfl⟩;have hlq:=hq.len;rw[List.length_append,List.length_singleton,dV]at hlq;subst hlq;have qF:=hq.up;have hle:=hq.le;have hcap:=hq.cap;obtain⟨b0,o0,rfl,hb0,hc⟩:=hq.il.at_ (k:=ul) (by rw[List.length_append,dV];simp);rw[<-dV,kPn,dV]at hc;have hbl:=hO.hb.lt;have c2:=hO.hb.cell 2 (.slice (some ⟨g,0,none⟩) ks.length kc) rfl;have cD:=hd hpt;have uJ:=hd qF;have HO:=hd hO;have eT:=hd hvl;have js:=hd fB;have HD:=hd hD;have cG:=hd bi;have AA:=hd jr;have aD:=hd hsub;have nP:=hd hF;have nQ:=hd gU;have iO:=hd hi';have iP:=hd hpk;clear hpt qF hq hO hvl fB hD bi jr hsub hF hfree hg hx hi hi' hpk av dL hs gU;go_enter Tryz.func44,Tryz.ntmps44
 go_wp2_with(first
  |(go_at_call 21;refine Calls.mono (kN8 cD.o uJ.o) ?_;rintro e w1 ⟨rfl,hw1⟩;have hw1:=hw1.symm;subst hw1)
  |(at_builtin;refine kNs gpG w rfl (.tmp 29) (.tmp 35) rfl w.heap.size rfl (some ⟨g,0,none⟩) i kc w.heap.size (us.take i) rfl (by have:=nQ.o;simp;omega) (eT.o.take i) (fun u hu=>js.o u (List.mem_of_mem_take hu)) Kg Kb Km ?_;intro A1 c1 w2 hown hb2 hat;have HOWN:=hd hown;have aL:=hd hb2;have HV:=hd (HO.o.hb.keep hb2);have c2:=HV.o.cell 2 (.slice (some ⟨g,0,none⟩) ks.length kc) rfl;clear hown hb2 hat)
  |(at_builtin;refine zK7 gpG w2 rfl (.tmp 38) (.tmp 45) rfl w.heap.size (.slice A1 i c1) i (us.take i) rfl HOWN.o D (ks.length-(i+1)) (kc-(i+1)) w.heap.size (us.drop (i+1)) rfl (by have:=nQ.o;simp;omega) ((HD.o _ _ _ eT.o nQ.o).below aL.o) (fun u hu=>js.o u (List.mem_of_mem_drop hu)) Kg Kb aL.o.size ?_;intro A2 c3 w3 hown hgr hat;have eW:=hd hown;have bP:=hd hgr;have HV:=hd (HV.o.grew hgr (fun e=>by have:=(HOWN.o.lt _ e).1;omega));clear hown hgr hat c2)
  |((with_reducible refine zF (ty:=62) (x:=.tmp 48) ?_);refine zFd kPz (r':=#[.int .i64 lab,.slice RA rs.length rc,.slice A2 (i+(ks.length-(i+1))) c3]) HV.o _ _ rfl rfl rfl 2 (.slice A2 (i+(ks.length-(i+1))) c3) rfl rfl rfl rfl (by show(2:Nat)<3;decide) rfl ?_;intro W5 hv ho;have cQ:=hd hv;have lI:=hd ho;clear hv ho))
 go_ret
 have gz:=nP.o;have hsub:=aD.o;have hs2:=aL.o.size;have hs3:=bP.o.size;have hs5:=lI.o.size;have e1:i+(ks.length-(i+1))=ks.length-1:=Kb;have mH:=cQ.o;have hown:=eW.o;rw[e1]at mH hown;have keep:∀q,q<w.heap.size->q≠b->W5.heap[q]? =w.heap[q]? :=fun q hq hne=>by
  rw[lI.o.block q Kb hne,bP.o.block q Kb (fun e=>by have:=(HOWN.o.lt _ e.symm).1;omega),aL.o.block q hq]
 have G1:=HO.o.took hik (fun q h=>gz q (hsub q h)) mH keep (kN1 hown lI.o fun e=>by have:=(hown.lt _ e).1;omega);have gA:F b:=hsub b HO.o.hF;have G2:=cG.o W5 _ _ G1 (fun q h1 h2=>keep q (gz q h1) fun e=>h2 (e▸HO.o.hF)) (fun q h1 h2 h3=>by
  rcases h1 with h1|h1
  ·exact h2 h1.1
  ·have:=gz q h3;omega)
 have e2:jS (.mk false [] (lab::rs) ks) i 1 []=.mk false [] (lab::rs) (ks.take i++ks.drop (i+1)):=by
  show NT.mk false [] (lab::rs) (spl ks i 1 [])=_
  unfold spl;rw[List.append_nil]
 refine⟨_,Fs i,_,rfl,AA.o.frame fun q h=>keep q (gz q (hsub q (HO.o.sub i q h).1)) (HO.o.sub i q h).2.1,by rw[e2];exact G2,fun q h1 h2=>?_,fun q h1=>?_,?_⟩
 ·rcases h2 with h2|h2|h2
  ·exact h2.2 (HO.o.sub i q h1).1
  ·exact h2.2 h1
  ·have:=gz q (hsub q (HO.o.sub i q h1).1);omega
 ·rcases h1 with h1|h1|h1|h1
  ·exact .inl (hsub q (HO.o.sub i q h1).1)
  ·exact .inl h1.1
  ·exact .inl (hsub q h1.1)
  ·exact .inr h1
 ·refine(Tch.of_below aL.o).trans (Tch.trans (F:=fun q=>w.heap.size<=q∨F q) ⟨bP.o.os,bP.o.tape,bP.o.output,hs3,fun q hq hn=>bP.o.block q hq fun e=>hn (.inl (HOWN.o.lt _ e.symm).1)⟩ (Tch.of_off lI.o (F:=F) gA) (fun q _ h=>.inr h)) (fun q hq h=>?_);rcases h with h|h
  ·omega
  ·exact h
theorem kQb {w:World}{v pm:Value}{n x m:NT}{F Fk:Nat->Prop}{u:List Int}{lq cq i:Nat}(hg:Gh w v n F)(hF:∀q,F q->q<w.heap.size)(hm:Gh w pm m Fk)(gT:∀q,Fk q->q<w.heap.size/\¬F q)(hq:zKt w A lq cq (u++[(i:Int)]))(hx:kB n u=some x)(hi:i<=x.ks.length)(hs:x.ks.length<=500000):
  Calls Tryz.prog 43 #[v,.slice A lq cq,pm] w (kVe F Fk v (putT n u (jS x i 0 [m])) w):=by
 obtain⟨pu,Fm,hpt,dL,hsub,bi⟩:=Gh.sub u hg hx;obtain⟨b,lab,rs,ks,RA,rc,KA,kc,us,Fs,rfl,rfl,hO⟩:=dL.opened;have hik:i<=ks.length:=hi;have hsl:ks.length<=500000:=hs;obtain⟨bk,rfl⟩:=hm.ptr;obtain⟨KA',kc',eK,hkc,_,_⟩:=zC9 hO.hk;injection eK with je _ jf;subst je jf;have hvl:=kTm hO;have fB:=kPm hO;have gU:=hO.hl;obtain⟨D,hD,ay⟩:=kQl KA ks.length kc i hik hkc;have az:=kPs KA ks.length kc i Kb;obtain⟨ul,dV⟩:∃l,u.length=l:=⟨_,rfl⟩;have hlq:=hq.len;rw[List.length_append,List.length_singleton,dV]at hlq;subst hlq;have qF:=hq.up;have hle:=hq.le;have hcap:=hq.cap;obtain⟨b0,o0,rfl,hb0,hc⟩:=hq.il.at_ (k:=ul) (by rw[List.length_append,dV];simp);rw[<-dV,kPn,dV]at hc;have hbl:=hO.hb.lt;have c2:=hO.hb.cell 2 (.slice KA ks.length kc) rfl;have cD:=hd hpt;have uJ:=hd qF;have HO:=hd hO;have eT:=hd hvl;have js:=hd fB;have HD:=hd hD;have cG:=hd bi;have HM:=hd hm;have AB:=hd gT;have aD:=hd hsub;have nP:=hd hF;have nQ:=hd gU;clear hpt qF hq hO hvl fB hD bi hm gT hsub hF hg hx hi dL hs gU;go_enter Tryz.func43,Tryz.ntmps43
 go_wp2_with(first
  |(go_at_call 21;refine Calls.mono (kN8 cD.o uJ.o) ?_;rintro e w1 ⟨rfl,hw1⟩;have hw1:=hw1.symm;subst hw1)
  |(at_builtin;refine kNs gpG w rfl (.tmp 22) (.tmp 28) rfl w.heap.size rfl KA i kc w.heap.size (us.take i) rfl (by have:=nQ.o;simp;omega) (eT.o.take i) (fun u hu=>js.o u (List.mem_of_mem_take hu)) Kg Kb Km ?_;intro A1 c1 w2 hown hb2 hat;have HOWN:=hd hown;have aL:=hd hb2;have HV:=hd (HO.o.hb.keep hb2);clear hown hb2 hat)
  |(at_builtin;refine kOg gpG w2 rfl (.tmp 30) (.tmp 32) rfl w.heap.size (.slice A1 i c1) i (us.take i) [.pointer (some ⟨bk,0,none⟩)] rfl HOWN.o rfl rfl (by simp[Value.oneCell']) Kb Kd aL.o.size ?_;intro A3 c4 w3 hown hgr hat;have gH:=hd hown;have AC:=hd hgr;have HV:=hd ((HV.o.alloc _).grew hgr (fun e=>by have:=(HOWN.o.lt _ e).1;omega));have cE:=hd ((aL.o.alloc aL.o.size _).grown hgr (by have:=aL.o.size;simp;omega) (fun j hj=>by have:=(HOWN.o.lt _ hj).1;omega));have c2:=HV.o.cell 2 (.slice KA ks.length kc) rfl;clear hown hgr hat)
  |(at_builtin;refine zK7 gpG w3 rfl (.tmp 35) (.tmp 41) rfl w.heap.size (.slice A3 (i+1) c4) (i+1) (us.take i++[.pointer (some ⟨bk,0,none⟩)]) rfl gH.o D (ks.length-i) (kc-i) w.heap.size (us.drop i) rfl (by have:=nQ.o;simp;omega) ((HD.o _ _ _ eT.o nQ.o).below cE.o) (fun u hu=>js.o u (List.mem_of_mem_drop hu)) Kg Kb cE.o.size ?_;intro A2 c3 w4 hown hgr hat;have eW:=hd hown;have bP:=hd hgr;have HV:=hd (HV.o.grew hgr (fun e=>by have:=(gH.o.lt _ e).1;omega));clear hown hgr hat c2)
  |((with_reducible refine zF (ty:=62) (x:=.tmp 44) ?_);refine zFd kPz (r':=#[.int .i64 lab,.slice RA rs.length rc,.slice A2 (i+1+(ks.length-i)) c3]) HV.o _ _ rfl rfl rfl 2 (.slice A2 (i+1+(ks.length-i)) c3) rfl rfl rfl rfl (by show(2:Nat)<3;decide) rfl ?_;intro W5 hv ho;have cQ:=hd hv;have lI:=hd ho;clear hv ho))
 go_end0
 have gz:=nP.o;have hsub:=aD.o;have qG:=AB.o;have hs2:=cE.o.size;have hs3:=bP.o.size;have hs5:=lI.o.size;have e1:i+1+(ks.length-i)=ks.length+1:=Kb;have mH:=cQ.o;have hown:=eW.o;rw[e1]at mH hown;have keep:∀q,q<w.heap.size->q≠b->W5.heap[q]? =w.heap[q]? :=fun q hq hne=>by
  rw[lI.o.block q Kb hne,bP.o.block q Kb (fun e=>by have:=(gH.o.lt _ e.symm).1;omega),cE.o.block q hq]
 have gA:F b:=hsub b HO.o.hF;have G1:=HO.o.put hik (fun q h=>gz q (hsub q h)) HM.o (fun q h=>⟨(qG q h).1,fun e=>(qG q h).2 (hsub q e)⟩) mH keep (kN1 hown lI.o fun e=>by have:=(hown.lt _ e).1;omega);have G2:=cG.o W5 _ _ G1 (fun q h1 h2=>keep q (gz q h1) fun e=>h2 (e▸HO.o.hF)) (fun q h1 h2 h3=>by
  rcases h1 with h1|h1|h1
  ·exact h2 h1
  ·exact(qG q h1).2 h3
  ·have:=gz q h3;omega)
 have e2:jS (.mk false [] (lab::rs) ks) i 0 [m]=.mk false [] (lab::rs) (ks.take i++[m]++ks.drop i):=rfl;refine⟨_,rfl,by rw[e2];exact G2,fun q h1=>?_,?_⟩
 ·rcases h1 with h1|h1|h1|h1
  ·exact .inl h1.1
  ·exact .inl (hsub q h1)
  ·exact .inr (.inl h1)
  ·exact .inr (.inr h1)
 ·refine(Tch.of_below cE.o).trans (Tch.trans (F:=fun q=>w.heap.size<=q∨F q) ⟨bP.o.os,bP.o.tape,bP.o.output,hs3,fun q hq hn=>bP.o.block q hq fun e=>hn (.inl (gH.o.lt _ e.symm).1)⟩ (Tch.of_off lI.o (F:=F) gA) (fun q _ h=>.inr h)) (fun q hq h=>?_);rcases h with h|h
  ·omega
  ·exact h
mutual
def fgT :NT->NT
 |.mk _ _ tx ks=>.mk false [] (List.replicate tx.length (-2)) (fgK ks)
def fgK :List NT->List NT
 |[]=>[]
 |k::r=>fgT k::fgK r
end
theorem kOl :∀(ks:List NT),(fgK ks).length=ks.length
 |[]=>rfl
 |k::r=>by rw[fgK,List.length_cons,List.length_cons,kOl r]
theorem kSs :∀(ks:List NT)(j:Nat),(fgK ks)[j]? =(ks[j]?).map fgT
 |[],j=>by simp[fgK]
 |k::r,0=>by simp[fgK]
 |k::r,j+1=>by rw[fgK,List.getElem?_cons_succ,List.getElem?_cons_succ,kSs r j]
def kSi (k:Nat)(ks:List NT):List NT:=(fgK ks).take k++ks.drop k
theorem kQc (k:Nat)(ks:List NT)(j:Nat):(kSi k ks)[j]? =if j<k then(ks[j]?).map fgT else ks[j]? :=by
 unfold kSi;by_cases h:j<k
 ·rw[if_pos h];by_cases hl:j<ks.length
  ·rw[List.getElem?_append_left (by rw[List.length_take,kOl];omega),List.getElem?_take_of_lt h,kSs]
  ·rw[List.getElem?_eq_none (by rw[List.length_append,List.length_take,kOl,List.length_drop];omega),List.getElem?_eq_none Kb];rfl
 ·rw[if_neg h];by_cases hl:k<=ks.length
  ·rw[List.getElem?_append_right (by rw[List.length_take,kOl];omega),List.length_take,kOl,List.getElem?_drop];congr 1;omega
  ·rw[List.getElem?_eq_none (by rw[List.length_append,List.length_take,kOl,List.length_drop];omega),List.getElem?_eq_none Kb]
theorem kPd (k:Nat)(ks:List NT):(kSi k ks).length=ks.length:=by unfold kSi;rw[List.length_append,List.length_take,kOl,List.length_drop];omega
section
variable {w w':World}{b:Nat}{lab lab':Int}{rs rs':List Int}{ks:List NT}{R K:Value}{us:List Value}{Fs:Nat->Nat->Prop}{F:Nat->Prop}
theorem GhO.relab (h:GhO w b lab rs ks R K us Fs F)(hF:∀q,F q->q<w.heap.size)(hv:jT 64 w' b #[.int .i64 lab',R,K])(hr:w'.ownsRow 0 3 1 R rs'.length (rs'.map (Value.int .i64)))
  (keep:∀q,q<w.heap.size->q≠b->R.ownBlock≠some q->w'.heap[q]? =w.heap[q]?):GhO w' b lab' rs' ks R K us Fs F:=
 ⟨hv,h.hF,hr,kNl h.hk fun q hq=>keep q (h.hk.lt q hq).2 (h.fk q hq).2.1 (h.fk q hq).2.2,h.hl,h.fr,h.fk,fun j m u e1 e2=>(h.kids j m u e1 e2).frame fun q hq=>by
  have:=h.sub j q hq;exact keep q (hF q this.1) this.2.1 this.2.2.1,h.sub,h.dis⟩
theorem GhO.rekid {k:Nat}{m':NT}{u:Value}(h:GhO w b lab rs ks R K us Fs F)(hF:∀q,F q->q<w.heap.size)(hk:k<ks.length)(hu:us[k]? =some u)(hG:Gh w' u m' (Fs k))(ht:Tch (Fs k) w w'):GhO w' b lab rs (ks.set k m') R K us Fs F:=by
 have nb:∀q,Fs k q->q≠b/\R.ownBlock≠some q/\K.ownBlock≠some q:=fun q hq=>(h.sub k q hq).2;refine⟨(ht.block b h.hb.lt fun e=>(nb b e).1 rfl).trans h.hb,h.hF,kNl h.hr fun q hq=>ht.block q (h.hr.lt q hq).2 fun e=>(nb q e).2.1 hq,?_,by rw[List.length_set];exact h.hl,h.fr,h.fk,fun j m u2 e1 e2=>?_,h.sub,h.dis⟩
 ·rw[List.length_set];exact kNl h.hk fun q hq=>ht.block q (h.hk.lt q hq).2 fun e=>(nb q e).2.2 hq
 ·by_cases e:j=k
  ·subst e;rw[List.getElem?_set_self hk]at e1;rw[hu]at e2;injection e1 with e1;injection e2 with e2;subst e1 e2;exact hG
  ·rw[List.getElem?_set_ne (fun h=>e h.symm)]at e1;exact(h.kids j m u2 e1 e2).frame fun q hq=>ht.block q (hF q (h.sub j q hq).1) fun e2=>h.dis j k q e hq e2
end
theorem kTn {ks:List NT}{k:Nat}{m:NT}(h:ks[k]? =some m):(kSi k ks).set k (fgT m)=kSi (k+1) ks:=by
 have hk:k<ks.length:=(List.getElem?_eq_some_iff.1 h).1;refine List.ext_getElem? fun j=>?_;rw[kQc];by_cases e:j=k
 ·subst e;rw[List.getElem?_set_self (by rw[kPd];exact hk),if_pos Kb,h];rfl
 ·rw[List.getElem?_set_ne (fun h=>e h.symm),kQc];by_cases h2:j<k
  ·rw[if_pos h2,if_pos Kb]
  ·rw[if_neg h2,if_neg Kb]
theorem kTo (ks:List NT):kSi ks.length ks=fgK ks:=by unfold kSi;rw[List.take_of_length_le (by rw[kOl];exact Nat.le_refl _),List.drop_eq_nil_of_le Km,List.append_nil]
theorem kUk (rs:List Int)(k:Nat)(hk:k<rs.length):(List.replicate k (-2:Int)++rs.drop k).set k (-2)=List.replicate (k+1) (-2)++rs.drop (k+1):=by
 rw[List.set_append_right _ _ Kc,List.length_replicate,Nat.sub_self,List.drop_eq_getElem_cons hk,List.set_cons_zero,List.replicate_succ',List.append_assoc];rfl
theorem kRa (rs:List Int)(k:Nat)(hk:k<=rs.length):(List.replicate k (-2:Int)++rs.drop k).length=rs.length:=by simp;omega
def kVf (F:Nat->Prop)(v:Value)(n:NT)(w:World)(e:Ending)(w':World):Prop:=e=.returned (.tuple #[])/\Gh w' v (fgT n) F/\Tch F w w'
theorem kRb :∀(N:Nat)(w:World)(v:Value)(n:NT)(F:Nat->Prop),sizeT n<=N->Gh w v n F->(∀q,F q->q<w.heap.size)->sizeT n<=500000->Calls Tryz.prog 42 #[v] w (kVf F v n w):=by
 intro N;induction N with
 |zero=>intro w v n F h;have:=zJs n;omega
 | succ N ih=>
  intro w v n F hN hG hF hs;obtain⟨b,lab,rs,ks,RA,rc,KA,kc,us,Fs,rfl,rfl,hO⟩:=hG.opened;simp only[sizeT,List.length_cons]at hN hs;have hkl:=kOn ks;have c0:=hO.hb.cell 0 (.int .i64 lab) rfl;have f0:=hO.hb.thaw 0;obtain⟨hv0,ho0⟩:=hO.hb.set 0 (.int .i64 (-2));obtain⟨W1,hW1⟩:∃W,w.setCell ⟨b,0,none⟩ (.int .i64 (-2))=W:=⟨_,rfl⟩;rw[hW1]at hv0 ho0;have h1:GhO W1 b (-2) (List.replicate 0 (-2)++rs.drop 0) ks (.slice RA rs.length rc) (.slice KA ks.length kc) us Fs F:=by
   refine hO.relab hF hv0 ?_ fun q h2 h3 _=>ho0.block q h2 h3;rw[show List.replicate 0 (-2:Int)++rs.drop 0=rs by simp];exact kNl hO.hr fun q hq=>ho0.block q (hO.hr.lt q hq).2 (hO.fr q hq).2
  have sH:=hd hW1;have bK:=hd h1;have mI:=hd (Tch.of_off ho0 hO.hF);have HF:=hd hF;have HS:=hd hs;have uH:=hd hN;have hrl:rs.length<=500000:=Kb;have AE:ks.length<=500000:=Kb;have gA:=hO.hF;have sI:=hd gA;clear hG hF hO h1 hv0 ho0 hW1 hN hs hkl gA;go_enter Tryz.func42,Tryz.ntmps42
  go_upto_region 1 with fail
  rw[sH.o];clear c0 f0 sH;have c1:=bK.o.hb.cell 1 (.slice RA rs.length rc) rfl;go_wp2
  clear c1;go_loopw [13] (fun i wr=>∃k:Nat,k<=rs.length/\i=.int .i64 k/\Kr (GhO wr b (-2) (List.replicate k (-2)++rs.drop k) ks (.slice RA rs.length rc) (.slice KA ks.length kc) us Fs F)/\Kr (Tch F w wr)) (fun i _=>rs.length-(intOf i).toNat)
  case atStart=>exact⟨0,Nat.zero_le _,rfl,bK,mI⟩
  case round=>
   obtain⟨k,hk,rfl,HO,HT⟩:=hrel;clear bK mI;by_cases hlt:k<rs.length
   ·have hr:=HO.o.hr;rw[kRa rs k hk]at hr;obtain⟨RA',rc',eR,hrc,_,hfree⟩:=zC9 hr;injection eR with gP _ gQ;subst gP gQ;obtain⟨x,hx⟩:∃x,((List.replicate k (-2:Int)++rs.drop k).map (Value.int .i64))[k]? =some x:=⟨_,List.getElem?_eq_getElem (by rw[List.length_map,kRa rs k hk];exact hlt)⟩;obtain⟨g,rfl,_,hgl,hcx,CI⟩:=hfree k x hx;have c1:=HO.o.hb.cell 1 (.slice (some ⟨g,0,none⟩) rs.length rc) rfl;obtain⟨hst,hgr⟩:=hr.stored k (.int .i64 (-2));obtain⟨W2,hW2⟩:∃W,wr.setCell ⟨g,k,none⟩ (.int .i64 (-2))=W:=⟨_,rfl⟩;rw[hW2]at hst hgr;have hgb:=HO.o.fr g rfl;have xx:GhO W2 b (-2) (List.replicate (k+1) (-2)++rs.drop (k+1)) ks (.slice (some ⟨g,0,none⟩) rs.length rc) (.slice KA ks.length kc) us Fs F:=by
     refine HO.o.relab (fun q h=>Nat.lt_of_lt_of_le (HF.o q h) HT.o.size) ((hgr.block b HO.o.hb.lt fun e=>hgb.2 (Option.some.inj e).symm).trans HO.o.hb) ?_ fun q h2 _ h3=>hgr.block q h2 fun e=>h3 (by rw[e];rfl);rw[kRa rs (k+1) hlt,<-kUk rs k hlt,List.map_set];exact hst
    have mJ:=hd xx;have gM:=hd (show Tch F w W2 from HT.o.trans ⟨hgr.os,hgr.tape,hgr.output,hgr.size,fun q h2 h3=>hgr.block q h2 fun e=>h3 (Option.some.inj e▸hgb.1)⟩ fun q _ h=>h);have pJ:=hd hW2;clear hr hst hgr xx hW2 hfree hx hgb;go_wp2
    rw[pJ.o];go_roundw
    case rel=>exact⟨k+1,by omega,by go_num,mJ,gM⟩
    case measure=>simp[intOf];omega
   ·obtain rfl:k=rs.length:=Kb;have c2:=HO.o.hb.cell 2 (.slice KA ks.length kc) rfl;have HX:=hd (show GhO wr b (-2) (List.replicate rs.length (-2)++rs.drop rs.length) (kSi 0 ks) (.slice RA rs.length rc) (.slice KA ks.length kc) us Fs F from by rw[show kSi 0 ks=ks by unfold kSi;simp];exact HO.o);go_wp2
    clear c2;go_loopw [28] (fun i wr2=>∃k:Nat,k<=ks.length/\i=.int .i64 k/\Kr (GhO wr2 b (-2) (List.replicate rs.length (-2)++rs.drop rs.length) (kSi k ks) (.slice RA rs.length rc) (.slice KA ks.length kc) us Fs F)/\Kr (Tch F w wr2)) (fun i _=>ks.length-(intOf i).toNat)
    case atStart=>exact⟨0,Nat.zero_le _,rfl,HX,HT⟩
    case round=>
     obtain⟨k,hk2,rfl,HY,sJ⟩:=hrel;clear HX HO HT hk;by_cases aS:k<ks.length
     ·obtain⟨m,hm⟩:∃m,ks[k]? =some m:=⟨_,List.getElem?_eq_getElem aS⟩;have gU:us.length=ks.length:=by have:=HY.o.hl;rw[kPd]at this;exact this
      obtain⟨u,hu⟩:∃u,us[k]? =some u:=⟨_,List.getElem?_eq_getElem Kb⟩;have jr:=HY.o.kids k m u (by rw[kQc,if_neg Kb];exact hm) hu;have cJ:=HY.o.hk;rw[kPd]at cJ;obtain⟨KA',kc',eK,hkc,_,hfree⟩:=zC9 cJ;injection eK with je _ jf;subst je jf;obtain⟨g,rfl,_,_,hcx,_⟩:=hfree k u hu;obtain⟨bk,rfl⟩:=jr.ptr;have hsm:=kSr hm;have HC:=hd (ih wr _ m (Fs k) (by have:=uH.o;omega) jr (fun q h=>Nat.lt_of_lt_of_le (HF.o q (HY.o.sub k q h).1) sJ.o.size) (by have:=HS.o;omega));have HM:=hd hm;have HU:=hd hu;clear hm hu jr cJ hfree hsm gU;go_wp2_with(go_at_call 42;refine HC.o.mono ?_;rintro e w4 ⟨rfl,hg4,dD⟩;have ua:=hd hg4;have iT:=hd dD;clear hg4 dD)
      go_roundw
      case rel=>exact⟨k+1,by omega,by go_num,hd (by rw[<-kTn HM.o];exact HY.o.rekid (fun q h=>Nat.lt_of_lt_of_le (HF.o q h) sJ.o.size) (by rw[kPd];exact aS) HU.o ua.o iT.o),hd (sJ.o.trans iT.o fun q _ h=>(HY.o.sub k q h).1)⟩
      case measure=>simp[intOf];omega
     ·obtain rfl:k=ks.length:=Kb;go_wp2
      go_end0
      refine⟨rfl,?_,sJ.o⟩;have h:=HY.o.gh;rw[kTo,List.drop_eq_nil_of_le Km,List.append_nil]at h;exact h
mutual
def kQo :NT->NT->Bool
 |.mk _ _ gx gk,.mk _ _ tx ks=>decide (gx.length=tx.length+1)&&shpK gk ks
def shpK :List NT->List NT->Bool
 |[],[]=>true
 |g::gr,k::r=>kQo g k&&shpK gr r
 |[],_::_=>false
 |_::_,[]=>false
end
theorem kQd :∀(gk ks:List NT),shpK gk ks=true ↔ gk.length=ks.length/\∀(j:Nat)(g k:NT),gk[j]? =some g->ks[j]? =some k->kQo g k=true
 |[],[]=>by simp[shpK]
 | g::gr,k::r=>by
  rw[shpK,Bool.and_eq_true,kQd gr r,List.length_cons,List.length_cons];constructor
  ·rintro⟨h1,h2,h3⟩;refine⟨by omega,fun j g' k' e1 e2=>?_⟩;cases j with
   |zero=>
    simp only[List.getElem?_cons_zero,Option.some.injEq]at e1 e2;subst e1 e2;exact h1
   |succ j=>
    rw[List.getElem?_cons_succ]at e1 e2;exact h3 j g' k' e1 e2
  ·rintro⟨h1,h2⟩;exact⟨h2 0 g k rfl rfl,by omega,fun j g' k' e1 e2=>h2 (j+1) g' k' (by rw[List.getElem?_cons_succ];exact e1) (by rw[List.getElem?_cons_succ];exact e2)⟩
 |[],_::_=>by simp[shpK]
 |_::_,[]=>by simp[shpK]
