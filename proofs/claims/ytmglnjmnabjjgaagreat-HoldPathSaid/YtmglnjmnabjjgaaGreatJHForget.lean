import Derived.Test.YtmglnjmnabjjgaaGreatJHPlain
set_option maxRecDepth 100000
set_option maxHeartbeats 8000000
namespace Go.Proofs.YtmglnjmnabjjgaaGreat
open Go.RowKit
variable {a:OpP}
mutual
def fgT :NT->NT
 |.mk _ _ tx ks=>.mk false [] (List.replicate tx.length (-2)) (fgK ks)
def fgK :List NT->List NT
 |[]=>[]
 |k::r=>fgT k::fgK r
end
theorem kO3 :∀(ks:List NT),(fgK ks).length=ks.length
 |[]=>rfl
 |k::r=>by rw[fgK,List.length_cons,List.length_cons,kO3 r]
theorem kUa :∀(ks:List NT)(j:Nat),(fgK ks)[j]? =(ks[j]?).map fgT
 |[],j=>by simp[fgK]
 |k::r,0=>by simp[fgK]
 |k::r,j+1=>by rw[fgK,List.getElem?_cons_succ,List.getElem?_cons_succ,kUa r j]
def kT0 (k:Nat)(ks:List NT):List NT:=(fgK ks).take k++ks.drop k
theorem kRh (k:Nat)(ks:List NT)(j:Nat):(kT0 k ks)[j]? =if j<k then(ks[j]?).map fgT else ks[j]? :=by
 unfold kT0;by_cases h:j<k
 ·rw[if_pos h];by_cases hl:j<ks.length
  ·rw[List.getElem?_append_left (by rw[List.length_take,kO3];omega),List.getElem?_take_of_lt h,kUa]
  ·rw[List.getElem?_eq_none (by rw[List.length_append,List.length_take,kO3,List.length_drop];omega),List.getElem?_eq_none Kb];rfl
 ·rw[if_neg h];by_cases hl:k<=ks.length
  ·rw[List.getElem?_append_right (by rw[List.length_take,kO3];omega),List.length_take,kO3,List.getElem?_drop];congr 1;omega
  ·rw[List.getElem?_eq_none (by rw[List.length_append,List.length_take,kO3,List.length_drop];omega),List.getElem?_eq_none Kb]
theorem kQg (k:Nat)(ks:List NT):(kT0 k ks).length=ks.length:=by unfold kT0;rw[List.length_append,List.length_take,kO3,List.length_drop];omega
section
variable {w w':World}{b:Nat}{lab lab':Int}{rs rs':List Int}{ks:List NT}{R K:Value}{us:List Value}{Fs:Nat->Nat->Prop}{F:Nat->Prop}
theorem GhO.relab (h:GhO w b lab rs ks R K us Fs F)(hF:∀q,F q->q<w.heap.size)(hv:jT 64 w' b #[.int .i64 lab',R,K])(hr:w'.ownsRow 0 3 1 R rs'.length (rs'.map (Value.int .i64)))
  (keep:∀q,q<w.heap.size->q≠b->R.ownBlock≠some q->w'.heap[q]? =w.heap[q]?):GhO w' b lab' rs' ks R K us Fs F:=
 ⟨hv,h.hF,hr,kNl h.hk fun q hq=>keep q (h.hk.lt q hq).2 (h.fk q hq).2.1 (h.fk q hq).2.2,h.hl,h.fr,h.fk,fun j m u e1 e2=>(h.kids j m u e1 e2).frame fun q hq=>by
  have:=h.sub j q hq;exact keep q (hF q this.1) this.2.1 this.2.2.1,h.sub,h.dis⟩
theorem GhO.rekid {k:Nat}{m':NT}{u:Value}(h:GhO w b lab rs ks R K us Fs F)(hF:∀q,F q->q<w.heap.size)(hk:k<ks.length)(hu:us[k]? =some u)(hG:Gh w' u m' (Fs k))(ht:Tch (Fs k) w w'):GhO w' b lab rs (ks.set k m') R K us Fs F:=by
 have nb:∀q,Fs k q->q≠b/\R.ownBlock≠some q/\K.ownBlock≠some q:=fun q hq=>(h.sub k q hq).2;refine⟨(ht.block b h.hb.lt fun e=>(nb b e).1 rfl).trans h.hb,h.hF,kNl h.hr fun q hq=>ht.block q (h.hr.lt q hq).2 fun e=>(nb q e).2.1 hq,?_,by rw[List.length_set];exact h.hl,h.fr,h.fk,fun j m u2 e1 e2=>?_,h.sub,h.dis⟩
 ·rw[List.length_set];exact kNl h.hk fun q hq=>ht.block q (h.hk.lt q hq).2 fun e=>(nb q e).2.2 hq
 ·by_cases e:j=k
  ·subst e;rw[List.getElem?_set_self hk]at e1;rw[hu]at e2;injection e1 with e1;injection e2 with e2;subst e1 e2;exact hG
  ·rw[List.getElem?_set_ne (fun h=>e h.symm)]at e1;exact(h.kids j m u2 e1 e2).frame fun q hq=>ht.block q (hF q (h.sub j q hq).1) fun e2=>h.dis j k q e hq e2
end
theorem kVf {ks:List NT}{k:Nat}{m:NT}(h:ks[k]? =some m):(kT0 k ks).set k (fgT m)=kT0 (k+1) ks:=by
 have hk:k<ks.length:=(List.getElem?_eq_some_iff.1 h).1;refine List.ext_getElem? fun j=>?_;rw[kRh];by_cases e:j=k
 ·subst e;rw[List.getElem?_set_self (by rw[kQg];exact hk),if_pos Kb,h];rfl
 ·rw[List.getElem?_set_ne (fun h=>e h.symm),kRh];by_cases h2:j<k
  ·rw[if_pos h2,if_pos Kb]
  ·rw[if_neg h2,if_neg Kb]
theorem kVg (ks:List NT):kT0 ks.length ks=fgK ks:=by unfold kT0;rw[List.take_of_length_le (by rw[kO3];exact Nat.le_refl _),List.drop_eq_nil_of_le Km,List.append_nil]
theorem kWp (rs:List Int)(k:Nat)(hk:k<rs.length):(List.replicate k (-2:Int)++rs.drop k).set k (-2)=List.replicate (k+1) (-2)++rs.drop (k+1):=by
 rw[List.set_append_right _ _ Kc,List.length_replicate,Nat.sub_self,List.drop_eq_getElem_cons hk,List.set_cons_zero,List.replicate_succ',List.append_assoc];rfl
theorem kSm (rs:List Int)(k:Nat)(hk:k<=rs.length):(List.replicate k (-2:Int)++rs.drop k).length=rs.length:=by simp;omega
def kXh (F:Nat->Prop)(v:Value)(n:NT)(w:World)(e:Ending)(w':World):Prop:=e=.returned (.tuple #[])/\Gh w' v (fgT n) F/\Tch F w w'
theorem kSn :∀(N:Nat)(w:World)(v:Value)(n:NT)(F:Nat->Prop),sizeT n<=N->Gh w v n F->(∀q,F q->q<w.heap.size)->sizeT n<=500000->Calls Tryz.prog 42 #[v] w (kXh F v n w):=by
 intro N;induction N with
 |zero=>intro w v n F h;have:=zJs n;omega
 | succ N ih=>
  intro w v n F hN hG hF hs;obtain⟨b,lab,rs,ks,RA,rc,KA,kc,us,Fs,rfl,rfl,hO⟩:=hG.opened;simp only[sizeT,List.length_cons]at hN hs;have hkl:=kO4 ks;have c0:=hO.hb.cell 0 (.int .i64 lab) rfl;have f0:=hO.hb.thaw 0;obtain⟨hv0,ho0⟩:=hO.hb.set 0 (.int .i64 (-2));obtain⟨W1,hW1⟩:∃W,w.setCell ⟨b,0,none⟩ (.int .i64 (-2))=W:=⟨_,rfl⟩;rw[hW1]at hv0 ho0;have h1:GhO W1 b (-2) (List.replicate 0 (-2)++rs.drop 0) ks (.slice RA rs.length rc) (.slice KA ks.length kc) us Fs F:=by
   refine hO.relab hF hv0 ?_ fun q h2 h3 _=>ho0.block q h2 h3;rw[show List.replicate 0 (-2:Int)++rs.drop 0=rs by simp];exact kNl hO.hr fun q hq=>ho0.block q (hO.hr.lt q hq).2 (hO.fr q hq).2
  have vz:=hd hW1;have bV:=hd h1;have oI:=hd (Tch.of_off ho0 hO.hF);have HF:=hd hF;have HS:=hd hs;have xk:=hd hN;have hrl:rs.length<=500000:=Kb;have CP:ks.length<=500000:=Kb;have iF:=hO.hF;have vA:=hd iF;clear hG hF hO h1 hv0 ho0 hW1 hN hs hkl iF;go_enter Tryz.func42,Tryz.ntmps42
  go_upto_region 1 with fail
  rw[vz.o];clear c0 f0 vz;have c1:=bV.o.hb.cell 1 (.slice RA rs.length rc) rfl;go_wp2
  clear c1;go_loopw [13] (fun i wr=>∃k:Nat,k<=rs.length/\i=.int .i64 k/\Kr (GhO wr b (-2) (List.replicate k (-2)++rs.drop k) ks (.slice RA rs.length rc) (.slice KA ks.length kc) us Fs F)/\Kr (Tch F w wr)) (fun i _=>rs.length-(intOf i).toNat)
  case atStart=>exact⟨0,Nat.zero_le _,rfl,bV,oI⟩
  case round=>
   obtain⟨k,hk,rfl,HO,HT⟩:=hrel;clear bV oI;by_cases hlt:k<rs.length
   ·have hr:=HO.o.hr;rw[kSm rs k hk]at hr;obtain⟨RA',rc',eR,hrc,_,hfree⟩:=zC9 hr;injection eR with mU _ mV;subst mU mV;obtain⟨x,hx⟩:∃x,((List.replicate k (-2:Int)++rs.drop k).map (Value.int .i64))[k]? =some x:=⟨_,List.getElem?_eq_getElem (by rw[List.length_map,kSm rs k hk];exact hlt)⟩;obtain⟨g,rfl,_,hgl,hcx,ES⟩:=hfree k x hx;have c1:=HO.o.hb.cell 1 (.slice (some ⟨g,0,none⟩) rs.length rc) rfl;obtain⟨hst,hgr⟩:=hr.stored k (.int .i64 (-2));obtain⟨W2,hW2⟩:∃W,wr.setCell ⟨g,k,none⟩ (.int .i64 (-2))=W:=⟨_,rfl⟩;rw[hW2]at hst hgr;have hgb:=HO.o.fr g rfl;have AA:GhO W2 b (-2) (List.replicate (k+1) (-2)++rs.drop (k+1)) ks (.slice (some ⟨g,0,none⟩) rs.length rc) (.slice KA ks.length kc) us Fs F:=by
     refine HO.o.relab (fun q h=>Nat.lt_of_lt_of_le (HF.o q h) HT.o.size) ((hgr.block b HO.o.hb.lt fun e=>hgb.2 (Option.some.inj e).symm).trans HO.o.hb) ?_ fun q h2 _ h3=>hgr.block q h2 fun e=>h3 (by rw[e];rfl);rw[kSm rs (k+1) hlt,<-kWp rs k hlt,List.map_set];exact hst
    have oJ:=hd AA;have iV:=hd (show Tch F w W2 from HT.o.trans ⟨hgr.os,hgr.tape,hgr.output,hgr.size,fun q h2 h3=>hgr.block q h2 fun e=>h3 (Option.some.inj e▸hgb.1)⟩ fun q _ h=>h);have m9:=hd hW2;clear hr hst hgr AA hW2 hfree hx hgb;go_wp2
    rw[m9.o];go_roundw
    case rel=>exact⟨k+1,by omega,by go_num,oJ,iV⟩
    case measure=>simp[intOf];omega
   ·obtain rfl:k=rs.length:=Kb;have c2:=HO.o.hb.cell 2 (.slice KA ks.length kc) rfl;have HX:=hd (show GhO wr b (-2) (List.replicate rs.length (-2)++rs.drop rs.length) (kT0 0 ks) (.slice RA rs.length rc) (.slice KA ks.length kc) us Fs F from by rw[show kT0 0 ks=ks by unfold kT0;simp];exact HO.o);go_wp2
    clear c2;go_loopw [28] (fun i wr2=>∃k:Nat,k<=ks.length/\i=.int .i64 k/\Kr (GhO wr2 b (-2) (List.replicate rs.length (-2)++rs.drop rs.length) (kT0 k ks) (.slice RA rs.length rc) (.slice KA ks.length kc) us Fs F)/\Kr (Tch F w wr2)) (fun i _=>ks.length-(intOf i).toNat)
    case atStart=>exact⟨0,Nat.zero_le _,rfl,HX,HT⟩
    case round=>
     obtain⟨k,hk2,rfl,HY,vB⟩:=hrel;clear HX HO HT hk;by_cases br:k<ks.length
     ·obtain⟨m,hm⟩:∃m,ks[k]? =some m:=⟨_,List.getElem?_eq_getElem br⟩;have iU:us.length=ks.length:=by have:=HY.o.hl;rw[kQg]at this;exact this
      obtain⟨u,hu⟩:∃u,us[k]? =some u:=⟨_,List.getElem?_eq_getElem Kb⟩;have qh:=HY.o.kids k m u (by rw[kRh,if_neg Kb];exact hm) hu;have dB:=HY.o.hk;rw[kQg]at dB;obtain⟨KA',kc',eK,hkc,_,hfree⟩:=zC9 dB;injection eK with kG _ lg;subst kG lg;obtain⟨g,rfl,_,_,hcx,_⟩:=hfree k u hu;obtain⟨bk,rfl⟩:=qh.ptr;have hsm:=kT8 hm;have HC:=hd (ih wr _ m (Fs k) (by have:=xk.o;omega) qh (fun q h=>Nat.lt_of_lt_of_le (HF.o q (HY.o.sub k q h).1) vB.o.size) (by have:=HS.o;omega));have HM:=hd hm;have HU:=hd hu;clear hm hu qh dB hfree hsm iU;go_wp2_with(go_at_call 42;refine HC.o.mono ?_;rintro e w4 ⟨rfl,hg4,dX⟩;have xw:=hd hg4;have lG:=hd dX;clear hg4 dX)
      go_roundw
      case rel=>exact⟨k+1,by omega,by go_num,hd (by rw[<-kVf HM.o];exact HY.o.rekid (fun q h=>Nat.lt_of_lt_of_le (HF.o q h) vB.o.size) (by rw[kQg];exact br) HU.o xw.o lG.o),hd (vB.o.trans lG.o fun q _ h=>(HY.o.sub k q h).1)⟩
      case measure=>simp[intOf];omega
     ·obtain rfl:k=ks.length:=Kb;go_wp2
      go_end0
      refine⟨rfl,?_,vB.o⟩;have h:=HY.o.gh;rw[kVg,List.drop_eq_nil_of_le Km,List.append_nil]at h;exact h
mutual
def kRu :NT->NT->Bool
 |.mk _ _ gx gk,.mk _ _ tx ks=>decide (gx.length=tx.length+1)&&shpK gk ks
def shpK :List NT->List NT->Bool
 |[],[]=>true
 |g::gr,k::r=>kRu g k&&shpK gr r
 |[],_::_=>false
 |_::_,[]=>false
end
theorem kRi :∀(gk ks:List NT),shpK gk ks=true ↔ gk.length=ks.length/\∀(j:Nat)(g k:NT),gk[j]? =some g->ks[j]? =some k->kRu g k=true
 |[],[]=>by simp[shpK]
 | g::gr,k::r=>by
  rw[shpK,Bool.and_eq_true,kRi gr r,List.length_cons,List.length_cons];constructor
  ·rintro⟨h1,h2,h3⟩;refine⟨by omega,fun j g' k' e1 e2=>?_⟩;cases j with
   |zero=>
    simp only[List.getElem?_cons_zero,Option.some.injEq]at e1 e2;subst e1 e2;exact h1
   |succ j=>
    rw[List.getElem?_cons_succ]at e1 e2;exact h3 j g' k' e1 e2
  ·rintro⟨h1,h2⟩;exact⟨h2 0 g k rfl rfl,by omega,fun j g' k' e1 e2=>h2 (j+1) g' k' (by rw[List.getElem?_cons_succ];exact e1) (by rw[List.getElem?_cons_succ];exact e2)⟩
 |[],_::_=>by simp[shpK]
 |_::_,[]=>by simp[shpK]
def kSo (F:Nat->Prop)(v:Value)(n:NT)(w:World)(e:Ending)(w':World):Prop:=∃F',e=.returned (.tuple #[])/\Gh w' v n F'/\(∀q,F' q->F q∨(w.heap.size<=q/\q<w'.heap.size))/\Tch F w w'
theorem kOh {w:World}{c:NC}{n:NT}{f:Int}(hn:kS w c n)(h0:0<=f)(hs:f+sizeT n<=500000):Calls Tryz.prog 16 #[.agg c.row,.int .i64 f] w (kYk f n w):=by
 obtain⟨d,hn⟩:=hn;exact kTp d w _ n f hn h0 hs
mutual
theorem kRv :∀(n:NT)(f:Int),sizeT (kQe n f)<=2*sizeT n
 |.mk _ _ tx ks,f=>by
  have:=kRw ks (f+1+tx.length);simp only[kQe,sizeT,List.length_cons,kPb];omega
theorem kRw :∀(ks:List NT)(f:Int),sizeK (kQ4 ks f)<=2*sizeK ks
 |[],f=>by simp[kQ4,sizeK]
 |k::r,f=>by
  have:=kRv k f;have:=kRw r (f+sizeT k);simp only[kQ4,sizeK];omega
end
theorem kXi {w0 w:World}{v:Value}{g:NT}{F:Nat->Prop}{o:OC}(hG:Gh w v g F)(hF:∀q,F q->w0.heap.size<=q/\q<w.heap.size)(ho:OkA w0 o a)(hw:Below w0.heap.size w0 w)(ta:zAf a)(h1:(o.k==1)=false)(h2:(o.k==2)=false)(h3:(o.k==3)=false)(h4:(o.k==4)=false)(h5:(o.k==5)=false)(h7:(o.k==7)=false)(h8:(o.k==8)=false):Calls Tryz.prog 17 #[v,.agg o.row] w (kSo F v g w):=by
 obtain⟨W1,hW1⟩:∃W,w.alloc (.cells o.row 35)=W:=⟨_,rfl⟩;have hv:jR W1 w.heap.size o:=hW1▸jR.new w o;have aw:Below w.heap.size w W1:=hW1▸Kl.alloc Km _;have fG:=hw.size;have HV:=hd hv;have HB:=hd (hw.trans (aw.mono fG));have HG:=hd (hG.later (fun q h=>(hF q h).2) aw);have HF:=hd (fun q(h:F q)=>(⟨(hF q h).1,(hF q h).2,Nat.lt_of_lt_of_le (hF q h).2 aw.size⟩:w0.heap.size<=q/\q<w.heap.size/\q<W1.heap.size));have HT:=hd (Tch.of_below (F:=F) aw);have HO:=hd ho;have az:=hd ta;have HW:=hd hW1;have hs1:W1.heap.size=w.heap.size+1:=by rw[<-hW1];simp
 clear hG hF ho hw ta hv aw hW1;go_enter Tryz.func17,Tryz.ntmps17
 go_upto_region 1 with fail
 rw[HW.o];clear HW;go_wp2_with(first
  |((with_reducible refine zC (ty:=3) (x:=.tmp 17) ?_);refine zE HV.o (j:=0) (v:=.int .i64 o.k) _ rfl rfl rfl rfl Tryz.underlying3 rfl ?_)
  |fail)
 go_end0
 exact⟨F,rfl,HG.o,fun q h=>.inl h,HT.o⟩
theorem kYc {w0 w:World}{v:Value}{g:NT}{F:Nat->Prop}{o:OC}{u:List Int}{i:Nat}{x k:NT}(hG:Gh w v g F)(hF:∀q,F q->w0.heap.size<=q/\q<w.heap.size)(ho:OkA w0 o a)(hw:Below w0.heap.size w0 w)(ta:zAf a)(hk:o.k=2)(bg:a.q=u++[(i:Int)])(hx:kB g u=some x)(hi:x.ks[i]? =some k)(hs:x.ks.length<=500000):Calls Tryz.prog 17 #[v,.agg o.row] w (kSo F v (putT g u (jS x i 1 [])) w):=by
 first|have k1:(o.k==1)=true:=by simp[hk]|have k1:(o.k==1)=false:=by simp[hk]
 first|have k2:(o.k==2)=true:=by simp[hk]|have k2:(o.k==2)=false:=by simp[hk]
 first|have k3:(o.k==3)=true:=by simp[hk]|have k3:(o.k==3)=false:=by simp[hk]
 first|have k4:(o.k==4)=true:=by simp[hk]|have k4:(o.k==4)=false:=by simp[hk]
 first|have k5:(o.k==5)=true:=by simp[hk]|have k5:(o.k==5)=false:=by simp[hk]
 first|have k7:(o.k==7)=true:=by simp[hk]|have k7:(o.k==7)=false:=by simp[hk]
 first|have k8:(o.k==8)=true:=by simp[hk]|have k8:(o.k==8)=false:=by simp[hk]
 clear hk;have eI:=hd bg;have HX:=hd hx;have HI:=hd hi;have HS:=hd hs;clear bg hx hi hs;obtain⟨W1,hW1⟩:∃W,w.alloc (.cells o.row 35)=W:=⟨_,rfl⟩;have hv:jR W1 w.heap.size o:=hW1▸jR.new w o;have aw:Below w.heap.size w W1:=hW1▸Kl.alloc Km _;have fG:=hw.size;have HV:=hd hv;have HB:=hd (hw.trans (aw.mono fG));have HG:=hd (hG.later (fun q h=>(hF q h).2) aw);have HF:=hd (fun q(h:F q)=>(⟨(hF q h).1,(hF q h).2,Nat.lt_of_lt_of_le (hF q h).2 aw.size⟩:w0.heap.size<=q/\q<w.heap.size/\q<W1.heap.size));have HT:=hd (Tch.of_below (F:=F) aw);have HO:=hd ho;have az:=hd ta;have HW:=hd hW1;have hs1:W1.heap.size=w.heap.size+1:=by rw[<-hW1];simp
 clear hG hF ho hw ta hv aw hW1;go_enter Tryz.func17,Tryz.ntmps17
 go_upto_region 1 with fail
 rw[HW.o];clear HW;go_wp2_with(first
  |((with_reducible refine zC (ty:=3) (x:=.tmp 17) ?_);refine zE HV.o (j:=0) (v:=.int .i64 o.k) _ rfl rfl rfl rfl Tryz.underlying3 rfl ?_)
  |((with_reducible refine zC (ty:=27) (x:=.tmp 37) ?_);refine zE HV.o (j:=1) (v:=.slice o.Q o.lq o.cq) _ rfl rfl rfl rfl Tryz.underlying27 rfl ?_)
  |(go_at_call 44;refine Calls.mono (kRk HG.o (fun q h=>(HF.o q h).2.2) (by rw[<-eI.o];exact(HO.o.later HB.o).hasq az.o) HX.o HI.o HS.o) ?_;rintro e w2 ⟨p,Fk,F2,rfl,h1,h2,h3,h4,h5⟩;have hs2:=h5.size;have km:=hd h1;have HG2:=hd h2;have kp:=hd h3;have jt:=hd h4;have iV:=hd h5;have aL:=hd (HB.o.trans (h5.below Kb (fun q _ h=>(HF.o q h).1)));have ah:=hd (show jR w2 w.heap.size o from(h5.block _ HV.o.lt (fun e=>by have:=(HF.o _ e).2.1;omega)).trans HV.o);clear h1 h2 h3 h4 h5)
  |fail)
 go_end0
 refine⟨F2,rfl,HG2.o,fun q h=>?_,HT.o.trans iV.o fun q _ h=>h⟩;rcases jt.o q (.inr h)with h|h
 ·exact .inl h
 ·exact .inr Kb
theorem kYd {w0 w:World}{v:Value}{g:NT}{F:Nat->Prop}{o:OC}{u t:List Int}{i j:Nat}{x y k:NT}(hG:Gh w v g F)(hF:∀q,F q->w0.heap.size<=q/\q<w.heap.size)(ho:OkA w0 o a)(hw:Below w0.heap.size w0 w)(ta:zAf a)(hk:o.k=5)(bg:a.q=u++[(i:Int)])(hx:kB g u=some x)(hi:x.ks[i]? =some k)(hs:x.ks.length<=500000)(hpt:a.t=t++[(j:Int)])(hy:kB (putT g u (jS x i 1 [])) t=some y)(hj:j<=y.ks.length)(AB:y.ks.length<=500000):Calls Tryz.prog 17 #[v,.agg o.row] w (kSo F v (putT (putT g u (jS x i 1 [])) t (jS y j 0 [k])) w):=by
 first|have k1:(o.k==1)=true:=by simp[hk]|have k1:(o.k==1)=false:=by simp[hk]
 first|have k2:(o.k==2)=true:=by simp[hk]|have k2:(o.k==2)=false:=by simp[hk]
 first|have k3:(o.k==3)=true:=by simp[hk]|have k3:(o.k==3)=false:=by simp[hk]
 first|have k4:(o.k==4)=true:=by simp[hk]|have k4:(o.k==4)=false:=by simp[hk]
 first|have k5:(o.k==5)=true:=by simp[hk]|have k5:(o.k==5)=false:=by simp[hk]
 first|have k7:(o.k==7)=true:=by simp[hk]|have k7:(o.k==7)=false:=by simp[hk]
 first|have k8:(o.k==8)=true:=by simp[hk]|have k8:(o.k==8)=false:=by simp[hk]
 clear hk;have eI:=hd bg;have HX:=hd hx;have HI:=hd hi;have HS:=hd hs;have cZ:=hd hpt;have HY:=hd hy;have HJ:=hd hj;have CQ:=hd AB;clear bg hx hi hs hpt hy hj AB;obtain⟨W1,hW1⟩:∃W,w.alloc (.cells o.row 35)=W:=⟨_,rfl⟩;have hv:jR W1 w.heap.size o:=hW1▸jR.new w o;have aw:Below w.heap.size w W1:=hW1▸Kl.alloc Km _;have fG:=hw.size;have HV:=hd hv;have HB:=hd (hw.trans (aw.mono fG));have HG:=hd (hG.later (fun q h=>(hF q h).2) aw);have HF:=hd (fun q(h:F q)=>(⟨(hF q h).1,(hF q h).2,Nat.lt_of_lt_of_le (hF q h).2 aw.size⟩:w0.heap.size<=q/\q<w.heap.size/\q<W1.heap.size));have HT:=hd (Tch.of_below (F:=F) aw);have HO:=hd ho;have az:=hd ta;have HW:=hd hW1;have hs1:W1.heap.size=w.heap.size+1:=by rw[<-hW1];simp
 clear hG hF ho hw ta hv aw hW1;go_enter Tryz.func17,Tryz.ntmps17
 go_upto_region 1 with fail
 rw[HW.o];clear HW;go_wp2_with(first
  |((with_reducible refine zC (ty:=3) (x:=.tmp 17) ?_);refine zE HV.o (j:=0) (v:=.int .i64 o.k) _ rfl rfl rfl rfl Tryz.underlying3 rfl ?_)
  |((with_reducible refine zC (ty:=27) (x:=.tmp 178) ?_);refine zE HV.o (j:=1) (v:=.slice o.Q o.lq o.cq) _ rfl rfl rfl rfl Tryz.underlying27 rfl ?_)
  |((with_reducible refine zC (ty:=27) (x:=.tmp 178) ?_);refine zE HV.o (j:=1) (v:=.slice o.Q o.lq o.cq) _ rfl rfl rfl rfl Tryz.underlying27 rfl ?_)
  |(go_at_call 44;refine Calls.mono (kRk HG.o (fun q h=>(HF.o q h).2.2) (by rw[<-eI.o];exact(HO.o.later HB.o).hasq az.o) HX.o HI.o HS.o) ?_;rintro e w2 ⟨p,Fk,F2,rfl,h1,h2,h3,h4,h5⟩;have hs2:=h5.size;have km:=hd h1;have HG2:=hd h2;have kp:=hd h3;have jt:=hd h4;have iV:=hd h5;have aL:=hd (HB.o.trans (h5.below Kb (fun q _ h=>(HF.o q h).1)));have ah:=hd (show jR w2 w.heap.size o from(h5.block _ HV.o.lt (fun e=>by have:=(HF.o _ e).2.1;omega)).trans HV.o);clear h1 h2 h3 h4 h5)
  |((with_reducible refine zC (ty:=27) (x:=.tmp 182) ?_);refine zE ah.o (j:=2) (v:=.slice o.T o.lt o.ct) _ rfl rfl rfl rfl Tryz.underlying27 rfl ?_)
  |(go_at_call 43;refine Calls.mono (kRl HG2.o (fun q h=>by have:=jt.o q (.inr h);rcases this with h|h;(have:=(HF.o q h).2.2;omega);exact h.2) km.o (fun q h=>⟨by have:=jt.o q (.inl h);rcases this with h|h;(have:=(HF.o q h).2.2;omega);exact h.2,kp.o q h⟩) (by rw[<-cZ.o];exact(HO.o.later aL.o).hast az.o) HY.o HJ.o CQ.o) ?_;rintro e w3 ⟨F3,rfl,h1,h2,h3⟩;have hs3:=h3.size;have lH:=hd h1;have oK:=hd h2;have oL:=hd h3;clear h1 h2 h3)
  |fail)
 go_end0
 refine⟨F3,rfl,lH.o,fun q h=>?_,(HT.o.trans iV.o fun q _ h=>h).trans oL.o fun q hq h=>?_⟩
 ·rcases oK.o q h with h|h|h
  ·rcases jt.o q (.inr h)with h|h
   ·exact .inl h
   ·exact .inr Kb
  ·rcases jt.o q (.inl h)with h|h
   ·exact .inl h
   ·exact .inr Kb
  ·exact .inr Kb
 ·rcases jt.o q (.inr h)with h|h
  ·exact h
  ·omega
theorem kYe {w0 w:World}{v:Value}{g:NT}{F:Nat->Prop}{o:OC}{u:List Int}{i:Nat}{x:NT}(hG:Gh w v g F)(hF:∀q,F q->w0.heap.size<=q/\q<w.heap.size)(ho:OkA w0 o a)(hw:Below w0.heap.size w0 w)(ta:zAf a)(hk:o.k=1)(bg:a.q=u++[(i:Int)])(hx:kB g u=some x)(hi:i<=x.ks.length)(hs:x.ks.length<=500000)(gJ:sizeT a.n<=200000):Calls Tryz.prog 17 #[v,.agg o.row] w (kSo F v (putT g u (jS x i 0 [fgT (kQe a.n 0)])) w):=by
 first|have k1:(o.k==1)=true:=by simp[hk]|have k1:(o.k==1)=false:=by simp[hk]
 first|have k2:(o.k==2)=true:=by simp[hk]|have k2:(o.k==2)=false:=by simp[hk]
 first|have k3:(o.k==3)=true:=by simp[hk]|have k3:(o.k==3)=false:=by simp[hk]
 first|have k4:(o.k==4)=true:=by simp[hk]|have k4:(o.k==4)=false:=by simp[hk]
 first|have k5:(o.k==5)=true:=by simp[hk]|have k5:(o.k==5)=false:=by simp[hk]
 first|have k7:(o.k==7)=true:=by simp[hk]|have k7:(o.k==7)=false:=by simp[hk]
 first|have k8:(o.k==8)=true:=by simp[hk]|have k8:(o.k==8)=false:=by simp[hk]
 clear hk;have eI:=hd bg;have HX:=hd hx;have HI:=hd hi;have HS:=hd hs;have lI:=hd gJ;clear bg hx hi hs gJ;obtain⟨W1,hW1⟩:∃W,w.alloc (.cells o.row 35)=W:=⟨_,rfl⟩;have hv:jR W1 w.heap.size o:=hW1▸jR.new w o;have aw:Below w.heap.size w W1:=hW1▸Kl.alloc Km _;have fG:=hw.size;have HV:=hd hv;have HB:=hd (hw.trans (aw.mono fG));have HG:=hd (hG.later (fun q h=>(hF q h).2) aw);have HF:=hd (fun q(h:F q)=>(⟨(hF q h).1,(hF q h).2,Nat.lt_of_lt_of_le (hF q h).2 aw.size⟩:w0.heap.size<=q/\q<w.heap.size/\q<W1.heap.size));have HT:=hd (Tch.of_below (F:=F) aw);have HO:=hd ho;have az:=hd ta;have HW:=hd hW1;have hs1:W1.heap.size=w.heap.size+1:=by rw[<-hW1];simp
 clear hG hF ho hw ta hv aw hW1;go_enter Tryz.func17,Tryz.ntmps17
 go_upto_region 1 with fail
 rw[HW.o];clear HW;go_wp2_with(first
  |((with_reducible refine zC (ty:=3) (x:=.tmp 17) ?_);refine zE HV.o (j:=0) (v:=.int .i64 o.k) _ rfl rfl rfl rfl Tryz.underlying3 rfl ?_)
  |((with_reducible refine zC (ty:=26) (x:=.tmp 22) ?_);refine kR HV.o (j:=4) (vs:=[.bool o.lf,.slice o.P o.np o.pc,.slice o.X o.nt o.tc,.slice o.K o.nk o.kc]) zCp _ rfl rfl rfl Ka ?_)
  |(go_at_call 16;refine Calls.mono (kOh (c:=o.nc) (HO.o.later HB.o).hasn (Int.le_refl 0) (by have:=lI.o;omega)) ?_;rintro e w2 ⟨p,rfl,h1,h2⟩;have hs2:=h2.size;have HP:=hd h1;have aL:=hd (zI HB.o h2);have ah:=hd (show jR w2 w.heap.size o from(h2.block _ HV.o.lt).trans HV.o);have iV:=hd (HT.o.trans (Tch.of_below (F:=F) h2) (fun q _ h=>h));have HG2:=hd (HG.o.later (fun q h=>(HF.o q h).2.2) h2);clear h1 h2)
  |(go_at_call 42;refine Calls.mono (kSn _ _ _ _ _ Km HP.o (fun q h=>h.2) (by have:=lI.o;have:=kRv a.n 0;omega)) ?_;rintro e w3 ⟨rfl,h1,h2⟩;have hs3:=h2.size;have l8:=hd h1;have bT:=hd (aL.o.trans (h2.below Kb (fun q _ h=>by have:=h.1;omega)));have gL:=hd (show jR w3 w.heap.size o from(h2.block _ ah.o.lt (fun e=>by have:=e.1;omega)).trans ah.o);have oL:=hd (iV.o.trans h2 (fun q hq h=>by have:=h.1;omega));have lH:=hd (HG2.o.frame (fun q h=>h2.block q (by have:=(HF.o q h).2.2;omega) (fun e=>by have:=(HF.o q h).2.2;have:=e.1;omega)));clear h1 h2)
  |((with_reducible refine zC (ty:=27) (x:=.tmp 30) ?_);refine zE gL.o (j:=1) (v:=.slice o.Q o.lq o.cq) _ rfl rfl rfl rfl Tryz.underlying27 rfl ?_)
  |(go_at_call 43;refine Calls.mono (kRl lH.o (fun q h=>by have:=(HF.o q h).2.2;omega) l8.o (fun q h=>⟨by have:=h.2;omega,fun e=>by have:=(HF.o q e).2.2;have:=h.1;omega⟩) (by rw[<-eI.o];exact(HO.o.later bT.o).hasq az.o) HX.o HI.o HS.o) ?_;rintro e w4 ⟨F4,rfl,h1,h2,h3⟩;have hs4:=h3.size;have xw:=hd h1;have oM:=hd h2;have lG:=hd h3;clear h1 h2 h3)
  |fail)
 go_end0
 refine⟨F4,rfl,xw.o,fun q h=>?_,oL.o.trans lG.o fun q _ h=>h⟩;rcases oM.o q h with h|h|h
 ·exact .inl h
 ·exact .inr (by have:=h.1;have:=h.2;omega)
 ·exact .inr Kb
