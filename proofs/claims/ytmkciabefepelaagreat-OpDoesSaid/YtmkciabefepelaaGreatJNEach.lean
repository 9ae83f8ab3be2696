import Derived.Test.YtmkciabefepelaaGreatJPSame
import Derived.Shelf.Abstract
set_option maxRecDepth 4000
set_option maxHeartbeats 8000000
namespace Go.Proofs.YtmkciabefepelaaGreat
open Go.RowKit
variable {N g gv gw nk:Nat}{O O':Option Nat}{w w':World}{fv:FuncId}{σ:Type}{a b c d u v:Value}{t:TypeId}{n:NT}{lf':Bool}{ps':List Pr}{tx':List Int}{ks':List NT}
structure Eff (g:Nat)(O O':Option Nat)(w w':World):Prop where
 below:Below g w w'
 size:w.heap.size<=w'.heap.size
 cell:∀p:Addr,p.block<w.heap.size->p.block≠g->some p.block≠O->w'.cell? p=w.cell? p
 own:O'=O∨∃j,O'=some j/\w.heap.size<=j
theorem Eff.refl (g:Nat)(O:Option Nat)(w:World):Eff g O O w w:=⟨Below.refl _ _,Nat.le_refl _,fun _ _ _ _=>rfl,.inl rfl⟩
theorem Eff.trans {O'':Option Nat}{w'':World}(h:Eff g O O' w w')(h':Eff g O' O'' w' w''):Eff g O O'' w w'':=
 ⟨h.below.trans h'.below,Nat.le_trans h.size h'.size,fun p hp hg hO=>by
  have hs:=h.size;rw[h'.cell p Kb hg (by
   rcases h.own with e|⟨j,e,hj⟩
   ·rw[e];exact hO
   ·rw[e];intro e2;injection e2 with e2;omega)]
  exact h.cell p hp hg hO,by
  have hs:=h.size;rcases h'.own with e|⟨j,e,hj⟩
  ·rw[e];exact h.own
  ·exact .inr ⟨j,e,by omega⟩⟩
theorem Eff.alloc (h:Eff g O O' w w')(hg:g<=w'.heap.size)(o:Obj):Eff g O O' w (w'.alloc o):=
 ⟨h.below.alloc hg o,by have:=h.size;simp;omega,fun p hp hg hO=>by
  have hs:=h.size;rw[World.cell?_alloc_lt _ _ p Kb];exact h.cell p hp hg hO,h.own⟩
def kGz (g gv gw:Nat)(fv:FuncId)(w:World):Prop:=
 w.cell? ⟨gv,0,none⟩=some (.func (.func fv) #[] #[.pointer (some ⟨g,0,none⟩)])/\
 w.cell? ⟨gw,0,none⟩=some (.func (.func 108) #[] #[.pointer (some ⟨gv,0,none⟩),.pointer (some ⟨gw,0,none⟩)])
def Did {σ:Type}(g:Nat)(Q:σ->Option Nat->World->Prop)(O:Option Nat)(r:Bool×σ)(w:World)(e:Ending)(w':World):Prop:=
 e=.returned (.bool r.1)/\∃O',Q r.2 O' w'/\Eff g O O' w w'
structure zY1 {σ:Type}(fv:FuncId)(g N:Nat)(step:σ->NT->Bool×σ)(Q:σ->Option Nat->World->Prop)(pre:σ->NT->Prop)(preK:σ->List NT->Prop):Prop where
 enters:∀args w,(callFunc fv args).run Tryz.prog w=.ok (.enter fv args) w
 valid:∀s O w,Q s O w->∀j,O=some j->N<=j/\j<w.heap.size
 later:∀s O w o,N<=w.heap.size->Q s O w->Q s O (w.alloc o)
 kids:∀s lf ps tx ks,pre s (.mk lf ps tx ks)->(step s (.mk lf ps tx ks)).1=true->preK (step s (.mk lf ps tx ks)).2 ks
 next:∀s m r,preK s (m::r)->pre s m/\((zEg step s m).1=true->preK (zEg step s m).2 r)
 does:∀d w v n s O,pre s n->Q s O w->N<=w.heap.size->zV d w g v n->Calls Tryz.prog fv #[v,.pointer (some ⟨g,0,none⟩)] w (Did g Q O (step s n) w)
theorem kGz.eff (h:kGz g gv gw fv w)(hN:N<=w.heap.size)(hv:gv<N)(hw:gw<N)(rc:gv≠g)(o8:gw≠g)(hO:∀j,O=some j->N<=j/\j<w.heap.size)(ha:Eff g O O' w w'):kGz g gv gw fv w':=
 ⟨(ha.cell ⟨gv,0,none⟩ (Nat.lt_of_lt_of_le hv hN) rc (by intro e;have h1:N<=gv:=(hO _ e.symm).1;omega)).trans h.1,(ha.cell ⟨gw,0,none⟩ (Nat.lt_of_lt_of_le hw hN) o8 (by intro e;have h1:N<=gw:=(hO _ e.symm).1;omega)).trans h.2⟩
theorem zL9 {Q:σ->Option Nat->World->Prop}{r:Bool×σ}{b:Bool}{s:σ}(h:r=(b,s))(hq:Q s O' w')(ha:Eff g O O' w w'):Did g Q O r w (.returned (.bool b)) w':=by
 subst h;exact⟨rfl,O',hq,ha⟩
theorem kLy (hg:g<w.heap.size)(hO:∀j,O=some j->j<w.heap.size)(hb:Eff g O O' (w.alloc (.cells #[a,b,c,d] t)) w'):
  w'.cell? ⟨w.heap.size,0,none⟩=some a/\w'.cell? ⟨w.heap.size,1,none⟩=some b/\w'.cell? ⟨w.heap.size,2,none⟩=some c/\w'.cell? ⟨w.heap.size,3,none⟩=some d:=by
 refine⟨?_,?_,?_,?_⟩<;>(rw[hb.cell _ Kc Kf (by intro e;have:=hO _ e.symm;simp at this),World.cell?_alloc_at _ _ _ _ rfl];rfl)
theorem kCr {step:σ->NT->Bool×σ}{Q:σ->Option Nat->World->Prop}{pre:σ->NT->Prop}{preK:σ->List NT->Prop}(V:zY1 fv g N step Q pre preK)(hg:g<N)(hv:gv<N)(hw:gw<N)(rc:gv≠g)(o8:gw≠g):
  ∀(d:Nat)(w:World)(v:Value)(n:NT)(s:σ)(O:Option Nat),pre s n->Q s O w->N<=w.heap.size->kGz g gv gw fv w->zV d w g v n->
   Calls Tryz.prog 108 #[v,.pointer (some ⟨gv,0,none⟩),.pointer (some ⟨gw,0,none⟩)] w (Did g Q O (zEg step s n) w):=by
 intro d;induction d with
 |zero=>intro w v n s O _ _ _ _ h;exact h.elim
 | succ d ih=>
  intro w v n s O hpre hQ hN hV hn;have hn0:=hn;obtain⟨d',lf,ps,tx,ks,PA,pc,TA,tc,KA,kc,hd',rfl,rfl,hp,ht,hf,hks⟩:=hn.open_;obtain rfl:d=d':=Kb;have hO:=V.valid s O w hQ;have hN':=Nat.lt_of_lt_of_le hg hN;obtain⟨wb,hwb⟩:∃wb,wb=w.alloc (.cells #[.bool lf,.slice PA ps.length pc,.slice TA tx.length tc,.slice KA ks.length kc] 26):=⟨_,rfl⟩;have hab:Eff g O O w wb:=hwb▸(Eff.refl g O w).alloc Kb _;have aO:wb.heap.size=w.heap.size+1:=by rw[hwb];simp
  have HV:=hd (V.does (d+1) wb _ _ s O hpre (hwb▸V.later s O w _ hN hQ) Kb (hn0.below hab.below));have hvb:=hV.eff hN hv hw rc o8 hO hab;have hE:=V.enters;obtain⟨r,hr⟩:∃r,r=step s (.mk lf ps tx ks):=⟨_,rfl⟩;rw[<-hr]at HV;obtain⟨rb,s1⟩:=r;have HR:=hd hr;have kj:=hd hpre;have cv:=hd hks;have HO:=hd hO;have ux:=hd hab;have bk:=hd hvb;have hf3:=hf.2.2.2.1;obtain⟨v1,v2⟩:=hvb;obtain⟨w1,w2⟩:=hV;subst hwb;clear hr hQ hks hn hn0 hp ht hd' hO hab hf hpre;cases rb
  ·have HF:=hd (show zEg step s (.mk lf ps tx ks)=(false,s1) by rw[zEg,if_neg (by rw[<-HR.o];simp),<-HR.o]);clear cv ih;go_enter Tryz.func108,Tryz.ntmps108
   go_wp2_with(first|(refine HV.o.mono ?_;rintro e w' ⟨rfl,O',hq,ha⟩))
   go_ret
   exact zL9 HF.o hq (ux.o.trans ha)
  ·have HF:=hd (show zEg step s (.mk lf ps tx ks)=walkK step s1 (ks.drop 0) by rw[zEg,if_pos (by rw[<-HR.o]),<-HR.o];rfl);have jw:=hd (show preK s1 (ks.drop 0)from(by have:=V.kids s lf ps tx ks kj.o (by rw[<-HR.o]);rw[<-HR.o]at this;exact this));clear HR;go_enter Tryz.func108,Tryz.ntmps108
   go_wp2_with(first|(refine HV.o.mono ?_;rintro e w' ⟨rfl,O1,hq1,ha1⟩;obtain⟨x0,x1,x2,x3⟩:=kLy hN' (fun j hj=>(HO.o j hj).2) ha1))
   have lR:=hd hq1;have gh:=hd (ux.o.trans ha1);clear x0 x1 x2 x3 hq1 ha1 HV v1 v2 ux;go_loopw [14] (fun i wr=>∃(k:Nat)(s2:σ)(O2:Option Nat),k<=ks.length/\i=.int .i64 k/\Kq (Q s2 O2 wr)/\Kq (Eff g O O2 w wr)/\Kq (zEg step s (.mk lf ps tx ks)=walkK step s2 (ks.drop k))/\Kq (preK s2 (ks.drop k))) (fun i _=>ks.length-(intOf i).toNat)
   case atStart=>exact⟨0,s1,O1,Nat.zero_le _,rfl,lR,gh,HF,jw⟩
   case round=>
    obtain⟨k,s2,O2,hk,rfl,av,gT,jx,xn⟩:=hrel;clear lR gh HF jw;by_cases hlt:k<ks.length
    ·obtain⟨m,b,o,lf',PA',np',pc',TA',nt',tc',KA',nk',kc',hm,rfl,hbg,dw,c0,c1,c2,c3⟩:=((cv.o.below gT.o.below)).at_ hlt;have HM:=hd hm;have uy:=V.next s2 m (ks.drop (k+1)) (by rw[<-zCo hm];exact xn.o);have xo:=hd uy.2;have hsz:=gT.o.size;obtain⟨u1,u2⟩:=(show kGz g gv gw fv w from⟨w1,w2⟩).eff hN hv hw rc o8 HO.o gT.o;obtain⟨wk,hwk⟩:∃wk,wk=wr.alloc (.cells #[.bool lf',.slice PA' np' pc',.slice TA' nt' tc',.slice KA' nk' kc'] 26):=⟨_,rfl⟩;have tK:Eff g O2 O2 wr wk:=hwk▸(Eff.refl g O2 wr).alloc Kb _;have hsk:wk.heap.size=wr.heap.size+1:=by rw[hwk];simp
     have hvk:=(show kGz g gv gw fv wr from⟨u1,u2⟩).eff Kb hv hw rc o8 (V.valid s2 O2 wr av.o) tK;have HC:=hd (ih wk _ m s2 O2 uy.1 (hwk▸V.later s2 O2 wr _ Kb av.o) Kb hvk (dw.below tK.below));have xp:=hd (gT.o.trans tK);obtain⟨r,hr⟩:∃r,r=zEg step s2 m:=⟨_,rfl⟩;rw[<-hr]at HC;obtain⟨rb,s3⟩:=r;have HR:=hd hr;obtain⟨y1,y2⟩:=hvk;subst hwk;clear hm dw hr tK w1 w2 cv bk uy xn;cases rb
     ·have rf:=hd (show zEg step s (.mk lf ps tx ks)=(false,s3) by rw[jx.o,zWu HM.o (by rw[<-HR.o]),<-HR.o]);clear jx HM HR;go_wp2_with(first|(refine HC.o.mono ?_;rintro e w' ⟨rfl,O3,o9,uz⟩))
      go_ret
      exact zL9 rf.o o9 (xp.o.trans uz)
     ·have rf:=hd (show zEg step s (.mk lf ps tx ks)=walkK step s3 (ks.drop (k+1)) by rw[jx.o,zWt HM.o (by rw[<-HR.o]),<-HR.o]);have tL:=hd (show preK s3 (ks.drop (k+1))from(by have:=xo.o (by rw[<-HR.o]);rw[<-HR.o]at this;exact this));clear jx HM HR xo;go_wp2_with(first|(refine HC.o.mono ?_;rintro e w' ⟨rfl,O3,o9,uz⟩))
      go_roundw
      case rel=>exact⟨k+1,s3,O3,by omega,by go_num,hd o9,hd (xp.o.trans uz),rf,tL⟩
      case measure=>simp[intOf];omega
    ·have rf:=hd (show zEg step s (.mk lf ps tx ks)=(true,s2) by rw[jx.o,zZ0 Kb]);clear jx;go_wp2
     go_ret
     exact zL9 rf.o av.o gT.o
def kM3 {σ:Type}(g:Nat)(Q:σ->Option Nat->World->Prop)(s:σ)(w:World)(e:Ending)(w':World):Prop:=
 e=.returned (.tuple #[])/\∃O',Q s O' w'/\Below g w w'
theorem zOz {step:σ->NT->Bool×σ}{Q:Nat->σ->Option Nat->World->Prop}{pre:σ->NT->Prop}{preK:σ->List NT->Prop}{d:Nat}{s:σ}(V:∀N,w.heap.size<=N->zY1 fv g N step (Q N) pre preK)(hg:g<w.heap.size)(hpre:pre s n)(hQ:∀N wa,w.heap.size<=N->Below w.heap.size w wa->Q N s none wa)(hn:zV d w g v n):
  Calls Tryz.prog 53 #[v,.func (.func fv) #[] #[.pointer (some ⟨g,0,none⟩)]] w (kM3 g (Q (w.heap.size+3)) (zEg step s n).2 w):=by
 obtain⟨N,hN⟩:∃N,N=w.heap.size+3:=⟨_,rfl⟩;have V0:=V N Kb;have hn0:=hn;obtain⟨d',lf,ps,tx,ks,PA,pc,TA,tc,KA,kc,hd',rfl,rfl,hp,ht,hf,hks⟩:=hn.open_;obtain⟨f0,nP⟩:∃f:Value,f=.func (.func 108) #[] #[.pointer (some ⟨w.heap.size+1,0,none⟩),.pointer (some ⟨w.heap.size+2,0,none⟩)]:=⟨_,rfl⟩;obtain⟨wa,gH⟩:∃wa,wa=((w.alloc (.cells #[.bool lf,.slice PA ps.length pc,.slice TA tx.length tc,.slice KA ks.length kc] 26)).alloc (.cells #[.func (.func fv) #[] #[.pointer (some ⟨g,0,none⟩)]] 65)).alloc (.cells #[f0] 65):=⟨_,rfl⟩;have qj:Q N s none wa:=hQ N wa Kb (gH▸((((Below.refl _ w).alloc Kl _).alloc Kc _).alloc Kf _));have dU:Below g w wa:=gH▸((((Below.refl g w).alloc Kb _).alloc Kf _).alloc Kf _);have hsa:wa.heap.size=N:=by rw[gH,hN];simp
 have xu:kGz g (w.heap.size+1) (w.heap.size+2) fv wa:=by
  constructor
  ·rw[gH,World.cell?_alloc_lt _ _ _ Kc,World.cell?_alloc_at _ _ _ _ Kc];rfl
  ·rw[gH,World.cell?_alloc_at _ _ _ _ Kc,nP];rfl
 have HC:=hd (kCr V0 Kb Kb Kb Kb Kb d wa _ _ s none hpre qj Kb xu (hn0.below dU));obtain⟨v1,v2⟩:=xu;subst gH nP;have AO:=hd hN;clear qj hn0 hn hp ht hks hf V V0 hQ hd' hpre hN;go_enter Tryz.func53,Tryz.ntmps53
 go_wp2_with(first|(refine HC.o.mono ?_;rintro e w' ⟨rfl,O',hq,ha⟩))
 go_wp2
 go_end0
 exact⟨rfl,O',AO.o▸hq,dU.trans ha.below⟩
def One (t:TypeId)(g:Nat)(u:Value)(w:World):Prop:=w.heap[g]? =some (.cells #[u] t (0,0))
theorem One.alloc (h:One t g u w)(o:Obj):One t g u (w.alloc o):=(Below.heap_alloc w o g (lt_of_block h)).trans h
theorem One.new (t:TypeId)(u:Value)(w:World):One t w.heap.size u (w.alloc (.cells #[u] t (0,0))):=by
 show(w.heap.push _)[w.heap.size]? =_
 simp
theorem One.set (h:One t g u w)(x:Value):One t g x (w.setCell ⟨g,0,none⟩ x):=one_setCell h
theorem Eff.setCell (h:Eff g O O' w w')(x:Value):Eff g O O' w (w'.setCell ⟨g,0,none⟩ x):=
 ⟨h.below.setCell Kl x,by have:=h.size;simp;omega,fun p hp hg hO=>by
  rw[World.cell?_setCell_other _ _ _ _ (by intro e;exact hg (by rw[<-e]))];exact h.cell p hp hg hO,h.own⟩
theorem zKe (a:Int): -9223372036854775808<=wrap64 a/\wrap64 a<=9223372036854775807:=by unfold wrap64;omega
def QS (g:Nat)(z:Int)(O:Option Nat)(w:World):Prop:=O=none/\(-9223372036854775808<=z/\z<=9223372036854775807)/\One 3 g (.int .i64 z) w
theorem zO0 (g:Nat)(z:Int)(d:Nat)(w:World)(v:Value)(n:NT)(O:Option Nat)(uA:QS g z O w)(hn:zV d w g v n):
  Calls Tryz.prog 76 #[v,.pointer (some ⟨g,0,none⟩)] w (Did g (QS g) O (zZ1 z n) w):=by
 obtain⟨rfl,⟨hz1,hz2⟩,hQ⟩:=uA;obtain⟨d',lf,ps,tx,ks,PA,pc,TA,tc,KA,kc,hd',rfl,rfl,hp,ht,hf,hks⟩:=hn.open_;have hlt:=lt_of_block hQ;have h1:=cell_of_one (One.alloc hQ (.cells #[.bool lf,.slice PA ps.length pc,.slice TA tx.length tc,.slice KA ks.length kc] 26));have h2:=free_of_one (One.alloc hQ (.cells #[.bool lf,.slice PA ps.length pc,.slice TA tx.length tc,.slice KA ks.length kc] 26));have HQ:=hd hQ;have HE:=hd (Eff.refl g none w);have hl:=hf.2.2.1;clear hks hp ht hf hn hQ hd';go_enter Tryz.func76,Tryz.ntmps76
 go_wp2
 go_ret
 exact⟨rfl,none,⟨rfl,zKe _,(HQ.o.set _).alloc _⟩,(HE.o.setCell _).alloc Kf _⟩
theorem zV3 (g N:Nat):zY1 76 g N zZ1 (QS g) (fun _ _=>True) (fun _ _=>True):=
 ⟨enters_of Tryz.func76 Ka rfl,fun _ _ _ h j hj=>(by rw[h.1]at hj;cases hj),fun _ _ _ o _ h=>⟨h.1,h.2.1,h.2.2.alloc o⟩,fun _ _ _ _ _ _ _=>trivial,fun _ _ _ _=>⟨trivial,fun _=>trivial⟩,fun d w v n s O _ hQ _ hn=>zO0 g s d w v n O hQ hn⟩
theorem zUm (d:Nat)(w:World)(v:Value)(n:NT)(hn:zV d w w.heap.size v n):Calls Tryz.prog 31 #[v] w (jA (.int .i64 (wrap64 (sizeT n))) w):=by
 have hn0:=hn;obtain⟨d',lf,ps,tx,ks,PA,pc,TA,tc,KA,kc,hd',rfl,rfl,hp,ht,hf,hks⟩:=hn.open_;obtain⟨wb,hwb⟩:∃wb,wb=w.alloc (.cells #[.bool lf,.slice PA ps.length pc,.slice TA tx.length tc,.slice KA ks.length kc] 26):=⟨_,rfl⟩;have aO:wb.heap.size=w.heap.size+1:=by rw[hwb];simp
 have hb1:Below w.heap.size w wb:=hwb▸Kk.alloc Kl _;obtain⟨wc,hwc⟩:∃wc,wc=wb.alloc (.cells #[.int .i64 0] 3):=⟨_,rfl⟩;have hb2:Below w.heap.size w wc:=hwc▸hb1.alloc Kb _;have hsc:wc.heap.size=w.heap.size+1+1:=by rw[hwc];simp;omega
 have hQ:QS (w.heap.size+1) 0 none wc:=⟨rfl,by omega,by rw[hwc,<-aO];exact One.new _ _ _⟩;have HC:=hd (zOz (Q:=fun _=>QS (w.heap.size+1)) (fun N _=>zV3 (w.heap.size+1) N) Kb trivial (fun _ _ _ hb=>⟨hQ.1,hQ.2.1,(hb.block _ (lt_of_block hQ.2.2)).trans hQ.2.2⟩) ((hn0.below hb2).more Kb));have e:=zRh (.mk lf ps tx ks) 0;rw[zGy 0 Kb Kb,Int.zero_add]at e;rw[e]at HC;have HB:=hd hb2;clear hn hn0 hp ht hf hks hd' e hQ hb1 hb2;subst hwc hwb;go_enter Tryz.func31,Tryz.ntmps31
 go_wp2_with(first|(refine HC.o.mono ?_;rintro e w' ⟨rfl,O',⟨_,_,hq⟩,ha⟩;have x0:=cell_of_one hq))
 go_ret
 exact⟨rfl,HB.o.trans (ha.mono Kb)⟩
theorem kSt (ks:List NT){n:Nat}(h:n<=9223372036854775806):(1+(n:Int))=wrap64 (1+n+sizeK (ks.take 0)):=by
 have e:sizeK (ks.take 0)=0:=by simp[sizeK]
 rw[e,zGy]<;>omega
theorem kTm :∀(d:Nat)(w:World)(v:Value)(n:NT),zV d w w.heap.size v n->Calls Tryz.prog 89 #[v] w (jA (.int .i64 (wrap64 (sizeT n))) w):=by
 intro d;induction d with
 |zero=>intro w v n h;exact h.elim
 | succ d ih=>
  intro w v n hn;obtain⟨d',lf,ps,tx,ks,PA,pc,TA,tc,KA,kc,hd',rfl,rfl,hp,ht,hf,hks⟩:=hn.open_;obtain rfl:d=d':=Kb;have HB:=hd (show Below w.heap.size w (w.alloc (.cells #[.bool lf,.slice PA ps.length pc,.slice TA tx.length tc,.slice KA ks.length kc] 26))from Kk.alloc Kl _);have cv:=hd hks;have hl:=hf.2.2.1;have cC:=hf.2.2.2.1;clear hn hp ht hf hks hd';go_enter Tryz.func89,Tryz.ntmps89
  go_wp2
  go_loopw [3,13] (fun z i wr=>∃(k:Nat)(y:Int),k<=ks.length/\z=.int .i64 y/\i=.int .i64 k/\Below w.heap.size w wr/\Kq (y=wrap64 (1+tx.length+sizeK (ks.take k)))) (fun _ i _=>ks.length-(intOf i).toNat)
  case atStart=>exact⟨0,_,Nat.zero_le _,rfl,rfl,HB.o,hd (kSt ks Kb)⟩
  case round=>
   obtain⟨k,y,hk,rfl,rfl,hb,HY⟩:=hrel;by_cases hlt:k<ks.length
   ·obtain⟨m,b,o,lf',PA',np',pc',TA',nt',tc',KA',nk',kc',hm,rfl,hbg,dw,c0,c1,c2,c3⟩:=(cv.o.below hb).at_ hlt;have hsz:=hb.size;obtain⟨wk,hwk⟩:∃wk,wk=wr.alloc (.cells #[.bool lf',.slice PA' np' pc',.slice TA' nt' tc',.slice KA' nk' kc'] 26):=⟨_,rfl⟩;have hbk:Below w.heap.size w wk:=hwk▸hb.alloc Kb _;have hbk2:Below wr.heap.size wr wk:=hwk▸Kk.alloc Kl _;have HC:=hd (ih wk _ m ((((dw.more hsz).below hbk2)).more hbk2.size));have HK:=hd hbk;have HZ:=hd (kSv hm);have tM:=zKe (1+tx.length+sizeK (ks.take k));rw[<-HY.o]at tM;obtain⟨hy1,hy2⟩:=tM;obtain⟨x,hx⟩:∃x,x=wrap64 (sizeT m):=⟨_,rfl⟩;have xw:=zKe (sizeT m);rw[<-hx]at HC xw;obtain⟨hx1,hx2⟩:=xw;have HX:=hd hx;subst hwk;clear hm dw hbk hbk2 hx cv;go_wp2_with(first|(refine HC.o.mono ?_;rintro e w' ⟨rfl,hb'⟩))
    go_roundw
    case rel=>exact⟨k+1,_,by omega,rfl,by go_num,HK.o.trans (hb'.mono HK.o.size),by show wrap64 _=_;rw[HZ.o,HY.o,HX.o,kDm,kTr];congr 1;omega⟩
    case measure=>simp[intOf];omega
   ·have HF:=hd (show y=wrap64 (sizeT (.mk lf ps tx ks)) by rw[HY.o,List.take_of_length_le Kb];simp only[sizeT];congr 1);clear HY;go_wp2
    go_ret
    exact⟨zAj HF.o,hb⟩
theorem One.below (h:One t g u w)(hb:Below w.heap.size w w'):One t g u w':=(hb.block g (lt_of_block h)).trans h
theorem Eff.of_below (hb:Below w.heap.size w w')(hg:g<=w.heap.size):Eff g none none w w':=
 ⟨hb.mono hg,hb.size,fun _ hp _ _=>hb.cell hp,.inl rfl⟩
theorem kJ1 {o:Obj}(hb:Below (w.alloc o).heap.size (w.alloc o) w'):w.heap.size<w'.heap.size:=by
 have:=hb.size;simp at this;omega
def QC (g:Nat)(z:Int)(O:Option Nat)(w:World):Prop:=O=none/\One 39 g (.int .i64 z) w
theorem kQ3 {P:Prop}(h:P:=by
 go_wp2_with(first
  |(refine HC.o.mono ?_;rintro e w' ⟨rfl,hb⟩;have hbb:=HB.o.trans (hb.mono HB.o.size);have x0:=cell_of_one (HQ.o.below hbb);have x1:=free_of_one (HQ.o.below hbb))
  |fail)
 go_ret
 exact zL9 HS.o ⟨rfl,(HQ.o.below hbb).set _⟩ ((Eff.of_below hbb Kb).setCell _)):P:=h
theorem zQ0 (g:Nat)(z:Int)(d:Nat)(w:World)(v:Value)(n:NT)(O:Option Nat)(uA:QC g z O w)(hn:zV d w g v n):
  Calls Tryz.prog 54 #[v,.pointer (some ⟨g,0,none⟩)] w (Did g (QC g) O (zWv z n) w):=by
 obtain⟨rfl,hQ⟩:=uA;obtain⟨d',lf,ps,tx,ks,PA,pc,TA,tc,KA,kc,hd',rfl,rfl,hp,ht,hf,hks⟩:=hn.open_;have hlt:=lt_of_block hQ;have hb1:Below w.heap.size w (w.alloc (.cells #[.bool lf,.slice PA ps.length pc,.slice TA tx.length tc,.slice KA ks.length kc] 26)):=Kk.alloc Kl _;have HC:=hd (kHn lf ps tx PA TA KA pc tc ks.length kc _ hf ((hp.below (hb1.mono Kb)).more Kf) ((ht.below (hb1.mono Kb)).more Kf));have HQ:=hd hQ;have HB:=hd hb1;obtain⟨E,hE⟩:∃E,E=zPb lf ps tx ks.length:=⟨_,rfl⟩;rw[<-hE]at HC;have HS:=hd (show zWv z (.mk lf ps tx ks)=(E==0,E) by rw[hE];rfl);clear hks hp ht hf hn hQ hd' hE hb1;rcases Classical.em (E=0)with h0|h0
 ·subst h0;go_enter Tryz.func54,Tryz.ntmps54
  exact kQ3
 ·have h1:(E==0)=false:=by simp[h0]
  have h2:(E !=0)=true:=by simp[h0]
  rw[h1]at HS;clear h0;go_enter Tryz.func54,Tryz.ntmps54
  exact kQ3
theorem zY2 (g N:Nat):zY1 54 g N zWv (QC g) (fun _ _=>True) (fun _ _=>True):=
 ⟨enters_of Tryz.func54 Ka rfl,fun _ _ _ h j hj=>(by rw[h.1]at hj;cases hj),fun _ _ _ o _ h=>⟨h.1,h.2.alloc o⟩,fun _ _ _ _ _ _ _=>trivial,fun _ _ _ _=>⟨trivial,fun _=>trivial⟩,fun d w v n s O _ hQ _ hn=>zQ0 g s d w v n O hQ hn⟩
theorem zS2 (h:1048576<wrap64 (sizeT n)):zAd n=2:=by unfold zAd;rw[if_pos h]
theorem zV4 (h:¬1048576<wrap64 (sizeT n)):zAd n=zAh n:=by unfold zAd;rw[if_neg h]
theorem zV5 (d:Nat)(w:World)(v:Value)(n:NT)(hn:zV d w w.heap.size v n):Calls Tryz.prog 18 #[v] w (jA (.int .i64 (zAd n)) w):=by
 have hn0:=hn;obtain⟨d',lf,ps,tx,ks,PA,pc,TA,tc,KA,kc,hd',rfl,rfl,hp,ht,hf,hks⟩:=hn.open_;obtain⟨wb,hwb⟩:∃wb,wb=w.alloc (.cells #[.bool lf,.slice PA ps.length pc,.slice TA tx.length tc,.slice KA ks.length kc] 26):=⟨_,rfl⟩;have hb1:Below w.heap.size w wb:=hwb▸Kk.alloc Kl _;have HC:=hd (zUm d wb _ _ ((hn0.below hb1).more hb1.size));obtain⟨z,hz⟩:∃z,z=wrap64 (sizeT (.mk lf ps tx ks)):=⟨_,rfl⟩;have hzb:=zKe (sizeT (.mk lf ps tx ks));rw[<-hz]at HC hzb;obtain⟨hz1,hz2⟩:=hzb;have HB:=hd hb1;by_cases gU:1048576<z
 ·have HF:=hd (zS2 (n:=.mk lf ps tx ks) (by rw[<-hz];exact gU));subst hwb;clear hz hn hn0 hp ht hf hks hd' hb1;go_enter Tryz.func18,Tryz.ntmps18
  go_wp2_with(first|(refine HC.o.mono ?_;rintro e w' ⟨rfl,hb⟩))
  go_ret
  exact⟨zAj HF.o.symm,HB.o.trans (hb.mono HB.o.size)⟩
 ·have HF:=hd (zV4 (n:=.mk lf ps tx ks) (by rw[<-hz];exact gU));have HD:=fun(w':World)(hb:Below wb.heap.size wb w')(hQ:QC w'.heap.size 0 none (w'.alloc (.cells #[.int .i64 0] 39)))=>
   hd (zOz (d:=d) (v:=.agg #[.bool lf,.slice PA ps.length pc,.slice TA tx.length tc,.slice KA ks.length kc]) (n:=.mk lf ps tx ks) (Q:=fun _=>QC w'.heap.size) (fun N _=>zY2 w'.heap.size N) Kc trivial (fun _ _ _ hb=>⟨hQ.1,hQ.2.below hb⟩) (((hn0.below hb1).more hb1.size).below hb|>.more hb.size|>.below (Kk.alloc Kl _)))
  have e:=zOb (.mk lf ps tx ks) 0;rw[e]at HD;subst hwb;clear hz hn hn0 hp ht hf hks hd' hb1 e;go_enter Tryz.func18,Tryz.ntmps18
  go_wp2_with(first
   |(go_at_call 31;refine HC.o.mono ?_;rintro e w' ⟨rfl,hb⟩;obtain⟨x0,x1,x2,x3⟩:=kHm hb;have HE:=HD w' hb ⟨rfl,One.new _ _ _⟩;have hbs:=kJ1 hb;clear HD)
   |(go_at_call 53;refine HE.o.mono ?_;rintro e w'' ⟨rfl,O',⟨_,hq⟩,ha⟩;have y0:=cell_of_one hq))
  go_ret
  exact⟨zAj HF.o.symm,(HB.o.trans (hb.mono HB.o.size)).trans ((Kk.alloc (by have:=HB.o.size;omega) _).trans (ha.mono (by have:=HB.o.size;omega)))⟩
theorem kUu :∀(d:Nat)(w:World)(v:Value)(n:NT),zV d w w.heap.size v n->Calls Tryz.prog 90 #[v] w (jA (.int .i64 (zAh n)) w):=by
 intro d;induction d with
 |zero=>intro w v n h;exact h.elim
 | succ d ih=>
  intro w v n hn;obtain⟨d',lf,ps,tx,ks,PA,pc,TA,tc,KA,kc,hd',rfl,rfl,hp,ht,hf,hks⟩:=hn.open_;obtain rfl:d=d':=Kb;have hb1:Below w.heap.size w (w.alloc (.cells #[.bool lf,.slice PA ps.length pc,.slice TA tx.length tc,.slice KA ks.length kc] 26)):=Kk.alloc Kl _;have HC:=hd (kO9 PA ps pc _ hf.1 ((hp.below hb1).more hb1.size));have HD:=fun(w':World)(hb:Below w.heap.size w w')=>hd (kOm TA tx tx.length tc w' rfl (by have:=hf.2.2.1;omega) ((ht.below hb).more hb.size));have HB:=hd hb1;have cv:=hd hks;obtain⟨_,_,f2,f3⟩:=hf;clear hn hp ht hks hd' hb1;obtain⟨E,hE⟩:∃E,E=chk ps:=⟨_,rfl⟩;rw[<-hE]at HC;rcases Classical.em (E=0)with h0|h0
  ·subst h0;rcases(show(lf=true/\0<ks.length∨lf=false/\0<tx.length)∨(lf=true/\¬0<ks.length)∨(lf=false/\¬0<tx.length) by
    cases lf
    ·rcases Nat.eq_zero_or_pos tx.length with h|h
     ·exact .inr (.inr ⟨rfl,by omega⟩)
     ·exact .inl (.inr ⟨rfl,h⟩)
    ·rcases Nat.eq_zero_or_pos ks.length with h|h
     ·exact .inr (.inl ⟨rfl,by omega⟩)
     ·exact .inl (.inl ⟨rfl,h⟩))with h1|h1|h1
   ·have HF:=hd (show zAh (.mk lf ps tx ks)=7 by rw[zAh,zRk hE.symm h1];rfl);rcases h1 with⟨rfl,h1⟩|⟨rfl,h1⟩;all_goals
     clear hE cv HD ih
     go_enter Tryz.func90,Tryz.ntmps90
     go_wp2_with(go_at_call 100;refine HC.o.mono ?_;rintro e w' ⟨rfl,hb⟩;obtain⟨x0,x1,x2,x3⟩:=kHm hb)
     go_ret
     exact⟨zAj HF.o.symm,HB.o.trans (hb.mono HB.o.size)⟩
   all_goals
    have hone:zPb lf ps tx ks.length=zNh tx:=zRl hE.symm (by first|exact .inl ⟨h1.1,by omega⟩|exact .inr ⟨h1.1,by omega⟩)
    obtain⟨rfl,h2⟩:=h1
    obtain⟨T,hT⟩:∃T,T=zNh tx:=⟨_,rfl⟩
    simp only[<-hT]at HD
    rcases Classical.em (T=0)with h3|h3
    ·subst h3;have HF:=hd (show zAh (.mk _ ps tx ks)=chkK (ks.drop 0) by rw[zAh,if_neg (by rw[hone,<-hT];decide)];rfl);clear hE hone hT;go_enter Tryz.func90,Tryz.ntmps90
     go_wp2_with(first
      |(go_at_call 100;refine HC.o.mono ?_;rintro e w' ⟨rfl,hb⟩;obtain⟨x0,x1,x2,x3⟩:=kHm hb)
      |(go_at_call 140;refine(HD _ (HB.o.trans (hb.mono HB.o.size))).o.mono ?_;rintro e w'' ⟨rfl,rfl⟩))
     have bq:=hd (HB.o.trans (hb.mono HB.o.size));clear x0 x1 x2 x3 HC HD h2;go_loopw [42] (fun i wr=>∃k:Nat,k<=ks.length/\i=.int .i64 k/\Below w.heap.size w wr/\Kq (zAh (.mk _ ps tx ks)=chkK (ks.drop k))) (fun i _=>ks.length-(intOf i).toNat)
     case atStart=>exact⟨0,Nat.zero_le _,rfl,bq.o,HF⟩
     case round=>
      clear HF;obtain⟨k,hk,rfl,hbr,HF⟩:=hrel;by_cases hlt:k<ks.length
      ·obtain⟨m,b,o,lf',PA',np',pc',TA',nt',tc',KA',nk',kc',hm,rfl,hbg,dw,c0,c1,c2,c3⟩:=(cv.o.below hbr).at_ hlt;have hsz:=hbr.size;obtain⟨wk,hwk⟩:∃wk,wk=wr.alloc (.cells #[.bool lf',.slice PA' np' pc',.slice TA' nt' tc',.slice KA' nk' kc'] 26):=⟨_,rfl⟩;have hbk:Below w.heap.size w wk:=hwk▸hbr.alloc Kb _;have hbk2:Below wr.heap.size wr wk:=hwk▸Kk.alloc Kl _;have HM:=hd (ih wk _ m ((((dw.more hsz).below hbk2)).more hbk2.size));have HK:=hd hbk;obtain⟨x,hx⟩:∃x,x=zAh m:=⟨_,rfl⟩;rw[<-hx]at HM;rcases Classical.em (x=0)with hx0|hx0
       ·subst hx0;have HG:=hd (HF.o.trans (kTp hm hx.symm));subst hwk;clear hm dw hbk hbk2 hx cv HF;go_wp2_with(first|(refine HM.o.mono ?_;rintro e w' ⟨rfl,hb'⟩))
        go_roundw
        case rel=>exact⟨k+1,by omega,by go_num,HK.o.trans (hb'.mono HK.o.size),HG⟩
        case measure=>simp[intOf];omega
       ·have HG:=hd (show zAh (.mk _ ps tx ks)=x from(HF.o.trans (kTq hm (by rw[<-hx];exact hx0))).trans hx.symm);have z1:(x==0)=false:=by simp[hx0]
        have z2:(x !=0)=true:=by simp[hx0]
        subst hwk;clear hm dw hbk hbk2 hx cv HF hx0;go_wp2_with(first|(refine HM.o.mono ?_;rintro e w' ⟨rfl,hb'⟩))
        go_ret
        exact⟨zAj HG.o.symm,HK.o.trans (hb'.mono HK.o.size)⟩
      ·have HG:=hd (HF.o.trans (kUz Kb));clear HF;go_wp2
       go_ret
       exact⟨zAj HG.o.symm,hbr⟩
    ·have HF:=hd (show zAh (.mk _ ps tx ks)=T by rw[zAh,hone,<-hT,if_pos h3]);have z1:(T==0)=false:=by simp[h3]
     have z2:(T !=0)=true:=by simp[h3]
     clear hE cv ih hone hT h3;go_enter Tryz.func90,Tryz.ntmps90
     go_wp2_with(first
      |(go_at_call 100;refine HC.o.mono ?_;rintro e w' ⟨rfl,hb⟩;obtain⟨x0,x1,x2,x3⟩:=kHm hb)
      |(go_at_call 140;refine(HD _ (HB.o.trans (hb.mono HB.o.size))).o.mono ?_;rintro e w'' ⟨rfl,rfl⟩))
     go_ret
     exact⟨zAj HF.o.symm,HB.o.trans (hb.mono HB.o.size)⟩
  ·have HF:=hd (show zAh (.mk lf ps tx ks)=E by rw[zAh,zZ2 (by rw[<-hE];exact h0),<-hE,if_pos h0]);have z1:(E==0)=false:=by simp[h0]
   have z2:(E !=0)=true:=by simp[h0]
   clear hE cv HD ih h0;go_enter Tryz.func90,Tryz.ntmps90
   go_wp2_with(go_at_call 100;refine HC.o.mono ?_;rintro e w' ⟨rfl,hb⟩;obtain⟨x0,x1,x2,x3⟩:=kHm hb)
   go_ret
   exact⟨zAj HF.o.symm,HB.o.trans (hb.mono HB.o.size)⟩
theorem kRx (d:Nat)(w:World)(v:Value)(n:NT)(hn:zV d w w.heap.size v n):Calls Tryz.prog 45 #[v] w (jA (.int .i64 (zAd n)) w):=by
 have hn0:=hn;obtain⟨d',lf,ps,tx,ks,PA,pc,TA,tc,KA,kc,hd',rfl,rfl,hp,ht,hf,hks⟩:=hn.open_;obtain⟨wb,hwb⟩:∃wb,wb=w.alloc (.cells #[.bool lf,.slice PA ps.length pc,.slice TA tx.length tc,.slice KA ks.length kc] 26):=⟨_,rfl⟩;have hb1:Below w.heap.size w wb:=hwb▸Kk.alloc Kl _;have HC:=hd (kTm d wb _ _ ((hn0.below hb1).more hb1.size));obtain⟨z,hz⟩:∃z,z=wrap64 (sizeT (.mk lf ps tx ks)):=⟨_,rfl⟩;have hzb:=zKe (sizeT (.mk lf ps tx ks));rw[<-hz]at HC hzb;obtain⟨hz1,hz2⟩:=hzb;have HB:=hd hb1;by_cases gU:1048576<z
 ·have HF:=hd (zS2 (n:=.mk lf ps tx ks) (by rw[<-hz];exact gU));subst hwb;clear hz hn hn0 hp ht hf hks hd' hb1;go_enter Tryz.func45,Tryz.ntmps45
  go_wp2_with(first|(refine HC.o.mono ?_;rintro e w' ⟨rfl,hb⟩))
  go_ret
  exact⟨zAj HF.o.symm,HB.o.trans (hb.mono HB.o.size)⟩
 ·have HF:=hd (zV4 (n:=.mk lf ps tx ks) (by rw[<-hz];exact gU));have HD:=fun(w':World)(hb:Below wb.heap.size wb w')=>hd (kUu d w' _ _ (((hn0.below hb1).more hb1.size).later hb));subst hwb;clear hz hn hn0 hp ht hf hks hd' hb1;go_enter Tryz.func45,Tryz.ntmps45
  go_wp2_with(first
   |(go_at_call 89;refine HC.o.mono ?_;rintro e w' ⟨rfl,hb⟩;obtain⟨x0,x1,x2,x3⟩:=kHm hb;have HE:=HD w' hb;clear HD)
   |(go_at_call 90;refine HE.o.mono ?_;rintro e w'' ⟨rfl,hb2⟩))
  go_ret
  exact⟨zAj HF.o.symm,(HB.o.trans (hb.mono HB.o.size)).trans (hb2.mono (by have:=hb.size;have:=HB.o.size;omega))⟩
def zMa (N:Nat)(w:World):Type:={w':World//Below N w w'}
instance (N :Nat) (w:World):Nonempty (zMa N w):=⟨⟨w,Below.refl N w⟩⟩
theorem zAu (N:Nat){id:Nat}{Q:Exit->Act->World->Prop}{a:Act}{l:List Oper}(hm:Tryz.prog.follows .mixedOrders=true)(hB:Region.lexB .any l.toArray=true)
  (h:wpQuiet Tryz.prog l.toArray (fun w'=>∃u:zMa N w,w'=u.1) (fun a'=>∀w',(∃u:zMa N w,w'=u.1)->Q .normal a' w') l a):(Code.region id l.toArray true).wp Tryz.prog Q a w:=
 wp_region_quiet (C:=fun w'=>∃u:zMa N w,w'=u.1) hm hB ⟨⟨_,(Below.refl N w).drew⟩,rfl⟩ (by simpa using h)
theorem kQ {a:Addr}(h:w.cell? a=some v):a.block<w.heap.size:=by
 unfold World.cell? at h;cases hb:w.heap[a.block]? with
 |none=>rw[hb]at h;cases h
 |some o=>exact(Array.getElem?_eq_some_iff.1 hb).1
theorem kL {p:Addr}(h:w.cell? p=some v):∀u:zMa w.heap.size w,u.1.cell? p=some v:=fun u=>(u.2.cell (kQ h)).trans h
theorem zFm {f:FuncId}{args:Array Value}{u:zMa N w}(hN:N<=w.heap.size)(h:Calls Tryz.prog f args u.1 (jA v u.1)):
  Calls Tryz.prog f args u.1 fun e w''=>e=.returned v/\∃u':zMa N w,w''=u'.1:=
 h.mono fun _ w''⟨he,hb⟩=>⟨he,⟨w'',u.2.trans (hb.mono (Nat.le_trans hN u.2.size))⟩,rfl⟩
def zO1 (lf:Bool)(ps:List Pr)(tx:List Int)(nk:Nat)(lf':Bool)(ps':List Pr)(tx':List Int)(nk':Nat):Bool:=decide (lf=lf'/\nk=nk'/\ps=ps'/\tx=tx')
theorem zGr {lf:Bool}{ps:List Pr}{tx:List Int}{nk':Nat}(h:¬(lf=lf'/\nk=nk'/\ps=ps'/\tx=tx')):zO1 lf ps tx nk lf' ps' tx' nk'=false:=decide_eq_false h
theorem zY3 {lf:Bool}{ps:List Pr}{tx:List Int}:zO1 lf ps tx nk lf ps tx nk=true:=decide_eq_true ⟨rfl,rfl,rfl,rfl⟩
theorem kFg {a' b' c' d':Value}{t':TypeId}(hb:Below ((w.alloc (.cells #[a,b,c,d] t)).alloc (.cells #[a',b',c',d'] t')).heap.size ((w.alloc (.cells #[a,b,c,d] t)).alloc (.cells #[a',b',c',d'] t')) w'):
  (w'.cell? ⟨w.heap.size,0,none⟩=some a/\w'.cell? ⟨w.heap.size,1,none⟩=some b/\w'.cell? ⟨w.heap.size,2,none⟩=some c/\w'.cell? ⟨w.heap.size,3,none⟩=some d)/\
  (w'.cell? ⟨w.heap.size+1,0,none⟩=some a'/\w'.cell? ⟨w.heap.size+1,1,none⟩=some b'/\w'.cell? ⟨w.heap.size+1,2,none⟩=some c'/\w'.cell? ⟨w.heap.size+1,3,none⟩=some d')/\w.heap.size+1<w'.heap.size:=by
 refine⟨⟨?_,?_,?_,?_⟩,⟨?_,?_,?_,?_⟩,by have:=hb.size;simp at this;omega⟩;all_goals first
  |(rw[hb.cell Kf,World.cell?_alloc_lt _ _ _ Kc,World.cell?_alloc_at _ _ _ _ rfl];rfl)
  |(rw[hb.cell Kc,World.cell?_alloc_at _ _ _ _ Kc];rfl)
theorem zS3 (lf:Bool)(ps:List Pr)(tx:List Int)(lf':Bool)(ps':List Pr)(tx':List Int)(PA TA KA PA' TA' KA':Option Addr)(pc tc nk kc pc' tc' nk' kc':Nat)(w:World)(hf:zU0 ps tx.length nk pc tc kc)(hf':zU0 ps' tx'.length nk' pc' tc' kc')(hp:PL w w.heap.size PA ps)(ht:VL w w.heap.size TA (rv tx))(hp':PL w w.heap.size PA' ps')(ht':VL w w.heap.size TA' (rv tx')):
  Calls Tryz.prog 63 #[.agg #[.bool lf,.slice PA ps.length pc,.slice TA tx.length tc,.slice KA nk kc],.agg #[.bool lf',.slice PA' ps'.length pc',.slice TA' tx'.length tc',.slice KA' nk' kc']] w (jA (.bool (zO1 lf ps tx nk lf' ps' tx' nk')) w):=by
 have hb1:Below w.heap.size w ((w.alloc (.cells #[.bool lf,.slice PA ps.length pc,.slice TA tx.length tc,.slice KA nk kc] 26)).alloc (.cells #[.bool lf',.slice PA' ps'.length pc',.slice TA' tx'.length tc',.slice KA' nk' kc'] 26)):=(Kk.alloc Kl _).alloc Kc _;have HB:=hd hb1;rcases Classical.em (lf=lf')with h1|h1
 ·subst h1;rcases Classical.em (nk=nk')with h2|h2
  ·subst h2;have HC:=hd (zRf PA PA' ps ps' pc pc' _ (by have:=hf.2.1;omega) (by have:=hf'.2.1;omega) ((hp.below hb1).more hb1.size) ((hp'.below hb1).more hb1.size));rcases Classical.em (ps=ps')with h3|h3
   ·subst h3;rw[decide_eq_true rfl]at HC;have HD:=fun(w':World)(hb:Below w.heap.size w w')=>hd (zUw TA TA' tx tx' tx.length tx'.length tc tc' (zO1 lf ps tx nk lf ps tx' nk) (by unfold sameL zO1;simp) w' rfl rfl (by have:=hf.2.2.1;omega) (by have:=hf'.2.2.1;omega) ((ht.below hb).more hb.size) ((ht'.below hb).more hb.size));clear hf hf' hp ht hp' ht' hb1;cases lf<;>
    ·go_enter Tryz.func63,Tryz.ntmps63
     go_wp2_with(first
      |(go_at_call 119;refine HC.o.mono ?_;rintro e w' ⟨rfl,hb⟩;obtain⟨⟨x0,x1,x2,x3⟩,⟨y0,y1,y2,y3⟩,hlt⟩:=kFg hb)
      |(go_at_call 120;refine(HD _ (HB.o.trans (hb.mono HB.o.size))).o.mono ?_;rintro e w'' ⟨rfl,kd,rfl⟩))
     go_ret
     exact⟨rfl,zZ (HB.o.trans (hb.mono HB.o.size)) _⟩
   ·rw[decide_eq_false h3]at HC;have HF:=hd (zGr (lf:=lf) (ps:=ps) (tx:=tx) (nk:=nk) (lf':=lf) (ps':=ps') (tx':=tx') (nk':=nk) (fun h=>h3 h.2.2.1));clear hf hf' hp ht hp' ht' hb1 h3;cases lf<;>
    ·go_enter Tryz.func63,Tryz.ntmps63
     go_wp2_with(first
      |(go_at_call 119;refine HC.o.mono ?_;rintro e w' ⟨rfl,hb⟩;obtain⟨⟨x0,x1,x2,x3⟩,⟨y0,y1,y2,y3⟩,hlt⟩:=kFg hb))
     go_ret
     exact⟨kC HF.o.symm,HB.o.trans (hb.mono HB.o.size)⟩
  ·have HF:=hd (zGr (lf:=lf) (ps:=ps) (tx:=tx) (nk:=nk) (lf':=lf) (ps':=ps') (tx':=tx') (nk':=nk') (fun h=>h2 h.2.1));have z1:((nk:Int)==(nk':Int))=false:=by simp;omega
   have z2:((nk:Int) !=(nk':Int))=true:=by simp;omega
   clear hf hf' hp ht hp' ht' hb1 h2;cases lf<;>
   ·go_enter Tryz.func63,Tryz.ntmps63
    go_wp2
    go_ret
    exact⟨kC HF.o.symm,HB.o⟩
 ·have HF:=hd (zGr (lf:=lf) (ps:=ps) (tx:=tx) (nk:=nk) (lf':=lf') (ps':=ps') (tx':=tx') (nk':=nk') (fun h=>h1 h.1));clear hf hf' hp ht hp' ht' hb1;cases lf<;>cases lf'<;>first
  |exact absurd rfl h1
  | (go_enter Tryz.func63,Tryz.ntmps63
     go_wp2
     go_ret
     exact⟨kC HF.o.symm,HB.o⟩)
theorem zMb {lf:Bool}{ps:List Pr}{tx:List Int}{ks:List NT}(h:zO1 lf ps tx ks.length lf' ps' tx' ks'.length=false):eqT (.mk lf ps tx ks) (.mk lf' ps' tx' ks')=false:=by
 apply zUx;intro e;injection e with e1 e2 e3 e4;subst e1 e2 e3 e4;rw[zY3]at h;cases h
theorem zY4 {lf:Bool}{ps:List Pr}{tx:List Int}{ks:List NT}{k:Nat}{m m':NT}(h:ks[k]? =some m)(h':ks'[k]? =some m')(hn:eqT m m'=false):eqT (.mk lf ps tx ks) (.mk lf' ps' tx' ks')=false:=by
 apply zUx;intro e;injection e with e1 e2 e3 e4;subst e4;rw[h]at h';injection h' with h';subst h';rw[zD8]at hn;cases hn
theorem zUn {a b:NT}(h:eqT a b=true):a=b:=by
 rcases Classical.em (a=b)with h1|h1
 ·exact h1
 ·rw[zUx h1]at h;cases h
theorem zY5 {lf:Bool}{ps:List Pr}{tx:List Int}{ks:List NT}(h:zO1 lf ps tx ks.length lf' ps' tx' ks'.length=true)(ha:∀j,j<ks.length->ks[j]? =ks'[j]?):eqT (.mk lf ps tx ks) (.mk lf' ps' tx' ks')=true:=by
 have h1:=of_decide_eq_true h;obtain⟨rfl,hl,rfl,rfl⟩:=h1;apply zPc;congr 1
 apply List.ext_getElem?;intro i;by_cases hi:i<ks.length
 ·exact ha i hi
 ·rw[List.getElem?_eq_none Kb,List.getElem?_eq_none Kb]
