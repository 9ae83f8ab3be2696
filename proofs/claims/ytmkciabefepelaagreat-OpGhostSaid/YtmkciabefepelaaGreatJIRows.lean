import Derived.Test.YtmkciabefepelaaGreatJTTree
set_option maxRecDepth 100000
namespace Go.Proofs.YtmkciabefepelaaGreat
open Go.RowKit
open Go.WideShapes (add_plain)
variable {w w':World}{B b b' d k kc nk np nt pc tc:Nat}{A KA TA:Option Addr}{L:List (List Int)}{n:NT}{u v:Value}{l p:List Int}
theorem kSz :(Tryz.prog.info? 27).map (fun i=>(i.zero,i.size,i.bytes))=some (some (.slice none 0 0),1,24):=Ka
def lAt (L:List (List Int))(k:Nat):List Int:=L.getD k []
theorem kR2 (L:List (List Int))(k:Nat)(hk:k<L.length):lAt L k=L[k]:=by
 unfold lAt;rw[List.getD_eq_getElem?_getD,List.getElem?_eq_getElem hk];rfl
def RL (w:World)(B:Nat)(A:Option Addr)(L:List (List Int)):Prop:=
 L≠[]->∃b o,A=some ⟨b,o,none⟩/\b<B/\∀k,k<L.length->∃(Ak:Option Addr)(ck:Nat),w.cell? ⟨b,o+k,none⟩=some (.slice Ak (lAt L k).length ck)/\(lAt L k).length<=ck/\IL w B Ak (lAt L k)
theorem RL.keep (h:RL w B A L)(hk:∀p:Addr,p.block<B->w'.cell? p=w.cell? p):RL w' B A L:=fun hn=>by
 obtain⟨b,o,e,hb,hc⟩:=h hn;refine⟨b,o,e,hb,fun k hkl=>?_⟩;obtain⟨Ak,ck,h1,h2,h3⟩:=hc k hkl;exact⟨Ak,ck,(hk _ hb).trans h1,h2,h3.keep hk⟩
theorem RL.below (h:RL w B A L)(hb:Below B w w'):RL w' B A L:=h.keep fun _ hp=>hb.cell hp
theorem RL.more {B':Nat}(h:RL w B A L)(hB:B<=B'):RL w B' A L:=fun hn=>by
 obtain⟨b,o,e,hb,hc⟩:=h hn;refine⟨b,o,e,by omega,fun k hkl=>?_⟩;obtain⟨Ak,ck,h1,h2,h3⟩:=hc k hkl;exact⟨Ak,ck,h1,h2,h3.more hB⟩
theorem RL.later (h:RL w w.heap.size A L)(hb:Below w.heap.size w w'):RL w' w'.heap.size A L:=(h.below hb).more hb.size
theorem RL.at_ (h:RL w B A L)(hk:k<L.length):
  ∃b o Ak ck,A=some ⟨b,o,none⟩/\b<B/\w.cell? ⟨b,o+k,none⟩=some (.slice Ak (lAt L k).length ck)/\(lAt L k).length<=ck/\IL w B Ak (lAt L k):=by
 obtain⟨b,o,e,hb,hc⟩:=h (by intro e;subst e;simp at hk);obtain⟨Ak,ck,h1,h2,h3⟩:=hc k hk;exact⟨b,o,Ak,ck,e,hb,h1,h2,h3⟩
theorem zJz {e e' s s' n n':Nat}{xs ys:List Value}(h:w.ownsRow b e s v n xs)(h':w.ownsRow b' e' s' u n' ys)(hne:e≠e'):u.ownBlock=none∨u.ownBlock≠v.ownBlock:=by
 rcases h'.2 with⟨rfl,_⟩|⟨g',cap',cur',rfl,_,hg',_⟩
 ·exact .inl rfl
 ·rcases h.2 with⟨rfl,_⟩|⟨g,cap,cur,rfl,_,hg,_⟩
  ·exact .inr (by simp[Value.ownBlock])
  ·refine .inr fun hh=>?_;simp only[Value.ownBlock,Option.some.injEq]at hh;rw[hh,hg]at hg';injection hg' with hg';injection hg' with _ h2;exact hne h2
theorem zBt.grown {n:Nat}{xs:List Value}(h:zBt w b u l)(hr:w.ownsRow b' 27 1 v n xs)(hg:w.grownBy w' v.ownBlock):zBt w' b u l:=
 zBt.of_own (h.own.kept hg (zJz hr h.own Kd)) rfl
theorem zBt.open_at (h:zBt w b v l)(n:Nat)(hn:l.length=n):∃(A:Option Addr)(c:Nat),v=.slice A n c/\n<=c/\IL w w.heap.size A l:=by
 subst hn;obtain⟨A,c,h1,h2,_,h3⟩:=h.open_;exact⟨A,c,h1,h2,h3⟩
theorem zD6 (n:NT)(i:Int)(r:Bool)(hr:zOf n i=r)(d:Nat)(w:World)(v:Value)(hn:zV d w w.heap.size v n):
  Calls Tryz.prog 74 #[v,.int .i64 i] w (jA (.bool r) w):=by
 obtain⟨d',lf,ps,tx,ks,PA,pc,TA,tc,KA,kc,hd',rfl,rfl,hp,ht,hf,hks⟩:=hn.open_;have cM:=hf.2.2.2.1;have HB:=hd (show Below w.heap.size w (w.alloc (.cells #[.bool lf,.slice PA ps.length pc,.slice TA tx.length tc,.slice KA ks.length kc] 26))from Kl.alloc Km _);have hr':(decide (0<=i)&&decide (i<ks.length))=r:=hr;clear hn hp ht hf hks hd' hr;by_cases h1:0<=i
 ·by_cases h2:i<ks.length
  ·have HF:=hd (show r=true by rw[<-hr'];simp[h1,h2]);clear hr';go_enter Tryz.func74,Tryz.ntmps74
   go_wp2
   go_ret
   exact⟨kC HF.o.symm,HB.o⟩
  ·have HF:=hd (show r=false by rw[<-hr'];simp[h2]);have h3:decide (i<(ks.length:Int))=false:=decide_eq_false h2;clear hr';go_enter Tryz.func74,Tryz.ntmps74
   go_wp2
   go_ret
   exact⟨kC HF.o.symm,HB.o⟩
 ·have HF:=hd (show r=false by rw[<-hr'];simp[h1]);have h3:decide (0<=i)=false:=decide_eq_false h1;clear hr';go_enter Tryz.func74,Tryz.ntmps74
  go_wp2
  go_ret
  exact⟨kC HF.o.symm,HB.o⟩
def zP2 (r:NT×Int)(w:World)(e:Ending)(w':World):Prop:=
 ∃v d,e=.returned (.tuple #[v,.int .i64 r.2])/\zAx (fun b=>w.heap.size<=b/\b<w'.heap.size) d w' v r.1/\Below w.heap.size w w'
theorem zJv {r:NT×Int}{e:Int}(h:r=(n,e))(ht:zAx (fun b=>w.heap.size<=b/\b<w'.heap.size) d w' v n)(hb:Below w.heap.size w w'):zP2 r w (.returned (.tuple #[v,.int .i64 e])) w':=by
 subst h;exact⟨v,d,rfl,ht,hb⟩
structure zM2 (w:World)(d:Nat)(n:NT)(p:List Int)(k:Nat)(lf:Bool)(PA:Option Addr)(np pc:Nat)(TA:Option Addr)(nt tc:Nat)(KA:Option Addr)(nk kc:Nat)(m:NT)(wr:World):Prop where
 below:Below w.heap.size w wr
 res:wr.heap[w.heap.size+1]? =some (.cells #[.bool false,.slice none 0 0,.slice none 0 0,.slice none 0 0] 26 (0,0))
 var:wr.heap[w.heap.size]? =some (.cells #[.bool lf,.slice PA np pc,.slice TA nt tc,.slice KA nk kc] 26 (0,0))
 at_:kB n (p.take k)=some m
 node:zV d wr w.heap.size (.agg #[.bool lf,.slice PA np pc,.slice TA nt tc,.slice KA nk kc]) m
theorem zBj (w:World)(a b c d:Value)(t:TypeId)(a' b' c' d':Value)(t':TypeId):
  ((w.alloc (.cells #[a,b,c,d] t)).alloc (.cells #[a',b',c',d'] t')).heap[w.heap.size]? =some (.cells #[a,b,c,d] t (0,0))/\((w.alloc (.cells #[a,b,c,d] t)).alloc (.cells #[a',b',c',d'] t')).heap[w.heap.size+1]? =some (.cells #[a',b',c',d'] t' (0,0)):=by
 refine⟨?_,?_⟩
 ·rw[Below.heap_alloc _ _ _ Kc];exact heap_alloc_new _ _
 ·rw[<-sz1 (w:=w) (A:=.cells #[a,b,c,d] t)];exact heap_alloc_new _ _
theorem zRv {lf:Bool}{PA:Option Addr}(hn:zV d w w.heap.size (.agg #[.bool lf,.slice PA np pc,.slice TA nt tc,.slice KA nk kc]) n):
  zM2 w d n p 0 lf PA np pc TA nt tc KA nk kc n ((w.alloc (.cells #[.bool lf,.slice PA np pc,.slice TA nt tc,.slice KA nk kc] 26)).alloc (.cells #[.bool false,.slice none 0 0,.slice none 0 0,.slice none 0 0] 26)):=by
 have hb:=kM (w:=w) (w':=w) (o:=(.cells #[.bool lf,.slice PA np pc,.slice TA nt tc,.slice KA nk kc] 26)) (o':=(.cells #[.bool false,.slice none 0 0,.slice none 0 0,.slice none 0 0] 26)) Kl (Nat.le_refl w.heap.size);obtain⟨h1,h2⟩:=zBj w (.bool lf) (.slice PA np pc) (.slice TA nt tc) (.slice KA nk kc) 26 (.bool false) (.slice none 0 0) (.slice none 0 0) (.slice none 0 0) 26;exact⟨hb,h2,h1,rfl,hn.below hb⟩
theorem zU8 {wr w2:World}{m m2:NT}{lf:Bool}{PA:Option Addr}{lf2:Bool}{iA:Option Addr}{iB iC:Nat}{iD:Option Addr}{iE iF:Nat}{ie:Option Addr}{iG ig:Nat}
  (h:zM2 w d n p k lf PA np pc TA nt tc KA nk kc m wr) (hb:Below wr.heap.size wr w2) (hm:kB n (p.take (k+1))=some m2) (hn:zV d w2 w.heap.size (.agg #[.bool lf2,.slice iA iB iC,.slice iD iE iF,.slice ie iG ig]) m2):
  zM2 w d n p (k+1) lf2 iA iB iC iD iE iF ie iG ig m2 ((((w2.setCell ⟨w.heap.size,0,none⟩ (.bool lf2)).setCell ⟨w.heap.size,1,none⟩ (.slice iA iB iC)).setCell ⟨w.heap.size,2,none⟩ (.slice iD iE iF)).setCell ⟨w.heap.size,3,none⟩ (.slice ie iG ig)):=by
 have hs:=h.below.size;have hb2:Below w.heap.size w w2:=h.below.trans (hb.mono hs);have aW:Below w.heap.size w ((((w2.setCell ⟨w.heap.size,0,none⟩ (.bool lf2)).setCell ⟨w.heap.size,1,none⟩ (.slice iA iB iC)).setCell ⟨w.heap.size,2,none⟩ (.slice iD iE iF)).setCell ⟨w.heap.size,3,none⟩ (.slice ie iG ig)):=(((hb2.setCell Km _).setCell Km _).setCell Km _).setCell Km _;have wC:Below w.heap.size w2 ((((w2.setCell ⟨w.heap.size,0,none⟩ (.bool lf2)).setCell ⟨w.heap.size,1,none⟩ (.slice iA iB iC)).setCell ⟨w.heap.size,2,none⟩ (.slice iD iE iF)).setCell ⟨w.heap.size,3,none⟩ (.slice ie iG ig)):=((((Below.refl w.heap.size w2).setCell Km _).setCell Km _).setCell Km _).setCell Km _;refine⟨aW,?_,kD ((hb.block _ (lt_of_block h.var)).trans h.var),hm,hn.below wC⟩;iterate 4 rw[Below.heap_setCell _ _ _ _ (by show w.heap.size+1≠w.heap.size;omega)]
 exact(hb.block _ (lt_of_block h.res)).trans h.res
set_option maxHeartbeats 4000000 in
theorem zU9 (d:Nat)(w:World)(v:Value)(n:NT)(A:Option Addr)(p:List Int)(lp c:Nat)(aV:p.length=lp)(hl:lp<=10000000)(hn:zV d w w.heap.size v n)(hp:IL w w.heap.size A p):
  Calls Tryz.prog 30 #[v,.slice A lp c] w (zP2 (zGm n p) w):=by
 obtain⟨lf,PA,np,pc,TA,nt,tc,KA,nk,kc,rfl⟩:=hn.val;have ke:=hd (zRv (p:=p) hn);have HP:=hd hp;have fe:=hd aV;clear hn hp aV;go_enter Tryz.func30,Tryz.ntmps30
 go_wp2
 go_loopw [10] (fun i wr=>∃(k:Nat)(lf:Bool)(PA:Option Addr)(np pc:Nat)(TA:Option Addr)(nt tc:Nat)(KA:Option Addr)(nk kc:Nat)(m:NT),k<=lp/\i=.int .i64 k/\Kr (zM2 w d n p k lf PA np pc TA nt tc KA nk kc m wr)) (fun i _=>lp-(intOf i).toNat)
 case atStart=>exact⟨0,_,_,_,_,_,_,_,_,_,_,n,Nat.zero_le _,rfl,ke⟩
 case round=>
  clear ke;obtain⟨k,lf,PA,np,pc,TA,nt,tc,KA,nk,kc,m,hk,rfl,HL⟩:=hrel;have hbr:=HL.o.below;have hsz:=hbr.size;obtain⟨x0,x1,x2,x3,y0,y1,y2,y3⟩:=zJ HL.o.var;obtain⟨z0,z1,z2,z3,f0,f1,f2,f3⟩:=zJ HL.o.res;have bi:=lt_of_block HL.o.res;by_cases hlt:k<lp
  ·obtain⟨b,o,rfl,hbl,hc⟩:=(HP.o.below hbr).at_ (k:=k) (by rw[fe.o];exact hlt);obtain⟨i,hi⟩:∃i,iAt p k=i:=⟨_,rfl⟩;rw[hi]at hc;have bQ:=HL.o.node;obtain⟨d',lf',ps,tx,ks,PA',pc',TA',tc',KA',kc',hd',hm',ev,hps,htx,hfit,hks⟩:=bQ.open_;simp only[Value.agg.injEq,Array.mk.injEq,List.cons.injEq,Value.bool.injEq,Value.slice.injEq,and_true]at ev;obtain⟨rfl,⟨rfl,rfl,rfl⟩,⟨rfl,rfl,rfl⟩,rfl,rfl,rfl⟩:=ev;have cM:=hfit.2.2.2.1;cases hb:zOf m i
   ·have HE:=hd (zB2 (zRy (by rw[fe.o];exact hlt) HL.o.at_ (by rw[hi];exact zJx hb)));have HC:=hd (zD6 m i false hb d wr _ ((bQ.more hsz)));have aH:=hd hbr;have bJ:=hd HL.o.res;have iZ:m.ks.length=ks.length:=by rw[hm'];rfl
    have hno:i<0∨0<=i/\(ks.length:Int)<=i:=by
     rcases(show i<0∨0<=i by omega)with h|h
     ·exact .inl h
     ·refine .inr ⟨h,?_⟩;rcases(show(ks.length:Int)<=i∨i<ks.length by omega)with h2|h2
      ·exact h2
      ·rw[zEx.2 ⟨h,by rw[iZ];exact h2⟩]at hb;cases hb
    clear bQ hps htx hfit hks hb hi hm' hd' hbr iZ;rcases hno with g1|⟨g1,g2⟩;all_goals
     go_wp2_with(first|(go_at_call 74;refine HC.o.mono ?_;rintro e w2 ⟨rfl,b2⟩;have dU:=hd (kI bJ.o b2);have hl2:=b2.size;obtain⟨r0,r1,r2,r3,r4,r5,r6,r7⟩:=zJ dU.o))
     have h7:=kD (a:=.bool false) (b:=.slice none 0 0) (c:=.slice none 0 0) (d:=.slice none 0 0) (by first|exact dU.o|exact bJ.o)
     obtain⟨t0,t1,t2,t3,_,_,_,_⟩:=zJ h7
     refine bodyPost_ret (v:=.tuple #[.agg #[.bool false,.slice none 0 0,.slice none 0 0,.slice none 0 0],.int .i64 5]) (by simp[results,Tryz.results30,go_sem,t0,t1,t2,t3]) rfl (zJv HE.o (zBs _ 0 _) ?_)
     exact((((show Below w.heap.size w _ from(by first|exact aH.o.trans (b2.mono aH.o.size)|exact aH.o)).setCell (by show _<=w.heap.size+1;omega) _).setCell (by show _<=w.heap.size+1;omega) _).setCell (by show _<=w.heap.size+1;omega) _).setCell (by show _<=w.heap.size+1;omega) _
   ·have HK:=hd (zEx.1 hb);obtain⟨j,hj⟩:∃j:Nat,i=(j:Int):=⟨i.toNat,by have:=HK.o;omega⟩;subst hj;have mh:j<ks.length:=by have:=HK.o;rw[hm']at this;simp only[NT.ks]at this;omega
    have HC:=hd (zD6 m (j:Int) true hb d wr _ ((bQ.more hsz)));have bK:=hd hks;have HI:=hd hi;have HM:=hd hm';have HD:=hd hd';have aH:=hd hbr;clear bQ hps htx hfit hks hb hi hm' hd' z0 z1 z2 z3 f0 f1 f2 f3 hbr;have oP:=hd HL.o.var;obtain⟨m2,b',o',lf2,iA,iB,iC,iD,iE,iF,ie,iG,ig,hm2,rfl,oQ,dJ,c0,c1,c2,c3⟩:=bK.o.at_ mh;have hg:=hd (show kB n (p.take (k+1))=some m2 by rw[zFv (by rw[fe.o];exact hlt) HL.o.at_,HI.o];unfold zBh;rw[if_pos Kb,HM.o];exact hm2);have jz:=hd (dJ.deep (d':=d) (by have:=HD.o;omega));have uj:=hd hm2;clear dJ hm2;go_wp2_with(first|(go_at_call 74;refine HC.o.mono ?_;rintro e w2 ⟨rfl,b2⟩;have hl2:=b2.size;obtain⟨u0,u1,u2,u3,u4,u5,u6,u7⟩:=zJ (kI oP.o b2);have e0:=(b2.cell (kQ c0)).trans c0;have e1:=(b2.cell (kQ c1)).trans c1;have e2:=(b2.cell (kQ c2)).trans c2;have e3:=(b2.cell (kQ c3)).trans c3;clear c0 c1 c2 c3 x0 x1 x2 x3 y0 y1 y2 y3))
    go_roundw
    case rel=>exact⟨k+1,_,_,_,_,_,_,_,_,_,_,m2,by omega,by go_num,hd (zU8 HL.o (by first|exact b2|exact Below.refl _ _) hg.o (by first|exact jz.o.below (b2.mono hsz)|exact jz.o))⟩
    case measure=>simp[intOf];omega
  ·have HE:=hd (kP (n:=n) (m:=m) (p:=p) (by have:=HL.o.at_;rwa[List.take_of_length_le (by rw[fe.o];omega)]at this));have bJ:=hd HL.o.res;have aH:=hd hbr;have HN:=hd (HL.o.node.more hsz);clear z0 z1 z2 z3 f0 f1 f2 f3 hbr;go_wp2_with(first|(go_at_call 75;refine Calls.mono (zEy _ _ _ _ HN.o) ?_;intro e w4 h4;obtain⟨v4,rfl,bV,hb4⟩:=h4;obtain⟨lf4,aO,aZ,aK,aP,ba,aL,aX,bb,aY,rfl⟩:=(bV.at_ (B:=w4.heap.size) (fun b hb=>hb.2)).val;have d7:=hd (kI bJ.o hb4);obtain⟨r0,r1,r2,r3,r4,r5,r6,r7⟩:=zJ d7.o;have fu:=hd bV;have aJ:=hd hb4;have hl4:=hb4.size;clear bV hb4))
   have h7:=kD (a:=.bool lf4) (b:=.slice aO aZ aK) (c:=.slice aP ba aL) (d:=.slice aX bb aY) d7.o;obtain⟨t0,t1,t2,t3,_,_,_,_⟩:=zJ h7;have kf:Below w.heap.size w w4:=aH.o.trans (aJ.o.mono aH.o.size);refine bodyPost_ret (v:=.tuple #[.agg #[.bool lf4,.slice aO aZ aK,.slice aP ba aL,.slice aX bb aY],.int .i64 0]) (by simp[results,Tryz.results30,go_sem,t0,t1,t2,t3]) rfl (zJv (d:=d) HE.o (fu.o.keep (fun b hb=>by simp;omega) (fun p hp=>?_)) ?_)
   ·have hne:p.block≠w.heap.size+1:=Kb;constructor
    ·iterate 4 rw[World.cell?_setCell_other _ _ _ _ (by intro e;exact hne (by rw[<-e]))]
    ·iterate 4 rw[World.frozen?_of_block (Below.heap_setCell _ _ _ _ (by simpa using hne))]
   ·exact(((kf.setCell (by show _<=w.heap.size+1;omega) _).setCell (by show _<=w.heap.size+1;omega) _).setCell (by show _<=w.heap.size+1;omega) _).setCell (by show _<=w.heap.size+1;omega) _
