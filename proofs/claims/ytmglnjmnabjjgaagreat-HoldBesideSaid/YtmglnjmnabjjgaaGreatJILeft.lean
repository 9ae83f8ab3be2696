import Derived.Test.YtmglnjmnabjjgaaGreatJTBuild
set_option maxRecDepth 100000
set_option maxHeartbeats 8000000
namespace Go.Proofs.YtmglnjmnabjjgaaGreat
open Go.RowKit
variable {w w':World}{b d kc nk np nt pc tc:Nat}{v:Value}{r:NT×Int}{n:NT}{p:List Int}{KA TA:Option Addr}
theorem zTs (l m:List Int)(K:Nat)(hK:K=kO l m)(h:K+1≠l.length∨¬K<m.length∨¬iAt l K<iAt m K):zFg l m=false:=by
 subst hK;cases h2:zFg l m
 ·rfl
 ·rw[zEe]at h2;omega
theorem kOw {P:Prop}(h:P:=by
 go_enter Tryz.func115,Tryz.ntmps115
 go_wp2_with(go_at_call 51;refine HC.o.mono ?_;rintro e w' ⟨rfl,kd,rfl⟩)
 go_quiet(fail)
 go_wp2
 go_ret
 exact kW (zA3 (by rw[HF.o])) Ki):P:=h
theorem kAs (A B:Option Addr)(l m:List Int)(c d:Nat)(w:World)(hl:l.length<=9223372036854775807)(hm:m.length<=9223372036854775807)(hp:IL w w.heap.size A l)(hq:IL w w.heap.size B m):
  Calls Tryz.prog 115 #[.slice A l.length c,.slice B m.length d] w (zHa (.bool (zFg l m)) w):=by
 have HC:=hd (zH5 A B l m c d w hl hm hp hq);have hN:=zHf l m;obtain⟨K,hK⟩:∃K,K=kO l m:=⟨_,rfl⟩;rw[<-hK]at HC hN;have HK:=hd hK;clear hK;have ws:IntKind.i64.wrap ((l.length:Int)-1)=(l.length:Int)-1:=IntWalk.i64_in _ Kb;by_cases h1:K+1=l.length
 ·have hx:((K:Int)==(l.length:Int)-1)=true:=by simp;omega
  by_cases h2:K<m.length
  ·obtain⟨b1,o1,rfl,bh,c1⟩:=hp.at_ (show K<l.length by omega);obtain⟨b2,o2,rfl,hl2,c2⟩:=hq.at_ h2;have h0:K<l.length:=Kb;by_cases h3:iAt l K<iAt m K
   ·have HF:=hd ((zEe l m).2 (by rw[<-HK.o];exact⟨h1,h2,h3⟩));clear hp hq hN h1;exact kOw
   ·have HF:=hd (zTs l m K HK.o (.inr (.inr h3)));have h3':decide (iAt l K<iAt m K)=false:=decide_eq_false h3;clear hp hq hN h1 h3;exact kOw
  ·have HF:=hd (zTs l m K HK.o (.inr (.inl h2)));have h2':decide (K<m.length)=false:=decide_eq_false h2;clear hp hq hN h1 h2;exact kOw
 ·have HF:=hd (zTs l m K HK.o (.inl h1));have hx:((K:Int)==(l.length:Int)-1)=false:=by simp;omega
  clear hp hq hN h1;exact kOw
open Go.WideShapes (add_plain)
theorem zJz {b' e e' s s' n n':Nat}{u:Value}{xs ys:List Value}(h:w.ownsRow b e s v n xs)(h':w.ownsRow b' e' s' u n' ys)(hne:e≠e'):u.ownBlock=none∨u.ownBlock≠v.ownBlock:=by
 rcases h'.2 with⟨rfl,_⟩|⟨g',cap',cur',rfl,_,hg',_⟩
 ·exact .inl rfl
 ·rcases h.2 with⟨rfl,_⟩|⟨g,cap,cur,rfl,_,hg,_⟩
  ·exact .inr (by simp[Value.ownBlock])
  ·refine .inr fun hh=>?_;simp only[Value.ownBlock,Option.some.injEq]at hh;rw[hh,hg]at hg';injection hg' with hg';injection hg' with _ h2;exact hne h2
theorem zBt.open_at {l:List Int}(h:zBt w b v l)(n:Nat)(hn:l.length=n):∃(A:Option Addr)(c:Nat),v=.slice A n c/\n<=c/\IL w w.heap.size A l:=by
 subst hn;obtain⟨A,c,h1,h2,_,h3⟩:=h.open_;exact⟨A,c,h1,h2,h3⟩
theorem zD6 (n:NT)(i:Int)(r:Bool)(hr:zOf n i=r)(d:Nat)(w:World)(v:Value)(hn:zV d w w.heap.size v n):
  Calls Tryz.prog 40 #[v,.int .i64 i] w (jA (.bool r) w):=by
 obtain⟨d',lf,ps,tx,ks,PA,pc,TA,tc,KA,kc,hd',rfl,rfl,hp,ht,hf,hks⟩:=hn.open_;have bB:=hf.2.2.2.1;have HB:=hd (show Below w.heap.size w (w.alloc (.cells #[.bool lf,.slice PA ps.length pc,.slice TA tx.length tc,.slice KA ks.length kc] 26))from Kl.alloc Km _);have hr':(decide (0<=i)&&decide (i<ks.length))=r:=hr;clear hn hp ht hf hks hd' hr;by_cases h1:0<=i
 ·by_cases h2:i<ks.length
  ·have HF:=hd (show r=true by rw[<-hr'];simp[h1,h2]);clear hr';go_enter Tryz.func40,Tryz.ntmps40
   go_wp2
   go_ret
   exact⟨kC HF.o.symm,HB.o⟩
  ·have HF:=hd (show r=false by rw[<-hr'];simp[h2]);have h3:decide (i<(ks.length:Int))=false:=decide_eq_false h2;clear hr';go_enter Tryz.func40,Tryz.ntmps40
   go_wp2
   go_ret
   exact⟨kC HF.o.symm,HB.o⟩
 ·have HF:=hd (show r=false by rw[<-hr'];simp[h1]);have h3:decide (0<=i)=false:=decide_eq_false h1;clear hr';go_enter Tryz.func40,Tryz.ntmps40
  go_wp2
  go_ret
  exact⟨kC HF.o.symm,HB.o⟩
def zP2 (r:NT×Int)(w:World)(e:Ending)(w':World):Prop:=
 ∃v d,e=.returned (.tuple #[v,.int .i64 r.2])/\zAx (fun b=>w.heap.size<=b/\b<w'.heap.size) d w' v r.1/\Below w.heap.size w w'
theorem zJv {e:Int}(h:r=(n,e))(ht:zAx (fun b=>w.heap.size<=b/\b<w'.heap.size) d w' v n)(hb:Below w.heap.size w w'):zP2 r w (.returned (.tuple #[v,.int .i64 e])) w':=by
 subst h;exact⟨v,d,rfl,ht,hb⟩
structure zM2 (w:World)(d:Nat)(n:NT)(p:List Int)(k:Nat)(lf:Bool)(PA:Option Addr)(np pc:Nat)(TA:Option Addr)(nt tc:Nat)(KA:Option Addr)(nk kc:Nat)(m:NT)(wr:World):Prop where
 below:Below w.heap.size w wr
 res:wr.heap[w.heap.size+1]? =some (.cells #[.bool false,.slice none 0 0,.slice none 0 0,.slice none 0 0] 26 (0,0))
 var:wr.heap[w.heap.size]? =some (.cells #[.bool lf,.slice PA np pc,.slice TA nt tc,.slice KA nk kc] 26 (0,0))
 at_:kB n (p.take k)=some m
 node:zV d wr w.heap.size (.agg #[.bool lf,.slice PA np pc,.slice TA nt tc,.slice KA nk kc]) m
theorem zBj (w:World)(a b c d:Value)(t:TypeId)(a' b' c' d':Value)(t':TypeId):
  ((w.alloc (.cells #[a,b,c,d] t)).alloc (.cells #[a',b',c',d'] t')).heap[w.heap.size]? =some (.cells #[a,b,c,d] t (0,0))/\((w.alloc (.cells #[a,b,c,d] t)).alloc (.cells #[a',b',c',d'] t')).heap[w.heap.size+1]? =some (.cells #[a',b',c',d'] t' (0,0)):=by
 refine⟨?_,?_⟩
 ·rw[Below.heap_alloc _ _ _ Kc];exact heap_alloc_new _ _
 ·rw[<-sz1 (w:=w) (A:=.cells #[a,b,c,d] t)];exact heap_alloc_new _ _
theorem zRv {lf:Bool}{PA:Option Addr}(hn:zV d w w.heap.size (.agg #[.bool lf,.slice PA np pc,.slice TA nt tc,.slice KA nk kc]) n):
  zM2 w d n p 0 lf PA np pc TA nt tc KA nk kc n ((w.alloc (.cells #[.bool lf,.slice PA np pc,.slice TA nt tc,.slice KA nk kc] 26)).alloc (.cells #[.bool false,.slice none 0 0,.slice none 0 0,.slice none 0 0] 26)):=by
 have hb:=kM (w:=w) (w':=w) (o:=(.cells #[.bool lf,.slice PA np pc,.slice TA nt tc,.slice KA nk kc] 26)) (o':=(.cells #[.bool false,.slice none 0 0,.slice none 0 0,.slice none 0 0] 26)) Kl (Nat.le_refl w.heap.size);obtain⟨h1,h2⟩:=zBj w (.bool lf) (.slice PA np pc) (.slice TA nt tc) (.slice KA nk kc) 26 (.bool false) (.slice none 0 0) (.slice none 0 0) (.slice none 0 0) 26;exact⟨hb,h2,h1,rfl,hn.below hb⟩
theorem zU8 {wr w2:World}{m m2:NT}{k:Nat}{lf:Bool}{PA:Option Addr}{lf2:Bool}{iz:Option Addr}{i5 i6:Nat}{i7:Option Addr}{i9 iA:Nat}{iB:Option Addr}{iC kc2:Nat}
  (h:zM2 w d n p k lf PA np pc TA nt tc KA nk kc m wr) (hb:Below wr.heap.size wr w2) (hm:kB n (p.take (k+1))=some m2) (hn:zV d w2 w.heap.size (.agg #[.bool lf2,.slice iz i5 i6,.slice i7 i9 iA,.slice iB iC kc2]) m2):
  zM2 w d n p (k+1) lf2 iz i5 i6 i7 i9 iA iB iC kc2 m2 ((((w2.setCell ⟨w.heap.size,0,none⟩ (.bool lf2)).setCell ⟨w.heap.size,1,none⟩ (.slice iz i5 i6)).setCell ⟨w.heap.size,2,none⟩ (.slice i7 i9 iA)).setCell ⟨w.heap.size,3,none⟩ (.slice iB iC kc2)):=by
 have hs:=h.below.size;have hb2:Below w.heap.size w w2:=h.below.trans (hb.mono hs);have aP:Below w.heap.size w ((((w2.setCell ⟨w.heap.size,0,none⟩ (.bool lf2)).setCell ⟨w.heap.size,1,none⟩ (.slice iz i5 i6)).setCell ⟨w.heap.size,2,none⟩ (.slice i7 i9 iA)).setCell ⟨w.heap.size,3,none⟩ (.slice iB iC kc2)):=(((hb2.setCell Km _).setCell Km _).setCell Km _).setCell Km _;have uT:Below w.heap.size w2 ((((w2.setCell ⟨w.heap.size,0,none⟩ (.bool lf2)).setCell ⟨w.heap.size,1,none⟩ (.slice iz i5 i6)).setCell ⟨w.heap.size,2,none⟩ (.slice i7 i9 iA)).setCell ⟨w.heap.size,3,none⟩ (.slice iB iC kc2)):=((((Below.refl w.heap.size w2).setCell Km _).setCell Km _).setCell Km _).setCell Km _;refine⟨aP,?_,kD ((hb.block _ (lt_of_block h.var)).trans h.var),hm,hn.below uT⟩;iterate 4 rw[Below.heap_setCell _ _ _ _ (by show w.heap.size+1≠w.heap.size;omega)]
 exact(hb.block _ (lt_of_block h.res)).trans h.res
def zV2 (r:NT×Int)(w:World)(e:Ending)(w':World):Prop:=
 ∃v d,e=.returned (.tuple #[v,.int .i64 r.2])/\zTz w.heap.size d w' v r.1/\Below w.heap.size w w'
theorem zQz {e:Int}(h:r=(n,e))(ht:zTz w.heap.size d w' v n)(hb:Below w.heap.size w w'):zV2 r w (.returned (.tuple #[v,.int .i64 e])) w':=by
 subst h;exact⟨v,d,rfl,ht,hb⟩
theorem zYy (base d:Nat)(w:World):zTz base d w (.agg #[.bool false,.slice none 0 0,.slice none 0 0,.slice none 0 0]) zeroT:=
 ⟨none,0,none,0,none,0,[],rfl,World.ownsRow_nil _ _ _ _,World.ownsRow_nil _ _ _ _,World.ownsRow_nil _ _ _ _,zPl,rfl,fun j m h=>by simp[zeroT,NT.ks]at h⟩
theorem zYz (d:Nat)(w:World)(v:Value)(n:NT)(A:Option Addr)(p:List Int)(lp c:Nat)(bf:p.length=lp)(hl:lp<=10000000)(hn:zV d w w.heap.size v n)(hp:IL w w.heap.size A p):
  Calls Tryz.prog 15 #[v,.slice A lp c] w (zV2 (zGm n p) w):=by
 obtain⟨lf,PA,np,pc,TA,nt,tc,KA,nk,kc,rfl⟩:=hn.val;have qN:=hd (zRv (p:=p) hn);have HP:=hd hp;have iM:=hd bf;clear hn hp bf;go_enter Tryz.func15,Tryz.ntmps15
 go_wp2
 go_loopw [10] (fun i wr=>∃(k:Nat)(lf:Bool)(PA:Option Addr)(np pc:Nat)(TA:Option Addr)(nt tc:Nat)(KA:Option Addr)(nk kc:Nat)(m:NT),k<=lp/\i=.int .i64 k/\Kr (zM2 w d n p k lf PA np pc TA nt tc KA nk kc m wr)) (fun i _=>lp-(intOf i).toNat)
 case atStart=>exact⟨0,_,_,_,_,_,_,_,_,_,_,n,Nat.zero_le _,rfl,qN⟩
 case round=>
  clear qN;obtain⟨k,lf,PA,np,pc,TA,nt,tc,KA,nk,kc,m,hk,rfl,HL⟩:=hrel;have hbr:=HL.o.below;have hsz:=hbr.size;obtain⟨x0,x1,x2,x3,y0,y1,y2,y3⟩:=zJ HL.o.var;obtain⟨z0,z1,z2,z3,f0,f1,f2,f3⟩:=zJ HL.o.res;have bh:=lt_of_block HL.o.res;by_cases hlt:k<lp
  ·obtain⟨b,o,rfl,hbl,hc⟩:=(HP.o.below hbr).at_ (k:=k) (by rw[iM.o];exact hlt);obtain⟨i,hi⟩:∃i,iAt p k=i:=⟨_,rfl⟩;rw[hi]at hc;have fC:=HL.o.node;obtain⟨d',lf',ps,tx,ks,PA',pc',TA',tc',KA',kc',hd',hm',ev,hps,htx,hfit,hks⟩:=fC.open_;simp only[Value.agg.injEq,Array.mk.injEq,List.cons.injEq,Value.bool.injEq,Value.slice.injEq,and_true]at ev;obtain⟨rfl,⟨rfl,rfl,rfl⟩,⟨rfl,rfl,rfl⟩,rfl,rfl,rfl⟩:=ev;have bB:=hfit.2.2.2.1;cases hb:zOf m i
   ·have HE:=hd (zB2 (zRy (by rw[iM.o];exact hlt) HL.o.at_ (by rw[hi];exact zJx hb)));have HC:=hd (zD6 m i false hb d wr _ ((fC.more hsz)));have bQ:=hd hbr;have cH:=hd HL.o.res;have lG:m.ks.length=ks.length:=by rw[hm'];rfl
    have hno:i<0∨0<=i/\(ks.length:Int)<=i:=by
     rcases(show i<0∨0<=i by omega)with h|h
     ·exact .inl h
     ·refine .inr ⟨h,?_⟩;rcases(show(ks.length:Int)<=i∨i<ks.length by omega)with h2|h2
      ·exact h2
      ·rw[zEx.2 ⟨h,by rw[lG];exact h2⟩]at hb;cases hb
    clear fC hps htx hfit hks hb hi hm' hd' hbr lG;rcases hno with g1|⟨g1,g2⟩;all_goals
     go_wp2_with(first|(go_at_call 40;refine HC.o.mono ?_;rintro e w2 ⟨rfl,b2⟩;have eH:=hd (kI cH.o b2);have hl2:=b2.size;obtain⟨r0,r1,r2,r3,r4,r5,r6,r7⟩:=zJ eH.o))
     have h7:=kD (a:=.bool false) (b:=.slice none 0 0) (c:=.slice none 0 0) (d:=.slice none 0 0) (by first|exact eH.o|exact cH.o)
     obtain⟨t0,t1,t2,t3,_,_,_,_⟩:=zJ h7
     refine bodyPost_ret (v:=.tuple #[.agg #[.bool false,.slice none 0 0,.slice none 0 0,.slice none 0 0],.int .i64 5]) (by simp[results,Tryz.results15,go_sem,t0,t1,t2,t3]) rfl (zQz HE.o (zYy _ 0 _) ?_)
     exact((((show Below w.heap.size w _ from(by first|exact bQ.o.trans (b2.mono bQ.o.size)|exact bQ.o)).setCell (by show _<=w.heap.size+1;omega) _).setCell (by show _<=w.heap.size+1;omega) _).setCell (by show _<=w.heap.size+1;omega) _).setCell (by show _<=w.heap.size+1;omega) _
   ·have HK:=hd (zEx.1 hb);obtain⟨j,hj⟩:∃j:Nat,i=(j:Int):=⟨i.toNat,by have:=HK.o;omega⟩;subst hj;have nU:j<ks.length:=by have:=HK.o;rw[hm']at this;simp only[NT.ks]at this;omega
    have HC:=hd (zD6 m (j:Int) true hb d wr _ ((fC.more hsz)));have bR:=hd hks;have HI:=hd hi;have HM:=hd hm';have HD:=hd hd';have bQ:=hd hbr;clear fC hps htx hfit hks hb hi hm' hd' z0 z1 z2 z3 f0 f1 f2 f3 hbr;have uU:=hd HL.o.var;obtain⟨m2,b',o',lf2,iz,i5,i6,i7,i9,iA,iB,iC,kc2,hm2,rfl,qO,fD,c0,c1,c2,c3⟩:=bR.o.at_ nU;have hg:=hd (show kB n (p.take (k+1))=some m2 by rw[zFv (by rw[iM.o];exact hlt) HL.o.at_,HI.o];unfold zBh;rw[if_pos Kb,HM.o];exact hm2);have mJ:=hd (fD.deep (d':=d) (by have:=HD.o;omega));have nV:=hd hm2;clear fD hm2;go_wp2_with(first|(go_at_call 40;refine HC.o.mono ?_;rintro e w2 ⟨rfl,b2⟩;have hl2:=b2.size;obtain⟨u0,u1,u2,u3,u4,u5,u6,u7⟩:=zJ (kI uU.o b2);have e0:=(b2.cell (kQ c0)).trans c0;have e1:=(b2.cell (kQ c1)).trans c1;have e2:=(b2.cell (kQ c2)).trans c2;have e3:=(b2.cell (kQ c3)).trans c3;clear c0 c1 c2 c3 x0 x1 x2 x3 y0 y1 y2 y3))
    go_roundw
    case rel=>exact⟨k+1,_,_,_,_,_,_,_,_,_,_,m2,by omega,by go_num,hd (zU8 HL.o (by first|exact b2|exact Below.refl _ _) hg.o (by first|exact mJ.o.below (b2.mono hsz)|exact mJ.o))⟩
    case measure=>simp[intOf];omega
  ·have HE:=hd (kP (n:=n) (m:=m) (p:=p) (by have:=HL.o.at_;rwa[List.take_of_length_le (by rw[iM.o];omega)]at this));have cH:=hd HL.o.res;have bQ:=hd hbr;have HN:=hd (HL.o.node.more hsz);clear z0 z1 z2 z3 f0 f1 f2 f3 hbr;go_wp2_with(first|(go_at_call 41;refine Calls.mono (zYx _ _ _ _ HN.o) ?_;intro e w4 h4;obtain⟨v4,rfl,dD,hb4⟩:=h4;obtain⟨lf4,aW,br,aQ,aX,bv,aR,bl,bw,bn,rfl⟩:=dD.val;have eF:=hd (kI cH.o hb4);obtain⟨r0,r1,r2,r3,r4,r5,r6,r7⟩:=zJ eF.o;have iT:=hd dD;have aO:=hd hb4;have hl4:=hb4.size;clear dD hb4))
   have h7:=kD (a:=.bool lf4) (b:=.slice aW br aQ) (c:=.slice aX bv aR) (d:=.slice bl bw bn) eF.o;obtain⟨t0,t1,t2,t3,_,_,_,_⟩:=zJ h7;have uV:Below w.heap.size w w4:=bQ.o.trans (aO.o.mono bQ.o.size);refine bodyPost_ret (v:=.tuple #[.agg #[.bool lf4,.slice aW br aQ,.slice aX bv aR,.slice bl bw bn],.int .i64 0]) (by simp[results,Tryz.results15,go_sem,t0,t1,t2,t3]) rfl (zQz HE.o ((iT.o.keep Kc (fun b h1 _=>?_)).base Kb) ?_)
   ·have hne:b≠w.heap.size+1:=Kb;iterate 4 rw[Below.heap_setCell _ _ _ _ (by simpa using hne)]
   ·exact(((uV.setCell (by show _<=w.heap.size+1;omega) _).setCell (by show _<=w.heap.size+1;omega) _).setCell (by show _<=w.heap.size+1;omega) _).setCell (by show _<=w.heap.size+1;omega) _
theorem zEy (d:Nat)(w:World)(v:Value)(n:NT)(hn:zV d w w.heap.size v n):Calls Tryz.prog 41 #[v] w (zVf d n w):=by
 cases d with
 |zero=>exact hn.elim
 |succ d=>exact(zYx _ _ _ _ hn).mono fun _ _ h=>h.copied
theorem zU9 (d:Nat)(w:World)(v:Value)(n:NT)(A:Option Addr)(p:List Int)(lp c:Nat)(bf:p.length=lp)(hl:lp<=10000000)(hn:zV d w w.heap.size v n)(hp:IL w w.heap.size A p):
  Calls Tryz.prog 15 #[v,.slice A lp c] w (zP2 (zGm n p) w):=
 (zYz d w v n A p lp c bf hl hn hp).mono fun _ _⟨v,d,h1,h2,h3⟩=>⟨v,d+1,h1,h2.tree,h3⟩
theorem zRw (A:Option Addr)(n c k:Nat)(hk:k<=c):∀W:World,(Instr.slice 24 (.slice A n c) none (some (.int .i64 (k:Int))) none).run Tryz.prog W=.ok (.slice A k c) W:=fun W=>by
 have he:Tryz.prog.elem 24=26:=Ka;have hs:∀W,(sizeOf 26).run Tryz.prog W=.ok 4 W:=fun _=>by kernel_rfl
 rw[run_slice_h W 24 A n c (by rw[he];exact Tryz.underlying24) .i64 _ Kb Kb,he,hs];have e:(A.map fun x=>x.add 0)=A:=by
  cases A
  ·rfl
  ·simp[Addr.add]
 simp[Result.andThen,sliced,e]
theorem zKn.drop {B:Nat}{A:Option Addr}{ks:List NT}(h:zKn d w B A ks)(k c:Nat)(hc:ks.length<=c):zKn d w B (if c=k then A else A.map (·.add (k*4))) (ks.drop k):=fun j m hm=>by
 rw[List.getElem?_drop]at hm;have hl:=(List.getElem?_eq_some_iff.1 hm).1;obtain⟨b,o,u,rfl,hb,hn,c0,c1,c2,c3,e,h0,h1,h2,h3⟩:=h _ m hm;rw[if_neg Kb];have e1:o+k*4+j*4=o+(k+j)*4:=Kb;exact⟨b,o+k*4,u,by simp[add_plain],hb,hn,c0,c1,c2,c3,e,by rw[e1];exact h0,by rw[e1];exact h1,by rw[e1];exact h2,by rw[e1];exact h3⟩
theorem zVa (A:Option Addr)(n c k:Nat)(hk:k<=n)(hc:n<=c):∃D:Option Addr,(∀(d:Nat)(w:World)(B:Nat)(ks:List NT),zKn d w B A ks->ks.length=n->zKn d w B D (ks.drop k))/\
  (∀W:World,(Instr.slice 24 (.slice A n c) (some (.int .i64 (k:Int))) none none).run Tryz.prog W=.ok (.slice D (n-k) (c-k)) W):=by
 refine⟨if c=k then A else A.map (·.add (k*4)),fun d w B ks h hx=>h.drop k c Kb,fun W=>?_⟩;have he:Tryz.prog.elem 24=26:=Ka;have hs:∀W,(sizeOf 26).run Tryz.prog W=.ok 4 W:=fun _=>by kernel_rfl
 rw[run_slice_l W 24 A n c (by rw[he];exact Tryz.underlying24) .i64 _ Kb Kb,he,hs];simp[Result.andThen,sliced]
theorem zK7 {ts te:TypeId}{size by_:Nat}(E:zQ7 ts te size by_)(W:World){ops:Array Oper}{rest:List Oper}{o:Oper}{a:Act}{Q:Exit->Act->World->Prop}(hgd:o.guard=none)(s x:Operand)
  (ho:o.op=.call {callee:=.builtin .append,args:=#[s,x],argTypes:=#[ts,ts]})
  (b:Nat) (v:Value) (n:Nat) (k:List Value) (hs:a.eval s=v) (hO:W.ownsRow b te size v n k) (A:Option Addr) (m c B:Nat) (l:List Value) (hx:a.eval x=.slice A m c) (hn:l.length=m*size) (hp:VL W B A l) (h1:∀u ∈ l,u.oneCell'=true)
  (h63:n+m<=maxLen) (hby:(n+m)*by_<=140737488355328) (hb:b<=W.heap.size)
  (hK:∀A' c' w',w'.ownsRow b te size (.slice A' (n+m) c') (n+m) (k++l)->W.grownBy w' v.ownBlock->((Value.slice A' (n+m) c').ownBlock=v.ownBlock∨∃g,(Value.slice A' (n+m) c').ownBlock=some g/\W.heap.size<=g)->wpList Tryz.prog ops Q rest (a.put o.dst (.slice A' (n+m) c')) w'):
  wpList Tryz.prog ops Q (o::rest) a W:=by
 obtain⟨i0,z,hi,hz0,hz1,hz2,hz3⟩:=E.info;have hsz:=E.pos;rcases Nat.eq_zero_or_pos m with hm|hm
 ·subst hm;have hl:l=[]:=List.eq_nil_of_length_eq_zero (by simpa using hn);subst hl;obtain⟨A0,c0,rfl,_⟩:=zC9 hO;refine wpList_plain hgd fun K hK2=>?_;have hrun:=zEp (w:=W) (ty:=o.type) (A:=A) (c:=c) E.under hi hO;unfold Oper.wp execOp;simp only[ho,resolve,invoke,builtin,Sem.run_bind,Sem.run_pure,Result.andThen_ok,List.map_toArray,List.map_cons,List.map_nil,hs,hx,hrun];exact hK2 _ _ (hK A0 c0 W (by simpa using hO) ⟨rfl,rfl,rfl,Nat.le_refl _,fun _ _ _=>rfl⟩ (.inl (by cases A0<;>rfl)))
 ·have hl:0<l.length:=by have:=Nat.mul_pos hm hsz;omega
  obtain⟨b',o',rfl,_,hc⟩:=hp (List.length_pos_iff.1 hl);refine wpList_plain hgd fun K hK2=>?_;refine wp_append_lies W s x ts ho b te i0 z size by_ E.under hi hz0 hz1 hz2 hz3 hsz v n k hs hO ⟨b',o',none⟩ m c l hx hn (fun j u hj=>by rw[add_plain];exact hc j u hj) h1 hm h63 hby hb W.heap.size rfl (fun g cap w' h1 h2 h3 _=>hK2 _ _ (hK _ cap w' h1 h2 ?_));rcases h3 with e|e
  ·exact .inl (by rw[e];rfl)
  ·exact .inr ⟨g,rfl,by omega⟩
structure zGi (Q:Nat->Prop)(d:Nat)(w:World)(OA:Option Addr)(us:List Value)(os:List NT):Prop where
 len:us.length=os.length
 cells:VL w w.heap.size OA (us.flatMap fun u=>u.cells.toList)
 trees:∀(j:Nat)(m:NT),os[j]? =some m->∃u,us[j]? =some u/\zAx Q d w u m
theorem zGi.flat {Q:Nat->Prop}{OA:Option Addr}{us:List Value}{os:List NT}(h:zGi Q d w OA us os):(us.flatMap fun u=>u.cells.toList).length=os.length*4/\∀c ∈ us.flatMap fun u=>u.cells.toList,c.oneCell'=true:=by
 have key:∀u ∈ us,∃lf PA np pc TA nt tc KA nk kc,u=.agg #[.bool lf,.slice PA np pc,.slice TA nt tc,.slice KA nk kc]:=fun u hu=>by
  obtain⟨j,hj,rfl⟩:=List.mem_iff_getElem.1 hu;obtain⟨u',hu',ht⟩:=h.trees j _ (List.getElem?_eq_getElem (by rw[<-h.len];exact hj));rw[List.getElem?_eq_getElem hj]at hu';injection hu' with hu';rw[hu'];cases d with
  |zero=>exact ht.elim
  |succ d=>obtain⟨PA,pc,TA,tc,KA,kc,e,_⟩:=ht;exact⟨_,_,_,_,_,_,_,_,_,_,e⟩
 constructor
 ·rw[<-h.len];have:∀l:List Value,(∀u ∈ l,u.cells.toList.length=4)->(l.flatMap fun u=>u.cells.toList).length=l.length*4:=by
   intro l;induction l with
   |nil=>intro _;rfl
   |cons x r ih=>intro hx;rw[List.flatMap_cons,List.length_append,hx x (List.mem_cons_self ..),ih (fun u hu=>hx u (List.mem_cons_of_mem _ hu)),List.length_cons];omega
  exact this us fun u hu=>by obtain⟨_,_,_,_,_,_,_,_,_,_,rfl⟩:=key u hu;rfl
 ·intro c hc;obtain⟨u,hu,qP⟩:=List.mem_flatMap.1 hc;obtain⟨_,_,_,_,_,_,_,_,_,_,rfl⟩:=key u hu;simp[Value.cells]at qP;rcases qP with rfl|rfl|rfl|rfl<;>rfl
theorem zGi.nil (Q:Nat->Prop)(d:Nat)(w:World)(OA:Option Addr):zGi Q d w OA [] []:=⟨rfl,VL.nil _ _ _,fun j m h=>by simp at h⟩
def kHu (Q:Nat->Prop)(d:Nat)(n:NT)(w:World)(e:Ending)(w':World):Prop:=
 ∃v,e=.returned v/\zAx (fun b=>(Q b∨w.heap.size<=b)/\b<w'.heap.size) d w' v n/\Below w.heap.size w w'
theorem zW0 {P:Nat->Prop}{w4:World}{base cap:Nat}{lf:Bool}{ps:List Pr}{tx:List Int}{PA:Option Addr}{cs:Array Value}(hbase:base<=w4.heap.size)(hup:∀b,base<=b->P b)
  (hp:VP (fun b=>P b/\b<w4.heap.size) w4 PA (pv ps)) (ht:VP (fun b=>P b/\b<w4.heap.size) w4 TA (rv tx)) (hcs:cs.size=cap*4) (hcap:cap<=maxLen):
  zNk P w4 base d lf ps tx w4.heap.size PA pc TA tc (.slice (some ⟨w4.heap.size+1,0,none⟩) 0 cap) 0 [] [] ((w4.alloc (.cells #[.bool lf,.slice PA ps.length pc,.slice TA tx.length tc,.slice (some ⟨w4.heap.size+1,0,none⟩) 0 cap] 26)).alloc (.cells cs 26)):=by
 obtain⟨w5,dx⟩:∃w5,w5=w4.alloc (.cells #[.bool lf,.slice PA ps.length pc,.slice TA tx.length tc,.slice (some ⟨w4.heap.size+1,0,none⟩) 0 cap] 26):=⟨_,rfl⟩;have e5:w5.heap.size=w4.heap.size+1:=by rw[dx];simp
 obtain⟨w6,qQ⟩:∃w6,w6=w5.alloc (.cells cs 26):=⟨_,rfl⟩;have e6:w6.heap.size=w4.heap.size+2:=by rw[qQ];simp;omega
 have b5:Below w4.heap.size w4 w5:=dx▸Kl.alloc Km _;have b6:Below w4.heap.size w4 w6:=qQ▸b5.alloc Kb _;have hrow:w6.ownsRow base 26 4 (.slice (some ⟨w4.heap.size+1,0,none⟩) 0 cap) 0 []:=by
  have:=World.ownsRow_made (base:=base) (e:=26) (size:=4) w5 cs cap Kb hcap hcs;rw[e5,<-qQ]at this;exact this
 have h5:w6.heap[w4.heap.size]? =some (.cells #[.bool lf,.slice PA ps.length pc,.slice TA tx.length tc,.slice (some ⟨w4.heap.size+1,0,none⟩) 0 cap] 26 (0,0)):=by
  rw[qQ,Below.heap_alloc _ _ _ Kb,dx];exact heap_alloc_new _ _
 rw[<-dx,<-qQ];refine⟨b6.mono hbase,hbase,hbase,hup,h5,hrow,rfl,rfl,by simp[Value.ownBlock],?_,?_,fun j m hm=>by simp at hm⟩
 ·exact hp.keep (fun b hb=>⟨hb.1,by omega,by omega,by simp[Value.ownBlock];omega⟩) (fun p hp=>⟨b6.cell hp.2,b6.frozen hp.2⟩)
 ·exact ht.keep (fun b hb=>⟨hb.1,by omega,by omega,by simp[Value.ownBlock];omega⟩) (fun p hp=>⟨b6.cell hp.2,b6.frozen hp.2⟩)
theorem zIe (Q : Nat->Prop)(d:Nat)(w:World)(hQ:∀b,Q b->b<w.heap.size)(v:Value)(n:NT)(i many no oc:Nat)(I M:Int)(hI:I=i)(hM:M=many)(OA:Option Addr)(us:List Value)(os:List NT)(hn:zV d w w.heap.size v n)(hO:zGi Q d w OA us os)(hno:os.length=no)(hi:i+many<=n.ks.length)(hlen:n.ks.length+no<=1759218604441+many):
  Calls Tryz.prog 108 #[v,.int .i64 I,.int .i64 M,.slice OA no oc] w (kHu Q (d+1) (jS n i many os) w):=by
 subst hI hM;obtain⟨d',lf,ps,tx,ks,PA,pc,TA,tc,KA,kc,hd',rfl,rfl,hp,ht,hf,hks⟩:=hn.open_;have hi':i+many<=ks.length:=hi;have hlen':ks.length+no<=1759218604441+many:=hlen;have bB:=hf.2.2.2.1;have hkc:=hf.2.2.2.2.2.2;obtain⟨D,hD,av⟩:=zVa KA ks.length kc (i+many) hi' hkc;have az:=zRw KA ks.length kc i Kb;have ay:∀W:World,(Instr.slice 24 (.slice KA ks.length kc) (some (.int .i64 ((i:Int)+(many:Int)))) none none).run Tryz.prog W=.ok (.slice D (ks.length-(i+many)) (kc-(i+many))) W:=fun W=>by
  have:=av W;rwa[Int.natCast_add]at this
 have HD:=hd (hD d' w w.heap.size ks hks rfl);have hwr:IntKind.i64.wrap ((i:Int)+(many:Int))=(i:Int)+(many:Int):=IntWalk.i64_in _ Kb;have hdd:d'<=d:=Kb;have bR:=hd (show zKn d w w.heap.size KA ks from fun k m hm=>by
  obtain⟨b,o,u,e,hb,hn,hc⟩:=hks k m hm;exact⟨b,o,u,e,hb,hn.deep hdd,hc⟩)
 have AP:=hd (show zKn d w w.heap.size D (ks.drop (i+many))from fun k m hm=>by
  obtain⟨b,o,u,e,hb,hn,hc⟩:=HD.o k m hm;exact⟨b,o,u,e,hb,hn.deep hdd,hc⟩)
 obtain⟨nb,hnb⟩:∃nb,nb=ks.length-(i+many):=⟨_,rfl⟩;rw[<-hnb]at ay;have AQ:nb+i+many=ks.length:=Kb;obtain⟨cs,hcs,hmk⟩:=zGt zWg (i+no+nb) Kb Kb;simp only[Int.natCast_add]at hmk;have nW:=hd hcs;have HP:=hd hp;have HT:=hd ht;have HF:=hd hf;have HO:=hd hO;have uW:=hd hno;have HQ:=hd hQ;have xA:=hd (show(ks.drop (i+many)).length=nb by rw[List.length_drop,hnb]);obtain⟨wb,hwb⟩:∃wb,wb=(w.alloc (.cells #[.bool lf,.slice PA ps.length pc,.slice TA tx.length tc,.slice KA ks.length kc] 26)).alloc (.cells #[.bool false,.slice none 0 0,.slice none 0 0,.slice none 0 0] 26):=⟨_,rfl⟩;have aw:=hd (show Below w.heap.size w wb from hwb▸kM Kl Km);have sN:=hd (show wb.heap.size=w.heap.size+2 by rw[hwb];simp);have dW:=hd (show wb.heap[w.heap.size]? =some (.cells #[.bool lf,.slice PA ps.length pc,.slice TA tx.length tc,.slice KA ks.length kc] 26 (0,0))/\wb.heap[w.heap.size+1]? =some (.cells #[.bool false,.slice none 0 0,.slice none 0 0,.slice none 0 0] 26 (0,0))from hwb▸zBj w _ _ _ _ _ _ _ _ _ _);obtain⟨x0,x1,x2,x3,y0,y1,y2,y3⟩:=zJ dW.o.1;have hlb:w.heap.size+1<wb.heap.size:=lt_of_block dW.o.2;have pL:=fun(w':World)(hb:Below w.heap.size w w')=>hd (zEy (d'+1) w' _ (.mk lf ps tx []) (zV.shut rfl rfl rfl ((HP.o.below hb).more hb.size) ((HT.o.below hb).more hb.size) (show zU0 ps tx.length ([]:List NT).length pc tc 0 from⟨HF.o.1,HF.o.2.1,HF.o.2.2.1,by simp,HF.o.2.2.2.2.1,HF.o.2.2.2.2.2.1,by simp⟩) (KA:=none) (fun k m hm=>by simp at hm)));clear hn hp ht hf hks hO hno hQ hd' hD av HD hi hlen hdd hcs hnb;go_enter Tryz.func108,Tryz.ntmps108
 subst hwb;go_wp2_with fail
 go_quiet(fail)
 obtain⟨P,xB⟩:∃P:Nat->Prop,P=fun b=>Q b∨w.heap.size+2<=b:=⟨_,rfl⟩;have pM:=hd xB;clear xB;have AR:i+no+nb<=1759218604441:=Kb;clear x0 x1 x2 x3 y0 y1 y2 y3;obtain⟨x0,x1,x2,x3,y0,y1,y2,y3⟩:=zJ dW.o.1;go_wp2_with(first|(go_at_call 41;refine Calls.mono (pL _ ((zZ aw.o nq).setCell (by show _<=w.heap.size;exact Nat.le_refl _) _)).o ?_;intro e w4 h4;obtain⟨v4,rfl,dD,hb4⟩:=h4;obtain⟨aW,aQ,aX,aR,bl,bn,e4,nX,nY,uX,_⟩:=dD;have e5:v4=.agg #[.bool lf,.slice aW ps.length aQ,.slice aX tx.length aR,.slice bl 0 bn]:=e4;clear e4;subst e5))
 have hs3:(((((w.alloc (.cells #[.bool lf,.slice PA ps.length pc,.slice TA tx.length tc,.slice KA ks.length kc] 26)).alloc (.cells #[.bool false,.slice none 0 0,.slice none 0 0,.slice none 0 0] 26)).drewN nq).setCell ⟨w.heap.size,3,none⟩ (.slice none 0 0))).heap.size=w.heap.size+2:=by simp
 have qR:=hb4.size;rw[hs3]at qR hb4 nX nY;have eF:=hd (show w4.heap[w.heap.size+1]? =some (.cells #[.bool false,.slice none 0 0,.slice none 0 0,.slice none 0 0] 26 (0,0))from(hb4.block _ Kb).trans ((Below.heap_setCell _ _ _ _ (by show w.heap.size+1≠w.heap.size;omega)).trans dW.o.2));have sy:=hd (show Below w.heap.size w w4 from((zZ aw.o nq).setCell (by show _<=w.heap.size;exact Nat.le_refl _) _).trans (hb4.mono Kb));have xC:=hd (show ps.length<=aQ/\tx.length<=aR from⟨uX.2.2.2.2.1,uX.2.2.2.2.2.1⟩);have mL:=hd (zW0 (P:=P) (w4:=w4) (base:=w.heap.size+2) (d:=d) (cap:=i+no+nb) (lf:=lf) (ps:=ps) (tx:=tx) (PA:=aW) (pc:=aQ) (TA:=aX) (tc:=aR) (cs:=cs) Kb (fun b h=>by rw[pM.o];exact .inr h)
  (nX.keep (fun b h=>⟨by rw[pM.o];exact .inr h.1,h.2⟩) (fun _ _=>⟨rfl,rfl⟩)) (nY.keep (fun b h=>⟨by rw[pM.o];exact .inr h.1,h.2⟩) (fun _ _=>⟨rfl,rfl⟩)) nW.o Kg)
 clear hb4 nX nY uX hs3 x0 x1 x2 x3 y0 y1 y2 y3 az ay hwr hmk pL dW;go_loopw [41] (fun idx wr=>∃(k:Nat)(vK:Value)(lJ:List Value),k<=i/\idx=.int .i64 k/\Kr (zNk P w4 (w.heap.size+2) d lf ps tx w4.heap.size aW aQ aX aR vK k lJ ((ks.take i).take k) wr)) (fun idx _=>i-(intOf idx).toNat)
 case atStart=>exact⟨0,_,_,Nat.zero_le _,rfl,mL⟩
 case round =>
  obtain⟨k,vK,lJ,hk,rfl,HL⟩:=hrel;clear mL;have hbr:=sy.o.trans (HL.o.below.mono Kb);by_cases hlt:k<i
  ·          obtain⟨m,b,o,lf1,dh,dA,di,dt,dB,dv,dw,dC,kc1,hm,rfl,hbg,cK,c0,c1,c2,c3⟩:=(bR.o.below hbr).at_ (show k<ks.length by omega)
             have hsz:=hbr.size
             have iD:=HL.o.o
             have ic:=lt_of_block iD
             have HM:=hd hm
             obtain⟨A,cap,rfl,hkc,hcm,_⟩:=zC9 HL.o.row
             obtain⟨p0,p1,p2,p3,g0,g1,g2,g3⟩:=zJ iD
             obtain⟨wk,hwk⟩:∃wk,wk=(wr.alloc (.cells #[.bool lf1,.slice dh dA di,.slice dt dB dv,.slice dw dC kc1] 26)).drew:=⟨_,rfl⟩
             have hbk:Below wr.heap.size wr wk:=hwk▸(Kl.alloc Km _).drew
             have HC:=hd (zEy d wk _ m (((cK.more hsz).below hbk).more hbk.size))
             have eX:=hd hbk
             have jv:=HL.o.apart
             have hbs:=HL.o.bs
             have hbl:=HL.o.below.size
             have nZ:=hd (show(ks.take i).take k++[m]=(ks.take i).take (k+1)from((zPd (by rw[List.getElem?_take,if_pos hlt];exact HM.o)).symm))
             obtain⟨i0,hi,hz0,hz1,hz2⟩:=info_parts zJj
             subst hwk
             clear cK hbk hm iD hbr
             go_upto_block 1 with fail
             go_cut [41] (fun s wx=>s=.int .i64 k/\∃(oa:Value)(gI:List Value),Kr (zNk P w4 (w.heap.size+2) d lf ps tx w4.heap.size aW aQ aX aR oa (k+1) gI ((ks.take i).take (k+1)) wx))
             case first=>
              go_wp2_with fail
              go_region_law(first
                |((go_simp;go_at_call 41;refine HC.o.mono ?_;intro e w5 h5;obtain⟨v5,rfl,kv,aU⟩:=h5;obtain⟨lf5,lK,lL,lM,lN,lO,lQ,lR,lS,lT,rfl⟩:=(kv.at_ (B:=w5.heap.size) (fun b hb=>hb.2)).val;obtain⟨hs5,dX⟩:=zIk aU;have od:=hd ((dX w4.heap.size ic).trans HL.o.o);obtain⟨r0,r1,r2,r3,r4,r5,r6,r7⟩:=zJ od.o;have uY:w4.heap.size<w5.heap.size:=Kb;have fE:=hd (zG5 HL.o.row dX);have og:=hd dX;clear dX;have m8:=hd aU;have oh:=hd kv;clear kv aU))
                |((refine step_append_lies _ Ke (.tmp 46) (.tmp 49) _ Ke (w.heap.size+2) 26 i0 _ 4 80 Tryz.underlying24 hi hz0 hz1 hz2 rfl Kb (.slice A (k) cap) (k) (lJ.flatMap fun u=>u.cells.toList) (by first|rfl|simp[Act.eval]) (fE.o.alloc _) ⟨w5.heap.size,0,none⟩ 1 1 [.bool lf5,.slice lK lL lM,.slice lN lO lQ,.slice lR lS lT] (by first|rfl|simp[Act.eval]) Ke (World.news_of_block (cs:=#[.bool lf5,.slice lK lL lM,.slice lN lO lQ,.slice lR lS lT]) (t:=26) (fr:=(0,0)) (heap_alloc_new w5 _)) (by simp[Value.oneCell']) Kb Kg Kb Kf (w5.heap.size+1) Kc ?_;intro g6 bz w6 bI aG cX lU;have fV:=hd (kAr aG od.o jv);obtain⟨s0,s1,s2,s3,s4,s5,s6,s7⟩:=zJ fV.o;have lV:=lt_of_block fV.o)))
              all_goals
               have HST:=hd (zOh HL.o eX.o m8.o oh.o aG bI cX)
               rw[nZ.o]at HST
               clear aG bI cX s0 s1 s2 s3 s4 s5 s6 s7 r0 r1 r2 r3 r4 r5 r6 r7 fE od fV og m8 oh p0 p1 p2 p3 g0 g1 g2 g3 c0 c1 c2 c3
               go_wp2_with fail
               go_meet
               exact⟨rfl,_,_,HST⟩
             case rest=>
              obtain⟨rfl,oa,gI,HST⟩:=hcut;clear p0 p1 p2 p3 g0 g1 g2 g3 c0 c1 c2 c3;go_wp2
              go_roundw
              case rel=>exact⟨k+1,oa,gI,by omega,by go_num,HST⟩
              case measure=>simp[intOf];omega
  ·obtain rfl : k =i:=Kb;clear hlt;have jw:=HL;rw[List.take_of_length_le (by rw[List.length_take];omega)]at jw;clear HL;obtain⟨A,cap,rfl,AU,AV,_⟩:=zC9 jw.o.row;have xD:=hd jw.o.row;have xE:=hd (HO.o.cells.below hbr);have sO:=hd HO.o.flat;have uZ:=jw.o.bs;have AW:=jw.o.below.size;obtain⟨p0,p1,p2,p3,g0,g1,g2,g3⟩:=zJ jw.o.o;have qT:=hd jw.o.o;have oo:=hd jw.o.apart;have vd:=lt_of_block jw.o.o;have oq:=hd hbr;clear hbr;go_wp2_with(at_builtin;refine zK7 zWg _ rfl (.tmp 54) (.tmp 55) rfl (w.heap.size+2) (.slice A k cap) k (lJ.flatMap fun u=>u.cells.toList) rfl xD.o OA no oc w.heap.size (us.flatMap fun u=>u.cells.toList) rfl (by rw[sO.o.1,uW.o]) xE.o sO.o.2 Kg Kb Kb ?_;intro A6 c6 w6 bI aG cX;have fV:=hd ((aG.block w4.heap.size vd (fun e=>oo.o e.symm)).trans qT.o);obtain⟨s0,s1,s2,s3,s4,s5,s6,s7⟩:=zJ fV.o;have lV:=lt_of_block fV.o;have bV:=hd bI;have jx:=hd aG;have lB:=hd cX;clear bI aG cX)
   have aB:=hd (zOg jw.o (by rw[uW.o]) HO.o.len Kl jx.o bV.o lB.o (fun j m hj=>by
    obtain⟨u,h1,h2⟩:=HO.o.trees j m hj;refine⟨u,h1,h2.keep (fun b hb=>⟨by rw[pM.o];exact .inl hb,?_,?_,?_⟩) (fun p hp=>⟨oq.o.cell (HQ.o _ hp),oq.o.frozen (HQ.o _ hp)⟩)⟩
    ·have:=HQ.o b hb;have:=oq.o.size;omega
    ·have:=HQ.o b hb;omega
    ·intro e;have:=(jw.o.row.lt b e.symm).1;have:=HQ.o b hb;omega))
   clear bV jx lB s0 s1 s2 s3 s4 s5 s6 s7 p0 p1 p2 p3 g0 g1 g2 g3 qT xD fV xE lV;obtain⟨wo,hwo⟩:∃wo:World,wo=wr:=⟨_,rfl⟩;subst hwo;obtain⟨uo,xG⟩:∃uo,uo=lJ++us:=⟨_,rfl⟩;rw[<-xG]at aB;clear xG;go_loopw [60] (fun idx wr=>∃(k2:Nat)(vK:Value)(lJ:List Value),k2<=nb/\idx=.int .i64 k2/\Kr (zNk P w4 (w.heap.size+2) d lf ps tx w4.heap.size aW aQ aX aR vK (k+no+k2) lJ ((ks.take k++os)++(ks.drop (k+many)).take k2) wr)) (fun idx _=>nb-(intOf idx).toNat)
   case atStart=>exact⟨0,_,uo,Nat.zero_le _,rfl,(by rw[List.take_zero,List.append_nil];exact aB)⟩
   case round =>
    obtain⟨k2,vK,lJ,hk2,rfl,HL⟩:=hrel;clear aB;have hbr:=sy.o.trans (HL.o.below.mono Kb);by_cases hlt:k2<nb
    ·          obtain⟨m,b,o,lf1,dh,dA,di,dt,dB,dv,dw,dC,kc1,hm,rfl,hbg,cK,c0,c1,c2,c3⟩:=(AP.o.below hbr).at_ (show k2<(ks.drop (k+many)).length by rw[xA.o];exact hlt)
               have hsz:=hbr.size
               have iD:=HL.o.o
               have ic:=lt_of_block iD
               have HM:=hd hm
               obtain⟨A,cap,rfl,hkc,hcm,_⟩:=zC9 HL.o.row
               obtain⟨p0,p1,p2,p3,g0,g1,g2,g3⟩:=zJ iD
               obtain⟨wk,hwk⟩:∃wk,wk=(wr.alloc (.cells #[.bool lf1,.slice dh dA di,.slice dt dB dv,.slice dw dC kc1] 26)).drew:=⟨_,rfl⟩
               have hbk:Below wr.heap.size wr wk:=hwk▸(Kl.alloc Km _).drew
               have HC:=hd (zEy d wk _ m (((cK.more hsz).below hbk).more hbk.size))
               have eX:=hd hbk
               have jv:=HL.o.apart
               have hbs:=HL.o.bs
               have hbl:=HL.o.below.size
               have nZ:=hd (show(ks.take k++os)++(ks.drop (k+many)).take k2++[m]=(ks.take k++os)++(ks.drop (k+many)).take (k2+1)from(by rw[List.append_assoc,<-zPd HM.o]))
               obtain⟨i0,hi,hz0,hz1,hz2⟩:=info_parts zJj
               subst hwk
               clear cK hbk hm iD hbr
               go_upto_block 3 with fail
               go_cut [60] (fun s wx=>s=.int .i64 k2/\∃(oa:Value)(gI:List Value),Kr (zNk P w4 (w.heap.size+2) d lf ps tx w4.heap.size aW aQ aX aR oa (k+no+k2+1) gI ((ks.take k++os)++(ks.drop (k+many)).take (k2+1)) wx))
               case first=>
                go_wp2_with fail
                go_region_law(first
                  |((go_simp;go_at_call 41;refine HC.o.mono ?_;intro e w5 h5;obtain⟨v5,rfl,kv,aU⟩:=h5;obtain⟨lf5,lK,lL,lM,lN,lO,lQ,lR,lS,lT,rfl⟩:=(kv.at_ (B:=w5.heap.size) (fun b hb=>hb.2)).val;obtain⟨hs5,dX⟩:=zIk aU;have od:=hd ((dX w4.heap.size ic).trans HL.o.o);obtain⟨r0,r1,r2,r3,r4,r5,r6,r7⟩:=zJ od.o;have uY:w4.heap.size<w5.heap.size:=Kb;have fE:=hd (zG5 HL.o.row dX);have og:=hd dX;clear dX;have m8:=hd aU;have oh:=hd kv;clear kv aU))
                  |((refine step_append_lies _ Ke (.tmp 65) (.tmp 68) _ Ke (w.heap.size+2) 26 i0 _ 4 80 Tryz.underlying24 hi hz0 hz1 hz2 rfl Kb (.slice A (k+no+k2) cap) (k+no+k2) (lJ.flatMap fun u=>u.cells.toList) (by first|rfl|simp[Act.eval]) (fE.o.alloc _) ⟨w5.heap.size,0,none⟩ 1 1 [.bool lf5,.slice lK lL lM,.slice lN lO lQ,.slice lR lS lT] (by first|rfl|simp[Act.eval]) Ke (World.news_of_block (cs:=#[.bool lf5,.slice lK lL lM,.slice lN lO lQ,.slice lR lS lT]) (t:=26) (fr:=(0,0)) (heap_alloc_new w5 _)) (by simp[Value.oneCell']) Kb Kg Kb Kf (w5.heap.size+1) Kc ?_;intro g6 bz w6 bI aG cX lU;have fV:=hd (kAr aG od.o jv);obtain⟨s0,s1,s2,s3,s4,s5,s6,s7⟩:=zJ fV.o;have lV:=lt_of_block fV.o)))
                all_goals
                 have HST:=hd (zOh HL.o eX.o m8.o oh.o aG bI cX)
                 rw[nZ.o]at HST
                 clear aG bI cX s0 s1 s2 s3 s4 s5 s6 s7 r0 r1 r2 r3 r4 r5 r6 r7 fE od fV og m8 oh p0 p1 p2 p3 g0 g1 g2 g3 c0 c1 c2 c3
                 go_wp2_with fail
                 go_meet
                 exact⟨rfl,_,_,HST⟩
               case rest=>
                obtain⟨rfl,oa,gI,HST⟩:=hcut;clear p0 p1 p2 p3 g0 g1 g2 g3 c0 c1 c2 c3;go_wp2
                go_roundw
                case rel=>exact⟨k2+1,oa,gI,by omega,by go_num,HST⟩
                case measure=>simp[intOf];omega
    ·obtain rfl:k2=nb:=Kb;have mM:=HL;rw[List.take_of_length_le (l:=ks.drop (k+many)) (by rw[xA.o];exact Nat.le_refl _)]at mM;clear HL;have jy:=mM.o.o;have ve:=lt_of_block jy;obtain⟨A8,qU,rfl,_⟩:=zC9 mM.o.row;obtain⟨p0,p1,p2,p3,_,_,_,_⟩:=zJ jy;clear jy;have hres:wr.heap[w.heap.size+1]? =some (.cells #[.bool false,.slice none 0 0,.slice none 0 0,.slice none 0 0] 26):=(mM.o.below.block _ Kb).trans eF.o;obtain⟨q0,q1,q2,q3,q4,q5,q6,q7⟩:=zJ hres;have vg:=hd hres;have bQ:=hd hbr;clear hres hbr;go_wp2
     have h7:=kD (a:=.bool lf) (b:=.slice aW ps.length aQ) (c:=.slice aX tx.length aR) (d:=.slice A8 (k+no+k2) qU) vg.o;obtain⟨t0,t1,t2,t3,_,_,_,_⟩:=zJ h7;have hfit:zIo ps/\ps.length<=4398046511104/\tx.length<=35184372088832/\(ks.take k++os++ks.drop (k+many)).length<=1759218604441/\ps.length<=aQ/\tx.length<=aR:=
      ⟨HF.o.1,HF.o.2.1,HF.o.2.2.1,by have:=uW.o;simp only[List.length_append,List.length_take,List.length_drop];omega,xC.o.1,xC.o.2⟩
     have hend:=fun w7 hs h7=>(kAq (w7:=w7) mM.o hfit hs h7).tree;refine bodyPost_ret (v:=.agg #[.bool lf,.slice aW ps.length aQ,.slice aX tx.length aR,.slice A8 (k+no+k2) qU]) (by simp[results,Tryz.results108,go_sem,t0,t1,t2,t3]) rfl ⟨_,rfl,(hend _ Kc (fun b hb _=>?_)).keep (fun b hb=>?_) (fun _ _=>⟨rfl,rfl⟩),?_⟩
     ·rw[pM.o]at hb;have:b≠w.heap.size+1:=by
       rcases hb with h|h
       ·have:=HQ.o b h;omega
       ·omega
      iterate 4 rw[Below.heap_setCell _ _ _ _ (by show b≠w.heap.size+1;exact this)]
     ·obtain⟨h1,h2⟩:=hb;rw[pM.o]at h1;rcases h1 with h|h
      ·exact⟨.inl h,h2⟩
      ·exact⟨.inr Kb,h2⟩
     ·exact(((bQ.o.setCell (by show _<=w.heap.size+1;omega) _).setCell (by show _<=w.heap.size+1;omega) _).setCell (by show _<=w.heap.size+1;omega) _).setCell (by show _<=w.heap.size+1;omega) _
