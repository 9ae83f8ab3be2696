import Derived.Test.YtmglnjmnabjjgaaGreatJNTopO
set_option maxRecDepth 100000
set_option maxHeartbeats 8000000
namespace Go.Proofs.YtmglnjmnabjjgaaGreat
open Go.RowKit
variable {r:NT×Int}{n:NT}{w w':World}{v:Value}{d kc nk np nt pc tc:Nat}{p:List Int}{KA TA:Option Addr}
theorem zD6 (n:NT)(i:Int)(r:Bool)(hr:zOf n i=r)(d:Nat)(w:World)(v:Value)(hn:zV d w w.heap.size v n):
  Calls Tryz.prog 40 #[v,.int .i64 i] w (jA (.bool r) w):=by
 obtain⟨d',lf,ps,tx,ks,PA,pc,TA,tc,KA,kc,hd',rfl,rfl,hp,ht,hf,hks⟩:=hn.open_;have cY:=hf.2.2.2.1;have HB:=hd (show Below w.heap.size w (w.alloc (.cells #[.bool lf,.slice PA ps.length pc,.slice TA tx.length tc,.slice KA ks.length kc] 26))from Kl.alloc Km _);have hr':(decide (0<=i)&&decide (i<ks.length))=r:=hr;clear hn hp ht hf hks hd' hr;by_cases h1:0<=i
 ·by_cases h2:i<ks.length
  ·have HF:=hd (show r=true by rw[<-hr'];simp[h1,h2]);clear hr';go_enter Tryz.func40,Tryz.ntmps40
   go_wp2
   go_ret
   exact⟨kC HF.o.symm,HB.o⟩
  ·have HF:=hd (show r=false by rw[<-hr'];simp[h2]);have h3:decide (i<(ks.length:Int))=false:=decide_eq_false h2;clear hr';go_enter Tryz.func40,Tryz.ntmps40
   go_wp2
   go_ret
   exact⟨kC HF.o.symm,HB.o⟩
 ·have HF:=hd (show r=false by rw[<-hr'];simp[h1]);have h3:decide (0<=i)=false:=decide_eq_false h1;clear hr';go_enter Tryz.func40,Tryz.ntmps40
  go_wp2
  go_ret
  exact⟨kC HF.o.symm,HB.o⟩
def zP2 (r:NT×Int)(w:World)(e:Ending)(w':World):Prop:=
 ∃v d,e=.returned (.tuple #[v,.int .i64 r.2])/\zAx (fun b=>w.heap.size<=b/\b<w'.heap.size) d w' v r.1/\Below w.heap.size w w'
theorem zJv {e:Int}(h:r=(n,e))(ht:zAx (fun b=>w.heap.size<=b/\b<w'.heap.size) d w' v n)(hb:Below w.heap.size w w'):zP2 r w (.returned (.tuple #[v,.int .i64 e])) w':=by
 subst h;exact⟨v,d,rfl,ht,hb⟩
structure zM2 (w:World)(d:Nat)(n:NT)(p:List Int)(k:Nat)(lf:Bool)(PA:Option Addr)(np pc:Nat)(TA:Option Addr)(nt tc:Nat)(KA:Option Addr)(nk kc:Nat)(m:NT)(wr:World):Prop where
 below:Below w.heap.size w wr
 res:wr.heap[w.heap.size+1]? =some (.cells #[.bool false,.slice none 0 0,.slice none 0 0,.slice none 0 0] 26 (0,0))
 var:wr.heap[w.heap.size]? =some (.cells #[.bool lf,.slice PA np pc,.slice TA nt tc,.slice KA nk kc] 26 (0,0))
 at_:kB n (p.take k)=some m
 node:zV d wr w.heap.size (.agg #[.bool lf,.slice PA np pc,.slice TA nt tc,.slice KA nk kc]) m
theorem zBj (w:World)(a b c d:Value)(t:TypeId)(a' b' c' d':Value)(t':TypeId):
  ((w.alloc (.cells #[a,b,c,d] t)).alloc (.cells #[a',b',c',d'] t')).heap[w.heap.size]? =some (.cells #[a,b,c,d] t (0,0))/\((w.alloc (.cells #[a,b,c,d] t)).alloc (.cells #[a',b',c',d'] t')).heap[w.heap.size+1]? =some (.cells #[a',b',c',d'] t' (0,0)):=by
 refine⟨?_,?_⟩
 ·rw[Below.heap_alloc _ _ _ Kc];exact heap_alloc_new _ _
 ·rw[<-sz1 (w:=w) (A:=.cells #[a,b,c,d] t)];exact heap_alloc_new _ _
theorem zRv {lf:Bool}{PA:Option Addr}(hn:zV d w w.heap.size (.agg #[.bool lf,.slice PA np pc,.slice TA nt tc,.slice KA nk kc]) n):
  zM2 w d n p 0 lf PA np pc TA nt tc KA nk kc n ((w.alloc (.cells #[.bool lf,.slice PA np pc,.slice TA nt tc,.slice KA nk kc] 26)).alloc (.cells #[.bool false,.slice none 0 0,.slice none 0 0,.slice none 0 0] 26)):=by
 have hb:=kM (w:=w) (w':=w) (o:=(.cells #[.bool lf,.slice PA np pc,.slice TA nt tc,.slice KA nk kc] 26)) (o':=(.cells #[.bool false,.slice none 0 0,.slice none 0 0,.slice none 0 0] 26)) Kl (Nat.le_refl w.heap.size);obtain⟨h1,h2⟩:=zBj w (.bool lf) (.slice PA np pc) (.slice TA nt tc) (.slice KA nk kc) 26 (.bool false) (.slice none 0 0) (.slice none 0 0) (.slice none 0 0) 26;exact⟨hb,h2,h1,rfl,hn.below hb⟩
theorem zU8 {wr w2:World}{m m2:NT}{k:Nat}{lf:Bool}{PA:Option Addr}{lf2:Bool}{ie:Option Addr}{ig ij:Nat}{ik:Option Addr}{im ip:Nat}{iq:Option Addr}{ir kc2:Nat}
  (h:zM2 w d n p k lf PA np pc TA nt tc KA nk kc m wr) (hb:Below wr.heap.size wr w2) (hm:kB n (p.take (k+1))=some m2) (hn:zV d w2 w.heap.size (.agg #[.bool lf2,.slice ie ig ij,.slice ik im ip,.slice iq ir kc2]) m2):
  zM2 w d n p (k+1) lf2 ie ig ij ik im ip iq ir kc2 m2 ((((w2.setCell ⟨w.heap.size,0,none⟩ (.bool lf2)).setCell ⟨w.heap.size,1,none⟩ (.slice ie ig ij)).setCell ⟨w.heap.size,2,none⟩ (.slice ik im ip)).setCell ⟨w.heap.size,3,none⟩ (.slice iq ir kc2)):=by
 have hs:=h.below.size;have hb2:Below w.heap.size w w2:=h.below.trans (hb.mono hs);have aV:Below w.heap.size w ((((w2.setCell ⟨w.heap.size,0,none⟩ (.bool lf2)).setCell ⟨w.heap.size,1,none⟩ (.slice ie ig ij)).setCell ⟨w.heap.size,2,none⟩ (.slice ik im ip)).setCell ⟨w.heap.size,3,none⟩ (.slice iq ir kc2)):=(((hb2.setCell Km _).setCell Km _).setCell Km _).setCell Km _;have yi:Below w.heap.size w2 ((((w2.setCell ⟨w.heap.size,0,none⟩ (.bool lf2)).setCell ⟨w.heap.size,1,none⟩ (.slice ie ig ij)).setCell ⟨w.heap.size,2,none⟩ (.slice ik im ip)).setCell ⟨w.heap.size,3,none⟩ (.slice iq ir kc2)):=((((Below.refl w.heap.size w2).setCell Km _).setCell Km _).setCell Km _).setCell Km _;refine⟨aV,?_,kD ((hb.block _ (lt_of_block h.var)).trans h.var),hm,hn.below yi⟩;iterate 4 rw[Below.heap_setCell _ _ _ _ (by show w.heap.size+1≠w.heap.size;omega)]
 exact(hb.block _ (lt_of_block h.res)).trans h.res
def zV2 (r:NT×Int)(w:World)(e:Ending)(w':World):Prop:=
 ∃v d,e=.returned (.tuple #[v,.int .i64 r.2])/\zTz w.heap.size d w' v r.1/\Below w.heap.size w w'
theorem zQz {e:Int}(h:r=(n,e))(ht:zTz w.heap.size d w' v n)(hb:Below w.heap.size w w'):zV2 r w (.returned (.tuple #[v,.int .i64 e])) w':=by
 subst h;exact⟨v,d,rfl,ht,hb⟩
theorem zYy (base d:Nat)(w:World):zTz base d w (.agg #[.bool false,.slice none 0 0,.slice none 0 0,.slice none 0 0]) zeroT:=
 ⟨none,0,none,0,none,0,[],rfl,World.ownsRow_nil _ _ _ _,World.ownsRow_nil _ _ _ _,World.ownsRow_nil _ _ _ _,zPl,rfl,fun j m h=>by simp[zeroT,NT.ks]at h⟩
theorem zYz (d:Nat)(w:World)(v:Value)(n:NT)(A:Option Addr)(p:List Int)(lp c:Nat)(bc:p.length=lp)(hl:lp<=10000000)(hn:zV d w w.heap.size v n)(hp:IL w w.heap.size A p):
  Calls Tryz.prog 15 #[v,.slice A lp c] w (zV2 (zGm n p) w):=by
 obtain⟨lf,PA,np,pc,TA,nt,tc,KA,nk,kc,rfl⟩:=hn.val;have ub:=hd (zRv (p:=p) hn);have HP:=hd hp;have jG:=hd bc;clear hn hp bc;go_enter Tryz.func15,Tryz.ntmps15
 go_wp2
 go_loopw [10] (fun i wr=>∃(k:Nat)(lf:Bool)(PA:Option Addr)(np pc:Nat)(TA:Option Addr)(nt tc:Nat)(KA:Option Addr)(nk kc:Nat)(m:NT),k<=lp/\i=.int .i64 k/\Kr (zM2 w d n p k lf PA np pc TA nt tc KA nk kc m wr)) (fun i _=>lp-(intOf i).toNat)
 case atStart=>exact⟨0,_,_,_,_,_,_,_,_,_,_,n,Nat.zero_le _,rfl,ub⟩
 case round=>
  clear ub;obtain⟨k,lf,PA,np,pc,TA,nt,tc,KA,nk,kc,m,hk,rfl,HL⟩:=hrel;have hbr:=HL.o.below;have hsz:=hbr.size;obtain⟨x0,x1,x2,x3,y0,y1,y2,y3⟩:=zJ HL.o.var;obtain⟨z0,z1,z2,z3,f0,f1,f2,f3⟩:=zJ HL.o.res;have bl:=lt_of_block HL.o.res;by_cases hlt:k<lp
  ·obtain⟨b,o,rfl,hbl,hc⟩:=(HP.o.below hbr).at_ (k:=k) (by rw[jG.o];exact hlt);obtain⟨i,hi⟩:∃i,iAt p k=i:=⟨_,rfl⟩;rw[hi]at hc;have fV:=HL.o.node;obtain⟨d',lf',ps,tx,ks,PA',pc',TA',tc',KA',kc',hd',hm',ev,hps,htx,hfit,hks⟩:=fV.open_;simp only[Value.agg.injEq,Array.mk.injEq,List.cons.injEq,Value.bool.injEq,Value.slice.injEq,and_true]at ev;obtain⟨rfl,⟨rfl,rfl,rfl⟩,⟨rfl,rfl,rfl⟩,rfl,rfl,rfl⟩:=ev;have cY:=hfit.2.2.2.1;cases hb:zOf m i
   ·have HE:=hd (zB2 (zRy (by rw[jG.o];exact hlt) HL.o.at_ (by rw[hi];exact zJx hb)));have HC:=hd (zD6 m i false hb d wr _ ((fV.more hsz)));have aK:=hd hbr;have dz:=hd HL.o.res;have iH:m.ks.length=ks.length:=by rw[hm'];rfl
    have hno:i<0∨0<=i/\(ks.length:Int)<=i:=by
     rcases(show i<0∨0<=i by omega)with h|h
     ·exact .inl h
     ·refine .inr ⟨h,?_⟩;rcases(show(ks.length:Int)<=i∨i<ks.length by omega)with h2|h2
      ·exact h2
      ·rw[zEx.2 ⟨h,by rw[iH];exact h2⟩]at hb;cases hb
    clear fV hps htx hfit hks hb hi hm' hd' hbr iH;rcases hno with g1|⟨g1,g2⟩;all_goals
     go_wp2_with(first|(go_at_call 40;refine HC.o.mono ?_;rintro e w2 ⟨rfl,b2⟩;have fB:=hd (kI dz.o b2);have hl2:=b2.size;obtain⟨r0,r1,r2,r3,r4,r5,r6,r7⟩:=zJ fB.o))
     have h7:=kD (a:=.bool false) (b:=.slice none 0 0) (c:=.slice none 0 0) (d:=.slice none 0 0) (by first|exact fB.o|exact dz.o)
     obtain⟨t0,t1,t2,t3,_,_,_,_⟩:=zJ h7
     refine bodyPost_ret (v:=.tuple #[.agg #[.bool false,.slice none 0 0,.slice none 0 0,.slice none 0 0],.int .i64 5]) (by simp[results,Tryz.results15,go_sem,t0,t1,t2,t3]) rfl (zQz HE.o (zYy _ 0 _) ?_)
     exact((((show Below w.heap.size w _ from(by first|exact aK.o.trans (b2.mono aK.o.size)|exact aK.o)).setCell (by show _<=w.heap.size+1;omega) _).setCell (by show _<=w.heap.size+1;omega) _).setCell (by show _<=w.heap.size+1;omega) _).setCell (by show _<=w.heap.size+1;omega) _
   ·have HK:=hd (zEx.1 hb);obtain⟨j,hj⟩:∃j:Nat,i=(j:Int):=⟨i.toNat,by have:=HK.o;omega⟩;subst hj;have qA:j<ks.length:=by have:=HK.o;rw[hm']at this;simp only[NT.ks]at this;omega
    have HC:=hd (zD6 m (j:Int) true hb d wr _ ((fV.more hsz)));have bU:=hd hks;have HI:=hd hi;have HM:=hd hm';have HD:=hd hd';have aK:=hd hbr;clear fV hps htx hfit hks hb hi hm' hd' z0 z1 z2 z3 f0 f1 f2 f3 hbr;have yj:=hd HL.o.var;obtain⟨m2,b',o',lf2,ie,ig,ij,ik,im,ip,iq,ir,kc2,hm2,rfl,un,fW,c0,c1,c2,c3⟩:=bU.o.at_ qA;have hg:=hd (show kB n (p.take (k+1))=some m2 by rw[zFv (by rw[jG.o];exact hlt) HL.o.at_,HI.o];unfold zBh;rw[if_pos Kb,HM.o];exact hm2);have oJ:=hd (fW.deep (d':=d) (by have:=HD.o;omega));have qq:=hd hm2;clear fW hm2;go_wp2_with(first|(go_at_call 40;refine HC.o.mono ?_;rintro e w2 ⟨rfl,b2⟩;have hl2:=b2.size;obtain⟨u0,u1,u2,u3,u4,u5,u6,u7⟩:=zJ (kI yj.o b2);have e0:=(b2.cell (kQ c0)).trans c0;have e1:=(b2.cell (kQ c1)).trans c1;have e2:=(b2.cell (kQ c2)).trans c2;have e3:=(b2.cell (kQ c3)).trans c3;clear c0 c1 c2 c3 x0 x1 x2 x3 y0 y1 y2 y3))
    go_roundw
    case rel=>exact⟨k+1,_,_,_,_,_,_,_,_,_,_,m2,by omega,by go_num,hd (zU8 HL.o (by first|exact b2|exact Below.refl _ _) hg.o (by first|exact oJ.o.below (b2.mono hsz)|exact oJ.o))⟩
    case measure=>simp[intOf];omega
  ·have HE:=hd (kP (n:=n) (m:=m) (p:=p) (by have:=HL.o.at_;rwa[List.take_of_length_le (by rw[jG.o];omega)]at this));have dz:=hd HL.o.res;have aK:=hd hbr;have HN:=hd (HL.o.node.more hsz);clear z0 z1 z2 z3 f0 f1 f2 f3 hbr;go_wp2_with(first|(go_at_call 41;refine Calls.mono (zYx _ _ _ _ HN.o) ?_;intro e w4 h4;obtain⟨v4,rfl,dX,hb4⟩:=h4;obtain⟨lf4,aZ,bE,aW,ba,bG,aX,bA,bH,bB,rfl⟩:=dX.val;have fy:=hd (kI dz.o hb4);obtain⟨r0,r1,r2,r3,r4,r5,r6,r7⟩:=zJ fy.o;have lG:=hd dX;have bf:=hd hb4;have hl4:=hb4.size;clear dX hb4))
   have h7:=kD (a:=.bool lf4) (b:=.slice aZ bE aW) (c:=.slice ba bG aX) (d:=.slice bA bH bB) fy.o;obtain⟨t0,t1,t2,t3,_,_,_,_⟩:=zJ h7;have oU:Below w.heap.size w w4:=aK.o.trans (bf.o.mono aK.o.size);refine bodyPost_ret (v:=.tuple #[.agg #[.bool lf4,.slice aZ bE aW,.slice ba bG aX,.slice bA bH bB],.int .i64 0]) (by simp[results,Tryz.results15,go_sem,t0,t1,t2,t3]) rfl (zQz HE.o ((lG.o.keep Kc (fun b h1 _=>?_)).base Kb) ?_)
   ·have hne:b≠w.heap.size+1:=Kb;iterate 4 rw[Below.heap_setCell _ _ _ _ (by simpa using hne)]
   ·exact(((oU.setCell (by show _<=w.heap.size+1;omega) _).setCell (by show _<=w.heap.size+1;omega) _).setCell (by show _<=w.heap.size+1;omega) _).setCell (by show _<=w.heap.size+1;omega) _
theorem zEy (d:Nat)(w:World)(v:Value)(n:NT)(hn:zV d w w.heap.size v n):Calls Tryz.prog 41 #[v] w (zVf d n w):=by
 cases d with
 |zero=>exact hn.elim
 |succ d=>exact(zYx _ _ _ _ hn).mono fun _ _ h=>h.copied
theorem zU9 (d:Nat)(w:World)(v:Value)(n:NT)(A:Option Addr)(p:List Int)(lp c:Nat)(bc:p.length=lp)(hl:lp<=10000000)(hn:zV d w w.heap.size v n)(hp:IL w w.heap.size A p):
  Calls Tryz.prog 15 #[v,.slice A lp c] w (zP2 (zGm n p) w):=
 (zYz d w v n A p lp c bc hl hn hp).mono fun _ _⟨v,d,h1,h2,h3⟩=>⟨v,d+1,h1,h2.tree,h3⟩
open Go.WideShapes (add_plain)
theorem zRw (A:Option Addr)(n c k:Nat)(hk:k<=c):∀W:World,(Instr.slice 24 (.slice A n c) none (some (.int .i64 (k:Int))) none).run Tryz.prog W=.ok (.slice A k c) W:=fun W=>by
 have he:Tryz.prog.elem 24=26:=Ka;have hs:∀W,(sizeOf 26).run Tryz.prog W=.ok 4 W:=fun _=>by kernel_rfl
 rw[run_slice_h W 24 A n c (by rw[he];exact Tryz.underlying24) .i64 _ Kb Kb,he,hs];have e:(A.map fun x=>x.add 0)=A:=by
  cases A
  ·rfl
  ·simp[Addr.add]
 simp[Result.andThen,sliced,e]
theorem zKn.drop {B:Nat}{A:Option Addr}{ks:List NT}(h:zKn d w B A ks)(k c:Nat)(hc:ks.length<=c):zKn d w B (if c=k then A else A.map (·.add (k*4))) (ks.drop k):=fun j m hm=>by
 rw[List.getElem?_drop]at hm;have hl:=(List.getElem?_eq_some_iff.1 hm).1;obtain⟨b,o,u,rfl,hb,hn,c0,c1,c2,c3,e,h0,h1,h2,h3⟩:=h _ m hm;rw[if_neg Kb];have e1:o+k*4+j*4=o+(k+j)*4:=Kb;exact⟨b,o+k*4,u,by simp[add_plain],hb,hn,c0,c1,c2,c3,e,by rw[e1];exact h0,by rw[e1];exact h1,by rw[e1];exact h2,by rw[e1];exact h3⟩
theorem zVa (A:Option Addr)(n c k:Nat)(hk:k<=n)(hc:n<=c):∃D:Option Addr,(∀(d:Nat)(w:World)(B:Nat)(ks:List NT),zKn d w B A ks->ks.length=n->zKn d w B D (ks.drop k))/\
  (∀W:World,(Instr.slice 24 (.slice A n c) (some (.int .i64 (k:Int))) none none).run Tryz.prog W=.ok (.slice D (n-k) (c-k)) W):=by
 refine⟨if c=k then A else A.map (·.add (k*4)),fun d w B ks h hx=>h.drop k c Kb,fun W=>?_⟩;have he:Tryz.prog.elem 24=26:=Ka;have hs:∀W,(sizeOf 26).run Tryz.prog W=.ok 4 W:=fun _=>by kernel_rfl
 rw[run_slice_l W 24 A n c (by rw[he];exact Tryz.underlying24) .i64 _ Kb Kb,he,hs];simp[Result.andThen,sliced]
theorem zK7 {ts te:TypeId}{size by_:Nat}(E:zQ7 ts te size by_)(W:World){ops:Array Oper}{rest:List Oper}{o:Oper}{a:Act}{Q:Exit->Act->World->Prop}(hgd:o.guard=none)(s x:Operand)
  (ho:o.op=.call {callee:=.builtin .append,args:=#[s,x],argTypes:=#[ts,ts]})
  (b:Nat) (v:Value) (n:Nat) (k:List Value) (hs:a.eval s=v) (hO:W.ownsRow b te size v n k) (A:Option Addr) (m c B:Nat) (l:List Value) (hx:a.eval x=.slice A m c) (hn:l.length=m*size) (hp:VL W B A l) (h1:∀u ∈ l,u.oneCell'=true)
  (h63:n+m<=maxLen) (hby:(n+m)*by_<=140737488355328) (hb:b<=W.heap.size)
  (hK:∀A' c' w',w'.ownsRow b te size (.slice A' (n+m) c') (n+m) (k++l)->W.grownBy w' v.ownBlock->((Value.slice A' (n+m) c').ownBlock=v.ownBlock∨∃g,(Value.slice A' (n+m) c').ownBlock=some g/\W.heap.size<=g)->wpList Tryz.prog ops Q rest (a.put o.dst (.slice A' (n+m) c')) w'):
  wpList Tryz.prog ops Q (o::rest) a W:=by
 obtain⟨i0,z,hi,hz0,hz1,hz2,hz3⟩:=E.info;have hsz:=E.pos;rcases Nat.eq_zero_or_pos m with hm|hm
 ·subst hm;have hl:l=[]:=List.eq_nil_of_length_eq_zero (by simpa using hn);subst hl;obtain⟨A0,c0,rfl,_⟩:=zC9 hO;refine wpList_plain hgd fun K hK2=>?_;have hrun:=zEp (w:=W) (ty:=o.type) (A:=A) (c:=c) E.under hi hO;unfold Oper.wp execOp;simp only[ho,resolve,invoke,builtin,Sem.run_bind,Sem.run_pure,Result.andThen_ok,List.map_toArray,List.map_cons,List.map_nil,hs,hx,hrun];exact hK2 _ _ (hK A0 c0 W (by simpa using hO) ⟨rfl,rfl,rfl,Nat.le_refl _,fun _ _ _=>rfl⟩ (.inl (by cases A0<;>rfl)))
 ·have hl:0<l.length:=by have:=Nat.mul_pos hm hsz;omega
  obtain⟨b',o',rfl,_,hc⟩:=hp (List.length_pos_iff.1 hl);refine wpList_plain hgd fun K hK2=>?_;refine wp_append_lies W s x ts ho b te i0 z size by_ E.under hi hz0 hz1 hz2 hz3 hsz v n k hs hO ⟨b',o',none⟩ m c l hx hn (fun j u hj=>by rw[add_plain];exact hc j u hj) h1 hm h63 hby hb W.heap.size rfl (fun g cap w' h1 h2 h3 _=>hK2 _ _ (hK _ cap w' h1 h2 ?_));rcases h3 with e|e
  ·exact .inl (by rw[e];rfl)
  ·exact .inr ⟨g,rfl,by omega⟩
structure zGi (Q:Nat->Prop)(d:Nat)(w:World)(OA:Option Addr)(us:List Value)(os:List NT):Prop where
 len:us.length=os.length
 cells:VL w w.heap.size OA (us.flatMap fun u=>u.cells.toList)
 trees:∀(j:Nat)(m:NT),os[j]? =some m->∃u,us[j]? =some u/\zAx Q d w u m
theorem zGi.flat {Q:Nat->Prop}{OA:Option Addr}{us:List Value}{os:List NT}(h:zGi Q d w OA us os):(us.flatMap fun u=>u.cells.toList).length=os.length*4/\∀c ∈ us.flatMap fun u=>u.cells.toList,c.oneCell'=true:=by
 have key:∀u ∈ us,∃lf PA np pc TA nt tc KA nk kc,u=.agg #[.bool lf,.slice PA np pc,.slice TA nt tc,.slice KA nk kc]:=fun u hu=>by
  obtain⟨j,hj,rfl⟩:=List.mem_iff_getElem.1 hu;obtain⟨u',hu',ht⟩:=h.trees j _ (List.getElem?_eq_getElem (by rw[<-h.len];exact hj));rw[List.getElem?_eq_getElem hj]at hu';injection hu' with hu';rw[hu'];cases d with
  |zero=>exact ht.elim
  |succ d=>obtain⟨PA,pc,TA,tc,KA,kc,e,_⟩:=ht;exact⟨_,_,_,_,_,_,_,_,_,_,e⟩
 constructor
 ·rw[<-h.len];have:∀l:List Value,(∀u ∈ l,u.cells.toList.length=4)->(l.flatMap fun u=>u.cells.toList).length=l.length*4:=by
   intro l;induction l with
   |nil=>intro _;rfl
   |cons x r ih=>intro hx;rw[List.flatMap_cons,List.length_append,hx x (List.mem_cons_self ..),ih (fun u hu=>hx u (List.mem_cons_of_mem _ hu)),List.length_cons];omega
  exact this us fun u hu=>by obtain⟨_,_,_,_,_,_,_,_,_,_,rfl⟩:=key u hu;rfl
 ·intro c hc;obtain⟨u,hu,um⟩:=List.mem_flatMap.1 hc;obtain⟨_,_,_,_,_,_,_,_,_,_,rfl⟩:=key u hu;simp[Value.cells]at um;rcases um with rfl|rfl|rfl|rfl<;>rfl
theorem zGi.nil (Q:Nat->Prop)(d:Nat)(w:World)(OA:Option Addr):zGi Q d w OA [] []:=⟨rfl,VL.nil _ _ _,fun j m h=>by simp at h⟩
def kHu (Q:Nat->Prop)(d:Nat)(n:NT)(w:World)(e:Ending)(w':World):Prop:=
 ∃v,e=.returned v/\zAx (fun b=>(Q b∨w.heap.size<=b)/\b<w'.heap.size) d w' v n/\Below w.heap.size w w'
theorem zW0 {P:Nat->Prop}{w4:World}{base cap:Nat}{lf:Bool}{ps:List Pr}{tx:List Int}{PA:Option Addr}{cs:Array Value}(hbase:base<=w4.heap.size)(hup:∀b,base<=b->P b)
  (hp:VP (fun b=>P b/\b<w4.heap.size) w4 PA (pv ps)) (ht:VP (fun b=>P b/\b<w4.heap.size) w4 TA (rv tx)) (hcs:cs.size=cap*4) (hcap:cap<=maxLen):
  zNk P w4 base d lf ps tx w4.heap.size PA pc TA tc (.slice (some ⟨w4.heap.size+1,0,none⟩) 0 cap) 0 [] [] ((w4.alloc (.cells #[.bool lf,.slice PA ps.length pc,.slice TA tx.length tc,.slice (some ⟨w4.heap.size+1,0,none⟩) 0 cap] 26)).alloc (.cells cs 26)):=by
 obtain⟨w5,d7⟩:∃w5,w5=w4.alloc (.cells #[.bool lf,.slice PA ps.length pc,.slice TA tx.length tc,.slice (some ⟨w4.heap.size+1,0,none⟩) 0 cap] 26):=⟨_,rfl⟩;have e5:w5.heap.size=w4.heap.size+1:=by rw[d7];simp
 obtain⟨w6,ut⟩:∃w6,w6=w5.alloc (.cells cs 26):=⟨_,rfl⟩;have e6:w6.heap.size=w4.heap.size+2:=by rw[ut];simp;omega
 have b5:Below w4.heap.size w4 w5:=d7▸Kl.alloc Km _;have b6:Below w4.heap.size w4 w6:=ut▸b5.alloc Kb _;have hrow:w6.ownsRow base 26 4 (.slice (some ⟨w4.heap.size+1,0,none⟩) 0 cap) 0 []:=by
  have:=World.ownsRow_made (base:=base) (e:=26) (size:=4) w5 cs cap Kb hcap hcs;rw[e5,<-ut]at this;exact this
 have h5:w6.heap[w4.heap.size]? =some (.cells #[.bool lf,.slice PA ps.length pc,.slice TA tx.length tc,.slice (some ⟨w4.heap.size+1,0,none⟩) 0 cap] 26 (0,0)):=by
  rw[ut,Below.heap_alloc _ _ _ Kb,d7];exact heap_alloc_new _ _
 rw[<-d7,<-ut];refine⟨b6.mono hbase,hbase,hbase,hup,h5,hrow,rfl,rfl,by simp[Value.ownBlock],?_,?_,fun j m hm=>by simp at hm⟩
 ·exact hp.keep (fun b hb=>⟨hb.1,by omega,by omega,by simp[Value.ownBlock];omega⟩) (fun p hp=>⟨b6.cell hp.2,b6.frozen hp.2⟩)
 ·exact ht.keep (fun b hb=>⟨hb.1,by omega,by omega,by simp[Value.ownBlock];omega⟩) (fun p hp=>⟨b6.cell hp.2,b6.frozen hp.2⟩)
theorem zIe (Q : Nat->Prop)(d:Nat)(w:World)(hQ:∀b,Q b->b<w.heap.size)(v:Value)(n:NT)(i many no oc:Nat)(I M:Int)(hI:I=i)(hM:M=many)(OA:Option Addr)(us:List Value)(os:List NT)(hn:zV d w w.heap.size v n)(hO:zGi Q d w OA us os)(hno:os.length=no)(hi:i+many<=n.ks.length)(hlen:n.ks.length+no<=1759218604441+many):
  Calls Tryz.prog 108 #[v,.int .i64 I,.int .i64 M,.slice OA no oc] w (kHu Q (d+1) (jS n i many os) w):=by
 subst hI hM;obtain⟨d',lf,ps,tx,ks,PA,pc,TA,tc,KA,kc,hd',rfl,rfl,hp,ht,hf,hks⟩:=hn.open_;have hi':i+many<=ks.length:=hi;have hlen':ks.length+no<=1759218604441+many:=hlen;have cY:=hf.2.2.2.1;have hkc:=hf.2.2.2.2.2.2;obtain⟨D,hD,ax⟩:=zVa KA ks.length kc (i+many) hi' hkc;have aC:=zRw KA ks.length kc i Kb;have aA:∀W:World,(Instr.slice 24 (.slice KA ks.length kc) (some (.int .i64 ((i:Int)+(many:Int)))) none none).run Tryz.prog W=.ok (.slice D (ks.length-(i+many)) (kc-(i+many))) W:=fun W=>by
  have:=ax W;rwa[Int.natCast_add]at this
 have HD:=hd (hD d' w w.heap.size ks hks rfl);have hwr:IntKind.i64.wrap ((i:Int)+(many:Int))=(i:Int)+(many:Int):=IntWalk.i64_in _ Kb;have hdd:d'<=d:=Kb;have bU:=hd (show zKn d w w.heap.size KA ks from fun k m hm=>by
  obtain⟨b,o,u,e,hb,hn,hc⟩:=hks k m hm;exact⟨b,o,u,e,hb,hn.deep hdd,hc⟩)
 have D7:=hd (show zKn d w w.heap.size D (ks.drop (i+many))from fun k m hm=>by
  obtain⟨b,o,u,e,hb,hn,hc⟩:=HD.o k m hm;exact⟨b,o,u,e,hb,hn.deep hdd,hc⟩)
 obtain⟨nb,hnb⟩:∃nb,nb=ks.length-(i+many):=⟨_,rfl⟩;rw[<-hnb]at aA;have D8:nb+i+many=ks.length:=Kb;obtain⟨cs,hcs,hmk⟩:=zGt zWg (i+no+nb) Kb Kb;simp only[Int.natCast_add]at hmk;have qw:=hd hcs;have HP:=hd hp;have HT:=hd ht;have HF:=hd hf;have HO:=hd hO;have yl:=hd hno;have HQ:=hd hQ;have Ba:=hd (show(ks.drop (i+many)).length=nb by rw[List.length_drop,hnb]);obtain⟨wb,hwb⟩:∃wb,wb=(w.alloc (.cells #[.bool lf,.slice PA ps.length pc,.slice TA tx.length tc,.slice KA ks.length kc] 26)).alloc (.cells #[.bool false,.slice none 0 0,.slice none 0 0,.slice none 0 0] 26):=⟨_,rfl⟩;have aB:=hd (show Below w.heap.size w wb from hwb▸kM Kl Km);have oZ:=hd (show wb.heap.size=w.heap.size+2 by rw[hwb];simp);have eX:=hd (show wb.heap[w.heap.size]? =some (.cells #[.bool lf,.slice PA ps.length pc,.slice TA tx.length tc,.slice KA ks.length kc] 26 (0,0))/\wb.heap[w.heap.size+1]? =some (.cells #[.bool false,.slice none 0 0,.slice none 0 0,.slice none 0 0] 26 (0,0))from hwb▸zBj w _ _ _ _ _ _ _ _ _ _);obtain⟨x0,x1,x2,x3,y0,y1,y2,y3⟩:=zJ eX.o.1;have hlb:w.heap.size+1<wb.heap.size:=lt_of_block eX.o.2;have sj:=fun(w':World)(hb:Below w.heap.size w w')=>hd (zEy (d'+1) w' _ (.mk lf ps tx []) (zV.shut rfl rfl rfl ((HP.o.below hb).more hb.size) ((HT.o.below hb).more hb.size) (show zU0 ps tx.length ([]:List NT).length pc tc 0 from⟨HF.o.1,HF.o.2.1,HF.o.2.2.1,by simp,HF.o.2.2.2.2.1,HF.o.2.2.2.2.2.1,by simp⟩) (KA:=none) (fun k m hm=>by simp at hm)));clear hn hp ht hf hks hO hno hQ hd' hD ax HD hi hlen hdd hcs hnb;go_enter Tryz.func108,Tryz.ntmps108
 subst hwb;go_wp2_with fail
 go_quiet(fail)
 obtain⟨P,Bb⟩:∃P:Nat->Prop,P=fun b=>Q b∨w.heap.size+2<=b:=⟨_,rfl⟩;have sk:=hd Bb;clear Bb;have D9:i+no+nb<=1759218604441:=Kb;clear x0 x1 x2 x3 y0 y1 y2 y3;obtain⟨x0,x1,x2,x3,y0,y1,y2,y3⟩:=zJ eX.o.1;go_wp2_with(first|(go_at_call 41;refine Calls.mono (sj _ ((zZ aB.o nq).setCell (by show _<=w.heap.size;exact Nat.le_refl _) _)).o ?_;intro e w4 h4;obtain⟨v4,rfl,dX,hb4⟩:=h4;obtain⟨aZ,aW,ba,aX,bA,bB,e4,qB,qC,ym,_⟩:=dX;have e5:v4=.agg #[.bool lf,.slice aZ ps.length aW,.slice ba tx.length aX,.slice bA 0 bB]:=e4;clear e4;subst e5))
 have hs3:(((((w.alloc (.cells #[.bool lf,.slice PA ps.length pc,.slice TA tx.length tc,.slice KA ks.length kc] 26)).alloc (.cells #[.bool false,.slice none 0 0,.slice none 0 0,.slice none 0 0] 26)).drewN nq).setCell ⟨w.heap.size,3,none⟩ (.slice none 0 0))).heap.size=w.heap.size+2:=by simp
 have uu:=hb4.size;rw[hs3]at uu hb4 qB qC;have fy:=hd (show w4.heap[w.heap.size+1]? =some (.cells #[.bool false,.slice none 0 0,.slice none 0 0,.slice none 0 0] 26 (0,0))from(hb4.block _ Kb).trans ((Below.heap_setCell _ _ _ _ (by show w.heap.size+1≠w.heap.size;omega)).trans eX.o.2));have uY:=hd (show Below w.heap.size w w4 from((zZ aB.o nq).setCell (by show _<=w.heap.size;exact Nat.le_refl _) _).trans (hb4.mono Kb));have Bc:=hd (show ps.length<=aW/\tx.length<=aX from⟨ym.2.2.2.2.1,ym.2.2.2.2.2.1⟩);have iy:=hd (zW0 (P:=P) (w4:=w4) (base:=w.heap.size+2) (d:=d) (cap:=i+no+nb) (lf:=lf) (ps:=ps) (tx:=tx) (PA:=aZ) (pc:=aW) (TA:=ba) (tc:=aX) (cs:=cs) Kb (fun b h=>by rw[sk.o];exact .inr h)
  (qB.keep (fun b h=>⟨by rw[sk.o];exact .inr h.1,h.2⟩) (fun _ _=>⟨rfl,rfl⟩)) (qC.keep (fun b h=>⟨by rw[sk.o];exact .inr h.1,h.2⟩) (fun _ _=>⟨rfl,rfl⟩)) qw.o Kg)
 clear hb4 qB qC ym hs3 x0 x1 x2 x3 y0 y1 y2 y3 aC aA hwr hmk sj eX;go_loopw [41] (fun idx wr=>∃(k:Nat)(vK:Value)(nL:List Value),k<=i/\idx=.int .i64 k/\Kr (zNk P w4 (w.heap.size+2) d lf ps tx w4.heap.size aZ aW ba aX vK k nL ((ks.take i).take k) wr)) (fun idx _=>i-(intOf idx).toNat)
 case atStart=>exact⟨0,_,_,Nat.zero_le _,rfl,iy⟩
 case round =>
  obtain⟨k,vK,nL,hk,rfl,HL⟩:=hrel;clear iy;have hbr:=uY.o.trans (HL.o.below.mono Kb);by_cases hlt:k<i
  ·          obtain⟨m,b,o,lf1,cI,cP,cJ,cK,cQ,cL,cM,cR,kc1,hm,rfl,hbg,cV,c0,c1,c2,c3⟩:=(bU.o.below hbr).at_ (show k<ks.length by omega)
             have hsz:=hbr.size
             have jx:=HL.o.o
             have jh:=lt_of_block jx
             have HM:=hd hm
             obtain⟨A,cap,rfl,hkc,hcm,_⟩:=zC9 HL.o.row
             obtain⟨p0,p1,p2,p3,g0,g1,g2,g3⟩:=zJ jx
             obtain⟨wk,hwk⟩:∃wk,wk=(wr.alloc (.cells #[.bool lf1,.slice cI cP cJ,.slice cK cQ cL,.slice cM cR kc1] 26)).drew:=⟨_,rfl⟩
             have hbk:Below wr.heap.size wr wk:=hwk▸(Kl.alloc Km _).drew
             have HC:=hd (zEy d wk _ m (((cV.more hsz).below hbk).more hbk.size))
             have eJ:=hd hbk
             have lR:=HL.o.apart
             have hbs:=HL.o.bs
             have hbl:=HL.o.below.size
             have qD:=hd (show(ks.take i).take k++[m]=(ks.take i).take (k+1)from((zPd (by rw[List.getElem?_take,if_pos hlt];exact HM.o)).symm))
             obtain⟨i0,hi,hz0,hz1,hz2⟩:=info_parts zJj
             subst hwk
             clear cV hbk hm jx hbr
             go_upto_block 1 with fail
             go_cut [41] (fun s wx=>s=.int .i64 k/\∃(qE:Value)(iK:List Value),Kr (zNk P w4 (w.heap.size+2) d lf ps tx w4.heap.size aZ aW ba aX qE (k+1) iK ((ks.take i).take (k+1)) wx))
             case first=>
              go_wp2_with fail
              go_region_law(first
                |((go_simp;go_at_call 41;refine HC.o.mono ?_;intro e w5 h5;obtain⟨v5,rfl,mB,aY⟩:=h5;obtain⟨lf5,nM,nN,nO,nP,nQ,nR,nS,nT,nU,rfl⟩:=(mB.at_ (B:=w5.heap.size) (fun b hb=>hb.2)).val;obtain⟨hs5,eY⟩:=zIk aY;have qF:=hd ((eY w4.heap.size jh).trans HL.o.o);obtain⟨r0,r1,r2,r3,r4,r5,r6,r7⟩:=zJ qF.o;have yr:w4.heap.size<w5.heap.size:=Kb;have fX:=hd (zG5 HL.o.row eY);have qG:=hd eY;clear eY;have gV:=hd aY;have qH:=hd mB;clear mB aY))
                |((refine step_append_lies _ Ke (.tmp 46) (.tmp 49) _ Ke (w.heap.size+2) 26 i0 _ 4 80 Tryz.underlying24 hi hz0 hz1 hz2 rfl Kb (.slice A (k) cap) (k) (nL.flatMap fun u=>u.cells.toList) (by first|rfl|simp[Act.eval]) (fX.o.alloc _) ⟨w5.heap.size,0,none⟩ 1 1 [.bool lf5,.slice nM nN nO,.slice nP nQ nR,.slice nS nT nU] (by first|rfl|simp[Act.eval]) Ke (World.news_of_block (cs:=#[.bool lf5,.slice nM nN nO,.slice nP nQ nR,.slice nS nT nU]) (t:=26) (fr:=(0,0)) (heap_alloc_new w5 _)) (by simp[Value.oneCell']) Kb Kg Kb Kf (w5.heap.size+1) Kc ?_;intro g6 bz w6 aT au bO nI;have iw:=hd (kAr au qF.o lR);obtain⟨s0,s1,s2,s3,s4,s5,s6,s7⟩:=zJ iw.o;have nJ:=lt_of_block iw.o)))
              all_goals
               have HST:=hd (zOh HL.o eJ.o gV.o qH.o au aT bO)
               rw[qD.o]at HST
               clear au aT bO s0 s1 s2 s3 s4 s5 s6 s7 r0 r1 r2 r3 r4 r5 r6 r7 fX qF iw qG gV qH p0 p1 p2 p3 g0 g1 g2 g3 c0 c1 c2 c3
               go_wp2_with fail
               go_meet
               exact⟨rfl,_,_,HST⟩
             case rest=>
              obtain⟨rfl,qE,iK,HST⟩:=hcut;clear p0 p1 p2 p3 g0 g1 g2 g3 c0 c1 c2 c3;go_wp2
              go_roundw
              case rel=>exact⟨k+1,qE,iK,by omega,by go_num,HST⟩
              case measure=>simp[intOf];omega
  ·obtain rfl : k =i:=Kb;clear hlt;have lT:=HL;rw[List.take_of_length_le (by rw[List.length_take];omega)]at lT;clear HL;obtain⟨A,cap,rfl,DC,DD,_⟩:=zC9 lT.o.row;have Bd:=hd lT.o.row;have Be:=hd (HO.o.cells.below hbr);have vF:=hd HO.o.flat;have yt:=lT.o.bs;have DF:=lT.o.below.size;obtain⟨p0,p1,p2,p3,g0,g1,g2,g3⟩:=zJ lT.o.o;have uv:=hd lT.o.o;have jv:=hd lT.o.apart;have yu:=lt_of_block lT.o.o;have qI:=hd hbr;clear hbr;go_wp2_with(at_builtin;refine zK7 zWg _ rfl (.tmp 54) (.tmp 55) rfl (w.heap.size+2) (.slice A k cap) k (nL.flatMap fun u=>u.cells.toList) rfl Bd.o OA no oc w.heap.size (us.flatMap fun u=>u.cells.toList) rfl (by rw[vF.o.1,yl.o]) Be.o vF.o.2 Kg Kb Kb ?_;intro A6 c6 w6 aT au bO;have iw:=hd ((au.block w4.heap.size yu (fun e=>jv.o e.symm)).trans uv.o);obtain⟨s0,s1,s2,s3,s4,s5,s6,s7⟩:=zJ iw.o;have nJ:=lt_of_block iw.o;have cC:=hd aT;have lU:=hd au;have mY:=hd bO;clear aT au bO)
   have ay:=hd (zOg lT.o (by rw[yl.o]) HO.o.len Kl lU.o cC.o mY.o (fun j m hj=>by
    obtain⟨u,h1,h2⟩:=HO.o.trees j m hj;refine⟨u,h1,h2.keep (fun b hb=>⟨by rw[sk.o];exact .inl hb,?_,?_,?_⟩) (fun p hp=>⟨qI.o.cell (HQ.o _ hp),qI.o.frozen (HQ.o _ hp)⟩)⟩
    ·have:=HQ.o b hb;have:=qI.o.size;omega
    ·have:=HQ.o b hb;omega
    ·intro e;have:=(lT.o.row.lt b e.symm).1;have:=HQ.o b hb;omega))
   clear cC lU mY s0 s1 s2 s3 s4 s5 s6 s7 p0 p1 p2 p3 g0 g1 g2 g3 uv Bd iw Be nJ;obtain⟨wo,hwo⟩:∃wo:World,wo=wr:=⟨_,rfl⟩;subst hwo;obtain⟨uo,Bh⟩:∃uo,uo=nL++us:=⟨_,rfl⟩;rw[<-Bh]at ay;clear Bh;go_loopw [60] (fun idx wr=>∃(k2:Nat)(vK:Value)(nL:List Value),k2<=nb/\idx=.int .i64 k2/\Kr (zNk P w4 (w.heap.size+2) d lf ps tx w4.heap.size aZ aW ba aX vK (k+no+k2) nL ((ks.take k++os)++(ks.drop (k+many)).take k2) wr)) (fun idx _=>nb-(intOf idx).toNat)
   case atStart=>exact⟨0,_,uo,Nat.zero_le _,rfl,(by rw[List.take_zero,List.append_nil];exact ay)⟩
   case round =>
    obtain⟨k2,vK,nL,hk2,rfl,HL⟩:=hrel;clear ay;have hbr:=uY.o.trans (HL.o.below.mono Kb);by_cases hlt:k2<nb
    ·          obtain⟨m,b,o,lf1,cI,cP,cJ,cK,cQ,cL,cM,cR,kc1,hm,rfl,hbg,cV,c0,c1,c2,c3⟩:=(D7.o.below hbr).at_ (show k2<(ks.drop (k+many)).length by rw[Ba.o];exact hlt)
               have hsz:=hbr.size
               have jx:=HL.o.o
               have jh:=lt_of_block jx
               have HM:=hd hm
               obtain⟨A,cap,rfl,hkc,hcm,_⟩:=zC9 HL.o.row
               obtain⟨p0,p1,p2,p3,g0,g1,g2,g3⟩:=zJ jx
               obtain⟨wk,hwk⟩:∃wk,wk=(wr.alloc (.cells #[.bool lf1,.slice cI cP cJ,.slice cK cQ cL,.slice cM cR kc1] 26)).drew:=⟨_,rfl⟩
               have hbk:Below wr.heap.size wr wk:=hwk▸(Kl.alloc Km _).drew
               have HC:=hd (zEy d wk _ m (((cV.more hsz).below hbk).more hbk.size))
               have eJ:=hd hbk
               have lR:=HL.o.apart
               have hbs:=HL.o.bs
               have hbl:=HL.o.below.size
               have qD:=hd (show(ks.take k++os)++(ks.drop (k+many)).take k2++[m]=(ks.take k++os)++(ks.drop (k+many)).take (k2+1)from(by rw[List.append_assoc,<-zPd HM.o]))
               obtain⟨i0,hi,hz0,hz1,hz2⟩:=info_parts zJj
               subst hwk
               clear cV hbk hm jx hbr
               go_upto_block 3 with fail
               go_cut [60] (fun s wx=>s=.int .i64 k2/\∃(qE:Value)(iK:List Value),Kr (zNk P w4 (w.heap.size+2) d lf ps tx w4.heap.size aZ aW ba aX qE (k+no+k2+1) iK ((ks.take k++os)++(ks.drop (k+many)).take (k2+1)) wx))
               case first=>
                go_wp2_with fail
                go_region_law(first
                  |((go_simp;go_at_call 41;refine HC.o.mono ?_;intro e w5 h5;obtain⟨v5,rfl,mB,aY⟩:=h5;obtain⟨lf5,nM,nN,nO,nP,nQ,nR,nS,nT,nU,rfl⟩:=(mB.at_ (B:=w5.heap.size) (fun b hb=>hb.2)).val;obtain⟨hs5,eY⟩:=zIk aY;have qF:=hd ((eY w4.heap.size jh).trans HL.o.o);obtain⟨r0,r1,r2,r3,r4,r5,r6,r7⟩:=zJ qF.o;have yr:w4.heap.size<w5.heap.size:=Kb;have fX:=hd (zG5 HL.o.row eY);have qG:=hd eY;clear eY;have gV:=hd aY;have qH:=hd mB;clear mB aY))
                  |((refine step_append_lies _ Ke (.tmp 65) (.tmp 68) _ Ke (w.heap.size+2) 26 i0 _ 4 80 Tryz.underlying24 hi hz0 hz1 hz2 rfl Kb (.slice A (k+no+k2) cap) (k+no+k2) (nL.flatMap fun u=>u.cells.toList) (by first|rfl|simp[Act.eval]) (fX.o.alloc _) ⟨w5.heap.size,0,none⟩ 1 1 [.bool lf5,.slice nM nN nO,.slice nP nQ nR,.slice nS nT nU] (by first|rfl|simp[Act.eval]) Ke (World.news_of_block (cs:=#[.bool lf5,.slice nM nN nO,.slice nP nQ nR,.slice nS nT nU]) (t:=26) (fr:=(0,0)) (heap_alloc_new w5 _)) (by simp[Value.oneCell']) Kb Kg Kb Kf (w5.heap.size+1) Kc ?_;intro g6 bz w6 aT au bO nI;have iw:=hd (kAr au qF.o lR);obtain⟨s0,s1,s2,s3,s4,s5,s6,s7⟩:=zJ iw.o;have nJ:=lt_of_block iw.o)))
                all_goals
                 have HST:=hd (zOh HL.o eJ.o gV.o qH.o au aT bO)
                 rw[qD.o]at HST
                 clear au aT bO s0 s1 s2 s3 s4 s5 s6 s7 r0 r1 r2 r3 r4 r5 r6 r7 fX qF iw qG gV qH p0 p1 p2 p3 g0 g1 g2 g3 c0 c1 c2 c3
                 go_wp2_with fail
                 go_meet
                 exact⟨rfl,_,_,HST⟩
               case rest=>
                obtain⟨rfl,qE,iK,HST⟩:=hcut;clear p0 p1 p2 p3 g0 g1 g2 g3 c0 c1 c2 c3;go_wp2
                go_roundw
                case rel=>exact⟨k2+1,qE,iK,by omega,by go_num,HST⟩
                case measure=>simp[intOf];omega
    ·obtain rfl:k2=nb:=Kb;have pd:=HL;rw[List.take_of_length_le (l:=ks.drop (k+many)) (by rw[Ba.o];exact Nat.le_refl _)]at pd;clear HL;have lS:=pd.o.o;have ya:=lt_of_block lS;obtain⟨A8,uw,rfl,_⟩:=zC9 pd.o.row;obtain⟨p0,p1,p2,p3,_,_,_,_⟩:=zJ lS;clear lS;have hres:wr.heap[w.heap.size+1]? =some (.cells #[.bool false,.slice none 0 0,.slice none 0 0,.slice none 0 0] 26):=(pd.o.below.block _ Kb).trans fy.o;obtain⟨q0,q1,q2,q3,q4,q5,q6,q7⟩:=zJ hres;have yb:=hd hres;have aK:=hd hbr;clear hres hbr;go_wp2
     have h7:=kD (a:=.bool lf) (b:=.slice aZ ps.length aW) (c:=.slice ba tx.length aX) (d:=.slice A8 (k+no+k2) uw) yb.o;obtain⟨t0,t1,t2,t3,_,_,_,_⟩:=zJ h7;have hfit:zIo ps/\ps.length<=4398046511104/\tx.length<=35184372088832/\(ks.take k++os++ks.drop (k+many)).length<=1759218604441/\ps.length<=aW/\tx.length<=aX:=
      ⟨HF.o.1,HF.o.2.1,HF.o.2.2.1,by have:=yl.o;simp only[List.length_append,List.length_take,List.length_drop];omega,Bc.o.1,Bc.o.2⟩
     have hend:=fun w7 hs h7=>(kAq (w7:=w7) pd.o hfit hs h7).tree;refine bodyPost_ret (v:=.agg #[.bool lf,.slice aZ ps.length aW,.slice ba tx.length aX,.slice A8 (k+no+k2) uw]) (by simp[results,Tryz.results108,go_sem,t0,t1,t2,t3]) rfl ⟨_,rfl,(hend _ Kc (fun b hb _=>?_)).keep (fun b hb=>?_) (fun _ _=>⟨rfl,rfl⟩),?_⟩
     ·rw[sk.o]at hb;have:b≠w.heap.size+1:=by
       rcases hb with h|h
       ·have:=HQ.o b h;omega
       ·omega
      iterate 4 rw[Below.heap_setCell _ _ _ _ (by show b≠w.heap.size+1;exact this)]
     ·obtain⟨h1,h2⟩:=hb;rw[sk.o]at h1;rcases h1 with h|h
      ·exact⟨.inl h,h2⟩
      ·exact⟨.inr Kb,h2⟩
     ·exact(((aK.o.setCell (by show _<=w.heap.size+1;omega) _).setCell (by show _<=w.heap.size+1;omega) _).setCell (by show _<=w.heap.size+1;omega) _).setCell (by show _<=w.heap.size+1;omega) _
