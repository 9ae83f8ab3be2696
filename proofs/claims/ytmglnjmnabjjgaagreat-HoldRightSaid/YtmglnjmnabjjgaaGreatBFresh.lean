import Derived.Test.YtmglnjmnabjjgaaGreatJQPlain
set_option maxRecDepth 100000
set_option maxHeartbeats 8000000
namespace Go.Proofs.YtmglnjmnabjjgaaGreat
open Go.RowKit
variable {ops:Array Oper}{rest:List Oper}{op:Oper}{act:Act}
def zI2 (w:World)(g:Nat)(a b c d e:Value):Prop:=w.heap[g]? =some (.cells #[a,b,c,d,e] 33 (0,0))
section
variable {w w':World}{g:Nat}{a b c d e:Value}
theorem zI2.lt (h:zI2 w g a b c d e):g<w.heap.size:=xlt h
theorem zI2.keep (h:zI2 w g a b c d e)(hb:Below w.heap.size w w'):zI2 w' g a b c d e:=zI1 h hb
theorem zI2.off {g':Nat}(h:zI2 w g a b c d e)(ho:Off g' w w')(hne:g≠g'):zI2 w' g a b c d e:=(ho.block g h.lt hne).trans h
theorem zI2.cells (h:zI2 w g a b c d e):w.cell? ⟨g,0,none⟩=some a/\w.cell? ⟨g,1,none⟩=some b/\w.cell? ⟨g,2,none⟩=some c/\w.cell? ⟨g,3,none⟩=some d/\w.cell? ⟨g,4,none⟩=some e:=kGy h
theorem zI2.range (h:zI2 w g a b c d e):w.rangeAt g 0 [a,b,c,d,e]:=fun j v hv=>by
 rw[Nat.zero_add,cell_of_row _ _ j _ _ (0,0) h];simpa using hv
end
theorem zIm {w:World}{Q:Exit->Act->World->Prop}{g:Nat}{a b c d e:Value}(h:zI2 w g a b c d e)
  (x:Operand) (ho:op.op=.load 33 x) (hgd:op.guard=none) (hx:act.eval x=.pointer (some ⟨g,0,none⟩)) (hk:wpList Tryz.prog ops Q rest (act.put op.dst (.agg #[a,b,c,d,e])) w):wpList Tryz.prog ops Q (op::rest) act w:=by
 obtain⟨d,h1,h2,h3⟩:=zD4;exact wpList_load_mid hgd 33 x ho g 0 hx _ d h.range h1 h2 h3 hk
theorem zHc {W:World}{Q:Exit->Act->World->Prop}{g:Nat}{a b c d e a' b' c' d' e':Value}(h:zI2 W g a b c d e)(x y:Operand)(ho:op.op=.store 33 x y)(hgd:op.guard=none)(hd:op.dst=none)(hx:act.eval x=.pointer (some ⟨g,0,none⟩))(hy:act.eval y=.agg #[a',b',c',d',e'])(h1:#[a',b',c',d',e'].all (·.oneCell')=true)
  (hk:∀W',zI2 W' g a' b' c' d' e'->Off g W W'->wpList Tryz.prog ops Q rest act W'):wpList Tryz.prog ops Q (op::rest) act W:=by
 obtain⟨d,h3,h4,h5⟩:=zD4;refine wpList_store_row hgd 33 x y ho g _ hx hy 33 _ h h5 rfl h1 ?_;rw[hd];exact hk _ (setRow_heap _ _ _ _ _ (0,0) h) (zKw _ _ _ _ _ h)
theorem zP6 {fn:Func}{p:Tmp}(h:fn.results=#[.cell p 33])(tmps:Array Value)(w:World){g:Nat}{a b c d e:Value}(hv:zI2 w g a b c d e)(hp:tmps.getD p undef=.pointer (some ⟨g,0,none⟩)):(results fn tmps).run Tryz.prog w=.ok (.agg #[a,b,c,d,e]) w:=by
 obtain⟨d,h3,h4,h5⟩:=zD4;exact results_cell_row h tmps w g _ _ _ d hp hv h3 (by cases d<;>simp_all) h5
theorem zY {ty:TypeId}{n:Nat}(hsz:(Tryz.prog.info? ty).map (·.size)=some n){a:Act}{W:World}{K:Act->World->Prop}{Q:Exit->Act->World->Prop}{g:Nat}{cs:Array Value}{t:TypeId}(h:W.heap[g]? =some (.cells cs t (0,0)))(x y:Operand)(ho:op.op=.store ty x y)(hd:op.dst=none)
  (j:Nat) (v:Value) (vs:List Value) (hx:a.eval x=.pointer (some ⟨g,j,none⟩)) (hy:a.eval y=v) (hv:v.cells=vs.toArray) (hn:vs.length=n) (h1:∀u ∈ vs,u.oneCell'=true) (hj:j+vs.length<=cs.size)
  (hk:∀W',W'.heap[g]? =some (.cells (zU4 cs j vs) t (0,0))->Off g W W'->K a W'):Oper.wp Tryz.prog op a W K Q:=by
 have hcell:∀i,i<vs.length->(W.cell? ⟨g,j+i,none⟩).isSome=true/\W.frozen? ⟨g,j+i,none⟩=false:=fun i hi=>by
  refine⟨?_,by simp[World.frozen?,h]⟩;have hs:j+i<cs.size:=Kb;simp[World.cell?,h,hs]
 have hrun:=run_storeCells_cells (P:=Tryz.prog) g j vs 0 W (fun i hi=>by simpa using(hcell i hi).1) (fun i hi=>by simpa using(hcell i hi).2) h1;have hst:(storeVar ty ⟨g,j,none⟩ v).run Tryz.prog W=.ok () (W.setCells g j vs):=by
  cases hq:Tryz.prog.info? ty with
  |none=>simp[hq]at hsz
  |some i=>
   have hs:i.size=vs.length:=by simp[hq]at hsz;omega
   simp only[Nat.add_zero]at hrun;simp[storeVar,sizeOf,typeInfo,hq,hv,hs,hrun]
 unfold Oper.wp execOp;simp only[ho,hx,hy,Instr.storeAt,Instr.sureAddr,Sem.run_bind,Sem.run_pure,Result.andThen_ok,hst];obtain⟨r1,r2⟩:=zHr g _ vs j W _ h;show K (a.put op.dst undef) _
 rw[hd];exact hk _ r1 r2
def kMx (w:World)(si:Bool)(n:Nat)(x:Int)(m:Nat)(y:Int)(s:Sl)(e:Ending)(w':World):Prop:=
 ∃A c B d,e=.returned (.agg #[.bool si,.slice A n c,.int .i64 x,.slice B m d,.int .i64 y])/\zH3 w.heap.size w' (fun W=>zIi W si A n c x B m d y s)/\Below w.heap.size w w'
theorem kF3 {W:World}{c:OC}{a:OpP}(h:OkA W c a):Calls Tryz.prog 41 #[.agg #[.bool c.lf,.slice c.P c.np c.pc,.slice c.X c.nt c.tc,.slice c.K c.nk c.kc]] W (fun e w'=>∃lf P np pc X nt tc K nk kc,e=.returned (.agg #[.bool lf,.slice P np pc,.slice X nt tc,.slice K nk kc])/\
  zH3 W.heap.size w' (fun W'=>∃d,zV d W' W'.heap.size (.agg #[.bool lf,.slice P np pc,.slice X nt tc,.slice K nk kc]) a.n)/\Below W.heap.size W w'):=by
 obtain⟨d,h1⟩:=h.hn;refine(zEy d W _ _ h1).mono ?_;rintro e w' ⟨v,rfl,ht,hb⟩;have hv:=(ht.at_ (B:=w'.heap.size) (fun b hb=>hb.2)).val;obtain⟨lf,P,np,pc,X,nt,tc,K,nk,kc,rfl⟩:=hv;refine⟨lf,P,np,pc,X,nt,tc,K,nk,kc,rfl,fun W' ho=>⟨d,?_⟩,hb⟩;refine(ht.keep (Q:=fun b=>b<W'.heap.size) (fun b hb=>Nat.lt_of_lt_of_le hb.2 ho.size) (fun p hp=>?_)).at_ (fun b hb=>hb);exact⟨ho.cell hp.1 hp.2,ho.frozen hp.1 hp.2⟩
theorem zLn {w:World}{si:Bool}{A B:Option Addr}{n c m d:Nat}{x y:Int}{s:Sl}(h:zIi w si A n c x B m d y s)(h1:n<=1000)(h2:m<=1000):
  Calls Tryz.prog 140 #[.agg #[.bool si,.slice A n c,.int .i64 x,.slice B m d,.int .i64 y]] w (kMx w si n x m y s):=by
 obtain⟨W0,hW⟩:∃W0,(w.alloc (.cells #[.bool si,.slice A n c,.int .i64 x,.slice B m d,.int .i64 y] 33)).alloc (.cells #[.bool false,.slice none 0 0,.int .i64 0,.slice none 0 0,.int .i64 0] 33)=W0:=⟨_,rfl⟩;have hb0:Below w.heap.size w W0:=hW▸kM Kk Kl;have e0:=zK2 w (Obj.cells #[.bool si,.slice A n c,.int .i64 x,.slice B m d,.int .i64 y] 33) (Obj.cells #[.bool false,.slice none 0 0,.int .i64 0,.slice none 0 0,.int .i64 0] 33);rw[hW]at e0;have av:=hd (show zI2 W0 w.heap.size _ _ _ _ _ from e0.1);have ah:=hd (show zI2 W0 (w.heap.size+1) _ _ _ _ _ from e0.2);have HW:=hd hW;have HB:=hd hb0;have HH:=hd h;clear hW hb0 e0 h;go_enter Tryz.func140,Tryz.ntmps140
 go_upto_region 1 with fail
 rw[HW.o];refine jO (S:=fun W=>zI2 W w.heap.size (.bool si) (.slice A n c) (.int .i64 x) (.slice B m d) (.int .i64 y)) (z:=fun j=>decide (10<=j)) Ka ?_;have aa:=hd (show zI2 W0.drew w.heap.size (.bool si) (.slice A n c) (.int .i64 x) (.slice B m d) (.int .i64 y)from av.o);refine Kn 0 17 (.pointer (some ⟨w.heap.size,1,none⟩)) (fun W hW=>?_) aa.o ?_
 ·skip
  go_simp
 simp only[Act.put,List.setIfInBounds_toArray];refine Kn 1 16 (.pointer (some ⟨w.heap.size,1,none⟩)) (fun W hW=>?_) aa.o ?_
 ·skip
  go_simp
 simp only[Act.put];refine Kn 2 15 (.pointer (some ⟨w.heap.size,1,none⟩)) (fun W hW=>?_) aa.o ?_
 ·skip
  go_simp
 simp only[Act.put];refine Kn 3 14 (.slice A n c) (fun W hW=>?_) aa.o ?_
 ·obtain⟨_,y1,_,_,_⟩:=zI2.cells hW;go_simp
 simp only[Act.put];refine Kn 5 13 (.pointer (some ⟨w.heap.size,1,none⟩)) (fun W hW=>?_) aa.o ?_
 ·skip
  go_simp
 simp only[Act.put];refine Kn 6 12 (.pointer (some ⟨w.heap.size,3,none⟩)) (fun W hW=>?_) aa.o ?_
 ·skip
  go_simp
 simp only[Act.put];refine Kn 7 11 (.pointer (some ⟨w.heap.size,3,none⟩)) (fun W hW=>?_) aa.o ?_
 ·skip
  go_simp
 simp only[Act.put];refine Kn 8 10 (.slice B m d) (fun W hW=>?_) aa.o ?_
 ·obtain⟨_,_,_,y3,_⟩:=zI2.cells hW;go_simp
 simp only[Act.put];refine Kp 4 9 (fun K hK=>?_);rw[if_pos Ke];go_simp;go_at_call 77
 refine(zFz A s.a.1 n c _ HH.o.hn h1 ((HH.o.hA.later HB.o).later (Kk.drew))).mono ?_;rintro e w5 ⟨A5,c5,rfl,qJ,hs5,bv⟩;have aJ:Below W0.heap.size W0 w5:=(Kk.drew).trans bv;have aa:=hd (av.o.keep aJ);refine hK _ _ (fun _=>aa.o) ?_;clear hK K;refine zDd (i:=10) (n:=8) (.pointer (some ⟨w.heap.size,1,none⟩)) rfl rfl Ka Ka Ka (fun _ _ _ h=>h) Ke (fun W=>?_) ?_
 ·go_simp
 simp only[Act.put];refine zDd (i:=11) (n:=7) (.pointer (some ⟨w.heap.size,1,none⟩)) rfl rfl Ka Ka Ka (fun _ _ _ h=>h) Ke (fun W=>?_) ?_
 ·go_simp
 simp only[Act.put];refine zDd (i:=12) (n:=6) (.pointer (some ⟨w.heap.size,1,none⟩)) rfl rfl Ka Ka Ka (fun _ _ _ h=>h) Ke (fun W=>?_) ?_
 ·go_simp
 simp only[Act.put];refine Kp 9 5 (fun K hK=>?_);rw[if_pos Ke];go_simp;go_at_call 77
 refine(zFz B s.f.1 m d _ HH.o.hm h2 ((HH.o.hB.later HB.o).later aJ)).mono ?_;rintro e w6 ⟨B6,d6,rfl,qK,nJ,ed⟩;have hg1:=av.o.lt;have hg2:=ah.o.lt;have lv:=aJ.size;have vT:=ed.size;have cI:=hd (((hs5.more (show W0.heap.size<=W0.drew.heap.size from Nat.le_refl _)).high (zA5.below ed)));have qL:=hd (nJ.more lv);have av:=hd (aa.o.keep ed);have ah:=hd ((ah.o.keep aJ).keep ed);have HB:=hd (HB.o.trans ((aJ.trans (ed.mono lv)).mono HB.o.size));clear bv hs5 nJ;refine hK _ _ (fun _=>av.o) ?_;clear hK K aa;refine Kp 13 4 (fun K hK=>?_);rw[if_pos Ke];refine zY zCa av.o _ _ rfl rfl 1 _ [.slice A5 n c5] rfl rfl rfl rfl (zHt rfl) Km ?_;intro W7 bk aI;refine hK _ _ (fun h=>absurd h Kd) ?_;clear hK K;refine zDd (i:=14) (n:=3) (.pointer (some ⟨w.heap.size,1,none⟩)) rfl rfl Ka Ka Ka (fun _ _ _ h=>h) Ke (fun W=>?_) ?_
 ·go_simp
 simp only[Act.put];refine zDd (i:=15) (n:=2) (.pointer (some ⟨w.heap.size,3,none⟩)) rfl rfl Ka Ka Ka (fun _ _ _ h=>h) Ke (fun W=>?_) ?_
 ·go_simp
 simp only[Act.put];refine zDd (i:=16) (n:=1) (.pointer (some ⟨w.heap.size,3,none⟩)) rfl rfl Ka Ka Ka (fun _ _ _ h=>h) Ke (fun W=>?_) ?_
 ·go_simp
 simp only[Act.put];refine Kp 17 0 (fun K hK=>?_);rw[if_pos Ke];refine zY zCa bk _ _ rfl rfl 3 _ [.slice B6 m d6] rfl rfl rfl rfl (zHt rfl) Km ?_;intro W8 bz aQ;refine hK _ _ (fun h=>absurd h Kd) (zAl Ka ?_);clear hK K;have HO:=hd (aI.trans aQ);have av:=hd (show zI2 W8 w.heap.size (.bool si) (.slice A5 n c5) (.int .i64 x) (.slice B6 m d6) (.int .i64 y)from bz);have ah:=hd (ah.o.off HO.o Kb);have HB:=hd (zN HB.o HO.o Kl);clear bk aI bz aQ;go_wp2_with(first
  |((with_reducible refine zC (ty:=33) ?_);refine zIm av.o _ rfl rfl rfl ?_)
  |((with_reducible refine zF (ty:=33) (x:=.tmp 2) ?_);refine zHc ah.o _ _ rfl rfl rfl rfl rfl Ka ?_;intro W9 ak ag;have ah:=hd ak;have jy:=hd ag;clear ak ag))
 have hh:=HH.o;have hlo:w.heap.size+1<W0.heap.size:=Kb;have hhi:zA5 W0.heap.size w6 W9:=(zA5.off HO.o Kb).trans (zA5.off jy.o hlo);refine bodyPost_ret (zP6 Tryz.results140 _ _ ah.o rfl) rfl ⟨A5,c5,B6,d6,rfl,fun W hoff=>?_,zN HB.o jy.o (Nat.le_succ _)⟩;have hx:=hhi.trans (hoff.mono Kb);exact⟨hh.his,hh.hx,hh.hy,hh.hn,hh.hm,qJ,qK,hh.hmn,hh.hmm,cI.o W hx,qL.o W hx⟩
theorem zFh (w:World)(c:OC)(a:OpP)(ha:OkA w c a)(ta:zAf a):Calls Tryz.prog 113 #[.agg c.row] w (kLw w a):=by
 have aY:c.lq<=1000:=by have:=ta.hq;have:=ha.hlq;omega
 have hl2:c.lt<=1000:=by have:=ta.ht;have:=ha.hlt;omega
 have cj:c.f1<=1000:=by have:=ta.hfa;have:=ha.hf.hn;omega
 have hl4:c.f2<=1000:=by have:=ta.hff;have:=ha.hf.hm;omega
 have vU:c.g1<=1000:=by have:=ta.hga;have:=ha.hg.hn;omega
 have lw:c.g2<=1000:=by have:=ta.hgf;have:=ha.hg.hm;omega
 obtain⟨W0,hW,hb0,hsz,e1,e2⟩:=zBb w c;have av:=hd e1;have ah:=hd e2;have HW:=hd hW;have HB:=hd hb0;have HH:=hd ha;have cM:=hd hsz;clear hW hb0 e1 e2 ha ta hsz;go_enter Tryz.func113,Tryz.ntmps113
 go_upto_region 1 with fail
 rw[HW.o];refine jO (S:=fun W=>jR W w.heap.size c) (z:=fun j=>decide (6<=j)) Ka ?_;have aa:=hd (show jR (World.drew W0) w.heap.size c from av.o);refine Kn 0 9 (.pointer (some ⟨w.heap.size,1,none⟩)) (fun W hW=>?_) aa.o ?_
 ·skip
  go_simp
 simp only[Act.put,List.setIfInBounds_toArray];refine Kn 1 8 (.slice c.Q c.lq c.cq) (fun W hW=>?_) aa.o ?_
 ·have y1:=jR.cq hW;go_simp
 simp only[Act.put];refine Kn 3 7 (.pointer (some ⟨w.heap.size,2,none⟩)) (fun W hW=>?_) aa.o ?_
 ·skip
  go_simp
 simp only[Act.put];refine Kn 4 6 (.slice c.T c.lt c.ct) (fun W hW=>?_) aa.o ?_
 ·have y1:=jR.ct hW;go_simp
 simp only[Act.put];refine Kp 2 5 (fun K hK=>?_);rw[if_pos Ke];go_simp;go_at_call 77
 have HX:=hd (HH.o.later (HB.o.trans (((Below.refl W0.heap.size W0).drew).mono HB.o.size)));refine(zFz c.Q a.q c.lq c.cq _ HH.o.hlq aY HX.o.hq).mono ?_;rintro e vV ⟨Aq,cq,rfl,hcq,tO,hbb⟩;have aJ:Below W0.heap.size W0 vV:=(Kk.drew).trans hbb;have aa:=hd (aa.o.keep hbb);refine hK _ _ (fun _=>aa.o) ?_;clear hK K hbb;refine zDd (i:=6) (n:=4) (.pointer (some ⟨w.heap.size,1,none⟩)) rfl rfl Ka Ka Ka (fun _ _ _ h=>h) Ke (fun W=>?_) ?_
 ·go_simp
 simp only[Act.put];have HX:=hd (HH.o.later (HB.o.trans (aJ.mono HB.o.size)));refine Kp 5 3 (fun K hK=>?_);rw[if_pos Ke];go_simp;go_at_call 77
 refine(zFz c.T a.t c.lt c.ct _ HH.o.hlt hl2 HX.o.ht).mono ?_;rintro e tP ⟨At,ct,rfl,hct,hst,hbb⟩;have hz0:=HB.o.size;have hz1:=aJ.size;have hz2:=hbb.size;have hg1:=av.o.lt;have hg2:=ah.o.lt;have hlo:=cM.o;have HG:=hd (show W0.heap.size<=W0.heap.size by exact Nat.le_refl _);have cA:=hd ((tO.more (show W0.heap.size<=(World.drew W0).heap.size from HG.o)).high (zA5.below hbb));have cB:=hd (hst.more (Nat.le_trans HG.o hz1));have av:=hd (aa.o.keep hbb);have ah:=hd ((ah.o.keep aJ).keep hbb);have bA:=aJ.trans (hbb.mono hz1);have HB:=hd (HB.o.trans (bA.mono HB.o.size));have HG:=hd (show W0.heap.size<=tP.heap.size from Nat.le_trans HG.o bA.size);clear aJ hbb bA tO hst;refine hK _ _ (fun _=>av.o) ?_;clear hK K aa;refine Kp 7 2 (fun K hK=>?_);rw[if_pos Ke];refine zY zCa av.o _ _ rfl rfl 1 _ [.slice Aq c.lq cq] rfl rfl rfl rfl Kh Km ?_;intro vW bk aI;have bk:jR vW w.heap.size {c with Q:=Aq,cq:=cq}:=bk;refine hK _ _ (fun h=>absurd h Kd) ?_;clear hK K;refine zDd (i:=8) (n:=1) (.pointer (some ⟨w.heap.size,2,none⟩)) rfl rfl Ka Ka Ka (fun _ _ _ h=>h) Ke (fun W=>?_) ?_
 ·go_simp
 simp only[Act.put];refine Kp 9 0 (fun K hK=>?_);rw[if_pos Ke];refine zY zCa bk _ _ rfl rfl 2 _ [.slice At c.lt ct] rfl rfl rfl rfl Kh Km ?_;intro iH bz aQ;have bz:jR iH w.heap.size {c with Q:=Aq,cq:=cq,T:=At,ct:=ct}:=bz;refine hK _ _ (fun h=>absurd h Kd) (zAl Ka ?_);clear hK K;have ho:=aI.trans aQ;have av:=hd bz;have ah:=hd (ah.o.off ho (Nat.succ_ne_self _));have HB:=hd (zN HB.o ho Kl);have hhi:zA5 W0.heap.size tP iH:=zA5.off ho Kb;have bP:=hd (cA.o.high hhi);have bQ:=hd (cB.o.high hhi);have HG:=hd (Nat.le_trans HG.o ho.size);clear hhi ho aI aQ bk bz cA cB HX hz0 hz1 hz2 hg1 hg2 hlo;go_upto_region 2 with fail
 refine jO (S:=fun W=>jR W w.heap.size {c with Q:=Aq,cq:=cq,T:=At,ct:=ct}) (z:=fun j=>decide (6<=j)) Ka ?_;have aa:=hd (show jR (World.drew iH) w.heap.size {c with Q:=Aq,cq:=cq,T:=At,ct:=ct}from av.o);refine Kn 0 9 (.pointer (some ⟨w.heap.size,8,none⟩)) (fun W hW=>?_) aa.o ?_
 ·skip
  go_simp
 simp only[Act.put,List.setIfInBounds_toArray];refine Kn 1 8 (.slice c.O c.no c.co) (fun W hW=>?_) aa.o ?_
 ·have y1:=jR.co hW;go_simp
 simp only[Act.put];refine Kn 3 7 (.pointer (some ⟨w.heap.size,9,none⟩)) (fun W hW=>?_) aa.o ?_
 ·skip
  go_simp
 simp only[Act.put];refine Kn 4 6 (.slice c.W c.nw c.cw) (fun W hW=>?_) aa.o ?_
 ·have y1:=jR.cw hW;go_simp
 simp only[Act.put];refine Kp 2 5 (fun K hK=>?_);rw[if_pos Ke];go_simp;go_at_call 138
 have HX:=hd (HH.o.later (HB.o.trans (((Below.refl iH.heap.size iH).drew).mono HB.o.size)));refine(zQe c.O a.o c.no c.co _ HH.o.hno HH.o.hmo HX.o.ho).mono ?_;rintro e vX ⟨Ao,co,rfl,hco,tQ,hbb⟩;have aJ:Below iH.heap.size iH vX:=(Kk.drew).trans hbb;have aa:=hd (aa.o.keep hbb);refine hK _ _ (fun _=>aa.o) ?_;clear hK K hbb;refine zDd (i:=6) (n:=4) (.pointer (some ⟨w.heap.size,8,none⟩)) rfl rfl Ka Ka Ka (fun _ _ _ h=>h) Ke (fun W=>?_) ?_
 ·go_simp
 simp only[Act.put];have HX:=hd (HH.o.later (HB.o.trans (aJ.mono HB.o.size)));refine Kp 5 3 (fun K hK=>?_);rw[if_pos Ke];go_simp;go_at_call 138
 refine(zQe c.W a.w c.nw c.cw _ HH.o.hnw HH.o.hmw HX.o.hw).mono ?_;rintro e tR ⟨Aw,cw,rfl,hcw,hsw,hbb⟩;have hz0:=HB.o.size;have hz1:=aJ.size;have hz2:=hbb.size;have hg1:=av.o.lt;have hg2:=ah.o.lt;have hlo:=cM.o;have HG:=hd (show W0.heap.size<=iH.heap.size by exact HG.o);have cA:=hd ((tQ.more (show W0.heap.size<=(World.drew iH).heap.size from HG.o)).high (zA5.below hbb));have cB:=hd (hsw.more (Nat.le_trans HG.o hz1));have av:=hd (aa.o.keep hbb);have ah:=hd ((ah.o.keep aJ).keep hbb);have bA:=aJ.trans (hbb.mono hz1);have HB:=hd (HB.o.trans (bA.mono HB.o.size));have bP:=hd (bP.o.high (zA5.below bA));have bQ:=hd (bQ.o.high (zA5.below bA));have HG:=hd (show W0.heap.size<=tR.heap.size from Nat.le_trans HG.o bA.size);clear aJ hbb bA tQ hsw;refine hK _ _ (fun _=>av.o) ?_;clear hK K aa;refine Kp 7 2 (fun K hK=>?_);rw[if_pos Ke];refine zY zCq av.o _ _ rfl rfl 8 _ [.slice Ao c.no co] rfl rfl rfl rfl Kh Km ?_;intro vY bk aI;have bk:jR vY w.heap.size {c with Q:=Aq,cq:=cq,T:=At,ct:=ct,O:=Ao,co:=co}:=bk;refine hK _ _ (fun h=>absurd h Kd) ?_;clear hK K;refine zDd (i:=8) (n:=1) (.pointer (some ⟨w.heap.size,9,none⟩)) rfl rfl Ka Ka Ka (fun _ _ _ h=>h) Ke (fun W=>?_) ?_
 ·go_simp
 simp only[Act.put];refine Kp 9 0 (fun K hK=>?_);rw[if_pos Ke];refine zY zCq bk _ _ rfl rfl 9 _ [.slice Aw c.nw cw] rfl rfl rfl rfl Kh Km ?_;intro iI bz aQ;have bz:jR iI w.heap.size {c with Q:=Aq,cq:=cq,T:=At,ct:=ct,O:=Ao,co:=co,W:=Aw,cw:=cw}:=bz;refine hK _ _ (fun h=>absurd h Kd) (zAl Ka ?_);clear hK K;have ho:=aI.trans aQ;have av:=hd bz;have ah:=hd (ah.o.off ho (Nat.succ_ne_self _));have HB:=hd (zN HB.o ho Kl);have hhi:zA5 W0.heap.size tR iI:=zA5.off ho Kb;have dz:=hd (cA.o.high hhi);have dA:=hd (cB.o.high hhi);have bP:=hd (bP.o.high hhi);have bQ:=hd (bQ.o.high hhi);have HG:=hd (Nat.le_trans HG.o ho.size);clear hhi ho aI aQ bk bz cA cB HX hz0 hz1 hz2 hg1 hg2 hlo;go_upto_region 3 with fail
 refine jO (S:=fun W=>jR W w.heap.size {c with Q:=Aq,cq:=cq,T:=At,ct:=ct,O:=Ao,co:=co,W:=Aw,cw:=cw}) (z:=fun j=>decide (6<=j)) Ka ?_;have aa:=hd (show jR (World.drew iI) w.heap.size {c with Q:=Aq,cq:=cq,T:=At,ct:=ct,O:=Ao,co:=co,W:=Aw,cw:=cw}from av.o);refine Kn 0 9 (.pointer (some ⟨w.heap.size,10,none⟩)) (fun W hW=>?_) aa.o ?_
 ·skip
  go_simp
 simp only[Act.put,List.setIfInBounds_toArray];refine Kn 1 8 (.slice c.S c.nx c.cx) (fun W hW=>?_) aa.o ?_
 ·have y1:=jR.cx hW;go_simp
 simp only[Act.put];refine Kn 3 7 (.pointer (some ⟨w.heap.size,4,none⟩)) (fun W hW=>?_) aa.o ?_
 ·skip
  go_simp
 simp only[Act.put];refine Kn 4 6 (.agg #[.bool c.lf,.slice c.P c.np c.pc,.slice c.X c.nt c.tc,.slice c.K c.nk c.kc]) (fun W hW=>?_) aa.o ?_
 ·obtain⟨y1,y2,y3,y4⟩:=jR.cn hW;go_simp
 simp only[Act.put];refine Kp 2 5 (fun K hK=>?_);rw[if_pos Ke];go_simp;go_at_call 139
 have HX:=hd (HH.o.later (HB.o.trans (((Below.refl iI.heap.size iI).drew).mono HB.o.size)));refine(zX3 c.S a.x c.nx c.cx _ HH.o.hnx HH.o.hmx HX.o.hx).mono ?_;rintro e vZ ⟨Ax,cx,rfl,hcx,pH,hbb⟩;have aJ:Below iI.heap.size iI vZ:=(Kk.drew).trans hbb;have aa:=hd (aa.o.keep hbb);refine hK _ _ (fun _=>aa.o) ?_;clear hK K hbb;refine zDd (i:=6) (n:=4) (.pointer (some ⟨w.heap.size,10,none⟩)) rfl rfl Ka Ka Ka (fun _ _ _ h=>h) Ke (fun W=>?_) ?_
 ·go_simp
 simp only[Act.put];have HX:=hd (HH.o.later (HB.o.trans (aJ.mono HB.o.size)));refine Kp 5 3 (fun K hK=>?_);rw[if_pos Ke];go_simp;go_at_call 41
 refine(kF3 HX.o).mono ?_;rintro e tS ⟨lf,P,np,pc,X,nt,tc,K2,nk,kc,rfl,tT,hbb⟩;have hz0:=HB.o.size;have hz1:=aJ.size;have hz2:=hbb.size;have hg1:=av.o.lt;have hg2:=ah.o.lt;have hlo:=cM.o;have HG:=hd (show W0.heap.size<=iI.heap.size by exact HG.o);have cA:=hd ((pH.more (show W0.heap.size<=(World.drew iI).heap.size from HG.o)).high (zA5.below hbb));have cB:=hd (tT.more (Nat.le_trans HG.o hz1));have av:=hd (aa.o.keep hbb);have ah:=hd ((ah.o.keep aJ).keep hbb);have bA:=aJ.trans (hbb.mono hz1);have HB:=hd (HB.o.trans (bA.mono HB.o.size));have bP:=hd (bP.o.high (zA5.below bA));have bQ:=hd (bQ.o.high (zA5.below bA));have dz:=hd (dz.o.high (zA5.below bA));have dA:=hd (dA.o.high (zA5.below bA));have HG:=hd (show W0.heap.size<=tS.heap.size from Nat.le_trans HG.o bA.size);clear aJ hbb bA pH tT;refine hK _ _ (fun _=>av.o) ?_;clear hK K aa;refine Kp 7 2 (fun K hK=>?_);rw[if_pos Ke];refine zY zFu av.o _ _ rfl rfl 10 _ [.slice Ax c.nx cx] rfl rfl rfl rfl Kh Km ?_;intro wh bk aI;have bk:jR wh w.heap.size {c with Q:=Aq,cq:=cq,T:=At,ct:=ct,O:=Ao,co:=co,W:=Aw,cw:=cw,S:=Ax,cx:=cx}:=bk;refine hK _ _ (fun h=>absurd h Kd) ?_;clear hK K;refine zDd (i:=8) (n:=1) (.pointer (some ⟨w.heap.size,4,none⟩)) rfl rfl Ka Ka Ka (fun _ _ _ h=>h) Ke (fun W=>?_) ?_
 ·go_simp
 simp only[Act.put];refine Kp 9 0 (fun K hK=>?_);rw[if_pos Ke];refine zY zKq bk _ _ rfl rfl 4 _ [.bool lf,.slice P np pc,.slice X nt tc,.slice K2 nk kc] rfl rfl rfl rfl Kh Km ?_;intro iJ bz aQ;have bz:jR iJ w.heap.size {c with Q:=Aq,cq:=cq,T:=At,ct:=ct,O:=Ao,co:=co,W:=Aw,cw:=cw,S:=Ax,cx:=cx,lf:=lf,P:=P,np:=np,pc:=pc,X:=X,nt:=nt,tc:=tc,K:=K2,nk:=nk,kc:=kc}:=bz;refine hK _ _ (fun h=>absurd h Kd) (zAl Ka ?_);clear hK K;have ho:=aI.trans aQ;have av:=hd bz;have ah:=hd (ah.o.off ho (Nat.succ_ne_self _));have HB:=hd (zN HB.o ho Kl);have hhi:zA5 W0.heap.size tS iJ:=zA5.off ho Kb;have gz:=hd (cA.o.high hhi);have gA:=hd (cB.o.high hhi);have bP:=hd (bP.o.high hhi);have bQ:=hd (bQ.o.high hhi);have dz:=hd (dz.o.high hhi);have dA:=hd (dA.o.high hhi);have HG:=hd (Nat.le_trans HG.o ho.size);clear hhi ho aI aQ bk bz cA cB HX hz0 hz1 hz2 hg1 hg2 hlo;go_upto_region 4 with fail
 refine jO (S:=fun W=>jR W w.heap.size {c with Q:=Aq,cq:=cq,T:=At,ct:=ct,O:=Ao,co:=co,W:=Aw,cw:=cw,S:=Ax,cx:=cx,lf:=lf,P:=P,np:=np,pc:=pc,X:=X,nt:=nt,tc:=tc,K:=K2,nk:=nk,kc:=kc}) (z:=fun j=>decide (6<=j)) Ka ?_;have aa:=hd (show jR (World.drew iJ) w.heap.size {c with Q:=Aq,cq:=cq,T:=At,ct:=ct,O:=Ao,co:=co,W:=Aw,cw:=cw,S:=Ax,cx:=cx,lf:=lf,P:=P,np:=np,pc:=pc,X:=X,nt:=nt,tc:=tc,K:=K2,nk:=nk,kc:=kc}from av.o);refine Kn 0 9 (.pointer (some ⟨w.heap.size,11,none⟩)) (fun W hW=>?_) aa.o ?_
 ·skip
  go_simp
 simp only[Act.put,List.setIfInBounds_toArray];refine Kn 1 8 (.agg #[.bool c.fi,.slice c.F1 c.f1 c.d1,.int .i64 c.fo,.slice c.F2 c.f2 c.d2,.int .i64 c.fp]) (fun W hW=>?_) aa.o ?_
 ·obtain⟨y1,y2,y3,y4,y5⟩:=jR.cf hW;go_simp
 simp only[Act.put];refine Kn 3 7 (.pointer (some ⟨w.heap.size,16,none⟩)) (fun W hW=>?_) aa.o ?_
 ·skip
  go_simp
 simp only[Act.put];refine Kn 4 6 (.agg #[.bool c.gi,.slice c.G1 c.g1 c.e1,.int .i64 c.go,.slice c.G2 c.g2 c.e2,.int .i64 c.gp]) (fun W hW=>?_) aa.o ?_
 ·obtain⟨y1,y2,y3,y4,y5⟩:=jR.cg hW;go_simp
 simp only[Act.put];refine Kp 2 5 (fun K hK=>?_);rw[if_pos Ke];go_simp;go_at_call 140
 have HX:=hd (HH.o.later (HB.o.trans (((Below.refl iJ.heap.size iJ).drew).mono HB.o.size)));refine(zLn HX.o.hf cj hl4).mono ?_;rintro e wj ⟨Af,cf,Bf,df,rfl,tU,hbb⟩;have aJ:Below iJ.heap.size iJ wj:=(Kk.drew).trans hbb;have aa:=hd (aa.o.keep hbb);refine hK _ _ (fun _=>aa.o) ?_;clear hK K hbb;refine zDd (i:=6) (n:=4) (.pointer (some ⟨w.heap.size,11,none⟩)) rfl rfl Ka Ka Ka (fun _ _ _ h=>h) Ke (fun W=>?_) ?_
 ·go_simp
 simp only[Act.put];have HX:=hd (HH.o.later (HB.o.trans (aJ.mono HB.o.size)));refine Kp 5 3 (fun K hK=>?_);rw[if_pos Ke];go_simp;go_at_call 140
 refine(zLn HX.o.hg vU lw).mono ?_;rintro e tV ⟨Ag,cg,Bg,dg,rfl,tW,hbb⟩;have hz0:=HB.o.size;have hz1:=aJ.size;have hz2:=hbb.size;have hg1:=av.o.lt;have hg2:=ah.o.lt;have hlo:=cM.o;have HG:=hd (show W0.heap.size<=iJ.heap.size by exact HG.o);have cA:=hd ((tU.more (show W0.heap.size<=(World.drew iJ).heap.size from HG.o)).high (zA5.below hbb));have cB:=hd (tW.more (Nat.le_trans HG.o hz1));have av:=hd (aa.o.keep hbb);have ah:=hd ((ah.o.keep aJ).keep hbb);have bA:=aJ.trans (hbb.mono hz1);have HB:=hd (HB.o.trans (bA.mono HB.o.size));have bP:=hd (bP.o.high (zA5.below bA));have bQ:=hd (bQ.o.high (zA5.below bA));have dz:=hd (dz.o.high (zA5.below bA));have dA:=hd (dA.o.high (zA5.below bA));have gz:=hd (gz.o.high (zA5.below bA));have gA:=hd (gA.o.high (zA5.below bA));have HG:=hd (show W0.heap.size<=tV.heap.size from Nat.le_trans HG.o bA.size);clear aJ hbb bA tU tW;refine hK _ _ (fun _=>av.o) ?_;clear hK K aa;refine Kp 7 2 (fun K hK=>?_);rw[if_pos Ke];refine zY zJu av.o _ _ rfl rfl 11 _ [.bool c.fi,.slice Af c.f1 cf,.int .i64 c.fo,.slice Bf c.f2 df,.int .i64 c.fp] rfl rfl rfl rfl Kh Km ?_;intro wm bk aI;have bk:jR wm w.heap.size {c with Q:=Aq,cq:=cq,T:=At,ct:=ct,O:=Ao,co:=co,W:=Aw,cw:=cw,S:=Ax,cx:=cx,lf:=lf,P:=P,np:=np,pc:=pc,X:=X,nt:=nt,tc:=tc,K:=K2,nk:=nk,kc:=kc,F1:=Af,d1:=cf,F2:=Bf,d2:=df}:=bk;refine hK _ _ (fun h=>absurd h Kd) ?_;clear hK K;refine zDd (i:=8) (n:=1) (.pointer (some ⟨w.heap.size,16,none⟩)) rfl rfl Ka Ka Ka (fun _ _ _ h=>h) Ke (fun W=>?_) ?_
 ·go_simp
 simp only[Act.put];refine Kp 9 0 (fun K hK=>?_);rw[if_pos Ke];refine zY zJu bk _ _ rfl rfl 16 _ [.bool c.gi,.slice Ag c.g1 cg,.int .i64 c.go,.slice Bg c.g2 dg,.int .i64 c.gp] rfl rfl rfl rfl Kh Km ?_;intro qM bz aQ;have bz:jR qM w.heap.size {c with Q:=Aq,cq:=cq,T:=At,ct:=ct,O:=Ao,co:=co,W:=Aw,cw:=cw,S:=Ax,cx:=cx,lf:=lf,P:=P,np:=np,pc:=pc,X:=X,nt:=nt,tc:=tc,K:=K2,nk:=nk,kc:=kc,F1:=Af,d1:=cf,F2:=Bf,d2:=df,G1:=Ag,e1:=cg,G2:=Bg,e2:=dg}:=bz;refine hK _ _ (fun h=>absurd h Kd) (zAl Ka ?_);clear hK K;have ho:=aI.trans aQ;have av:=hd bz;have ah:=hd (ah.o.off ho (Nat.succ_ne_self _));have HB:=hd (zN HB.o ho Kl);have hhi:zA5 W0.heap.size tV qM:=zA5.off ho Kb;have qN:=hd (cA.o.high hhi);have qO:=hd (cB.o.high hhi);have bP:=hd (bP.o.high hhi);have bQ:=hd (bQ.o.high hhi);have dz:=hd (dz.o.high hhi);have dA:=hd (dA.o.high hhi);have gz:=hd (gz.o.high hhi);have gA:=hd (gA.o.high hhi);have HG:=hd (Nat.le_trans HG.o ho.size);clear hhi ho aI aQ bk bz cA cB HX hz0 hz1 hz2 hg1 hg2 hlo;go_wp2_with(first
  |((with_reducible refine zC (ty:=35) ?_);refine zG av.o _ rfl rfl rfl ?_)
  |((with_reducible refine zF (ty:=35) (x:=.tmp 2) ?_);refine kF ah.o _ _ rfl rfl rfl rfl rfl ?_;intro W9 ak ag;have ah:=hd ak;have jy:=hd ag;clear ak ag))
 have hx:zA5 W0.heap.size qM W9:=zA5.off jy.o (by have:=cM.o;omega);have aZ:=zN HB.o jy.o (Nat.le_succ _);refine bodyPost_ret (zDv Tryz.results113 _ _ ah.o rfl) rfl ⟨_,rfl,fun W hw=>?_,aZ⟩;have hx:=hx.trans (hw.mono (by have:=cM.o;omega));obtain⟨dn,hn⟩:=gA.o W hx;have h:=HH.o;exact(OkA.mk h.hk h.hik h.hz h.hlq hcq h.hmq (bP.o W hx) h.hiq h.hlt hct h.hmt (bQ.o W hx) h.hit ⟨dn,hn⟩ h.hno hco h.hmo h.hwo (dz.o W hx) h.hnw hcw h.hmw h.hww (dA.o W hx) h.hnx hcx h.hmx (gz.o W hx) (qN.o W hx) (qO.o W hx))
