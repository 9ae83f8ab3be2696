import Derived.Test.YtmglnjmnabjjgaaGreatJOKit
set_option maxRecDepth 100000
set_option maxHeartbeats 8000000
namespace Go.Proofs.YtmglnjmnabjjgaaGreat
open Go.RowKit
variable {P:Prop}{W W' w:World}{E aff pos:Int}{u:Value}{p:List Int}{c:NC}{a:OpP}{s t:SC}{sl:Sl}{g7 g8:Nat}{n:NT}
theorem kPd {Q:Prop}(k:Q)(h:Q->P:=by
 intro kk;simp only[Act.put,List.getElem_toArray,List.getElem_cons_succ,List.getElem_cons_zero,List.setIfInBounds_toArray,List.set_cons_succ,List.set_cons_zero];exact kk):P:=h k
theorem kK4 {b:Bool}(h:decide (zDx aff)=b):Calls Tryz.prog 45 #[.int .i64 aff] W (jA (.bool b) W):=by
 subst h;by_cases h0:aff=0
 ·subst h0;go_enter Tryz.func45,Tryz.ntmps45
  go_wp2
  go_ret
  exact⟨rfl,Below.refl _ _⟩
 by_cases h1:aff=1
 ·subst h1;go_enter Tryz.func45,Tryz.ntmps45
  go_wp2
  go_ret
  exact⟨rfl,Below.refl _ _⟩
 by_cases h2:aff=2
 ·subst h2;go_enter Tryz.func45,Tryz.ntmps45
  go_wp2
  go_ret
  exact⟨rfl,Below.refl _ _⟩
 have HF:=hd (show decide (zDx aff)=false from decide_eq_false (fun h=>by unfold zDx at h;omega));have e0:(aff==0)=false:=by simp[h0]
 have e1:(aff==1)=false:=by simp[h1]
 have e2:(aff==2)=false:=by simp[h2]
 clear h0 h1 h2;go_enter Tryz.func45,Tryz.ntmps45
 go_wp2
 go_ret
 exact⟨kC HF.o.symm,Below.refl _ _⟩
theorem zH0 {off:Int}{b:Bool}(h:zEl off pos aff=b):Calls Tryz.prog 47 #[.int .i64 off,.int .i64 pos,.int .i64 aff] W (jA (.bool b) W):=by
 subst h;by_cases h0:pos<off
 ·have HF:=hd (show zEl off pos aff=true by unfold zEl;simp[h0]);have e0:decide (pos<off)=true:=decide_eq_true h0;clear h0;go_enter Tryz.func47,Tryz.ntmps47
  go_wp2
  go_ret
  exact⟨kC HF.o.symm,Below.refl _ _⟩
 have e0:decide (pos<off)=false:=decide_eq_false h0;by_cases h1:pos=off
 ·by_cases h2:aff=1
  ·have HF:=hd (show zEl off pos aff=true by unfold zEl;simp[h1,h2]);have e1:(pos==off)=true:=by simp[h1]
   have e2:(aff==1)=true:=by simp[h2]
   clear h0 h1 h2;go_enter Tryz.func47,Tryz.ntmps47
   go_wp2
   go_ret
   exact⟨kC HF.o.symm,Below.refl _ _⟩
  ·have HF:=hd (show zEl off pos aff=false by unfold zEl;simp[h0,h2]);have e1:(pos==off)=true:=by simp[h1]
   have e2:(aff==1)=false:=by simp[h2]
   clear h0 h1 h2;go_enter Tryz.func47,Tryz.ntmps47
   go_wp2
   go_ret
   exact⟨kC HF.o.symm,Below.refl _ _⟩
 ·have HF:=hd (show zEl off pos aff=false by unfold zEl;simp[h0,h1]);have e1:(pos==off)=false:=by simp[h1]
  clear h0 h1;go_enter Tryz.func47,Tryz.ntmps47
  go_wp2
  go_ret
  exact⟨kC HF.o.symm,Below.refl _ _⟩
theorem zW6 {off:Int}(hp:XA W u p)(h:pos=off/\aff=0):Calls Tryz.prog 48 #[.agg #[u,.int .i64 off],.int .i64 pos,.int .i64 aff] W (zC3 W noP):=by
 have e1:(pos==off)=true:=by simp[h.1]
 have e2:(aff==0)=true:=by simp[h.2]
 clear h;obtain⟨A,n,c,rfl,hn,hl,hc,hp⟩:=hp;obtain⟨W0,hW⟩:∃W0,W0=(W.alloc (.cells #[.slice A n c,.int .i64 off] 29)).alloc (.cells #[.slice none 0 0,.int .i64 0] 29):=⟨_,rfl⟩;have hb0:Below W.heap.size W W0:=hW▸zPp _ _ _;have e0:=kMr W (Obj.cells #[Value.slice A n c,Value.int .i64 off] 29) (Obj.cells #[Value.slice none 0 0,Value.int .i64 0] 29);rw[<-hW]at e0;have dP:=hd (fun w(h:Below W0.heap.size W0 w)=>zI1 e0.1 h);have aR:=hd (fun w(h:Below W0.heap.size W0 w)=>zI1 e0.2 h);have fU:=hd (fun w(h:Below W0.heap.size W0 w)=>hp.later (hb0.trans (h.mono hb0.size)));have HP:=hd (show∀w,Below W0.heap.size W0 w->XA w (.slice A n c) p from fun w h=>⟨A,n,c,rfl,hn,hl,hc,fU.o w h⟩);have ac:=hd (Below.refl W0.heap.size W0);have HW:=hd hW;have ar:=hd hb0;have HN:=hd hn;obtain⟨x0,x1,_,f1⟩:=yb2 (dP.o W0 ac.o);obtain⟨z0,z1,g0,g1⟩:=yb2 (aR.o W0 ac.o);clear hp hn hW hb0 e0;go_enter Tryz.func48,Tryz.ntmps48
 go_wp2
 rw[<-HW.o];refine bodyPost_ret (v:=.tuple #[.agg #[.slice none 0 0,.int .i64 0],.bool false]) (by simp[results,Tryz.results48,go_sem,z0,z1]) rfl (zBi rfl (zBt.nil _ _) ar.o)
theorem kQ8 (h:P:=by
 clear h;go_enter Tryz.func48,Tryz.ntmps48
 go_wp2_with(go_at_call 47;(try rw[<-HW.o]);refine Calls.mono (zH0 HS.o) ?_;rintro e w9 ⟨rfl,b9⟩;have aH:=hd b9;clear b9 x0 x1 z0 z1 f1 g0 g1;obtain⟨x0,x1,f0,f1⟩:=yb2 (dP.o _ aH.o);obtain⟨z0,z1,g0,g1⟩:=yb2 (aR.o _ aH.o))
 have hr:=zCr (aR.o _ aH.o) (.slice A n c) (.int .i64 off);obtain⟨y0,y1,_,_⟩:=yb2 hr;refine bodyPost_ret (v:=.tuple #[.agg #[.slice A n c,.int .i64 off],.bool true]) (by simp[results,Tryz.results48,go_sem,y0,y1]) rfl ⟨rfl,?_⟩;exact((ar.o.trans (aH.o.mono ar.o.size)).setCell (by show _<=W.heap.size+1;omega) _).setCell (by show _<=W.heap.size+1;omega) _):P:=h
theorem zW7 {off:Int}(hp:XA W u p)(h:¬(pos=off/\aff=0))(hs:zEl off pos aff=false):Calls Tryz.prog 48 #[.agg #[u,.int .i64 off],.int .i64 pos,.int .i64 aff] W (fun e w'=>e=.returned (.tuple #[.agg #[u,.int .i64 off],.bool true])/\Below W.heap.size W w'):=by
 have HS:=hd hs;clear hs;obtain⟨A,n,c,rfl,hn,hl,hc,hp⟩:=hp;obtain⟨W0,hW⟩:∃W0,W0=(W.alloc (.cells #[.slice A n c,.int .i64 off] 29)).alloc (.cells #[.slice none 0 0,.int .i64 0] 29):=⟨_,rfl⟩;have hb0:Below W.heap.size W W0:=hW▸zPp _ _ _;have e0:=kMr W (Obj.cells #[Value.slice A n c,Value.int .i64 off] 29) (Obj.cells #[Value.slice none 0 0,Value.int .i64 0] 29);rw[<-hW]at e0;have dP:=hd (fun w(h:Below W0.heap.size W0 w)=>zI1 e0.1 h);have aR:=hd (fun w(h:Below W0.heap.size W0 w)=>zI1 e0.2 h);have fU:=hd (fun w(h:Below W0.heap.size W0 w)=>hp.later (hb0.trans (h.mono hb0.size)));have HP:=hd (show∀w,Below W0.heap.size W0 w->XA w (.slice A n c) p from fun w h=>⟨A,n,c,rfl,hn,hl,hc,fU.o w h⟩);have ac:=hd (Below.refl W0.heap.size W0);have HW:=hd hW;have ar:=hd hb0;have HN:=hd hn;obtain⟨x0,x1,_,f1⟩:=yb2 (dP.o W0 ac.o);obtain⟨z0,z1,g0,g1⟩:=yb2 (aR.o W0 ac.o);clear hp hn hW hb0 e0;cases e1:(pos==off)
 ·exact kQ8
 ·have e2:(aff==0)=false:=by simp at e1;simp;exact fun h2=>h ⟨e1,h2⟩
  exact kQ8
theorem kQ9 (h:P:=by
 clear h;go_enter Tryz.func48,Tryz.ntmps48
 go_wp2_with(first|(go_at_call 47;(try rw[<-HW.o]);refine Calls.mono (zH0 HS.o) ?_;rintro e w9 ⟨rfl,b9⟩;have aH:=hd b9;clear b9 x0 x1 z0 z1 f1 g0 g1;obtain⟨x0,x1,f0,f1⟩:=yb2 (dP.o _ aH.o);obtain⟨z0,z1,g0,g1⟩:=yb2 (aR.o _ aH.o))|(go_at_call 86;refine Calls.mono (kBe (HP.o _ aH.o) sD.o mz.o) ?_;rintro e w8 ⟨v8,rfl,ho,b8⟩;obtain⟨A8,c8,rfl,_,_⟩:=ho.open_at (k+1) nP.o;have bM:=hd (zI aH.o b8);have HO:=hd (ho.weaken (Nat.le_trans ar.o.size aH.o.size));clear b8 ho x0 x1 z0 z1 f0 f1 g0 g1;obtain⟨x0,x1,f0,f1⟩:=yb2 (dP.o _ bM.o);obtain⟨z0,z1,g0,g1⟩:=yb2 (aR.o _ bM.o)))
 have hr1:=kFq (k:=1) (kFq (k:=0) (aR.o _ bM.o) (g':=W.heap.size) Kb (.slice A8 (k+1) c8)) (g':=W.heap.size) Kb (.int .i64 (off-pos));have hr:=zCr hr1 (.slice A8 (k+1) c8) (.int .i64 (off-pos));obtain⟨y0,y1,_,_⟩:=yb2 hr;have ho:=((HO.o.ypt (x:=.slice A8 (k+1) c8) (y:=.int .i64 (off-pos)) (dP.o _ bM.o)).ypt (x:=.slice A8 (k+1) c8) (y:=.int .i64 (off-pos)) hr1);clear x0 x1 f0 f1 z0 z1 g0 g1;refine bodyPost_ret (v:=.tuple #[.agg #[.slice A8 (k+1) c8,.int .i64 (off-pos)],.bool true]) (by simp[results,Tryz.results48,go_sem,y0,y1]) rfl (zBi rfl ho ?_);exact((((ar.o.trans (bM.o.mono ar.o.size)).setCell Kl _).setCell Kl _).setCell (by show _<=W.heap.size+1;omega) _).setCell (by show _<=W.heap.size+1;omega) _):P:=h
theorem zW8 {off:Int}{k:Nat}(hp:XA W u p)(hk:p.length=k+1)(hsm:jI p=true)(h:¬(pos=off/\aff=0))(hs:zEl off pos aff=true)(h1:0<=off)(h2:off<=1048576)(h3:0<=pos)(h4:pos<=1048576):Calls Tryz.prog 48 #[.agg #[u,.int .i64 off],.int .i64 pos,.int .i64 aff] W (zC3 W ((addL p k 1,off-pos),true)):=by
 have HS:=hd hs;have mz:=hd (kCp hk hsm);have sD:=hd ((zDf p).1 hsm);have nP:=hd (show(addL p k 1).length=k+1 by rw[zJe];exact hk);have HK:=hd hk;clear hs hk hsm;obtain⟨A,n,c,rfl,hn,hl,hc,hp⟩:=hp;obtain⟨W0,hW⟩:∃W0,W0=(W.alloc (.cells #[.slice A n c,.int .i64 off] 29)).alloc (.cells #[.slice none 0 0,.int .i64 0] 29):=⟨_,rfl⟩;have hb0:Below W.heap.size W W0:=hW▸zPp _ _ _;have e0:=kMr W (Obj.cells #[Value.slice A n c,Value.int .i64 off] 29) (Obj.cells #[Value.slice none 0 0,Value.int .i64 0] 29);rw[<-hW]at e0;have dP:=hd (fun w(h:Below W0.heap.size W0 w)=>zI1 e0.1 h);have aR:=hd (fun w(h:Below W0.heap.size W0 w)=>zI1 e0.2 h);have fU:=hd (fun w(h:Below W0.heap.size W0 w)=>hp.later (hb0.trans (h.mono hb0.size)));have HP:=hd (show∀w,Below W0.heap.size W0 w->XA w (.slice A n c) p from fun w h=>⟨A,n,c,rfl,hn,hl,hc,fU.o w h⟩);have ac:=hd (Below.refl W0.heap.size W0);have HW:=hd hW;have ar:=hd hb0;have HN:=hd hn;obtain⟨x0,x1,_,f1⟩:=yb2 (dP.o W0 ac.o);obtain⟨z0,z1,g0,g1⟩:=yb2 (aR.o W0 ac.o);clear hp hn hW hb0 e0;cases e1:(pos==off)
 ·exact kQ9
 ·have e2:(aff==0)=false:=by simp at e1;simp;exact fun h2=>h ⟨e1,h2⟩
  exact kQ9
theorem kD8 {a b c:Nat}(h:a+3<=b)(h2:b<=c):a<c/\a+1<c/\a+1+1<c:=Kb
structure PC where
 A:Option Addr
 n:Nat
 c:Nat
 x:Int
def PC.row (c:PC):Array Value:=#[.slice c.A c.n c.c,.int .i64 c.x]
theorem PC.one (c:PC):c.row.all (·.oneCell')=true:=Ka
structure kAw (w:World)(c:PC)(p:List Int×Int):Prop where
 hx:p.2=c.x
 hn:p.1.length=c.n
 hc:c.n<=c.c
 hm:c.n<=1000
 hA:IL w w.heap.size c.A p.1
theorem kAw.later {w':World}{c:PC}{p:List Int×Int}(h:kAw w c p)(hb:Below w.heap.size w w'):kAw w' c p:=⟨h.hx,h.hn,h.hc,h.hm,h.hA.later hb⟩
theorem zW :kC5 29 2:=⟨.struct (Tryz.prog.fieldsOf 29),by kernel_rfl,rfl,by kernel_rfl⟩
theorem kAw.pa {c:PC}{p:List Int×Int}(h:kAw w c p):PA w (.agg c.row) p:=
 ⟨.slice c.A c.n c.c,by rw[h.hx];rfl,c.A,c.n,c.c,rfl,h.hn,h.hm,h.hc,h.hA⟩
def kK5 (w:World)(r:(List Int×Int)×Bool)(e:Ending)(w':World):Prop:=∃c:PC,e=.returned (.tuple #[.agg c.row,.bool r.2])/\kAw w' c r.1/\Below w.heap.size w w'
theorem OkA.xq12 {o:OC}(ho:OkA w o a)(ta:zAf a):XA w (.slice o.Q o.lq o.cq) a.q:=⟨_,_,_,rfl,ho.hlq,by have:=ta.hq;have:=ho.hlq;omega,ho.hcq,ho.hq⟩
theorem OkA.xt12 {o:OC}(ho:OkA w o a)(ta:zAf a):XA w (.slice o.T o.lt o.ct) a.t:=⟨_,_,_,rfl,ho.hlt,by have:=ta.ht;have:=ho.hlt;omega,ho.hct,ho.ht⟩
theorem kH8 (a b:List Int×Int):samP a b=true ↔ a=b:=by unfold samP;exact decide_eq_true_iff
theorem zTu (c:OC):c.row.all (·.oneCell')=true:=Ka
theorem zW9 (h:zB1 w s sl)(hf:fewS sl=true):kAw w ⟨s.A,s.n,s.c,s.x⟩ sl.a/\kAw w ⟨s.B,s.m,s.d,s.y⟩ sl.f/\sl.a.1.length<=60/\sl.f.1.length<=60:=by
 obtain⟨l1,l2⟩:=h.len hf;have e1:=h.hn;have e2:=h.hm;exact⟨⟨h.hx,h.hn,h.hc,by show s.n<=_;omega,h.hA⟩,⟨h.hy,h.hm,h.hd,by show s.m<=_;omega,h.hB⟩,by omega,by omega⟩
def OC.into (o:OC):SC:=⟨o.gi,o.G1,o.g1,o.e1,o.go,o.G2,o.g2,o.e2,o.gp⟩
theorem zLl {o:OC}(h:OkA w o a):zB1 w o.into a.g:=h.hg
def SC.nil :SC:=⟨false,none,0,0,0,none,0,0,0⟩
theorem zJ2 (w:World):zB1 w SC.nil zeroS:=zIi.zero w
theorem zDs (w:World)(c:NC)(s:SC)(o:OC):∃W0,((((w.alloc (.cells c.row 26)).alloc (.cells s.row 33)).alloc (.cells o.row 35)).alloc (.cells #[.bool false,.slice none 0 0,.slice none 0 0,.slice none 0 0] 26)).alloc (.cells #[.bool false,.slice none 0 0,.int .i64 0,.slice none 0 0,.int .i64 0] 33)=W0/\St5 w c s o (w.heap.size+1+1+1) (w.heap.size+1+1+1+1) NC.nil SC.nil W0:=by
 obtain⟨W1,hW1,h1⟩:=kN w c s o;have e1:W1.heap.size=w.heap.size+1+1+1:=by rw[<-hW1];simp
 rw[hW1];refine⟨_,rfl,h1.call ((Kk.alloc Kl _).alloc Kc _),?_,?_⟩
 ·rw[<-e1];exact(jT.new W1 26 NC.nil.row).alloc _
 ·have e2:(W1.alloc (.cells NC.nil.row 26)).heap.size=w.heap.size+1+1+1+1:=by simp[e1]
  rw[<-e2];exact jT.new _ 33 SC.nil.row
theorem St5.set7 {o:OC}{a a':NC}(h:St5 w c s o g7 g8 a t W)(hg:w.heap.size+1+1<g7)(hne:g8≠g7)(hv:jT 26 W' g7 a'.row)(ho:Off g7 W W'):St5 w c s o g7 g8 a' t W':=⟨h.st.store ho hg,hv,h.v8.off ho hne⟩
theorem St5.set8 {o:OC}{a:NC}{t':SC}(h:St5 w c s o g7 g8 a t W)(hg:w.heap.size+1+1<g8)(hne:g7≠g8)(hv:jT 33 W' g8 t'.row)(ho:Off g8 W W'):St5 w c s o g7 g8 a t' W':=⟨h.st.store ho hg,h.v7.off ho hne,hv⟩
theorem zDt {fn:Func}{p q u:Tmp}(h:fn.results=#[.cell p 26,.cell q 33,.tmp u])(tmps:Array Value)(w:World){g g':Nat}(hv:jT 26 w g c.row)(hs:jT 33 w g' s.row)(hp:tmps.getD p undef=.pointer (some ⟨g,0,none⟩))(hq:tmps.getD q undef=.pointer (some ⟨g',0,none⟩)):(results fn tmps).run Tryz.prog w=.ok (.tuple #[.agg c.row,.agg s.row,tmps.getD u undef]) w:=by
 obtain⟨d,h3,h4,h5⟩:=zD;obtain⟨d',h3',h4',qh⟩:=kNm;simp only[results,h];simp only[List.mapM_toArray,hp,hq,asAddr,Sem.run_bind,Sem.run_pure,List.mapM_cons,List.mapM_nil];simp[Sem.run_bind,Result.andThen,run_loadVar_row w g _ _ _ _ d hv h3 (by cases d<;>simp_all) h5,run_loadVar_row w g' _ _ _ _ d' hs h3' (by cases d'<;>simp_all) qh]
def OC.from_ (o:OC):SC:=⟨o.fi,o.F1,o.f1,o.d1,o.fo,o.F2,o.f2,o.d2,o.fp⟩
theorem zPq {o:OC}(h:OkA w o a):zB1 w o.from_ a.f:=h.hf
theorem kH9 (h:kS w c n):Calls Tryz.prog 41 #[.agg c.row] w (fun e w'=>∃c':NC,e=.returned (.agg c'.row)/\zH3 w.heap.size w' (fun W=>kS W c' n)/\Below w.heap.size w w'):=by
 obtain⟨d,h⟩:=h;refine(zEy d w _ n h).mono fun e w' h1=>?_;obtain⟨v,rfl,ht,hb⟩:=h1;obtain⟨c',rfl,_⟩:=zFo (ht.at_ (B:=w'.heap.size) fun b hb=>hb.2);exact⟨c',rfl,zHy ht,hb⟩
def zVb (w:World)(r:(NT×Sl)×Int)(e:Ending)(w':World):Prop:=
 ∃(c:NC)(s:SC),e=.returned (.tuple #[.agg c.row,.agg s.row,.int .i64 r.2])/\zH3 w.heap.size w' (fun W=>kS W c r.1.1)/\zH3 w.heap.size w' (fun W=>zB1 W s r.1.2)/\Below w.heap.size w w'
theorem kPe (h:P:=by
 have H1:=hd h1;try have H2:=hd h2
 try have H3:=hd h3
 try have H4:=hd h4
 have HN:=hd hn;have eF:=hd hs;have HO:=hd ho;have gW:=hd hf;have aw:=hd ta;clear hn hs ho hf ta h1;try clear h2
 try clear h3
 try clear h4
 obtain⟨W0,hW,hst⟩:=kN w c s o;have HW:=hd hW;have HM:=hd hst;clear hW hst;go_enter Tryz.func29,Tryz.ntmps29
 go_upto_region 1 with fail
 rw[HW.o];clear HW;go_wp2_with(first
  |((with_reducible refine zC (ty:=26) (x:=.tmp 3) ?_);refine zB zD HM.o.v3 rfl _ rfl rfl rfl ?_)
  |(go_at_call 65;refine Calls.mono (zFa (HN.o.later HM.o.below) H1.o) ?_;rintro e w1 ⟨rfl,b9⟩;have HM:=hd (HM.o.call b9);clear b9)
  |((with_reducible refine zC (ty:=4) (x:=.tmp 14) ?_);refine zM HM.o.v3 (j:=0) (v:=.bool false) _ rfl rfl rfl (by simp only[NC.row,H2.o];rfl) Tryz.underlying4 rfl ?_)
  |((with_reducible refine zC (ty:=4) (x:=.tmp 14) ?_);refine zM HM.o.v3 (j:=0) (v:=.bool true) _ rfl rfl rfl (by simp only[NC.row,H2.o];rfl) Tryz.underlying4 rfl ?_)
  |((with_reducible refine zC (ty:=33) (x:=.tmp 4) ?_);refine zB kNm HM.o.v4 rfl _ rfl rfl rfl ?_)
  |(go_at_call 66;refine Calls.mono (zKk (HN.o.later HM.o.below) (eF.o.later HM.o.below) gW.o H3.o) ?_;rintro e w2 ⟨rfl,b9⟩;have HM:=hd (HM.o.call b9);clear b9)
  |((with_reducible refine zC (ty:=35) (x:=.tmp 5) ?_);refine zG HM.o.v5 _ rfl rfl rfl ?_)
  |(go_at_call 67;refine Calls.mono (zFt (HO.o.later HM.o.below) aw.o H4.o) ?_;rintro e w3 ⟨rfl,b9⟩;have HM:=hd (HM.o.call b9);clear b9)
  |fail)
 go_ret
 exact⟨rfl,HM.o.below⟩):P:=h
theorem kH0 {o:OC}(hn:kS w c n)(hs:zB1 w s sl)(ho:OkA w o a)(hf:fewS sl=true)(ta:zAf a)(h1:zAd n=E)(hne:(E !=0)=true):Calls Tryz.prog 29 #[.agg c.row,.agg s.row,.agg o.row] w (jA (.int .i64 E) w):=by
 exact kPe
theorem kH1 {o:OC}(hn:kS w c n)(hs:zB1 w s sl)(ho:OkA w o a)(hf:fewS sl=true)(ta:zAf a)(h1:zAd n=0)(h2:c.lf=true):Calls Tryz.prog 29 #[.agg c.row,.agg s.row,.agg o.row] w (jA (.int .i64 7) w):=by
 exact kPe
theorem kH2 {o:OC}(hn:kS w c n)(hs:zB1 w s sl)(ho:OkA w o a)(hf:fewS sl=true)(ta:zAf a)(h1:zAd n=0)(h2:c.lf=false)(h3:zE8 n sl=E)(hne:(E !=0)=true):Calls Tryz.prog 29 #[.agg c.row,.agg s.row,.agg o.row] w (jA (.int .i64 E) w):=by
 exact kPe
theorem kH3 {o:OC}(hn:kS w c n)(hs:zB1 w s sl)(ho:OkA w o a)(hf:fewS sl=true)(ta:zAf a)(h1:zAd n=0)(h2:c.lf=false)(h3:zE8 n sl=0)(h4:zCx a=E):Calls Tryz.prog 29 #[.agg c.row,.agg s.row,.agg o.row] w (jA (.int .i64 E) w):=by
 exact kPe
noncomputable def zG7 (n:NT)(s:Sl)(a:OpP):Int:=if zAd n≠0 then zAd n else if n.lf=true then 7 else if zE8 n s≠0 then zE8 n s else zCx a
theorem zIh {o:OC}(hn:kS w c n)(hs:zB1 w s sl)(ho:OkA w o a)(hf:fewS sl=true)(ta:zAf a)(hE:zG7 n sl a=E):Calls Tryz.prog 29 #[.agg c.row,.agg s.row,.agg o.row] w (jA (.int .i64 E) w):=by
 unfold zG7 at hE;by_cases h1:zAd n=0
 case neg=>rw[if_pos h1]at hE;subst hE;exact kH0 hn hs ho hf ta rfl (by simpa using h1)
 rw[if_neg (by simp[h1])]at hE;have el:=hn.lf;cases h2:n.lf with
 |true=>rw[if_pos h2]at hE;subst hE;exact kH1 hn hs ho hf ta h1 (by rw[<-el];exact h2)
 |false=>
  rw[if_neg (by simp[h2])]at hE;have h2':c.lf=false:=by rw[<-el];exact h2
  by_cases h3:zE8 n sl=0
  case neg=>rw[if_pos h3]at hE;subst hE;exact kH2 hn hs ho hf ta h1 h2' rfl (by simpa using h3)
  rw[if_neg (by simp[h3])]at hE;exact kH3 hn hs ho hf ta h1 h2' h3 hE
theorem zPn {si:Bool}{A B:Option Addr}{n c m d:Nat}{x y:Int}{s:Sl}(h:zIi w si A n c x B m d y s)(h1:n<=1000)(h2:m<=1000):
  Calls Tryz.prog 33 #[.agg #[.bool si,.slice A n c,.int .i64 x,.slice B m d,.int .i64 y]] w (kMx w si n x m y s):=by
 obtain⟨W0,hW⟩:∃W0,(w.alloc (.cells #[.bool si,.slice A n c,.int .i64 x,.slice B m d,.int .i64 y] 33)).alloc (.cells #[.bool false,.slice none 0 0,.int .i64 0,.slice none 0 0,.int .i64 0] 33)=W0:=⟨_,rfl⟩;have hb0:Below w.heap.size w W0:=hW▸kM Kk Kl;have e0:=zK2 w (Obj.cells #[.bool si,.slice A n c,.int .i64 x,.slice B m d,.int .i64 y] 33) (Obj.cells #[.bool false,.slice none 0 0,.int .i64 0,.slice none 0 0,.int .i64 0] 33);rw[hW]at e0;have av:=hd (show zI2 W0 w.heap.size _ _ _ _ _ from e0.1);have ah:=hd (show zI2 W0 (w.heap.size+1) _ _ _ _ _ from e0.2);have HW:=hd hW;have HB:=hd hb0;have HH:=hd h;clear hW hb0 e0 h;go_enter Tryz.func33,Tryz.ntmps33
 go_upto_region 1 with fail
 rw[HW.o];refine jO (S:=fun W=>zI2 W w.heap.size (.bool si) (.slice A n c) (.int .i64 x) (.slice B m d) (.int .i64 y)) (z:=fun j=>decide (10<=j)) Ka ?_;have aa:=hd (show zI2 W0.drew w.heap.size (.bool si) (.slice A n c) (.int .i64 x) (.slice B m d) (.int .i64 y)from av.o);refine Kn 0 17 (.pointer (some ⟨w.heap.size,1,none⟩)) (fun W hW=>?_) aa.o ?_
 ·skip
  go_simp
 simp only[Act.put,List.setIfInBounds_toArray];refine Kn 1 16 (.pointer (some ⟨w.heap.size,1,none⟩)) (fun W hW=>?_) aa.o ?_
 ·skip
  go_simp
 simp only[Act.put];refine Kn 2 15 (.pointer (some ⟨w.heap.size,1,none⟩)) (fun W hW=>?_) aa.o ?_
 ·skip
  go_simp
 simp only[Act.put];refine Kn 3 14 (.slice A n c) (fun W hW=>?_) aa.o ?_
 ·obtain⟨_,y1,_,_,_⟩:=zI2.cells hW;go_simp
 simp only[Act.put];refine Kn 5 13 (.pointer (some ⟨w.heap.size,1,none⟩)) (fun W hW=>?_) aa.o ?_
 ·skip
  go_simp
 simp only[Act.put];refine Kn 6 12 (.pointer (some ⟨w.heap.size,3,none⟩)) (fun W hW=>?_) aa.o ?_
 ·skip
  go_simp
 simp only[Act.put];refine Kn 7 11 (.pointer (some ⟨w.heap.size,3,none⟩)) (fun W hW=>?_) aa.o ?_
 ·skip
  go_simp
 simp only[Act.put];refine Kn 8 10 (.slice B m d) (fun W hW=>?_) aa.o ?_
 ·obtain⟨_,_,_,y3,_⟩:=zI2.cells hW;go_simp
 simp only[Act.put];refine Kp 4 9 (fun K hK=>?_);rw[if_pos Ke];go_simp;go_at_call 77
 refine(zFz A s.a.1 n c _ HH.o.hn h1 ((HH.o.hA.later HB.o).later (Kk.drew))).mono ?_;rintro e w5 ⟨A5,c5,rfl,qJ,hs5,bv⟩;have aJ:Below W0.heap.size W0 w5:=(Kk.drew).trans bv;have aa:=hd (av.o.keep aJ);refine hK _ _ (fun _=>aa.o) ?_;clear hK K;refine zDd (i:=10) (n:=8) (.pointer (some ⟨w.heap.size,1,none⟩)) rfl rfl Ka Ka Ka (fun _ _ _ h=>h) Ke (fun W=>?_) ?_
 ·go_simp
 simp only[Act.put];refine zDd (i:=11) (n:=7) (.pointer (some ⟨w.heap.size,1,none⟩)) rfl rfl Ka Ka Ka (fun _ _ _ h=>h) Ke (fun W=>?_) ?_
 ·go_simp
 simp only[Act.put];refine zDd (i:=12) (n:=6) (.pointer (some ⟨w.heap.size,1,none⟩)) rfl rfl Ka Ka Ka (fun _ _ _ h=>h) Ke (fun W=>?_) ?_
 ·go_simp
 simp only[Act.put];refine Kp 9 5 (fun K hK=>?_);rw[if_pos Ke];go_simp;go_at_call 77
 refine(zFz B s.f.1 m d _ HH.o.hm h2 ((HH.o.hB.later HB.o).later aJ)).mono ?_;rintro e w6 ⟨B6,d6,rfl,qK,nJ,ed⟩;have hg1:=av.o.lt;have hg2:=ah.o.lt;have lv:=aJ.size;have vT:=ed.size;have cI:=hd (((hs5.more (show W0.heap.size<=W0.drew.heap.size from Nat.le_refl _)).high (zA5.below ed)));have qL:=hd (nJ.more lv);have av:=hd (aa.o.keep ed);have ah:=hd ((ah.o.keep aJ).keep ed);have HB:=hd (HB.o.trans ((aJ.trans (ed.mono lv)).mono HB.o.size));clear bv hs5 nJ;refine hK _ _ (fun _=>av.o) ?_;clear hK K aa;refine Kp 13 4 (fun K hK=>?_);rw[if_pos Ke];refine zY zCa av.o _ _ rfl rfl 1 _ [.slice A5 n c5] rfl rfl rfl rfl (zHt rfl) Km ?_;intro W7 bk aI;refine hK _ _ (fun h=>absurd h Kd) ?_;clear hK K;refine zDd (i:=14) (n:=3) (.pointer (some ⟨w.heap.size,1,none⟩)) rfl rfl Ka Ka Ka (fun _ _ _ h=>h) Ke (fun W=>?_) ?_
 ·go_simp
 simp only[Act.put];refine zDd (i:=15) (n:=2) (.pointer (some ⟨w.heap.size,3,none⟩)) rfl rfl Ka Ka Ka (fun _ _ _ h=>h) Ke (fun W=>?_) ?_
 ·go_simp
 simp only[Act.put];refine zDd (i:=16) (n:=1) (.pointer (some ⟨w.heap.size,3,none⟩)) rfl rfl Ka Ka Ka (fun _ _ _ h=>h) Ke (fun W=>?_) ?_
 ·go_simp
 simp only[Act.put];refine Kp 17 0 (fun K hK=>?_);rw[if_pos Ke];refine zY zCa bk _ _ rfl rfl 3 _ [.slice B6 m d6] rfl rfl rfl rfl (zHt rfl) Km ?_;intro W8 bz aQ;refine hK _ _ (fun h=>absurd h Kd) (zAl Ka ?_);clear hK K;have HO:=hd (aI.trans aQ);have av:=hd (show zI2 W8 w.heap.size (.bool si) (.slice A5 n c5) (.int .i64 x) (.slice B6 m d6) (.int .i64 y)from bz);have ah:=hd (ah.o.off HO.o Kb);have HB:=hd (zN HB.o HO.o Kl);clear bk aI bz aQ;go_wp2_with(first
  |((with_reducible refine zC (ty:=33) ?_);refine zIm av.o _ rfl rfl rfl ?_)
  |((with_reducible refine zF (ty:=33) (x:=.tmp 2) ?_);refine zHc ah.o _ _ rfl rfl rfl rfl rfl Ka ?_;intro W9 ak ag;have ah:=hd ak;have jy:=hd ag;clear ak ag))
 have hh:=HH.o;have hlo:w.heap.size+1<W0.heap.size:=Kb;have hhi:zA5 W0.heap.size w6 W9:=(zA5.off HO.o Kb).trans (zA5.off jy.o hlo);refine bodyPost_ret (zP6 Tryz.results33 _ _ ah.o rfl) rfl ⟨A5,c5,B6,d6,rfl,fun W hoff=>?_,zN HB.o jy.o (Nat.le_succ _)⟩;have hx:=hhi.trans (hoff.mono Kb);exact⟨hh.his,hh.hx,hh.hy,hh.hn,hh.hm,qJ,qK,hh.hmn,hh.hmm,cI.o W hx,qL.o W hx⟩
theorem zKs (h:zB1 w s sl)(h1:s.n<=1000)(h2:s.m<=1000):Calls Tryz.prog 33 #[.agg s.row] w (fun e w'=>∃t:SC,e=.returned (.agg t.row)/\zH3 w.heap.size w' (fun W=>zB1 W t sl)/\Below w.heap.size w w'):=by
 refine(zPn h h1 h2).mono ?_;rintro e w' ⟨A,c,B,d,rfl,hs,hb⟩;exact⟨⟨s.is,A,s.n,c,s.x,B,s.m,d,s.y⟩,rfl,hs,hb⟩
theorem kRa (h:P:=by
 have td:=hd hff;try have iU:=hd ky
 have H5:=hd h5;try have H6:=hd h6
 have HN:=hd hn;have eF:=hd hs;have HO:=hd ho;have gW:=hd hf;have aw:=hd ta;clear hn hs ho hf ta hff h5;try clear ky
 try clear h6
 obtain⟨W0,hW,hst⟩:=zDs w c s o;have HW:=hd hW;have HM:=hd hst;clear hW hst;go_enter Tryz.func30,Tryz.ntmps30
 go_upto_region 1 with fail
 rw[HW.o];clear HW;go_wp2_with(first
  |((with_reducible refine zC (ty:=33) (x:=.tmp 10) ?_);refine kR HM.o.st.v5 (j:=11) (vs:=[.bool o.fi,.slice o.F1 o.f1 o.d1,.int .i64 o.fo,.slice o.F2 o.f2 o.d2,.int .i64 o.fp]) zD4 _ rfl rfl rfl Ka ?_)
  |((with_reducible refine zC (ty:=33) (x:=.tmp 4) ?_);refine zB kNm HM.o.st.v4 rfl _ rfl rfl rfl ?_)
  |((with_reducible refine zC (ty:=33) (x:=.tmp 18) ?_);refine kR HM.o.st.v5 (j:=16) (vs:=[.bool o.gi,.slice o.G1 o.g1 o.e1,.int .i64 o.go,.slice o.G2 o.g2 o.e2,.int .i64 o.gp]) zD4 _ rfl rfl rfl Ka ?_)
  |(go_at_call 64;refine Calls.mono (zH9 (c:=o.from_) (zPq (HO.o.later HM.o.st.below)) (eF.o.later HM.o.st.below) td.o gW.o H5.o) ?_;rintro e w1 ⟨rfl,b9⟩;have HM:=hd (HM.o.call b9);clear b9)
  |((with_reducible refine zC (ty:=26) (x:=.tmp 3) ?_);refine zB zD HM.o.st.v3 rfl _ rfl rfl rfl ?_)
  |(go_at_call 66;refine Calls.mono (zKk (d:=o.into) (HN.o.later HM.o.st.below) (zLl (HO.o.later HM.o.st.below)) iU.o H6.o) ?_;rintro e w2 ⟨rfl,b9⟩;have HM:=hd (HM.o.call b9);clear b9)
  |((with_reducible refine zF (ty:=26) (x:=.tmp 6) ?_);refine zA zD (r0:=NC.nil.row) (r:=NC.nil.row) HM.o.v7 rfl rfl NC.nil.one _ _ rfl rfl rfl rfl rfl ?_;intro W7 hv ho;have HM:=hd (HM.o.set7 (a':=NC.nil) Kb Kb hv ho);clear hv ho)
  |((with_reducible refine zF (ty:=33) (x:=.tmp 7) ?_);refine zA kNm (r0:=SC.nil.row) (r:=SC.nil.row) HM.o.v8 rfl rfl SC.nil.one _ _ rfl rfl rfl rfl rfl ?_;intro W8 hv ho;have HM:=hd (HM.o.set8 (t':=SC.nil) Kb Kb hv ho);clear hv ho)
  |fail)
 exact bodyPost_ret (zDt Tryz.results30 _ _ HM.o.v7 HM.o.v8 rfl rfl) rfl ⟨NC.nil,SC.nil,rfl,fun _ _=>zAb _,fun _ _=>zJ2 _,HM.o.st.below⟩):P:=h
theorem kAt {o:OC}(hn:kS w c n)(hs:zB1 w s sl)(ho:OkA w o a)(hf:fewS sl=true)(ta:zAf a)(hff:fewS a.f=true)(h5:zF7 a.f sl=false):Calls Tryz.prog 30 #[.agg c.row,.agg s.row,.agg o.row] w (zVb w ((zeroT,zeroS),9)):=by
 exact kRa
theorem zW3 {o:OC}(hn:kS w c n)(hs:zB1 w s sl)(ho:OkA w o a)(hf:fewS sl=true)(ta:zAf a)(hff:fewS a.f=true)(ky:fewS a.g=true)(h5:zF7 a.f sl=true)(h6:zE8 n a.g=E)(hne:(E !=0)=true):Calls Tryz.prog 30 #[.agg c.row,.agg s.row,.agg o.row] w (zVb w ((zeroT,zeroS),E)):=by
 exact kRa
theorem zW4 {o:OC}(hn:kS w c n)(hs:zB1 w s sl)(ho:OkA w o a)(hf:fewS sl=true)(ta:zAf a)(hff:fewS a.f=true)(ky:fewS a.g=true)(h5:zF7 a.f sl=true)(h6:zE8 n a.g=0)(aY:o.g1<=1000)(hl2:o.g2<=1000):Calls Tryz.prog 30 #[.agg c.row,.agg s.row,.agg o.row] w (zVb w ((n,a.g),0)):=by
 have td:=hd hff;have pg:=hd aY;have nD:=hd hl2;clear aY hl2;have iU:=hd ky;have H5:=hd h5;have H6:=hd h6;have HN:=hd hn;have eF:=hd hs;have HO:=hd ho;have gW:=hd hf;have aw:=hd ta;clear hn hs ho hf ta hff ky h5 h6;obtain⟨W0,hW,hst⟩:=zDs w c s o;have HW:=hd hW;have HM:=hd hst;clear hW hst;go_enter Tryz.func30,Tryz.ntmps30
 go_upto_region 1 with fail
 rw[HW.o];clear HW;go_upto_region 6 with(first
  |((with_reducible refine zC (ty:=33) (x:=.tmp 10) ?_);refine kR HM.o.st.v5 (j:=11) (vs:=[.bool o.fi,.slice o.F1 o.f1 o.d1,.int .i64 o.fo,.slice o.F2 o.f2 o.d2,.int .i64 o.fp]) zD4 _ rfl rfl rfl Ka ?_)
  |((with_reducible refine zC (ty:=33) (x:=.tmp 4) ?_);refine zB kNm HM.o.st.v4 rfl _ rfl rfl rfl ?_)
  |(go_at_call 64;refine Calls.mono (zH9 (c:=o.from_) (zPq (HO.o.later HM.o.st.below)) (eF.o.later HM.o.st.below) td.o gW.o H5.o) ?_;rintro e w1 ⟨rfl,b9⟩;have HM:=hd (HM.o.call b9);clear b9)
  |((with_reducible refine zC (ty:=26) (x:=.tmp 3) ?_);refine zB zD HM.o.st.v3 rfl _ rfl rfl rfl ?_)
  |((with_reducible refine zC (ty:=33) (x:=.tmp 18) ?_);refine kR HM.o.st.v5 (j:=16) (vs:=[.bool o.gi,.slice o.G1 o.g1 o.e1,.int .i64 o.go,.slice o.G2 o.g2 o.e2,.int .i64 o.gp]) zD4 _ rfl rfl rfl Ka ?_)
  |(go_at_call 66;refine Calls.mono (zKk (d:=o.into) (HN.o.later HM.o.st.below) (zLl (HO.o.later HM.o.st.below)) iU.o H6.o) ?_;rintro e w2 ⟨rfl,b9⟩;have HM:=hd (HM.o.call b9);clear b9))
 have HM:=hd (HM.o.call (Kk.drew));refine jO (S:=fun W'=>jT 26 W' w.heap.size c.row/\jR W' (w.heap.size+1+1) o) (z:=fun _=>false) Ka ?_;have aa:=hd (And.intro HM.o.st.v3 HM.o.st.v5);refine Kn 0 7 (.agg c.row) (fun W9 aj=>?_) aa.o ?_
 ·exact zS zD aj.1 rfl _ rfl rfl
 simp only[Act.put,List.getElem_toArray,List.getElem_cons_zero,List.setIfInBounds_toArray,List.set_cons_succ,List.set_cons_zero];refine Ko 2 6 (.pointer (some ⟨w.heap.size+1+1,16,none⟩)) aa.o ?_;refine kPd ?_;refine Kn 3 5 (.agg #[.bool o.gi,.slice o.G1 o.g1 o.e1,.int .i64 o.go,.slice o.G2 o.g2 o.e2,.int .i64 o.gp]) (fun W9 aj=>?_) aa.o ?_
 ·exact zG3 (j:=16) (vs:=[.bool o.gi,.slice o.G1 o.g1 o.e1,.int .i64 o.go,.slice o.G2 o.g2 o.e2,.int .i64 o.gp]) aj.2.toR zD4 _ rfl rfl Ka
 refine kPd ?_;refine Kp 1 4 (fun K hK=>?_);rw[if_pos Ka];go_simp;go_at_call 41
 refine(kH9 (HN.o.later HM.o.st.below)).mono ?_;rintro e w3 ⟨cx,rfl,h1,b9⟩;have yx:=HM.o.v8.lt;have hs3:=HM.o.st.below.size;have HX:=hd h1;have HM:=hd (HM.o.call b9);clear b9 h1 aa;have aa:=hd (And.intro HM.o.st.v3 HM.o.st.v5);refine hK _ _ (fun _=>aa.o) ?_;clear hK K;refine Kp 4 3 (fun K hK=>?_);rw[if_pos Ka];go_simp;go_at_call 33
 refine(zKs (s:=o.into) (zLl (HO.o.later HM.o.st.below)) pg.o nD.o).mono ?_;rintro e w4 ⟨sx,rfl,h1,b9⟩;have yz:=HM.o.v8.lt;have hs4:=HM.o.st.below.size;have HS:=hd h1;have HX:=hd (HX.o.call b9);have HM:=hd (HM.o.call b9);clear b9 h1 aa;have aa:=hd (And.intro HM.o.st.v3 HM.o.st.v5);refine hK _ _ (fun _=>aa.o) ?_;clear hK K;refine Kp 5 2 (fun K hK=>?_);rw[if_pos Ka];refine zY zKq HM.o.v7 _ _ rfl rfl 0 _ [.bool cx.lf,.slice cx.P cx.np cx.pc,.slice cx.X cx.nt cx.tc,.slice cx.K cx.nk cx.kc] rfl rfl rfl rfl (by intro u hu;simp at hu;rcases hu with rfl|rfl|rfl|rfl<;>rfl) Km ?_;intro W5 hv ho;have HM:=hd (HM.o.set7 (a':=cx) Kb Kb hv ho);have HX:=hd (HX.o.off ho Kb);have HS:=hd (HS.o.off ho Kb);clear hv ho;have aa:=hd (And.intro HM.o.st.v3 HM.o.st.v5);refine hK _ _ (fun _=>aa.o) ?_;clear hK K;refine Kp 6 1 (fun K hK=>?_);rw[if_pos Ka];refine zY zJu HM.o.v8 _ _ rfl rfl 0 _ [.bool sx.is,.slice sx.A sx.n sx.c,.int .i64 sx.x,.slice sx.B sx.m sx.d,.int .i64 sx.y] rfl rfl rfl rfl Kh Km ?_;intro W6 hv ho;have HM:=hd (HM.o.set8 (t':=sx) Kb Kb hv ho);have HX:=hd (HX.o.off ho Kb);have HS:=hd (HS.o.off ho Kb);clear hv ho;have aa:=hd (And.intro HM.o.st.v3 HM.o.st.v5);refine hK _ _ (fun _=>aa.o) ?_;clear hK K;refine Kp 7 0 (fun K hK=>?_);rw[if_pos Ka];go_simp;refine hK _ _ (fun _=>aa.o) (zAl Ka ?_);clear hK K;go_wp2_with fail
 exact bodyPost_ret (zDt Tryz.results30 _ _ HM.o.v7 HM.o.v8 rfl rfl) rfl ⟨cx,sx,rfl,HX.o.more Kb,HS.o.more Kb,HM.o.st.below⟩
