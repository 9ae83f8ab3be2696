import Derived.Test.YtmkciabefepelaaGreatJHShp
set_option maxRecDepth 100000
set_option maxHeartbeats 8000000
namespace Go.Proofs.YtmkciabefepelaaGreat
open Go.RowKit
variable {W W' w:World}{E aff pos:Int}{u:Value}{p:List Int}{P:Prop}{c:NC}{a:OpP}{s t:SC}{sl:Sl}{g7 g8:Nat}{n:NT}
theorem kK4 {b:Bool}(h:decide (zDx aff)=b):Calls Tryz.prog 137 #[.int .i64 aff] W (jA (.bool b) W):=by
 subst h;by_cases h0:aff=0
 ·subst h0;go_enter Tryz.func137,Tryz.ntmps137
  go_wp2
  go_ret
  exact⟨rfl,Below.refl _ _⟩
 by_cases h1:aff=1
 ·subst h1;go_enter Tryz.func137,Tryz.ntmps137
  go_wp2
  go_ret
  exact⟨rfl,Below.refl _ _⟩
 by_cases h2:aff=2
 ·subst h2;go_enter Tryz.func137,Tryz.ntmps137
  go_wp2
  go_ret
  exact⟨rfl,Below.refl _ _⟩
 have HF:=hd (show decide (zDx aff)=false from decide_eq_false (fun h=>by unfold zDx at h;omega));have e0:(aff==0)=false:=by simp[h0]
 have e1:(aff==1)=false:=by simp[h1]
 have e2:(aff==2)=false:=by simp[h2]
 clear h0 h1 h2;go_enter Tryz.func137,Tryz.ntmps137
 go_wp2
 go_ret
 exact⟨kC HF.o.symm,Below.refl _ _⟩
theorem zH0 {off:Int}{b:Bool}(h:zEl off pos aff=b):Calls Tryz.prog 138 #[.int .i64 off,.int .i64 pos,.int .i64 aff] W (jA (.bool b) W):=by
 subst h;by_cases h0:pos<off
 ·have HF:=hd (show zEl off pos aff=true by unfold zEl;simp[h0]);have e0:decide (pos<off)=true:=decide_eq_true h0;clear h0;go_enter Tryz.func138,Tryz.ntmps138
  go_wp2
  go_ret
  exact⟨kC HF.o.symm,Below.refl _ _⟩
 have e0:decide (pos<off)=false:=decide_eq_false h0;by_cases h1:pos=off
 ·by_cases h2:aff=1
  ·have HF:=hd (show zEl off pos aff=true by unfold zEl;simp[h1,h2]);have e1:(pos==off)=true:=by simp[h1]
   have e2:(aff==1)=true:=by simp[h2]
   clear h0 h1 h2;go_enter Tryz.func138,Tryz.ntmps138
   go_wp2
   go_ret
   exact⟨kC HF.o.symm,Below.refl _ _⟩
  ·have HF:=hd (show zEl off pos aff=false by unfold zEl;simp[h0,h2]);have e1:(pos==off)=true:=by simp[h1]
   have e2:(aff==1)=false:=by simp[h2]
   clear h0 h1 h2;go_enter Tryz.func138,Tryz.ntmps138
   go_wp2
   go_ret
   exact⟨kC HF.o.symm,Below.refl _ _⟩
 ·have HF:=hd (show zEl off pos aff=false by unfold zEl;simp[h0,h1]);have e1:(pos==off)=false:=by simp[h1]
  clear h0 h1;go_enter Tryz.func138,Tryz.ntmps138
  go_wp2
  go_ret
  exact⟨kC HF.o.symm,Below.refl _ _⟩
theorem zW6 {off:Int}(hp:XA W u p)(h:pos=off/\aff=0):Calls Tryz.prog 139 #[.agg #[u,.int .i64 off],.int .i64 pos,.int .i64 aff] W (zC3 W noP):=by
 have e1:(pos==off)=true:=by simp[h.1]
 have e2:(aff==0)=true:=by simp[h.2]
 clear h;obtain⟨A,n,c,rfl,hn,hl,hc,hp⟩:=hp;obtain⟨W0,hW⟩:∃W0,W0=(W.alloc (.cells #[.slice A n c,.int .i64 off] 29)).alloc (.cells #[.slice none 0 0,.int .i64 0] 29):=⟨_,rfl⟩;have hb0:Below W.heap.size W W0:=hW▸zPp _ _ _;have e0:=kMr W (Obj.cells #[Value.slice A n c,Value.int .i64 off] 29) (Obj.cells #[Value.slice none 0 0,Value.int .i64 0] 29);rw[<-hW]at e0;have fA:=hd (fun w(h:Below W0.heap.size W0 w)=>zI1 e0.1 h);have cj:=hd (fun w(h:Below W0.heap.size W0 w)=>zI1 e0.2 h);have gP:=hd (fun w(h:Below W0.heap.size W0 w)=>hp.later (hb0.trans (h.mono hb0.size)));have HP:=hd (show∀w,Below W0.heap.size W0 w->XA w (.slice A n c) p from fun w h=>⟨A,n,c,rfl,hn,hl,hc,gP.o w h⟩);have ae:=hd (Below.refl W0.heap.size W0);have HW:=hd hW;have ay:=hd hb0;have HN:=hd hn;obtain⟨x0,x1,_,f1⟩:=yb2 (fA.o W0 ae.o);obtain⟨z0,z1,g0,g1⟩:=yb2 (cj.o W0 ae.o);clear hp hn hW hb0 e0;go_enter Tryz.func139,Tryz.ntmps139
 go_wp2
 rw[<-HW.o];refine bodyPost_ret (v:=.tuple #[.agg #[.slice none 0 0,.int .i64 0],.bool false]) (by simp[results,Tryz.results139,go_sem,z0,z1]) rfl (zBi rfl (zBt.nil _ _) ay.o)
theorem kQn (h:P:=by
 clear h;go_enter Tryz.func139,Tryz.ntmps139
 go_wp2_with(go_at_call 138;(try rw[<-HW.o]);refine Calls.mono (zH0 HS.o) ?_;rintro e w9 ⟨rfl,b9⟩;have bN:=hd b9;clear b9 x0 x1 z0 z1 f1 g0 g1;obtain⟨x0,x1,f0,f1⟩:=yb2 (fA.o _ bN.o);obtain⟨z0,z1,g0,g1⟩:=yb2 (cj.o _ bN.o))
 have hr:=zCr (cj.o _ bN.o) (.slice A n c) (.int .i64 off);obtain⟨y0,y1,_,_⟩:=yb2 hr;refine bodyPost_ret (v:=.tuple #[.agg #[.slice A n c,.int .i64 off],.bool true]) (by simp[results,Tryz.results139,go_sem,y0,y1]) rfl ⟨rfl,?_⟩;exact((ay.o.trans (bN.o.mono ay.o.size)).setCell (by show _<=W.heap.size+1;omega) _).setCell (by show _<=W.heap.size+1;omega) _):P:=h
theorem zW7 {off:Int}(hp:XA W u p)(h:¬(pos=off/\aff=0))(hs:zEl off pos aff=false):Calls Tryz.prog 139 #[.agg #[u,.int .i64 off],.int .i64 pos,.int .i64 aff] W (fun e w'=>e=.returned (.tuple #[.agg #[u,.int .i64 off],.bool true])/\Below W.heap.size W w'):=by
 have HS:=hd hs;clear hs;obtain⟨A,n,c,rfl,hn,hl,hc,hp⟩:=hp;obtain⟨W0,hW⟩:∃W0,W0=(W.alloc (.cells #[.slice A n c,.int .i64 off] 29)).alloc (.cells #[.slice none 0 0,.int .i64 0] 29):=⟨_,rfl⟩;have hb0:Below W.heap.size W W0:=hW▸zPp _ _ _;have e0:=kMr W (Obj.cells #[Value.slice A n c,Value.int .i64 off] 29) (Obj.cells #[Value.slice none 0 0,Value.int .i64 0] 29);rw[<-hW]at e0;have fA:=hd (fun w(h:Below W0.heap.size W0 w)=>zI1 e0.1 h);have cj:=hd (fun w(h:Below W0.heap.size W0 w)=>zI1 e0.2 h);have gP:=hd (fun w(h:Below W0.heap.size W0 w)=>hp.later (hb0.trans (h.mono hb0.size)));have HP:=hd (show∀w,Below W0.heap.size W0 w->XA w (.slice A n c) p from fun w h=>⟨A,n,c,rfl,hn,hl,hc,gP.o w h⟩);have ae:=hd (Below.refl W0.heap.size W0);have HW:=hd hW;have ay:=hd hb0;have HN:=hd hn;obtain⟨x0,x1,_,f1⟩:=yb2 (fA.o W0 ae.o);obtain⟨z0,z1,g0,g1⟩:=yb2 (cj.o W0 ae.o);clear hp hn hW hb0 e0;cases e1:(pos==off)
 ·exact kQn
 ·have e2:(aff==0)=false:=by simp at e1;simp;exact fun h2=>h ⟨e1,h2⟩
  exact kQn
theorem kQo (h:P:=by
 clear h;go_enter Tryz.func139,Tryz.ntmps139
 go_wp2_with(first|(go_at_call 138;(try rw[<-HW.o]);refine Calls.mono (zH0 HS.o) ?_;rintro e w9 ⟨rfl,b9⟩;have bN:=hd b9;clear b9 x0 x1 z0 z1 f1 g0 g1;obtain⟨x0,x1,f0,f1⟩:=yb2 (fA.o _ bN.o);obtain⟨z0,z1,g0,g1⟩:=yb2 (cj.o _ bN.o))|(go_at_call 118;refine Calls.mono (kBe (HP.o _ bN.o) wZ.o mL.o) ?_;rintro e w8 ⟨v8,rfl,ho,b8⟩;obtain⟨A8,c8,rfl,_,_⟩:=ho.open_at (k+1) xw.o;have cU:=hd (zI bN.o b8);have HO:=hd (ho.weaken (Nat.le_trans ay.o.size bN.o.size));clear b8 ho x0 x1 z0 z1 f0 f1 g0 g1;obtain⟨x0,x1,f0,f1⟩:=yb2 (fA.o _ cU.o);obtain⟨z0,z1,g0,g1⟩:=yb2 (cj.o _ cU.o)))
 have hr1:=kFq (k:=1) (kFq (k:=0) (cj.o _ cU.o) (g':=W.heap.size) Kb (.slice A8 (k+1) c8)) (g':=W.heap.size) Kb (.int .i64 (off-pos));have hr:=zCr hr1 (.slice A8 (k+1) c8) (.int .i64 (off-pos));obtain⟨y0,y1,_,_⟩:=yb2 hr;have ho:=((HO.o.ypt (x:=.slice A8 (k+1) c8) (y:=.int .i64 (off-pos)) (fA.o _ cU.o)).ypt (x:=.slice A8 (k+1) c8) (y:=.int .i64 (off-pos)) hr1);clear x0 x1 f0 f1 z0 z1 g0 g1;refine bodyPost_ret (v:=.tuple #[.agg #[.slice A8 (k+1) c8,.int .i64 (off-pos)],.bool true]) (by simp[results,Tryz.results139,go_sem,y0,y1]) rfl (zBi rfl ho ?_);exact((((ay.o.trans (cU.o.mono ay.o.size)).setCell Km _).setCell Km _).setCell (by show _<=W.heap.size+1;omega) _).setCell (by show _<=W.heap.size+1;omega) _):P:=h
theorem zW8 {off:Int}{k:Nat}(hp:XA W u p)(hk:p.length=k+1)(hsm:jI p=true)(h:¬(pos=off/\aff=0))(hs:zEl off pos aff=true)(h1:0<=off)(h2:off<=1048576)(h3:0<=pos)(h4:pos<=1048576):Calls Tryz.prog 139 #[.agg #[u,.int .i64 off],.int .i64 pos,.int .i64 aff] W (zC3 W ((addL p k 1,off-pos),true)):=by
 have HS:=hd hs;have mL:=hd (kCp hk hsm);have wZ:=hd ((zDf p).1 hsm);have xw:=hd (show(addL p k 1).length=k+1 by rw[zJe];exact hk);have HK:=hd hk;clear hs hk hsm;obtain⟨A,n,c,rfl,hn,hl,hc,hp⟩:=hp;obtain⟨W0,hW⟩:∃W0,W0=(W.alloc (.cells #[.slice A n c,.int .i64 off] 29)).alloc (.cells #[.slice none 0 0,.int .i64 0] 29):=⟨_,rfl⟩;have hb0:Below W.heap.size W W0:=hW▸zPp _ _ _;have e0:=kMr W (Obj.cells #[Value.slice A n c,Value.int .i64 off] 29) (Obj.cells #[Value.slice none 0 0,Value.int .i64 0] 29);rw[<-hW]at e0;have fA:=hd (fun w(h:Below W0.heap.size W0 w)=>zI1 e0.1 h);have cj:=hd (fun w(h:Below W0.heap.size W0 w)=>zI1 e0.2 h);have gP:=hd (fun w(h:Below W0.heap.size W0 w)=>hp.later (hb0.trans (h.mono hb0.size)));have HP:=hd (show∀w,Below W0.heap.size W0 w->XA w (.slice A n c) p from fun w h=>⟨A,n,c,rfl,hn,hl,hc,gP.o w h⟩);have ae:=hd (Below.refl W0.heap.size W0);have HW:=hd hW;have ay:=hd hb0;have HN:=hd hn;obtain⟨x0,x1,_,f1⟩:=yb2 (fA.o W0 ae.o);obtain⟨z0,z1,g0,g1⟩:=yb2 (cj.o W0 ae.o);clear hp hn hW hb0 e0;cases e1:(pos==off)
 ·exact kQo
 ·have e2:(aff==0)=false:=by simp at e1;simp;exact fun h2=>h ⟨e1,h2⟩
  exact kQo
theorem kD8 {a b c:Nat}(h:a+3<=b)(h2:b<=c):a<c/\a+1<c/\a+1+1<c:=Kb
structure PC where
 A:Option Addr
 n:Nat
 c:Nat
 x:Int
def PC.row (c:PC):Array Value:=#[.slice c.A c.n c.c,.int .i64 c.x]
theorem PC.one (c:PC):c.row.all (·.oneCell')=true:=Ka
structure kAw (w:World)(c:PC)(p:List Int×Int):Prop where
 hx:p.2=c.x
 hn:p.1.length=c.n
 hc:c.n<=c.c
 hm:c.n<=1000
 hA:IL w w.heap.size c.A p.1
theorem kAw.later {w':World}{c:PC}{p:List Int×Int}(h:kAw w c p)(hb:Below w.heap.size w w'):kAw w' c p:=⟨h.hx,h.hn,h.hc,h.hm,h.hA.later hb⟩
theorem zW :kC5 29 2:=⟨.struct (Tryz.prog.fieldsOf 29),by kernel_rfl,rfl,by kernel_rfl⟩
theorem kAw.pa {c:PC}{p:List Int×Int}(h:kAw w c p):PA w (.agg c.row) p:=
 ⟨.slice c.A c.n c.c,by rw[h.hx];rfl,c.A,c.n,c.c,rfl,h.hn,h.hm,h.hc,h.hA⟩
def kK5 (w:World)(r:(List Int×Int)×Bool)(e:Ending)(w':World):Prop:=∃c:PC,e=.returned (.tuple #[.agg c.row,.bool r.2])/\kAw w' c r.1/\Below w.heap.size w w'
theorem OkA.xq12 {o:OC}(ho:OkA w o a)(ta:zAf a):XA w (.slice o.Q o.lq o.cq) a.q:=⟨_,_,_,rfl,ho.hlq,by have:=ta.hq;have:=ho.hlq;omega,ho.hcq,ho.hq⟩
theorem OkA.xt12 {o:OC}(ho:OkA w o a)(ta:zAf a):XA w (.slice o.T o.lt o.ct) a.t:=⟨_,_,_,rfl,ho.hlt,by have:=ta.ht;have:=ho.hlt;omega,ho.hct,ho.ht⟩
theorem kH8 (a b:List Int×Int):samP a b=true ↔ a=b:=by unfold samP;exact decide_eq_true_iff
theorem zTu (c:OC):c.row.all (·.oneCell')=true:=Ka
theorem zW9 (h:zB1 w s sl)(hf:fewS sl=true):kAw w ⟨s.A,s.n,s.c,s.x⟩ sl.a/\kAw w ⟨s.B,s.m,s.d,s.y⟩ sl.f/\sl.a.1.length<=60/\sl.f.1.length<=60:=by
 obtain⟨l1,l2⟩:=h.len hf;have e1:=h.hn;have e2:=h.hm;exact⟨⟨h.hx,h.hn,h.hc,by show s.n<=_;omega,h.hA⟩,⟨h.hy,h.hm,h.hd,by show s.m<=_;omega,h.hB⟩,by omega,by omega⟩
def SC.nil :SC:=⟨false,none,0,0,0,none,0,0,0⟩
theorem zJ2 (w:World):zB1 w SC.nil zeroS:=zIi.zero w
theorem zDs (w:World)(c:NC)(s:SC)(o:OC):∃W0,((((w.alloc (.cells c.row 26)).alloc (.cells s.row 33)).alloc (.cells o.row 35)).alloc (.cells #[.bool false,.slice none 0 0,.slice none 0 0,.slice none 0 0] 26)).alloc (.cells #[.bool false,.slice none 0 0,.int .i64 0,.slice none 0 0,.int .i64 0] 33)=W0/\St5 w c s o (w.heap.size+1+1+1) (w.heap.size+1+1+1+1) NC.nil SC.nil W0:=by
 obtain⟨W1,hW1,h1⟩:=kN w c s o;have e1:W1.heap.size=w.heap.size+1+1+1:=by rw[<-hW1];simp
 rw[hW1];refine⟨_,rfl,h1.call ((Kl.alloc Km _).alloc Kc _),?_,?_⟩
 ·rw[<-e1];exact(jT.new W1 26 NC.nil.row).alloc _
 ·have e2:(W1.alloc (.cells NC.nil.row 26)).heap.size=w.heap.size+1+1+1+1:=by simp[e1]
  rw[<-e2];exact jT.new _ 33 SC.nil.row
theorem St5.set7 {o:OC}{a a':NC}(h:St5 w c s o g7 g8 a t W)(hg:w.heap.size+1+1<g7)(hne:g8≠g7)(hv:jT 26 W' g7 a'.row)(ho:Off g7 W W'):St5 w c s o g7 g8 a' t W':=⟨h.st.store ho hg,hv,h.v8.off ho hne⟩
theorem St5.set8 {o:OC}{a:NC}{t':SC}(h:St5 w c s o g7 g8 a t W)(hg:w.heap.size+1+1<g8)(hne:g7≠g8)(hv:jT 33 W' g8 t'.row)(ho:Off g8 W W'):St5 w c s o g7 g8 a t' W':=⟨h.st.store ho hg,h.v7.off ho hne,hv⟩
theorem zDt {fn:Func}{p q u:Tmp}(h:fn.results=#[.cell p 26,.cell q 33,.tmp u])(tmps:Array Value)(w:World){g g':Nat}(hv:jT 26 w g c.row)(hs:jT 33 w g' s.row)(hp:tmps.getD p undef=.pointer (some ⟨g,0,none⟩))(hq:tmps.getD q undef=.pointer (some ⟨g',0,none⟩)):(results fn tmps).run Tryz.prog w=.ok (.tuple #[.agg c.row,.agg s.row,tmps.getD u undef]) w:=by
 obtain⟨d,h3,h4,h5⟩:=zD;obtain⟨d',h3',h4',uD⟩:=zP;simp only[results,h];simp only[List.mapM_toArray,hp,hq,asAddr,Sem.run_bind,Sem.run_pure,List.mapM_cons,List.mapM_nil];simp[Sem.run_bind,Result.andThen,run_loadVar_row w g _ _ _ _ d hv h3 (by cases d<;>simp_all) h5,run_loadVar_row w g' _ _ _ _ d' hs h3' (by cases d'<;>simp_all) uD]
def OC.from_ (o:OC):SC:=⟨o.fi,o.F1,o.f1,o.d1,o.fo,o.F2,o.f2,o.d2,o.fp⟩
theorem zPq {o:OC}(h:OkA w o a):zB1 w o.from_ a.f:=h.hf
theorem kH9 (h:kS w c n):Calls Tryz.prog 75 #[.agg c.row] w (fun e w'=>∃c':NC,e=.returned (.agg c'.row)/\zH3 w.heap.size w' (fun W=>kS W c' n)/\Below w.heap.size w w'):=by
 obtain⟨d,h⟩:=h;refine(zEy d w _ n h).mono fun e w' h1=>?_;obtain⟨v,rfl,ht,hb⟩:=h1;obtain⟨c',rfl,_⟩:=zFo (ht.at_ (B:=w'.heap.size) fun b hb=>hb.2);exact⟨c',rfl,zHy ht,hb⟩
def zVb (w:World)(r:(NT×Sl)×Int)(e:Ending)(w':World):Prop:=
 ∃(c:NC)(s:SC),e=.returned (.tuple #[.agg c.row,.agg s.row,.int .i64 r.2])/\zH3 w.heap.size w' (fun W=>kS W c r.1.1)/\zH3 w.heap.size w' (fun W=>zB1 W s r.1.2)/\Below w.heap.size w w'
theorem kOt (h:P:=by
 have H1:=hd h1;try have H2:=hd h2
 try have H3:=hd h3
 try have H4:=hd h4
 have HN:=hd hn;have dv:=hd hs;have HO:=hd ho;have kx:=hd hf;have au:=hd ta;clear hn hs ho hf ta h1;try clear h2
 try clear h3
 try clear h4
 obtain⟨W0,hW,hst⟩:=kN w c s o;have HW:=hd hW;have HM:=hd hst;clear hW hst;go_enter Tryz.func40,Tryz.ntmps40
 go_upto_region 1 with fail
 rw[HW.o];clear HW;go_wp2_with(first
  |((with_reducible refine zC (ty:=26) (x:=.tmp 3) ?_);refine zB zD HM.o.v3 rfl _ rfl rfl rfl ?_)
  |(go_at_call 18;refine Calls.mono (zFa (HN.o.later HM.o.below) H1.o) ?_;rintro e w1 ⟨rfl,b9⟩;have HM:=hd (HM.o.call b9);clear b9)
  |((with_reducible refine zC (ty:=4) (x:=.tmp 14) ?_);refine zM HM.o.v3 (j:=0) (v:=.bool false) _ rfl rfl rfl (by simp only[NC.row,H2.o];rfl) Tryz.underlying4 rfl ?_)
  |((with_reducible refine zC (ty:=4) (x:=.tmp 14) ?_);refine zM HM.o.v3 (j:=0) (v:=.bool true) _ rfl rfl rfl (by simp only[NC.row,H2.o];rfl) Tryz.underlying4 rfl ?_)
  |((with_reducible refine zC (ty:=33) (x:=.tmp 4) ?_);refine zB zP HM.o.v4 rfl _ rfl rfl rfl ?_)
  |(go_at_call 19;refine Calls.mono (zKk (HN.o.later HM.o.below) (dv.o.later HM.o.below) kx.o H3.o) ?_;rintro e w2 ⟨rfl,b9⟩;have HM:=hd (HM.o.call b9);clear b9)
  |((with_reducible refine zC (ty:=35) (x:=.tmp 5) ?_);refine zG HM.o.v5 _ rfl rfl rfl ?_)
  |(go_at_call 58;refine Calls.mono (zFt (HO.o.later HM.o.below) au.o H4.o) ?_;rintro e w3 ⟨rfl,b9⟩;have HM:=hd (HM.o.call b9);clear b9)
  |fail)
 go_ret
 exact⟨rfl,HM.o.below⟩):P:=h
theorem kH0 {o:OC}(hn:kS w c n)(hs:zB1 w s sl)(ho:OkA w o a)(hf:fewS sl=true)(ta:zAf a)(h1:zAd n=E)(hne:(E !=0)=true):Calls Tryz.prog 40 #[.agg c.row,.agg s.row,.agg o.row] w (jA (.int .i64 E) w):=by
 exact kOt
theorem kH1 {o:OC}(hn:kS w c n)(hs:zB1 w s sl)(ho:OkA w o a)(hf:fewS sl=true)(ta:zAf a)(h1:zAd n=0)(h2:c.lf=true):Calls Tryz.prog 40 #[.agg c.row,.agg s.row,.agg o.row] w (jA (.int .i64 7) w):=by
 exact kOt
theorem kH2 {o:OC}(hn:kS w c n)(hs:zB1 w s sl)(ho:OkA w o a)(hf:fewS sl=true)(ta:zAf a)(h1:zAd n=0)(h2:c.lf=false)(h3:zE8 n sl=E)(hne:(E !=0)=true):Calls Tryz.prog 40 #[.agg c.row,.agg s.row,.agg o.row] w (jA (.int .i64 E) w):=by
 exact kOt
theorem kH3 {o:OC}(hn:kS w c n)(hs:zB1 w s sl)(ho:OkA w o a)(hf:fewS sl=true)(ta:zAf a)(h1:zAd n=0)(h2:c.lf=false)(h3:zE8 n sl=0)(h4:zCx a=E):Calls Tryz.prog 40 #[.agg c.row,.agg s.row,.agg o.row] w (jA (.int .i64 E) w):=by
 exact kOt
noncomputable def zG7 (n:NT)(s:Sl)(a:OpP):Int:=if zAd n≠0 then zAd n else if n.lf=true then 7 else if zE8 n s≠0 then zE8 n s else zCx a
theorem zIh {o:OC}(hn:kS w c n)(hs:zB1 w s sl)(ho:OkA w o a)(hf:fewS sl=true)(ta:zAf a)(hE:zG7 n sl a=E):Calls Tryz.prog 40 #[.agg c.row,.agg s.row,.agg o.row] w (jA (.int .i64 E) w):=by
 unfold zG7 at hE;by_cases h1:zAd n=0
 case neg=>rw[if_pos h1]at hE;subst hE;exact kH0 hn hs ho hf ta rfl (by simpa using h1)
 rw[if_neg (by simp[h1])]at hE;have el:=hn.lf;cases h2:n.lf with
 |true=>rw[if_pos h2]at hE;subst hE;exact kH1 hn hs ho hf ta h1 (by rw[<-el];exact h2)
 |false=>
  rw[if_neg (by simp[h2])]at hE;have h2':c.lf=false:=by rw[<-el];exact h2
  by_cases h3:zE8 n sl=0
  case neg=>rw[if_pos h3]at hE;subst hE;exact kH2 hn hs ho hf ta h1 h2' rfl (by simpa using h3)
  rw[if_neg (by simp[h3])]at hE;exact kH3 hn hs ho hf ta h1 h2' h3 hE
theorem zPn {si:Bool}{A B:Option Addr}{n c m d:Nat}{x y:Int}{s:Sl}(h:zIi w si A n c x B m d y s)(h1:n<=1000)(h2:m<=1000):
  Calls Tryz.prog 44 #[.agg #[.bool si,.slice A n c,.int .i64 x,.slice B m d,.int .i64 y]] w (kMx w si n x m y s):=by
 obtain⟨W0,hW⟩:∃W0,(w.alloc (.cells #[.bool si,.slice A n c,.int .i64 x,.slice B m d,.int .i64 y] 33)).alloc (.cells #[.bool false,.slice none 0 0,.int .i64 0,.slice none 0 0,.int .i64 0] 33)=W0:=⟨_,rfl⟩;have hb0:Below w.heap.size w W0:=hW▸kM Kl Km;have e0:=zK2 w (Obj.cells #[.bool si,.slice A n c,.int .i64 x,.slice B m d,.int .i64 y] 33) (Obj.cells #[.bool false,.slice none 0 0,.int .i64 0,.slice none 0 0,.int .i64 0] 33);rw[hW]at e0;have aB:=hd (show zI2 W0 w.heap.size _ _ _ _ _ from e0.1);have ah:=hd (show zI2 W0 (w.heap.size+1) _ _ _ _ _ from e0.2);have HW:=hd hW;have HB:=hd hb0;have HH:=hd h;clear hW hb0 e0 h;go_enter Tryz.func44,Tryz.ntmps44
 go_upto_region 1 with fail
 rw[HW.o];refine jO (S:=fun W=>zI2 W w.heap.size (.bool si) (.slice A n c) (.int .i64 x) (.slice B m d) (.int .i64 y)) (z:=fun j=>decide (10<=j)) Ka ?_;have aa:=hd (show zI2 W0.drew w.heap.size (.bool si) (.slice A n c) (.int .i64 x) (.slice B m d) (.int .i64 y)from aB.o);refine Ko 0 17 (.pointer (some ⟨w.heap.size,1,none⟩)) (fun W hW=>?_) aa.o ?_
 ·skip
  go_simp
 simp only[Act.put,List.setIfInBounds_toArray];refine Ko 1 16 (.pointer (some ⟨w.heap.size,1,none⟩)) (fun W hW=>?_) aa.o ?_
 ·skip
  go_simp
 simp only[Act.put];refine Ko 2 15 (.pointer (some ⟨w.heap.size,1,none⟩)) (fun W hW=>?_) aa.o ?_
 ·skip
  go_simp
 simp only[Act.put];refine Ko 3 14 (.slice A n c) (fun W hW=>?_) aa.o ?_
 ·obtain⟨_,y1,_,_,_⟩:=zI2.cells hW;go_simp
 simp only[Act.put];refine Ko 5 13 (.pointer (some ⟨w.heap.size,1,none⟩)) (fun W hW=>?_) aa.o ?_
 ·skip
  go_simp
 simp only[Act.put];refine Ko 6 12 (.pointer (some ⟨w.heap.size,3,none⟩)) (fun W hW=>?_) aa.o ?_
 ·skip
  go_simp
 simp only[Act.put];refine Ko 7 11 (.pointer (some ⟨w.heap.size,3,none⟩)) (fun W hW=>?_) aa.o ?_
 ·skip
  go_simp
 simp only[Act.put];refine Ko 8 10 (.slice B m d) (fun W hW=>?_) aa.o ?_
 ·obtain⟨_,_,_,y3,_⟩:=zI2.cells hW;go_simp
 simp only[Act.put];refine Kq 4 9 (fun K hK=>?_);rw[if_pos Ke];go_simp;go_at_call 88
 refine(zFz A s.a.1 n c _ HH.o.hn h1 ((HH.o.hA.later HB.o).later (Kl.drew))).mono ?_;rintro e w5 ⟨A5,c5,rfl,vw,hs5,bz⟩;have aW:Below W0.heap.size W0 w5:=(Kl.drew).trans bz;have aa:=hd (aB.o.keep aW);refine hK _ _ (fun _=>aa.o) ?_;clear hK K;refine zDd (i:=10) (n:=8) (.pointer (some ⟨w.heap.size,1,none⟩)) rfl rfl Ka Ka Ka (fun _ _ _ h=>h) Ke (fun W=>?_) ?_
 ·go_simp
 simp only[Act.put];refine zDd (i:=11) (n:=7) (.pointer (some ⟨w.heap.size,1,none⟩)) rfl rfl Ka Ka Ka (fun _ _ _ h=>h) Ke (fun W=>?_) ?_
 ·go_simp
 simp only[Act.put];refine zDd (i:=12) (n:=6) (.pointer (some ⟨w.heap.size,1,none⟩)) rfl rfl Ka Ka Ka (fun _ _ _ h=>h) Ke (fun W=>?_) ?_
 ·go_simp
 simp only[Act.put];refine Kq 9 5 (fun K hK=>?_);rw[if_pos Ke];go_simp;go_at_call 88
 refine(zFz B s.f.1 m d _ HH.o.hm h2 ((HH.o.hB.later HB.o).later aW)).mono ?_;rintro e w6 ⟨B6,d6,rfl,vz,ln,je⟩;have hg1:=aB.o.lt;have hg2:=ah.o.lt;have nW:=aW.size;have BB:=je.size;have bv:=hd (((hs5.more (show W0.heap.size<=W0.drew.heap.size from Nat.le_refl _)).high (zA5.below je)));have qZ:=hd (ln.more nW);have aB:=hd (aa.o.keep je);have ah:=hd ((ah.o.keep aW).keep je);have HB:=hd (HB.o.trans ((aW.trans (je.mono nW)).mono HB.o.size));clear bz hs5 ln;refine hK _ _ (fun _=>aB.o) ?_;clear hK K aa;refine Kq 13 4 (fun K hK=>?_);rw[if_pos Ke];refine zY zCa aB.o _ _ rfl rfl 1 _ [.slice A5 n c5] rfl rfl rfl rfl (zHt rfl) Kn ?_;intro W7 bT bw;refine hK _ _ (fun h=>absurd h Kd) ?_;clear hK K;refine zDd (i:=14) (n:=3) (.pointer (some ⟨w.heap.size,1,none⟩)) rfl rfl Ka Ka Ka (fun _ _ _ h=>h) Ke (fun W=>?_) ?_
 ·go_simp
 simp only[Act.put];refine zDd (i:=15) (n:=2) (.pointer (some ⟨w.heap.size,3,none⟩)) rfl rfl Ka Ka Ka (fun _ _ _ h=>h) Ke (fun W=>?_) ?_
 ·go_simp
 simp only[Act.put];refine zDd (i:=16) (n:=1) (.pointer (some ⟨w.heap.size,3,none⟩)) rfl rfl Ka Ka Ka (fun _ _ _ h=>h) Ke (fun W=>?_) ?_
 ·go_simp
 simp only[Act.put];refine Kq 17 0 (fun K hK=>?_);rw[if_pos Ke];refine zY zCa bT _ _ rfl rfl 3 _ [.slice B6 m d6] rfl rfl rfl rfl (zHt rfl) Kn ?_;intro W8 bU bE;refine hK _ _ (fun h=>absurd h Kd) (zAl Ka ?_);clear hK K;have HO:=hd (bw.trans bE);have aB:=hd (show zI2 W8 w.heap.size (.bool si) (.slice A5 n c5) (.int .i64 x) (.slice B6 m d6) (.int .i64 y)from bU);have ah:=hd (ah.o.off HO.o Kb);have HB:=hd (zN HB.o HO.o Km);clear bT bw bU bE;go_wp2_with(first
  |((with_reducible refine zC (ty:=33) ?_);refine zIm aB.o _ rfl rfl rfl ?_)
  |((with_reducible refine zF (ty:=33) (x:=.tmp 2) ?_);refine zHc ah.o _ _ rfl rfl rfl rfl rfl Ka ?_;intro W9 av aj;have ah:=hd av;have ej:=hd aj;clear av aj))
 have hh:=HH.o;have hlo:w.heap.size+1<W0.heap.size:=Kb;have hhi:zA5 W0.heap.size w6 W9:=(zA5.off HO.o Kb).trans (zA5.off ej.o hlo);refine bodyPost_ret (zP6 Tryz.results44 _ _ ah.o rfl) rfl ⟨A5,c5,B6,d6,rfl,fun W hoff=>?_,zN HB.o ej.o (Nat.le_succ _)⟩;have hx:=hhi.trans (hoff.mono Kb);exact⟨hh.his,hh.hx,hh.hy,hh.hn,hh.hm,vw,vz,hh.hmn,hh.hmm,bv.o W hx,qZ.o W hx⟩
theorem zKs (h:zB1 w s sl)(h1:s.n<=1000)(h2:s.m<=1000):Calls Tryz.prog 44 #[.agg s.row] w (fun e w'=>∃t:SC,e=.returned (.agg t.row)/\zH3 w.heap.size w' (fun W=>zB1 W t sl)/\Below w.heap.size w w'):=by
 refine(zPn h h1 h2).mono ?_;rintro e w' ⟨A,c,B,d,rfl,hs,hb⟩;exact⟨⟨s.is,A,s.n,c,s.x,B,s.m,d,s.y⟩,rfl,hs,hb⟩
