import Derived.Test.YtmglnjmnabjjgaaGreatJLRight2
set_option maxRecDepth 100000
set_option maxHeartbeats 8000000
namespace Go.Proofs.YtmglnjmnabjjgaaGreat
open Go.RowKit
variable {w:World}{c:GC}{an f fo p q s x:List Int×Int}{a:OpP}{aff f1 f2:Int}{r:((List Int×Int)×(List Int×Int))×Bool}{t:TypeId}{n:NT}{g h:Nat}{A:Option Addr}{d:RC}{b:Bool}
def kQ0 (w:World)(r:(List Int×Int)×Bool)(e:Ending)(w':World):Prop:=∃d:PC,e=.returned (.tuple #[.agg d.row,.bool r.2])/\zH3 w.heap.size w' (fun W=>kNt W d.A d.n d.c r.1.1)/\r.1.2=d.x/\Below w.heap.size w w'
theorem kUm {c:PC}{o:OC}{r:(List Int×Int)×Bool}(hp:kAw w c p)(ho:OkA w o a)(ta:zAf a)(hl:p.1.length<=60)(hr:zEr a.k a.q a.t a.z a.x.length aff p=r):Calls Tryz.prog 20 #[.agg c.row,.agg o.row,.int .i64 aff] w (kQ0 w r):=by
 have h1:=ta.hq;have h2:=ta.ht;have h3:=ta.hx;have h4:=ho.hnx;have hm:=zXz (K:=a.k) (q:=a.q) (t:=a.t) (pos:=a.z) (n:=a.x.length) (aff:=aff) (p:=p);rw[hr]at hm;rw[ho.hk,ho.hz,h4]at hr;refine(kEt hp.pa (ho.xq12 ta) (ho.xt12 ta) Kb hr).mono fun e w' h=>?_;obtain⟨v,rfl,h5,h6⟩:=h;obtain⟨A,d,rfl,e1,e2,_⟩:=h5.open_;have hst:=zI6 h5;exact⟨⟨A,r.1.1.length,d,r.1.2⟩,rfl,fun W hW=>⟨rfl,e1,by show r.1.1.length<=_;omega,hst W hW⟩,rfl,h6⟩
theorem kOe {n:Nat}(hrow:kC5 t n){fn:Func}{p u:Tmp}(h:fn.results=#[.cell p t,.tmp u])(tmps:Array Value)(w:World){r:Array Value}(hv:jT t w g r)(hn:r.size=n)(hp:tmps.getD p undef=.pointer (some ⟨g,0,none⟩)):(results fn tmps).run Tryz.prog w=.ok (.tuple #[.agg r,tmps.getD u undef]) w:=by
 obtain⟨d,h3,h4,h5⟩:=hrow;rw[results_cell_tmp h,hp];simp only[asAddr,Sem.run_pure,Result.andThen_ok,run_loadVar_row w g _ _ _ _ d hv h3 (by cases d<;>simp_all) (by rw[h5,hn])]
def PC.nil :PC:=⟨none,0,0,0⟩
def GC.nil :GC:=⟨none,0,0,0,none,0,0,0⟩
theorem kPz {c:PC}{o:OC}{r:(List Int×Int)×Bool}(hp:kAw w c p)(hv:jT 35 w h o.row)(ho:OkA w o a)(ta:zAf a)(hl:p.1.length<=60)(hr:zEr a.k a.q a.t a.z a.x.length aff p=r):Calls Tryz.prog 91 #[.agg c.row,.int .i64 aff,.pointer (some ⟨h,0,none⟩)] w (kQ0 w r):=by
 obtain⟨W0,hW,hb0,v1,v2⟩:=kQa w 29 29 c.row PC.nil.row;have av:=hd v1;have ah:=hd v2;have gL:=hd (hv.keep hb0);have HP:=hd (hp.later hb0);have HO:=hd (ho.later hb0);have HB:=hd hb0;have ar:=hd hb0;have aw:=hd ta;have HL:=hd hl;have HR:=hd hr;have HW:=hd hW;clear hW hb0 v1 v2 hp hv ho ta hl hr;go_enter Tryz.func91,Tryz.ntmps91
 go_upto_region 1 with fail
 rw[show(w.alloc (.cells c.row 29)).alloc (.cells #[.slice none 0 0,.int .i64 0] 29)=W0 from HW.o];go_wp2_with(first
  |((with_reducible refine zC (ty:=29) (x:=.tmp 3) ?_);refine zB kNo av.o rfl _ rfl rfl rfl ?_)
  |((with_reducible refine zC (ty:=35) (x:=.tmp 2) ?_);refine zB zMk gL.o rfl _ rfl rfl rfl ?_)
  |(go_at_call 20;refine Calls.mono (kUm HP.o HO.o aw.o HL.o HR.o) ?_;rintro e w1 ⟨d,rfl,hst,hx,b9⟩;have aS:=hd hst;have HX:=hd hx;have hlt:=ah.o.lt;have ah:=hd (ah.o.keep b9);have HB:=hd (zI HB.o b9);clear b9 hst hx)
  |((with_reducible refine zF (ty:=29) (x:=.tmp 5) ?_);refine zA kNo (r:=d.row) ah.o rfl rfl d.one _ _ rfl rfl rfl rfl rfl ?_;intro W9 ak ag;have HST:=hd (aS.o.high (zA5.off ag hlt));have HB:=hd (kO6 HB.o ag Kb);have ah:=hd ak;clear ak ag))
 refine bodyPost_ret (kOe kNo Tryz.results91 _ _ ah.o rfl rfl) rfl ⟨d,rfl,?_,HX.o,HB.o⟩;exact HST.o.more ar.o.size
def kSe (w:World)(r:((List Int×Int)×(List Int×Int))×Bool)(e:Ending)(w':World):Prop:=∃d:GC,e=.returned (.tuple #[.agg d.row,.bool r.2])/\zH3 w.heap.size w' (fun W=>kNt W d.A d.na d.ca r.1.1.1/\kNt W d.F d.nf d.cf r.1.2.1)/\r.1.1.2=d.ao/\r.1.2.2=d.fo/\Below w.heap.size w w'
theorem GC.nilS (_w w':World){lo:Nat}:zH3 lo w' (fun W=>kNt W GC.nil.A GC.nil.na GC.nil.ca []/\kNt W GC.nil.F GC.nil.nf GC.nil.cf []):=fun W _=>⟨kNt.nil W,kNt.nil W⟩
theorem GtA.ps {a:List Int×Int}(h:GtA w c a f):kAw w ⟨c.A,c.na,c.ca,c.ao⟩ a/\kAw w ⟨c.F,c.nf,c.cf,c.fo⟩ f:=⟨⟨h.hao,h.haa.len,h.haa.cap,h.hn,h.haa.il⟩,⟨h.hfo,h.hf.len,h.hf.cap,h.hm,h.hf.il⟩⟩
theorem kU5 {o:OC}(hg:GtA w c an fo)(hv:jT 35 w h o.row)(ho:OkA w o a)(ta:zAf a)(la:an.1.length<=60)(lf:fo.1.length<=60)(h1:zEr a.k a.q a.t a.z a.x.length f1 an=(q,false)):Calls Tryz.prog 90 #[.agg c.row,.int .i64 f1,.int .i64 f2,.func (.func 91) #[] #[.pointer (some ⟨h,0,none⟩)]] w (kSe w ((([],0),([],0)),false)):=by
 obtain⟨W0,hW,hb0,v1,v2⟩:=kQa w 31 31 c.row GC.nil.row;have av:=hd v1;have ah:=hd v2;have gL:=hd (hv.keep hb0);have HG:=hd (hg.later hb0);have HO:=hd (ho.later hb0);have HB:=hd hb0;have ar:=hd hb0;have aw:=hd ta;have fH:=hd la;have cX:=hd lf;have bo:=hd h1;have HW:=hd hW;have bR:=hd (show Calls Tryz.prog 91 #[.agg #[.slice c.A c.na c.ca,.int .i64 c.ao],.int .i64 f1,.pointer (some ⟨h,0,none⟩)] W0 (kQ0 W0 (q,false))from kPz (c:=⟨c.A,c.na,c.ca,c.ao⟩) HG.o.ps.1 gL.o HO.o aw.o fH.o bo.o);clear hW hb0 v1 v2 hg hv ho ta la lf h1;go_enter Tryz.func90,Tryz.ntmps90
 go_upto_region 1 with fail
 rw[show(w.alloc (.cells c.row 31)).alloc (.cells #[.slice none 0 0,.int .i64 0,.slice none 0 0,.int .i64 0] 31)=W0 from HW.o];obtain⟨n0,n1,n2,n3⟩:=kOy av.o;go_wp2_with(first
  |(go_at_call 91;refine bR.o.mono ?_;rintro e w1 ⟨d,rfl,hst,hx,b9⟩;have ah:=hd (ah.o.keep b9);have HB:=hd (zI HB.o b9);clear b9 hst hx)
  |((with_reducible refine zF (ty:=29) (x:=.tmp 10) ?_);refine zA kNo (r:=d.row) (jT.new w1 29 PC.nil.row) rfl rfl d.one _ _ rfl rfl rfl rfl rfl ?_;intro W5 eB bF;have b9:=zN ((Below.refl w1.heap.size w1).alloc Kl (.cells PC.nil.row 29)) bF Kl;have ah:=hd (ah.o.keep b9);have HB:=hd (zI HB.o b9);clear b9 eB bF)
  |((with_reducible refine zF (ty:=31) (x:=.tmp 8) ?_);refine zA kN3 (r:=GC.nil.row) ah.o rfl rfl GC.nil.one _ _ rfl rfl rfl rfl rfl ?_;intro W9 ak ag;have HB:=hd (kO6 HB.o ag Kb);have ah:=hd ak;clear ak ag))
 exact bodyPost_ret (kOe kN3 Tryz.results90 _ _ ah.o rfl rfl) rfl ⟨GC.nil,rfl,GC.nilS w _,rfl,rfl,HB.o⟩
theorem kU6 {o:OC}(hg:GtA w c an fo)(hv:jT 35 w h o.row)(ho:OkA w o a)(ta:zAf a)(la:an.1.length<=60)(lf:fo.1.length<=60)(h1:zEr a.k a.q a.t a.z a.x.length f1 an=(q,true))(h2:zEr a.k a.q a.t a.z a.x.length f2 fo=(s,false)):Calls Tryz.prog 90 #[.agg c.row,.int .i64 f1,.int .i64 f2,.func (.func 91) #[] #[.pointer (some ⟨h,0,none⟩)]] w (kSe w ((([],0),([],0)),false)):=by
 have bN:=hd h2;clear h2;obtain⟨W0,hW,hb0,v1,v2⟩:=kQa w 31 31 c.row GC.nil.row;have av:=hd v1;have ah:=hd v2;have gL:=hd (hv.keep hb0);have HG:=hd (hg.later hb0);have HO:=hd (ho.later hb0);have HB:=hd hb0;have ar:=hd hb0;have aw:=hd ta;have fH:=hd la;have cX:=hd lf;have bo:=hd h1;have HW:=hd hW;have bR:=hd (show Calls Tryz.prog 91 #[.agg #[.slice c.A c.na c.ca,.int .i64 c.ao],.int .i64 f1,.pointer (some ⟨h,0,none⟩)] W0 (kQ0 W0 (q,true))from kPz (c:=⟨c.A,c.na,c.ca,c.ao⟩) HG.o.ps.1 gL.o HO.o aw.o fH.o bo.o);clear hW hb0 v1 v2 hg hv ho ta la lf h1;go_enter Tryz.func90,Tryz.ntmps90
 go_upto_region 1 with fail
 rw[show(w.alloc (.cells c.row 31)).alloc (.cells #[.slice none 0 0,.int .i64 0,.slice none 0 0,.int .i64 0] 31)=W0 from HW.o];obtain⟨n0,n1,n2,n3⟩:=kOy av.o;have fF:=hd (fun(W:World)(hb:Below W0.heap.size W0 W)=>show Calls Tryz.prog 91 #[.agg #[.slice c.F c.nf c.cf,.int .i64 c.fo],.int .i64 f2,.pointer (some ⟨h,0,none⟩)] W (kQ0 W (s,false))from kPz (c:=⟨c.F,c.nf,c.cf,c.fo⟩) (HG.o.later hb).ps.2 (gL.o.keep hb) (HO.o.later hb) aw.o cX.o bN.o);have eX:=hd (ah.o.lt);clear HG gL HO bo bN;go_wp2_with(first
  |(go_at_call 91;have _g:=bR;refine bR.o.mono ?_;clear bR;rintro e w1 ⟨d,rfl,hst,hx,b9⟩;have fI:=hd hx;have aS:=hd hst;have ac:=hd b9;have ah:=hd (ah.o.keep b9);clear b9 hst hx n0 n1 n2 n3)
  |((with_reducible refine zF (ty:=29) (x:=.tmp 10) ?_);refine zA kNo (r:=d.row) (jT.new w1 29 PC.nil.row) rfl rfl d.one _ _ rfl rfl rfl rfl rfl ?_;intro W5 eB bF;have b9:=zN ((Below.refl w1.heap.size w1).alloc Kl (.cells PC.nil.row 29)) bF Kl;have ah:=hd (ah.o.keep b9);have aS:=hd (aS.o.high (zA5.below b9));have ac:=hd (zI ac.o b9);have cC:=hd eB;clear b9 eB bF;obtain⟨n0,n1,n2,n3⟩:=kOy (av.o.keep ac.o))
  |(go_at_call 91;refine(fF.o _ ac.o).mono ?_;rintro e w2 ⟨d2,rfl,hst,hx,b9⟩;have kf:=hd hx;have cR:=hd (hst.more ac.o.size);have aS:=hd (aS.o.high (zA5.below b9));have cC:=hd (cC.o.keep b9);have ac:=hd (zI ac.o b9);have ah:=hd (ah.o.keep b9);clear b9 hst hx n0 n1 n2 n3)
  |((with_reducible refine zF (ty:=29) (x:=.tmp 12) ?_);refine zA kNo (r:=d2.row) (jT.new w2 29 PC.nil.row) rfl rfl d2.one _ _ rfl rfl rfl rfl rfl ?_;intro W6 og oh;have b9:=zN ((Below.refl w2.heap.size w2).alloc Kl (.cells PC.nil.row 29)) oh Kl;have ah:=hd (ah.o.keep b9);have cC:=hd (cC.o.keep b9);have aS:=hd (aS.o.high (zA5.below b9));have cR:=hd (cR.o.high (zA5.below b9));have ac:=hd (zI ac.o b9);have lH:=hd og;clear b9 og oh)
  |((with_reducible refine zC (ty:=29) (x:=.tmp 10) ?_);refine zB kNo (r:=#[.slice d.A d.n d.c,.int .i64 d.x]) cC.o rfl _ rfl rfl rfl ?_)
  |((with_reducible refine zC (ty:=29) (x:=.tmp 12) ?_);refine zB kNo (r:=#[.slice d2.A d2.n d2.c,.int .i64 d2.x]) lH.o rfl _ rfl rfl rfl ?_)
  |((with_reducible refine zF (ty:=31) (x:=.tmp 8) ?_);refine zA kN3 (r:=(GC.nil).row) ah.o rfl rfl (GC.nil).one _ _ rfl rfl rfl rfl rfl ?_;intro W9 ak ag;have aS:=hd (aS.o.high (zA5.off ag eX.o));have cR:=hd (cR.o.high (zA5.off ag eX.o));have HB:=hd (kO6 (HB.o.trans (ac.o.mono HB.o.size)) ag Kb);have ah:=hd ak;clear ak ag))
 exact bodyPost_ret (kOe kN3 Tryz.results90 _ _ ah.o rfl rfl) rfl ⟨GC.nil,rfl,GC.nilS w _,rfl,rfl,HB.o⟩
theorem kU7 {o:OC}(hg:GtA w c an fo)(hv:jT 35 w h o.row)(ho:OkA w o a)(ta:zAf a)(la:an.1.length<=60)(lf:fo.1.length<=60)(h1:zEr a.k a.q a.t a.z a.x.length f1 an=(q,true))(h2:zEr a.k a.q a.t a.z a.x.length f2 fo=(s,true)):Calls Tryz.prog 90 #[.agg c.row,.int .i64 f1,.int .i64 f2,.func (.func 91) #[] #[.pointer (some ⟨h,0,none⟩)]] w (kSe w ((q,s),true)):=by
 have bN:=hd h2;clear h2;obtain⟨W0,hW,hb0,v1,v2⟩:=kQa w 31 31 c.row GC.nil.row;have av:=hd v1;have ah:=hd v2;have gL:=hd (hv.keep hb0);have HG:=hd (hg.later hb0);have HO:=hd (ho.later hb0);have HB:=hd hb0;have ar:=hd hb0;have aw:=hd ta;have fH:=hd la;have cX:=hd lf;have bo:=hd h1;have HW:=hd hW;have bR:=hd (show Calls Tryz.prog 91 #[.agg #[.slice c.A c.na c.ca,.int .i64 c.ao],.int .i64 f1,.pointer (some ⟨h,0,none⟩)] W0 (kQ0 W0 (q,true))from kPz (c:=⟨c.A,c.na,c.ca,c.ao⟩) HG.o.ps.1 gL.o HO.o aw.o fH.o bo.o);clear hW hb0 v1 v2 hg hv ho ta la lf h1;go_enter Tryz.func90,Tryz.ntmps90
 go_upto_region 1 with fail
 rw[show(w.alloc (.cells c.row 31)).alloc (.cells #[.slice none 0 0,.int .i64 0,.slice none 0 0,.int .i64 0] 31)=W0 from HW.o];obtain⟨n0,n1,n2,n3⟩:=kOy av.o;have fF:=hd (fun(W:World)(hb:Below W0.heap.size W0 W)=>show Calls Tryz.prog 91 #[.agg #[.slice c.F c.nf c.cf,.int .i64 c.fo],.int .i64 f2,.pointer (some ⟨h,0,none⟩)] W (kQ0 W (s,true))from kPz (c:=⟨c.F,c.nf,c.cf,c.fo⟩) (HG.o.later hb).ps.2 (gL.o.keep hb) (HO.o.later hb) aw.o cX.o bN.o);have eX:=hd (ah.o.lt);clear HG gL HO bo bN;go_wp2_with(first
  |(go_at_call 91;have _g:=bR;refine bR.o.mono ?_;clear bR;rintro e w1 ⟨d,rfl,hst,hx,b9⟩;have fI:=hd hx;have aS:=hd hst;have ac:=hd b9;have ah:=hd (ah.o.keep b9);clear b9 hst hx n0 n1 n2 n3)
  |((with_reducible refine zF (ty:=29) (x:=.tmp 10) ?_);refine zA kNo (r:=d.row) (jT.new w1 29 PC.nil.row) rfl rfl d.one _ _ rfl rfl rfl rfl rfl ?_;intro W5 eB bF;have b9:=zN ((Below.refl w1.heap.size w1).alloc Kl (.cells PC.nil.row 29)) bF Kl;have ah:=hd (ah.o.keep b9);have aS:=hd (aS.o.high (zA5.below b9));have ac:=hd (zI ac.o b9);have cC:=hd eB;clear b9 eB bF;obtain⟨n0,n1,n2,n3⟩:=kOy (av.o.keep ac.o))
  |(go_at_call 91;refine(fF.o _ ac.o).mono ?_;rintro e w2 ⟨d2,rfl,hst,hx,b9⟩;have kf:=hd hx;have cR:=hd (hst.more ac.o.size);have aS:=hd (aS.o.high (zA5.below b9));have cC:=hd (cC.o.keep b9);have ac:=hd (zI ac.o b9);have ah:=hd (ah.o.keep b9);clear b9 hst hx n0 n1 n2 n3)
  |((with_reducible refine zF (ty:=29) (x:=.tmp 12) ?_);refine zA kNo (r:=d2.row) (jT.new w2 29 PC.nil.row) rfl rfl d2.one _ _ rfl rfl rfl rfl rfl ?_;intro W6 og oh;have b9:=zN ((Below.refl w2.heap.size w2).alloc Kl (.cells PC.nil.row 29)) oh Kl;have ah:=hd (ah.o.keep b9);have cC:=hd (cC.o.keep b9);have aS:=hd (aS.o.high (zA5.below b9));have cR:=hd (cR.o.high (zA5.below b9));have ac:=hd (zI ac.o b9);have lH:=hd og;clear b9 og oh)
  |((with_reducible refine zC (ty:=29) (x:=.tmp 10) ?_);refine zB kNo (r:=#[.slice d.A d.n d.c,.int .i64 d.x]) cC.o rfl _ rfl rfl rfl ?_)
  |((with_reducible refine zC (ty:=29) (x:=.tmp 12) ?_);refine zB kNo (r:=#[.slice d2.A d2.n d2.c,.int .i64 d2.x]) lH.o rfl _ rfl rfl rfl ?_)
  |((with_reducible refine zF (ty:=31) (x:=.tmp 8) ?_);refine zA kN3 (r:=((⟨d.A,d.n,d.c,d.x,d2.A,d2.n,d2.c,d2.x⟩:GC)).row) ah.o rfl rfl ((⟨d.A,d.n,d.c,d.x,d2.A,d2.n,d2.c,d2.x⟩:GC)).one _ _ rfl rfl rfl rfl rfl ?_;intro W9 ak ag;have aS:=hd (aS.o.high (zA5.off ag eX.o));have cR:=hd (cR.o.high (zA5.off ag eX.o));have HB:=hd (kO6 (HB.o.trans (ac.o.mono HB.o.size)) ag Kb);have ah:=hd ak;clear ak ag))
 exact bodyPost_ret (kOe kN3 Tryz.results90 _ _ ah.o rfl rfl) rfl ⟨_,rfl,fun W hW=>⟨aS.o.more ar.o.size W hW,cR.o.more ar.o.size W hW⟩,fI.o,kf.o,HB.o⟩
theorem kUe {o:OC}(hg:GtA w c an fo)(hv:jT 35 w h o.row)(ho:OkA w o a)(ta:zAf a)(la:an.1.length<=60)(lf:fo.1.length<=60)
  (hr:(if(zEr a.k a.q a.t a.z a.x.length f1 an).2=true/\(zEr a.k a.q a.t a.z a.x.length f2 fo).2=true then(((zEr a.k a.q a.t a.z a.x.length f1 an).1,(zEr a.k a.q a.t a.z a.x.length f2 fo).1),true)else((([],0),([],0)),false))=r):Calls Tryz.prog 90 #[.agg c.row,.int .i64 f1,.int .i64 f2,.func (.func 91) #[] #[.pointer (some ⟨h,0,none⟩)]] w (kSe w r):=by
 subst hr;obtain⟨⟨q,b1⟩,h1⟩:∃z,zEr a.k a.q a.t a.z a.x.length f1 an=z:=⟨_,rfl⟩;obtain⟨⟨s,b2⟩,h2⟩:∃z,zEr a.k a.q a.t a.z a.x.length f2 fo=z:=⟨_,rfl⟩;rw[h1,h2];cases b1
 ·rw[if_neg Kc];exact kU5 hg hv ho ta la lf h1
 ·cases b2
  ·rw[if_neg Kc];exact kU6 hg hv ho ta la lf h1 h2
  ·rw[if_pos ⟨rfl,rfl⟩];exact kU7 hg hv ho ta la lf h1 h2
theorem kVv (w:World)(t u v:TypeId)(r s x:Array Value):∃W0,((w.alloc (.cells r t)).alloc (.cells s u)).alloc (.cells x v)=W0/\Below w.heap.size w W0/\jT t W0 w.heap.size r/\jT u W0 (w.heap.size+1) s/\jT v W0 (w.heap.size+1+1) x:=by
 obtain⟨W,hW,hb,h1,h2⟩:=kQa w t u r s;have e:W.heap.size=w.heap.size+1+1:=by rw[<-hW];simp
 have h3:=jT.new W v x;rw[e]at h3;exact⟨_,by rw[hW],hb.alloc hb.size _,h1.alloc _,h2.alloc _,h3⟩
theorem kVw {o:OC}(hg:GtA w c an fo)(ho:OkA w o a)(ta:zAf a)(la:an.1.length<=60)(lf:fo.1.length<=60)(hr:kP4 a an fo aff=r):Calls Tryz.prog 62 #[.agg c.row,.agg o.row,.int .i64 aff] w (kSe w r):=by
 obtain⟨⟨f1,f2⟩,hf⟩:∃z,kN8 an fo aff=z:=⟨_,rfl⟩;unfold kP4 at hr;simp only[hf]at hr;obtain⟨W0,hW,hb0,v1,v2,v3⟩:=kVv w 31 35 31 c.row o.row GC.nil.row;have av:=hd v1;have ah:=hd v2;have iw:=hd v3;have HG:=hd (hg.later hb0);have HO:=hd (ho.later hb0);have HB:=hd hb0;have aw:=hd ta;have fH:=hd la;have cX:=hd lf;have HR:=hd hr;have HF:=hd hf;have HW:=hd hW;clear hW hb0 v1 v2 v3 hg ho ta la lf hr hf;go_enter Tryz.func62,Tryz.ntmps62
 go_upto_region 1 with fail
 rw[show((w.alloc (.cells c.row 31)).alloc (.cells o.row 35)).alloc (.cells #[.slice none 0 0,.int .i64 0,.slice none 0 0,.int .i64 0] 31)=W0 from HW.o];go_wp2_with(first
  |((with_reducible refine zC (ty:=31) (x:=.tmp 3) ?_);refine zB kN3 av.o rfl _ rfl rfl rfl ?_)
  |(go_at_call 89;refine Calls.mono (kUc HG.o HF.o) ?_;rintro e w1 ⟨rfl,b9⟩;have av:=hd (av.o.keep b9);have ah:=hd (ah.o.keep b9);have iw:=hd (iw.o.keep b9);have HG:=hd (HG.o.later b9);have HO:=hd (HO.o.later b9);have HB:=hd (zI HB.o b9);clear b9)
  |(go_at_call 90;refine Calls.mono (kUe HG.o ah.o HO.o aw.o fH.o cX.o HR.o) ?_;rintro e w2 ⟨d,rfl,hst,hx1,hx2,b9⟩;have HX:=hd (And.intro hx1 hx2);have HST:=hd hst;have hlt:=iw.o.lt;have wU:=hd HB.o.size;have iw:=hd (iw.o.keep b9);have HB:=hd (zI HB.o b9);clear b9 hst hx1 hx2)
  |((with_reducible refine zF (ty:=31) (x:=.tmp 6) ?_);refine zA kN3 (r:=d.row) iw.o rfl rfl d.one _ _ rfl rfl rfl rfl rfl ?_;intro W9 ak ag;have HST:=hd (HST.o.high (zA5.off ag hlt));have HB:=hd (kO6 HB.o ag Kb);have iw:=hd ak;clear ak ag))
 exact bodyPost_ret (kOe kN3 Tryz.results62 _ _ iw.o rfl rfl) rfl ⟨d,rfl,HST.o.more wU.o,HX.o.1,HX.o.2,HB.o⟩
theorem kRs {W:World}{c:RC}(h:kOx W g [c]):W.rangeAt g 5 [.slice c.Q c.nq c.cq,.int .i64 c.qo]/\W.rangeAt g 7 [.slice c.A c.na c.ca,.int .i64 c.ao,.slice c.F c.nf c.cf,.int .i64 c.fo]:=by
 refine⟨fun j v hv=>?_,fun j v hv=>?_⟩
 ·exact h.cell (match j,hv with
   |0,hv=>hv
   |1,hv=>hv
   |_+2,hv=>by simp at hv)
 ·exact h.cell (match j,hv with
   |0,hv=>hv
   |1,hv=>hv
   |2,hv=>hv
   |3,hv=>hv
   |_+4,hv=>by simp at hv)
theorem kU8 :(Tryz.prog.info? 29).map (·.size)=some 2:=Ka
theorem kUf :(Tryz.prog.info? 31).map (·.size)=some 4:=Ka
theorem kVx {n c:Nat}{x:Int}:∀u ∈ [Value.slice A n c,.int .i64 x],u.oneCell'=true:=by
 intro u hu;simp at hu;rcases hu with rfl|rfl<;>rfl
theorem kU9 {B:Option Addr}{n c m e:Nat}{x y:Int}:∀u ∈ [Value.slice A n c,.int .i64 x,.slice B m e,.int .i64 y],u.oneCell'=true:=by
 intro u hu;simp at hu;rcases hu with rfl|rfl|rfl|rfl<;>rfl
theorem kS6 {P:Prop}(h:P:=by
 clear lC bF;refine hK _ _ (fun _=>trivial) ?_;clear hK K;refine Kp 17 0 (fun K hK=>?_);rw[if_pos Ke];go_simp;refine hK _ _ (fun _=>trivial) (zAl Ka ?_);clear hK K;go_wp2_with fail
 go_ret
 exact⟨_,rfl,bL.o,ba.o,rfl,rfl,rfl,fun _=>oo.o⟩):P:=h
theorem kVa {r:kNj}{o:OC}(hrow:kOx w g [d])(hk:∀W,Off g w W->RkA W d r)(ho:OkA w o a)(ta:zAf a)(hl:r.q.1.length<=60)(hm:zEr a.k a.q a.t a.z a.x.length r.aff r.q=(x,b)):
  Calls Tryz.prog 58 #[.pointer (some ⟨g,0,none⟩),.agg o.row] w (kQh g d ({r with q:=x},b) w):=by
 have hv:=jT.new w 35 o.row;have hb:Below w.heap.size w (w.alloc (.cells o.row 35)):=Kk.alloc Kl _;have HO:=hd (ho.later hb);have aR:=hd hk;have aw:=hd ta;have HM:=hd hm;have HL:=hd hl;have bL:=hd (hrow.keep hb);have HV:=hd hv;have hgl:=hrow.lt;have ba:=hd (Off.of_below (g:=g) hb);obtain⟨W0,hW⟩:∃W0,w.alloc (.cells o.row 35)=W0:=⟨_,rfl⟩;rw[hW]at HO bL HV ba;have HW:=hd hW;clear hrow hk ho ta hm hl hv hb hW;go_enter Tryz.func58,Tryz.ntmps58
 go_upto_region 1 with fail
 rw[HW.o];refine kQn (S:=fun W'=>kOx W' g [d]/\jT 35 W' w.heap.size o.row) (m:=10) Ka ?_;have aa:=hd (show kOx W0.drew g [d]/\jT 35 W0.drew w.heap.size o.row from⟨bL.o,HV.o⟩);refine kNl (i:=0) (n:=17) (.pointer (some ⟨g,0,none⟩)) rfl Ka Ka Ka Ka (fun _ _ _ h=>h) Ke (fun W9=>?_) aa.o ?_
 ·go_simp
 simp only[Act.put,List.setIfInBounds_toArray,List.set_cons_succ,List.set_cons_zero,List.getElem_toArray,List.getElem_cons_zero];refine kNl (i:=1) (n:=16) (.pointer (some ⟨g,0,none⟩)) rfl Ka Ka Ka Ka (fun _ _ _ h=>h) Ke (fun W9=>?_) aa.o ?_
 ·go_simp
 simp only[Act.put,List.setIfInBounds_toArray,List.set_cons_succ,List.set_cons_zero,List.getElem_toArray,List.getElem_cons_succ,List.getElem_cons_zero];refine kNl (i:=2) (n:=15) (.pointer (some ⟨g,0,none⟩)) rfl Ka Ka Ka Ka (fun _ _ _ h=>h) Ke (fun W9=>?_) aa.o ?_
 ·go_simp
 simp only[Act.put,List.setIfInBounds_toArray,List.set_cons_succ,List.set_cons_zero,List.getElem_toArray,List.getElem_cons_succ,List.getElem_cons_zero];refine kNl (i:=3) (n:=14) (.pointer (some ⟨g,5,none⟩)) rfl Ka Ka Ka Ka (fun _ _ _ h=>h) Ke (fun W9=>?_) aa.o ?_
 ·go_simp
 simp only[Act.put,List.setIfInBounds_toArray,List.set_cons_succ,List.set_cons_zero,List.getElem_toArray,List.getElem_cons_succ,List.getElem_cons_zero];refine kOu (i:=4) (n:=13) (.agg #[.slice d.Q d.nq d.cq,.int .i64 d.qo]) rfl Ka Ka Ka Ka Ka (fun _ _ _ h=>h) Ke (fun W9 aj=>?_) aa.o ?_
 ·exact kOg kNo (kRs aj.1).1 rfl _ rfl rfl
 simp only[Act.put,List.setIfInBounds_toArray,List.set_cons_succ,List.set_cons_zero,List.getElem_toArray,List.getElem_cons_succ,List.getElem_cons_zero];refine kOu (i:=5) (n:=12) (.agg o.row) rfl Ka Ka Ka Ka Ka (fun _ _ _ h=>h) Ke (fun W9 aj=>?_) aa.o ?_
 ·exact kNz zMk aj.2 rfl _ rfl rfl
 simp only[Act.put,List.setIfInBounds_toArray,List.set_cons_succ,List.set_cons_zero,List.getElem_toArray,List.getElem_cons_succ,List.getElem_cons_zero];refine kNl (i:=6) (n:=11) (.pointer (some ⟨g,0,none⟩)) rfl Ka Ka Ka Ka (fun _ _ _ h=>h) Ke (fun W9=>?_) aa.o ?_
 ·go_simp
 simp only[Act.put,List.setIfInBounds_toArray,List.set_cons_succ,List.set_cons_zero,List.getElem_toArray,List.getElem_cons_succ,List.getElem_cons_zero];refine kNl (i:=7) (n:=10) (.pointer (some ⟨g,0,none⟩)) rfl Ka Ka Ka Ka (fun _ _ _ h=>h) Ke (fun W9=>?_) aa.o ?_
 ·go_simp
 simp only[Act.put,List.setIfInBounds_toArray,List.set_cons_succ,List.set_cons_zero,List.getElem_toArray,List.getElem_cons_succ,List.getElem_cons_zero];refine kNl (i:=8) (n:=9) (.pointer (some ⟨g,2,none⟩)) rfl Ka Ka Ka Ka (fun _ _ _ h=>h) Ke (fun W9=>?_) aa.o ?_
 ·go_simp
 simp only[Act.put,List.setIfInBounds_toArray,List.set_cons_succ,List.set_cons_zero,List.getElem_toArray,List.getElem_cons_succ,List.getElem_cons_zero];refine kOu (i:=9) (n:=8) (.int .i64 d.aff) rfl Ka Ka Ka Ka Ka (fun _ _ _ h=>h) Ke (fun W9 aj=>?_) aa.o ?_
 ·have h9:W9.cell? ⟨g,2,none⟩=some (.int .i64 d.aff):=aj.1.cell rfl;go_simp
 simp only[Act.put,List.setIfInBounds_toArray,List.set_cons_succ,List.set_cons_zero,List.getElem_toArray,List.getElem_cons_succ,List.getElem_cons_zero];have ba:=hd (ba.o.trans (Off.of_below (Below.refl W0.heap.size W0).drew));have HO:=hd (HO.o.later (Below.refl W0.heap.size W0).drew);obtain⟨W1,hW1⟩:∃W1,W0.drew=W1:=⟨_,rfl⟩;rw[hW1]at aa ba HO⊢;clear hW1;have bb:=hd (aR.o _ ba.o);have HC:=hd (show Calls Tryz.prog 20 #[.agg #[.slice d.Q d.nq d.cq,.int .i64 d.qo],.agg o.row,.int .i64 d.aff] W1 (kQ0 W1 (x,b))from kUm (c:=⟨d.Q,d.nq,d.cq,d.qo⟩) (p:=r.q) ⟨bb.o.hqo,bb.o.hq.len,bb.o.hq.cap,by have h1:=bb.o.hq.len;have h2:=HL.o;show d.nq<=1000;omega,bb.o.hq.il⟩ HO.o aw.o HL.o (bb.o.ha▸HM.o));refine kUi (n:=7) Ka rfl Ka (fun K hK=>?_);rw[if_pos Ke];go_simp;go_at_call 20
 refine HC.o.mono ?_;rintro e w2 ⟨pd,rfl,hst,hx,b9⟩;have HST:=hd hst;have HX:=hd hx;have bL:=hd (aa.o.1.keep b9);have ba:=hd (ba.o.trans (Off.of_below b9));have fN:=aa.o.1.lt;clear b9 aa HC;refine hK _ _ ?_;clear hK K;simp only;refine Kn 11 6 (.tuple #[.agg pd.row,.bool b]) (fun W9 _=>?_) trivial ?_
 ·go_simp
 simp only[Act.put,List.setIfInBounds_toArray,List.set_cons_succ,List.set_cons_zero,List.getElem_toArray,List.getElem_cons_succ,List.getElem_cons_zero];refine Kn 12 5 (.agg pd.row) (fun W9 _=>?_) trivial ?_
 ·go_simp
 simp only[Act.put,List.setIfInBounds_toArray,List.set_cons_succ,List.set_cons_zero,List.getElem_toArray,List.getElem_cons_succ,List.getElem_cons_zero];refine Kn 13 4 (.bool b) (fun W9 _=>?_) trivial ?_
 ·go_simp
 simp only[Act.put,List.setIfInBounds_toArray,List.set_cons_succ,List.set_cons_zero,List.getElem_toArray,List.getElem_cons_succ,List.getElem_cons_zero];refine Kn 14 3 (.pointer (some ⟨g,0,none⟩)) (fun W9 _=>?_) trivial ?_
 ·go_simp
 simp only[Act.put,List.setIfInBounds_toArray,List.set_cons_succ,List.set_cons_zero,List.getElem_toArray,List.getElem_cons_succ,List.getElem_cons_zero];refine Kn 15 2 (.pointer (some ⟨g,5,none⟩)) (fun W9 _=>?_) trivial ?_
 ·go_simp
 simp only[Act.put,List.setIfInBounds_toArray,List.set_cons_succ,List.set_cons_zero,List.getElem_toArray,List.getElem_cons_succ,List.getElem_cons_zero];refine Kp 16 1 (fun K hK=>?_);rw[if_pos Ke];refine kOv kU8 bL.o _ _ rfl rfl 5 (.agg pd.row) [.slice pd.A pd.n pd.c,.int .i64 pd.x] [{d with Q:=pd.A,nq:=pd.n,cq:=pd.c,qo:=pd.x}] rfl rfl rfl rfl kVx Kd (by rw[kN5];show 7<=1*11;decide) rfl ?_;intro W5 lC bF;have bL:=hd lC;have ba:=hd (ba.o.trans bF);have oo:=hd (show RkA W5 {d with Q:=pd.A,nq:=pd.n,cq:=pd.c,qo:=pd.x} {r with q:=x}from{aR.o _ ba.o with hq:=HST.o W5 (zA5.off bF fN),hqo:=HX.o});exact kS6
theorem kVb {r:kNj}{o:OC}{y:List Int×Int}(hrow:kOx w g [d])(hk:∀W,Off g w W->RkA W d r)(ho:OkA w o a)(ta:zAf a)(hl:r.a.1.length<=60/\r.f.1.length<=60)(hm:kP4 a r.a r.f r.aff=((x,y),b)):
  Calls Tryz.prog 61 #[.pointer (some ⟨g,0,none⟩),.agg o.row] w (kQh g d ({r with a:=x,f:=y},b) w):=by
 have hv:=jT.new w 35 o.row;have hb:Below w.heap.size w (w.alloc (.cells o.row 35)):=Kk.alloc Kl _;have HO:=hd (ho.later hb);have aR:=hd hk;have aw:=hd ta;have HM:=hd hm;have HL:=hd hl;have bL:=hd (hrow.keep hb);have HV:=hd hv;have hgl:=hrow.lt;have ba:=hd (Off.of_below (g:=g) hb);obtain⟨W0,hW⟩:∃W0,w.alloc (.cells o.row 35)=W0:=⟨_,rfl⟩;rw[hW]at HO bL HV ba;have HW:=hd hW;clear hrow hk ho ta hm hl hv hb hW;go_enter Tryz.func61,Tryz.ntmps61
 go_upto_region 1 with fail
 rw[HW.o];refine kQn (S:=fun W'=>kOx W' g [d]/\jT 35 W' w.heap.size o.row) (m:=10) Ka ?_;have aa:=hd (show kOx W0.drew g [d]/\jT 35 W0.drew w.heap.size o.row from⟨bL.o,HV.o⟩);refine kNl (i:=0) (n:=17) (.pointer (some ⟨g,0,none⟩)) rfl Ka Ka Ka Ka (fun _ _ _ h=>h) Ke (fun W9=>?_) aa.o ?_
 ·go_simp
 simp only[Act.put,List.setIfInBounds_toArray,List.set_cons_succ,List.set_cons_zero,List.getElem_toArray,List.getElem_cons_zero];refine kNl (i:=1) (n:=16) (.pointer (some ⟨g,0,none⟩)) rfl Ka Ka Ka Ka (fun _ _ _ h=>h) Ke (fun W9=>?_) aa.o ?_
 ·go_simp
 simp only[Act.put,List.setIfInBounds_toArray,List.set_cons_succ,List.set_cons_zero,List.getElem_toArray,List.getElem_cons_succ,List.getElem_cons_zero];refine kNl (i:=2) (n:=15) (.pointer (some ⟨g,0,none⟩)) rfl Ka Ka Ka Ka (fun _ _ _ h=>h) Ke (fun W9=>?_) aa.o ?_
 ·go_simp
 simp only[Act.put,List.setIfInBounds_toArray,List.set_cons_succ,List.set_cons_zero,List.getElem_toArray,List.getElem_cons_succ,List.getElem_cons_zero];refine kNl (i:=3) (n:=14) (.pointer (some ⟨g,7,none⟩)) rfl Ka Ka Ka Ka (fun _ _ _ h=>h) Ke (fun W9=>?_) aa.o ?_
 ·go_simp
 simp only[Act.put,List.setIfInBounds_toArray,List.set_cons_succ,List.set_cons_zero,List.getElem_toArray,List.getElem_cons_succ,List.getElem_cons_zero];refine kOu (i:=4) (n:=13) (.agg #[.slice d.A d.na d.ca,.int .i64 d.ao,.slice d.F d.nf d.cf,.int .i64 d.fo]) rfl Ka Ka Ka Ka Ka (fun _ _ _ h=>h) Ke (fun W9 aj=>?_) aa.o ?_
 ·exact kOg kN3 (kRs aj.1).2 rfl _ rfl rfl
 simp only[Act.put,List.setIfInBounds_toArray,List.set_cons_succ,List.set_cons_zero,List.getElem_toArray,List.getElem_cons_succ,List.getElem_cons_zero];refine kOu (i:=5) (n:=12) (.agg o.row) rfl Ka Ka Ka Ka Ka (fun _ _ _ h=>h) Ke (fun W9 aj=>?_) aa.o ?_
 ·exact kNz zMk aj.2 rfl _ rfl rfl
 simp only[Act.put,List.setIfInBounds_toArray,List.set_cons_succ,List.set_cons_zero,List.getElem_toArray,List.getElem_cons_succ,List.getElem_cons_zero];refine kNl (i:=6) (n:=11) (.pointer (some ⟨g,0,none⟩)) rfl Ka Ka Ka Ka (fun _ _ _ h=>h) Ke (fun W9=>?_) aa.o ?_
 ·go_simp
 simp only[Act.put,List.setIfInBounds_toArray,List.set_cons_succ,List.set_cons_zero,List.getElem_toArray,List.getElem_cons_succ,List.getElem_cons_zero];refine kNl (i:=7) (n:=10) (.pointer (some ⟨g,0,none⟩)) rfl Ka Ka Ka Ka (fun _ _ _ h=>h) Ke (fun W9=>?_) aa.o ?_
 ·go_simp
 simp only[Act.put,List.setIfInBounds_toArray,List.set_cons_succ,List.set_cons_zero,List.getElem_toArray,List.getElem_cons_succ,List.getElem_cons_zero];refine kNl (i:=8) (n:=9) (.pointer (some ⟨g,2,none⟩)) rfl Ka Ka Ka Ka (fun _ _ _ h=>h) Ke (fun W9=>?_) aa.o ?_
 ·go_simp
 simp only[Act.put,List.setIfInBounds_toArray,List.set_cons_succ,List.set_cons_zero,List.getElem_toArray,List.getElem_cons_succ,List.getElem_cons_zero];refine kOu (i:=9) (n:=8) (.int .i64 d.aff) rfl Ka Ka Ka Ka Ka (fun _ _ _ h=>h) Ke (fun W9 aj=>?_) aa.o ?_
 ·have h9:W9.cell? ⟨g,2,none⟩=some (.int .i64 d.aff):=aj.1.cell rfl;go_simp
 simp only[Act.put,List.setIfInBounds_toArray,List.set_cons_succ,List.set_cons_zero,List.getElem_toArray,List.getElem_cons_succ,List.getElem_cons_zero];have ba:=hd (ba.o.trans (Off.of_below (Below.refl W0.heap.size W0).drew));have HO:=hd (HO.o.later (Below.refl W0.heap.size W0).drew);obtain⟨W1,hW1⟩:∃W1,W0.drew=W1:=⟨_,rfl⟩;rw[hW1]at aa ba HO⊢;clear hW1;have bb:=hd (aR.o _ ba.o);have HC:=hd (show Calls Tryz.prog 62 #[.agg #[.slice d.A d.na d.ca,.int .i64 d.ao,.slice d.F d.nf d.cf,.int .i64 d.fo],.agg o.row,.int .i64 d.aff] W1 (kSe W1 ((x,y),b))from kVw (c:=⟨d.A,d.na,d.ca,d.ao,d.F,d.nf,d.cf,d.fo⟩) (an:=r.a) (fo:=r.f) ⟨bb.o.haa,bb.o.hao,bb.o.hf,bb.o.hfo,by have h1:=bb.o.haa.len;have h2:=HL.o.1;show d.na<=1000;omega,by have h1:=bb.o.hf.len;have h2:=HL.o.2;show d.nf<=1000;omega⟩ HO.o aw.o HL.o.1 HL.o.2 (bb.o.ha▸HM.o));refine kUi (n:=7) Ka rfl Ka (fun K hK=>?_);rw[if_pos Ke];go_simp;go_at_call 62
 refine HC.o.mono ?_;rintro e w2 ⟨pd,rfl,hst,hx,hy,b9⟩;have HST:=hd hst;have HX:=hd (And.intro hx hy);have bL:=hd (aa.o.1.keep b9);have ba:=hd (ba.o.trans (Off.of_below b9));have fN:=aa.o.1.lt;clear b9 aa HC;refine hK _ _ ?_;clear hK K;simp only;refine Kn 11 6 (.tuple #[.agg pd.row,.bool b]) (fun W9 _=>?_) trivial ?_
 ·go_simp
 simp only[Act.put,List.setIfInBounds_toArray,List.set_cons_succ,List.set_cons_zero,List.getElem_toArray,List.getElem_cons_succ,List.getElem_cons_zero];refine Kn 12 5 (.agg pd.row) (fun W9 _=>?_) trivial ?_
 ·go_simp
 simp only[Act.put,List.setIfInBounds_toArray,List.set_cons_succ,List.set_cons_zero,List.getElem_toArray,List.getElem_cons_succ,List.getElem_cons_zero];refine Kn 13 4 (.bool b) (fun W9 _=>?_) trivial ?_
 ·go_simp
 simp only[Act.put,List.setIfInBounds_toArray,List.set_cons_succ,List.set_cons_zero,List.getElem_toArray,List.getElem_cons_succ,List.getElem_cons_zero];refine Kn 14 3 (.pointer (some ⟨g,0,none⟩)) (fun W9 _=>?_) trivial ?_
 ·go_simp
 simp only[Act.put,List.setIfInBounds_toArray,List.set_cons_succ,List.set_cons_zero,List.getElem_toArray,List.getElem_cons_succ,List.getElem_cons_zero];refine Kn 15 2 (.pointer (some ⟨g,7,none⟩)) (fun W9 _=>?_) trivial ?_
 ·go_simp
 simp only[Act.put,List.setIfInBounds_toArray,List.set_cons_succ,List.set_cons_zero,List.getElem_toArray,List.getElem_cons_succ,List.getElem_cons_zero];refine Kp 16 1 (fun K hK=>?_);rw[if_pos Ke];refine kOv kUf bL.o _ _ rfl rfl 7 (.agg pd.row) [.slice pd.A pd.na pd.ca,.int .i64 pd.ao,.slice pd.F pd.nf pd.cf,.int .i64 pd.fo] [{d with A:=pd.A,na:=pd.na,ca:=pd.ca,ao:=pd.ao,F:=pd.F,nf:=pd.nf,cf:=pd.cf,fo:=pd.fo}] rfl rfl rfl rfl kU9 Kd (by rw[kN5];show 11<=1*11;decide) rfl ?_;intro W5 lC bF;have bL:=hd lC;have ba:=hd (ba.o.trans bF);have oo:=hd (show RkA W5 {d with A:=pd.A,na:=pd.na,ca:=pd.ca,ao:=pd.ao,F:=pd.F,nf:=pd.nf,cf:=pd.cf,fo:=pd.fo} {r with a:=x,f:=y}from{aR.o _ ba.o with haa:=(HST.o W5 (zA5.off bF fN)).1,hao:=HX.o.1,hf:=(HST.o W5 (zA5.off bF fN)).2,hfo:=HX.o.2});exact kS6
theorem kS7 {r:kNj}(h:chkR n r=0)(hk:r.kind=1):r.q=([],0)/\r.a=([],0)/\r.f=([],0):=by
 unfold chkR at h;rw[if_pos hk]at h;split at h
 ·exact absurd h Kd
 ·rename_i hc
  have h1:zP r.q=true:=by
   cases e:zP r.q
   ·exact absurd (.inr (.inl e)) hc
   ·rfl
  have h2:(zP r.a&&zP r.f)=true:=by
   cases e:(zP r.a&&zP r.f)
   ·exact absurd (.inr (.inr e)) hc
   ·rfl
  rw[Bool.and_eq_true]at h2;exact⟨kQb.1 h1,kQb.1 h2.1,kQb.1 h2.2⟩
theorem kS8 {r:kNj}(h:chkR n r=0)(hk:r.kind=2):r.p=[]/\r.a=([],0)/\r.f=([],0):=by
 unfold chkR at h;rw[if_neg Kb,if_pos hk]at h;split at h
 ·exact absurd h Kd
 ·rename_i hc
  have h1:r.p.length=0:=Classical.byContradiction fun e=>hc (.inr (.inr (.inl e)));have h2:(zP r.a&&zP r.f)=true:=by
   cases e:(zP r.a&&zP r.f)
   ·exact absurd (.inr (.inr (.inr e))) hc
   ·rfl
  rw[Bool.and_eq_true]at h2;exact⟨List.eq_nil_of_length_eq_zero h1,kQb.1 h2.1,kQb.1 h2.2⟩
theorem kS9 {r:kNj}(h:chkR n r=0)(hk:r.kind=3):r.p=[]/\r.q=([],0):=by
 unfold chkR at h;rw[if_neg Kb,if_neg Kb,if_pos hk]at h;split at h
 ·exact absurd h Kd
 ·rename_i hc
  have h1:r.p.length=0:=Classical.byContradiction fun e=>hc (.inr (.inr (.inl e)));have h2:zP r.q=true:=by
   cases e:zP r.q
   ·exact absurd (.inr (.inr (.inr e))) hc
   ·rfl
  exact⟨List.eq_nil_of_length_eq_zero h1,kQb.1 h2⟩
theorem kRg {r:kNj}{p:List Int}{a:List Int×Int}(hl:r.live=true)(h1:r.p=p)(h2:r.q=q)(h3:r.a=a)(h4:r.f=f):r=⟨r.id,r.kind,r.aff,true,p,q,a,f⟩:=by
 obtain⟨i,k,af,l,x1,x2,x3,x4⟩:=r;simp only at hl h1 h2 h3 h4;subst hl h1 h2 h3 h4;rfl
theorem kUn {s t u v:kNj}(h1:s=u)(h2:t=v):(if b=true then s else t)=if b=true then u else v:=by rw[h1,h2]
theorem kRh {cap:Nat}{r:kNj}{o:OC}(h:LR w A [d] [r])(hcap:1<=cap)(hf:kO1 r=true)(ho:OkA w o a)(ta:zAf a)(bG:chkR n r=0)(hlv:r.live=true):Calls Tryz.prog 13 #[.slice A 1 cap,.agg o.row] w (kT3 w [kOc a r]):=by
 have ht:=kQk hf;obtain⟨f1,f2,f3,f4⟩:=kPa hf;have od:d.kind=r.kind:=(h.ha 0 d r rfl rfl).hk.symm;rcases kQm bG with k|k|k
 ·obtain⟨e1,e2,e3⟩:=kS7 bG k;exact kUt h hcap hf ho ta k hlv (kRg hlv rfl e1 e2 e3)
 ·obtain⟨e1,e2,e3⟩:=kS8 bG k;obtain⟨⟨x,b⟩,hm⟩:∃z,zEr a.k a.q a.t a.z (a.x.length:Int) r.aff r.q=z:=⟨_,rfl⟩;have e:kOc a r=if b=true then{r with q:=x}else kNr r:=by
   unfold kOc;rw[if_neg (by rw[hlv];simp),if_neg Kb,if_pos k,hm];exact kUn (by rw[kRg hlv e1 rfl e2 e3];rfl) rfl
  rw[e];exact kQi (kc:=kc2) (fid:=58) h hcap ht hlv ho (by rw[od,k];rfl) rfl (fun _ _=>by kernel_rfl) (fun W g e g1 g2 g3=>kVa g1 g2 g3 ta Kb hm)
 ·obtain⟨e1,e2⟩:=kS9 bG k;obtain⟨⟨⟨x,y⟩,b⟩,hm⟩:∃z,kP4 a r.a r.f r.aff=z:=⟨_,rfl⟩;have e:kOc a r=if b=true then{r with a:=x,f:=y}else kNr r:=by
   unfold kOc;rw[if_neg (by rw[hlv];simp),if_neg Kb,if_neg Kb,if_pos k,hm];exact kUn (by rw[kRg hlv e1 e2 rfl rfl];rfl) rfl
  rw[e];exact kQi (kc:=kc3) (fid:=61) h hcap ht hlv ho (by rw[od,k];rfl) rfl (fun _ _=>by kernel_rfl) (fun W g e g1 g2 g3=>kVb g1 g2 g3 ta ⟨by omega,by omega⟩ hm)
theorem kP0 {P:Program}{ops:Array Oper}{Q:Exit->Act->World->Prop}{dst:Option Nat}{ty:TypeId}{k:Nat}{ps:Array (Nat×Operand)}{pos:String}{af:Array Edge}{rest:List Oper}{a:Act}(h:wpList P ops Q ({dst:=dst,op:=.buildSlice ty k ps,type:=t,pos:=pos,after:=af,guard:=none}::rest) a w):wpList P ops Q ({dst:=dst,op:=.buildSlice ty k ps,type:=t,pos:=pos,after:=af,guard:=none}::rest) a w:=h
