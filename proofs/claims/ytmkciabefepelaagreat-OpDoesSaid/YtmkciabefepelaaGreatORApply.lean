import Derived.Test.YtmkciabefepelaaGreatJUApp
set_option maxRecDepth 100000
set_option maxHeartbeats 8000000
namespace Go.Proofs.YtmkciabefepelaaGreat
open Go.RowKit
variable {P:Prop}{w:World}{c:NC}{n x:NT}{s:SC}{sl:Sl}{a:OpP}{E _E:Int}
theorem kOj {Q:Prop}(k:Q)(h:Q->P:=by
 intro kk;simp only[Act.put,List.getElem_toArray,List.getElem_cons_succ,List.getElem_cons_zero,List.setIfInBounds_toArray,List.set_cons_succ,List.set_cons_zero];exact kk):P:=h k
theorem kU3 (h:kS w c n):Calls Tryz.prog 12 #[.agg c.row] w (fun e w'=>∃c':NC,e=.returned (.agg c'.row)/\zH3 w.heap.size w' (fun W=>kS W c' n)/\Below w.heap.size w w'):=by
 obtain⟨d,h⟩:=h;refine(kOn d w _ n h).mono fun e w' h1=>?_;obtain⟨v,rfl,ht,hb⟩:=h1.copied;obtain⟨c',rfl,_⟩:=zFo (ht.at_ (B:=w'.heap.size) fun b hb=>hb.2);exact⟨c',rfl,zHy ht,hb⟩
theorem kQp (h:P:=by
 have HN:=hd hn;have bn:=hd hs;have HO:=hd ho;have bH:=hd hr;clear hn hs ho hr;obtain⟨W0,hW,hst⟩:=zDs w c s o;have HW:=hd hW;have ae:=hd hst;clear hW hst;go_enter Tryz.func14,Tryz.ntmps14
 go_upto_region 1 with fail
 rw[HW.o];clear HW;go_wp2_with(first
  |((with_reducible refine zC (ty:=26) (x:=.tmp 3) ?_);refine zB zD ae.o.st.v3 rfl _ rfl rfl rfl ?_)
  |((with_reducible refine zC (ty:=33) (x:=.tmp 4) ?_);refine zB zP ae.o.st.v4 rfl _ rfl rfl rfl ?_)
  |((with_reducible refine zC (ty:=35) (x:=.tmp 5) ?_);refine zG ae.o.st.v5 _ rfl rfl rfl ?_)
  |((with_reducible refine zC (ty:=4) (x:=.tmp 22) ?_);refine kNt ae.o.st.v3 (j:=0) (v:=.bool false) _ rfl rfl rfl (by simp[NC.row,c2]) Tryz.underlying4 rfl ?_)
  |((with_reducible refine zC (ty:=3) (x:=.tmp 41) ?_);refine zE ae.o.st.v5 (j:=0) (v:=.int .i64 o.k) _ rfl rfl rfl rfl Tryz.underlying3 rfl ?_)
  |((with_reducible refine zC (ty:=33) (x:=.tmp 45) ?_);refine kR ae.o.st.v5 (j:=11) (vs:=[.bool o.fi,.slice o.F1 o.f1 o.d1,.int .i64 o.fo,.slice o.F2 o.f2 o.d2,.int .i64 o.fp]) zD4 _ rfl rfl rfl Ka ?_)
  |((with_reducible refine zC (ty:=33) (x:=.tmp 52) ?_);refine kR ae.o.st.v5 (j:=16) (vs:=[.bool o.gi,.slice o.G1 o.g1 o.e1,.int .i64 o.go,.slice o.G2 o.g2 o.e2,.int .i64 o.gp]) zD4 _ rfl rfl rfl Ka ?_)
  |(go_at_call 45;refine Calls.mono (kN6 (HN.o.later ae.o.st.below) cN.o) ?_;rintro e w1 ⟨rfl,b9⟩;have ae:=hd (ae.o.call b9);clear b9)
  |(go_at_call 47;refine Calls.mono (kOr (HO.o.later ae.o.st.below) bH.o.tiny lD.o) ?_;rintro e w3 ⟨rfl,b9⟩;have ae:=hd (ae.o.call b9);clear b9)
  |(go_at_call 16;refine Calls.mono (zZu (d:=o.from_) (bn.o.later ae.o.st.below) (zPq (HO.o.later ae.o.st.below)) bH.o.sel lA.o pM.o) ?_;rintro e w4 ⟨rfl,b9⟩;have ae:=hd (ae.o.call b9);clear b9)
  |(have _g:=fB;go_at_call 46;refine Calls.mono (kN2 (HN.o.later ae.o.st.below) (bn.o.later ae.o.st.below) bH.o.sel fB.o) ?_;rintro e w2 ⟨rfl,b9⟩;have ae:=hd (ae.o.call b9);clear b9 fB)
  |(go_at_call 46;refine Calls.mono (kN2 (d:=o.into) (HN.o.later ae.o.st.below) (zLl (HO.o.later ae.o.st.below)) lB.o mE.o) ?_;rintro e w5 ⟨rfl,b9⟩;have ae:=hd (ae.o.call b9);clear b9)
  |((with_reducible refine zF (ty:=26) (x:=.tmp 6) ?_);refine zA zD (r:=NC.nil.row) ae.o.v7 rfl rfl NC.nil.one _ _ rfl rfl rfl rfl rfl ?_;intro W7 hv ho;have ae:=hd (ae.o.set7 (a':=NC.nil) Kb Kb hv ho);clear hv ho)
  |((with_reducible refine zF (ty:=33) (x:=.tmp 7) ?_);refine zA zP (r:=SC.nil.row) ae.o.v8 rfl rfl SC.nil.one _ _ rfl rfl rfl rfl rfl ?_;intro W8 hv ho;have ae:=hd (ae.o.set8 (t':=SC.nil) Kb Kb hv ho);clear hv ho))
 refine bodyPost_ret (zDt Tryz.results14 _ _ ae.o.v7 ae.o.v8 rfl rfl) rfl ⟨NC.nil,SC.nil,rfl,zAb _,zJ2 _,ae.o.st.below⟩):P:=h
theorem kT0 {o:OC}(hn:kS w c n)(hs:zB1 w s sl)(ho:OkA w o a)(hr:zRb n sl a)(c1:zAd n=E)(hne:(E !=0)=true):Calls Tryz.prog 14 #[.agg c.row,.agg s.row,.agg o.row] w (zTd w ((zeroT,zeroS),E)):=by
 have cN:=hd c1;clear c1;exact kQp
theorem kT1 {o:OC}(hn:kS w c n)(hs:zB1 w s sl)(ho:OkA w o a)(hr:zRb n sl a)(c1:zAd n=0)(c2:c.lf=true):Calls Tryz.prog 14 #[.agg c.row,.agg s.row,.agg o.row] w (zTd w ((zeroT,zeroS),7)):=by
 have cN:=hd c1;clear c1;have HN:=hd hn;have bn:=hd hs;have HO:=hd ho;have bH:=hd hr;clear hn hs ho hr;obtain⟨W0,hW,hst⟩:=zDs w c s o;have HW:=hd hW;have ae:=hd hst;clear hW hst;go_enter Tryz.func14,Tryz.ntmps14
 go_upto_region 1 with fail
 rw[HW.o];clear HW;go_wp2_with(first
  |((with_reducible refine zC (ty:=26) (x:=.tmp 3) ?_);refine zB zD ae.o.st.v3 rfl _ rfl rfl rfl ?_)
  |((with_reducible refine zC (ty:=33) (x:=.tmp 4) ?_);refine zB zP ae.o.st.v4 rfl _ rfl rfl rfl ?_)
  |((with_reducible refine zC (ty:=35) (x:=.tmp 5) ?_);refine zG ae.o.st.v5 _ rfl rfl rfl ?_)
  |((with_reducible refine zC (ty:=4) (x:=.tmp 22) ?_);refine kNt ae.o.st.v3 (j:=0) (v:=.bool true) _ rfl rfl rfl (by simp[NC.row,c2]) Tryz.underlying4 rfl ?_)
  |((with_reducible refine zC (ty:=3) (x:=.tmp 41) ?_);refine zE ae.o.st.v5 (j:=0) (v:=.int .i64 o.k) _ rfl rfl rfl rfl Tryz.underlying3 rfl ?_)
  |((with_reducible refine zC (ty:=33) (x:=.tmp 45) ?_);refine kR ae.o.st.v5 (j:=11) (vs:=[.bool o.fi,.slice o.F1 o.f1 o.d1,.int .i64 o.fo,.slice o.F2 o.f2 o.d2,.int .i64 o.fp]) zD4 _ rfl rfl rfl Ka ?_)
  |((with_reducible refine zC (ty:=33) (x:=.tmp 52) ?_);refine kR ae.o.st.v5 (j:=16) (vs:=[.bool o.gi,.slice o.G1 o.g1 o.e1,.int .i64 o.go,.slice o.G2 o.g2 o.e2,.int .i64 o.gp]) zD4 _ rfl rfl rfl Ka ?_)
  |(go_at_call 45;refine Calls.mono (kN6 (HN.o.later ae.o.st.below) cN.o) ?_;rintro e w1 ⟨rfl,b9⟩;have ae:=hd (ae.o.call b9);clear b9)
  |(go_at_call 47;refine Calls.mono (kOr (HO.o.later ae.o.st.below) bH.o.tiny lD.o) ?_;rintro e w3 ⟨rfl,b9⟩;have ae:=hd (ae.o.call b9);clear b9)
  |(go_at_call 16;refine Calls.mono (zZu (d:=o.from_) (bn.o.later ae.o.st.below) (zPq (HO.o.later ae.o.st.below)) bH.o.sel lA.o pM.o) ?_;rintro e w4 ⟨rfl,b9⟩;have ae:=hd (ae.o.call b9);clear b9)
  |(have _g:=fB;go_at_call 46;refine Calls.mono (kN2 (HN.o.later ae.o.st.below) (bn.o.later ae.o.st.below) bH.o.sel fB.o) ?_;rintro e w2 ⟨rfl,b9⟩;have ae:=hd (ae.o.call b9);clear b9 fB)
  |(go_at_call 46;refine Calls.mono (kN2 (d:=o.into) (HN.o.later ae.o.st.below) (zLl (HO.o.later ae.o.st.below)) lB.o mE.o) ?_;rintro e w5 ⟨rfl,b9⟩;have ae:=hd (ae.o.call b9);clear b9)
  |((with_reducible refine zF (ty:=26) (x:=.tmp 6) ?_);refine zA zD (r:=NC.nil.row) ae.o.v7 rfl rfl NC.nil.one _ _ rfl rfl rfl rfl rfl ?_;intro W7 hv ho;have ae:=hd (ae.o.set7 (a':=NC.nil) Kb Kb hv ho);clear hv ho)
  |((with_reducible refine zF (ty:=33) (x:=.tmp 7) ?_);refine zA zP (r:=SC.nil.row) ae.o.v8 rfl rfl SC.nil.one _ _ rfl rfl rfl rfl rfl ?_;intro W8 hv ho;have ae:=hd (ae.o.set8 (t':=SC.nil) Kb Kb hv ho);clear hv ho))
 refine bodyPost_ret (zDt Tryz.results14 _ _ ae.o.v7 ae.o.v8 rfl rfl) rfl ⟨NC.nil,SC.nil,rfl,zAb _,zJ2 _,ae.o.st.below⟩
theorem kT2 {o:OC}(hn:kS w c n)(hs:zB1 w s sl)(ho:OkA w o a)(hr:zRb n sl a)(c1:zAd n=0)(c2:c.lf=false)(c3:zE8 n sl=E)(hne:(E !=0)=true):Calls Tryz.prog 14 #[.agg c.row,.agg s.row,.agg o.row] w (zTd w ((zeroT,zeroS),E)):=by
 have cN:=hd c1;have fB:=hd c3;clear c1 c3;exact kQp
theorem kT3 {o:OC}(hn:kS w c n)(hs:zB1 w s sl)(ho:OkA w o a)(hr:zRb n sl a)(c1:zAd n=0)(c2:c.lf=false)(c3:zE8 n sl=0)(c4:zCx a=E)(hne:(E !=0)=true):Calls Tryz.prog 14 #[.agg c.row,.agg s.row,.agg o.row] w (zTd w ((zeroT,zeroS),E)):=by
 have cN:=hd c1;have fB:=hd c3;have lD:=hd c4;clear c1 c3 c4;exact kQp
theorem kT4 {o:OC}(hn:kS w c n)(hs:zB1 w s sl)(ho:OkA w o a)(hr:zRb n sl a)(c1:zAd n=0)(c2:c.lf=false)(c3:zE8 n sl=0)(c4:zCx a=0)(k9:(o.k==9)=true)(c5:zF7 sl a.f=false)(hff:fewS a.f=true):Calls Tryz.prog 14 #[.agg c.row,.agg s.row,.agg o.row] w (zTd w ((zeroT,zeroS),9)):=by
 have cN:=hd c1;have fB:=hd c3;have lD:=hd c4;have pM:=hd c5;have lA:=hd hff;clear c1 c3 c4 c5;exact kQp
theorem kT5 {o:OC}(hn:kS w c n)(hs:zB1 w s sl)(ho:OkA w o a)(hr:zRb n sl a)(c1:zAd n=0)(c2:c.lf=false)(c3:zE8 n sl=0)(c4:zCx a=0)(k9:(o.k==9)=true)(c5:zF7 sl a.f=true)(c6:zE8 n a.g=E)(hff:fewS a.f=true)(iw:fewS a.g=true)(hne:(E !=0)=true):Calls Tryz.prog 14 #[.agg c.row,.agg s.row,.agg o.row] w (zTd w ((zeroT,zeroS),E)):=by
 have cN:=hd c1;have fB:=hd c3;have lD:=hd c4;have pM:=hd c5;have mE:=hd c6;have lA:=hd hff;have lB:=hd iw;clear c1 c3 c4 c5 c6;exact kQp
theorem kT6 {o:OC}(hn:kS w c n)(hs:zB1 w s sl)(ho:OkA w o a)(hr:zRb n sl a)(c1:zAd n=0)(c2:c.lf=false)(c3:zE8 n sl=0)(c4:zCx a=0)(k9:(o.k==9)=false)(hcc:zAh n=0)(hk1:1<=a.k)(jb:a.k<=8)(jc:doO n a=(x,E))(hne:(E !=0)=true):Calls Tryz.prog 14 #[.agg c.row,.agg s.row,.agg o.row] w (zTd w ((zeroT,zeroS),E)):=by
 have cN:=hd c1;have fB:=hd c3;have lD:=hd c4;have iy:=hd hcc;have nC:=hd hk1;have ja:=hd jb;have nD:=hd jc;clear c1 c3 c4 hcc hk1 jb jc;have HN:=hd hn;have bn:=hd hs;have HO:=hd ho;have bH:=hd hr;clear hn hs ho hr;obtain⟨W0,hW,hst⟩:=zDs w c s o;have HW:=hd hW;have ae:=hd hst;clear hW hst;go_enter Tryz.func14,Tryz.ntmps14
 go_upto_region 1 with fail
 rw[HW.o];clear HW;go_wp2_with(first
  |((with_reducible refine zC (ty:=26) (x:=.tmp 3) ?_);refine zB zD ae.o.st.v3 rfl _ rfl rfl rfl ?_)
  |((with_reducible refine zC (ty:=33) (x:=.tmp 4) ?_);refine zB zP ae.o.st.v4 rfl _ rfl rfl rfl ?_)
  |((with_reducible refine zC (ty:=35) (x:=.tmp 5) ?_);refine zG ae.o.st.v5 _ rfl rfl rfl ?_)
  |((with_reducible refine zC (ty:=4) (x:=.tmp 22) ?_);refine kNt ae.o.st.v3 (j:=0) (v:=.bool false) _ rfl rfl rfl (by simp[NC.row,c2]) Tryz.underlying4 rfl ?_)
  |((with_reducible refine zC (ty:=3) (x:=.tmp 41) ?_);refine zE ae.o.st.v5 (j:=0) (v:=.int .i64 o.k) _ rfl rfl rfl rfl Tryz.underlying3 rfl ?_)
  |((with_reducible refine zC (ty:=33) (x:=.tmp 45) ?_);refine kR ae.o.st.v5 (j:=11) (vs:=[.bool o.fi,.slice o.F1 o.f1 o.d1,.int .i64 o.fo,.slice o.F2 o.f2 o.d2,.int .i64 o.fp]) zD4 _ rfl rfl rfl Ka ?_)
  |((with_reducible refine zC (ty:=33) (x:=.tmp 52) ?_);refine kR ae.o.st.v5 (j:=16) (vs:=[.bool o.gi,.slice o.G1 o.g1 o.e1,.int .i64 o.go,.slice o.G2 o.g2 o.e2,.int .i64 o.gp]) zD4 _ rfl rfl rfl Ka ?_)
  |(go_at_call 45;refine Calls.mono (kN6 (HN.o.later ae.o.st.below) cN.o) ?_;rintro e w1 ⟨rfl,b9⟩;have ae:=hd (ae.o.call b9);clear b9)
  |(go_at_call 47;refine Calls.mono (kOr (HO.o.later ae.o.st.below) bH.o.tiny lD.o) ?_;rintro e w3 ⟨rfl,b9⟩;have ae:=hd (ae.o.call b9);clear b9)
  |(go_at_call 16;refine Calls.mono (zZu (d:=o.from_) (bn.o.later ae.o.st.below) (zPq (HO.o.later ae.o.st.below)) bH.o.sel lA.o pM.o) ?_;rintro e w4 ⟨rfl,b9⟩;have ae:=hd (ae.o.call b9);clear b9)
  |(have _g:=fB;go_at_call 46;refine Calls.mono (kN2 (HN.o.later ae.o.st.below) (bn.o.later ae.o.st.below) bH.o.sel fB.o) ?_;rintro e w2 ⟨rfl,b9⟩;have ae:=hd (ae.o.call b9);clear b9 fB)
  |(go_at_call 46;refine Calls.mono (kN2 (d:=o.into) (HN.o.later ae.o.st.below) (zLl (HO.o.later ae.o.st.below)) lB.o mE.o) ?_;rintro e w5 ⟨rfl,b9⟩;have ae:=hd (ae.o.call b9);clear b9)
  |((with_reducible refine zF (ty:=26) (x:=.tmp 6) ?_);refine zA zD (r:=NC.nil.row) ae.o.v7 rfl rfl NC.nil.one _ _ rfl rfl rfl rfl rfl ?_;intro W7 hv ho;have ae:=hd (ae.o.set7 (a':=NC.nil) Kb Kb hv ho);clear hv ho)
  |((with_reducible refine zF (ty:=33) (x:=.tmp 7) ?_);refine zA zP (r:=SC.nil.row) ae.o.v8 rfl rfl SC.nil.one _ _ rfl rfl rfl rfl rfl ?_;intro W8 hv ho;have ae:=hd (ae.o.set8 (t':=SC.nil) Kb Kb hv ho);clear hv ho)
  |(go_at_call 48;refine Calls.mono (kRg (HN.o.later ae.o.st.below) (HO.o.later ae.o.st.below) bH.o.tiny iy.o (bH.o.size iy.o) nC.o ja.o nD.o) ?_;rintro e w6 ⟨cd,rfl,gm,b9⟩;have ae:=hd (ae.o.call b9);have nE:=hd gm;clear b9 gm;dsimp only)
  |((with_reducible refine zF (ty:=26) (x:=.tmp 13) ?_);refine zA zD (r:=cd.row) (jT.new w6 26 #[.bool false,.slice none 0 0,.slice none 0 0,.slice none 0 0]) rfl rfl cd.one _ _ rfl rfl rfl rfl rfl ?_;intro W9 hv ho;have bf:=hd hv;have bw:=hd (zN (zQ w6 (.cells #[.bool false,.slice none 0 0,.slice none 0 0,.slice none 0 0] 26)) ho Kl);have ae:=hd (ae.o.call bw.o);clear hv ho))
 refine bodyPost_ret (zDt Tryz.results14 _ _ ae.o.v7 ae.o.v8 rfl rfl) rfl ⟨NC.nil,SC.nil,rfl,zAb _,zJ2 _,ae.o.st.below⟩
theorem kY3 (h:P:=by
 have ae:=hd (ae.o.call b9);have bf:=hd (bf.o.keep b9);have HI:=hd (HI.o.call b9);clear b9;go_upto_region 23 with fail
 go_wp2_with(first
  |((with_reducible refine zF (ty:=26) (x:=.tmp 6) ?_);refine zA zD (r:=NC.nil.row) ae.o.v7 rfl rfl NC.nil.one _ _ rfl rfl rfl rfl rfl ?_;intro W7 hv ho;have ae:=hd (ae.o.set7 (a':=NC.nil) Kb Kb hv ho);clear hv ho)
  |((with_reducible refine zF (ty:=33) (x:=.tmp 7) ?_);refine zA zP (r:=SC.nil.row) ae.o.v8 rfl rfl SC.nil.one _ _ rfl rfl rfl rfl rfl ?_;intro W8 hv ho;have ae:=hd (ae.o.set8 (t':=SC.nil) Kb Kb hv ho);clear hv ho))
 refine bodyPost_ret (zDt Tryz.results14 _ _ ae.o.v7 ae.o.v8 rfl rfl) rfl ⟨NC.nil,SC.nil,rfl,zAb _,zJ2 _,ae.o.st.below⟩):P:=h
theorem kT7 {o:OC}(hn:kS w c n)(hs:zB1 w s sl)(ho:OkA w o a)(hr:zRb n sl a)(c1:zAd n=0)(c2:c.lf=false)(c3:zE8 n sl=0)(c4:zCx a=0)(k9:(o.k==9)=false)(hcc:zAh n=0)(hk1:1<=a.k)(jb:a.k<=8)(jc:doO n a=(x,0))(his:s.is=true)(st1:zBl sl.a a=false):Calls Tryz.prog 14 #[.agg c.row,.agg s.row,.agg o.row] w (zTd w ((zeroT,zeroS),10)):=by
 have cN:=hd c1;have fB:=hd c3;have lD:=hd c4;have iy:=hd hcc;have nC:=hd hk1;have ja:=hd jb;have nD:=hd jc;clear c1 c3 c4 hcc hk1 jb jc;have HIS:=hd his;clear his;have lF:=hd st1;clear st1;have HN:=hd hn;have bn:=hd hs;have HO:=hd ho;have bH:=hd hr;clear hn hs ho hr;obtain⟨W0,hW,hst⟩:=zDs w c s o;have HW:=hd hW;have ae:=hd hst;clear hW hst;go_enter Tryz.func14,Tryz.ntmps14
 go_upto_region 1 with fail
 rw[HW.o];clear HW;go_upto_region 22 with(first
  |((with_reducible refine zC (ty:=26) (x:=.tmp 3) ?_);refine zB zD ae.o.st.v3 rfl _ rfl rfl rfl ?_)
  |((with_reducible refine zC (ty:=33) (x:=.tmp 4) ?_);refine zB zP ae.o.st.v4 rfl _ rfl rfl rfl ?_)
  |((with_reducible refine zC (ty:=35) (x:=.tmp 5) ?_);refine zG ae.o.st.v5 _ rfl rfl rfl ?_)
  |((with_reducible refine zC (ty:=4) (x:=.tmp 22) ?_);refine kNt ae.o.st.v3 (j:=0) (v:=.bool false) _ rfl rfl rfl (by simp[NC.row,c2]) Tryz.underlying4 rfl ?_)
  |((with_reducible refine zC (ty:=3) (x:=.tmp 41) ?_);refine zE ae.o.st.v5 (j:=0) (v:=.int .i64 o.k) _ rfl rfl rfl rfl Tryz.underlying3 rfl ?_)
  |((with_reducible refine zC (ty:=33) (x:=.tmp 45) ?_);refine kR ae.o.st.v5 (j:=11) (vs:=[.bool o.fi,.slice o.F1 o.f1 o.d1,.int .i64 o.fo,.slice o.F2 o.f2 o.d2,.int .i64 o.fp]) zD4 _ rfl rfl rfl Ka ?_)
  |((with_reducible refine zC (ty:=33) (x:=.tmp 52) ?_);refine kR ae.o.st.v5 (j:=16) (vs:=[.bool o.gi,.slice o.G1 o.g1 o.e1,.int .i64 o.go,.slice o.G2 o.g2 o.e2,.int .i64 o.gp]) zD4 _ rfl rfl rfl Ka ?_)
  |(go_at_call 45;refine Calls.mono (kN6 (HN.o.later ae.o.st.below) cN.o) ?_;rintro e w1 ⟨rfl,b9⟩;have ae:=hd (ae.o.call b9);clear b9)
  |(go_at_call 47;refine Calls.mono (kOr (HO.o.later ae.o.st.below) bH.o.tiny lD.o) ?_;rintro e w3 ⟨rfl,b9⟩;have ae:=hd (ae.o.call b9);clear b9)
  |(go_at_call 16;refine Calls.mono (zZu (d:=o.from_) (bn.o.later ae.o.st.below) (zPq (HO.o.later ae.o.st.below)) bH.o.sel lA.o pM.o) ?_;rintro e w4 ⟨rfl,b9⟩;have ae:=hd (ae.o.call b9);clear b9)
  |(have _g:=fB;go_at_call 46;refine Calls.mono (kN2 (HN.o.later ae.o.st.below) (bn.o.later ae.o.st.below) bH.o.sel fB.o) ?_;rintro e w2 ⟨rfl,b9⟩;have ae:=hd (ae.o.call b9);clear b9 fB)
  |(go_at_call 46;refine Calls.mono (kN2 (d:=o.into) (HN.o.later ae.o.st.below) (zLl (HO.o.later ae.o.st.below)) lB.o mE.o) ?_;rintro e w5 ⟨rfl,b9⟩;have ae:=hd (ae.o.call b9);clear b9)
  |((with_reducible refine zF (ty:=26) (x:=.tmp 6) ?_);refine zA zD (r:=NC.nil.row) ae.o.v7 rfl rfl NC.nil.one _ _ rfl rfl rfl rfl rfl ?_;intro W7 hv ho;have ae:=hd (ae.o.set7 (a':=NC.nil) Kb Kb hv ho);clear hv ho)
  |((with_reducible refine zF (ty:=33) (x:=.tmp 7) ?_);refine zA zP (r:=SC.nil.row) ae.o.v8 rfl rfl SC.nil.one _ _ rfl rfl rfl rfl rfl ?_;intro W8 hv ho;have ae:=hd (ae.o.set8 (t':=SC.nil) Kb Kb hv ho);clear hv ho)
  |(go_at_call 48;refine Calls.mono (kRg (HN.o.later ae.o.st.below) (HO.o.later ae.o.st.below) bH.o.tiny iy.o (bH.o.size iy.o) nC.o ja.o nD.o) ?_;rintro e w6 ⟨cd,rfl,gm,b9⟩;have pN:=ae.o.v8.lt;have mq:=b9.size;have ae:=hd (ae.o.call b9);have nE:=hd (gm rfl);have HI:=hd (kNn nE.o);clear b9 gm;dsimp only)
  |((with_reducible refine zF (ty:=26) (x:=.tmp 13) ?_);refine zA zD (r0:=NC.nil.row) (r:=cd.row) (zAr w6).1 rfl rfl cd.one _ _ rfl rfl rfl rfl rfl ?_;intro W9 hv ho;have bf:=hd hv;have bw:=hd ((zAr w6).2.trans (ho.below Kl (zAr w6).2.size));have ae:=hd (ae.o.call bw.o);have HI:=hd (HI.o.call bw.o);clear hv ho))
 go_upto_region 23 with(first
  |((with_reducible refine zC (ty:=4) (x:=.tmp 75) ?_);refine zM ae.o.st.v4 (j:=0) (v:=.bool true) _ rfl rfl rfl (by simp only[SC.row,HIS.o];rfl) Tryz.underlying4 rfl ?_)
  |((with_reducible refine kH (dst:=some 80) (ty:=29) (x:=.tmp 79) ?_);refine kNu ae.o.st.v4 (j:=1) (vs:=[.slice s.A s.n s.c,.int .i64 s.x]) zW _ rfl Ke rfl Ka ?_)
  |((with_reducible refine kH (dst:=some 81) (ty:=35) (x:=.tmp 5) ?_);refine zDq ae.o.st.v5 _ rfl Ke rfl ?_))
 have hA:=(zW9 (bn.o.later ae.o.st.below) bH.o.sel);have hB:=kOy hA.1 hA.2.2.1 (HO.o.later ae.o.st.below) bH.o.tiny lF.o;refine Calls.mono hB ?_;clear hA hB;rintro e w7 ⟨rfl,b9⟩;exact kY3
theorem kS0 {o:OC}(hn:kS w c n)(hs:zB1 w s sl)(ho:OkA w o a)(hr:zRb n sl a)(c1:zAd n=0)(c2:c.lf=false)(c3:zE8 n sl=0)(c4:zCx a=0)(k9:(o.k==9)=false)(hcc:zAh n=0)(hk1:1<=a.k)(jb:a.k<=8)(jc:doO n a=(x,0))(his:s.is=true)(st1:zBl sl.a a=true)(st2:zBl sl.f a=false):Calls Tryz.prog 14 #[.agg c.row,.agg s.row,.agg o.row] w (zTd w ((zeroT,zeroS),10)):=by
 have cN:=hd c1;have fB:=hd c3;have lD:=hd c4;have iy:=hd hcc;have nC:=hd hk1;have ja:=hd jb;have nD:=hd jc;clear c1 c3 c4 hcc hk1 jb jc;have HIS:=hd his;clear his;have lF:=hd st1;have pO:=hd st2;clear st1 st2;have HN:=hd hn;have bn:=hd hs;have HO:=hd ho;have bH:=hd hr;clear hn hs ho hr;obtain⟨W0,hW,hst⟩:=zDs w c s o;have HW:=hd hW;have ae:=hd hst;clear hW hst;go_enter Tryz.func14,Tryz.ntmps14
 go_upto_region 1 with fail
 rw[HW.o];clear HW;go_upto_region 22 with(first
  |((with_reducible refine zC (ty:=26) (x:=.tmp 3) ?_);refine zB zD ae.o.st.v3 rfl _ rfl rfl rfl ?_)
  |((with_reducible refine zC (ty:=33) (x:=.tmp 4) ?_);refine zB zP ae.o.st.v4 rfl _ rfl rfl rfl ?_)
  |((with_reducible refine zC (ty:=35) (x:=.tmp 5) ?_);refine zG ae.o.st.v5 _ rfl rfl rfl ?_)
  |((with_reducible refine zC (ty:=4) (x:=.tmp 22) ?_);refine kNt ae.o.st.v3 (j:=0) (v:=.bool false) _ rfl rfl rfl (by simp[NC.row,c2]) Tryz.underlying4 rfl ?_)
  |((with_reducible refine zC (ty:=3) (x:=.tmp 41) ?_);refine zE ae.o.st.v5 (j:=0) (v:=.int .i64 o.k) _ rfl rfl rfl rfl Tryz.underlying3 rfl ?_)
  |((with_reducible refine zC (ty:=33) (x:=.tmp 45) ?_);refine kR ae.o.st.v5 (j:=11) (vs:=[.bool o.fi,.slice o.F1 o.f1 o.d1,.int .i64 o.fo,.slice o.F2 o.f2 o.d2,.int .i64 o.fp]) zD4 _ rfl rfl rfl Ka ?_)
  |((with_reducible refine zC (ty:=33) (x:=.tmp 52) ?_);refine kR ae.o.st.v5 (j:=16) (vs:=[.bool o.gi,.slice o.G1 o.g1 o.e1,.int .i64 o.go,.slice o.G2 o.g2 o.e2,.int .i64 o.gp]) zD4 _ rfl rfl rfl Ka ?_)
  |(go_at_call 45;refine Calls.mono (kN6 (HN.o.later ae.o.st.below) cN.o) ?_;rintro e w1 ⟨rfl,b9⟩;have ae:=hd (ae.o.call b9);clear b9)
  |(go_at_call 47;refine Calls.mono (kOr (HO.o.later ae.o.st.below) bH.o.tiny lD.o) ?_;rintro e w3 ⟨rfl,b9⟩;have ae:=hd (ae.o.call b9);clear b9)
  |(go_at_call 16;refine Calls.mono (zZu (d:=o.from_) (bn.o.later ae.o.st.below) (zPq (HO.o.later ae.o.st.below)) bH.o.sel lA.o pM.o) ?_;rintro e w4 ⟨rfl,b9⟩;have ae:=hd (ae.o.call b9);clear b9)
  |(have _g:=fB;go_at_call 46;refine Calls.mono (kN2 (HN.o.later ae.o.st.below) (bn.o.later ae.o.st.below) bH.o.sel fB.o) ?_;rintro e w2 ⟨rfl,b9⟩;have ae:=hd (ae.o.call b9);clear b9 fB)
  |(go_at_call 46;refine Calls.mono (kN2 (d:=o.into) (HN.o.later ae.o.st.below) (zLl (HO.o.later ae.o.st.below)) lB.o mE.o) ?_;rintro e w5 ⟨rfl,b9⟩;have ae:=hd (ae.o.call b9);clear b9)
  |((with_reducible refine zF (ty:=26) (x:=.tmp 6) ?_);refine zA zD (r:=NC.nil.row) ae.o.v7 rfl rfl NC.nil.one _ _ rfl rfl rfl rfl rfl ?_;intro W7 hv ho;have ae:=hd (ae.o.set7 (a':=NC.nil) Kb Kb hv ho);clear hv ho)
  |((with_reducible refine zF (ty:=33) (x:=.tmp 7) ?_);refine zA zP (r:=SC.nil.row) ae.o.v8 rfl rfl SC.nil.one _ _ rfl rfl rfl rfl rfl ?_;intro W8 hv ho;have ae:=hd (ae.o.set8 (t':=SC.nil) Kb Kb hv ho);clear hv ho)
  |(go_at_call 48;refine Calls.mono (kRg (HN.o.later ae.o.st.below) (HO.o.later ae.o.st.below) bH.o.tiny iy.o (bH.o.size iy.o) nC.o ja.o nD.o) ?_;rintro e w6 ⟨cd,rfl,gm,b9⟩;have pN:=ae.o.v8.lt;have mq:=b9.size;have ae:=hd (ae.o.call b9);have nE:=hd (gm rfl);have HI:=hd (kNn nE.o);clear b9 gm;dsimp only)
  |((with_reducible refine zF (ty:=26) (x:=.tmp 13) ?_);refine zA zD (r0:=NC.nil.row) (r:=cd.row) (zAr w6).1 rfl rfl cd.one _ _ rfl rfl rfl rfl rfl ?_;intro W9 hv ho;have bf:=hd hv;have bw:=hd ((zAr w6).2.trans (ho.below Kl (zAr w6).2.size));have ae:=hd (ae.o.call bw.o);have HI:=hd (HI.o.call bw.o);clear hv ho))
 go_upto_region 23 with(first
  |((with_reducible refine zC (ty:=4) (x:=.tmp 75) ?_);refine zM ae.o.st.v4 (j:=0) (v:=.bool true) _ rfl rfl rfl (by simp only[SC.row,HIS.o];rfl) Tryz.underlying4 rfl ?_)
  |((with_reducible refine kH (dst:=some 80) (ty:=29) (x:=.tmp 79) ?_);refine kNu ae.o.st.v4 (j:=1) (vs:=[.slice s.A s.n s.c,.int .i64 s.x]) zW _ rfl Ke rfl Ka ?_)
  |((with_reducible refine kH (dst:=some 81) (ty:=35) (x:=.tmp 5) ?_);refine zDq ae.o.st.v5 _ rfl Ke rfl ?_))
 have hA:=(zW9 (bn.o.later ae.o.st.below) bH.o.sel);have hB:=kOy hA.1 hA.2.2.1 (HO.o.later ae.o.st.below) bH.o.tiny lF.o;refine Calls.mono hB ?_;clear hA hB;rintro e w7 ⟨rfl,b9⟩;have ae:=hd (ae.o.call b9);have bf:=hd (bf.o.keep b9);have HI:=hd (HI.o.call b9);clear b9;go_upto_region 23 with(first
  |((with_reducible refine kH (dst:=some 86) (ty:=29) (x:=.tmp 85) ?_);refine kNu ae.o.st.v4 (j:=3) (vs:=[.slice s.B s.m s.d,.int .i64 s.y]) zW _ rfl Ke rfl Ka ?_)
  |((with_reducible refine kH (dst:=some 87) (ty:=35) (x:=.tmp 5) ?_);refine zDq ae.o.st.v5 _ rfl Ke rfl ?_))
 have hA:=(zW9 (bn.o.later ae.o.st.below) bH.o.sel);have hB:=kOy hA.2.1 hA.2.2.2 (HO.o.later ae.o.st.below) bH.o.tiny pO.o;refine Calls.mono hB ?_;clear hA hB;rintro e w8 ⟨rfl,b9⟩;exact kY3
theorem kQo (h:P:=by
 obtain⟨g13,pP⟩:∃g,w6.heap.size=g:=⟨_,rfl⟩;have wq:w6.heap.size<=g13:=Kb;rw[pP]at bf;try rw[pP]
 clear pP;have ae:=hd (ae.o.call (Kk.drew));have bf:=hd (bf.o.keep (Kk.drew));have HI:=hd (HI.o.call (Kk.drew));refine jO (S:=fun W'=>jT 26 W' g13 cd.row/\jT 33 W' (w.heap.size+1) s.row) (z:=fun _=>false) Ka ?_;have ac:=hd (And.intro bf.o ae.o.st.v4);refine Kn 0 4 (.agg cd.row) (fun W9 aC=>?_) ac.o ?_
 ·exact zS zD aC.1 rfl _ rfl rfl
 simp only[Act.put,List.getElem_toArray,List.getElem_cons_zero,List.setIfInBounds_toArray,List.set_cons_succ,List.set_cons_zero];refine Kn 1 3 (.agg s.row) (fun W9 aC=>?_) ac.o ?_
 ·exact zS zP aC.2 rfl _ rfl rfl
 refine kOj ?_;refine Kp 2 2 (fun K hK=>?_);rw[if_pos Ka];refine zY zKq ae.o.v7 _ _ rfl rfl 0 _ [.bool cd.lf,.slice cd.P cd.np cd.pc,.slice cd.X cd.nt cd.tc,.slice cd.K cd.nk cd.kc] rfl rfl rfl rfl (by intro u hu;simp at hu;rcases hu with rfl|rfl|rfl|rfl<;>rfl) Km ?_;intro W5 hv ho;have ae:=hd (ae.o.set7 (a':=cd) Kb Kb hv ho);have HI:=hd (HI.o.off2 ho Kb);have bf:=hd (bf.o.off ho Kb);clear hv ho;have ac:=hd (And.intro bf.o ae.o.st.v4);refine hK _ _ (fun _=>ac.o) ?_;clear hK K;refine Kp 3 1 (fun K hK=>?_);rw[if_pos Ka];refine zY zJu ae.o.v8 _ _ rfl rfl 0 _ [.bool s.is,.slice s.A s.n s.c,.int .i64 s.x,.slice s.B s.m s.d,.int .i64 s.y] rfl rfl rfl rfl Kh Km ?_;intro W6 hv ho;have ae:=hd (ae.o.set8 (t':=s) Kb Kb hv ho);have HI:=hd (HI.o.off2 ho Kb);have bf:=hd (bf.o.off ho Kb);clear hv ho;have ac:=hd (And.intro bf.o ae.o.st.v4);refine hK _ _ (fun _=>ac.o) ?_;clear hK K;refine Kp 4 0 (fun K hK=>?_);rw[if_pos Ka];go_simp;refine hK _ _ (fun _=>ac.o) (zAl Ka ?_);clear hK K;go_wp2_with fail
 exact bodyPost_ret (zDt Tryz.results14 _ _ ae.o.v7 ae.o.v8 rfl rfl) rfl ⟨cd,s,rfl,(nE.o.high HI.o).now,bn.o.later ae.o.st.below,ae.o.st.below⟩):P:=h
theorem kT8 {o:OC}(hn:kS w c n)(hs:zB1 w s sl)(ho:OkA w o a)(hr:zRb n sl a)(c1:zAd n=0)(c2:c.lf=false)(c3:zE8 n sl=0)(c4:zCx a=0)(k9:(o.k==9)=false)(hcc:zAh n=0)(hk1:1<=a.k)(jb:a.k<=8)(jc:doO n a=(x,0))(his:s.is=false):Calls Tryz.prog 14 #[.agg c.row,.agg s.row,.agg o.row] w (zTd w ((x,sl),0)):=by
 have cN:=hd c1;have fB:=hd c3;have lD:=hd c4;have iy:=hd hcc;have nC:=hd hk1;have ja:=hd jb;have nD:=hd jc;clear c1 c3 c4 hcc hk1 jb jc;have HIS:=hd his;clear his;have HN:=hd hn;have bn:=hd hs;have HO:=hd ho;have bH:=hd hr;clear hn hs ho hr;obtain⟨W0,hW,hst⟩:=zDs w c s o;have HW:=hd hW;have ae:=hd hst;clear hW hst;go_enter Tryz.func14,Tryz.ntmps14
 go_upto_region 1 with fail
 rw[HW.o];clear HW;go_upto_region 22 with(first
  |((with_reducible refine zC (ty:=26) (x:=.tmp 3) ?_);refine zB zD ae.o.st.v3 rfl _ rfl rfl rfl ?_)
  |((with_reducible refine zC (ty:=33) (x:=.tmp 4) ?_);refine zB zP ae.o.st.v4 rfl _ rfl rfl rfl ?_)
  |((with_reducible refine zC (ty:=35) (x:=.tmp 5) ?_);refine zG ae.o.st.v5 _ rfl rfl rfl ?_)
  |((with_reducible refine zC (ty:=4) (x:=.tmp 22) ?_);refine kNt ae.o.st.v3 (j:=0) (v:=.bool false) _ rfl rfl rfl (by simp[NC.row,c2]) Tryz.underlying4 rfl ?_)
  |((with_reducible refine zC (ty:=3) (x:=.tmp 41) ?_);refine zE ae.o.st.v5 (j:=0) (v:=.int .i64 o.k) _ rfl rfl rfl rfl Tryz.underlying3 rfl ?_)
  |((with_reducible refine zC (ty:=33) (x:=.tmp 45) ?_);refine kR ae.o.st.v5 (j:=11) (vs:=[.bool o.fi,.slice o.F1 o.f1 o.d1,.int .i64 o.fo,.slice o.F2 o.f2 o.d2,.int .i64 o.fp]) zD4 _ rfl rfl rfl Ka ?_)
  |((with_reducible refine zC (ty:=33) (x:=.tmp 52) ?_);refine kR ae.o.st.v5 (j:=16) (vs:=[.bool o.gi,.slice o.G1 o.g1 o.e1,.int .i64 o.go,.slice o.G2 o.g2 o.e2,.int .i64 o.gp]) zD4 _ rfl rfl rfl Ka ?_)
  |(go_at_call 45;refine Calls.mono (kN6 (HN.o.later ae.o.st.below) cN.o) ?_;rintro e w1 ⟨rfl,b9⟩;have ae:=hd (ae.o.call b9);clear b9)
  |(go_at_call 47;refine Calls.mono (kOr (HO.o.later ae.o.st.below) bH.o.tiny lD.o) ?_;rintro e w3 ⟨rfl,b9⟩;have ae:=hd (ae.o.call b9);clear b9)
  |(go_at_call 16;refine Calls.mono (zZu (d:=o.from_) (bn.o.later ae.o.st.below) (zPq (HO.o.later ae.o.st.below)) bH.o.sel lA.o pM.o) ?_;rintro e w4 ⟨rfl,b9⟩;have ae:=hd (ae.o.call b9);clear b9)
  |(have _g:=fB;go_at_call 46;refine Calls.mono (kN2 (HN.o.later ae.o.st.below) (bn.o.later ae.o.st.below) bH.o.sel fB.o) ?_;rintro e w2 ⟨rfl,b9⟩;have ae:=hd (ae.o.call b9);clear b9 fB)
  |(go_at_call 46;refine Calls.mono (kN2 (d:=o.into) (HN.o.later ae.o.st.below) (zLl (HO.o.later ae.o.st.below)) lB.o mE.o) ?_;rintro e w5 ⟨rfl,b9⟩;have ae:=hd (ae.o.call b9);clear b9)
  |((with_reducible refine zF (ty:=26) (x:=.tmp 6) ?_);refine zA zD (r:=NC.nil.row) ae.o.v7 rfl rfl NC.nil.one _ _ rfl rfl rfl rfl rfl ?_;intro W7 hv ho;have ae:=hd (ae.o.set7 (a':=NC.nil) Kb Kb hv ho);clear hv ho)
  |((with_reducible refine zF (ty:=33) (x:=.tmp 7) ?_);refine zA zP (r:=SC.nil.row) ae.o.v8 rfl rfl SC.nil.one _ _ rfl rfl rfl rfl rfl ?_;intro W8 hv ho;have ae:=hd (ae.o.set8 (t':=SC.nil) Kb Kb hv ho);clear hv ho)
  |(go_at_call 48;refine Calls.mono (kRg (HN.o.later ae.o.st.below) (HO.o.later ae.o.st.below) bH.o.tiny iy.o (bH.o.size iy.o) nC.o ja.o nD.o) ?_;rintro e w6 ⟨cd,rfl,gm,b9⟩;have pN:=ae.o.v8.lt;have mq:=b9.size;have ae:=hd (ae.o.call b9);have nE:=hd (gm rfl);have HI:=hd (kNn nE.o);clear b9 gm;dsimp only)
  |((with_reducible refine zF (ty:=26) (x:=.tmp 13) ?_);refine zA zD (r0:=NC.nil.row) (r:=cd.row) (zAr w6).1 rfl rfl cd.one _ _ rfl rfl rfl rfl rfl ?_;intro W9 hv ho;have bf:=hd hv;have bw:=hd ((zAr w6).2.trans (ho.below Kl (zAr w6).2.size));have ae:=hd (ae.o.call bw.o);have HI:=hd (HI.o.call bw.o);clear hv ho))
 go_upto_region 24 with(first
  |((with_reducible refine zC (ty:=4) (x:=.tmp 75) ?_);refine zM ae.o.st.v4 (j:=0) (v:=.bool false) _ rfl rfl rfl (by simp only[SC.row,HIS.o];rfl) Tryz.underlying4 rfl ?_))
 exact kQo
theorem kT9 {o:OC}(hn:kS w c n)(hs:zB1 w s sl)(ho:OkA w o a)(hr:zRb n sl a)(c1:zAd n=0)(c2:c.lf=false)(c3:zE8 n sl=0)(c4:zCx a=0)(k9:(o.k==9)=false)(hcc:zAh n=0)(hk1:1<=a.k)(jb:a.k<=8)(jc:doO n a=(x,0))(his:s.is=true)(st1:zBl sl.a a=true)(st2:zBl sl.f a=true):Calls Tryz.prog 14 #[.agg c.row,.agg s.row,.agg o.row] w (zTd w ((x,sl),0)):=by
 have cN:=hd c1;have fB:=hd c3;have lD:=hd c4;have iy:=hd hcc;have nC:=hd hk1;have ja:=hd jb;have nD:=hd jc;clear c1 c3 c4 hcc hk1 jb jc;have HIS:=hd his;clear his;have lF:=hd st1;have pO:=hd st2;clear st1 st2;have HN:=hd hn;have bn:=hd hs;have HO:=hd ho;have bH:=hd hr;clear hn hs ho hr;obtain⟨W0,hW,hst⟩:=zDs w c s o;have HW:=hd hW;have ae:=hd hst;clear hW hst;go_enter Tryz.func14,Tryz.ntmps14
 go_upto_region 1 with fail
 rw[HW.o];clear HW;go_upto_region 22 with(first
  |((with_reducible refine zC (ty:=26) (x:=.tmp 3) ?_);refine zB zD ae.o.st.v3 rfl _ rfl rfl rfl ?_)
  |((with_reducible refine zC (ty:=33) (x:=.tmp 4) ?_);refine zB zP ae.o.st.v4 rfl _ rfl rfl rfl ?_)
  |((with_reducible refine zC (ty:=35) (x:=.tmp 5) ?_);refine zG ae.o.st.v5 _ rfl rfl rfl ?_)
  |((with_reducible refine zC (ty:=4) (x:=.tmp 22) ?_);refine kNt ae.o.st.v3 (j:=0) (v:=.bool false) _ rfl rfl rfl (by simp[NC.row,c2]) Tryz.underlying4 rfl ?_)
  |((with_reducible refine zC (ty:=3) (x:=.tmp 41) ?_);refine zE ae.o.st.v5 (j:=0) (v:=.int .i64 o.k) _ rfl rfl rfl rfl Tryz.underlying3 rfl ?_)
  |((with_reducible refine zC (ty:=33) (x:=.tmp 45) ?_);refine kR ae.o.st.v5 (j:=11) (vs:=[.bool o.fi,.slice o.F1 o.f1 o.d1,.int .i64 o.fo,.slice o.F2 o.f2 o.d2,.int .i64 o.fp]) zD4 _ rfl rfl rfl Ka ?_)
  |((with_reducible refine zC (ty:=33) (x:=.tmp 52) ?_);refine kR ae.o.st.v5 (j:=16) (vs:=[.bool o.gi,.slice o.G1 o.g1 o.e1,.int .i64 o.go,.slice o.G2 o.g2 o.e2,.int .i64 o.gp]) zD4 _ rfl rfl rfl Ka ?_)
  |(go_at_call 45;refine Calls.mono (kN6 (HN.o.later ae.o.st.below) cN.o) ?_;rintro e w1 ⟨rfl,b9⟩;have ae:=hd (ae.o.call b9);clear b9)
  |(go_at_call 47;refine Calls.mono (kOr (HO.o.later ae.o.st.below) bH.o.tiny lD.o) ?_;rintro e w3 ⟨rfl,b9⟩;have ae:=hd (ae.o.call b9);clear b9)
  |(go_at_call 16;refine Calls.mono (zZu (d:=o.from_) (bn.o.later ae.o.st.below) (zPq (HO.o.later ae.o.st.below)) bH.o.sel lA.o pM.o) ?_;rintro e w4 ⟨rfl,b9⟩;have ae:=hd (ae.o.call b9);clear b9)
  |(have _g:=fB;go_at_call 46;refine Calls.mono (kN2 (HN.o.later ae.o.st.below) (bn.o.later ae.o.st.below) bH.o.sel fB.o) ?_;rintro e w2 ⟨rfl,b9⟩;have ae:=hd (ae.o.call b9);clear b9 fB)
  |(go_at_call 46;refine Calls.mono (kN2 (d:=o.into) (HN.o.later ae.o.st.below) (zLl (HO.o.later ae.o.st.below)) lB.o mE.o) ?_;rintro e w5 ⟨rfl,b9⟩;have ae:=hd (ae.o.call b9);clear b9)
  |((with_reducible refine zF (ty:=26) (x:=.tmp 6) ?_);refine zA zD (r:=NC.nil.row) ae.o.v7 rfl rfl NC.nil.one _ _ rfl rfl rfl rfl rfl ?_;intro W7 hv ho;have ae:=hd (ae.o.set7 (a':=NC.nil) Kb Kb hv ho);clear hv ho)
  |((with_reducible refine zF (ty:=33) (x:=.tmp 7) ?_);refine zA zP (r:=SC.nil.row) ae.o.v8 rfl rfl SC.nil.one _ _ rfl rfl rfl rfl rfl ?_;intro W8 hv ho;have ae:=hd (ae.o.set8 (t':=SC.nil) Kb Kb hv ho);clear hv ho)
  |(go_at_call 48;refine Calls.mono (kRg (HN.o.later ae.o.st.below) (HO.o.later ae.o.st.below) bH.o.tiny iy.o (bH.o.size iy.o) nC.o ja.o nD.o) ?_;rintro e w6 ⟨cd,rfl,gm,b9⟩;have pN:=ae.o.v8.lt;have mq:=b9.size;have ae:=hd (ae.o.call b9);have nE:=hd (gm rfl);have HI:=hd (kNn nE.o);clear b9 gm;dsimp only)
  |((with_reducible refine zF (ty:=26) (x:=.tmp 13) ?_);refine zA zD (r0:=NC.nil.row) (r:=cd.row) (zAr w6).1 rfl rfl cd.one _ _ rfl rfl rfl rfl rfl ?_;intro W9 hv ho;have bf:=hd hv;have bw:=hd ((zAr w6).2.trans (ho.below Kl (zAr w6).2.size));have ae:=hd (ae.o.call bw.o);have HI:=hd (HI.o.call bw.o);clear hv ho))
 go_upto_region 23 with(first
  |((with_reducible refine zC (ty:=4) (x:=.tmp 75) ?_);refine zM ae.o.st.v4 (j:=0) (v:=.bool true) _ rfl rfl rfl (by simp only[SC.row,HIS.o];rfl) Tryz.underlying4 rfl ?_)
  |((with_reducible refine kH (dst:=some 80) (ty:=29) (x:=.tmp 79) ?_);refine kNu ae.o.st.v4 (j:=1) (vs:=[.slice s.A s.n s.c,.int .i64 s.x]) zW _ rfl Ke rfl Ka ?_)
  |((with_reducible refine kH (dst:=some 81) (ty:=35) (x:=.tmp 5) ?_);refine zDq ae.o.st.v5 _ rfl Ke rfl ?_))
 have hA:=(zW9 (bn.o.later ae.o.st.below) bH.o.sel);have hB:=kOy hA.1 hA.2.2.1 (HO.o.later ae.o.st.below) bH.o.tiny lF.o;refine Calls.mono hB ?_;clear hA hB;rintro e w7 ⟨rfl,b9⟩;have ae:=hd (ae.o.call b9);have bf:=hd (bf.o.keep b9);have HI:=hd (HI.o.call b9);clear b9;go_upto_region 23 with(first
  |((with_reducible refine kH (dst:=some 86) (ty:=29) (x:=.tmp 85) ?_);refine kNu ae.o.st.v4 (j:=3) (vs:=[.slice s.B s.m s.d,.int .i64 s.y]) zW _ rfl Ke rfl Ka ?_)
  |((with_reducible refine kH (dst:=some 87) (ty:=35) (x:=.tmp 5) ?_);refine zDq ae.o.st.v5 _ rfl Ke rfl ?_))
 have hA:=(zW9 (bn.o.later ae.o.st.below) bH.o.sel);have hB:=kOy hA.2.1 hA.2.2.2 (HO.o.later ae.o.st.below) bH.o.tiny pO.o;refine Calls.mono hB ?_;clear hA hB;rintro e w8 ⟨rfl,b9⟩;have ae:=hd (ae.o.call b9);have bf:=hd (bf.o.keep b9);have HI:=hd (HI.o.call b9);clear b9;go_upto_region 24 with fail
 exact kQo
theorem kUa {o:OC}(hn:kS w c n)(hs:zB1 w s sl)(ho:OkA w o a)(hr:zRb n sl a)(c1:zAd n=0)(c2:c.lf=false)(c3:zE8 n sl=0)(c4:zCx a=0)(k9:(o.k==9)=true)(c5:zF7 sl a.f=true)(c6:zE8 n a.g=0)(hff:fewS a.f=true)(iw:fewS a.g=true):Calls Tryz.prog 14 #[.agg c.row,.agg s.row,.agg o.row] w (zTd w ((n,a.g),0)):=by
 have cN:=hd c1;have fB:=hd c3;have lD:=hd c4;have pM:=hd c5;have mE:=hd c6;have lA:=hd hff;have lB:=hd iw;clear c1 c3 c4 c5 c6 hff iw;have HN:=hd hn;have bn:=hd hs;have HO:=hd ho;have bH:=hd hr;clear hn hs ho hr;obtain⟨W0,hW,hst⟩:=zDs w c s o;have HW:=hd hW;have ae:=hd hst;clear hW hst;go_enter Tryz.func14,Tryz.ntmps14
 go_upto_region 1 with fail
 rw[HW.o];clear HW;go_upto_region 18 with(first
  |((with_reducible refine zC (ty:=26) (x:=.tmp 3) ?_);refine zB zD ae.o.st.v3 rfl _ rfl rfl rfl ?_)
  |((with_reducible refine zC (ty:=33) (x:=.tmp 4) ?_);refine zB zP ae.o.st.v4 rfl _ rfl rfl rfl ?_)
  |((with_reducible refine zC (ty:=35) (x:=.tmp 5) ?_);refine zG ae.o.st.v5 _ rfl rfl rfl ?_)
  |((with_reducible refine zC (ty:=4) (x:=.tmp 22) ?_);refine kNt ae.o.st.v3 (j:=0) (v:=.bool false) _ rfl rfl rfl (by simp[NC.row,c2]) Tryz.underlying4 rfl ?_)
  |((with_reducible refine zC (ty:=3) (x:=.tmp 41) ?_);refine zE ae.o.st.v5 (j:=0) (v:=.int .i64 o.k) _ rfl rfl rfl rfl Tryz.underlying3 rfl ?_)
  |((with_reducible refine zC (ty:=33) (x:=.tmp 45) ?_);refine kR ae.o.st.v5 (j:=11) (vs:=[.bool o.fi,.slice o.F1 o.f1 o.d1,.int .i64 o.fo,.slice o.F2 o.f2 o.d2,.int .i64 o.fp]) zD4 _ rfl rfl rfl Ka ?_)
  |((with_reducible refine zC (ty:=33) (x:=.tmp 52) ?_);refine kR ae.o.st.v5 (j:=16) (vs:=[.bool o.gi,.slice o.G1 o.g1 o.e1,.int .i64 o.go,.slice o.G2 o.g2 o.e2,.int .i64 o.gp]) zD4 _ rfl rfl rfl Ka ?_)
  |(go_at_call 45;refine Calls.mono (kN6 (HN.o.later ae.o.st.below) cN.o) ?_;rintro e w1 ⟨rfl,b9⟩;have ae:=hd (ae.o.call b9);clear b9)
  |(go_at_call 47;refine Calls.mono (kOr (HO.o.later ae.o.st.below) bH.o.tiny lD.o) ?_;rintro e w3 ⟨rfl,b9⟩;have ae:=hd (ae.o.call b9);clear b9)
  |(go_at_call 16;refine Calls.mono (zZu (d:=o.from_) (bn.o.later ae.o.st.below) (zPq (HO.o.later ae.o.st.below)) bH.o.sel lA.o pM.o) ?_;rintro e w4 ⟨rfl,b9⟩;have ae:=hd (ae.o.call b9);clear b9)
  |(have _g:=fB;go_at_call 46;refine Calls.mono (kN2 (HN.o.later ae.o.st.below) (bn.o.later ae.o.st.below) bH.o.sel fB.o) ?_;rintro e w2 ⟨rfl,b9⟩;have ae:=hd (ae.o.call b9);clear b9 fB)
  |(go_at_call 46;refine Calls.mono (kN2 (d:=o.into) (HN.o.later ae.o.st.below) (zLl (HO.o.later ae.o.st.below)) lB.o mE.o) ?_;rintro e w5 ⟨rfl,b9⟩;have ae:=hd (ae.o.call b9);clear b9)
  |((with_reducible refine zF (ty:=26) (x:=.tmp 6) ?_);refine zA zD (r:=NC.nil.row) ae.o.v7 rfl rfl NC.nil.one _ _ rfl rfl rfl rfl rfl ?_;intro W7 hv ho;have ae:=hd (ae.o.set7 (a':=NC.nil) Kb Kb hv ho);clear hv ho)
  |((with_reducible refine zF (ty:=33) (x:=.tmp 7) ?_);refine zA zP (r:=SC.nil.row) ae.o.v8 rfl rfl SC.nil.one _ _ rfl rfl rfl rfl rfl ?_;intro W8 hv ho;have ae:=hd (ae.o.set8 (t':=SC.nil) Kb Kb hv ho);clear hv ho))
 have ae:=hd (ae.o.call (Kk.drew));refine jO (S:=fun W'=>jT 26 W' w.heap.size c.row/\jR W' (w.heap.size+1+1) o) (z:=fun _=>false) Ka ?_;have ac:=hd (And.intro ae.o.st.v3 ae.o.st.v5);refine Kn 0 6 (.agg c.row) (fun W9 aC=>?_) ac.o ?_
 ·exact zS zD aC.1 rfl _ rfl rfl
 simp only[Act.put,List.getElem_toArray,List.getElem_cons_zero,List.setIfInBounds_toArray,List.set_cons_succ,List.set_cons_zero];refine Ko 2 5 (.pointer (some ⟨w.heap.size+1+1,16,none⟩)) ac.o ?_;refine kOj ?_;refine Kn 3 4 (.agg #[.bool o.gi,.slice o.G1 o.g1 o.e1,.int .i64 o.go,.slice o.G2 o.g2 o.e2,.int .i64 o.gp]) (fun W9 aC=>?_) ac.o ?_
 ·exact zG3 (j:=16) (vs:=[.bool o.gi,.slice o.G1 o.g1 o.e1,.int .i64 o.go,.slice o.G2 o.g2 o.e2,.int .i64 o.gp]) aC.2.toR zD4 _ rfl rfl Ka
 refine kOj ?_;refine Kp 1 3 (fun K hK=>?_);rw[if_pos Ka];go_simp;go_at_call 12
 refine(kU3 (HN.o.later ae.o.st.below)).mono ?_;rintro e w8 ⟨cx,rfl,h1,b9⟩;have Cs:=ae.o.v8.lt;have HX:=hd h1;have ae:=hd (ae.o.call b9);clear b9 h1 ac;have ac:=hd (And.intro ae.o.st.v3 ae.o.st.v5);refine hK _ _ (fun _=>ac.o) ?_;clear hK K;refine Kp 4 2 (fun K hK=>?_);rw[if_pos Ka];refine zY zKq ae.o.v7 _ _ rfl rfl 0 _ [.bool cx.lf,.slice cx.P cx.np cx.pc,.slice cx.X cx.nt cx.tc,.slice cx.K cx.nk cx.kc] rfl rfl rfl rfl (by intro u hu;simp at hu;rcases hu with rfl|rfl|rfl|rfl<;>rfl) Km ?_;intro W5 hv ho;have ae:=hd (ae.o.set7 (a':=cx) Kb Kb hv ho);have HX:=hd (HX.o.off ho Kb);clear hv ho;have ac:=hd (And.intro ae.o.st.v3 ae.o.st.v5);refine hK _ _ (fun _=>ac.o) ?_;clear hK K;refine Kp 5 1 (fun K hK=>?_);rw[if_pos Ka];refine zY zJu ae.o.v8 _ _ rfl rfl 0 _ [.bool o.gi,.slice o.G1 o.g1 o.e1,.int .i64 o.go,.slice o.G2 o.g2 o.e2,.int .i64 o.gp] rfl rfl rfl rfl Kh Km ?_;intro W6 hv ho;have ae:=hd (ae.o.set8 (t':=o.into) Kb Kb hv ho);have HX:=hd (HX.o.off ho Kb);clear hv ho;have ac:=hd (And.intro ae.o.st.v3 ae.o.st.v5);refine hK _ _ (fun _=>ac.o) ?_;clear hK K;refine Kp 6 0 (fun K hK=>?_);rw[if_pos Ka];go_simp;refine hK _ _ (fun _=>ac.o) (zAl Ka ?_);clear hK K;go_wp2_with fail
 exact bodyPost_ret (zDt Tryz.results14 _ _ ae.o.v7 ae.o.v8 rfl rfl) rfl ⟨cx,o.into,rfl,HX.o.now,zLl (HO.o.later ae.o.st.below),ae.o.st.below⟩
theorem kUb {o:OC}(hn:kS w c n)(hs:zB1 w s sl)(ho:OkA w o a)(hr:zRb n sl a){r:(NT×Sl)×Int}(hE:jL n sl a=r):Calls Tryz.prog 14 #[.agg c.row,.agg s.row,.agg o.row] w (zTd w r):=by
 have ta:=hr.tiny;have hff:=kAz ta.hfa ta.hff;have iw:=kAz ta.hga ta.hgf;have e2:=hn.lf;have e8:=hs.his;unfold jL at hE;by_cases h1:zAd n=0
 case neg=>rw[if_pos h1]at hE;subst hE;exact kT0 hn hs ho hr rfl (by simpa using h1)
 rw[if_neg (by simp[h1])]at hE;by_cases h2:n.lf=true
 ·rw[if_pos h2]at hE;subst hE;exact kT1 hn hs ho hr h1 (by rw[<-e2];exact h2)
 rw[if_neg h2]at hE;have h2':c.lf=false:=by rw[<-e2];simpa using h2
 by_cases h3:zE8 n sl=0
 case neg=>rw[if_pos h3]at hE;subst hE;exact kT2 hn hs ho hr h1 h2' rfl (by simpa using h3)
 rw[if_neg (by simp[h3])]at hE;by_cases h4:zCx a=0
 case neg=>rw[if_pos h4]at hE;subst hE;exact kT3 hn hs ho hr h1 h2' h3 rfl (by simpa using h4)
 rw[if_neg (by simp[h4])]at hE;have hk:=(zOy h4).1;simp only[kindB,Bool.and_eq_true,decide_eq_true_iff]at hk;have hc:=zC1 h1;by_cases h9:a.k=9
 ·rw[if_pos h9]at hE;have k9:(o.k==9)=true:=by rw[<-ho.hk,h9];rfl
  by_cases h5:zF7 sl a.f=false
  ·rw[if_pos h5]at hE;subst hE;exact kT4 hn hs ho hr h1 h2' h3 h4 k9 h5 hff
  rw[if_neg h5]at hE;have oP:zF7 sl a.f=true:=by simpa using h5
  by_cases h6:zE8 n a.g=0
  ·rw[if_neg (by simp[h6])]at hE;subst hE;exact kUa hn hs ho hr h1 h2' h3 h4 k9 oP h6 hff iw
  ·rw[if_pos h6]at hE;subst hE;exact kT5 hn hs ho hr h1 h2' h3 h4 k9 oP rfl hff iw (by simpa using h6)
 ·rw [if_neg h9]at hE;have k9:(o.k==9)=false:=by rw[<-ho.hk];simpa using h9
  obtain⟨⟨x,er⟩,hd⟩:∃r,doO n a=r:=⟨_,rfl⟩;rw[hd]at hE;have k8:a.k<=8:=Kb;by_cases h7:er=0
  case neg=>rw[if_pos h7]at hE;subst hE;exact kT6 hn hs ho hr h1 h2' h3 h4 k9 hc hk.1 k8 hd (by simpa using h7)
  subst h7;rw[if_neg Kc]at hE;cases hi:sl.is with
  |false=>
   rw[if_neg (by simp[hi])]at hE;subst hE;exact kT8 hn hs ho hr h1 h2' h3 h4 k9 hc hk.1 k8 hd (by rw[<-e8];exact hi)
  | true=>
   cases s1:zBl sl.a a with
   |false=>
    rw[if_pos (by rw[hi,s1];rfl)]at hE;subst hE;exact kT7 hn hs ho hr h1 h2' h3 h4 k9 hc hk.1 k8 hd (by rw[<-e8];exact hi) s1
   |true=>
    cases s2:zBl sl.f a with
    |false=>
     rw[if_pos (by rw[hi,s1,s2];rfl)]at hE;subst hE;exact kS0 hn hs ho hr h1 h2' h3 h4 k9 hc hk.1 k8 hd (by rw[<-e8];exact hi) s1 s2
    |true=>
     rw[if_neg (by rw[hi,s1,s2];decide)]at hE;subst hE;exact kT9 hn hs ho hr h1 h2' h3 h4 k9 hc hk.1 k8 hd (by rw[<-e8];exact hi) s1 s2
