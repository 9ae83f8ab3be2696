import Derived.Test.YtmglnjmnabjjgaaGreatJHThere
set_option maxRecDepth 100000
set_option maxHeartbeats 8000000
namespace Go.Proofs.YtmglnjmnabjjgaaGreat
open Go.RowKit
variable {P:Prop}{W w:World}{s:SC}{sl:Sl}{c:NC}{n:NT}{a:OpP}{qv r11 r12 r13 r14 r15 r16 r17 r18 r19 r20 r4 r5 r6 r7 r8 r9 tv u:Value}{TX:Option Addr}{nt:Nat}{p q t x:List Int}{K aff pos:Int}
theorem kOs {Q:Prop}(k:Q)(h:Q->P:=by
 intro kk;simp only[Act.put,List.getElem_toArray,List.getElem_cons_succ,List.getElem_cons_zero,List.setIfInBounds_toArray,List.set_cons_succ,List.set_cons_zero];exact kk):P:=h k
theorem zPn {si:Bool}{A B:Option Addr}{n c m d:Nat}{x y:Int}{s:Sl}(h:zIi w si A n c x B m d y s)(h1:n<=1000)(h2:m<=1000):
  Calls Tryz.prog 33 #[.agg #[.bool si,.slice A n c,.int .i64 x,.slice B m d,.int .i64 y]] w (kMx w si n x m y s):=by
 obtain⟨W0,hW⟩:∃W0,(w.alloc (.cells #[.bool si,.slice A n c,.int .i64 x,.slice B m d,.int .i64 y] 33)).alloc (.cells #[.bool false,.slice none 0 0,.int .i64 0,.slice none 0 0,.int .i64 0] 33)=W0:=⟨_,rfl⟩;have hb0:Below w.heap.size w W0:=hW▸kM Kl Km;have e0:=zK2 w (Obj.cells #[.bool si,.slice A n c,.int .i64 x,.slice B m d,.int .i64 y] 33) (Obj.cells #[.bool false,.slice none 0 0,.int .i64 0,.slice none 0 0,.int .i64 0] 33);rw[hW]at e0;have aA:=hd (show zI2 W0 w.heap.size _ _ _ _ _ from e0.1);have aj:=hd (show zI2 W0 (w.heap.size+1) _ _ _ _ _ from e0.2);have HW:=hd hW;have HB:=hd hb0;have HH:=hd h;clear hW hb0 e0 h;go_enter Tryz.func33,Tryz.ntmps33
 go_upto_region 1 with fail
 rw[HW.o];refine jO (S:=fun W=>zI2 W w.heap.size (.bool si) (.slice A n c) (.int .i64 x) (.slice B m d) (.int .i64 y)) (z:=fun j=>decide (10<=j)) Ka ?_;have aa:=hd (show zI2 W0.drew w.heap.size (.bool si) (.slice A n c) (.int .i64 x) (.slice B m d) (.int .i64 y)from aA.o);refine Ko 0 17 (.pointer (some ⟨w.heap.size,1,none⟩)) (fun W hW=>?_) aa.o ?_
 ·skip
  go_simp
 simp only[Act.put,List.setIfInBounds_toArray];refine Ko 1 16 (.pointer (some ⟨w.heap.size,1,none⟩)) (fun W hW=>?_) aa.o ?_
 ·skip
  go_simp
 simp only[Act.put];refine Ko 2 15 (.pointer (some ⟨w.heap.size,1,none⟩)) (fun W hW=>?_) aa.o ?_
 ·skip
  go_simp
 simp only[Act.put];refine Ko 3 14 (.slice A n c) (fun W hW=>?_) aa.o ?_
 ·obtain⟨_,y1,_,_,_⟩:=zI2.cells hW;go_simp
 simp only[Act.put];refine Ko 5 13 (.pointer (some ⟨w.heap.size,1,none⟩)) (fun W hW=>?_) aa.o ?_
 ·skip
  go_simp
 simp only[Act.put];refine Ko 6 12 (.pointer (some ⟨w.heap.size,3,none⟩)) (fun W hW=>?_) aa.o ?_
 ·skip
  go_simp
 simp only[Act.put];refine Ko 7 11 (.pointer (some ⟨w.heap.size,3,none⟩)) (fun W hW=>?_) aa.o ?_
 ·skip
  go_simp
 simp only[Act.put];refine Ko 8 10 (.slice B m d) (fun W hW=>?_) aa.o ?_
 ·obtain⟨_,_,_,y3,_⟩:=zI2.cells hW;go_simp
 simp only[Act.put];refine Kq 4 9 (fun K hK=>?_);rw[if_pos Ke];go_simp;go_at_call 77
 refine(zFz A s.a.1 n c _ HH.o.hn h1 ((HH.o.hA.later HB.o).later (Kl.drew))).mono ?_;rintro e w5 ⟨A5,c5,rfl,tU,hs5,aU⟩;have aP:Below W0.heap.size W0 w5:=(Kl.drew).trans aU;have aa:=hd (aA.o.keep aP);refine hK _ _ (fun _=>aa.o) ?_;clear hK K;refine zDd (i:=10) (n:=8) (.pointer (some ⟨w.heap.size,1,none⟩)) rfl rfl Ka Ka Ka (fun _ _ _ h=>h) Ke (fun W=>?_) ?_
 ·go_simp
 simp only[Act.put];refine zDd (i:=11) (n:=7) (.pointer (some ⟨w.heap.size,1,none⟩)) rfl rfl Ka Ka Ka (fun _ _ _ h=>h) Ke (fun W=>?_) ?_
 ·go_simp
 simp only[Act.put];refine zDd (i:=12) (n:=6) (.pointer (some ⟨w.heap.size,1,none⟩)) rfl rfl Ka Ka Ka (fun _ _ _ h=>h) Ke (fun W=>?_) ?_
 ·go_simp
 simp only[Act.put];refine Kq 9 5 (fun K hK=>?_);rw[if_pos Ke];go_simp;go_at_call 77
 refine(zFz B s.f.1 m d _ HH.o.hm h2 ((HH.o.hB.later HB.o).later aP)).mono ?_;rintro e w6 ⟨B6,d6,rfl,tV,kj,iJ⟩;have hg1:=aA.o.lt;have hg2:=aj.o.lt;have nu:=aP.size;have yP:=iJ.size;have fH:=hd (((hs5.more (show W0.heap.size<=W0.drew.heap.size from Nat.le_refl _)).high (zA5.below iJ)));have tW:=hd (kj.more nu);have aA:=hd (aa.o.keep iJ);have aj:=hd ((aj.o.keep aP).keep iJ);have HB:=hd (HB.o.trans ((aP.trans (iJ.mono nu)).mono HB.o.size));clear aU hs5 kj;refine hK _ _ (fun _=>aA.o) ?_;clear hK K aa;refine Kq 13 4 (fun K hK=>?_);rw[if_pos Ke];refine zY zCa aA.o _ _ rfl rfl 1 _ [.slice A5 n c5] rfl rfl rfl rfl (zHt rfl) Kn ?_;intro W7 bJ aV;refine hK _ _ (fun h=>absurd h Kd) ?_;clear hK K;refine zDd (i:=14) (n:=3) (.pointer (some ⟨w.heap.size,1,none⟩)) rfl rfl Ka Ka Ka (fun _ _ _ h=>h) Ke (fun W=>?_) ?_
 ·go_simp
 simp only[Act.put];refine zDd (i:=15) (n:=2) (.pointer (some ⟨w.heap.size,3,none⟩)) rfl rfl Ka Ka Ka (fun _ _ _ h=>h) Ke (fun W=>?_) ?_
 ·go_simp
 simp only[Act.put];refine zDd (i:=16) (n:=1) (.pointer (some ⟨w.heap.size,3,none⟩)) rfl rfl Ka Ka Ka (fun _ _ _ h=>h) Ke (fun W=>?_) ?_
 ·go_simp
 simp only[Act.put];refine Kq 17 0 (fun K hK=>?_);rw[if_pos Ke];refine zY zCa bJ _ _ rfl rfl 3 _ [.slice B6 m d6] rfl rfl rfl rfl (zHt rfl) Kn ?_;intro W8 bM bg;refine hK _ _ (fun h=>absurd h Kd) (zAl Ka ?_);clear hK K;have HO:=hd (aV.trans bg);have aA:=hd (show zI2 W8 w.heap.size (.bool si) (.slice A5 n c5) (.int .i64 x) (.slice B6 m d6) (.int .i64 y)from bM);have aj:=hd (aj.o.off HO.o Kb);have HB:=hd (zN HB.o HO.o Km);clear bJ aV bM bg;go_wp2_with(first
  |((with_reducible refine zC (ty:=33) ?_);refine zIm aA.o _ rfl rfl rfl ?_)
  |((with_reducible refine zF (ty:=33) (x:=.tmp 2) ?_);refine zHc aj.o _ _ rfl rfl rfl rfl rfl Ka ?_;intro W9 ar ah;have aj:=hd ar;have dP:=hd ah;clear ar ah))
 have hh:=HH.o;have hlo:w.heap.size+1<W0.heap.size:=Kb;have hhi:zA5 W0.heap.size w6 W9:=(zA5.off HO.o Kb).trans (zA5.off dP.o hlo);refine bodyPost_ret (zP6 Tryz.results33 _ _ aj.o rfl) rfl ⟨A5,c5,B6,d6,rfl,fun W hoff=>?_,zN HB.o dP.o (Nat.le_succ _)⟩;have hx:=hhi.trans (hoff.mono Kb);exact⟨hh.his,hh.hx,hh.hy,hh.hn,hh.hm,tU,tV,hh.hmn,hh.hmm,fH.o W hx,tW.o W hx⟩
theorem zKs (h:zB1 w s sl)(h1:s.n<=1000)(h2:s.m<=1000):Calls Tryz.prog 33 #[.agg s.row] w (fun e w'=>∃t:SC,e=.returned (.agg t.row)/\zH3 w.heap.size w' (fun W=>zB1 W t sl)/\Below w.heap.size w w'):=by
 refine(zPn h h1 h2).mono ?_;rintro e w' ⟨A,c,B,d,rfl,hs,hb⟩;exact⟨⟨s.is,A,s.n,c,s.x,B,s.m,d,s.y⟩,rfl,hs,hb⟩
theorem kP8 (h:P:=by
 have nP:=hd hff;try have wC:=hd mZ
 have H5:=hd h5;try have H6:=hd h6
 have HN:=hd hn;have fL:=hd hs;have HO:=hd ho;have ju:=hd hf;have ax:=hd ta;clear hn hs ho hf ta hff h5;try clear mZ
 try clear h6
 obtain⟨W0,hW,hst⟩:=zDs w c s o;have HW:=hd hW;have HM:=hd hst;clear hW hst;go_enter Tryz.func30,Tryz.ntmps30
 go_upto_region 1 with fail
 rw[HW.o];clear HW;go_wp2_with(first
  |((with_reducible refine zC (ty:=33) (x:=.tmp 10) ?_);refine kR HM.o.st.v5 (j:=11) (vs:=[.bool o.fi,.slice o.F1 o.f1 o.d1,.int .i64 o.fo,.slice o.F2 o.f2 o.d2,.int .i64 o.fp]) zD4 _ rfl rfl rfl Ka ?_)
  |((with_reducible refine zC (ty:=33) (x:=.tmp 4) ?_);refine zB zP HM.o.st.v4 rfl _ rfl rfl rfl ?_)
  |((with_reducible refine zC (ty:=33) (x:=.tmp 18) ?_);refine kR HM.o.st.v5 (j:=16) (vs:=[.bool o.gi,.slice o.G1 o.g1 o.e1,.int .i64 o.go,.slice o.G2 o.g2 o.e2,.int .i64 o.gp]) zD4 _ rfl rfl rfl Ka ?_)
  |(go_at_call 64;refine Calls.mono (zH9 (c:=o.from_) (zPq (HO.o.later HM.o.st.below)) (fL.o.later HM.o.st.below) nP.o ju.o H5.o) ?_;rintro e w1 ⟨rfl,b9⟩;have HM:=hd (HM.o.call b9);clear b9)
  |((with_reducible refine zC (ty:=26) (x:=.tmp 3) ?_);refine zB zD HM.o.st.v3 rfl _ rfl rfl rfl ?_)
  |(go_at_call 66;refine Calls.mono (zKk (d:=o.into) (HN.o.later HM.o.st.below) (zLl (HO.o.later HM.o.st.below)) wC.o H6.o) ?_;rintro e w2 ⟨rfl,b9⟩;have HM:=hd (HM.o.call b9);clear b9)
  |((with_reducible refine zF (ty:=26) (x:=.tmp 6) ?_);refine zA zD (r0:=NC.nil.row) (r:=NC.nil.row) HM.o.v7 rfl rfl NC.nil.one _ _ rfl rfl rfl rfl rfl ?_;intro W7 hv ho;have HM:=hd (HM.o.set7 (a':=NC.nil) Kb Kb hv ho);clear hv ho)
  |((with_reducible refine zF (ty:=33) (x:=.tmp 7) ?_);refine zA zP (r0:=SC.nil.row) (r:=SC.nil.row) HM.o.v8 rfl rfl SC.nil.one _ _ rfl rfl rfl rfl rfl ?_;intro W8 hv ho;have HM:=hd (HM.o.set8 (t':=SC.nil) Kb Kb hv ho);clear hv ho)
  |fail)
 exact bodyPost_ret (zDt Tryz.results30 _ _ HM.o.v7 HM.o.v8 rfl rfl) rfl ⟨NC.nil,SC.nil,rfl,fun _ _=>zAb _,fun _ _=>zJ2 _,HM.o.st.below⟩):P:=h
theorem kAt {o:OC}(hn:kS w c n)(hs:zB1 w s sl)(ho:OkA w o a)(hf:fewS sl=true)(ta:zAf a)(hff:fewS a.f=true)(h5:zF7 a.f sl=false):Calls Tryz.prog 30 #[.agg c.row,.agg s.row,.agg o.row] w (zVb w ((zeroT,zeroS),9)):=by
 exact kP8
theorem zW3 {o:OC}{E:Int}(hn:kS w c n)(hs:zB1 w s sl)(ho:OkA w o a)(hf:fewS sl=true)(ta:zAf a)(hff:fewS a.f=true)(mZ:fewS a.g=true)(h5:zF7 a.f sl=true)(h6:zE8 n a.g=E)(hne:(E !=0)=true):Calls Tryz.prog 30 #[.agg c.row,.agg s.row,.agg o.row] w (zVb w ((zeroT,zeroS),E)):=by
 exact kP8
theorem zW4 {o:OC}(hn:kS w c n)(hs:zB1 w s sl)(ho:OkA w o a)(hf:fewS sl=true)(ta:zAf a)(hff:fewS a.f=true)(mZ:fewS a.g=true)(h5:zF7 a.f sl=true)(h6:zE8 n a.g=0)(bh:o.g1<=1000)(hl2:o.g2<=1000):Calls Tryz.prog 30 #[.agg c.row,.agg s.row,.agg o.row] w (zVb w ((n,a.g),0)):=by
 have nP:=hd hff;have rS:=hd bh;have kp:=hd hl2;clear bh hl2;have wC:=hd mZ;have H5:=hd h5;have H6:=hd h6;have HN:=hd hn;have fL:=hd hs;have HO:=hd ho;have ju:=hd hf;have ax:=hd ta;clear hn hs ho hf ta hff mZ h5 h6;obtain⟨W0,hW,hst⟩:=zDs w c s o;have HW:=hd hW;have HM:=hd hst;clear hW hst;go_enter Tryz.func30,Tryz.ntmps30
 go_upto_region 1 with fail
 rw[HW.o];clear HW;go_upto_region 6 with(first
  |((with_reducible refine zC (ty:=33) (x:=.tmp 10) ?_);refine kR HM.o.st.v5 (j:=11) (vs:=[.bool o.fi,.slice o.F1 o.f1 o.d1,.int .i64 o.fo,.slice o.F2 o.f2 o.d2,.int .i64 o.fp]) zD4 _ rfl rfl rfl Ka ?_)
  |((with_reducible refine zC (ty:=33) (x:=.tmp 4) ?_);refine zB zP HM.o.st.v4 rfl _ rfl rfl rfl ?_)
  |(go_at_call 64;refine Calls.mono (zH9 (c:=o.from_) (zPq (HO.o.later HM.o.st.below)) (fL.o.later HM.o.st.below) nP.o ju.o H5.o) ?_;rintro e w1 ⟨rfl,b9⟩;have HM:=hd (HM.o.call b9);clear b9)
  |((with_reducible refine zC (ty:=26) (x:=.tmp 3) ?_);refine zB zD HM.o.st.v3 rfl _ rfl rfl rfl ?_)
  |((with_reducible refine zC (ty:=33) (x:=.tmp 18) ?_);refine kR HM.o.st.v5 (j:=16) (vs:=[.bool o.gi,.slice o.G1 o.g1 o.e1,.int .i64 o.go,.slice o.G2 o.g2 o.e2,.int .i64 o.gp]) zD4 _ rfl rfl rfl Ka ?_)
  |(go_at_call 66;refine Calls.mono (zKk (d:=o.into) (HN.o.later HM.o.st.below) (zLl (HO.o.later HM.o.st.below)) wC.o H6.o) ?_;rintro e w2 ⟨rfl,b9⟩;have HM:=hd (HM.o.call b9);clear b9))
 have HM:=hd (HM.o.call (Kl.drew));refine jO (S:=fun W'=>jT 26 W' w.heap.size c.row/\jR W' (w.heap.size+1+1) o) (z:=fun _=>false) Ka ?_;have aa:=hd (And.intro HM.o.st.v3 HM.o.st.v5);refine Ko 0 7 (.agg c.row) (fun W9 ag=>?_) aa.o ?_
 ·exact zS zD ag.1 rfl _ rfl rfl
 simp only[Act.put,List.getElem_toArray,List.getElem_cons_zero,List.setIfInBounds_toArray,List.set_cons_succ,List.set_cons_zero];refine Kp 2 6 (.pointer (some ⟨w.heap.size+1+1,16,none⟩)) aa.o ?_;refine kOs ?_;refine Ko 3 5 (.agg #[.bool o.gi,.slice o.G1 o.g1 o.e1,.int .i64 o.go,.slice o.G2 o.g2 o.e2,.int .i64 o.gp]) (fun W9 ag=>?_) aa.o ?_
 ·exact zG3 (j:=16) (vs:=[.bool o.gi,.slice o.G1 o.g1 o.e1,.int .i64 o.go,.slice o.G2 o.g2 o.e2,.int .i64 o.gp]) ag.2.toR zD4 _ rfl rfl Ka
 refine kOs ?_;refine Kq 1 4 (fun K hK=>?_);rw[if_pos Ka];go_simp;go_at_call 41
 refine(kH9 (HN.o.later HM.o.st.below)).mono ?_;rintro e w3 ⟨cx,rfl,h1,b9⟩;have Cf:=HM.o.v8.lt;have hs3:=HM.o.st.below.size;have HX:=hd h1;have HM:=hd (HM.o.call b9);clear b9 h1 aa;have aa:=hd (And.intro HM.o.st.v3 HM.o.st.v5);refine hK _ _ (fun _=>aa.o) ?_;clear hK K;refine Kq 4 3 (fun K hK=>?_);rw[if_pos Ka];go_simp;go_at_call 33
 refine(zKs (s:=o.into) (zLl (HO.o.later HM.o.st.below)) rS.o kp.o).mono ?_;rintro e w4 ⟨sx,rfl,h1,b9⟩;have Cg:=HM.o.v8.lt;have hs4:=HM.o.st.below.size;have HS:=hd h1;have HX:=hd (HX.o.call b9);have HM:=hd (HM.o.call b9);clear b9 h1 aa;have aa:=hd (And.intro HM.o.st.v3 HM.o.st.v5);refine hK _ _ (fun _=>aa.o) ?_;clear hK K;refine Kq 5 2 (fun K hK=>?_);rw[if_pos Ka];refine zY zKq HM.o.v7 _ _ rfl rfl 0 _ [.bool cx.lf,.slice cx.P cx.np cx.pc,.slice cx.X cx.nt cx.tc,.slice cx.K cx.nk cx.kc] rfl rfl rfl rfl (by intro u hu;simp at hu;rcases hu with rfl|rfl|rfl|rfl<;>rfl) Kn ?_;intro W5 hv ho;have HM:=hd (HM.o.set7 (a':=cx) Kb Kb hv ho);have HX:=hd (HX.o.off ho Kb);have HS:=hd (HS.o.off ho Kb);clear hv ho;have aa:=hd (And.intro HM.o.st.v3 HM.o.st.v5);refine hK _ _ (fun _=>aa.o) ?_;clear hK K;refine Kq 6 1 (fun K hK=>?_);rw[if_pos Ka];refine zY zJu HM.o.v8 _ _ rfl rfl 0 _ [.bool sx.is,.slice sx.A sx.n sx.c,.int .i64 sx.x,.slice sx.B sx.m sx.d,.int .i64 sx.y] rfl rfl rfl rfl Kh Kn ?_;intro W6 hv ho;have HM:=hd (HM.o.set8 (t':=sx) Kb Kb hv ho);have HX:=hd (HX.o.off ho Kb);have HS:=hd (HS.o.off ho Kb);clear hv ho;have aa:=hd (And.intro HM.o.st.v3 HM.o.st.v5);refine hK _ _ (fun _=>aa.o) ?_;clear hK K;refine Kq 7 0 (fun K hK=>?_);rw[if_pos Ka];go_simp;refine hK _ _ (fun _=>aa.o) (zAl Ka ?_);clear hK K;go_wp2_with fail
 exact bodyPost_ret (zDt Tryz.results30 _ _ HM.o.v7 HM.o.v8 rfl rfl) rfl ⟨cx,sx,rfl,HX.o.more Kb,HS.o.more Kb,HM.o.st.below⟩
theorem ymN (h:P:=by
 have hr:=zCr (bH.o _ ae.o) (.slice none 0 0) (.int .i64 0);obtain⟨y0,y1,_,_⟩:=yb2 hr;refine bodyPost_ret (v:=.tuple #[.agg #[.slice none 0 0,.int .i64 0],.bool false]) (by simp[results,Tryz.results20,go_sem,y0,y1]) rfl (zBi rfl (zBt.nil _ _) ?_);exact((aw.o.trans (ae.o.mono aw.o.size)).setCell (by show _<=W.heap.size+1+1;omega) _).setCell (by show _<=W.heap.size+1+1;omega) _
 ):P:=h
theorem ymF (h:P:=by
 have hr:=zCr (bH.o _ ae.o) (.slice A8 nx c8) (.int .i64 off);obtain⟨y0,y1,_,_⟩:=yb2 hr;have ho:=(HO.o.below dH.o).ypt (x:=.slice A8 nx c8) (y:=.int .i64 off) (bH.o _ ae.o);clear x0 x1 f0 f1 o0 o1 o2 o3 dz z0 z1 g0 g1 u0 u1 h0 h1;refine bodyPost_ret (v:=.tuple #[.agg #[.slice A8 nx c8,.int .i64 off],.bool true]) (by simp[results,Tryz.results20,go_sem,y0,y1]) rfl (zBi rfl ho ?_);exact((aw.o.trans (ae.o.mono aw.o.size)).setCell (by show _<=W.heap.size+1+1;omega) _).setCell (by show _<=W.heap.size+1+1;omega) _
 ):P:=h
theorem kM9 (h:P:=by
 have hr1:=kFq (g':=w8.heap.size) (k:=1) (bH.o _ ae.o) (Nat.ne_of_lt k3) (.int .i64 (off+(nt:Int)));have hr:=zCr hr1 (.slice A8 nx c8) (.int .i64 (off+(nt:Int)));obtain⟨y0,y1,_,_⟩:=yb2 hr;have ho:=((HO.o.below dH.o).yset (k:=1) (x:=.int .i64 (off+(nt:Int))) HU.o Kd).ypt (x:=.slice A8 nx c8) (y:=.int .i64 (off+(nt:Int))) hr1;clear x0 x1 f0 f1 o0 o1 o2 o3 dz z0 z1 g0 g1 u0 u1 h0 h1;refine bodyPost_ret (v:=.tuple #[.agg #[.slice A8 nx c8,.int .i64 (off+(nt:Int))],.bool true]) (by simp[results,Tryz.results20,go_sem,y0,y1]) rfl (zBi rfl ho ?_);exact(((aw.o.trans (ae.o.mono aw.o.size)).setCell (by show _<=w8.heap.size;omega) _).setCell (by show _<=W.heap.size+1+1;omega) _).setCell (by show _<=W.heap.size+1+1;omega) _
 ):P:=h
theorem kNa (h:P:=by
 have hr1:=kFq (g':=w8.heap.size) (k:=1) (bH.o _ ae.o) (Nat.ne_of_lt k3) (.int .i64 (pos));have hr:=zCr hr1 (.slice A8 nx c8) (.int .i64 (pos));obtain⟨y0,y1,_,_⟩:=yb2 hr;have ho:=((HO.o.below dH.o).yset (k:=1) (x:=.int .i64 (pos)) HU.o Kd).ypt (x:=.slice A8 nx c8) (y:=.int .i64 (pos)) hr1;clear x0 x1 f0 f1 o0 o1 o2 o3 dz z0 z1 g0 g1 u0 u1 h0 h1;refine bodyPost_ret (v:=.tuple #[.agg #[.slice A8 nx c8,.int .i64 (pos)],.bool true]) (by simp[results,Tryz.results20,go_sem,y0,y1]) rfl (zBi rfl ho ?_);exact(((aw.o.trans (ae.o.mono aw.o.size)).setCell (by show _<=w8.heap.size;omega) _).setCell (by show _<=W.heap.size+1+1;omega) _).setCell (by show _<=W.heap.size+1+1;omega) _
 ):P:=h
theorem kNb (h:P:=by
 have hr1:=kFq (g':=w8.heap.size) (k:=1) (bH.o _ ae.o) (Nat.ne_of_lt k3) (.int .i64 (off-(nt:Int)));have hr:=zCr hr1 (.slice A8 nx c8) (.int .i64 (off-(nt:Int)));obtain⟨y0,y1,_,_⟩:=yb2 hr;have ho:=((HO.o.below dH.o).yset (k:=1) (x:=.int .i64 (off-(nt:Int))) HU.o Kd).ypt (x:=.slice A8 nx c8) (y:=.int .i64 (off-(nt:Int))) hr1;clear x0 x1 f0 f1 o0 o1 o2 o3 dz z0 z1 g0 g1 u0 u1 h0 h1;refine bodyPost_ret (v:=.tuple #[.agg #[.slice A8 nx c8,.int .i64 (off-(nt:Int))],.bool true]) (by simp[results,Tryz.results20,go_sem,y0,y1]) rfl (zBi rfl ho ?_);exact(((aw.o.trans (ae.o.mono aw.o.size)).setCell (by show _<=w8.heap.size;omega) _).setCell (by show _<=W.heap.size+1+1;omega) _).setCell (by show _<=W.heap.size+1+1;omega) _
 ):P:=h
theorem kNc (h:P:=by
 have hr1:=kFq (g':=w8.heap.size) (k:=1) (bH.o _ ae.o) (Nat.ne_of_lt k3) (.int .i64 (off+pos));have hr:=zCr hr1 (.slice A8 nx c8) (.int .i64 (off+pos));obtain⟨y0,y1,_,_⟩:=yb2 hr;have ho:=((HO.o.below dH.o).yset (k:=1) (x:=.int .i64 (off+pos)) HU.o Kd).ypt (x:=.slice A8 nx c8) (y:=.int .i64 (off+pos)) hr1;clear x0 x1 f0 f1 o0 o1 o2 o3 dz z0 z1 g0 g1 u0 u1 h0 h1;refine bodyPost_ret (v:=.tuple #[.agg #[.slice A8 nx c8,.int .i64 (off+pos)],.bool true]) (by simp[results,Tryz.results20,go_sem,y0,y1]) rfl (zBi rfl ho ?_);exact(((aw.o.trans (ae.o.mono aw.o.size)).setCell (by show _<=w8.heap.size;omega) _).setCell (by show _<=W.heap.size+1+1;omega) _).setCell (by show _<=W.heap.size+1+1;omega) _
 ):P:=h
theorem kNd (h:P:=by
 have hr:=zCr (bH.o _ ae.o) (.slice A6 0 c6) (.int .i64 (0));obtain⟨y0,y1,_,_⟩:=yb2 hr;have ho:=(rW.o.ypt (x:=.slice A6 0 c6) (y:=.int .i64 (0)) (bH.o _ ae.o));clear x0 x1 f0 f1 o0 o1 o2 o3 dz z0 z1 g0 g1;refine bodyPost_ret (v:=.tuple #[.agg #[.slice A6 0 c6,.int .i64 (0)],.bool false]) (by simp[results,Tryz.results20,go_sem,y0,y1]) rfl (zBi rfl ho ?_);exact((aw.o.trans (ae.o.mono aw.o.size)).setCell (by show _<=W.heap.size+1+1;omega) _).setCell (by show _<=W.heap.size+1+1;omega) _
 ):P:=h
theorem kNe (h:P:=by
 have hr:=zCr (bH.o _ ae.o) (.slice A6 (k+1) c6) (.int .i64 (off-pos));obtain⟨y0,y1,_,_⟩:=yb2 hr;have ho:=(rW.o.ypt (x:=.slice A6 (k+1) c6) (y:=.int .i64 (off-pos)) (bH.o _ ae.o));clear x0 x1 f0 f1 o0 o1 o2 o3 dz z0 z1 g0 g1;refine bodyPost_ret (v:=.tuple #[.agg #[.slice A6 (k+1) c6,.int .i64 (off-pos)],.bool true]) (by simp[results,Tryz.results20,go_sem,y0,y1]) rfl (zBi rfl ho ?_);exact((aw.o.trans (ae.o.mono aw.o.size)).setCell (by show _<=W.heap.size+1+1;omega) _).setCell (by show _<=W.heap.size+1+1;omega) _
 ):P:=h
theorem kNf (h:P:=by
 have hr:=zCr (bH.o _ ae.o) (.slice A8 nx c8) (.int .i64 (off));obtain⟨y0,y1,_,_⟩:=yb2 hr;have ho:=(rW.o.ypt (x:=.slice A8 nx c8) (y:=.int .i64 (off)) (bH.o _ ae.o));clear x0 x1 f0 f1 o0 o1 o2 o3 dz z0 z1 g0 g1;refine bodyPost_ret (v:=.tuple #[.agg #[.slice A8 nx c8,.int .i64 (off)],.bool true]) (by simp[results,Tryz.results20,go_sem,y0,y1]) rfl (zBi rfl ho ?_);exact((aw.o.trans (ae.o.mono aw.o.size)).setCell (by show _<=W.heap.size+1+1;omega) _).setCell (by show _<=W.heap.size+1+1;omega) _
 ):P:=h
theorem ymS (h:P:=by
 obtain⟨A,n,c,rfl,hn,hl,hc,hp⟩:=hp;obtain⟨Q,lq,cq,rfl,hlq,hl2,hc2,hq⟩:=hq;obtain⟨T,lt,ct,rfl,hlt,bB,hc3,ht⟩:=ht;obtain⟨W0,hW⟩:∃W0,W0=((W.alloc (.cells #[.slice A n c,.int .i64 off] 29)).alloc (.cells #[Value.int .i64 K,.slice Q lq cq,.slice T lt ct,.int .i64 pos,r4,r5,r6,r7,r8,r9,.slice TX nt cx,r11,r12,r13,r14,r15,r16,r17,r18,r19,r20] 35)).alloc (.cells #[.slice none 0 0,.int .i64 0] 29):=⟨_,rfl⟩;have hb0:Below W.heap.size W W0:=hW▸kH7 _ _ _ _;have e0:=kK3 W (Obj.cells #[Value.slice A n c,Value.int .i64 off] 29) (Obj.cells #[Value.int .i64 K,.slice Q lq cq,.slice T lt ct,.int .i64 pos,r4,r5,r6,r7,r8,r9,.slice TX nt cx,r11,r12,r13,r14,r15,r16,r17,r18,r19,r20] 35) (Obj.cells #[Value.slice none 0 0,Value.int .i64 0] 29);rw[<-hW]at e0;have eG:=hd (fun w(h:Below W0.heap.size W0 w)=>zI1 e0.1 h);have fG:=hd (fun w(h:Below W0.heap.size W0 w)=>zI1 e0.2.1 h);have bH:=hd (fun w(h:Below W0.heap.size W0 w)=>zI1 e0.2.2 h);have ia:=hd (fun w(h:Below W0.heap.size W0 w)=>hp.later (hb0.trans (h.mono hb0.size)));have pT:=hd (fun w(h:Below W0.heap.size W0 w)=>hq.later (hb0.trans (h.mono hb0.size)));have HIT:=hd (fun w(h:Below W0.heap.size W0 w)=>ht.later (hb0.trans (h.mono hb0.size)));have HP:=hd (show∀w,Below W0.heap.size W0 w->XA w (.slice A n c) p from fun w h=>⟨A,n,c,rfl,hn,hl,hc,ia.o w h⟩);have HQ:=hd (show∀w,Below W0.heap.size W0 w->XA w (.slice Q lq cq) q from fun w h=>⟨Q,lq,cq,rfl,hlq,hl2,hc2,pT.o w h⟩);have HT:=hd (show∀w,Below W0.heap.size W0 w->XA w (.slice T lt ct) t from fun w h=>⟨T,lt,ct,rfl,hlt,bB,hc3,HIT.o w h⟩);have ae:=hd (Below.refl W0.heap.size W0);have HW:=hd hW;have aw:=hd hb0;have HN:=hd hn;have aJ:=hd hlq;have jq:=hd hlt;have Ch:=hd (show W0.heap.size<=W0.heap.size/\W.heap.size+3<=W0.heap.size from⟨Nat.le_refl _,by rw[hW];simp⟩);obtain⟨x0,x1,f0,f1⟩:=yb2 (eG.o _ ae.o);obtain⟨o0,o1,o2,o3⟩:=zD9 (fG.o _ ae.o);obtain⟨_,_,_,_,_,_,dz,_⟩:=zH2 (fG.o _ ae.o);obtain⟨z0,z1,g0,g1⟩:=yb2 (bH.o _ ae.o);clear hp hq ht hn hlq hlt hW hb0 e0;(try obtain rfl:lq=0:=aJ.o.symm.trans hq0)
 (try obtain⟨k,rfl⟩:∃k,lq=k+1:=⟨lq-1,by have:=aJ.o;omega⟩)
 (try clear hq0)
 (try(have yt:=hd (show x.length=k+1 by rw[tu.o];exact aJ.o);have Ci:=hd (show jI x=true by rw[tu.o];exact(zLo HR.o).2.1);have pU:=hd (show(addL x k 1).length=k+1 by rw[zJe];exact yt.o);rw[show addL q (q.length-1) 1=addL x k 1 by rw[tu.o,aJ.o,Nat.add_sub_cancel]]))
 go_enter Tryz.func20,Tryz.ntmps20
 go_upto_region 1 with fail
 rw[<-HW.o];go_wp2_with(first
   |(refine zNn (fG.o _ ae.o) _ rfl rfl rfl ?_)
   |(go_at_call 45;(try rw[<-HW.o]);refine Calls.mono (kK4 HM.o) ?_;rintro e w9 ⟨rfl,b9⟩;have ae:=hd (zI ae.o b9);clear b9;clear x0 x1 f0 f1 o0 o1 o2 o3 dz z0 z1 g0 g1;obtain⟨x0,x1,f0,f1⟩:=yb2 (eG.o _ ae.o);obtain⟨o0,o1,o2,o3⟩:=zD9 (fG.o _ ae.o);obtain⟨_,_,_,_,_,_,dz,_⟩:=zH2 (fG.o _ ae.o);obtain⟨z0,z1,g0,g1⟩:=yb2 (bH.o _ ae.o))
   |(go_at_call 46;refine Calls.mono (kIh (HP.o _ ae.o) (HQ.o _ ae.o) (HT.o _ ae.o) HR.o) ?_;rintro e w8 ⟨v8,rfl,ho,b8⟩;obtain⟨A8,c8,rfl,_,_⟩:=ho.open_at nx nS.o;have HO:=hd (ho.weaken (Nat.le_trans aw.o.size ae.o.size));have ae:=hd (zI ae.o b8);have dH:=hd (Below.refl w8.heap.size w8);have HU:=hd (heap_alloc_new w8 (.cells #[.slice A8 nx c8,.int .i64 off] 29));clear b8 ho;clear x0 x1 f0 f1 o0 o1 o2 o3 dz z0 z1 g0 g1;obtain⟨x0,x1,f0,f1⟩:=yb2 (eG.o _ ae.o);obtain⟨o0,o1,o2,o3⟩:=zD9 (fG.o _ ae.o);obtain⟨_,_,_,_,_,_,dz,_⟩:=zH2 (fG.o _ ae.o);obtain⟨z0,z1,g0,g1⟩:=yb2 (bH.o _ ae.o);obtain⟨k1,k2,k3⟩:=kD8 Ch.o.2 ae.o.size)
   |(go_at_call 23;refine Calls.mono (kEp (HQ.o _ (ae.o.alloc ae.o.size _)) (HP.o _ (ae.o.alloc ae.o.size _)) HS.o) ?_;rintro e w7 ⟨rfl,b7⟩;have dH:=hd ((dH.o.alloc Km _).trans (b7.mono Kc));have HU:=hd (zI1 HU.o b7);have ae:=hd (zI (ae.o.alloc ae.o.size _) b7);clear b7;clear x0 x1 f0 f1 o0 o1 o2 o3 dz z0 z1 g0 g1;obtain⟨x0,x1,f0,f1⟩:=yb2 (eG.o _ ae.o);obtain⟨o0,o1,o2,o3⟩:=zD9 (fG.o _ ae.o);obtain⟨_,_,_,_,_,_,dz,_⟩:=zH2 (fG.o _ ae.o);obtain⟨z0,z1,g0,g1⟩:=yb2 (bH.o _ ae.o);obtain⟨u0,u1,h0,h1⟩:=yb2 HU.o)
   |(go_at_call 47;refine Calls.mono (zH0 wD.o) ?_;rintro e w6 ⟨rfl,b6⟩;have dH:=hd (dH.o.trans (b6.mono dH.o.size));have HU:=hd (zI1 HU.o b6);have ae:=hd (zI ae.o b6);clear b6 u0 u1 h0 h1;clear x0 x1 f0 f1 o0 o1 o2 o3 dz z0 z1 g0 g1;obtain⟨x0,x1,f0,f1⟩:=yb2 (eG.o _ ae.o);obtain⟨o0,o1,o2,o3⟩:=zD9 (fG.o _ ae.o);obtain⟨_,_,_,_,_,_,dz,_⟩:=zH2 (fG.o _ ae.o);obtain⟨z0,z1,g0,g1⟩:=yb2 (bH.o _ ae.o);obtain⟨u0,u1,h0,h1⟩:=yb2 HU.o)
   |(go_at_call 48;refine Calls.mono (zW6 ((XA.own HO.o oM.o).later dH.o) HC.o) ?_;rintro e w6 ⟨v6,e6,ho,b6⟩;have e6:e=.returned (.tuple #[.agg #[v6,.int .i64 0],.bool false]):=e6;subst e6;obtain⟨A6,c6,rfl,_,_⟩:=ho.open_at 0 rfl;have rW:=hd (zBt.weaken (l:=[]) ho (Nat.le_trans aw.o.size ae.o.size));clear ho;have ae:=hd (zI ae.o b6);clear b6 u0 u1 h0 h1;clear x0 x1 f0 f1 o0 o1 o2 o3 dz z0 z1 g0 g1;obtain⟨x0,x1,f0,f1⟩:=yb2 (eG.o _ ae.o);obtain⟨o0,o1,o2,o3⟩:=zD9 (fG.o _ ae.o);obtain⟨_,_,_,_,_,_,dz,_⟩:=zH2 (fG.o _ ae.o);obtain⟨z0,z1,g0,g1⟩:=yb2 (bH.o _ ae.o))
   |(go_at_call 48;refine Calls.mono (zW8 (k:=k) ((XA.own HO.o oM.o).later dH.o) yt.o Ci.o HC.o wD.o hb1 hb2 p1 p2) ?_;rintro e w6 ⟨v6,e6,ho,b6⟩;have e6:e=.returned (.tuple #[.agg #[v6,.int .i64 (off-pos)],.bool true]):=e6;subst e6;obtain⟨A6,c6,rfl,_,_⟩:=ho.open_at (k+1) pU.o;have rW:=hd (zBt.weaken (l:=addL x k 1) ho (Nat.le_trans aw.o.size ae.o.size));clear ho;have ae:=hd (zI ae.o b6);clear b6 u0 u1 h0 h1;clear x0 x1 f0 f1 o0 o1 o2 o3 dz z0 z1 g0 g1;obtain⟨x0,x1,f0,f1⟩:=yb2 (eG.o _ ae.o);obtain⟨o0,o1,o2,o3⟩:=zD9 (fG.o _ ae.o);obtain⟨_,_,_,_,_,_,dz,_⟩:=zH2 (fG.o _ ae.o);obtain⟨z0,z1,g0,g1⟩:=yb2 (bH.o _ ae.o))
   |(go_at_call 48;refine Calls.mono (zW7 ((XA.own HO.o oM.o).later dH.o) HC.o wD.o) ?_;rintro e w6 ⟨rfl,b6⟩;have rW:=hd ((HO.o.below dH.o).below b6);have ae:=hd (zI ae.o b6);clear b6 u0 u1 h0 h1;clear x0 x1 f0 f1 o0 o1 o2 o3 dz z0 z1 g0 g1;obtain⟨x0,x1,f0,f1⟩:=yb2 (eG.o _ ae.o);obtain⟨o0,o1,o2,o3⟩:=zD9 (fG.o _ ae.o);obtain⟨_,_,_,_,_,_,dz,_⟩:=zH2 (fG.o _ ae.o);obtain⟨z0,z1,g0,g1⟩:=yb2 (bH.o _ ae.o)))
 first|exact kNd|exact kNe|exact kNf|exact ymF|exact ymN|exact kM9|exact kNa|exact kNb|exact kNc
 ):P:=h
theorem ymP (h:P:=by
 have HM:=hd (decide_eq_true h);have g1:decide (off<0)=false:=decide_eq_false Kb;have g2:decide (1048576<off)=false:=decide_eq_false Kb;have qI:=hd (show x.length<=3000 by have h1:=zQy (K:=K) (pos:=pos) (q:=q) (t:=t) (p:=p);rw[hm]at h1;obtain⟨_,_,_,_,a1,a2,_⟩:=hp;obtain⟨_,_,_,_,b1,b2,_⟩:=ht;simp only at h1;omega);obtain⟨nx,hnx⟩:∃n,x.length=n:=⟨_,rfl⟩;have nS:=hd hnx;have aP:nx<=3000:=hnx▸qI.o;have HR:=hd hm;(try(have hpos:=(zLo HR.o).2.2.2;rw[zKd]at hpos;obtain⟨p1,p2⟩:=hpos))
 (try have HS:=hd hs)
 (try have wD:=hd hps)
 (try have g3:decide (pos<off)=true:=decide_eq_true hps)
 (try have g3:decide (pos<off)=false:=decide_eq_false hps)
 (try have HC:=hd hc0)
 (try have tu:=hd (zX0 (q:=q) (t:=t) (pos:=pos) (x:=x) (by have h:=HR.o;have e2:q=p:=of_decide_eq_true HS.o;rw[<-e2,hK]at h;exact h)))
 (try have oM:=hd (show x.length<=1000 by rw[tu.o];obtain⟨_,_,_,_,b1,b2,_⟩:=hq;omega))
 (first
  | (have e3:(K==3)=false:=by simp[n3]
     have e4:(K==4)=false:=by simp[n4]
     have e7:(K==7)=false:=by simp[n7]
     have e8:(K==8)=false:=by simp[n8]
     clear n3 n4 n7 n8)
  | (first|have e3:(K==3)=true:=by simp[hK]|have e3:(K==3)=false:=by simp[hK]
     first|have e4:(K==4)=true:=by simp[hK]|have e4:(K==4)=false:=by simp[hK]
     first|have e7:(K==7)=true:=by simp[hK]|have e7:(K==7)=false:=by simp[hK]
     first|have e8:(K==8)=true:=by simp[hK]|have e8:(K==8)=false:=by simp[hK]
     clear hK)
  |skip)
 (try clear hps)
 (try clear hs)
 (try clear hc0)
 clear h hm hnx;exact ymS
 ):P:=h
theorem kLe {cx:Nat}{off:Int}(hp:XA W u p)(hq:XA W qv q)(ht:XA W tv t)(_hnt:nt<=1000000)(h:¬zDx aff):Calls Tryz.prog 20 #[.agg #[u,.int .i64 off],.agg #[.int .i64 K,qv,tv,.int .i64 pos,r4,r5,r6,r7,r8,r9,.slice TX nt cx,r11,r12,r13,r14,r15,r16,r17,r18,r19,r20],.int .i64 aff] W (zC3 W noP):=by
 have HM:=hd (decide_eq_false h);clear h;exact ymS
theorem kLf {cx:Nat}{off:Int}(hp:XA W u p)(hq:XA W qv q)(ht:XA W tv t)(_hnt:nt<=1000000)(h:zDx aff)(h1:off<0):Calls Tryz.prog 20 #[.agg #[u,.int .i64 off],.agg #[.int .i64 K,qv,tv,.int .i64 pos,r4,r5,r6,r7,r8,r9,.slice TX nt cx,r11,r12,r13,r14,r15,r16,r17,r18,r19,r20],.int .i64 aff] W (zC3 W noP):=by
 have HM:=hd (decide_eq_true h);have g1:decide (off<0)=true:=decide_eq_true h1;clear h h1;exact ymS
theorem kIi {cx:Nat}{off:Int}(hp:XA W u p)(hq:XA W qv q)(ht:XA W tv t)(_hnt:nt<=1000000)(h:zDx aff)(_h1:0<=off)(h2:1048576<off):Calls Tryz.prog 20 #[.agg #[u,.int .i64 off],.agg #[.int .i64 K,qv,tv,.int .i64 pos,r4,r5,r6,r7,r8,r9,.slice TX nt cx,r11,r12,r13,r14,r15,r16,r17,r18,r19,r20],.int .i64 aff] W (zC3 W noP):=by
 have HM:=hd (decide_eq_true h);have g1:decide (off<0)=false:=decide_eq_false Kb;have g2:decide (1048576<off)=true:=decide_eq_true h2;clear h h2;exact ymS
theorem kMw {cx:Nat}{off:Int}(hp:XA W u p)(hq:XA W qv q)(ht:XA W tv t)(_hnt:nt<=1000000)(h:zDx aff)(hb1:0<=off)(hb2:off<=1048576)(hm:jF K q t pos p=(x,false)):Calls Tryz.prog 20 #[.agg #[u,.int .i64 off],.agg #[.int .i64 K,qv,tv,.int .i64 pos,r4,r5,r6,r7,r8,r9,.slice TX nt cx,r11,r12,r13,r14,r15,r16,r17,r18,r19,r20],.int .i64 aff] W (zC3 W noP):=by
 exact ymP
theorem kLg {cx:Nat}{off:Int}(hp:XA W u p)(hq:XA W qv q)(ht:XA W tv t)(_hnt:nt<=1000000)(h:zDx aff)(hb1:0<=off)(hb2:off<=1048576)(hm:jF K q t pos p=(x,true))(hs:zEd q p=false):Calls Tryz.prog 20 #[.agg #[u,.int .i64 off],.agg #[.int .i64 K,qv,tv,.int .i64 pos,r4,r5,r6,r7,r8,r9,.slice TX nt cx,r11,r12,r13,r14,r15,r16,r17,r18,r19,r20],.int .i64 aff] W (zC3 W ((x,off),true)):=by
 exact ymP
theorem kIj {cx:Nat}{off:Int}(hp:XA W u p)(hq:XA W qv q)(ht:XA W tv t)(hnt:nt<=1000000)(h:zDx aff)(hb1:0<=off)(hb2:off<=1048576)(hm:jF K q t pos p=(x,true))(hs:zEd q p=true)(hK:K=7)(hps:zEl off pos aff=true):Calls Tryz.prog 20 #[.agg #[u,.int .i64 off],.agg #[.int .i64 K,qv,tv,.int .i64 pos,r4,r5,r6,r7,r8,r9,.slice TX nt cx,r11,r12,r13,r14,r15,r16,r17,r18,r19,r20],.int .i64 aff] W (zC3 W ((x,off+nt),true)):=by
 exact ymP
theorem kIk {cx:Nat}{off:Int}(hp:XA W u p)(hq:XA W qv q)(ht:XA W tv t)(_hnt:nt<=1000000)(h:zDx aff)(hb1:0<=off)(hb2:off<=1048576)(hm:jF K q t pos p=(x,true))(hs:zEd q p=true)(hK:K=7)(hps:zEl off pos aff=false):Calls Tryz.prog 20 #[.agg #[u,.int .i64 off],.agg #[.int .i64 K,qv,tv,.int .i64 pos,r4,r5,r6,r7,r8,r9,.slice TX nt cx,r11,r12,r13,r14,r15,r16,r17,r18,r19,r20],.int .i64 aff] W (zC3 W ((x,off),true)):=by
 exact ymP
theorem kEr {cx:Nat}{off:Int}(hp:XA W u p)(hq:XA W qv q)(ht:XA W tv t)(hnt:nt<=1000000)(h:zDx aff)(hb1:0<=off)(hb2:off<=1048576)(hm:jF K q t pos p=(x,true))(hs:zEd q p=true)(hK:K=8)(hps:pos<off)(hmx:off-(nt:Int)<pos):Calls Tryz.prog 20 #[.agg #[u,.int .i64 off],.agg #[.int .i64 K,qv,tv,.int .i64 pos,r4,r5,r6,r7,r8,r9,.slice TX nt cx,r11,r12,r13,r14,r15,r16,r17,r18,r19,r20],.int .i64 aff] W (zC3 W ((x,pos),true)):=by
 exact ymP
theorem kEs {cx:Nat}{off:Int}(hp:XA W u p)(hq:XA W qv q)(ht:XA W tv t)(hnt:nt<=1000000)(h:zDx aff)(hb1:0<=off)(hb2:off<=1048576)(hm:jF K q t pos p=(x,true))(hs:zEd q p=true)(hK:K=8)(hps:pos<off)(hmx:¬off-(nt:Int)<pos):Calls Tryz.prog 20 #[.agg #[u,.int .i64 off],.agg #[.int .i64 K,qv,tv,.int .i64 pos,r4,r5,r6,r7,r8,r9,.slice TX nt cx,r11,r12,r13,r14,r15,r16,r17,r18,r19,r20],.int .i64 aff] W (zC3 W ((x,off-nt),true)):=by
 exact ymP
theorem kIl {cx:Nat}{off:Int}(hp:XA W u p)(hq:XA W qv q)(ht:XA W tv t)(_hnt:nt<=1000000)(h:zDx aff)(hb1:0<=off)(hb2:off<=1048576)(hm:jF K q t pos p=(x,true))(hs:zEd q p=true)(hK:K=8)(hps:¬pos<off):Calls Tryz.prog 20 #[.agg #[u,.int .i64 off],.agg #[.int .i64 K,qv,tv,.int .i64 pos,r4,r5,r6,r7,r8,r9,.slice TX nt cx,r11,r12,r13,r14,r15,r16,r17,r18,r19,r20],.int .i64 aff] W (zC3 W ((x,off),true)):=by
 exact ymP
theorem kIm {cx:Nat}{off:Int}(hp:XA W u p)(hq:XA W qv q)(ht:XA W tv t)(_hnt:nt<=1000000)(h:zDx aff)(hb1:0<=off)(hb2:off<=1048576)(hm:jF K q t pos p=(x,true))(hs:zEd q p=true)(hK:K=3)(hq0:q.length=0):Calls Tryz.prog 20 #[.agg #[u,.int .i64 off],.agg #[.int .i64 K,qv,tv,.int .i64 pos,r4,r5,r6,r7,r8,r9,.slice TX nt cx,r11,r12,r13,r14,r15,r16,r17,r18,r19,r20],.int .i64 aff] W (zC3 W ((x,off),true)):=by
 exact ymP
theorem kIn {cx:Nat}{off:Int}(hp:XA W u p)(hq:XA W qv q)(ht:XA W tv t)(_hnt:nt<=1000000)(h:zDx aff)(hb1:0<=off)(hb2:off<=1048576)(hm:jF K q t pos p=(x,true))(hs:zEd q p=true)(hK:K=3)(hq0:q.length≠0):Calls Tryz.prog 20 #[.agg #[u,.int .i64 off],.agg #[.int .i64 K,qv,tv,.int .i64 pos,r4,r5,r6,r7,r8,r9,.slice TX nt cx,r11,r12,r13,r14,r15,r16,r17,r18,r19,r20],.int .i64 aff] W (zC3 W ((x,off+pos),true)):=by
 exact ymP
theorem kIo {cx:Nat}{off:Int}(hp:XA W u p)(hq:XA W qv q)(ht:XA W tv t)(_hnt:nt<=1000000)(h:zDx aff)(hb1:0<=off)(hb2:off<=1048576)(hm:jF K q t pos p=(x,true))(hs:zEd q p=true)(hK:K=4)(hq0:q.length=0):Calls Tryz.prog 20 #[.agg #[u,.int .i64 off],.agg #[.int .i64 K,qv,tv,.int .i64 pos,r4,r5,r6,r7,r8,r9,.slice TX nt cx,r11,r12,r13,r14,r15,r16,r17,r18,r19,r20],.int .i64 aff] W (zC3 W ((x,off),true)):=by
 exact ymP
theorem kIp {cx:Nat}{off:Int}(hp:XA W u p)(hq:XA W qv q)(ht:XA W tv t)(_hnt:nt<=1000000)(h:zDx aff)(hb1:0<=off)(hb2:off<=1048576)(hm:jF K q t pos p=(x,true))(hs:zEd q p=true)(hK:K=4)(hq0:q.length≠0)(hc0:pos=off/\aff=0):Calls Tryz.prog 20 #[.agg #[u,.int .i64 off],.agg #[.int .i64 K,qv,tv,.int .i64 pos,r4,r5,r6,r7,r8,r9,.slice TX nt cx,r11,r12,r13,r14,r15,r16,r17,r18,r19,r20],.int .i64 aff] W (zC3 W noP):=by
 exact ymP
theorem kIq {cx:Nat}{off:Int}(hp:XA W u p)(hq:XA W qv q)(ht:XA W tv t)(_hnt:nt<=1000000)(h:zDx aff)(hb1:0<=off)(hb2:off<=1048576)(hm:jF K q t pos p=(x,true))(hs:zEd q p=true)(hK:K=4)(hq0:q.length≠0)(hc0:¬(pos=off/\aff=0))(hps:zEl off pos aff=true):Calls Tryz.prog 20 #[.agg #[u,.int .i64 off],.agg #[.int .i64 K,qv,tv,.int .i64 pos,r4,r5,r6,r7,r8,r9,.slice TX nt cx,r11,r12,r13,r14,r15,r16,r17,r18,r19,r20],.int .i64 aff] W (zC3 W ((addL q (q.length-1) 1,off-pos),true)):=by
 exact ymP
theorem kIr {cx:Nat}{off:Int}(hp:XA W u p)(hq:XA W qv q)(ht:XA W tv t)(_hnt:nt<=1000000)(h:zDx aff)(hb1:0<=off)(hb2:off<=1048576)(hm:jF K q t pos p=(x,true))(hs:zEd q p=true)(hK:K=4)(hq0:q.length≠0)(hc0:¬(pos=off/\aff=0))(hps:zEl off pos aff=false):Calls Tryz.prog 20 #[.agg #[u,.int .i64 off],.agg #[.int .i64 K,qv,tv,.int .i64 pos,r4,r5,r6,r7,r8,r9,.slice TX nt cx,r11,r12,r13,r14,r15,r16,r17,r18,r19,r20],.int .i64 aff] W (zC3 W ((x,off),true)):=by
 exact ymP
theorem kLh {cx:Nat}{off:Int}(hp:XA W u p)(hq:XA W qv q)(ht:XA W tv t)(_hnt:nt<=1000000)(h:zDx aff)(hb1:0<=off)(hb2:off<=1048576)(hm:jF K q t pos p=(x,true))(hs:zEd q p=true)(n3:K≠3)(n4:K≠4)(n7:K≠7)(n8:K≠8):Calls Tryz.prog 20 #[.agg #[u,.int .i64 off],.agg #[.int .i64 K,qv,tv,.int .i64 pos,r4,r5,r6,r7,r8,r9,.slice TX nt cx,r11,r12,r13,r14,r15,r16,r17,r18,r19,r20],.int .i64 aff] W (zC3 W ((x,off),true)):=by
 exact ymP
theorem kEt {v:Value}{cx:Nat}{p:List Int×Int}{r:(List Int×Int)×Bool}(hp:PA W v p)(hq:XA W qv q)(ht:XA W tv t)(hnt:nt<=1000000)(hr:zEr K q t pos nt aff p=r):
  Calls Tryz.prog 20 #[v,.agg #[.int .i64 K,qv,tv,.int .i64 pos,r4,r5,r6,r7,r8,r9,.slice TX nt cx,r11,r12,r13,r14,r15,r16,r17,r18,r19,r20],.int .i64 aff] W (zC3 W r):=by
 subst hr;obtain⟨u,rfl,hp⟩:=hp;obtain⟨p,off⟩:=p;simp only at hp⊢;by_cases ha:zDx aff
 ·by_cases h1:off<0
  ·rw[zP9 (fun h=>by simp only at h;omega)];exact kLf hp hq ht hnt ha h1
  by_cases h2:1048576<off
  ·rw[zP9 (fun h=>by simp only at h;omega)];exact kIi hp hq ht hnt ha Kb h2
  have b1:0<=off:=Kb;have b2:off<=1048576:=Kb;obtain⟨⟨x,e⟩,hm⟩:∃z,jF K q t pos p=z:=⟨_,rfl⟩;cases e
  ·rw[zVj (p:=(p,off)) hm];exact kMw hp hq ht hnt ha b1 b2 hm
  rw[kB4 (p:=(p,off)) ha b1 b2 hm];simp only;by_cases tz:q=p
  ·rw [if_pos tz];have hs:zEd q p=true:=decide_eq_true tz;unfold zXx;by_cases k7:K=7
   ·rw[if_pos k7];cases hps:zEl off pos aff
    ·exact kIk hp hq ht hnt ha b1 b2 hm hs k7 hps
    ·exact kIj hp hq ht hnt ha b1 b2 hm hs k7 hps
   rw[if_neg k7];by_cases k8:K=8
   ·rw[if_pos k8];by_cases hps:pos<off
    ·rw[if_pos hps];by_cases hmx:off-(nt:Int)<pos
     ·rw[show max (off-(nt:Int)) pos=pos by omega];exact kEr hp hq ht hnt ha b1 b2 hm hs k8 hps hmx
     ·rw[show max (off-(nt:Int)) pos=off-nt by omega];exact kEs hp hq ht hnt ha b1 b2 hm hs k8 hps hmx
    ·rw[if_neg hps];exact kIl hp hq ht hnt ha b1 b2 hm hs k8 hps
   rw[if_neg k8];by_cases k3:K=3
   ·by_cases h0:q.length=0
    ·rw[if_neg (fun h=>h.2 h0),if_neg (fun h=>h.2 h0)];exact kIm hp hq ht hnt ha b1 b2 hm hs k3 h0
    ·rw[if_pos ⟨k3,h0⟩];exact kIn hp hq ht hnt ha b1 b2 hm hs k3 h0
   rw[if_neg (fun h=>k3 h.1)];by_cases k4:K=4
   ·by_cases h0:q.length=0
    ·rw[if_neg (fun h=>h.2 h0)];exact kIo hp hq ht hnt ha b1 b2 hm hs k4 h0
    ·rw[if_pos ⟨k4,h0⟩];by_cases hc:pos=off/\aff=0
     ·rw[if_pos hc];exact kIp hp hq ht hnt ha b1 b2 hm hs k4 h0 hc
     ·rw[if_neg hc];cases hps:zEl off pos aff
      ·exact kIr hp hq ht hnt ha b1 b2 hm hs k4 h0 hc hps
      ·exact kIq hp hq ht hnt ha b1 b2 hm hs k4 h0 hc hps
   rw[if_neg (fun h=>k4 h.1)];exact kLh hp hq ht hnt ha b1 b2 hm hs k3 k4 k7 k8
  ·rw[if_neg tz];exact kLg hp hq ht hnt ha b1 b2 hm (decide_eq_false tz)
 ·rw[zXy ha];exact kLe hp hq ht hnt ha
