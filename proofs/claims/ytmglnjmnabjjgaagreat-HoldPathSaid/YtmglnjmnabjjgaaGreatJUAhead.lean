import Derived.Test.YtmglnjmnabjjgaaGreatJHShp
set_option maxRecDepth 100000
set_option maxHeartbeats 8000000
namespace Go.Proofs.YtmglnjmnabjjgaaGreat
open Go.RowKit
variable {P:Prop}{w:World}{c:NC}{s:SC}{n:NT}{sl:Sl}{a:OpP}{E:Int}
theorem zFw {Q:Prop}(k:Q)(h:Q->P:=by
 intro kk;simp only[Act.put,List.getElem_toArray,List.getElem_cons_succ,List.getElem_cons_zero,List.setIfInBounds_toArray,List.set_cons_succ,List.set_cons_zero];exact kk):P:=h k
theorem kPe (h:P:=by
 have H1:=hd h1;try have H2:=hd h2
 try have H3:=hd h3
 try have H4:=hd h4
 have HN:=hd hn;have gT:=hd hs;have HO:=hd ho;have mh:=hd hf;have az:=hd ta;clear hn hs ho hf ta h1;try clear h2
 try clear h3
 try clear h4
 obtain⟨W0,hW,hst⟩:=kN w c s o;have HW:=hd hW;have HM:=hd hst;clear hW hst;go_enter Tryz.func29,Tryz.ntmps29
 go_upto_region 1 with fail
 rw[HW.o];clear HW;go_wp2_with(first
  |((with_reducible refine zC (ty:=26) (x:=.tmp 3) ?_);refine zB zD HM.o.v3 rfl _ rfl rfl rfl ?_)
  |(go_at_call 65;refine Calls.mono (zFa (HN.o.later HM.o.below) H1.o) ?_;rintro e w1 ⟨rfl,b9⟩;have HM:=hd (HM.o.call b9);clear b9)
  |((with_reducible refine zC (ty:=4) (x:=.tmp 14) ?_);refine zM HM.o.v3 (j:=0) (v:=.bool false) _ rfl rfl rfl (by simp only[NC.row,H2.o];rfl) Tryz.underlying4 rfl ?_)
  |((with_reducible refine zC (ty:=4) (x:=.tmp 14) ?_);refine zM HM.o.v3 (j:=0) (v:=.bool true) _ rfl rfl rfl (by simp only[NC.row,H2.o];rfl) Tryz.underlying4 rfl ?_)
  |((with_reducible refine zC (ty:=33) (x:=.tmp 4) ?_);refine zB kYr HM.o.v4 rfl _ rfl rfl rfl ?_)
  |(go_at_call 66;refine Calls.mono (zKk (HN.o.later HM.o.below) (gT.o.later HM.o.below) mh.o H3.o) ?_;rintro e w2 ⟨rfl,b9⟩;have HM:=hd (HM.o.call b9);clear b9)
  |((with_reducible refine zC (ty:=35) (x:=.tmp 5) ?_);refine zG HM.o.v5 _ rfl rfl rfl ?_)
  |(go_at_call 67;refine Calls.mono (zFt (HO.o.later HM.o.below) az.o H4.o) ?_;rintro e w3 ⟨rfl,b9⟩;have HM:=hd (HM.o.call b9);clear b9)
  |fail)
 go_ret
 exact⟨rfl,HM.o.below⟩):P:=h
theorem kH0 {o:OC}(hn:kS w c n)(hs:zB1 w s sl)(ho:OkA w o a)(hf:fewS sl=true)(ta:zAf a)(h1:zAd n=E)(hne:(E !=0)=true):Calls Tryz.prog 29 #[.agg c.row,.agg s.row,.agg o.row] w (jA (.int .i64 E) w):=by
 exact kPe
theorem kH1 {o:OC}(hn:kS w c n)(hs:zB1 w s sl)(ho:OkA w o a)(hf:fewS sl=true)(ta:zAf a)(h1:zAd n=0)(h2:c.lf=true):Calls Tryz.prog 29 #[.agg c.row,.agg s.row,.agg o.row] w (jA (.int .i64 7) w):=by
 exact kPe
theorem kH2 {o:OC}(hn:kS w c n)(hs:zB1 w s sl)(ho:OkA w o a)(hf:fewS sl=true)(ta:zAf a)(h1:zAd n=0)(h2:c.lf=false)(h3:zE8 n sl=E)(hne:(E !=0)=true):Calls Tryz.prog 29 #[.agg c.row,.agg s.row,.agg o.row] w (jA (.int .i64 E) w):=by
 exact kPe
theorem kH3 {o:OC}(hn:kS w c n)(hs:zB1 w s sl)(ho:OkA w o a)(hf:fewS sl=true)(ta:zAf a)(h1:zAd n=0)(h2:c.lf=false)(h3:zE8 n sl=0)(h4:zCx a=E):Calls Tryz.prog 29 #[.agg c.row,.agg s.row,.agg o.row] w (jA (.int .i64 E) w):=by
 exact kPe
noncomputable def zG7 (n:NT)(s:Sl)(a:OpP):Int:=if zAd n≠0 then zAd n else if n.lf=true then 7 else if zE8 n s≠0 then zE8 n s else zCx a
theorem zIh {o:OC}(hn:kS w c n)(hs:zB1 w s sl)(ho:OkA w o a)(hf:fewS sl=true)(ta:zAf a)(hE:zG7 n sl a=E):Calls Tryz.prog 29 #[.agg c.row,.agg s.row,.agg o.row] w (jA (.int .i64 E) w):=by
 unfold zG7 at hE;by_cases h1:zAd n=0
 case neg=>rw[if_pos h1]at hE;subst hE;exact kH0 hn hs ho hf ta rfl (by simpa using h1)
 rw[if_neg (by simp[h1])]at hE;have el:=hn.lf;cases h2:n.lf with
 |true=>rw[if_pos h2]at hE;subst hE;exact kH1 hn hs ho hf ta h1 (by rw[<-el];exact h2)
 |false=>
  rw[if_neg (by simp[h2])]at hE;have h2':c.lf=false:=by rw[<-el];exact h2
  by_cases h3:zE8 n sl=0
  case neg=>rw[if_pos h3]at hE;subst hE;exact kH2 hn hs ho hf ta h1 h2' rfl (by simpa using h3)
  rw[if_neg (by simp[h3])]at hE;exact kH3 hn hs ho hf ta h1 h2' h3 hE
theorem zPn {si:Bool}{A B:Option Addr}{n c m d:Nat}{x y:Int}{s:Sl}(h:zIi w si A n c x B m d y s)(h1:n<=1000)(h2:m<=1000):
  Calls Tryz.prog 33 #[.agg #[.bool si,.slice A n c,.int .i64 x,.slice B m d,.int .i64 y]] w (kMx w si n x m y s):=by
 obtain⟨W0,hW⟩:∃W0,(w.alloc (.cells #[.bool si,.slice A n c,.int .i64 x,.slice B m d,.int .i64 y] 33)).alloc (.cells #[.bool false,.slice none 0 0,.int .i64 0,.slice none 0 0,.int .i64 0] 33)=W0:=⟨_,rfl⟩;have hb0:Below w.heap.size w W0:=hW▸kM Kl Km;have e0:=zK2 w (Obj.cells #[.bool si,.slice A n c,.int .i64 x,.slice B m d,.int .i64 y] 33) (Obj.cells #[.bool false,.slice none 0 0,.int .i64 0,.slice none 0 0,.int .i64 0] 33);rw[hW]at e0;have aD:=hd (show zI2 W0 w.heap.size _ _ _ _ _ from e0.1);have ah:=hd (show zI2 W0 (w.heap.size+1) _ _ _ _ _ from e0.2);have HW:=hd hW;have HB:=hd hb0;have HH:=hd h;clear hW hb0 e0 h;go_enter Tryz.func33,Tryz.ntmps33
 go_upto_region 1 with fail
 rw[HW.o];refine jO (S:=fun W=>zI2 W w.heap.size (.bool si) (.slice A n c) (.int .i64 x) (.slice B m d) (.int .i64 y)) (z:=fun j=>decide (10<=j)) Ka ?_;have aa:=hd (show zI2 W0.drew w.heap.size (.bool si) (.slice A n c) (.int .i64 x) (.slice B m d) (.int .i64 y)from aD.o);refine Ko 0 17 (.pointer (some ⟨w.heap.size,1,none⟩)) (fun W hW=>?_) aa.o ?_
 ·skip
  go_simp
 simp only[Act.put,List.setIfInBounds_toArray];refine Ko 1 16 (.pointer (some ⟨w.heap.size,1,none⟩)) (fun W hW=>?_) aa.o ?_
 ·skip
  go_simp
 simp only[Act.put];refine Ko 2 15 (.pointer (some ⟨w.heap.size,1,none⟩)) (fun W hW=>?_) aa.o ?_
 ·skip
  go_simp
 simp only[Act.put];refine Ko 3 14 (.slice A n c) (fun W hW=>?_) aa.o ?_
 ·obtain⟨_,y1,_,_,_⟩:=zI2.cells hW;go_simp
 simp only[Act.put];refine Ko 5 13 (.pointer (some ⟨w.heap.size,1,none⟩)) (fun W hW=>?_) aa.o ?_
 ·skip
  go_simp
 simp only[Act.put];refine Ko 6 12 (.pointer (some ⟨w.heap.size,3,none⟩)) (fun W hW=>?_) aa.o ?_
 ·skip
  go_simp
 simp only[Act.put];refine Ko 7 11 (.pointer (some ⟨w.heap.size,3,none⟩)) (fun W hW=>?_) aa.o ?_
 ·skip
  go_simp
 simp only[Act.put];refine Ko 8 10 (.slice B m d) (fun W hW=>?_) aa.o ?_
 ·obtain⟨_,_,_,y3,_⟩:=zI2.cells hW;go_simp
 simp only[Act.put];refine Kq 4 9 (fun K hK=>?_);rw[if_pos Ke];go_simp;go_at_call 77
 refine(zFz A s.a.1 n c _ HH.o.hn h1 ((HH.o.hA.later HB.o).later (Kl.drew))).mono ?_;rintro e w5 ⟨A5,c5,rfl,wH,hs5,aY⟩;have aV:Below W0.heap.size W0 w5:=(Kl.drew).trans aY;have aa:=hd (aD.o.keep aV);refine hK _ _ (fun _=>aa.o) ?_;clear hK K;refine zDd (i:=10) (n:=8) (.pointer (some ⟨w.heap.size,1,none⟩)) rfl rfl Ka Ka Ka (fun _ _ _ h=>h) Ke (fun W=>?_) ?_
 ·go_simp
 simp only[Act.put];refine zDd (i:=11) (n:=7) (.pointer (some ⟨w.heap.size,1,none⟩)) rfl rfl Ka Ka Ka (fun _ _ _ h=>h) Ke (fun W=>?_) ?_
 ·go_simp
 simp only[Act.put];refine zDd (i:=12) (n:=6) (.pointer (some ⟨w.heap.size,1,none⟩)) rfl rfl Ka Ka Ka (fun _ _ _ h=>h) Ke (fun W=>?_) ?_
 ·go_simp
 simp only[Act.put];refine Kq 9 5 (fun K hK=>?_);rw[if_pos Ke];go_simp;go_at_call 77
 refine(zFz B s.f.1 m d _ HH.o.hm h2 ((HH.o.hB.later HB.o).later aV)).mono ?_;rintro e w6 ⟨B6,d6,rfl,mP,mo,ey⟩;have hg1:=aD.o.lt;have hg2:=ah.o.lt;have pO:=aV.size;have Cc:=ey.size;have gH:=hd (((hs5.more (show W0.heap.size<=W0.drew.heap.size from Nat.le_refl _)).high (zA5.below ey)));have wI:=hd (mo.more pO);have aD:=hd (aa.o.keep ey);have ah:=hd ((ah.o.keep aV).keep ey);have HB:=hd (HB.o.trans ((aV.trans (ey.mono pO)).mono HB.o.size));clear aY hs5 mo;refine hK _ _ (fun _=>aD.o) ?_;clear hK K aa;refine Kq 13 4 (fun K hK=>?_);rw[if_pos Ke];refine zY zCa aD.o _ _ rfl rfl 1 _ [.slice A5 n c5] rfl rfl rfl rfl (zHt rfl) Kn ?_;intro W7 bJ aU;refine hK _ _ (fun h=>absurd h Kd) ?_;clear hK K;refine zDd (i:=14) (n:=3) (.pointer (some ⟨w.heap.size,1,none⟩)) rfl rfl Ka Ka Ka (fun _ _ _ h=>h) Ke (fun W=>?_) ?_
 ·go_simp
 simp only[Act.put];refine zDd (i:=15) (n:=2) (.pointer (some ⟨w.heap.size,3,none⟩)) rfl rfl Ka Ka Ka (fun _ _ _ h=>h) Ke (fun W=>?_) ?_
 ·go_simp
 simp only[Act.put];refine zDd (i:=16) (n:=1) (.pointer (some ⟨w.heap.size,3,none⟩)) rfl rfl Ka Ka Ka (fun _ _ _ h=>h) Ke (fun W=>?_) ?_
 ·go_simp
 simp only[Act.put];refine Kq 17 0 (fun K hK=>?_);rw[if_pos Ke];refine zY zCa bJ _ _ rfl rfl 3 _ [.slice B6 m d6] rfl rfl rfl rfl (zHt rfl) Kn ?_;intro W8 bS bb;refine hK _ _ (fun h=>absurd h Kd) (zAl Ka ?_);clear hK K;have HO:=hd (aU.trans bb);have aD:=hd (show zI2 W8 w.heap.size (.bool si) (.slice A5 n c5) (.int .i64 x) (.slice B6 m d6) (.int .i64 y)from bS);have ah:=hd (ah.o.off HO.o Kb);have HB:=hd (zN HB.o HO.o Km);clear bJ aU bS bb;go_wp2_with(first
  |((with_reducible refine zC (ty:=33) ?_);refine zIm aD.o _ rfl rfl rfl ?_)
  |((with_reducible refine zF (ty:=33) (x:=.tmp 2) ?_);refine zHc ah.o _ _ rfl rfl rfl rfl rfl Ka ?_;intro W9 av aj;have ah:=hd av;have di:=hd aj;clear av aj))
 have hh:=HH.o;have hlo:w.heap.size+1<W0.heap.size:=Kb;have hhi:zA5 W0.heap.size w6 W9:=(zA5.off HO.o Kb).trans (zA5.off di.o hlo);refine bodyPost_ret (zP6 Tryz.results33 _ _ ah.o rfl) rfl ⟨A5,c5,B6,d6,rfl,fun W hoff=>?_,zN HB.o di.o (Nat.le_succ _)⟩;have hx:=hhi.trans (hoff.mono Kb);exact⟨hh.his,hh.hx,hh.hy,hh.hn,hh.hm,wH,mP,hh.hmn,hh.hmm,gH.o W hx,wI.o W hx⟩
theorem zKs (h:zB1 w s sl)(h1:s.n<=1000)(h2:s.m<=1000):Calls Tryz.prog 33 #[.agg s.row] w (fun e w'=>∃t:SC,e=.returned (.agg t.row)/\zH3 w.heap.size w' (fun W=>zB1 W t sl)/\Below w.heap.size w w'):=by
 refine(zPn h h1 h2).mono ?_;rintro e w' ⟨A,c,B,d,rfl,hs,hb⟩;exact⟨⟨s.is,A,s.n,c,s.x,B,s.m,d,s.y⟩,rfl,hs,hb⟩
theorem kRe (h:P:=by
 have qi:=hd hff;try have yQ:=hd pJ
 have H5:=hd h5;try have H6:=hd h6
 have HN:=hd hn;have gT:=hd hs;have HO:=hd ho;have mh:=hd hf;have az:=hd ta;clear hn hs ho hf ta hff h5;try clear pJ
 try clear h6
 obtain⟨W0,hW,hst⟩:=zDs w c s o;have HW:=hd hW;have HM:=hd hst;clear hW hst;go_enter Tryz.func30,Tryz.ntmps30
 go_upto_region 1 with fail
 rw[HW.o];clear HW;go_wp2_with(first
  |((with_reducible refine zC (ty:=33) (x:=.tmp 10) ?_);refine kR HM.o.st.v5 (j:=11) (vs:=[.bool o.fi,.slice o.F1 o.f1 o.d1,.int .i64 o.fo,.slice o.F2 o.f2 o.d2,.int .i64 o.fp]) zD4 _ rfl rfl rfl Ka ?_)
  |((with_reducible refine zC (ty:=33) (x:=.tmp 4) ?_);refine zB kYr HM.o.st.v4 rfl _ rfl rfl rfl ?_)
  |((with_reducible refine zC (ty:=33) (x:=.tmp 18) ?_);refine kR HM.o.st.v5 (j:=16) (vs:=[.bool o.gi,.slice o.G1 o.g1 o.e1,.int .i64 o.go,.slice o.G2 o.g2 o.e2,.int .i64 o.gp]) zD4 _ rfl rfl rfl Ka ?_)
  |(go_at_call 64;refine Calls.mono (zH9 (c:=o.from_) (zPq (HO.o.later HM.o.st.below)) (gT.o.later HM.o.st.below) qi.o mh.o H5.o) ?_;rintro e w1 ⟨rfl,b9⟩;have HM:=hd (HM.o.call b9);clear b9)
  |((with_reducible refine zC (ty:=26) (x:=.tmp 3) ?_);refine zB zD HM.o.st.v3 rfl _ rfl rfl rfl ?_)
  |(go_at_call 66;refine Calls.mono (zKk (d:=o.into) (HN.o.later HM.o.st.below) (zLl (HO.o.later HM.o.st.below)) yQ.o H6.o) ?_;rintro e w2 ⟨rfl,b9⟩;have HM:=hd (HM.o.call b9);clear b9)
  |((with_reducible refine zF (ty:=26) (x:=.tmp 6) ?_);refine zA zD (r0:=NC.nil.row) (r:=NC.nil.row) HM.o.v7 rfl rfl NC.nil.one _ _ rfl rfl rfl rfl rfl ?_;intro W7 hv ho;have HM:=hd (HM.o.set7 (a':=NC.nil) Kb Kb hv ho);clear hv ho)
  |((with_reducible refine zF (ty:=33) (x:=.tmp 7) ?_);refine zA kYr (r0:=SC.nil.row) (r:=SC.nil.row) HM.o.v8 rfl rfl SC.nil.one _ _ rfl rfl rfl rfl rfl ?_;intro W8 hv ho;have HM:=hd (HM.o.set8 (t':=SC.nil) Kb Kb hv ho);clear hv ho)
  |fail)
 exact bodyPost_ret (zDt Tryz.results30 _ _ HM.o.v7 HM.o.v8 rfl rfl) rfl ⟨NC.nil,SC.nil,rfl,fun _ _=>zAb _,fun _ _=>zJ2 _,HM.o.st.below⟩):P:=h
theorem kAt {o:OC}(hn:kS w c n)(hs:zB1 w s sl)(ho:OkA w o a)(hf:fewS sl=true)(ta:zAf a)(hff:fewS a.f=true)(h5:zF7 a.f sl=false):Calls Tryz.prog 30 #[.agg c.row,.agg s.row,.agg o.row] w (zVb w ((zeroT,zeroS),9)):=by
 exact kRe
theorem zW3 {o:OC}(hn:kS w c n)(hs:zB1 w s sl)(ho:OkA w o a)(hf:fewS sl=true)(ta:zAf a)(hff:fewS a.f=true)(pJ:fewS a.g=true)(h5:zF7 a.f sl=true)(h6:zE8 n a.g=E)(hne:(E !=0)=true):Calls Tryz.prog 30 #[.agg c.row,.agg s.row,.agg o.row] w (zVb w ((zeroT,zeroS),E)):=by
 exact kRe
theorem zW4 {o:OC}(hn:kS w c n)(hs:zB1 w s sl)(ho:OkA w o a)(hf:fewS sl=true)(ta:zAf a)(hff:fewS a.f=true)(pJ:fewS a.g=true)(h5:zF7 a.f sl=true)(h6:zE8 n a.g=0)(bl:o.g1<=1000)(hl2:o.g2<=1000):Calls Tryz.prog 30 #[.agg c.row,.agg s.row,.agg o.row] w (zVb w ((n,a.g),0)):=by
 have qi:=hd hff;have uN:=hd bl;have mz:=hd hl2;clear bl hl2;have yQ:=hd pJ;have H5:=hd h5;have H6:=hd h6;have HN:=hd hn;have gT:=hd hs;have HO:=hd ho;have mh:=hd hf;have az:=hd ta;clear hn hs ho hf ta hff pJ h5 h6;obtain⟨W0,hW,hst⟩:=zDs w c s o;have HW:=hd hW;have HM:=hd hst;clear hW hst;go_enter Tryz.func30,Tryz.ntmps30
 go_upto_region 1 with fail
 rw[HW.o];clear HW;go_upto_region 6 with(first
  |((with_reducible refine zC (ty:=33) (x:=.tmp 10) ?_);refine kR HM.o.st.v5 (j:=11) (vs:=[.bool o.fi,.slice o.F1 o.f1 o.d1,.int .i64 o.fo,.slice o.F2 o.f2 o.d2,.int .i64 o.fp]) zD4 _ rfl rfl rfl Ka ?_)
  |((with_reducible refine zC (ty:=33) (x:=.tmp 4) ?_);refine zB kYr HM.o.st.v4 rfl _ rfl rfl rfl ?_)
  |(go_at_call 64;refine Calls.mono (zH9 (c:=o.from_) (zPq (HO.o.later HM.o.st.below)) (gT.o.later HM.o.st.below) qi.o mh.o H5.o) ?_;rintro e w1 ⟨rfl,b9⟩;have HM:=hd (HM.o.call b9);clear b9)
  |((with_reducible refine zC (ty:=26) (x:=.tmp 3) ?_);refine zB zD HM.o.st.v3 rfl _ rfl rfl rfl ?_)
  |((with_reducible refine zC (ty:=33) (x:=.tmp 18) ?_);refine kR HM.o.st.v5 (j:=16) (vs:=[.bool o.gi,.slice o.G1 o.g1 o.e1,.int .i64 o.go,.slice o.G2 o.g2 o.e2,.int .i64 o.gp]) zD4 _ rfl rfl rfl Ka ?_)
  |(go_at_call 66;refine Calls.mono (zKk (d:=o.into) (HN.o.later HM.o.st.below) (zLl (HO.o.later HM.o.st.below)) yQ.o H6.o) ?_;rintro e w2 ⟨rfl,b9⟩;have HM:=hd (HM.o.call b9);clear b9))
 have HM:=hd (HM.o.call (Kl.drew));refine jO (S:=fun W'=>jT 26 W' w.heap.size c.row/\jR W' (w.heap.size+1+1) o) (z:=fun _=>false) Ka ?_;have aa:=hd (And.intro HM.o.st.v3 HM.o.st.v5);refine Ko 0 7 (.agg c.row) (fun W9 ag=>?_) aa.o ?_
 ·exact zS zD ag.1 rfl _ rfl rfl
 simp only[Act.put,List.getElem_toArray,List.getElem_cons_zero,List.setIfInBounds_toArray,List.set_cons_succ,List.set_cons_zero];refine Kp 2 6 (.pointer (some ⟨w.heap.size+1+1,16,none⟩)) aa.o ?_;refine zFw ?_;refine Ko 3 5 (.agg #[.bool o.gi,.slice o.G1 o.g1 o.e1,.int .i64 o.go,.slice o.G2 o.g2 o.e2,.int .i64 o.gp]) (fun W9 ag=>?_) aa.o ?_
 ·exact zG3 (j:=16) (vs:=[.bool o.gi,.slice o.G1 o.g1 o.e1,.int .i64 o.go,.slice o.G2 o.g2 o.e2,.int .i64 o.gp]) ag.2.toR zD4 _ rfl rfl Ka
 refine zFw ?_;refine Kq 1 4 (fun K hK=>?_);rw[if_pos Ka];go_simp;go_at_call 41
 refine(kH9 (HN.o.later HM.o.st.below)).mono ?_;rintro e w3 ⟨cx,rfl,h1,b9⟩;have Eo:=HM.o.v8.lt;have hs3:=HM.o.st.below.size;have HX:=hd h1;have HM:=hd (HM.o.call b9);clear b9 h1 aa;have aa:=hd (And.intro HM.o.st.v3 HM.o.st.v5);refine hK _ _ (fun _=>aa.o) ?_;clear hK K;refine Kq 4 3 (fun K hK=>?_);rw[if_pos Ka];go_simp;go_at_call 33
 refine(zKs (s:=o.into) (zLl (HO.o.later HM.o.st.below)) uN.o mz.o).mono ?_;rintro e w4 ⟨sx,rfl,h1,b9⟩;have Ep:=HM.o.v8.lt;have hs4:=HM.o.st.below.size;have HS:=hd h1;have HX:=hd (HX.o.call b9);have HM:=hd (HM.o.call b9);clear b9 h1 aa;have aa:=hd (And.intro HM.o.st.v3 HM.o.st.v5);refine hK _ _ (fun _=>aa.o) ?_;clear hK K;refine Kq 5 2 (fun K hK=>?_);rw[if_pos Ka];refine zY zKq HM.o.v7 _ _ rfl rfl 0 _ [.bool cx.lf,.slice cx.P cx.np cx.pc,.slice cx.X cx.nt cx.tc,.slice cx.K cx.nk cx.kc] rfl rfl rfl rfl (by intro u hu;simp at hu;rcases hu with rfl|rfl|rfl|rfl<;>rfl) Kn ?_;intro W5 hv ho;have HM:=hd (HM.o.set7 (a':=cx) Kb Kb hv ho);have HX:=hd (HX.o.off ho Kb);have HS:=hd (HS.o.off ho Kb);clear hv ho;have aa:=hd (And.intro HM.o.st.v3 HM.o.st.v5);refine hK _ _ (fun _=>aa.o) ?_;clear hK K;refine Kq 6 1 (fun K hK=>?_);rw[if_pos Ka];refine zY zJu HM.o.v8 _ _ rfl rfl 0 _ [.bool sx.is,.slice sx.A sx.n sx.c,.int .i64 sx.x,.slice sx.B sx.m sx.d,.int .i64 sx.y] rfl rfl rfl rfl Kh Kn ?_;intro W6 hv ho;have HM:=hd (HM.o.set8 (t':=sx) Kb Kb hv ho);have HX:=hd (HX.o.off ho Kb);have HS:=hd (HS.o.off ho Kb);clear hv ho;have aa:=hd (And.intro HM.o.st.v3 HM.o.st.v5);refine hK _ _ (fun _=>aa.o) ?_;clear hK K;refine Kq 7 0 (fun K hK=>?_);rw[if_pos Ka];go_simp;refine hK _ _ (fun _=>aa.o) (zAl Ka ?_);clear hK K;go_wp2_with fail
 exact bodyPost_ret (zDt Tryz.results30 _ _ HM.o.v7 HM.o.v8 rfl rfl) rfl ⟨cx,sx,rfl,HX.o.more Kb,HS.o.more Kb,HM.o.st.below⟩
