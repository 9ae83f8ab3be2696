import Derived.Test.YtmkciabefepelaaGreatJUDo
import Derived.Test.YtmkciabefepelaaGreatUStayP
set_option maxRecDepth 100000
set_option maxHeartbeats 8000000
namespace Go.Proofs.YtmkciabefepelaaGreat
open Go.RowKit
variable {w:World}{c:NC}{s:SC}{n x:NT}{sl:Sl}{a:OpP}{E:Int}{r:(NT×Sl)×Int}
theorem kPx {P:Prop}(h:P:=by
 have vV:=hd iO;try have Ce:=hd yq
 try have dG:=hd hch
 try have HIS:=hd his
 try have nX:=hd aO
 have HN:=hd hn;have bn:=hd hs;have HO:=hd ho;have l8:=hd hf;have aA:=hd ta;clear hn hs ho hf ta iO;try clear yq
 try clear hch
 try clear his
 try clear aO
 obtain⟨W0,hW,hst⟩:=zDs w c s o;have HW:=hd hW;have HM:=hd hst;clear hW hst;go_enter Tryz.func13,Tryz.ntmps13
 go_upto_region 1 with fail
 rw[HW.o];clear HW;go_wp2_with(first
  |((with_reducible refine zC (ty:=26) (x:=.tmp 3) ?_);refine zB zD HM.o.st.v3 rfl _ rfl rfl rfl ?_)
  |((with_reducible refine zC (ty:=33) (x:=.tmp 4) ?_);refine zB zP HM.o.st.v4 rfl _ rfl rfl rfl ?_)
  |((with_reducible refine zC (ty:=35) (x:=.tmp 5) ?_);refine zG HM.o.st.v5 _ rfl rfl rfl ?_)
  |(go_at_call 40;refine Calls.mono (zIh (HN.o.later HM.o.st.below) (bn.o.later HM.o.st.below) (HO.o.later HM.o.st.below) l8.o aA.o vV.o) ?_;rintro e w1 ⟨rfl,b9⟩;have HM:=hd (HM.o.call b9);clear b9)
  |((with_reducible refine zC (ty:=3) (x:=.tmp 21) ?_);refine zE HM.o.st.v5 (j:=0) (v:=.int .i64 o.k) _ rfl rfl rfl rfl Tryz.underlying3 rfl ?_)
  |(go_at_call 41;refine Calls.mono (Ce.o _ HM.o.st.below) ?_;rintro e w2 ⟨cx,sx,rfl,h1,h2,b9⟩;have hlo:=HM.o.v8.lt;have HX:=hd h1;have HS:=hd h2;have HM:=hd (HM.o.call b9);clear b9 h1 h2;dsimp only)
  |((with_reducible refine zF (ty:=26) (x:=.tmp 10) ?_);refine zA zD (r0:=NC.nil.row) (r:=cx.row) (zAr w2).1 rfl rfl cx.one _ _ rfl rfl rfl rfl rfl ?_;intro W3 hv ho;have ag:=hd hv;have HI:=hd ((HI.o.call (zAr w2).2).off2 ho Kb);have HM:=hd (HM.o.call ((zAr w2).2.trans (ho.below Kl (zAr w2).2.size)));clear hv ho)
  |((with_reducible refine zF (ty:=26) (x:=.tmp 6) ?_);refine zA zD (r0:=NC.nil.row) (r:=cx.row) HM.o.v7 rfl rfl cx.one _ _ rfl rfl rfl rfl rfl ?_;intro W7 hv ho;have HM:=hd (HM.o.set7 (a':=cx) Kb Kb hv ho);have HX:=hd (HX.o.off ho Kb);have HS:=hd (HS.o.off ho Kb);clear hv ho)
  |((with_reducible refine zF (ty:=26) (x:=.tmp 6) ?_);refine zA zD (r0:=NC.nil.row) (r:=NC.nil.row) HM.o.v7 rfl rfl NC.nil.one _ _ rfl rfl rfl rfl rfl ?_;intro W7 hv ho;have HM:=hd (HM.o.set7 (a':=NC.nil) Kb Kb hv ho);clear hv ho)
  |((with_reducible refine zF (ty:=33) (x:=.tmp 7) ?_);refine zA zP (r0:=SC.nil.row) (r:=sx.row) HM.o.v8 rfl rfl sx.one _ _ rfl rfl rfl rfl rfl ?_;intro W8 hv ho;have HM:=hd (HM.o.set8 (t':=sx) Kb Kb hv ho);have HX:=hd (HX.o.off ho Kb);have HS:=hd (HS.o.off ho Kb);clear hv ho)
  |((with_reducible refine zF (ty:=33) (x:=.tmp 7) ?_);refine zA zP (r0:=SC.nil.row) (r:=SC.nil.row) HM.o.v8 rfl rfl SC.nil.one _ _ rfl rfl rfl rfl rfl ?_;intro W8 hv ho;have HM:=hd (HM.o.set8 (t':=SC.nil) Kb Kb hv ho);clear hv ho)
  |(go_at_call 42;refine Calls.mono (dG.o _ HM.o.st.below) ?_;rintro e w2 ⟨cx,rfl,h1,b9⟩;have hlo:=HM.o.v8.lt;have HX:=hd h1;have HI:=hd (zA5.refl w1.heap.size w2);have HM:=hd (HM.o.call b9);have dO:=HM.o.v8.lt;clear b9 h1;dsimp only)
  |((with_reducible refine zC (ty:=4) (x:=.tmp 42) ?_);refine zM HM.o.st.v4 (j:=0) (v:=.bool true) _ rfl rfl rfl (by simp only[SC.row,HIS.o];rfl) Tryz.underlying4 rfl ?_)
  |((with_reducible refine kH (ty:=33) (x:=.tmp 4) ?_);refine zK zP HM.o.st.v4 rfl _ rfl Ke rfl ?_)
  |((with_reducible refine kH (ty:=35) (x:=.tmp 5) ?_);refine zDq HM.o.st.v5 _ rfl Ke rfl ?_)
  |(go_at_call 43;refine Calls.mono (zVh (bn.o.later HM.o.st.below) l8.o (HO.o.later HM.o.st.below) aA.o nX.o) ?_;rintro e w4 ⟨rfl,b9⟩;have ag:=hd (ag.o.keep b9);have HI:=hd (HI.o.call b9);have HM:=hd (HM.o.call b9);clear b9)
  |fail)
 first
  |
   exact bodyPost_ret (zDt Tryz.results13 _ _ HM.o.v7 HM.o.v8 rfl rfl) rfl ⟨NC.nil,SC.nil,rfl,zAb _,zJ2 _,HM.o.st.below⟩
  |
   exact bodyPost_ret (zDt Tryz.results13 _ _ HM.o.v7 HM.o.v8 rfl rfl) rfl ⟨cx,sx,rfl,HX.o.now,HS.o.now,HM.o.st.below⟩
  |fail):P:=h
theorem kAu {o:OC}(hn:kS w c n)(hs:zB1 w s sl)(ho:OkA w o a)(hf:fewS sl=true)(ta:zAf a)(iO:zG7 n sl a=E)(hne:(E !=0)=true):Calls Tryz.prog 13 #[.agg c.row,.agg s.row,.agg o.row] w (zTd w ((zeroT,zeroS),E)):=by
 exact kPx
theorem kH4 {o:OC}(hn:kS w c n)(hs:zB1 w s sl)(ho:OkA w o a)(hf:fewS sl=true)(ta:zAf a)(iO:zG7 n sl a=0)(k9:(o.k==9)=true)(yq:∀W,Below w.heap.size w W->Calls Tryz.prog 41 #[.agg c.row,.agg s.row,.agg o.row] W (zVb W r)):Calls Tryz.prog 13 #[.agg c.row,.agg s.row,.agg o.row] w (zTd w r):=by
 exact kPx
theorem kH5 {o:OC}(hn:kS w c n)(hs:zB1 w s sl)(ho:OkA w o a)(hf:fewS sl=true)(ta:zAf a)(iO:zG7 n sl a=0)(k9:(o.k==9)=false)(hch:∀W,Below w.heap.size w W->Calls Tryz.prog 42 #[.agg c.row,.agg o.row] W (zAm W (x,E)))(hne:(E !=0)=true):Calls Tryz.prog 13 #[.agg c.row,.agg s.row,.agg o.row] w (zTd w ((zeroT,zeroS),E)):=by
 exact kPx
theorem kD6 {o:OC}(hn:kS w c n)(hs:zB1 w s sl)(ho:OkA w o a)(hf:fewS sl=true)(ta:zAf a)(iO:zG7 n sl a=0)(k9:(o.k==9)=false)(hch:∀W,Below w.heap.size w W->Calls Tryz.prog 42 #[.agg c.row,.agg o.row] W (zAm W (x,0)))(his:s.is=true)(aO:(zBl sl.a a&&zBl sl.f a)=false):Calls Tryz.prog 13 #[.agg c.row,.agg s.row,.agg o.row] w (zTd w ((zeroT,zeroS),10)):=by
 exact kPx
theorem kSd {P:Prop}(h:P:=by
 have vV:=hd iO;have dG:=hd hch;have HIS:=hd his;have pI:=hd bo;have lw:=hd hl2;try have nX:=hd aO
 have HN:=hd hn;have bn:=hd hs;have HO:=hd ho;have l8:=hd hf;have aA:=hd ta;clear hn hs ho hf ta iO hch his bo hl2;try clear aO
 obtain⟨W0,hW,hst⟩:=zDs w c s o;have HW:=hd hW;have HM:=hd hst;clear hW hst;go_enter Tryz.func13,Tryz.ntmps13
 go_upto_region 1 with fail
 rw[HW.o];clear HW;go_upto_region 11 with(first
  |((with_reducible refine zC (ty:=26) (x:=.tmp 3) ?_);refine zB zD HM.o.st.v3 rfl _ rfl rfl rfl ?_)
  |((with_reducible refine zC (ty:=33) (x:=.tmp 4) ?_);refine zB zP HM.o.st.v4 rfl _ rfl rfl rfl ?_)
  |((with_reducible refine zC (ty:=35) (x:=.tmp 5) ?_);refine zG HM.o.st.v5 _ rfl rfl rfl ?_)
  |(go_at_call 40;refine Calls.mono (zIh (HN.o.later HM.o.st.below) (bn.o.later HM.o.st.below) (HO.o.later HM.o.st.below) l8.o aA.o vV.o) ?_;rintro e w1 ⟨rfl,b9⟩;have HM:=hd (HM.o.call b9);clear b9)
  |((with_reducible refine zC (ty:=3) (x:=.tmp 21) ?_);refine zE HM.o.st.v5 (j:=0) (v:=.int .i64 o.k) _ rfl rfl rfl rfl Tryz.underlying3 rfl ?_)
  |(go_at_call 42;refine Calls.mono (dG.o _ HM.o.st.below) ?_;rintro e w2 ⟨cx,rfl,h1,b9⟩;have hlo:=HM.o.v8.lt;have HX:=hd h1;have HI:=hd (zA5.refl w1.heap.size w2);have HM:=hd (HM.o.call b9);have dO:=HM.o.v8.lt;clear b9 h1;dsimp only)
  |((with_reducible refine zF (ty:=26) (x:=.tmp 10) ?_);refine zA zD (r0:=NC.nil.row) (r:=cx.row) (zAr w2).1 rfl rfl cx.one _ _ rfl rfl rfl rfl rfl ?_;intro W3 hv ho;have ag:=hd hv;have HI:=hd ((HI.o.call (zAr w2).2).off2 ho Kb);have HM:=hd (HM.o.call ((zAr w2).2.trans (ho.below Kl (zAr w2).2.size)));clear hv ho)
  |((with_reducible refine zC (ty:=4) (x:=.tmp 42) ?_);refine zM HM.o.st.v4 (j:=0) (v:=.bool false) _ rfl rfl rfl (by simp only[SC.row,HIS.o];rfl) Tryz.underlying4 rfl ?_)
  |((with_reducible refine zC (ty:=4) (x:=.tmp 42) ?_);refine zM HM.o.st.v4 (j:=0) (v:=.bool true) _ rfl rfl rfl (by simp only[SC.row,HIS.o];rfl) Tryz.underlying4 rfl ?_)
  |((with_reducible refine kH (ty:=33) (x:=.tmp 4) ?_);refine zK zP HM.o.st.v4 rfl _ rfl Ke rfl ?_)
  |((with_reducible refine kH (ty:=35) (x:=.tmp 5) ?_);refine zDq HM.o.st.v5 _ rfl Ke rfl ?_)
  |(go_at_call 43;refine Calls.mono (zVh (bn.o.later HM.o.st.below) l8.o (HO.o.later HM.o.st.below) aA.o nX.o) ?_;rintro e w4 ⟨rfl,b9⟩;have ag:=hd (ag.o.keep b9);have HI:=hd (HI.o.call b9);have HM:=hd (HM.o.call b9);clear b9)
  |fail)
 obtain⟨g10,dK⟩:∃g,w2.heap.size=g:=⟨_,rfl⟩;have iP:w2.heap.size<=g10:=Kb;rw[dK]at ag;try rw[dK]
 clear dK;have HM:=hd (HM.o.call (Kk.drew));have ag:=hd (ag.o.keep (Kk.drew));have HI:=hd (HI.o.call (Kk.drew));refine jO (S:=fun W'=>jT 26 W' g10 cx.row/\jT 33 W' (w.heap.size+1) s.row) (z:=fun _=>false) Ka ?_;have ac:=hd (And.intro ag.o HM.o.st.v4);refine Kn 0 5 (.agg cx.row) (fun W9 aC=>?_) ac.o ?_
 ·exact zS zD aC.1 rfl _ rfl rfl
 simp only[Act.put,List.getElem_toArray,List.getElem_cons_zero,List.setIfInBounds_toArray,List.set_cons_succ,List.set_cons_zero];refine Kn 1 4 (.agg s.row) (fun W9 aC=>?_) ac.o ?_
 ·exact zS zP aC.2 rfl _ rfl rfl
 simp only[Act.put,List.getElem_toArray,List.getElem_cons_succ,List.getElem_cons_zero,List.setIfInBounds_toArray,List.set_cons_succ,List.set_cons_zero];refine Kp 2 3 (fun K hK=>?_);rw[if_pos Ka];go_simp;go_at_call 44
 refine(zKs (bn.o.later HM.o.st.below) pI.o lw.o).mono ?_;rintro e w5 ⟨sx,rfl,h1,b9⟩;have Cf:=HM.o.v8.lt;have HS:=hd h1;have HI:=hd (HI.o.call b9);have ag:=hd (ag.o.keep b9);have HM:=hd (HM.o.call b9);clear b9 h1 ac;have ac:=hd (And.intro ag.o HM.o.st.v4);refine hK _ _ (fun _=>ac.o) ?_;clear hK K;refine Kp 3 2 (fun K hK=>?_);rw[if_pos Ka];refine zY zKq HM.o.v7 _ _ rfl rfl 0 _ [.bool cx.lf,.slice cx.P cx.np cx.pc,.slice cx.X cx.nt cx.tc,.slice cx.K cx.nk cx.kc] rfl rfl rfl rfl (by intro u hu;simp at hu;rcases hu with rfl|rfl|rfl|rfl<;>rfl) Km ?_;intro W5 hv ho;have HM:=hd (HM.o.set7 (a':=cx) Kb Kb hv ho);have HI:=hd (HI.o.off2 ho Kb);have HS:=hd (HS.o.off ho Kb);have ag:=hd (ag.o.off ho Kb);clear hv ho;have ac:=hd (And.intro ag.o HM.o.st.v4);refine hK _ _ (fun _=>ac.o) ?_;clear hK K;refine Kp 4 1 (fun K hK=>?_);rw[if_pos Ka];refine zY zJu HM.o.v8 _ _ rfl rfl 0 _ [.bool sx.is,.slice sx.A sx.n sx.c,.int .i64 sx.x,.slice sx.B sx.m sx.d,.int .i64 sx.y] rfl rfl rfl rfl Kh Km ?_;intro W6 hv ho;have HM:=hd (HM.o.set8 (t':=sx) Kb Kb hv ho);have HI:=hd (HI.o.off2 ho Kb);have HS:=hd (HS.o.off ho Kb);have ag:=hd (ag.o.off ho Kb);clear hv ho;have ac:=hd (And.intro ag.o HM.o.st.v4);refine hK _ _ (fun _=>ac.o) ?_;clear hK K;refine Kp 5 0 (fun K hK=>?_);rw[if_pos Ka];go_simp;refine hK _ _ (fun _=>ac.o) (zAl Ka ?_);clear hK K;go_wp2_with fail
 exact bodyPost_ret (zDt Tryz.results13 _ _ HM.o.v7 HM.o.v8 rfl rfl) rfl ⟨cx,sx,rfl,(HX.o.high HI.o).now,HS.o.now,HM.o.st.below⟩):P:=h
theorem kAv {o:OC}(hn:kS w c n)(hs:zB1 w s sl)(ho:OkA w o a)(hf:fewS sl=true)(ta:zAf a)(iO:zG7 n sl a=0)(k9:(o.k==9)=false)(hch:∀W,Below w.heap.size w W->Calls Tryz.prog 42 #[.agg c.row,.agg o.row] W (zAm W (x,0)))(his:s.is=true)(bo:s.n<=1000)(hl2:s.m<=1000)(aO:(zBl sl.a a&&zBl sl.f a)=true):Calls Tryz.prog 13 #[.agg c.row,.agg s.row,.agg o.row] w (zTd w ((x,sl),0)):=by
 exact kSd
theorem zTt {o:OC}(hn:kS w c n)(hs:zB1 w s sl)(ho:OkA w o a)(hf:fewS sl=true)(ta:zAf a)(iO:zG7 n sl a=0)(k9:(o.k==9)=false)(hch:∀W,Below w.heap.size w W->Calls Tryz.prog 42 #[.agg c.row,.agg o.row] W (zAm W (x,0)))(his:s.is=false)(bo:s.n<=1000)(hl2:s.m<=1000):Calls Tryz.prog 13 #[.agg c.row,.agg s.row,.agg o.row] w (zTd w ((x,sl),0)):=by
 exact kSd
theorem kAz {s:Sl}(h1:s.a.1.length<=60)(h2:s.f.1.length<=60):fewS s=true:=by unfold fewS;rw[decide_eq_true h1,decide_eq_true h2];rfl
theorem zR4 (s t:Sl):zF7 s t=zF7 t s:=by
 cases h:zF7 s t with
 |true=>exact((zC4 t s).2 ((zC4 s t).1 h).symm).symm
 |false=>
  cases h2:zF7 t s with
  |false=>rfl
  |true=>rw[(zC4 s t).2 ((zC4 t s).1 h2).symm]at h;cases h
theorem zA4 {o:OC}(hn:kS w c n)(hs:zB1 w s sl)(ho:OkA w o a)(hr:zRb n sl a)(hE:jL n sl a=r):Calls Tryz.prog 13 #[.agg c.row,.agg s.row,.agg o.row] w (zTd w r):=by
 have ta:=hr.tiny;have hf:=hr.sel;have hff:=kAz ta.hfa ta.hff;have iw:=kAz ta.hga ta.hgf;obtain⟨l1,l2⟩:=hs.len hf;by_cases h0:zG7 n sl a=0
 case neg=>
  have:r=((zeroT,zeroS),zG7 n sl a):=by
   rw[<-hE];unfold jL;unfold zG7 at h0⊢;by_cases h1:zAd n=0
   case neg=>rw[if_pos h1,if_pos h1]
   have h1':¬zAd n≠0:=by simp[h1]
   simp only[if_neg h1']at h0⊢;by_cases h2:n.lf=true
   ·simp only[if_pos h2]
   simp only[if_neg h2]at h0⊢;by_cases h3:zE8 n sl=0
   case neg=>simp only[if_pos (show zE8 n sl≠0 from h3)]
   have h3':¬zE8 n sl≠0:=by simp[h3]
   simp only[if_neg h3']at h0⊢;rw[if_pos h0]
  rw[this];exact kAu hn hs ho hf ta rfl (by simpa using h0)
 have iO:=h0;unfold zG7 at h0;unfold jL at hE;by_cases h1:zAd n=0
 case neg=>rw[if_pos h1]at h0;exact absurd h0 h1
 rw[if_neg (by simp[h1])]at h0 hE;by_cases h2:n.lf=true
 ·rw[if_pos h2]at h0;cases h0
 rw[if_neg h2]at h0 hE;by_cases h3:zE8 n sl=0
 case neg=>rw[if_pos h3]at h0;exact absurd h0 h3
 rw[if_neg (by simp[h3])]at h0 hE;rw[if_neg (by simp[h0])]at hE;have hk:=(zOy h0).1;simp only[kindB,Bool.and_eq_true,decide_eq_true_iff]at hk;have hc:=zC1 h1;by_cases h9:a.k=9
 ·rw[if_pos h9]at hE;have k9:(o.k==9)=true:=by rw[<-ho.hk,h9];rfl
  refine kH4 hn hs ho hf ta iO k9 (fun W hb=>?_);by_cases h5:zF7 sl a.f=false
  ·rw[if_pos h5]at hE;subst hE;exact kAt (hn.later hb) (hs.later hb) (ho.later hb) hf ta hff (by rw[zR4];exact h5)
  rw[if_neg h5]at hE;have oP:zF7 a.f sl=true:=by rw[zR4];simpa using h5
  by_cases h6:zE8 n a.g=0
  ·rw[if_neg (by simp[h6])]at hE;subst hE;have hg:=ho.hg;exact zW4 (hn.later hb) (hs.later hb) (ho.later hb) hf ta hff iw oP h6 (by have:=ta.hga;have:=hg.hn;omega) (by have:=ta.hgf;have:=hg.hm;omega)
  ·rw[if_pos h6]at hE;subst hE;exact zW3 (hn.later hb) (hs.later hb) (ho.later hb) hf ta hff iw oP rfl (by simpa using h6)
 ·rw[if_neg h9]at hE;have k9:(o.k==9)=false:=by rw[<-ho.hk];simpa using h9
  obtain⟨⟨x,er⟩,hd⟩:∃r,doO n a=r:=⟨_,rfl⟩;have hch:=fun(W:World)(hb:Below w.heap.size w W)=>kAy (hn.later hb) (ho.later hb) ta hc (hr.size hc) hk.1 Kb hd;rw[hd]at hE;by_cases h7:er=0
  case neg=>
   rw[if_pos h7]at hE;subst hE;exact kH5 hn hs ho hf ta iO k9 hch (by simpa using h7)
  subst h7;rw[if_neg Kc]at hE;have e8:=hs.his;cases hi:sl.is with
  |false=>
   rw[if_neg (by simp[hi])]at hE;subst hE;exact zTt hn hs ho hf ta iO k9 hch (by rw[<-e8];exact hi) Kb Kb
  |true=>
   cases hst:zBl sl.a a&&zBl sl.f a with
   |false=>
    rw[if_pos (by rw[hi,hst];rfl)]at hE;subst hE;exact kD6 hn hs ho hf ta iO k9 hch (by rw[<-e8];exact hi) hst
   |true=>
    rw[if_neg (by rw[hi,hst];decide)]at hE;subst hE;exact kAv hn hs ho hf ta iO k9 hch (by rw[<-e8];exact hi) Kb Kb hst
theorem zKm {o:OC}(hn:kS w c n)(hs:zB1 w s sl)(ho:OkA w o a)(hr:zRb n sl a)(hE:(jL n sl a).2=E):Calls Tryz.prog 17 #[.agg c.row,.agg s.row,.agg o.row] w (jA (.int .i64 E) w):=by
 obtain⟨⟨rp,er⟩,hap⟩:∃r,jL n sl a=r:=⟨_,rfl⟩;rw[hap]at hE;have he:er=E:=hE;subst he;have HN:=hd hn;have bn:=hd hs;have HO:=hd ho;have bH:=hd hr;have oM:=hd hap;clear hn hs ho hr hap hE;obtain⟨W0,hW,hst⟩:=kN w c s o;have HW:=hd hW;have HS:=hd hst;clear hW hst;go_enter Tryz.func17,Tryz.ntmps17
 go_upto_region 1 with fail
 rw[HW.o];clear HW;go_wp2_with(first
  |((with_reducible refine zC (ty:=26) (x:=.tmp 3) ?_);refine zB zD HS.o.v3 rfl _ rfl rfl rfl ?_)
  |((with_reducible refine zC (ty:=33) (x:=.tmp 4) ?_);refine zB zP HS.o.v4 rfl _ rfl rfl rfl ?_)
  |((with_reducible refine zC (ty:=35) (x:=.tmp 5) ?_);refine zG HS.o.v5 _ rfl rfl rfl ?_)
  |(go_at_call 13;refine Calls.mono (zA4 (HN.o.later HS.o.below) (bn.o.later HS.o.below) (HO.o.later HS.o.below) bH.o oM.o) ?_;rintro e w3 ⟨ca,ct,rfl,gm,hsa,b9⟩;have HS:=hd (HS.o.call b9);clear b9 gm hsa;dsimp only)
  |((with_reducible refine zF (ty:=26) (x:=.tmp 7) ?_);refine zA zD (r:=ca.row) (zDj w3) rfl rfl ca.one _ _ rfl rfl rfl rfl rfl ?_;intro W7 cM aW;have HT:=hd (zDk aW);clear cM aW)
  |((with_reducible refine zF (ty:=33) (x:=.tmp 8) ?_);refine zA zP (r:=ct.row) HT.o.2 rfl rfl ct.one _ _ rfl rfl rfl rfl rfl ?_;intro W8 cX cB;have cS:=hd (zDl HT.o.1 cB);clear cX cB))
 go_ret
 exact⟨rfl,(HS.o.call cS.o).below⟩
