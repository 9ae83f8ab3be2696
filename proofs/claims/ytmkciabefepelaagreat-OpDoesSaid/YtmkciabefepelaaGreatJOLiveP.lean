import Derived.Test.YtmkciabefepelaaGreatORApply
set_option maxRecDepth 100000
set_option maxHeartbeats 8000000
namespace Go.Proofs.YtmkciabefepelaaGreat
open Go.RowKit
variable {w:World}{b c1 cp g1 gp:Nat}{n:NT}{s:SC}{c:NC}{sl:Sl}{a:OpP}
def kK9 :NT:=elT [lfT [97,98,99]]
def zJ3 :OpP:=⟨4,[0],[],1,zeroT,[],[],[],zeroS,zeroS⟩
def kFs (b:Nat):OC:=⟨4,some ⟨b,0,none⟩,1,1,none,0,0,1,false,none,0,0,none,0,0,none,0,0,none,0,0,none,0,0,none,0,0,false,none,0,0,0,none,0,0,0,false,none,0,0,0,none,0,0,0⟩
theorem kEg :InI [0]:=fun x hx=>by
 obtain rfl:x=0:=by simpa using hx
 decide
theorem kEh (hb:b<w.heap.size)(hc:w.cell? ⟨b,0,none⟩=some (.int .i64 0)):OkA w (kFs b) zJ3:=
 (((OkA.zero w).setK (k:=4) (by unfold zFf;omega)).setQ (A:=some ⟨b,0,none⟩) (n:=1) (d:=1) (l:=[0]) rfl Kb Kb (kHt hb hc) kEg).setZ 1
theorem zXb :zCx zJ3=0:=by
 rw[zL8];have h1:kindB zJ3.k=true:=by decide
 have h2:eqO (fieldsO zJ3) zJ3=true:=zSw rfl;rw[h1,h2];rfl
theorem kEi :doO kK9 zJ3=(elT [lfT [97],lfT [98,99]],0):=by
 unfold doO;rw[if_neg Kd,if_neg Kd,if_neg Kd,if_pos (show zJ3.k=4 from rfl)];kernel_rfl
theorem zTv :jL kK9 zeroS zJ3=((elT [lfT [97],lfT [98,99]],zeroS),0):=
 zQ8 (zO5 Ka Kd) rfl rfl zXb Kd kEi (fun h=>by cases h)
theorem zTw :zRb kK9 zeroS zJ3:=⟨by decide,⟨by decide,by decide,by decide,by decide,by decide,by decide,by decide,by decide,by decide⟩,fun _=>by decide,fun _=>by decide⟩
theorem kA0 :Conv.runesFrom {data:=#[97,98,99]} (ByteArray.size {data:=#[97,98,99]}) 0 #[]=(rv [97,98,99]).toArray:=Ka
theorem kLa (cT:1<=cp)(hc1:3<=c1)(hp:PL w w.heap.size (some ⟨gp,0,none⟩) [(tyKey,{data:=#[112]})])(h1:VL w w.heap.size (some ⟨g1,0,none⟩) (rv [97,98,99]))(hb:b<w.heap.size)
  (hc:∀j u,#[Value.bool true,.slice none 0 0,.slice (some ⟨g1,0,none⟩) 3 c1,.slice none 0 0][j]? =some u->w.cell? ⟨b,j,none⟩=some u):
  zV 2 w w.heap.size (.agg #[.bool false,.slice (some ⟨gp,0,none⟩) 1 cp,.slice none 0 0,.slice (some ⟨b,0,none⟩) 1 1]) kK9:=by
 refine zV.shut rfl rfl rfl hp (VL.nil _ _ _) (kKs cT Kd Kd) (fun k m hk=>?_);match k,hk with
 |0,hk=>
  simp at hk;subst hk;exact⟨b,0,_,rfl,hb,zS9 rfl Kc hc1 h1,_,_,_,_,rfl,hc 0 _ rfl,hc 1 _ rfl,hc 2 _ rfl,hc 3 _ rfl⟩
 |k+1,hk=>simp at hk
def NC.abc (gp cp b:Nat):NC:=⟨false,some ⟨gp,0,none⟩,1,cp,none,0,0,some ⟨b,0,none⟩,1,1⟩
def SC.none_ :SC:=⟨false,none,0,0,0,none,0,0,0⟩
theorem kEj (w:World):zB1 w SC.none_ zeroS:=zIi.zero w
theorem kIb (cT:1<=cp)(hc1:3<=c1)(hp:PL w w.heap.size (some ⟨gp,0,none⟩) [(tyKey,{data:=#[112]})])(h1:VL w w.heap.size (some ⟨g1,0,none⟩) (rv [97,98,99]))(hb:b<w.heap.size)
  (hc:∀j u,#[Value.bool true,.slice none 0 0,.slice (some ⟨g1,0,none⟩) 3 c1,.slice none 0 0][j]? =some u->w.cell? ⟨b,j,none⟩=some u):kS w (NC.abc gp cp b) kK9:=⟨2,kLa cT hc1 hp h1 hb hc⟩
theorem jG (w:World):Calls Tryz.prog 10 #[] w (jA (.bool true) w):=by
 have HF:=hd zTw;have HE:=hd zTv;go_enter Tryz.func10,Tryz.ntmps10
 go_upto_region 2 with(first
  |(go_at_call 35;refine(zO4 {data:=#[97,98,99]} [97,98,99] 3 rfl kA0 Kb _).mono ?_;rintro e w1 ⟨g1,c1,rfl,v1,b1,hc1⟩;have V1:=hd v1;have B1:=hd b1;clear v1 b1)
  |(go_at_call 34;refine(kFh _ _ _ _).mono ?_;rintro e w4 ⟨gp,cp,rfl,v3,b3,cT⟩;have B3:=hd (zEu b3);have HN:=hd (kIb cT hc1 v3 (V1.o.later (zEu b3)) (b:=w1.heap.size) (kJ9 b3) (fun j u hj=>(b3.cell Kc).trans ((World.cell?_alloc_at _ _ _ _ rfl).trans hj)));clear v3 b3 cT hc1 V1)
  |(go_at_call 13;refine Calls.mono (zA4 (c:=NC.abc gp cp w1.heap.size) (s:=SC.none_) (o:=kFs w4.heap.size) (HN.o.later (zQ w4 _)) (kEj _) (kEh Kc ((World.cell?_alloc_at _ _ _ _ rfl).trans rfl)) HF.o HE.o) ?_;rintro e w5 ⟨ca,ct,rfl,gm,hsa,b9⟩;have xH:=hd gm;have B5:=hd (zEu b9);clear b9 gm hsa HN;dsimp only)
  |((with_reducible refine zF (ty:=26) (x:=.tmp 1) ?_);refine zA zD (r:=ca.row) (zDj w5) rfl rfl ca.one _ _ rfl rfl rfl rfl rfl ?_;intro W7 cM aW;have eF:=hd cM;have HT:=hd (zDk aW);clear cM aW)
  |((with_reducible refine zF (ty:=33) (x:=.tmp 2) ?_);refine zA zP (r:=ct.row) HT.o.2 rfl rfl ct.one _ _ rfl rfl rfl rfl rfl ?_;intro W0 cX cB;have cS:=hd (zDl HT.o.1 cB);have eF:=hd (eF.o.off cB Kb);clear cX cB))
 have aj:=hd (show Below w.heap.size w W0 from zI (zI (zI B1.o B3.o) B5.o) cS.o);have mD:=hd (xH.o.later cS.o);clear xH B1 B3 B5 cS HT HF HE;obtain⟨g,hg⟩:∃g,w5.heap.size=g:=⟨_,rfl⟩;rw[hg]at eF;try rw[hg]
 clear hg;have dS:=hd (show∀W,Below W0.heap.size W0 W->(Below W0.heap.size W0 W/\W.cell? ⟨g,0,none⟩=some (.bool ca.lf)/\W.cell? ⟨g,1,none⟩=some (.slice ca.P ca.np ca.pc)/\W.cell? ⟨g,2,none⟩=some (.slice ca.X ca.nt ca.tc)/\W.cell? ⟨g,3,none⟩=some (.slice ca.K ca.nk ca.kc))from fun W h=>⟨h,(eF.o.keep h).cell 0 _ rfl,(eF.o.keep h).cell 1 _ rfl,(eF.o.keep h).cell 2 _ rfl,(eF.o.keep h).cell 3 _ rfl⟩);have oz:=hd (dS.o W0.drew Kk.drew);clear eF;go_region_held3(fun W=>Below W0.heap.size W0 W/\W.cell? ⟨g,0,none⟩=some (.bool ca.lf)/\W.cell? ⟨g,1,none⟩=some (.slice ca.P ca.np ca.pc)/\W.cell? ⟨g,2,none⟩=some (.slice ca.X ca.nt ca.tc)/\W.cell? ⟨g,3,none⟩=some (.slice ca.K ca.nk ca.kc))
  (first
   |(with_reducible exact uD)
   |(with_reducible exact oH)
   |(with_reducible exact uE)
   |(with_reducible exact uF)
   |(with_reducible exact qU)
   |(with_reducible exact oz.o))
  (first
   |(go_at_call 15;refine Calls.mono (zHo (c':=⟨false,some ⟨xI,0,none⟩,1,xJ,none,0,0,some ⟨w7.heap.size,0,none⟩,2,2⟩) (mD.o.later rH.o) AX.o (zD8 _)) ?_;rintro e w9 ⟨rfl,b9⟩;have oI:=zI rH.o b9;have uD:=dS.o w9 oI;have uG:=hd oI;clear oI b9)
   |(go_at_call 34;refine(kFh _ _ _ _).mono ?_;rintro e w8 ⟨xI,xJ,rfl,v8,b8,rI⟩;have oJ:=rJ.o.trans (b8.mono rJ.o.size);have AX:=hd (show kS w8 ⟨false,some ⟨xI,0,none⟩,1,xJ,none,0,0,some ⟨w7.heap.size,0,none⟩,2,2⟩ (elT [lfT [97],lfT [98,99]])from⟨2,kG7 rI mE.o AY.o v8 ((eV.o.later qm.o).later (zEu b8)) (eF.o.later (zEu b8)) (b:=w7.heap.size) (kJ9 b8) (fun j u hj=>(b8.cell Kc).trans ((World.cell?_alloc_at _ _ _ _ rfl).trans hj))⟩);have oH:=dS.o w8 oJ;have rH:=hd oJ;clear oJ b8 v8 rI)
   |(have _g:=eV;go_at_call 35;refine(zO4 {data:=#[98,99]} [98,99] 2 rfl kCz Kb _).mono ?_;rintro e w7 ⟨g7,c7,rfl,v7,b7,xK⟩;have mF:=zI uH.o b7;have uF:=dS.o w7 mF;have oK:=mF.alloc mF.size (.cells #[.bool true,.slice none 0 0,.slice (some ⟨g6,0,none⟩) 1 c6,.slice none 0 0,.bool true,.slice none 0 0,.slice (some ⟨g7,0,none⟩) 2 c7,.slice none 0 0] 26);have uE:=dS.o (w7.alloc (.cells #[.bool true,.slice none 0 0,.slice (some ⟨g6,0,none⟩) 1 c6,.slice none 0 0,.bool true,.slice none 0 0,.slice (some ⟨g7,0,none⟩) 2 c7,.slice none 0 0] 26)) oK;have rJ:=hd oK;have eF:=hd v7;have AY:=hd xK;have qm:=hd b7;clear mF oK b7 v7 xK)
   |(go_at_call 35;refine(zO4 {data:=#[97]} [97] 1 rfl kG6 Kb _).mono ?_;rintro e w6 ⟨g6,c6,rfl,v6,b6,xL⟩;have oL:Below W0.heap.size W0 w6:=Kk.drew.trans b6;have qU:=dS.o w6 oL;have uH:=hd oL;have eV:=hd v6;have mE:=hd xL;clear oL b6 v6 xL))
 go_wp2
 go_ret
 exact⟨rfl,aj.o.trans (uG.o.mono aj.o.size)⟩
theorem zPs {s:Sl}{o:OpP}{r:NT×Sl}(h:jL n s o=(r,0))(hr:zRb n s o)(h1:zAh n=0->sizeT n<=120)(h2:zAh o.n=0->sizeT o.n<=100):zTc n o:=by
 obtain⟨g1,g2,g3,g4,g5⟩:=zH8 h;have hc:=zC1 g1;refine⟨zN9 (by have:=h1 hc;omega),by have:=h1 hc;omega,fun e=>?_,by have:=hr.tiny.hx;omega⟩;rcases g5 with⟨e9,_⟩|⟨k1,k8,hd,_⟩
 ·omega
 ·rw[kKb e]at hd;have:=h2 (zC1 (zCd hd).1);omega
theorem zPa {a:NT}{s t:Sl}{o:OpP}(h:jL n s o=((a,t),0))(hm:zTc n o)(hs:fewS s=true)(ho:zT3 o=true):fewS t=true:=by
 have:=(zD0 hm h).2.2.2.1;rw[this];split
 ·simp only[zT3,Bool.and_eq_true]at ho;exact ho.1.1.2
 ·exact hs
theorem kVy {o:OC}(hn:kS w c n)(hs:zB1 w s sl)(ho:OkA w o a)(hf:zB8 n sl a=false):Calls Tryz.prog 3 #[.agg c.row,.agg s.row,.agg o.row] w (jW w):=by
 have HN:=hd hn;have bn:=hd hs;have HO:=hd ho;have HF:=hd hf;clear hn hs ho hf;obtain⟨W0,hW,hst⟩:=kN w c s o;have HW:=hd hW;have HS:=hd hst;clear hW hst;go_enter Tryz.func3,Tryz.ntmps3
 go_upto_region 1 with fail
 rw[HW.o];go_wp2_with(first
  |((with_reducible refine zC (ty:=26) (x:=.tmp 3) ?_);refine zB zD HS.o.v3 rfl _ rfl rfl rfl ?_)
  |((with_reducible refine zC (ty:=33) (x:=.tmp 4) ?_);refine zB zP HS.o.v4 rfl _ rfl rfl rfl ?_)
  |((with_reducible refine zC (ty:=35) (x:=.tmp 5) ?_);refine zG HS.o.v5 _ rfl rfl rfl ?_)
  |(go_at_call 10;refine Calls.mono (jG _) ?_;rintro e w1 ⟨rfl,b9⟩;have HS:=hd (HS.o.call b9);clear b9)
  |(go_at_call 11;refine Calls.mono (zAq (HN.o.later HS.o.below) (bn.o.later HS.o.below) (HO.o.later HS.o.below) HF.o) ?_;rintro e w2 ⟨rfl,b9⟩;have HS:=hd (HS.o.call b9);clear b9))
 go_ret
 exact⟨rfl,HS.o.below⟩
theorem kUv {o:OC}{x:NT}{tl:Sl}{er:Int}(hn:kS w c n)(hs:zB1 w s sl)(ho:OkA w o a)(hf:zB8 n sl a=true)(hap:jL n sl a=((x,tl),er))(hft:fewS tl=true):Calls Tryz.prog 3 #[.agg c.row,.agg s.row,.agg o.row] w (jW w):=by
 have HN:=hd hn;have bn:=hd hs;have HO:=hd ho;have HF:=hd hf;have bH:=hd (jE hf hn ho).1;have oM:=hd hap;have qo:=hd hft;clear hn hs ho hf hap hft;obtain⟨W0,hW,hst⟩:=kN w c s o;have HW:=hd hW;have HS:=hd hst;clear hW hst;go_enter Tryz.func3,Tryz.ntmps3
 go_upto_region 1 with fail
 rw[HW.o];go_upto_region 6 with(first
  |((with_reducible refine zC (ty:=26) (x:=.tmp 3) ?_);refine zB zD HS.o.v3 rfl _ rfl rfl rfl ?_)
  |((with_reducible refine zC (ty:=33) (x:=.tmp 4) ?_);refine zB zP HS.o.v4 rfl _ rfl rfl rfl ?_)
  |((with_reducible refine zC (ty:=35) (x:=.tmp 5) ?_);refine zG HS.o.v5 _ rfl rfl rfl ?_)
  |(go_at_call 10;refine Calls.mono (jG _) ?_;rintro e w1 ⟨rfl,b9⟩;have HS:=hd (HS.o.call b9);clear b9)
  |(go_at_call 11;refine Calls.mono (zAq (HN.o.later HS.o.below) (bn.o.later HS.o.below) (HO.o.later HS.o.below) HF.o) ?_;rintro e w2 ⟨rfl,b9⟩;have HS:=hd (HS.o.call b9);clear b9)
  |(go_at_call 12;refine Calls.mono (kTy (HN.o.later HS.o.below)) ?_;rintro e w3 ⟨cw,rfl,h1,b9⟩;have HS:=hd (HS.o.call b9);have dV:=hd h1;clear b9 h1)
  |((with_reducible refine zF (ty:=26) (x:=.tmp 7) ?_);refine zA zD (r:=cw.row) (jT.new w3 26 #[.bool false,.slice none 0 0,.slice none 0 0,.slice none 0 0]) rfl rfl cw.one _ _ rfl rfl rfl rfl rfl ?_;intro W6 cM aW;have jy:=hd cM;have bw:=hd (zN (zQ w3 (.cells #[.bool false,.slice none 0 0,.slice none 0 0,.slice none 0 0] 26)) aW Kl);clear cM aW))
 have HS:=hd (HS.o.call bw.o);have dV:=hd (dV.o.later bw.o);clear bw;obtain⟨g7,oN⟩:∃g,w3.heap.size=g:=⟨_,rfl⟩;rw[oN]at jy;try rw[oN]
 clear oN;go_upto_region 7 with(first
  |((with_reducible refine zC (ty:=26) (x:=.tmp 3) ?_);refine zB zD HS.o.v3 rfl _ rfl rfl rfl ?_)
  |((with_reducible refine zC (ty:=33) (x:=.tmp 4) ?_);refine zB zP HS.o.v4 rfl _ rfl rfl rfl ?_)
  |((with_reducible refine zC (ty:=35) (x:=.tmp 5) ?_);refine zG HS.o.v5 _ rfl rfl rfl ?_)
  |(go_at_call 13;refine Calls.mono (zA4 (HN.o.later HS.o.below) (bn.o.later HS.o.below) (HO.o.later HS.o.below) bH.o oM.o) ?_;rintro e w4 ⟨ca,ct,rfl,h1,h2,b9⟩;have aj:=hd b9;have kr:=hd h1;have i9:=hd h2;clear b9 h1 h2;dsimp only)
  |((with_reducible refine zF (ty:=26) (x:=.tmp 8) ?_);refine zA zD (r:=ca.row) (zDj w4) rfl rfl ca.one _ _ rfl rfl rfl rfl rfl ?_;intro W7 cM aW;have eF:=hd cM;have HT:=hd (zDk aW);clear cM aW)
  |((with_reducible refine zF (ty:=33) (x:=.tmp 9) ?_);refine zA zP (r:=ct.row) HT.o.2 rfl rfl ct.one _ _ rfl rfl rfl rfl rfl ?_;intro W9 cX cB;have iV:=hd cX;have cS:=hd (zDl HT.o.1 cB);have cH:=hd (eF.o.off cB Kb);clear cX cB eF HT))
 have bw:=hd (zI aj.o cS.o);have HS:=hd (HS.o.call bw.o);have dV:=hd (dV.o.later bw.o);have jy:=hd (jy.o.keep bw.o);have kr:=hd (kr.o.later cS.o);have i9:=hd (i9.o.later cS.o);clear bw cS aj;obtain⟨g8,gW⟩:∃g,w4.heap.size=g:=⟨_,rfl⟩;rw[gW]at cH;rw[gW]at iV;try rw[gW]
 clear gW;go_upto_region 8 with(first
  |((with_reducible refine zC (ty:=26) (x:=.tmp 3) ?_);refine zB zD HS.o.v3 rfl _ rfl rfl rfl ?_)
  |((with_reducible refine zC (ty:=33) (x:=.tmp 4) ?_);refine zB zP HS.o.v4 rfl _ rfl rfl rfl ?_)
  |((with_reducible refine zC (ty:=35) (x:=.tmp 5) ?_);refine zG HS.o.v5 _ rfl rfl rfl ?_)
  |(go_at_call 14;refine Calls.mono (kUb (HN.o.later HS.o.below) (bn.o.later HS.o.below) (HO.o.later HS.o.below) bH.o oM.o) ?_;rintro e w5 ⟨cb,cu,rfl,h1,h2,b9⟩;have aj:=hd b9;have oO:=hd h1;have ku:=hd h2;clear b9 h1 h2;dsimp only)
  |((with_reducible refine zF (ty:=26) (x:=.tmp 11) ?_);refine zA zD (r:=cb.row) (zDj w5) rfl rfl cb.one _ _ rfl rfl rfl rfl rfl ?_;intro W7 cM aW;have eF:=hd cM;have HT:=hd (zDk aW);clear cM aW)
  |((with_reducible refine zF (ty:=33) (x:=.tmp 12) ?_);refine zA zP (r:=cu.row) HT.o.2 rfl rfl cu.one _ _ rfl rfl rfl rfl rfl ?_;intro CQ cX cB;have cj:=hd cX;have cS:=hd (zDl HT.o.1 cB);have dB:=hd (eF.o.off cB Kb);clear cX cB eF HT))
 have bw:=hd (zI aj.o cS.o);have HS:=hd (HS.o.call bw.o);have dV:=hd (dV.o.later bw.o);have jy:=hd (jy.o.keep bw.o);have cH:=hd (cH.o.keep bw.o);have iV:=hd (iV.o.keep bw.o);have kr:=hd (kr.o.later bw.o);have i9:=hd (i9.o.later bw.o);have oO:=hd (oO.o.later cS.o);have ku:=hd (ku.o.later cS.o);clear bw cS aj;obtain⟨g11,mG⟩:∃g,w5.heap.size=g:=⟨_,rfl⟩;rw[mG]at dB;rw[mG]at cj;try rw[mG]
 clear mG;have gX:=hd (zD8 x);have AZ:=hd (zD8 n);have ac:=hd ((zC4 tl tl).2 rfl);have CR:(er==er)=true:=by simp
 go_wp2_with(first
  |((with_reducible refine zC (ty:=26) (x:=.tmp 8) ?_);refine zB zD cH.o rfl _ rfl rfl rfl ?_)
  |((with_reducible refine zC (ty:=26) (x:=.tmp 11) ?_);refine zB zD dB.o rfl _ rfl rfl rfl ?_)
  |((with_reducible refine kH (ty:=26) (x:=.tmp 3) ?_);refine zK zD HS.o.v3 rfl _ rfl Ka rfl ?_)
  |((with_reducible refine kH (ty:=33) (x:=.tmp 4) ?_);refine zK zP HS.o.v4 rfl _ rfl Ka rfl ?_)
  |((with_reducible refine kH (ty:=35) (x:=.tmp 5) ?_);refine zDq HS.o.v5 _ rfl Ka rfl ?_)
  |((with_reducible refine kH (ty:=33) (x:=.tmp 9) ?_);refine zK zP iV.o rfl _ rfl Ka rfl ?_)
  |((with_reducible refine kH (ty:=33) (x:=.tmp 12) ?_);refine zK zP cj.o rfl _ rfl Ka rfl ?_)
  |((with_reducible refine kH (ty:=26) (x:=.tmp 7) ?_);refine zK zD jy.o rfl _ rfl Ka rfl ?_)
  |(have _g:=cH;go_at_call 15;refine Calls.mono (zHo kr.o oO.o gX.o) ?_;rintro e CS ⟨rfl,b9⟩;have HS:=hd (HS.o.call b9);have iV:=hd (iV.o.keep b9);have cj:=hd (cj.o.keep b9);have jy:=hd (jy.o.keep b9);have i9:=hd (i9.o.later b9);have ku:=hd (ku.o.later b9);have dV:=hd (dV.o.later b9);clear b9 cH)
  |(go_at_call 16;refine Calls.mono (zZu i9.o ku.o qo.o qo.o ac.o) ?_;rintro e CU ⟨rfl,b9⟩;have HS:=hd (HS.o.call b9);have jy:=hd (jy.o.keep b9);have dV:=hd (dV.o.later b9);clear b9)
  |(go_at_call 17;refine Calls.mono (zKm (HN.o.later HS.o.below) (bn.o.later HS.o.below) (HO.o.later HS.o.below) bH.o (E:=er) (by rw[oM.o])) ?_;rintro e CV ⟨rfl,b9⟩;have HS:=hd (HS.o.call b9);have jy:=hd (jy.o.keep b9);have dV:=hd (dV.o.later b9);clear b9)
  |(go_at_call 15;refine Calls.mono (zHo (HN.o.later HS.o.below) dV.o AZ.o) ?_;rintro e CW ⟨rfl,b9⟩;have HS:=hd (HS.o.call b9);clear b9))
 go_ret
 exact⟨rfl,HS.o.below⟩
theorem kTn {o:OC}(hn:kS w c n)(hs:zB1 w s sl)(ho:OkA w o a):Calls Tryz.prog 3 #[.agg c.row,.agg s.row,.agg o.row] w (jW w):=by
 cases hf:zB8 n sl a
 ·exact kVy hn hs ho hf
 obtain⟨hr,e1,e2⟩:=jE hf hn ho;obtain⟨⟨⟨x,tl⟩,er⟩,hap⟩:∃r,jL n sl a=r:=⟨_,rfl⟩;refine kUv hn hs ho hf hap ?_;by_cases h0:er=0
 ·subst h0;have hfo:zT3 a=true:=by unfold zB8 at hf;rw[Bool.and_eq_true]at hf;exact hf.2
  exact zPa hap (zPs hap hr e1 e2) hr.sel hfo
 ·have hz:=zJk (n:=n) (s:=sl) (o:=a) (by rw[hap];exact h0);rw[hap]at hz;dsimp only at hz;rw[show tl=zeroS from congrArg Prod.snd hz];rfl
