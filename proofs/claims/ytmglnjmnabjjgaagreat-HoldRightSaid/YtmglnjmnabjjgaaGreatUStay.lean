import Derived.Test.YtmglnjmnabjjgaaGreatJYMove2
set_option maxRecDepth 100000
namespace Go.Proofs.YtmglnjmnabjjgaaGreat
open Go.RowKit
structure V2 (w:World)(s:SC)(o:OC)(W:World):Prop where
 v2:jT 33 W w.heap.size s.row
 v3:jR W (w.heap.size+1) o
 below:Below w.heap.size w W
theorem V2.call {w W W':World}{s:SC}{o:OC}(h:V2 w s o W)(hb:Below W.heap.size W W'):V2 w s o W':=⟨h.v2.keep hb,h.v3.keep hb,zI h.below hb⟩
theorem kIy (w:World)(s:SC)(o:OC):∃W0,(w.alloc (.cells s.row 33)).alloc (.cells o.row 35)=W0/\V2 w s o W0:=by
 have e1:(w.alloc (.cells s.row 33)).heap.size=w.heap.size+1:=by simp
 have h1:=(jT.new w 33 s.row).alloc (.cells o.row 35);have h2:=jR.new (w.alloc (.cells s.row 33)) o;rw[e1]at h2;exact⟨_,rfl,h1,h2,(Kk.alloc Kl _).alloc Kc _⟩
theorem kOi {P:Prop}(h:P:=by
 go_wp2_with(first
  |((with_reducible refine zC (ty:=29) (x:=.tmp 36) ?_);refine kK zW (r:=PC.row (PC.mk s.B s.m s.d s.y)) jv.o rfl _ rfl rfl rfl ?_)
  |((with_reducible refine zC (ty:=29) (x:=.tmp 36) ?_);refine kK zW (r:=PC.row (PC.mk s.A s.n s.c s.x)) jv.o rfl _ rfl rfl rfl ?_)
  |((with_reducible refine zC (ty:=29) (x:=.tmp 10) ?_);refine zB zW ae.o rfl _ rfl rfl rfl ?_)
  |((with_reducible refine zF (ty:=29) (x:=.tmp 10) ?_);refine zA zW (r:=PC.row (PC.mk s.B s.m s.d s.y)) (jT.new wr 29 #[.slice none 0 0,.int .i64 0]) rfl rfl (PC.one _) _ _ rfl rfl rfl rfl rfl ?_;intro W6 hv ay;have ae:=hd hv;have ax:=hd (zN (zQ wr (.cells #[.slice none 0 0,.int .i64 0] 29)) ay Kl);have HM:=hd (HM.o.call ax.o);have bw:=hd (bw.o.later ax.o);have aD:=hd (aD.o.later ax.o);have bE:=hd (bE.o.keep ax.o);have az:=hd (zI az.o ax.o);clear hv ay ax)
  |((with_reducible refine zF (ty:=29) (x:=.tmp 10) ?_);refine zA zW (r:=PC.row (PC.mk s.A s.n s.c s.x)) (jT.new wr 29 #[.slice none 0 0,.int .i64 0]) rfl rfl (PC.one _) _ _ rfl rfl rfl rfl rfl ?_;intro W6 hv ay;have ae:=hd hv;have ax:=hd (zN (zQ wr (.cells #[.slice none 0 0,.int .i64 0] 29)) ay Kl);have HM:=hd (HM.o.call ax.o);have bw:=hd (bw.o.later ax.o);have aD:=hd (aD.o.later ax.o);have bE:=hd (bE.o.keep ax.o);have az:=hd (zI az.o ax.o);clear hv ay ax)
  |((with_reducible refine zF (ty:=29) (x:=.tmp 11) ?_);refine zA zW (r:=c11.row) (jT.new w7 29 #[.slice none 0 0,.int .i64 0]) rfl rfl (PC.one _) _ _ rfl rfl rfl rfl rfl ?_;intro W8 hv ay;have bT:=hd hv;have ax:=hd (zN (zQ w7 (.cells #[.slice none 0 0,.int .i64 0] 29)) ay Kl);have HM:=hd (HM.o.call ax.o);have aD:=hd (aD.o.later ax.o);have HQ:=hd (HQ.o.later ax.o);have ae:=hd (ae.o.keep ax.o);have az:=hd (zI az.o ax.o);clear hv ay ax)
  |((with_reducible refine zC (ty:=35) (x:=.tmp 8) ?_);refine zG bE.o _ rfl rfl rfl ?_)
  |(go_at_call 20;refine Calls.mono (zB4 aD.o bw.o qq.o cX.o vF.o) ?_;rintro e w7 ⟨c11,rfl,h1,b9⟩;have HQ:=hd h1;have HM:=hd (HM.o.call b9);have ae:=hd (ae.o.keep b9);have aD:=hd (aD.o.later b9);have az:=hd (zI az.o b9);clear b9 h1;dsimp only)
  |(go_at_call 20;refine Calls.mono (zB4 aD.o bw.o qq.o fH.o vG.o) ?_;rintro e w7 ⟨c11,rfl,h1,b9⟩;have HQ:=hd h1;have HM:=hd (HM.o.call b9);have ae:=hd (ae.o.keep b9);have aD:=hd (aD.o.later b9);have az:=hd (zI az.o b9);clear b9 h1;dsimp only)
  |(go_at_call 20;refine Calls.mono (zB4 aD.o bw.o aw.o cX.o vH.o) ?_;rintro e w7 ⟨c11,rfl,h1,b9⟩;have HQ:=hd h1;have HM:=hd (HM.o.call b9);have ae:=hd (ae.o.keep b9);have aD:=hd (aD.o.later b9);have az:=hd (zI az.o b9);clear b9 h1;dsimp only)
  |(go_at_call 20;refine Calls.mono (zB4 aD.o bw.o aw.o fH.o vI.o) ?_;rintro e w7 ⟨c11,rfl,h1,b9⟩;have HQ:=hd h1;have HM:=hd (HM.o.call b9);have ae:=hd (ae.o.keep b9);have aD:=hd (aD.o.later b9);have az:=hd (zI az.o b9);clear b9 h1;dsimp only)
  |((with_reducible refine kH (ty:=29) (x:=.tmp 10) ?_);refine zK zW ae.o rfl _ rfl Ke rfl ?_)
  |((with_reducible refine kH (ty:=29) (x:=.tmp 11) ?_);refine zK zW bT.o rfl _ rfl Ke rfl ?_)
  |(go_at_call 63;refine Calls.mono (zB5 aD.o HQ.o vJ.o) ?_;rintro e w9 ⟨rfl,b9⟩;have HM:=hd (HM.o.call b9);have az:=hd (zI az.o b9);clear b9)
  |(go_at_call 63;refine Calls.mono (zB5 aD.o HQ.o vL.o) ?_;rintro e w9 ⟨rfl,b9⟩;have HM:=hd (HM.o.call b9);have az:=hd (zI az.o b9);clear b9)
  |(go_at_call 63;refine Calls.mono (zB5 aD.o HQ.o vM.o) ?_;rintro e w9 ⟨rfl,b9⟩;have HM:=hd (HM.o.call b9);have az:=hd (zI az.o b9);clear b9)
  |(go_at_call 63;refine Calls.mono (zB5 aD.o HQ.o vN.o) ?_;rintro e w9 ⟨rfl,b9⟩;have HM:=hd (HM.o.call b9);have az:=hd (zI az.o b9);clear b9)
  |fail)
 go_ret
 exact⟨by have h:=fX.o;subst h;rfl,HM.o.below⟩):P:=h
set_option maxHeartbeats 8000000 in
theorem zVh {w:World}{s:SC}{o:OC}{sl:Sl}{a:OpP}{E:Bool}(hs:zB1 w s sl)(hf:fewS sl=true)(ho:OkA w o a)(ta:zAf a)(hE:(zBl sl.a a&&zBl sl.f a)=E):Calls Tryz.prog 32 #[.agg s.row,.agg o.row] w (jA (.bool E) w):=by
 obtain⟨vO,vP,la,lf⟩:=zW9 hs hf;obtain⟨⟨ai,ei⟩,hi⟩:∃r,zGl a=r:=⟨_,rfl⟩;have hti:=zT5 ta;rw[zSa,zSa]at hE;rw[hi]at hti hE;dsimp only at hti hE;have hin:=fun(W:World)(h:Below w.heap.size w W)=>hi▸zNq W o a (ho.later h) ta;obtain⟨⟨yS,tG⟩,mN⟩:∃r,zEr a.k a.q a.t a.z a.x.length 1 sl.a=r:=⟨_,rfl⟩;obtain⟨⟨yT,tH⟩,mO⟩:∃r,zEr a.k a.q a.t a.z a.x.length 1 sl.f=r:=⟨_,rfl⟩;obtain⟨⟨yU,pL⟩,mP⟩:∃r,zEr ai.k ai.q ai.t ai.z ai.x.length 1 sl.a=r:=⟨_,rfl⟩;obtain⟨⟨yV,tI⟩,mQ⟩:∃r,zEr ai.k ai.q ai.t ai.z ai.x.length 1 sl.f=r:=⟨_,rfl⟩;rw[zPx mN,zPx mO,zPx mP,zPx mQ]at hE;obtain⟨tJ,mR⟩:∃e,samP sl.a yS=e:=⟨_,rfl⟩;obtain⟨tK,mS⟩:∃e,samP sl.f yT=e:=⟨_,rfl⟩;obtain⟨tL,mU⟩:∃e,samP sl.a yU=e:=⟨_,rfl⟩;obtain⟨tM,mV⟩:∃e,samP sl.f yV=e:=⟨_,rfl⟩;rw[mR,mS,mU,mV]at hE;have HE:=hd hE;have vQ:=hd vO;have vR:=hd vP;have fH:=hd la;have cX:=hd lf;have HO:=hd ho;have aw:=hd ta;have qq:=hd hti;have fA:=hd hin;have vI:=hd mN;have vH:=hd mO;have vG:=hd mP;have vF:=hd mQ;have vN:=hd mR;have vM:=hd mS;have vL:=hd mU;have vJ:=hd mV;clear hs hf ho ta hti hin hi vO vP hE la lf mN mO mP mQ mR mS mU mV;obtain⟨W0,hW,hst⟩:=kIy w s o;have HW:=hd hW;have HM:=hd hst;clear hW hst;go_enter Tryz.func32,Tryz.ntmps32
 go_upto_region 1 with fail
 rw[HW.o];clear HW;go_upto_region 2 with(first
  |((with_reducible refine zC (ty:=35) (x:=.tmp 3) ?_);refine zG HM.o.v3 _ rfl rfl rfl ?_)
  |(go_at_call 76;refine Calls.mono (fA.o _ HM.o.below) ?_;rintro e w1 ⟨ci,rfl,h1,b9⟩;have HM:=hd (HM.o.call b9);have HI:=hd h1;clear b9 h1;dsimp only)
  |((with_reducible refine zF (ty:=35) (x:=.tmp 5) ?_);refine zA zMk (r:=ci.row) (jT.new w1 35 #[.int .i64 0,.slice none 0 0,.slice none 0 0,.int .i64 0,.bool false,.slice none 0 0,.slice none 0 0,.slice none 0 0,.slice none 0 0,.slice none 0 0,.slice none 0 0,.bool false,.slice none 0 0,.int .i64 0,.slice none 0 0,.int .i64 0,.bool false,.slice none 0 0,.int .i64 0,.slice none 0 0,.int .i64 0]) rfl rfl (zTu ci) _ _ rfl rfl rfl rfl rfl ?_;intro W2 hv ay;have mo:=hd (show jR W2 w1.heap.size ci from hv);have HB:=hd (zN (zQ w1 (.cells #[.int .i64 0,.slice none 0 0,.slice none 0 0,.int .i64 0,.bool false,.slice none 0 0,.slice none 0 0,.slice none 0 0,.slice none 0 0,.slice none 0 0,.slice none 0 0,.bool false,.slice none 0 0,.int .i64 0,.slice none 0 0,.int .i64 0,.bool false,.slice none 0 0,.int .i64 0,.slice none 0 0,.int .i64 0] 35)) ay Kl);have HI:=hd (HI.o.now.later HB.o);clear hv ay))
 have HM:=hd (HM.o.call HB.o);clear HB;obtain⟨g5,mf⟩:∃g,w1.heap.size=g:=⟨_,rfl⟩;rw[mf]at mo;try rw[mf]
 clear mf;go_wp2_with(first
  |((with_reducible refine zC (ty:=35) (x:=.tmp 3) ?_);refine zG HM.o.v3 _ rfl rfl rfl ?_)
  |((with_reducible refine zC (ty:=35) (x:=.tmp 5) ?_);refine zG mo.o _ rfl rfl rfl ?_)
  |((with_reducible refine zNd ?_);refine zEq Tryz.underlying119 kEv Kd Kd (c:=o.row) (d:=ci.row) rfl rfl _ _ rfl rfl rfl rfl ?_))
 obtain⟨W3,hW3⟩:∃W3,W2.alloc (.cells (o.row++ci.row) 35)=W3:=⟨_,rfl⟩;have eF:=hd (show W3.heap[W2.heap.size]? =some (.cells (o.row++ci.row) 35 (0,0))from hW3▸heap_alloc_new W2 _);have hb3:Below W2.heap.size W2 W3:=hW3▸Kk.alloc Kl _;rw[hW3];have tN:=hd (HM.o.call hb3);have yX:=hd (HI.o.later hb3);clear hW3 hb3 mo HM HI;obtain⟨g20,mW⟩:∃g,W2.heap.size=g:=⟨_,rfl⟩;rw[mW]at eF;try rw[mW]
 clear mW;go_loopw [22] (fun i wr=>∃k:Nat,k<=2/\i=.int .i64 k/\Kq (Below W3.heap.size W3 wr)/\Kq ((1<=k->(tG&&tJ)=true/\(tH&&tK)=true)/\(2<=k->(pL&&tL)=true/\(tI&&tM)=true))) (fun i _=>2-(intOf i).toNat)
 case atStart=>exact⟨0,by omega,rfl,hd Kk,hd ⟨fun h=>absurd h Kb,fun h=>absurd h Kb⟩⟩
 case round=>
  obtain⟨k,hk,rfl,HB,HT⟩:=hrel;rcases(show k=0∨k=1∨k=2 by omega)with rfl|rfl|rfl
  ·have HM:=hd (tN.o.call HB.o);have bw:=hd (HO.o.later (HM.o.below));have fG:=hd (zE4 (zIj (eF.o)).1 HB.o);go_wp2_with(first
    |((with_reducible refine zC (ty:=35) (x:=.tmp 24) ?_);refine kK zMk (r:=o.row) fG.o rfl _ rfl rfl rfl ?_)
    |((with_reducible refine zF (ty:=35) (x:=.tmp 8) ?_);refine zA zMk (r:=o.row) (jT.new wr 35 #[.int .i64 0,.slice none 0 0,.slice none 0 0,.int .i64 0,.bool false,.slice none 0 0,.slice none 0 0,.slice none 0 0,.slice none 0 0,.slice none 0 0,.slice none 0 0,.bool false,.slice none 0 0,.int .i64 0,.slice none 0 0,.int .i64 0,.bool false,.slice none 0 0,.int .i64 0,.slice none 0 0,.int .i64 0]) rfl rfl (zTu o) _ _ rfl rfl rfl rfl rfl ?_;intro W4 hv ay;have bE:=hd (show jR W4 wr.heap.size o from hv);have cv:=hd (zN (zQ wr (.cells #[.int .i64 0,.slice none 0 0,.slice none 0 0,.int .i64 0,.bool false,.slice none 0 0,.slice none 0 0,.slice none 0 0,.slice none 0 0,.slice none 0 0,.slice none 0 0,.bool false,.slice none 0 0,.int .i64 0,.slice none 0 0,.int .i64 0,.bool false,.slice none 0 0,.int .i64 0,.slice none 0 0,.int .i64 0] 35)) ay Kl);have HM:=hd (HM.o.call cv.o);have bw:=hd (bw.o.later cv.o);clear hv ay)
    |((with_reducible refine zC (ty:=29) (x:=.tmp 27) ?_);refine zEa HM.o.v2 (j:=1) (vs:=[.slice s.A s.n s.c,.int .i64 s.x]) zW _ rfl rfl rfl Ka ?_)
    |((with_reducible refine zC (ty:=29) (x:=.tmp 30) ?_);refine zEa HM.o.v2 (j:=3) (vs:=[.slice s.B s.m s.d,.int .i64 s.y]) zW _ rfl rfl rfl Ka ?_)
    |((with_reducible refine zNd ?_);refine zEq Tryz.underlying120 kFv Kd Kd (c:=PC.row ⟨s.A,s.n,s.c,s.x⟩) (d:=PC.row ⟨s.B,s.m,s.d,s.y⟩) rfl rfl _ _ rfl rfl rfl rfl ?_))
   obtain⟨W5,jw⟩:∃W5,W4.alloc (.cells (PC.row ⟨s.A,s.n,s.c,s.x⟩++PC.row ⟨s.B,s.m,s.d,s.y⟩) 29)=W5:=⟨_,rfl⟩;have bV:=hd (show W5.heap[W4.heap.size]? =some (.cells (PC.row ⟨s.A,s.n,s.c,s.x⟩++PC.row ⟨s.B,s.m,s.d,s.y⟩) 29 (0,0))from jw▸heap_alloc_new W4 _);have bv:Below W4.heap.size W4 W5:=jw▸Kk.alloc Kl _;rw[jw];have pG:=hd (HM.o.call bv);have ia:=hd (bw.o.later bv);have fC:=hd (bE.o.keep bv);have bI:=hd (HB.o.trans ((cv.o.trans (bv.mono cv.o.size)).mono HB.o.size));clear jw bv cv HB fG HM bw bE;obtain⟨g8,gX⟩:∃g,wr.heap.size=g:=⟨_,rfl⟩;obtain⟨yY,fD⟩:∃g,W4.heap.size=g:=⟨_,rfl⟩;rw[gX]at fC;rw[fD]at bV;try rw[gX]
   try rw[fD]
   clear gX fD;obtain⟨wo,rfl⟩:∃wo:World,wo=wr:=⟨_,rfl⟩;go_loopw [34] (fun i wr=>∃j:Nat,j<=2/\i=.int .i64 j/\Kq (Below W5.heap.size W5 wr)/\Kq ((1<=j->(tG&&tJ)=true)/\(2<=j->(tH&&tK)=true))) (fun i _=>2-(intOf i).toNat)
   case atStart=>exact⟨0,by omega,rfl,hd Kk,hd ⟨fun h=>absurd h Kb,fun h=>absurd h Kb⟩⟩
   case round=>
    obtain⟨j,hj,rfl,az,mX⟩:=hrel;rcases(show j=0∨j=1∨j=2 by omega)with rfl|rfl|rfl
    ·have jv:=hd (zE4 (zIj bV.o).1 az.o);have HM:=hd (pG.o.call az.o);have bw:=hd (ia.o.later az.o);have bE:=hd (fC.o.keep az.o);have aD:=hd (vQ.o.later HM.o.below);cases tG
     case false=>
      have fX:=hd (show false=E by have:=HE.o;simpa using this);exact kOi
     case true=>
      cases tJ
      case false=>
       have fX:=hd (show false=E by have:=HE.o;simpa using this);exact kOi
      case true=>
       go_wp2_with(first
        |((with_reducible refine zC (ty:=29) (x:=.tmp 36) ?_);refine kK zW (r:=PC.row (PC.mk s.A s.n s.c s.x)) jv.o rfl _ rfl rfl rfl ?_)
        |((with_reducible refine zF (ty:=29) (x:=.tmp 10) ?_);refine zA zW (r:=PC.row (PC.mk s.A s.n s.c s.x)) (jT.new wr 29 #[.slice none 0 0,.int .i64 0]) rfl rfl (PC.one _) _ _ rfl rfl rfl rfl rfl ?_;intro W6 hv ay;have ae:=hd hv;have ax:=hd (zN (zQ wr (.cells #[.slice none 0 0,.int .i64 0] 29)) ay Kl);have HM:=hd (HM.o.call ax.o);have bw:=hd (bw.o.later ax.o);have aD:=hd (aD.o.later ax.o);have bE:=hd (bE.o.keep ax.o);have az:=hd (zI az.o ax.o);clear hv ay ax)
        |((with_reducible refine zC (ty:=29) (x:=.tmp 10) ?_);refine zB zW ae.o rfl _ rfl rfl rfl ?_)
        |((with_reducible refine zC (ty:=35) (x:=.tmp 8) ?_);refine zG bE.o _ rfl rfl rfl ?_)
        |(go_at_call 20;refine Calls.mono (zB4 aD.o bw.o aw.o fH.o vI.o) ?_;rintro e w7 ⟨c11,rfl,h1,b9⟩;have HQ:=hd h1;have HM:=hd (HM.o.call b9);have ae:=hd (ae.o.keep b9);have aD:=hd (aD.o.later b9);have az:=hd (zI az.o b9);clear b9 h1;dsimp only)
        |((with_reducible refine zF (ty:=29) (x:=.tmp 11) ?_);refine zA zW (r:=c11.row) (jT.new w7 29 #[.slice none 0 0,.int .i64 0]) rfl rfl (PC.one _) _ _ rfl rfl rfl rfl rfl ?_;intro W8 hv ay;have bT:=hd hv;have ax:=hd (zN (zQ w7 (.cells #[.slice none 0 0,.int .i64 0] 29)) ay Kl);have HM:=hd (HM.o.call ax.o);have aD:=hd (aD.o.later ax.o);have HQ:=hd (HQ.o.later ax.o);have ae:=hd (ae.o.keep ax.o);have az:=hd (zI az.o ax.o);clear hv ay ax)
        |((with_reducible refine kH (ty:=29) (x:=.tmp 10) ?_);refine zK zW ae.o rfl _ rfl Ke rfl ?_)
        |((with_reducible refine kH (ty:=29) (x:=.tmp 11) ?_);refine zK zW bT.o rfl _ rfl Ke rfl ?_)
        |(go_at_call 63;refine Calls.mono (zB5 aD.o HQ.o vN.o) ?_;rintro e w9 ⟨rfl,b9⟩;have HM:=hd (HM.o.call b9);have az:=hd (zI az.o b9);clear b9))
       go_roundw
       case rel=>exact⟨1,by omega,by go_num,az,hd ⟨fun h=>rfl,fun h=>absurd h Kb⟩⟩
       case measure=>simp[intOf]
    ·have jv:=hd (zE4 (zIj bV.o).2 az.o);have HM:=hd (pG.o.call az.o);have bw:=hd (ia.o.later az.o);have bE:=hd (fC.o.keep az.o);have aD:=hd (vR.o.later HM.o.below);cases tH
     case false=>
      have fX:=hd (show false=E by have:=HE.o;simpa using this);exact kOi
     case true=>
      cases tK
      case false=>
       have fX:=hd (show false=E by have:=HE.o;simpa using this);exact kOi
      case true=>
       go_wp2_with(first
        |((with_reducible refine zC (ty:=29) (x:=.tmp 36) ?_);refine kK zW (r:=PC.row (PC.mk s.B s.m s.d s.y)) jv.o rfl _ rfl rfl rfl ?_)
        |((with_reducible refine zF (ty:=29) (x:=.tmp 10) ?_);refine zA zW (r:=PC.row (PC.mk s.B s.m s.d s.y)) (jT.new wr 29 #[.slice none 0 0,.int .i64 0]) rfl rfl (PC.one _) _ _ rfl rfl rfl rfl rfl ?_;intro W6 hv ay;have ae:=hd hv;have ax:=hd (zN (zQ wr (.cells #[.slice none 0 0,.int .i64 0] 29)) ay Kl);have HM:=hd (HM.o.call ax.o);have bw:=hd (bw.o.later ax.o);have aD:=hd (aD.o.later ax.o);have bE:=hd (bE.o.keep ax.o);have az:=hd (zI az.o ax.o);clear hv ay ax)
        |((with_reducible refine zC (ty:=29) (x:=.tmp 10) ?_);refine zB zW ae.o rfl _ rfl rfl rfl ?_)
        |((with_reducible refine zC (ty:=35) (x:=.tmp 8) ?_);refine zG bE.o _ rfl rfl rfl ?_)
        |(go_at_call 20;refine Calls.mono (zB4 aD.o bw.o aw.o cX.o vH.o) ?_;rintro e w7 ⟨c11,rfl,h1,b9⟩;have HQ:=hd h1;have HM:=hd (HM.o.call b9);have ae:=hd (ae.o.keep b9);have aD:=hd (aD.o.later b9);have az:=hd (zI az.o b9);clear b9 h1;dsimp only)
        |((with_reducible refine zF (ty:=29) (x:=.tmp 11) ?_);refine zA zW (r:=c11.row) (jT.new w7 29 #[.slice none 0 0,.int .i64 0]) rfl rfl (PC.one _) _ _ rfl rfl rfl rfl rfl ?_;intro W8 hv ay;have bT:=hd hv;have ax:=hd (zN (zQ w7 (.cells #[.slice none 0 0,.int .i64 0] 29)) ay Kl);have HM:=hd (HM.o.call ax.o);have aD:=hd (aD.o.later ax.o);have HQ:=hd (HQ.o.later ax.o);have ae:=hd (ae.o.keep ax.o);have az:=hd (zI az.o ax.o);clear hv ay ax)
        |((with_reducible refine kH (ty:=29) (x:=.tmp 10) ?_);refine zK zW ae.o rfl _ rfl Ke rfl ?_)
        |((with_reducible refine kH (ty:=29) (x:=.tmp 11) ?_);refine zK zW bT.o rfl _ rfl Ke rfl ?_)
        |(go_at_call 63;refine Calls.mono (zB5 aD.o HQ.o vM.o) ?_;rintro e w9 ⟨rfl,b9⟩;have HM:=hd (HM.o.call b9);have az:=hd (zI az.o b9);clear b9))
       go_roundw
       case rel=>exact⟨2,by omega,by go_num,az,hd ⟨fun h=>mX.o.1 Kb,fun h=>rfl⟩⟩
       case measure=>simp[intOf]
    ·have mh:=hd (zI bI.o az.o);go_wp2
     go_roundw
     case rel=>exact⟨1,by omega,by go_num,mh,hd ⟨fun h=>⟨mX.o.1 Kb,mX.o.2 Kb⟩,fun h=>absurd h Kb⟩⟩
     case measure=>simp[intOf]
  ·have HM:=hd (tN.o.call HB.o);have bw:=hd (yX.o.later HB.o);have fG:=hd (zE4 (zIj (eF.o)).2 HB.o);go_wp2_with(first
    |((with_reducible refine zC (ty:=35) (x:=.tmp 24) ?_);refine kK zMk (r:=ci.row) fG.o rfl _ rfl rfl rfl ?_)
    |((with_reducible refine zF (ty:=35) (x:=.tmp 8) ?_);refine zA zMk (r:=ci.row) (jT.new wr 35 #[.int .i64 0,.slice none 0 0,.slice none 0 0,.int .i64 0,.bool false,.slice none 0 0,.slice none 0 0,.slice none 0 0,.slice none 0 0,.slice none 0 0,.slice none 0 0,.bool false,.slice none 0 0,.int .i64 0,.slice none 0 0,.int .i64 0,.bool false,.slice none 0 0,.int .i64 0,.slice none 0 0,.int .i64 0]) rfl rfl (zTu ci) _ _ rfl rfl rfl rfl rfl ?_;intro W4 hv ay;have bE:=hd (show jR W4 wr.heap.size ci from hv);have cv:=hd (zN (zQ wr (.cells #[.int .i64 0,.slice none 0 0,.slice none 0 0,.int .i64 0,.bool false,.slice none 0 0,.slice none 0 0,.slice none 0 0,.slice none 0 0,.slice none 0 0,.slice none 0 0,.bool false,.slice none 0 0,.int .i64 0,.slice none 0 0,.int .i64 0,.bool false,.slice none 0 0,.int .i64 0,.slice none 0 0,.int .i64 0] 35)) ay Kl);have HM:=hd (HM.o.call cv.o);have bw:=hd (bw.o.later cv.o);clear hv ay)
    |((with_reducible refine zC (ty:=29) (x:=.tmp 27) ?_);refine zEa HM.o.v2 (j:=1) (vs:=[.slice s.A s.n s.c,.int .i64 s.x]) zW _ rfl rfl rfl Ka ?_)
    |((with_reducible refine zC (ty:=29) (x:=.tmp 30) ?_);refine zEa HM.o.v2 (j:=3) (vs:=[.slice s.B s.m s.d,.int .i64 s.y]) zW _ rfl rfl rfl Ka ?_)
    |((with_reducible refine zNd ?_);refine zEq Tryz.underlying120 kFv Kd Kd (c:=PC.row ⟨s.A,s.n,s.c,s.x⟩) (d:=PC.row ⟨s.B,s.m,s.d,s.y⟩) rfl rfl _ _ rfl rfl rfl rfl ?_))
   obtain⟨W5,jw⟩:∃W5,W4.alloc (.cells (PC.row ⟨s.A,s.n,s.c,s.x⟩++PC.row ⟨s.B,s.m,s.d,s.y⟩) 29)=W5:=⟨_,rfl⟩;have bV:=hd (show W5.heap[W4.heap.size]? =some (.cells (PC.row ⟨s.A,s.n,s.c,s.x⟩++PC.row ⟨s.B,s.m,s.d,s.y⟩) 29 (0,0))from jw▸heap_alloc_new W4 _);have bv:Below W4.heap.size W4 W5:=jw▸Kk.alloc Kl _;rw[jw];have pG:=hd (HM.o.call bv);have ia:=hd (bw.o.later bv);have fC:=hd (bE.o.keep bv);have bI:=hd (HB.o.trans ((cv.o.trans (bv.mono cv.o.size)).mono HB.o.size));clear jw bv cv HB fG HM bw bE;obtain⟨g8,gX⟩:∃g,wr.heap.size=g:=⟨_,rfl⟩;obtain⟨yY,fD⟩:∃g,W4.heap.size=g:=⟨_,rfl⟩;rw[gX]at fC;rw[fD]at bV;try rw[gX]
   try rw[fD]
   clear gX fD;obtain⟨wo,rfl⟩:∃wo:World,wo=wr:=⟨_,rfl⟩;go_loopw [34] (fun i wr=>∃j:Nat,j<=2/\i=.int .i64 j/\Kq (Below W5.heap.size W5 wr)/\Kq ((1<=j->(pL&&tL)=true)/\(2<=j->(tI&&tM)=true))) (fun i _=>2-(intOf i).toNat)
   case atStart=>exact⟨0,by omega,rfl,hd Kk,hd ⟨fun h=>absurd h Kb,fun h=>absurd h Kb⟩⟩
   case round=>
    obtain⟨j,hj,rfl,az,mX⟩:=hrel;rcases(show j=0∨j=1∨j=2 by omega)with rfl|rfl|rfl
    ·have jv:=hd (zE4 (zIj bV.o).1 az.o);have HM:=hd (pG.o.call az.o);have bw:=hd (ia.o.later az.o);have bE:=hd (fC.o.keep az.o);have aD:=hd (vQ.o.later HM.o.below);cases pL
     case false=>
      have fX:=hd (show false=E by have:=HE.o;simpa using this);exact kOi
     case true=>
      cases tL
      case false=>
       have fX:=hd (show false=E by have:=HE.o;simpa using this);exact kOi
      case true=>
       go_wp2_with(first
        |((with_reducible refine zC (ty:=29) (x:=.tmp 36) ?_);refine kK zW (r:=PC.row (PC.mk s.A s.n s.c s.x)) jv.o rfl _ rfl rfl rfl ?_)
        |((with_reducible refine zF (ty:=29) (x:=.tmp 10) ?_);refine zA zW (r:=PC.row (PC.mk s.A s.n s.c s.x)) (jT.new wr 29 #[.slice none 0 0,.int .i64 0]) rfl rfl (PC.one _) _ _ rfl rfl rfl rfl rfl ?_;intro W6 hv ay;have ae:=hd hv;have ax:=hd (zN (zQ wr (.cells #[.slice none 0 0,.int .i64 0] 29)) ay Kl);have HM:=hd (HM.o.call ax.o);have bw:=hd (bw.o.later ax.o);have aD:=hd (aD.o.later ax.o);have bE:=hd (bE.o.keep ax.o);have az:=hd (zI az.o ax.o);clear hv ay ax)
        |((with_reducible refine zC (ty:=29) (x:=.tmp 10) ?_);refine zB zW ae.o rfl _ rfl rfl rfl ?_)
        |((with_reducible refine zC (ty:=35) (x:=.tmp 8) ?_);refine zG bE.o _ rfl rfl rfl ?_)
        |(go_at_call 20;refine Calls.mono (zB4 aD.o bw.o qq.o fH.o vG.o) ?_;rintro e w7 ⟨c11,rfl,h1,b9⟩;have HQ:=hd h1;have HM:=hd (HM.o.call b9);have ae:=hd (ae.o.keep b9);have aD:=hd (aD.o.later b9);have az:=hd (zI az.o b9);clear b9 h1;dsimp only)
        |((with_reducible refine zF (ty:=29) (x:=.tmp 11) ?_);refine zA zW (r:=c11.row) (jT.new w7 29 #[.slice none 0 0,.int .i64 0]) rfl rfl (PC.one _) _ _ rfl rfl rfl rfl rfl ?_;intro W8 hv ay;have bT:=hd hv;have ax:=hd (zN (zQ w7 (.cells #[.slice none 0 0,.int .i64 0] 29)) ay Kl);have HM:=hd (HM.o.call ax.o);have aD:=hd (aD.o.later ax.o);have HQ:=hd (HQ.o.later ax.o);have ae:=hd (ae.o.keep ax.o);have az:=hd (zI az.o ax.o);clear hv ay ax)
        |((with_reducible refine kH (ty:=29) (x:=.tmp 10) ?_);refine zK zW ae.o rfl _ rfl Ke rfl ?_)
        |((with_reducible refine kH (ty:=29) (x:=.tmp 11) ?_);refine zK zW bT.o rfl _ rfl Ke rfl ?_)
        |(go_at_call 63;refine Calls.mono (zB5 aD.o HQ.o vL.o) ?_;rintro e w9 ⟨rfl,b9⟩;have HM:=hd (HM.o.call b9);have az:=hd (zI az.o b9);clear b9))
       go_roundw
       case rel=>exact⟨1,by omega,by go_num,az,hd ⟨fun h=>rfl,fun h=>absurd h Kb⟩⟩
       case measure=>simp[intOf]
    ·have jv:=hd (zE4 (zIj bV.o).2 az.o);have HM:=hd (pG.o.call az.o);have bw:=hd (ia.o.later az.o);have bE:=hd (fC.o.keep az.o);have aD:=hd (vR.o.later HM.o.below);cases tI
     case false=>
      have fX:=hd (show false=E by have:=HE.o;simpa using this);exact kOi
     case true=>
      cases tM
      case false=>
       have fX:=hd (show false=E by have:=HE.o;simpa using this);exact kOi
      case true=>
       go_wp2_with(first
        |((with_reducible refine zC (ty:=29) (x:=.tmp 36) ?_);refine kK zW (r:=PC.row (PC.mk s.B s.m s.d s.y)) jv.o rfl _ rfl rfl rfl ?_)
        |((with_reducible refine zF (ty:=29) (x:=.tmp 10) ?_);refine zA zW (r:=PC.row (PC.mk s.B s.m s.d s.y)) (jT.new wr 29 #[.slice none 0 0,.int .i64 0]) rfl rfl (PC.one _) _ _ rfl rfl rfl rfl rfl ?_;intro W6 hv ay;have ae:=hd hv;have ax:=hd (zN (zQ wr (.cells #[.slice none 0 0,.int .i64 0] 29)) ay Kl);have HM:=hd (HM.o.call ax.o);have bw:=hd (bw.o.later ax.o);have aD:=hd (aD.o.later ax.o);have bE:=hd (bE.o.keep ax.o);have az:=hd (zI az.o ax.o);clear hv ay ax)
        |((with_reducible refine zC (ty:=29) (x:=.tmp 10) ?_);refine zB zW ae.o rfl _ rfl rfl rfl ?_)
        |((with_reducible refine zC (ty:=35) (x:=.tmp 8) ?_);refine zG bE.o _ rfl rfl rfl ?_)
        |(go_at_call 20;refine Calls.mono (zB4 aD.o bw.o qq.o cX.o vF.o) ?_;rintro e w7 ⟨c11,rfl,h1,b9⟩;have HQ:=hd h1;have HM:=hd (HM.o.call b9);have ae:=hd (ae.o.keep b9);have aD:=hd (aD.o.later b9);have az:=hd (zI az.o b9);clear b9 h1;dsimp only)
        |((with_reducible refine zF (ty:=29) (x:=.tmp 11) ?_);refine zA zW (r:=c11.row) (jT.new w7 29 #[.slice none 0 0,.int .i64 0]) rfl rfl (PC.one _) _ _ rfl rfl rfl rfl rfl ?_;intro W8 hv ay;have bT:=hd hv;have ax:=hd (zN (zQ w7 (.cells #[.slice none 0 0,.int .i64 0] 29)) ay Kl);have HM:=hd (HM.o.call ax.o);have aD:=hd (aD.o.later ax.o);have HQ:=hd (HQ.o.later ax.o);have ae:=hd (ae.o.keep ax.o);have az:=hd (zI az.o ax.o);clear hv ay ax)
        |((with_reducible refine kH (ty:=29) (x:=.tmp 10) ?_);refine zK zW ae.o rfl _ rfl Ke rfl ?_)
        |((with_reducible refine kH (ty:=29) (x:=.tmp 11) ?_);refine zK zW bT.o rfl _ rfl Ke rfl ?_)
        |(go_at_call 63;refine Calls.mono (zB5 aD.o HQ.o vJ.o) ?_;rintro e w9 ⟨rfl,b9⟩;have HM:=hd (HM.o.call b9);have az:=hd (zI az.o b9);clear b9))
       go_roundw
       case rel=>exact⟨2,by omega,by go_num,az,hd ⟨fun h=>mX.o.1 Kb,fun h=>rfl⟩⟩
       case measure=>simp[intOf]
    ·have mh:=hd (zI bI.o az.o);go_wp2
     go_roundw
     case rel=>exact⟨2,by omega,by go_num,mh,hd ⟨fun h=>HT.o.1 Kb,fun h=>⟨mX.o.1 Kb,mX.o.2 Kb⟩⟩⟩
     case measure=>simp[intOf]
  ·have HX:=hd HT.o;have hx1:=HX.o.1 Kb;have hx2:=HX.o.2 Kb;have vS:true=E:=by have:=HE.o;rw[hx1.1,hx1.2,hx2.1,hx2.2]at this;exact this
   have fX:=hd vS;clear hx1 hx2 vS;go_wp2
   go_ret
   exact⟨by have h:=fX.o;subst h;rfl,zI tN.o.below HB.o⟩
