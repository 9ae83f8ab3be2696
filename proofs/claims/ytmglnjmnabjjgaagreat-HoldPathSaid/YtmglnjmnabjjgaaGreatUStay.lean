import Derived.Test.YtmglnjmnabjjgaaGreatJYMove2
set_option maxRecDepth 100000
namespace Go.Proofs.YtmglnjmnabjjgaaGreat
open Go.RowKit
structure V2 (w:World)(s:SC)(o:OC)(W:World):Prop where
 v2:jT 33 W w.heap.size s.row
 v3:jR W (w.heap.size+1) o
 below:Below w.heap.size w W
theorem V2.call {w W W':World}{s:SC}{o:OC}(h:V2 w s o W)(hb:Below W.heap.size W W'):V2 w s o W':=⟨h.v2.keep hb,h.v3.keep hb,zI h.below hb⟩
theorem kIy (w:World)(s:SC)(o:OC):∃W0,(w.alloc (.cells s.row 33)).alloc (.cells o.row 35)=W0/\V2 w s o W0:=by
 have e1:(w.alloc (.cells s.row 33)).heap.size=w.heap.size+1:=by simp
 have h1:=(jT.new w 33 s.row).alloc (.cells o.row 35);have h2:=jR.new (w.alloc (.cells s.row 33)) o;rw[e1]at h2;exact⟨_,rfl,h1,h2,(Kl.alloc Km _).alloc Kc _⟩
theorem kOm {P:Prop}(h:P:=by
 go_wp2_with(first
  |((with_reducible refine zC (ty:=29) (x:=.tmp 36) ?_);refine kK zW (r:=PC.row (PC.mk s.B s.m s.d s.y)) ou.o rfl _ rfl rfl rfl ?_)
  |((with_reducible refine zC (ty:=29) (x:=.tmp 36) ?_);refine kK zW (r:=PC.row (PC.mk s.A s.n s.c s.x)) ou.o rfl _ rfl rfl rfl ?_)
  |((with_reducible refine zC (ty:=29) (x:=.tmp 10) ?_);refine zB zW ac.o rfl _ rfl rfl rfl ?_)
  |((with_reducible refine zF (ty:=29) (x:=.tmp 10) ?_);refine zA zW (r:=PC.row (PC.mk s.B s.m s.d s.y)) (jT.new wr 29 #[.slice none 0 0,.int .i64 0]) rfl rfl (PC.one _) _ _ rfl rfl rfl rfl rfl ?_;intro W6 hv aH;have ac:=hd hv;have ay:=hd (zN (zQ wr (.cells #[.slice none 0 0,.int .i64 0] 29)) aH Km);have HM:=hd (HM.o.call ay.o);have bi:=hd (bi.o.later ay.o);have aI:=hd (aI.o.later ay.o);have ar:=hd (ar.o.keep ay.o);have aF:=hd (zI aF.o ay.o);clear hv aH ay)
  |((with_reducible refine zF (ty:=29) (x:=.tmp 10) ?_);refine zA zW (r:=PC.row (PC.mk s.A s.n s.c s.x)) (jT.new wr 29 #[.slice none 0 0,.int .i64 0]) rfl rfl (PC.one _) _ _ rfl rfl rfl rfl rfl ?_;intro W6 hv aH;have ac:=hd hv;have ay:=hd (zN (zQ wr (.cells #[.slice none 0 0,.int .i64 0] 29)) aH Km);have HM:=hd (HM.o.call ay.o);have bi:=hd (bi.o.later ay.o);have aI:=hd (aI.o.later ay.o);have ar:=hd (ar.o.keep ay.o);have aF:=hd (zI aF.o ay.o);clear hv aH ay)
  |((with_reducible refine zF (ty:=29) (x:=.tmp 11) ?_);refine zA zW (r:=c11.row) (jT.new w7 29 #[.slice none 0 0,.int .i64 0]) rfl rfl (PC.one _) _ _ rfl rfl rfl rfl rfl ?_;intro W8 hv aH;have cX:=hd hv;have ay:=hd (zN (zQ w7 (.cells #[.slice none 0 0,.int .i64 0] 29)) aH Km);have HM:=hd (HM.o.call ay.o);have aI:=hd (aI.o.later ay.o);have HQ:=hd (HQ.o.later ay.o);have ac:=hd (ac.o.keep ay.o);have aF:=hd (zI aF.o ay.o);clear hv aH ay)
  |((with_reducible refine zC (ty:=35) (x:=.tmp 8) ?_);refine zG ar.o _ rfl rfl rfl ?_)
  |(go_at_call 20;refine Calls.mono (zB4 aI.o bi.o vY.o jq.o BO.o) ?_;rintro e w7 ⟨c11,rfl,h1,b9⟩;have HQ:=hd h1;have HM:=hd (HM.o.call b9);have ac:=hd (ac.o.keep b9);have aI:=hd (aI.o.later b9);have aF:=hd (zI aF.o b9);clear b9 h1;dsimp only)
  |(go_at_call 20;refine Calls.mono (zB4 aI.o bi.o vY.o sF.o BP.o) ?_;rintro e w7 ⟨c11,rfl,h1,b9⟩;have HQ:=hd h1;have HM:=hd (HM.o.call b9);have ac:=hd (ac.o.keep b9);have aI:=hd (aI.o.later b9);have aF:=hd (zI aF.o b9);clear b9 h1;dsimp only)
  |(go_at_call 20;refine Calls.mono (zB4 aI.o bi.o az.o jq.o BQ.o) ?_;rintro e w7 ⟨c11,rfl,h1,b9⟩;have HQ:=hd h1;have HM:=hd (HM.o.call b9);have ac:=hd (ac.o.keep b9);have aI:=hd (aI.o.later b9);have aF:=hd (zI aF.o b9);clear b9 h1;dsimp only)
  |(go_at_call 20;refine Calls.mono (zB4 aI.o bi.o az.o sF.o BR.o) ?_;rintro e w7 ⟨c11,rfl,h1,b9⟩;have HQ:=hd h1;have HM:=hd (HM.o.call b9);have ac:=hd (ac.o.keep b9);have aI:=hd (aI.o.later b9);have aF:=hd (zI aF.o b9);clear b9 h1;dsimp only)
  |((with_reducible refine kH (ty:=29) (x:=.tmp 10) ?_);refine zK zW ac.o rfl _ rfl Ke rfl ?_)
  |((with_reducible refine kH (ty:=29) (x:=.tmp 11) ?_);refine zK zW cX.o rfl _ rfl Ke rfl ?_)
  |(go_at_call 63;refine Calls.mono (zB5 aI.o HQ.o BS.o) ?_;rintro e w9 ⟨rfl,b9⟩;have HM:=hd (HM.o.call b9);have aF:=hd (zI aF.o b9);clear b9)
  |(go_at_call 63;refine Calls.mono (zB5 aI.o HQ.o BU.o) ?_;rintro e w9 ⟨rfl,b9⟩;have HM:=hd (HM.o.call b9);have aF:=hd (zI aF.o b9);clear b9)
  |(go_at_call 63;refine Calls.mono (zB5 aI.o HQ.o BV.o) ?_;rintro e w9 ⟨rfl,b9⟩;have HM:=hd (HM.o.call b9);have aF:=hd (zI aF.o b9);clear b9)
  |(go_at_call 63;refine Calls.mono (zB5 aI.o HQ.o BW.o) ?_;rintro e w9 ⟨rfl,b9⟩;have HM:=hd (HM.o.call b9);have aF:=hd (zI aF.o b9);clear b9)
  |fail)
 go_ret
 exact⟨by have h:=jw.o;subst h;rfl,HM.o.below⟩):P:=h
set_option maxHeartbeats 8000000 in
theorem zVh {w:World}{s:SC}{o:OC}{sl:Sl}{a:OpP}{E:Bool}(hs:zB1 w s sl)(hf:fewS sl=true)(ho:OkA w o a)(ta:zAf a)(hE:(zBl sl.a a&&zBl sl.f a)=E):Calls Tryz.prog 32 #[.agg s.row,.agg o.row] w (jA (.bool E) w):=by
 obtain⟨BX,BZ,la,lf⟩:=zW9 hs hf;obtain⟨⟨ai,ei⟩,hi⟩:∃r,zGl a=r:=⟨_,rfl⟩;have hti:=zT5 ta;rw[zSa,zSa]at hE;rw[hi]at hti hE;dsimp only at hti hE;have hin:=fun(W:World)(h:Below w.heap.size w W)=>hi▸zNq W o a (ho.later h) ta;obtain⟨⟨EH,zk⟩,rH⟩:∃r,zEr a.k a.q a.t a.z a.x.length 1 sl.a=r:=⟨_,rfl⟩;obtain⟨⟨EI,zl⟩,rI⟩:∃r,zEr a.k a.q a.t a.z a.x.length 1 sl.f=r:=⟨_,rfl⟩;obtain⟨⟨EJ,vO⟩,kz⟩:∃r,zEr ai.k ai.q ai.t ai.z ai.x.length 1 sl.a=r:=⟨_,rfl⟩;obtain⟨⟨EK,zm⟩,rJ⟩:∃r,zEr ai.k ai.q ai.t ai.z ai.x.length 1 sl.f=r:=⟨_,rfl⟩;rw[zPx rH,zPx rI,zPx kz,zPx rJ]at hE;obtain⟨zo,rK⟩:∃e,samP sl.a EH=e:=⟨_,rfl⟩;obtain⟨zq,rL⟩:∃e,samP sl.f EI=e:=⟨_,rfl⟩;obtain⟨zr,rM⟩:∃e,samP sl.a EJ=e:=⟨_,rfl⟩;obtain⟨zt,rN⟩:∃e,samP sl.f EK=e:=⟨_,rfl⟩;rw[rK,rL,rM,rN]at hE;have HE:=hd hE;have qN:=hd BX;have Ca:=hd BZ;have sF:=hd la;have jq:=hd lf;have HO:=hd ho;have az:=hd ta;have vY:=hd hti;have dW:=hd hin;have BR:=hd rH;have BQ:=hd rI;have BP:=hd kz;have BO:=hd rJ;have BW:=hd rK;have BV:=hd rL;have BU:=hd rM;have BS:=hd rN;clear hs hf ho ta hti hin hi BX BZ hE la lf rH rI kz rJ rK rL rM rN;obtain⟨W0,hW,hst⟩:=kIy w s o;have HW:=hd hW;have HM:=hd hst;clear hW hst;go_enter Tryz.func32,Tryz.ntmps32
 go_upto_region 1 with fail
 rw[HW.o];clear HW;go_upto_region 2 with(first
  |((with_reducible refine zC (ty:=35) (x:=.tmp 3) ?_);refine zG HM.o.v3 _ rfl rfl rfl ?_)
  |(go_at_call 76;refine Calls.mono (dW.o _ HM.o.below) ?_;rintro e w1 ⟨ci,rfl,h1,b9⟩;have HM:=hd (HM.o.call b9);have HI:=hd h1;clear b9 h1;dsimp only)
  |((with_reducible refine zF (ty:=35) (x:=.tmp 5) ?_);refine zA zMk (r:=ci.row) (jT.new w1 35 #[.int .i64 0,.slice none 0 0,.slice none 0 0,.int .i64 0,.bool false,.slice none 0 0,.slice none 0 0,.slice none 0 0,.slice none 0 0,.slice none 0 0,.slice none 0 0,.bool false,.slice none 0 0,.int .i64 0,.slice none 0 0,.int .i64 0,.bool false,.slice none 0 0,.int .i64 0,.slice none 0 0,.int .i64 0]) rfl rfl (zTu ci) _ _ rfl rfl rfl rfl rfl ?_;intro W2 hv aH;have dH:=hd (show jR W2 w1.heap.size ci from hv);have HB:=hd (zN (zQ w1 (.cells #[.int .i64 0,.slice none 0 0,.slice none 0 0,.int .i64 0,.bool false,.slice none 0 0,.slice none 0 0,.slice none 0 0,.slice none 0 0,.slice none 0 0,.slice none 0 0,.bool false,.slice none 0 0,.int .i64 0,.slice none 0 0,.int .i64 0,.bool false,.slice none 0 0,.int .i64 0,.slice none 0 0,.int .i64 0] 35)) aH Km);have HI:=hd (HI.o.now.later HB.o);clear hv aH))
 have HM:=hd (HM.o.call HB.o);clear HB;obtain⟨g5,qX⟩:∃g,w1.heap.size=g:=⟨_,rfl⟩;rw[qX]at dH;try rw[qX]
 clear qX;go_wp2_with(first
  |((with_reducible refine zC (ty:=35) (x:=.tmp 3) ?_);refine zG HM.o.v3 _ rfl rfl rfl ?_)
  |((with_reducible refine zC (ty:=35) (x:=.tmp 5) ?_);refine zG dH.o _ rfl rfl rfl ?_)
  |((with_reducible refine zNd ?_);refine zEq Tryz.underlying119 kEv Kd Kd (c:=o.row) (d:=ci.row) rfl rfl _ _ rfl rfl rfl rfl ?_))
 obtain⟨W3,hW3⟩:∃W3,W2.alloc (.cells (o.row++ci.row) 35)=W3:=⟨_,rfl⟩;have gT:=hd (show W3.heap[W2.heap.size]? =some (.cells (o.row++ci.row) 35 (0,0))from hW3▸heap_alloc_new W2 _);have hb3:Below W2.heap.size W2 W3:=hW3▸Kl.alloc Km _;rw[hW3];have zu:=hd (HM.o.call hb3);have EL:=hd (HI.o.later hb3);clear hW3 hb3 dH HM HI;obtain⟨g20,rO⟩:∃g,W2.heap.size=g:=⟨_,rfl⟩;rw[rO]at gT;try rw[rO]
 clear rO;go_loopw [22] (fun i wr=>∃k:Nat,k<=2/\i=.int .i64 k/\Kr (Below W3.heap.size W3 wr)/\Kr ((1<=k->(zk&&zo)=true/\(zl&&zq)=true)/\(2<=k->(vO&&zr)=true/\(zm&&zt)=true))) (fun i _=>2-(intOf i).toNat)
 case atStart=>exact⟨0,by omega,rfl,hd Kl,hd ⟨fun h=>absurd h Kb,fun h=>absurd h Kb⟩⟩
 case round=>
  obtain⟨k,hk,rfl,HB,HT⟩:=hrel;rcases(show k=0∨k=1∨k=2 by omega)with rfl|rfl|rfl
  ·have HM:=hd (zu.o.call HB.o);have bi:=hd (HO.o.later (HM.o.below));have uV:=hd (zE4 (zIj (gT.o)).1 HB.o);go_wp2_with(first
    |((with_reducible refine zC (ty:=35) (x:=.tmp 24) ?_);refine kK zMk (r:=o.row) uV.o rfl _ rfl rfl rfl ?_)
    |((with_reducible refine zF (ty:=35) (x:=.tmp 8) ?_);refine zA zMk (r:=o.row) (jT.new wr 35 #[.int .i64 0,.slice none 0 0,.slice none 0 0,.int .i64 0,.bool false,.slice none 0 0,.slice none 0 0,.slice none 0 0,.slice none 0 0,.slice none 0 0,.slice none 0 0,.bool false,.slice none 0 0,.int .i64 0,.slice none 0 0,.int .i64 0,.bool false,.slice none 0 0,.int .i64 0,.slice none 0 0,.int .i64 0]) rfl rfl (zTu o) _ _ rfl rfl rfl rfl rfl ?_;intro W4 hv aH;have ar:=hd (show jR W4 wr.heap.size o from hv);have bf:=hd (zN (zQ wr (.cells #[.int .i64 0,.slice none 0 0,.slice none 0 0,.int .i64 0,.bool false,.slice none 0 0,.slice none 0 0,.slice none 0 0,.slice none 0 0,.slice none 0 0,.slice none 0 0,.bool false,.slice none 0 0,.int .i64 0,.slice none 0 0,.int .i64 0,.bool false,.slice none 0 0,.int .i64 0,.slice none 0 0,.int .i64 0] 35)) aH Km);have HM:=hd (HM.o.call bf.o);have bi:=hd (bi.o.later bf.o);clear hv aH)
    |((with_reducible refine zC (ty:=29) (x:=.tmp 27) ?_);refine zEa HM.o.v2 (j:=1) (vs:=[.slice s.A s.n s.c,.int .i64 s.x]) zW _ rfl rfl rfl Ka ?_)
    |((with_reducible refine zC (ty:=29) (x:=.tmp 30) ?_);refine zEa HM.o.v2 (j:=3) (vs:=[.slice s.B s.m s.d,.int .i64 s.y]) zW _ rfl rfl rfl Ka ?_)
    |((with_reducible refine zNd ?_);refine zEq Tryz.underlying120 kFv Kd Kd (c:=PC.row ⟨s.A,s.n,s.c,s.x⟩) (d:=PC.row ⟨s.B,s.m,s.d,s.y⟩) rfl rfl _ _ rfl rfl rfl rfl ?_))
   obtain⟨W5,dJ⟩:∃W5,W4.alloc (.cells (PC.row ⟨s.A,s.n,s.c,s.x⟩++PC.row ⟨s.B,s.m,s.d,s.y⟩) 29)=W5:=⟨_,rfl⟩;have dx:=hd (show W5.heap[W4.heap.size]? =some (.cells (PC.row ⟨s.A,s.n,s.c,s.x⟩++PC.row ⟨s.B,s.m,s.d,s.y⟩) 29 (0,0))from dJ▸heap_alloc_new W4 _);have aY:Below W4.heap.size W4 W5:=dJ▸Kl.alloc Km _;rw[dJ];have uW:=hd (HM.o.call aY);have mj:=hd (bi.o.later aY);have iC:=hd (ar.o.keep aY);have cj:=hd (HB.o.trans ((bf.o.trans (aY.mono bf.o.size)).mono HB.o.size));clear dJ aY bf HB uV HM bi ar;obtain⟨g8,mi⟩:∃g,wr.heap.size=g:=⟨_,rfl⟩;obtain⟨EM,iD⟩:∃g,W4.heap.size=g:=⟨_,rfl⟩;rw[mi]at iC;rw[iD]at dx;try rw[mi]
   try rw[iD]
   clear mi iD;obtain⟨wo,rfl⟩:∃wo:World,wo=wr:=⟨_,rfl⟩;go_loopw [34] (fun i wr=>∃j:Nat,j<=2/\i=.int .i64 j/\Kr (Below W5.heap.size W5 wr)/\Kr ((1<=j->(zk&&zo)=true)/\(2<=j->(zl&&zq)=true))) (fun i _=>2-(intOf i).toNat)
   case atStart=>exact⟨0,by omega,rfl,hd Kl,hd ⟨fun h=>absurd h Kb,fun h=>absurd h Kb⟩⟩
   case round=>
    obtain⟨j,hj,rfl,aF,rP⟩:=hrel;rcases(show j=0∨j=1∨j=2 by omega)with rfl|rfl|rfl
    ·have ou:=hd (zE4 (zIj dx.o).1 aF.o);have HM:=hd (uW.o.call aF.o);have bi:=hd (mj.o.later aF.o);have ar:=hd (iC.o.keep aF.o);have aI:=hd (qN.o.later HM.o.below);cases zk
     case false=>
      have jw:=hd (show false=E by have:=HE.o;simpa using this);exact kOm
     case true=>
      cases zo
      case false=>
       have jw:=hd (show false=E by have:=HE.o;simpa using this);exact kOm
      case true=>
       go_wp2_with(first
        |((with_reducible refine zC (ty:=29) (x:=.tmp 36) ?_);refine kK zW (r:=PC.row (PC.mk s.A s.n s.c s.x)) ou.o rfl _ rfl rfl rfl ?_)
        |((with_reducible refine zF (ty:=29) (x:=.tmp 10) ?_);refine zA zW (r:=PC.row (PC.mk s.A s.n s.c s.x)) (jT.new wr 29 #[.slice none 0 0,.int .i64 0]) rfl rfl (PC.one _) _ _ rfl rfl rfl rfl rfl ?_;intro W6 hv aH;have ac:=hd hv;have ay:=hd (zN (zQ wr (.cells #[.slice none 0 0,.int .i64 0] 29)) aH Km);have HM:=hd (HM.o.call ay.o);have bi:=hd (bi.o.later ay.o);have aI:=hd (aI.o.later ay.o);have ar:=hd (ar.o.keep ay.o);have aF:=hd (zI aF.o ay.o);clear hv aH ay)
        |((with_reducible refine zC (ty:=29) (x:=.tmp 10) ?_);refine zB zW ac.o rfl _ rfl rfl rfl ?_)
        |((with_reducible refine zC (ty:=35) (x:=.tmp 8) ?_);refine zG ar.o _ rfl rfl rfl ?_)
        |(go_at_call 20;refine Calls.mono (zB4 aI.o bi.o az.o sF.o BR.o) ?_;rintro e w7 ⟨c11,rfl,h1,b9⟩;have HQ:=hd h1;have HM:=hd (HM.o.call b9);have ac:=hd (ac.o.keep b9);have aI:=hd (aI.o.later b9);have aF:=hd (zI aF.o b9);clear b9 h1;dsimp only)
        |((with_reducible refine zF (ty:=29) (x:=.tmp 11) ?_);refine zA zW (r:=c11.row) (jT.new w7 29 #[.slice none 0 0,.int .i64 0]) rfl rfl (PC.one _) _ _ rfl rfl rfl rfl rfl ?_;intro W8 hv aH;have cX:=hd hv;have ay:=hd (zN (zQ w7 (.cells #[.slice none 0 0,.int .i64 0] 29)) aH Km);have HM:=hd (HM.o.call ay.o);have aI:=hd (aI.o.later ay.o);have HQ:=hd (HQ.o.later ay.o);have ac:=hd (ac.o.keep ay.o);have aF:=hd (zI aF.o ay.o);clear hv aH ay)
        |((with_reducible refine kH (ty:=29) (x:=.tmp 10) ?_);refine zK zW ac.o rfl _ rfl Ke rfl ?_)
        |((with_reducible refine kH (ty:=29) (x:=.tmp 11) ?_);refine zK zW cX.o rfl _ rfl Ke rfl ?_)
        |(go_at_call 63;refine Calls.mono (zB5 aI.o HQ.o BW.o) ?_;rintro e w9 ⟨rfl,b9⟩;have HM:=hd (HM.o.call b9);have aF:=hd (zI aF.o b9);clear b9))
       go_roundw
       case rel=>exact⟨1,by omega,by go_num,aF,hd ⟨fun h=>rfl,fun h=>absurd h Kb⟩⟩
       case measure=>simp[intOf]
    ·have ou:=hd (zE4 (zIj dx.o).2 aF.o);have HM:=hd (uW.o.call aF.o);have bi:=hd (mj.o.later aF.o);have ar:=hd (iC.o.keep aF.o);have aI:=hd (Ca.o.later HM.o.below);cases zl
     case false=>
      have jw:=hd (show false=E by have:=HE.o;simpa using this);exact kOm
     case true=>
      cases zq
      case false=>
       have jw:=hd (show false=E by have:=HE.o;simpa using this);exact kOm
      case true=>
       go_wp2_with(first
        |((with_reducible refine zC (ty:=29) (x:=.tmp 36) ?_);refine kK zW (r:=PC.row (PC.mk s.B s.m s.d s.y)) ou.o rfl _ rfl rfl rfl ?_)
        |((with_reducible refine zF (ty:=29) (x:=.tmp 10) ?_);refine zA zW (r:=PC.row (PC.mk s.B s.m s.d s.y)) (jT.new wr 29 #[.slice none 0 0,.int .i64 0]) rfl rfl (PC.one _) _ _ rfl rfl rfl rfl rfl ?_;intro W6 hv aH;have ac:=hd hv;have ay:=hd (zN (zQ wr (.cells #[.slice none 0 0,.int .i64 0] 29)) aH Km);have HM:=hd (HM.o.call ay.o);have bi:=hd (bi.o.later ay.o);have aI:=hd (aI.o.later ay.o);have ar:=hd (ar.o.keep ay.o);have aF:=hd (zI aF.o ay.o);clear hv aH ay)
        |((with_reducible refine zC (ty:=29) (x:=.tmp 10) ?_);refine zB zW ac.o rfl _ rfl rfl rfl ?_)
        |((with_reducible refine zC (ty:=35) (x:=.tmp 8) ?_);refine zG ar.o _ rfl rfl rfl ?_)
        |(go_at_call 20;refine Calls.mono (zB4 aI.o bi.o az.o jq.o BQ.o) ?_;rintro e w7 ⟨c11,rfl,h1,b9⟩;have HQ:=hd h1;have HM:=hd (HM.o.call b9);have ac:=hd (ac.o.keep b9);have aI:=hd (aI.o.later b9);have aF:=hd (zI aF.o b9);clear b9 h1;dsimp only)
        |((with_reducible refine zF (ty:=29) (x:=.tmp 11) ?_);refine zA zW (r:=c11.row) (jT.new w7 29 #[.slice none 0 0,.int .i64 0]) rfl rfl (PC.one _) _ _ rfl rfl rfl rfl rfl ?_;intro W8 hv aH;have cX:=hd hv;have ay:=hd (zN (zQ w7 (.cells #[.slice none 0 0,.int .i64 0] 29)) aH Km);have HM:=hd (HM.o.call ay.o);have aI:=hd (aI.o.later ay.o);have HQ:=hd (HQ.o.later ay.o);have ac:=hd (ac.o.keep ay.o);have aF:=hd (zI aF.o ay.o);clear hv aH ay)
        |((with_reducible refine kH (ty:=29) (x:=.tmp 10) ?_);refine zK zW ac.o rfl _ rfl Ke rfl ?_)
        |((with_reducible refine kH (ty:=29) (x:=.tmp 11) ?_);refine zK zW cX.o rfl _ rfl Ke rfl ?_)
        |(go_at_call 63;refine Calls.mono (zB5 aI.o HQ.o BV.o) ?_;rintro e w9 ⟨rfl,b9⟩;have HM:=hd (HM.o.call b9);have aF:=hd (zI aF.o b9);clear b9))
       go_roundw
       case rel=>exact⟨2,by omega,by go_num,aF,hd ⟨fun h=>rP.o.1 Kb,fun h=>rfl⟩⟩
       case measure=>simp[intOf]
    ·have qY:=hd (zI cj.o aF.o);go_wp2
     go_roundw
     case rel=>exact⟨1,by omega,by go_num,qY,hd ⟨fun h=>⟨rP.o.1 Kb,rP.o.2 Kb⟩,fun h=>absurd h Kb⟩⟩
     case measure=>simp[intOf]
  ·have HM:=hd (zu.o.call HB.o);have bi:=hd (EL.o.later HB.o);have uV:=hd (zE4 (zIj (gT.o)).2 HB.o);go_wp2_with(first
    |((with_reducible refine zC (ty:=35) (x:=.tmp 24) ?_);refine kK zMk (r:=ci.row) uV.o rfl _ rfl rfl rfl ?_)
    |((with_reducible refine zF (ty:=35) (x:=.tmp 8) ?_);refine zA zMk (r:=ci.row) (jT.new wr 35 #[.int .i64 0,.slice none 0 0,.slice none 0 0,.int .i64 0,.bool false,.slice none 0 0,.slice none 0 0,.slice none 0 0,.slice none 0 0,.slice none 0 0,.slice none 0 0,.bool false,.slice none 0 0,.int .i64 0,.slice none 0 0,.int .i64 0,.bool false,.slice none 0 0,.int .i64 0,.slice none 0 0,.int .i64 0]) rfl rfl (zTu ci) _ _ rfl rfl rfl rfl rfl ?_;intro W4 hv aH;have ar:=hd (show jR W4 wr.heap.size ci from hv);have bf:=hd (zN (zQ wr (.cells #[.int .i64 0,.slice none 0 0,.slice none 0 0,.int .i64 0,.bool false,.slice none 0 0,.slice none 0 0,.slice none 0 0,.slice none 0 0,.slice none 0 0,.slice none 0 0,.bool false,.slice none 0 0,.int .i64 0,.slice none 0 0,.int .i64 0,.bool false,.slice none 0 0,.int .i64 0,.slice none 0 0,.int .i64 0] 35)) aH Km);have HM:=hd (HM.o.call bf.o);have bi:=hd (bi.o.later bf.o);clear hv aH)
    |((with_reducible refine zC (ty:=29) (x:=.tmp 27) ?_);refine zEa HM.o.v2 (j:=1) (vs:=[.slice s.A s.n s.c,.int .i64 s.x]) zW _ rfl rfl rfl Ka ?_)
    |((with_reducible refine zC (ty:=29) (x:=.tmp 30) ?_);refine zEa HM.o.v2 (j:=3) (vs:=[.slice s.B s.m s.d,.int .i64 s.y]) zW _ rfl rfl rfl Ka ?_)
    |((with_reducible refine zNd ?_);refine zEq Tryz.underlying120 kFv Kd Kd (c:=PC.row ⟨s.A,s.n,s.c,s.x⟩) (d:=PC.row ⟨s.B,s.m,s.d,s.y⟩) rfl rfl _ _ rfl rfl rfl rfl ?_))
   obtain⟨W5,dJ⟩:∃W5,W4.alloc (.cells (PC.row ⟨s.A,s.n,s.c,s.x⟩++PC.row ⟨s.B,s.m,s.d,s.y⟩) 29)=W5:=⟨_,rfl⟩;have dx:=hd (show W5.heap[W4.heap.size]? =some (.cells (PC.row ⟨s.A,s.n,s.c,s.x⟩++PC.row ⟨s.B,s.m,s.d,s.y⟩) 29 (0,0))from dJ▸heap_alloc_new W4 _);have aY:Below W4.heap.size W4 W5:=dJ▸Kl.alloc Km _;rw[dJ];have uW:=hd (HM.o.call aY);have mj:=hd (bi.o.later aY);have iC:=hd (ar.o.keep aY);have cj:=hd (HB.o.trans ((bf.o.trans (aY.mono bf.o.size)).mono HB.o.size));clear dJ aY bf HB uV HM bi ar;obtain⟨g8,mi⟩:∃g,wr.heap.size=g:=⟨_,rfl⟩;obtain⟨EM,iD⟩:∃g,W4.heap.size=g:=⟨_,rfl⟩;rw[mi]at iC;rw[iD]at dx;try rw[mi]
   try rw[iD]
   clear mi iD;obtain⟨wo,rfl⟩:∃wo:World,wo=wr:=⟨_,rfl⟩;go_loopw [34] (fun i wr=>∃j:Nat,j<=2/\i=.int .i64 j/\Kr (Below W5.heap.size W5 wr)/\Kr ((1<=j->(vO&&zr)=true)/\(2<=j->(zm&&zt)=true))) (fun i _=>2-(intOf i).toNat)
   case atStart=>exact⟨0,by omega,rfl,hd Kl,hd ⟨fun h=>absurd h Kb,fun h=>absurd h Kb⟩⟩
   case round=>
    obtain⟨j,hj,rfl,aF,rP⟩:=hrel;rcases(show j=0∨j=1∨j=2 by omega)with rfl|rfl|rfl
    ·have ou:=hd (zE4 (zIj dx.o).1 aF.o);have HM:=hd (uW.o.call aF.o);have bi:=hd (mj.o.later aF.o);have ar:=hd (iC.o.keep aF.o);have aI:=hd (qN.o.later HM.o.below);cases vO
     case false=>
      have jw:=hd (show false=E by have:=HE.o;simpa using this);exact kOm
     case true=>
      cases zr
      case false=>
       have jw:=hd (show false=E by have:=HE.o;simpa using this);exact kOm
      case true=>
       go_wp2_with(first
        |((with_reducible refine zC (ty:=29) (x:=.tmp 36) ?_);refine kK zW (r:=PC.row (PC.mk s.A s.n s.c s.x)) ou.o rfl _ rfl rfl rfl ?_)
        |((with_reducible refine zF (ty:=29) (x:=.tmp 10) ?_);refine zA zW (r:=PC.row (PC.mk s.A s.n s.c s.x)) (jT.new wr 29 #[.slice none 0 0,.int .i64 0]) rfl rfl (PC.one _) _ _ rfl rfl rfl rfl rfl ?_;intro W6 hv aH;have ac:=hd hv;have ay:=hd (zN (zQ wr (.cells #[.slice none 0 0,.int .i64 0] 29)) aH Km);have HM:=hd (HM.o.call ay.o);have bi:=hd (bi.o.later ay.o);have aI:=hd (aI.o.later ay.o);have ar:=hd (ar.o.keep ay.o);have aF:=hd (zI aF.o ay.o);clear hv aH ay)
        |((with_reducible refine zC (ty:=29) (x:=.tmp 10) ?_);refine zB zW ac.o rfl _ rfl rfl rfl ?_)
        |((with_reducible refine zC (ty:=35) (x:=.tmp 8) ?_);refine zG ar.o _ rfl rfl rfl ?_)
        |(go_at_call 20;refine Calls.mono (zB4 aI.o bi.o vY.o sF.o BP.o) ?_;rintro e w7 ⟨c11,rfl,h1,b9⟩;have HQ:=hd h1;have HM:=hd (HM.o.call b9);have ac:=hd (ac.o.keep b9);have aI:=hd (aI.o.later b9);have aF:=hd (zI aF.o b9);clear b9 h1;dsimp only)
        |((with_reducible refine zF (ty:=29) (x:=.tmp 11) ?_);refine zA zW (r:=c11.row) (jT.new w7 29 #[.slice none 0 0,.int .i64 0]) rfl rfl (PC.one _) _ _ rfl rfl rfl rfl rfl ?_;intro W8 hv aH;have cX:=hd hv;have ay:=hd (zN (zQ w7 (.cells #[.slice none 0 0,.int .i64 0] 29)) aH Km);have HM:=hd (HM.o.call ay.o);have aI:=hd (aI.o.later ay.o);have HQ:=hd (HQ.o.later ay.o);have ac:=hd (ac.o.keep ay.o);have aF:=hd (zI aF.o ay.o);clear hv aH ay)
        |((with_reducible refine kH (ty:=29) (x:=.tmp 10) ?_);refine zK zW ac.o rfl _ rfl Ke rfl ?_)
        |((with_reducible refine kH (ty:=29) (x:=.tmp 11) ?_);refine zK zW cX.o rfl _ rfl Ke rfl ?_)
        |(go_at_call 63;refine Calls.mono (zB5 aI.o HQ.o BU.o) ?_;rintro e w9 ⟨rfl,b9⟩;have HM:=hd (HM.o.call b9);have aF:=hd (zI aF.o b9);clear b9))
       go_roundw
       case rel=>exact⟨1,by omega,by go_num,aF,hd ⟨fun h=>rfl,fun h=>absurd h Kb⟩⟩
       case measure=>simp[intOf]
    ·have ou:=hd (zE4 (zIj dx.o).2 aF.o);have HM:=hd (uW.o.call aF.o);have bi:=hd (mj.o.later aF.o);have ar:=hd (iC.o.keep aF.o);have aI:=hd (Ca.o.later HM.o.below);cases zm
     case false=>
      have jw:=hd (show false=E by have:=HE.o;simpa using this);exact kOm
     case true=>
      cases zt
      case false=>
       have jw:=hd (show false=E by have:=HE.o;simpa using this);exact kOm
      case true=>
       go_wp2_with(first
        |((with_reducible refine zC (ty:=29) (x:=.tmp 36) ?_);refine kK zW (r:=PC.row (PC.mk s.B s.m s.d s.y)) ou.o rfl _ rfl rfl rfl ?_)
        |((with_reducible refine zF (ty:=29) (x:=.tmp 10) ?_);refine zA zW (r:=PC.row (PC.mk s.B s.m s.d s.y)) (jT.new wr 29 #[.slice none 0 0,.int .i64 0]) rfl rfl (PC.one _) _ _ rfl rfl rfl rfl rfl ?_;intro W6 hv aH;have ac:=hd hv;have ay:=hd (zN (zQ wr (.cells #[.slice none 0 0,.int .i64 0] 29)) aH Km);have HM:=hd (HM.o.call ay.o);have bi:=hd (bi.o.later ay.o);have aI:=hd (aI.o.later ay.o);have ar:=hd (ar.o.keep ay.o);have aF:=hd (zI aF.o ay.o);clear hv aH ay)
        |((with_reducible refine zC (ty:=29) (x:=.tmp 10) ?_);refine zB zW ac.o rfl _ rfl rfl rfl ?_)
        |((with_reducible refine zC (ty:=35) (x:=.tmp 8) ?_);refine zG ar.o _ rfl rfl rfl ?_)
        |(go_at_call 20;refine Calls.mono (zB4 aI.o bi.o vY.o jq.o BO.o) ?_;rintro e w7 ⟨c11,rfl,h1,b9⟩;have HQ:=hd h1;have HM:=hd (HM.o.call b9);have ac:=hd (ac.o.keep b9);have aI:=hd (aI.o.later b9);have aF:=hd (zI aF.o b9);clear b9 h1;dsimp only)
        |((with_reducible refine zF (ty:=29) (x:=.tmp 11) ?_);refine zA zW (r:=c11.row) (jT.new w7 29 #[.slice none 0 0,.int .i64 0]) rfl rfl (PC.one _) _ _ rfl rfl rfl rfl rfl ?_;intro W8 hv aH;have cX:=hd hv;have ay:=hd (zN (zQ w7 (.cells #[.slice none 0 0,.int .i64 0] 29)) aH Km);have HM:=hd (HM.o.call ay.o);have aI:=hd (aI.o.later ay.o);have HQ:=hd (HQ.o.later ay.o);have ac:=hd (ac.o.keep ay.o);have aF:=hd (zI aF.o ay.o);clear hv aH ay)
        |((with_reducible refine kH (ty:=29) (x:=.tmp 10) ?_);refine zK zW ac.o rfl _ rfl Ke rfl ?_)
        |((with_reducible refine kH (ty:=29) (x:=.tmp 11) ?_);refine zK zW cX.o rfl _ rfl Ke rfl ?_)
        |(go_at_call 63;refine Calls.mono (zB5 aI.o HQ.o BS.o) ?_;rintro e w9 ⟨rfl,b9⟩;have HM:=hd (HM.o.call b9);have aF:=hd (zI aF.o b9);clear b9))
       go_roundw
       case rel=>exact⟨2,by omega,by go_num,aF,hd ⟨fun h=>rP.o.1 Kb,fun h=>rfl⟩⟩
       case measure=>simp[intOf]
    ·have qY:=hd (zI cj.o aF.o);go_wp2
     go_roundw
     case rel=>exact⟨2,by omega,by go_num,qY,hd ⟨fun h=>HT.o.1 Kb,fun h=>⟨rP.o.1 Kb,rP.o.2 Kb⟩⟩⟩
     case measure=>simp[intOf]
  ·have HX:=hd HT.o;have hx1:=HX.o.1 Kb;have hx2:=HX.o.2 Kb;have Cb:true=E:=by have:=HE.o;rw[hx1.1,hx1.2,hx2.1,hx2.2]at this;exact this
   have jw:=hd Cb;clear hx1 hx2 Cb;go_wp2
   go_ret
   exact⟨by have h:=jw.o;subst h;rfl,zI zu.o.below HB.o⟩
