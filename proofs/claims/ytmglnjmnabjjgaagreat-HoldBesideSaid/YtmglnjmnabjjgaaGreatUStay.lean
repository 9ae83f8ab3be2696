import Derived.Test.YtmglnjmnabjjgaaGreatUStayP
set_option maxRecDepth 100000
namespace Go.Proofs.YtmglnjmnabjjgaaGreat
open Go.RowKit
structure V2 (w:World)(s:SC)(o:OC)(W:World):Prop where
 v2:jT 33 W w.heap.size s.row
 v3:jR W (w.heap.size+1) o
 below:Below w.heap.size w W
theorem V2.call {w W W':World}{s:SC}{o:OC}(h:V2 w s o W)(hb:Below W.heap.size W W'):V2 w s o W':=⟨h.v2.keep hb,h.v3.keep hb,zI h.below hb⟩
theorem kIy (w:World)(s:SC)(o:OC):∃W0,(w.alloc (.cells s.row 33)).alloc (.cells o.row 35)=W0/\V2 w s o W0:=by
 have e1:(w.alloc (.cells s.row 33)).heap.size=w.heap.size+1:=by simp
 have h1:=(jT.new w 33 s.row).alloc (.cells o.row 35);have h2:=jR.new (w.alloc (.cells s.row 33)) o;rw[e1]at h2;exact⟨_,rfl,h1,h2,(Kl.alloc Km _).alloc Kc _⟩
theorem kOb {P:Prop}(h:P:=by
 go_wp2_with(first
  |((with_reducible refine zC (ty:=29) (x:=.tmp 36) ?_);refine kK zW (r:=PC.row (PC.mk s.B s.m s.d s.y)) mq.o rfl _ rfl rfl rfl ?_)
  |((with_reducible refine zC (ty:=29) (x:=.tmp 36) ?_);refine kK zW (r:=PC.row (PC.mk s.A s.n s.c s.x)) mq.o rfl _ rfl rfl rfl ?_)
  |((with_reducible refine zC (ty:=29) (x:=.tmp 10) ?_);refine zB zW ac.o rfl _ rfl rfl rfl ?_)
  |((with_reducible refine zF (ty:=29) (x:=.tmp 10) ?_);refine zA zW (r:=PC.row (PC.mk s.B s.m s.d s.y)) (jT.new wr 29 #[.slice none 0 0,.int .i64 0]) rfl rfl (PC.one _) _ _ rfl rfl rfl rfl rfl ?_;intro W6 hv aF;have ac:=hd hv;have aB:=hd (zN (zQ wr (.cells #[.slice none 0 0,.int .i64 0] 29)) aF Km);have HM:=hd (HM.o.call aB.o);have ba:=hd (ba.o.later aB.o);have aH:=hd (aH.o.later aB.o);have bq:=hd (bq.o.keep aB.o);have aC:=hd (zI aC.o aB.o);clear hv aF aB)
  |((with_reducible refine zF (ty:=29) (x:=.tmp 10) ?_);refine zA zW (r:=PC.row (PC.mk s.A s.n s.c s.x)) (jT.new wr 29 #[.slice none 0 0,.int .i64 0]) rfl rfl (PC.one _) _ _ rfl rfl rfl rfl rfl ?_;intro W6 hv aF;have ac:=hd hv;have aB:=hd (zN (zQ wr (.cells #[.slice none 0 0,.int .i64 0] 29)) aF Km);have HM:=hd (HM.o.call aB.o);have ba:=hd (ba.o.later aB.o);have aH:=hd (aH.o.later aB.o);have bq:=hd (bq.o.keep aB.o);have aC:=hd (zI aC.o aB.o);clear hv aF aB)
  |((with_reducible refine zF (ty:=29) (x:=.tmp 11) ?_);refine zA zW (r:=c11.row) (jT.new w7 29 #[.slice none 0 0,.int .i64 0]) rfl rfl (PC.one _) _ _ rfl rfl rfl rfl rfl ?_;intro W8 hv aF;have cC:=hd hv;have aB:=hd (zN (zQ w7 (.cells #[.slice none 0 0,.int .i64 0] 29)) aF Km);have HM:=hd (HM.o.call aB.o);have aH:=hd (aH.o.later aB.o);have HQ:=hd (HQ.o.later aB.o);have ac:=hd (ac.o.keep aB.o);have aC:=hd (zI aC.o aB.o);clear hv aF aB)
  |((with_reducible refine zC (ty:=35) (x:=.tmp 8) ?_);refine zG bq.o _ rfl rfl rfl ?_)
  |(go_at_call 20;refine Calls.mono (zB4 aH.o ba.o tD.o dG.o yC.o) ?_;rintro e w7 ⟨c11,rfl,h1,b9⟩;have HQ:=hd h1;have HM:=hd (HM.o.call b9);have ac:=hd (ac.o.keep b9);have aH:=hd (aH.o.later b9);have aC:=hd (zI aC.o b9);clear b9 h1;dsimp only)
  |(go_at_call 20;refine Calls.mono (zB4 aH.o ba.o tD.o pU.o yD.o) ?_;rintro e w7 ⟨c11,rfl,h1,b9⟩;have HQ:=hd h1;have HM:=hd (HM.o.call b9);have ac:=hd (ac.o.keep b9);have aH:=hd (aH.o.later b9);have aC:=hd (zI aC.o b9);clear b9 h1;dsimp only)
  |(go_at_call 20;refine Calls.mono (zB4 aH.o ba.o ax.o dG.o yE.o) ?_;rintro e w7 ⟨c11,rfl,h1,b9⟩;have HQ:=hd h1;have HM:=hd (HM.o.call b9);have ac:=hd (ac.o.keep b9);have aH:=hd (aH.o.later b9);have aC:=hd (zI aC.o b9);clear b9 h1;dsimp only)
  |(go_at_call 20;refine Calls.mono (zB4 aH.o ba.o ax.o pU.o yF.o) ?_;rintro e w7 ⟨c11,rfl,h1,b9⟩;have HQ:=hd h1;have HM:=hd (HM.o.call b9);have ac:=hd (ac.o.keep b9);have aH:=hd (aH.o.later b9);have aC:=hd (zI aC.o b9);clear b9 h1;dsimp only)
  |((with_reducible refine kH (ty:=29) (x:=.tmp 10) ?_);refine zK zW ac.o rfl _ rfl Ke rfl ?_)
  |((with_reducible refine kH (ty:=29) (x:=.tmp 11) ?_);refine zK zW cC.o rfl _ rfl Ke rfl ?_)
  |(go_at_call 63;refine Calls.mono (zB5 aH.o HQ.o yG.o) ?_;rintro e w9 ⟨rfl,b9⟩;have HM:=hd (HM.o.call b9);have aC:=hd (zI aC.o b9);clear b9)
  |(go_at_call 63;refine Calls.mono (zB5 aH.o HQ.o yH.o) ?_;rintro e w9 ⟨rfl,b9⟩;have HM:=hd (HM.o.call b9);have aC:=hd (zI aC.o b9);clear b9)
  |(go_at_call 63;refine Calls.mono (zB5 aH.o HQ.o yI.o) ?_;rintro e w9 ⟨rfl,b9⟩;have HM:=hd (HM.o.call b9);have aC:=hd (zI aC.o b9);clear b9)
  |(go_at_call 63;refine Calls.mono (zB5 aH.o HQ.o yJ.o) ?_;rintro e w9 ⟨rfl,b9⟩;have HM:=hd (HM.o.call b9);have aC:=hd (zI aC.o b9);clear b9)
  |fail)
 go_ret
 exact⟨by have h:=lv.o;subst h;rfl,HM.o.below⟩):P:=h
set_option maxHeartbeats 8000000 in
theorem zVh {w:World}{s:SC}{o:OC}{sl:Sl}{a:OpP}{E:Bool}(hs:zB1 w s sl)(hf:fewS sl=true)(ho:OkA w o a)(ta:zAf a)(hE:(zBl sl.a a&&zBl sl.f a)=E):Calls Tryz.prog 32 #[.agg s.row,.agg o.row] w (jA (.bool E) w):=by
 obtain⟨yK,yL,la,lf⟩:=zW9 hs hf;obtain⟨⟨ai,ei⟩,hi⟩:∃r,zGl a=r:=⟨_,rfl⟩;have hti:=zT5 ta;rw[zSa,zSa]at hE;rw[hi]at hti hE;dsimp only at hti hE;have hin:=fun(W:World)(h:Below w.heap.size w W)=>hi▸zNq W o a (ho.later h) ta;obtain⟨⟨C0,wN⟩,pq⟩:∃r,zEr a.k a.q a.t a.z a.x.length 1 sl.a=r:=⟨_,rfl⟩;obtain⟨⟨C2,wO⟩,px⟩:∃r,zEr a.k a.q a.t a.z a.x.length 1 sl.f=r:=⟨_,rfl⟩;obtain⟨⟨C3,tC⟩,jd⟩:∃r,zEr ai.k ai.q ai.t ai.z ai.x.length 1 sl.a=r:=⟨_,rfl⟩;obtain⟨⟨C4,wP⟩,py⟩:∃r,zEr ai.k ai.q ai.t ai.z ai.x.length 1 sl.f=r:=⟨_,rfl⟩;rw[zPx pq,zPx px,zPx jd,zPx py]at hE;obtain⟨wQ,pz⟩:∃e,samP sl.a C0=e:=⟨_,rfl⟩;obtain⟨wR,p9⟩:∃e,samP sl.f C2=e:=⟨_,rfl⟩;obtain⟨wS,pA⟩:∃e,samP sl.a C3=e:=⟨_,rfl⟩;obtain⟨wT,pB⟩:∃e,samP sl.f C4=e:=⟨_,rfl⟩;rw[pz,p9,pA,pB]at hE;have HE:=hd hE;have yM:=hd yK;have yN:=hd yL;have pU:=hd la;have dG:=hd lf;have HO:=hd ho;have ax:=hd ta;have tD:=hd hti;have d9:=hd hin;have yF:=hd pq;have yE:=hd px;have yD:=hd jd;have yC:=hd py;have yJ:=hd pz;have yI:=hd p9;have yH:=hd pA;have yG:=hd pB;clear hs hf ho ta hti hin hi yK yL hE la lf pq px jd py pz p9 pA pB;obtain⟨W0,hW,hst⟩:=kIy w s o;have HW:=hd hW;have HM:=hd hst;clear hW hst;go_enter Tryz.func32,Tryz.ntmps32
 go_upto_region 1 with fail
 rw[HW.o];clear HW;go_upto_region 2 with(first
  |((with_reducible refine zC (ty:=35) (x:=.tmp 3) ?_);refine zG HM.o.v3 _ rfl rfl rfl ?_)
  |(go_at_call 76;refine Calls.mono (d9.o _ HM.o.below) ?_;rintro e w1 ⟨ci,rfl,h1,b9⟩;have HM:=hd (HM.o.call b9);have HI:=hd h1;clear b9 h1;dsimp only)
  |((with_reducible refine zF (ty:=35) (x:=.tmp 5) ?_);refine zA zMk (r:=ci.row) (jT.new w1 35 #[.int .i64 0,.slice none 0 0,.slice none 0 0,.int .i64 0,.bool false,.slice none 0 0,.slice none 0 0,.slice none 0 0,.slice none 0 0,.slice none 0 0,.slice none 0 0,.bool false,.slice none 0 0,.int .i64 0,.slice none 0 0,.int .i64 0,.bool false,.slice none 0 0,.int .i64 0,.slice none 0 0,.int .i64 0]) rfl rfl (zTu ci) _ _ rfl rfl rfl rfl rfl ?_;intro W2 hv aF;have cQ:=hd (show jR W2 w1.heap.size ci from hv);have HB:=hd (zN (zQ w1 (.cells #[.int .i64 0,.slice none 0 0,.slice none 0 0,.int .i64 0,.bool false,.slice none 0 0,.slice none 0 0,.slice none 0 0,.slice none 0 0,.slice none 0 0,.slice none 0 0,.bool false,.slice none 0 0,.int .i64 0,.slice none 0 0,.int .i64 0,.bool false,.slice none 0 0,.int .i64 0,.slice none 0 0,.int .i64 0] 35)) aF Km);have HI:=hd (HI.o.now.later HB.o);clear hv aF))
 have HM:=hd (HM.o.call HB.o);clear HB;obtain⟨g5,oK⟩:∃g,w1.heap.size=g:=⟨_,rfl⟩;rw[oK]at cQ;try rw[oK]
 clear oK;go_wp2_with(first
  |((with_reducible refine zC (ty:=35) (x:=.tmp 3) ?_);refine zG HM.o.v3 _ rfl rfl rfl ?_)
  |((with_reducible refine zC (ty:=35) (x:=.tmp 5) ?_);refine zG cQ.o _ rfl rfl rfl ?_)
  |((with_reducible refine zNd ?_);refine zEq Tryz.underlying119 kEv Kd Kd (c:=o.row) (d:=ci.row) rfl rfl _ _ rfl rfl rfl rfl ?_))
 obtain⟨W3,hW3⟩:∃W3,W2.alloc (.cells (o.row++ci.row) 35)=W3:=⟨_,rfl⟩;have fL:=hd (show W3.heap[W2.heap.size]? =some (.cells (o.row++ci.row) 35 (0,0))from hW3▸heap_alloc_new W2 _);have hb3:Below W2.heap.size W2 W3:=hW3▸Kl.alloc Km _;rw[hW3];have wU:=hd (HM.o.call hb3);have C5:=hd (HI.o.later hb3);clear hW3 hb3 cQ HM HI;obtain⟨g20,pC⟩:∃g,W2.heap.size=g:=⟨_,rfl⟩;rw[pC]at fL;try rw[pC]
 clear pC;go_loopw [22] (fun i wr=>∃k:Nat,k<=2/\i=.int .i64 k/\Kr (Below W3.heap.size W3 wr)/\Kr ((1<=k->(wN&&wQ)=true/\(wO&&wR)=true)/\(2<=k->(tC&&wS)=true/\(wP&&wT)=true))) (fun i _=>2-(intOf i).toNat)
 case atStart=>exact⟨0,by omega,rfl,hd Kl,hd ⟨fun h=>absurd h Kb,fun h=>absurd h Kb⟩⟩
 case round=>
  obtain⟨k,hk,rfl,HB,HT⟩:=hrel;rcases(show k=0∨k=1∨k=2 by omega)with rfl|rfl|rfl
  ·have HM:=hd (wU.o.call HB.o);have ba:=hd (HO.o.later (HM.o.below));have sk:=hd (zE4 (zIj (fL.o)).1 HB.o);go_wp2_with(first
    |((with_reducible refine zC (ty:=35) (x:=.tmp 24) ?_);refine kK zMk (r:=o.row) sk.o rfl _ rfl rfl rfl ?_)
    |((with_reducible refine zF (ty:=35) (x:=.tmp 8) ?_);refine zA zMk (r:=o.row) (jT.new wr 35 #[.int .i64 0,.slice none 0 0,.slice none 0 0,.int .i64 0,.bool false,.slice none 0 0,.slice none 0 0,.slice none 0 0,.slice none 0 0,.slice none 0 0,.slice none 0 0,.bool false,.slice none 0 0,.int .i64 0,.slice none 0 0,.int .i64 0,.bool false,.slice none 0 0,.int .i64 0,.slice none 0 0,.int .i64 0]) rfl rfl (zTu o) _ _ rfl rfl rfl rfl rfl ?_;intro W4 hv aF;have bq:=hd (show jR W4 wr.heap.size o from hv);have aO:=hd (zN (zQ wr (.cells #[.int .i64 0,.slice none 0 0,.slice none 0 0,.int .i64 0,.bool false,.slice none 0 0,.slice none 0 0,.slice none 0 0,.slice none 0 0,.slice none 0 0,.slice none 0 0,.bool false,.slice none 0 0,.int .i64 0,.slice none 0 0,.int .i64 0,.bool false,.slice none 0 0,.int .i64 0,.slice none 0 0,.int .i64 0] 35)) aF Km);have HM:=hd (HM.o.call aO.o);have ba:=hd (ba.o.later aO.o);clear hv aF)
    |((with_reducible refine zC (ty:=29) (x:=.tmp 27) ?_);refine zEa HM.o.v2 (j:=1) (vs:=[.slice s.A s.n s.c,.int .i64 s.x]) zW _ rfl rfl rfl Ka ?_)
    |((with_reducible refine zC (ty:=29) (x:=.tmp 30) ?_);refine zEa HM.o.v2 (j:=3) (vs:=[.slice s.B s.m s.d,.int .i64 s.y]) zW _ rfl rfl rfl Ka ?_)
    |((with_reducible refine zNd ?_);refine zEq Tryz.underlying120 kFv Kd Kd (c:=PC.row ⟨s.A,s.n,s.c,s.x⟩) (d:=PC.row ⟨s.B,s.m,s.d,s.y⟩) rfl rfl _ _ rfl rfl rfl rfl ?_))
   obtain⟨W5,gF⟩:∃W5,W4.alloc (.cells (PC.row ⟨s.A,s.n,s.c,s.x⟩++PC.row ⟨s.B,s.m,s.d,s.y⟩) 29)=W5:=⟨_,rfl⟩;have ip:=hd (show W5.heap[W4.heap.size]? =some (.cells (PC.row ⟨s.A,s.n,s.c,s.x⟩++PC.row ⟨s.B,s.m,s.d,s.y⟩) 29 (0,0))from gF▸heap_alloc_new W4 _);have aU:Below W4.heap.size W4 W5:=gF▸Kl.alloc Km _;rw[gF];have su:=hd (HM.o.call aU);have kf:=hd (ba.o.later aU);have gm:=hd (bq.o.keep aU);have dH:=hd (HB.o.trans ((aO.o.trans (aU.mono aO.o.size)).mono HB.o.size));clear gF aU aO HB sk HM ba bq;obtain⟨g8,ke⟩:∃g,wr.heap.size=g:=⟨_,rfl⟩;obtain⟨C6,gu⟩:∃g,W4.heap.size=g:=⟨_,rfl⟩;rw[ke]at gm;rw[gu]at ip;try rw[ke]
   try rw[gu]
   clear ke gu;obtain⟨wo,rfl⟩:∃wo:World,wo=wr:=⟨_,rfl⟩;go_loopw [34] (fun i wr=>∃j:Nat,j<=2/\i=.int .i64 j/\Kr (Below W5.heap.size W5 wr)/\Kr ((1<=j->(wN&&wQ)=true)/\(2<=j->(wO&&wR)=true))) (fun i _=>2-(intOf i).toNat)
   case atStart=>exact⟨0,by omega,rfl,hd Kl,hd ⟨fun h=>absurd h Kb,fun h=>absurd h Kb⟩⟩
   case round=>
    obtain⟨j,hj,rfl,aC,pD⟩:=hrel;rcases(show j=0∨j=1∨j=2 by omega)with rfl|rfl|rfl
    ·have mq:=hd (zE4 (zIj ip.o).1 aC.o);have HM:=hd (su.o.call aC.o);have ba:=hd (kf.o.later aC.o);have bq:=hd (gm.o.keep aC.o);have aH:=hd (yM.o.later HM.o.below);cases wN
     case false=>
      have lv:=hd (show false=E by have:=HE.o;simpa using this);exact kOb
     case true=>
      cases wQ
      case false=>
       have lv:=hd (show false=E by have:=HE.o;simpa using this);exact kOb
      case true=>
       go_wp2_with(first
        |((with_reducible refine zC (ty:=29) (x:=.tmp 36) ?_);refine kK zW (r:=PC.row (PC.mk s.A s.n s.c s.x)) mq.o rfl _ rfl rfl rfl ?_)
        |((with_reducible refine zF (ty:=29) (x:=.tmp 10) ?_);refine zA zW (r:=PC.row (PC.mk s.A s.n s.c s.x)) (jT.new wr 29 #[.slice none 0 0,.int .i64 0]) rfl rfl (PC.one _) _ _ rfl rfl rfl rfl rfl ?_;intro W6 hv aF;have ac:=hd hv;have aB:=hd (zN (zQ wr (.cells #[.slice none 0 0,.int .i64 0] 29)) aF Km);have HM:=hd (HM.o.call aB.o);have ba:=hd (ba.o.later aB.o);have aH:=hd (aH.o.later aB.o);have bq:=hd (bq.o.keep aB.o);have aC:=hd (zI aC.o aB.o);clear hv aF aB)
        |((with_reducible refine zC (ty:=29) (x:=.tmp 10) ?_);refine zB zW ac.o rfl _ rfl rfl rfl ?_)
        |((with_reducible refine zC (ty:=35) (x:=.tmp 8) ?_);refine zG bq.o _ rfl rfl rfl ?_)
        |(go_at_call 20;refine Calls.mono (zB4 aH.o ba.o ax.o pU.o yF.o) ?_;rintro e w7 ⟨c11,rfl,h1,b9⟩;have HQ:=hd h1;have HM:=hd (HM.o.call b9);have ac:=hd (ac.o.keep b9);have aH:=hd (aH.o.later b9);have aC:=hd (zI aC.o b9);clear b9 h1;dsimp only)
        |((with_reducible refine zF (ty:=29) (x:=.tmp 11) ?_);refine zA zW (r:=c11.row) (jT.new w7 29 #[.slice none 0 0,.int .i64 0]) rfl rfl (PC.one _) _ _ rfl rfl rfl rfl rfl ?_;intro W8 hv aF;have cC:=hd hv;have aB:=hd (zN (zQ w7 (.cells #[.slice none 0 0,.int .i64 0] 29)) aF Km);have HM:=hd (HM.o.call aB.o);have aH:=hd (aH.o.later aB.o);have HQ:=hd (HQ.o.later aB.o);have ac:=hd (ac.o.keep aB.o);have aC:=hd (zI aC.o aB.o);clear hv aF aB)
        |((with_reducible refine kH (ty:=29) (x:=.tmp 10) ?_);refine zK zW ac.o rfl _ rfl Ke rfl ?_)
        |((with_reducible refine kH (ty:=29) (x:=.tmp 11) ?_);refine zK zW cC.o rfl _ rfl Ke rfl ?_)
        |(go_at_call 63;refine Calls.mono (zB5 aH.o HQ.o yJ.o) ?_;rintro e w9 ⟨rfl,b9⟩;have HM:=hd (HM.o.call b9);have aC:=hd (zI aC.o b9);clear b9))
       go_roundw
       case rel=>exact⟨1,by omega,by go_num,aC,hd ⟨fun h=>rfl,fun h=>absurd h Kb⟩⟩
       case measure=>simp[intOf]
    ·have mq:=hd (zE4 (zIj ip.o).2 aC.o);have HM:=hd (su.o.call aC.o);have ba:=hd (kf.o.later aC.o);have bq:=hd (gm.o.keep aC.o);have aH:=hd (yN.o.later HM.o.below);cases wO
     case false=>
      have lv:=hd (show false=E by have:=HE.o;simpa using this);exact kOb
     case true=>
      cases wR
      case false=>
       have lv:=hd (show false=E by have:=HE.o;simpa using this);exact kOb
      case true=>
       go_wp2_with(first
        |((with_reducible refine zC (ty:=29) (x:=.tmp 36) ?_);refine kK zW (r:=PC.row (PC.mk s.B s.m s.d s.y)) mq.o rfl _ rfl rfl rfl ?_)
        |((with_reducible refine zF (ty:=29) (x:=.tmp 10) ?_);refine zA zW (r:=PC.row (PC.mk s.B s.m s.d s.y)) (jT.new wr 29 #[.slice none 0 0,.int .i64 0]) rfl rfl (PC.one _) _ _ rfl rfl rfl rfl rfl ?_;intro W6 hv aF;have ac:=hd hv;have aB:=hd (zN (zQ wr (.cells #[.slice none 0 0,.int .i64 0] 29)) aF Km);have HM:=hd (HM.o.call aB.o);have ba:=hd (ba.o.later aB.o);have aH:=hd (aH.o.later aB.o);have bq:=hd (bq.o.keep aB.o);have aC:=hd (zI aC.o aB.o);clear hv aF aB)
        |((with_reducible refine zC (ty:=29) (x:=.tmp 10) ?_);refine zB zW ac.o rfl _ rfl rfl rfl ?_)
        |((with_reducible refine zC (ty:=35) (x:=.tmp 8) ?_);refine zG bq.o _ rfl rfl rfl ?_)
        |(go_at_call 20;refine Calls.mono (zB4 aH.o ba.o ax.o dG.o yE.o) ?_;rintro e w7 ⟨c11,rfl,h1,b9⟩;have HQ:=hd h1;have HM:=hd (HM.o.call b9);have ac:=hd (ac.o.keep b9);have aH:=hd (aH.o.later b9);have aC:=hd (zI aC.o b9);clear b9 h1;dsimp only)
        |((with_reducible refine zF (ty:=29) (x:=.tmp 11) ?_);refine zA zW (r:=c11.row) (jT.new w7 29 #[.slice none 0 0,.int .i64 0]) rfl rfl (PC.one _) _ _ rfl rfl rfl rfl rfl ?_;intro W8 hv aF;have cC:=hd hv;have aB:=hd (zN (zQ w7 (.cells #[.slice none 0 0,.int .i64 0] 29)) aF Km);have HM:=hd (HM.o.call aB.o);have aH:=hd (aH.o.later aB.o);have HQ:=hd (HQ.o.later aB.o);have ac:=hd (ac.o.keep aB.o);have aC:=hd (zI aC.o aB.o);clear hv aF aB)
        |((with_reducible refine kH (ty:=29) (x:=.tmp 10) ?_);refine zK zW ac.o rfl _ rfl Ke rfl ?_)
        |((with_reducible refine kH (ty:=29) (x:=.tmp 11) ?_);refine zK zW cC.o rfl _ rfl Ke rfl ?_)
        |(go_at_call 63;refine Calls.mono (zB5 aH.o HQ.o yI.o) ?_;rintro e w9 ⟨rfl,b9⟩;have HM:=hd (HM.o.call b9);have aC:=hd (zI aC.o b9);clear b9))
       go_roundw
       case rel=>exact⟨2,by omega,by go_num,aC,hd ⟨fun h=>pD.o.1 Kb,fun h=>rfl⟩⟩
       case measure=>simp[intOf]
    ·have oL:=hd (zI dH.o aC.o);go_wp2
     go_roundw
     case rel=>exact⟨1,by omega,by go_num,oL,hd ⟨fun h=>⟨pD.o.1 Kb,pD.o.2 Kb⟩,fun h=>absurd h Kb⟩⟩
     case measure=>simp[intOf]
  ·have HM:=hd (wU.o.call HB.o);have ba:=hd (C5.o.later HB.o);have sk:=hd (zE4 (zIj (fL.o)).2 HB.o);go_wp2_with(first
    |((with_reducible refine zC (ty:=35) (x:=.tmp 24) ?_);refine kK zMk (r:=ci.row) sk.o rfl _ rfl rfl rfl ?_)
    |((with_reducible refine zF (ty:=35) (x:=.tmp 8) ?_);refine zA zMk (r:=ci.row) (jT.new wr 35 #[.int .i64 0,.slice none 0 0,.slice none 0 0,.int .i64 0,.bool false,.slice none 0 0,.slice none 0 0,.slice none 0 0,.slice none 0 0,.slice none 0 0,.slice none 0 0,.bool false,.slice none 0 0,.int .i64 0,.slice none 0 0,.int .i64 0,.bool false,.slice none 0 0,.int .i64 0,.slice none 0 0,.int .i64 0]) rfl rfl (zTu ci) _ _ rfl rfl rfl rfl rfl ?_;intro W4 hv aF;have bq:=hd (show jR W4 wr.heap.size ci from hv);have aO:=hd (zN (zQ wr (.cells #[.int .i64 0,.slice none 0 0,.slice none 0 0,.int .i64 0,.bool false,.slice none 0 0,.slice none 0 0,.slice none 0 0,.slice none 0 0,.slice none 0 0,.slice none 0 0,.bool false,.slice none 0 0,.int .i64 0,.slice none 0 0,.int .i64 0,.bool false,.slice none 0 0,.int .i64 0,.slice none 0 0,.int .i64 0] 35)) aF Km);have HM:=hd (HM.o.call aO.o);have ba:=hd (ba.o.later aO.o);clear hv aF)
    |((with_reducible refine zC (ty:=29) (x:=.tmp 27) ?_);refine zEa HM.o.v2 (j:=1) (vs:=[.slice s.A s.n s.c,.int .i64 s.x]) zW _ rfl rfl rfl Ka ?_)
    |((with_reducible refine zC (ty:=29) (x:=.tmp 30) ?_);refine zEa HM.o.v2 (j:=3) (vs:=[.slice s.B s.m s.d,.int .i64 s.y]) zW _ rfl rfl rfl Ka ?_)
    |((with_reducible refine zNd ?_);refine zEq Tryz.underlying120 kFv Kd Kd (c:=PC.row ⟨s.A,s.n,s.c,s.x⟩) (d:=PC.row ⟨s.B,s.m,s.d,s.y⟩) rfl rfl _ _ rfl rfl rfl rfl ?_))
   obtain⟨W5,gF⟩:∃W5,W4.alloc (.cells (PC.row ⟨s.A,s.n,s.c,s.x⟩++PC.row ⟨s.B,s.m,s.d,s.y⟩) 29)=W5:=⟨_,rfl⟩;have ip:=hd (show W5.heap[W4.heap.size]? =some (.cells (PC.row ⟨s.A,s.n,s.c,s.x⟩++PC.row ⟨s.B,s.m,s.d,s.y⟩) 29 (0,0))from gF▸heap_alloc_new W4 _);have aU:Below W4.heap.size W4 W5:=gF▸Kl.alloc Km _;rw[gF];have su:=hd (HM.o.call aU);have kf:=hd (ba.o.later aU);have gm:=hd (bq.o.keep aU);have dH:=hd (HB.o.trans ((aO.o.trans (aU.mono aO.o.size)).mono HB.o.size));clear gF aU aO HB sk HM ba bq;obtain⟨g8,ke⟩:∃g,wr.heap.size=g:=⟨_,rfl⟩;obtain⟨C6,gu⟩:∃g,W4.heap.size=g:=⟨_,rfl⟩;rw[ke]at gm;rw[gu]at ip;try rw[ke]
   try rw[gu]
   clear ke gu;obtain⟨wo,rfl⟩:∃wo:World,wo=wr:=⟨_,rfl⟩;go_loopw [34] (fun i wr=>∃j:Nat,j<=2/\i=.int .i64 j/\Kr (Below W5.heap.size W5 wr)/\Kr ((1<=j->(tC&&wS)=true)/\(2<=j->(wP&&wT)=true))) (fun i _=>2-(intOf i).toNat)
   case atStart=>exact⟨0,by omega,rfl,hd Kl,hd ⟨fun h=>absurd h Kb,fun h=>absurd h Kb⟩⟩
   case round=>
    obtain⟨j,hj,rfl,aC,pD⟩:=hrel;rcases(show j=0∨j=1∨j=2 by omega)with rfl|rfl|rfl
    ·have mq:=hd (zE4 (zIj ip.o).1 aC.o);have HM:=hd (su.o.call aC.o);have ba:=hd (kf.o.later aC.o);have bq:=hd (gm.o.keep aC.o);have aH:=hd (yM.o.later HM.o.below);cases tC
     case false=>
      have lv:=hd (show false=E by have:=HE.o;simpa using this);exact kOb
     case true=>
      cases wS
      case false=>
       have lv:=hd (show false=E by have:=HE.o;simpa using this);exact kOb
      case true=>
       go_wp2_with(first
        |((with_reducible refine zC (ty:=29) (x:=.tmp 36) ?_);refine kK zW (r:=PC.row (PC.mk s.A s.n s.c s.x)) mq.o rfl _ rfl rfl rfl ?_)
        |((with_reducible refine zF (ty:=29) (x:=.tmp 10) ?_);refine zA zW (r:=PC.row (PC.mk s.A s.n s.c s.x)) (jT.new wr 29 #[.slice none 0 0,.int .i64 0]) rfl rfl (PC.one _) _ _ rfl rfl rfl rfl rfl ?_;intro W6 hv aF;have ac:=hd hv;have aB:=hd (zN (zQ wr (.cells #[.slice none 0 0,.int .i64 0] 29)) aF Km);have HM:=hd (HM.o.call aB.o);have ba:=hd (ba.o.later aB.o);have aH:=hd (aH.o.later aB.o);have bq:=hd (bq.o.keep aB.o);have aC:=hd (zI aC.o aB.o);clear hv aF aB)
        |((with_reducible refine zC (ty:=29) (x:=.tmp 10) ?_);refine zB zW ac.o rfl _ rfl rfl rfl ?_)
        |((with_reducible refine zC (ty:=35) (x:=.tmp 8) ?_);refine zG bq.o _ rfl rfl rfl ?_)
        |(go_at_call 20;refine Calls.mono (zB4 aH.o ba.o tD.o pU.o yD.o) ?_;rintro e w7 ⟨c11,rfl,h1,b9⟩;have HQ:=hd h1;have HM:=hd (HM.o.call b9);have ac:=hd (ac.o.keep b9);have aH:=hd (aH.o.later b9);have aC:=hd (zI aC.o b9);clear b9 h1;dsimp only)
        |((with_reducible refine zF (ty:=29) (x:=.tmp 11) ?_);refine zA zW (r:=c11.row) (jT.new w7 29 #[.slice none 0 0,.int .i64 0]) rfl rfl (PC.one _) _ _ rfl rfl rfl rfl rfl ?_;intro W8 hv aF;have cC:=hd hv;have aB:=hd (zN (zQ w7 (.cells #[.slice none 0 0,.int .i64 0] 29)) aF Km);have HM:=hd (HM.o.call aB.o);have aH:=hd (aH.o.later aB.o);have HQ:=hd (HQ.o.later aB.o);have ac:=hd (ac.o.keep aB.o);have aC:=hd (zI aC.o aB.o);clear hv aF aB)
        |((with_reducible refine kH (ty:=29) (x:=.tmp 10) ?_);refine zK zW ac.o rfl _ rfl Ke rfl ?_)
        |((with_reducible refine kH (ty:=29) (x:=.tmp 11) ?_);refine zK zW cC.o rfl _ rfl Ke rfl ?_)
        |(go_at_call 63;refine Calls.mono (zB5 aH.o HQ.o yH.o) ?_;rintro e w9 ⟨rfl,b9⟩;have HM:=hd (HM.o.call b9);have aC:=hd (zI aC.o b9);clear b9))
       go_roundw
       case rel=>exact⟨1,by omega,by go_num,aC,hd ⟨fun h=>rfl,fun h=>absurd h Kb⟩⟩
       case measure=>simp[intOf]
    ·have mq:=hd (zE4 (zIj ip.o).2 aC.o);have HM:=hd (su.o.call aC.o);have ba:=hd (kf.o.later aC.o);have bq:=hd (gm.o.keep aC.o);have aH:=hd (yN.o.later HM.o.below);cases wP
     case false=>
      have lv:=hd (show false=E by have:=HE.o;simpa using this);exact kOb
     case true=>
      cases wT
      case false=>
       have lv:=hd (show false=E by have:=HE.o;simpa using this);exact kOb
      case true=>
       go_wp2_with(first
        |((with_reducible refine zC (ty:=29) (x:=.tmp 36) ?_);refine kK zW (r:=PC.row (PC.mk s.B s.m s.d s.y)) mq.o rfl _ rfl rfl rfl ?_)
        |((with_reducible refine zF (ty:=29) (x:=.tmp 10) ?_);refine zA zW (r:=PC.row (PC.mk s.B s.m s.d s.y)) (jT.new wr 29 #[.slice none 0 0,.int .i64 0]) rfl rfl (PC.one _) _ _ rfl rfl rfl rfl rfl ?_;intro W6 hv aF;have ac:=hd hv;have aB:=hd (zN (zQ wr (.cells #[.slice none 0 0,.int .i64 0] 29)) aF Km);have HM:=hd (HM.o.call aB.o);have ba:=hd (ba.o.later aB.o);have aH:=hd (aH.o.later aB.o);have bq:=hd (bq.o.keep aB.o);have aC:=hd (zI aC.o aB.o);clear hv aF aB)
        |((with_reducible refine zC (ty:=29) (x:=.tmp 10) ?_);refine zB zW ac.o rfl _ rfl rfl rfl ?_)
        |((with_reducible refine zC (ty:=35) (x:=.tmp 8) ?_);refine zG bq.o _ rfl rfl rfl ?_)
        |(go_at_call 20;refine Calls.mono (zB4 aH.o ba.o tD.o dG.o yC.o) ?_;rintro e w7 ⟨c11,rfl,h1,b9⟩;have HQ:=hd h1;have HM:=hd (HM.o.call b9);have ac:=hd (ac.o.keep b9);have aH:=hd (aH.o.later b9);have aC:=hd (zI aC.o b9);clear b9 h1;dsimp only)
        |((with_reducible refine zF (ty:=29) (x:=.tmp 11) ?_);refine zA zW (r:=c11.row) (jT.new w7 29 #[.slice none 0 0,.int .i64 0]) rfl rfl (PC.one _) _ _ rfl rfl rfl rfl rfl ?_;intro W8 hv aF;have cC:=hd hv;have aB:=hd (zN (zQ w7 (.cells #[.slice none 0 0,.int .i64 0] 29)) aF Km);have HM:=hd (HM.o.call aB.o);have aH:=hd (aH.o.later aB.o);have HQ:=hd (HQ.o.later aB.o);have ac:=hd (ac.o.keep aB.o);have aC:=hd (zI aC.o aB.o);clear hv aF aB)
        |((with_reducible refine kH (ty:=29) (x:=.tmp 10) ?_);refine zK zW ac.o rfl _ rfl Ke rfl ?_)
        |((with_reducible refine kH (ty:=29) (x:=.tmp 11) ?_);refine zK zW cC.o rfl _ rfl Ke rfl ?_)
        |(go_at_call 63;refine Calls.mono (zB5 aH.o HQ.o yG.o) ?_;rintro e w9 ⟨rfl,b9⟩;have HM:=hd (HM.o.call b9);have aC:=hd (zI aC.o b9);clear b9))
       go_roundw
       case rel=>exact⟨2,by omega,by go_num,aC,hd ⟨fun h=>pD.o.1 Kb,fun h=>rfl⟩⟩
       case measure=>simp[intOf]
    ·have oL:=hd (zI dH.o aC.o);go_wp2
     go_roundw
     case rel=>exact⟨2,by omega,by go_num,oL,hd ⟨fun h=>HT.o.1 Kb,fun h=>⟨pD.o.1 Kb,pD.o.2 Kb⟩⟩⟩
     case measure=>simp[intOf]
  ·have HX:=hd HT.o;have hx1:=HX.o.1 Kb;have hx2:=HX.o.2 Kb;have yO:true=E:=by have:=HE.o;rw[hx1.1,hx1.2,hx2.1,hx2.2]at this;exact this
   have lv:=hd yO;clear hx1 hx2 yO;go_wp2
   go_ret
   exact⟨by have h:=lv.o;subst h;rfl,zI wU.o.below HB.o⟩
