import Derived.Test.YtmkciabefepelaaGreatUStayP
set_option maxRecDepth 100000
namespace Go.Proofs.YtmkciabefepelaaGreat
open Go.RowKit
structure V2 (w:World)(s:SC)(o:OC)(W:World):Prop where
 v2:jT 33 W w.heap.size s.row
 v3:jR W (w.heap.size+1) o
 below:Below w.heap.size w W
theorem V2.call {w W W':World}{s:SC}{o:OC}(h:V2 w s o W)(hb:Below W.heap.size W W'):V2 w s o W':=⟨h.v2.keep hb,h.v3.keep hb,zI h.below hb⟩
theorem kIy (w:World)(s:SC)(o:OC):∃W0,(w.alloc (.cells s.row 33)).alloc (.cells o.row 35)=W0/\V2 w s o W0:=by
 have e1:(w.alloc (.cells s.row 33)).heap.size=w.heap.size+1:=by simp
 have h1:=(jT.new w 33 s.row).alloc (.cells o.row 35);have h2:=jR.new (w.alloc (.cells s.row 33)) o;rw[e1]at h2;exact⟨_,rfl,h1,h2,(Kl.alloc Km _).alloc Kc _⟩
theorem kOa {P:Prop}(h:P:=by
 go_wp2_with(first
  |((with_reducible refine zC (ty:=29) (x:=.tmp 36) ?_);refine kK zW (r:=PC.row (PC.mk s.B s.m s.d s.y)) mS.o rfl _ rfl rfl rfl ?_)
  |((with_reducible refine zC (ty:=29) (x:=.tmp 36) ?_);refine kK zW (r:=PC.row (PC.mk s.A s.n s.c s.x)) mS.o rfl _ rfl rfl rfl ?_)
  |((with_reducible refine zC (ty:=29) (x:=.tmp 10) ?_);refine zB zW ac.o rfl _ rfl rfl rfl ?_)
  |((with_reducible refine zF (ty:=29) (x:=.tmp 10) ?_);refine zA zW (r:=PC.row (PC.mk s.B s.m s.d s.y)) (jT.new wr 29 #[.slice none 0 0,.int .i64 0]) rfl rfl (PC.one _) _ _ rfl rfl rfl rfl rfl ?_;intro W6 hv aG;have ac:=hd hv;have aC:=hd (zN (zQ wr (.cells #[.slice none 0 0,.int .i64 0] 29)) aG Km);have HM:=hd (HM.o.call aC.o);have bg:=hd (bg.o.later aC.o);have aM:=hd (aM.o.later aC.o);have bh:=hd (bh.o.keep aC.o);have aD:=hd (zI aD.o aC.o);clear hv aG aC)
  |((with_reducible refine zF (ty:=29) (x:=.tmp 10) ?_);refine zA zW (r:=PC.row (PC.mk s.A s.n s.c s.x)) (jT.new wr 29 #[.slice none 0 0,.int .i64 0]) rfl rfl (PC.one _) _ _ rfl rfl rfl rfl rfl ?_;intro W6 hv aG;have ac:=hd hv;have aC:=hd (zN (zQ wr (.cells #[.slice none 0 0,.int .i64 0] 29)) aG Km);have HM:=hd (HM.o.call aC.o);have bg:=hd (bg.o.later aC.o);have aM:=hd (aM.o.later aC.o);have bh:=hd (bh.o.keep aC.o);have aD:=hd (zI aD.o aC.o);clear hv aG aC)
  |((with_reducible refine zF (ty:=29) (x:=.tmp 11) ?_);refine zA zW (r:=c11.row) (jT.new w7 29 #[.slice none 0 0,.int .i64 0]) rfl rfl (PC.one _) _ _ rfl rfl rfl rfl rfl ?_;intro W8 hv aG;have dh:=hd hv;have aC:=hd (zN (zQ w7 (.cells #[.slice none 0 0,.int .i64 0] 29)) aG Km);have HM:=hd (HM.o.call aC.o);have aM:=hd (aM.o.later aC.o);have HQ:=hd (HQ.o.later aC.o);have ac:=hd (ac.o.keep aC.o);have aD:=hd (zI aD.o aC.o);clear hv aG aC)
  |((with_reducible refine zC (ty:=35) (x:=.tmp 8) ?_);refine zG bh.o _ rfl rfl rfl ?_)
  |(go_at_call 87;refine Calls.mono (zB4 aM.o bg.o uP.o iP.o Bn.o) ?_;rintro e w7 ⟨c11,rfl,h1,b9⟩;have HQ:=hd h1;have HM:=hd (HM.o.call b9);have ac:=hd (ac.o.keep b9);have aM:=hd (aM.o.later b9);have aD:=hd (zI aD.o b9);clear b9 h1;dsimp only)
  |(go_at_call 87;refine Calls.mono (zB4 aM.o bg.o uP.o qU.o Bo.o) ?_;rintro e w7 ⟨c11,rfl,h1,b9⟩;have HQ:=hd h1;have HM:=hd (HM.o.call b9);have ac:=hd (ac.o.keep b9);have aM:=hd (aM.o.later b9);have aD:=hd (zI aD.o b9);clear b9 h1;dsimp only)
  |(go_at_call 87;refine Calls.mono (zB4 aM.o bg.o au.o iP.o Bp.o) ?_;rintro e w7 ⟨c11,rfl,h1,b9⟩;have HQ:=hd h1;have HM:=hd (HM.o.call b9);have ac:=hd (ac.o.keep b9);have aM:=hd (aM.o.later b9);have aD:=hd (zI aD.o b9);clear b9 h1;dsimp only)
  |(go_at_call 87;refine Calls.mono (zB4 aM.o bg.o au.o qU.o Bq.o) ?_;rintro e w7 ⟨c11,rfl,h1,b9⟩;have HQ:=hd h1;have HM:=hd (HM.o.call b9);have ac:=hd (ac.o.keep b9);have aM:=hd (aM.o.later b9);have aD:=hd (zI aD.o b9);clear b9 h1;dsimp only)
  |((with_reducible refine kH (ty:=29) (x:=.tmp 10) ?_);refine zK zW ac.o rfl _ rfl Ke rfl ?_)
  |((with_reducible refine kH (ty:=29) (x:=.tmp 11) ?_);refine zK zW dh.o rfl _ rfl Ke rfl ?_)
  |(go_at_call 57;refine Calls.mono (zB5 aM.o HQ.o Br.o) ?_;rintro e w9 ⟨rfl,b9⟩;have HM:=hd (HM.o.call b9);have aD:=hd (zI aD.o b9);clear b9)
  |(go_at_call 57;refine Calls.mono (zB5 aM.o HQ.o Bt.o) ?_;rintro e w9 ⟨rfl,b9⟩;have HM:=hd (HM.o.call b9);have aD:=hd (zI aD.o b9);clear b9)
  |(go_at_call 57;refine Calls.mono (zB5 aM.o HQ.o Bu.o) ?_;rintro e w9 ⟨rfl,b9⟩;have HM:=hd (HM.o.call b9);have aD:=hd (zI aD.o b9);clear b9)
  |(go_at_call 57;refine Calls.mono (zB5 aM.o HQ.o Bv.o) ?_;rintro e w9 ⟨rfl,b9⟩;have HM:=hd (HM.o.call b9);have aD:=hd (zI aD.o b9);clear b9)
  |fail)
 go_ret
 exact⟨by have h:=lQ.o;subst h;rfl,HM.o.below⟩):P:=h
set_option maxHeartbeats 8000000 in
theorem zVh {w:World}{s:SC}{o:OC}{sl:Sl}{a:OpP}{E:Bool}(hs:zB1 w s sl)(hf:fewS sl=true)(ho:OkA w o a)(ta:zAf a)(hE:(zBl sl.a a&&zBl sl.f a)=E):Calls Tryz.prog 43 #[.agg s.row,.agg o.row] w (jA (.bool E) w):=by
 obtain⟨Bw,Bz,la,lf⟩:=zW9 hs hf;obtain⟨⟨ai,ei⟩,hi⟩:∃r,zGl a=r:=⟨_,rfl⟩;have hti:=zT5 ta;rw[zSa,zSa]at hE;rw[hi]at hti hE;dsimp only at hti hE;have hin:=fun(W:World)(h:Below w.heap.size w W)=>hi▸zNq W o a (ho.later h) ta;obtain⟨⟨Eo,yj⟩,qw⟩:∃r,zEr a.k a.q a.t a.z a.x.length 1 sl.a=r:=⟨_,rfl⟩;obtain⟨⟨Ep,yl⟩,qx⟩:∃r,zEr a.k a.q a.t a.z a.x.length 1 sl.f=r:=⟨_,rfl⟩;obtain⟨⟨Er,un⟩,jt⟩:∃r,zEr ai.k ai.q ai.t ai.z ai.x.length 1 sl.a=r:=⟨_,rfl⟩;obtain⟨⟨Es,ym⟩,qy⟩:∃r,zEr ai.k ai.q ai.t ai.z ai.x.length 1 sl.f=r:=⟨_,rfl⟩;rw[zPx qw,zPx qx,zPx jt,zPx qy]at hE;obtain⟨yq,qz⟩:∃e,samP sl.a Eo=e:=⟨_,rfl⟩;obtain⟨yr,q8⟩:∃e,samP sl.f Ep=e:=⟨_,rfl⟩;obtain⟨yt,q9⟩:∃e,samP sl.a Er=e:=⟨_,rfl⟩;obtain⟨yu,qA⟩:∃e,samP sl.f Es=e:=⟨_,rfl⟩;rw[qz,q8,q9,qA]at hE;have HE:=hd hE;have uK:=hd Bw;have B0:=hd Bz;have qU:=hd la;have iP:=hd lf;have HO:=hd ho;have au:=hd ta;have uP:=hd hti;have dS:=hd hin;have Bq:=hd qw;have Bp:=hd qx;have Bo:=hd jt;have Bn:=hd qy;have Bv:=hd qz;have Bu:=hd q8;have Bt:=hd q9;have Br:=hd qA;clear hs hf ho ta hti hin hi Bw Bz hE la lf qw qx jt qy qz q8 q9 qA;obtain⟨W0,hW,hst⟩:=kIy w s o;have HW:=hd hW;have HM:=hd hst;clear hW hst;go_enter Tryz.func43,Tryz.ntmps43
 go_upto_region 1 with fail
 rw[HW.o];clear HW;go_upto_region 2 with(first
  |((with_reducible refine zC (ty:=35) (x:=.tmp 3) ?_);refine zG HM.o.v3 _ rfl rfl rfl ?_)
  |(go_at_call 21;refine Calls.mono (dS.o _ HM.o.below) ?_;rintro e w1 ⟨ci,rfl,h1,b9⟩;have HM:=hd (HM.o.call b9);have HI:=hd h1;clear b9 h1;dsimp only)
  |((with_reducible refine zF (ty:=35) (x:=.tmp 5) ?_);refine zA zMk (r:=ci.row) (jT.new w1 35 #[.int .i64 0,.slice none 0 0,.slice none 0 0,.int .i64 0,.bool false,.slice none 0 0,.slice none 0 0,.slice none 0 0,.slice none 0 0,.slice none 0 0,.slice none 0 0,.bool false,.slice none 0 0,.int .i64 0,.slice none 0 0,.int .i64 0,.bool false,.slice none 0 0,.int .i64 0,.slice none 0 0,.int .i64 0]) rfl rfl (zTu ci) _ _ rfl rfl rfl rfl rfl ?_;intro W2 hv aG;have dG:=hd (show jR W2 w1.heap.size ci from hv);have HB:=hd (zN (zQ w1 (.cells #[.int .i64 0,.slice none 0 0,.slice none 0 0,.int .i64 0,.bool false,.slice none 0 0,.slice none 0 0,.slice none 0 0,.slice none 0 0,.slice none 0 0,.slice none 0 0,.bool false,.slice none 0 0,.int .i64 0,.slice none 0 0,.int .i64 0,.bool false,.slice none 0 0,.int .i64 0,.slice none 0 0,.int .i64 0] 35)) aG Km);have HI:=hd (HI.o.now.later HB.o);clear hv aG))
 have HM:=hd (HM.o.call HB.o);clear HB;obtain⟨g5,pz⟩:∃g,w1.heap.size=g:=⟨_,rfl⟩;rw[pz]at dG;try rw[pz]
 clear pz;go_wp2_with(first
  |((with_reducible refine zC (ty:=35) (x:=.tmp 3) ?_);refine zG HM.o.v3 _ rfl rfl rfl ?_)
  |((with_reducible refine zC (ty:=35) (x:=.tmp 5) ?_);refine zG dG.o _ rfl rfl rfl ?_)
  |((with_reducible refine zNd ?_);refine zEq Tryz.underlying100 kEv Kd Kd (c:=o.row) (d:=ci.row) rfl rfl _ _ rfl rfl rfl rfl ?_))
 obtain⟨W3,hW3⟩:∃W3,W2.alloc (.cells (o.row++ci.row) 35)=W3:=⟨_,rfl⟩;have dv:=hd (show W3.heap[W2.heap.size]? =some (.cells (o.row++ci.row) 35 (0,0))from hW3▸heap_alloc_new W2 _);have hb3:Below W2.heap.size W2 W3:=hW3▸Kl.alloc Km _;rw[hW3];have yw:=hd (HM.o.call hb3);have Et:=hd (HI.o.later hb3);clear hW3 hb3 dG HM HI;obtain⟨g20,qB⟩:∃g,W2.heap.size=g:=⟨_,rfl⟩;rw[qB]at dv;try rw[qB]
 clear qB;go_loopw [22] (fun i wr=>∃k:Nat,k<=2/\i=.int .i64 k/\Kr (Below W3.heap.size W3 wr)/\Kr ((1<=k->(yj&&yq)=true/\(yl&&yr)=true)/\(2<=k->(un&&yt)=true/\(ym&&yu)=true))) (fun i _=>2-(intOf i).toNat)
 case atStart=>exact⟨0,by omega,rfl,hd Kl,hd ⟨fun h=>absurd h Kb,fun h=>absurd h Kb⟩⟩
 case round=>
  obtain⟨k,hk,rfl,HB,HT⟩:=hrel;rcases(show k=0∨k=1∨k=2 by omega)with rfl|rfl|rfl
  ·have HM:=hd (yw.o.call HB.o);have bg:=hd (HO.o.later (HM.o.below));have tV:=hd (zE4 (zIj (dv.o)).1 HB.o);go_wp2_with(first
    |((with_reducible refine zC (ty:=35) (x:=.tmp 24) ?_);refine kK zMk (r:=o.row) tV.o rfl _ rfl rfl rfl ?_)
    |((with_reducible refine zF (ty:=35) (x:=.tmp 8) ?_);refine zA zMk (r:=o.row) (jT.new wr 35 #[.int .i64 0,.slice none 0 0,.slice none 0 0,.int .i64 0,.bool false,.slice none 0 0,.slice none 0 0,.slice none 0 0,.slice none 0 0,.slice none 0 0,.slice none 0 0,.bool false,.slice none 0 0,.int .i64 0,.slice none 0 0,.int .i64 0,.bool false,.slice none 0 0,.int .i64 0,.slice none 0 0,.int .i64 0]) rfl rfl (zTu o) _ _ rfl rfl rfl rfl rfl ?_;intro W4 hv aG;have bh:=hd (show jR W4 wr.heap.size o from hv);have aJ:=hd (zN (zQ wr (.cells #[.int .i64 0,.slice none 0 0,.slice none 0 0,.int .i64 0,.bool false,.slice none 0 0,.slice none 0 0,.slice none 0 0,.slice none 0 0,.slice none 0 0,.slice none 0 0,.bool false,.slice none 0 0,.int .i64 0,.slice none 0 0,.int .i64 0,.bool false,.slice none 0 0,.int .i64 0,.slice none 0 0,.int .i64 0] 35)) aG Km);have HM:=hd (HM.o.call aJ.o);have bg:=hd (bg.o.later aJ.o);clear hv aG)
    |((with_reducible refine zC (ty:=29) (x:=.tmp 27) ?_);refine zEa HM.o.v2 (j:=1) (vs:=[.slice s.A s.n s.c,.int .i64 s.x]) zW _ rfl rfl rfl Ka ?_)
    |((with_reducible refine zC (ty:=29) (x:=.tmp 30) ?_);refine zEa HM.o.v2 (j:=3) (vs:=[.slice s.B s.m s.d,.int .i64 s.y]) zW _ rfl rfl rfl Ka ?_)
    |((with_reducible refine zNd ?_);refine zEq Tryz.underlying101 kFv Kd Kd (c:=PC.row ⟨s.A,s.n,s.c,s.x⟩) (d:=PC.row ⟨s.B,s.m,s.d,s.y⟩) rfl rfl _ _ rfl rfl rfl rfl ?_))
   obtain⟨W5,dI⟩:∃W5,W4.alloc (.cells (PC.row ⟨s.A,s.n,s.c,s.x⟩++PC.row ⟨s.B,s.m,s.d,s.y⟩) 29)=W5:=⟨_,rfl⟩;have iM:=hd (show W5.heap[W4.heap.size]? =some (.cells (PC.row ⟨s.A,s.n,s.c,s.x⟩++PC.row ⟨s.B,s.m,s.d,s.y⟩) 29 (0,0))from dI▸heap_alloc_new W4 _);have bz:Below W4.heap.size W4 W5:=dI▸Kl.alloc Km _;rw[dI];have tW:=hd (HM.o.call bz);have li:=hd (bg.o.later bz);have gU:=hd (bh.o.keep bz);have bc:=hd (HB.o.trans ((aJ.o.trans (bz.mono aJ.o.size)).mono HB.o.size));clear dI bz aJ HB tV HM bg bh;obtain⟨g8,kA⟩:∃g,wr.heap.size=g:=⟨_,rfl⟩;obtain⟨Eu,gV⟩:∃g,W4.heap.size=g:=⟨_,rfl⟩;rw[kA]at gU;rw[gV]at iM;try rw[kA]
   try rw[gV]
   clear kA gV;obtain⟨wo,rfl⟩:∃wo:World,wo=wr:=⟨_,rfl⟩;go_loopw [34] (fun i wr=>∃j:Nat,j<=2/\i=.int .i64 j/\Kr (Below W5.heap.size W5 wr)/\Kr ((1<=j->(yj&&yq)=true)/\(2<=j->(yl&&yr)=true))) (fun i _=>2-(intOf i).toNat)
   case atStart=>exact⟨0,by omega,rfl,hd Kl,hd ⟨fun h=>absurd h Kb,fun h=>absurd h Kb⟩⟩
   case round=>
    obtain⟨j,hj,rfl,aD,qC⟩:=hrel;rcases(show j=0∨j=1∨j=2 by omega)with rfl|rfl|rfl
    ·have mS:=hd (zE4 (zIj iM.o).1 aD.o);have HM:=hd (tW.o.call aD.o);have bg:=hd (li.o.later aD.o);have bh:=hd (gU.o.keep aD.o);have aM:=hd (uK.o.later HM.o.below);cases yj
     case false=>
      have lQ:=hd (show false=E by have:=HE.o;simpa using this);exact kOa
     case true=>
      cases yq
      case false=>
       have lQ:=hd (show false=E by have:=HE.o;simpa using this);exact kOa
      case true=>
       go_wp2_with(first
        |((with_reducible refine zC (ty:=29) (x:=.tmp 36) ?_);refine kK zW (r:=PC.row (PC.mk s.A s.n s.c s.x)) mS.o rfl _ rfl rfl rfl ?_)
        |((with_reducible refine zF (ty:=29) (x:=.tmp 10) ?_);refine zA zW (r:=PC.row (PC.mk s.A s.n s.c s.x)) (jT.new wr 29 #[.slice none 0 0,.int .i64 0]) rfl rfl (PC.one _) _ _ rfl rfl rfl rfl rfl ?_;intro W6 hv aG;have ac:=hd hv;have aC:=hd (zN (zQ wr (.cells #[.slice none 0 0,.int .i64 0] 29)) aG Km);have HM:=hd (HM.o.call aC.o);have bg:=hd (bg.o.later aC.o);have aM:=hd (aM.o.later aC.o);have bh:=hd (bh.o.keep aC.o);have aD:=hd (zI aD.o aC.o);clear hv aG aC)
        |((with_reducible refine zC (ty:=29) (x:=.tmp 10) ?_);refine zB zW ac.o rfl _ rfl rfl rfl ?_)
        |((with_reducible refine zC (ty:=35) (x:=.tmp 8) ?_);refine zG bh.o _ rfl rfl rfl ?_)
        |(go_at_call 87;refine Calls.mono (zB4 aM.o bg.o au.o qU.o Bq.o) ?_;rintro e w7 ⟨c11,rfl,h1,b9⟩;have HQ:=hd h1;have HM:=hd (HM.o.call b9);have ac:=hd (ac.o.keep b9);have aM:=hd (aM.o.later b9);have aD:=hd (zI aD.o b9);clear b9 h1;dsimp only)
        |((with_reducible refine zF (ty:=29) (x:=.tmp 11) ?_);refine zA zW (r:=c11.row) (jT.new w7 29 #[.slice none 0 0,.int .i64 0]) rfl rfl (PC.one _) _ _ rfl rfl rfl rfl rfl ?_;intro W8 hv aG;have dh:=hd hv;have aC:=hd (zN (zQ w7 (.cells #[.slice none 0 0,.int .i64 0] 29)) aG Km);have HM:=hd (HM.o.call aC.o);have aM:=hd (aM.o.later aC.o);have HQ:=hd (HQ.o.later aC.o);have ac:=hd (ac.o.keep aC.o);have aD:=hd (zI aD.o aC.o);clear hv aG aC)
        |((with_reducible refine kH (ty:=29) (x:=.tmp 10) ?_);refine zK zW ac.o rfl _ rfl Ke rfl ?_)
        |((with_reducible refine kH (ty:=29) (x:=.tmp 11) ?_);refine zK zW dh.o rfl _ rfl Ke rfl ?_)
        |(go_at_call 57;refine Calls.mono (zB5 aM.o HQ.o Bv.o) ?_;rintro e w9 ⟨rfl,b9⟩;have HM:=hd (HM.o.call b9);have aD:=hd (zI aD.o b9);clear b9))
       go_roundw
       case rel=>exact⟨1,by omega,by go_num,aD,hd ⟨fun h=>rfl,fun h=>absurd h Kb⟩⟩
       case measure=>simp[intOf]
    ·have mS:=hd (zE4 (zIj iM.o).2 aD.o);have HM:=hd (tW.o.call aD.o);have bg:=hd (li.o.later aD.o);have bh:=hd (gU.o.keep aD.o);have aM:=hd (B0.o.later HM.o.below);cases yl
     case false=>
      have lQ:=hd (show false=E by have:=HE.o;simpa using this);exact kOa
     case true=>
      cases yr
      case false=>
       have lQ:=hd (show false=E by have:=HE.o;simpa using this);exact kOa
      case true=>
       go_wp2_with(first
        |((with_reducible refine zC (ty:=29) (x:=.tmp 36) ?_);refine kK zW (r:=PC.row (PC.mk s.B s.m s.d s.y)) mS.o rfl _ rfl rfl rfl ?_)
        |((with_reducible refine zF (ty:=29) (x:=.tmp 10) ?_);refine zA zW (r:=PC.row (PC.mk s.B s.m s.d s.y)) (jT.new wr 29 #[.slice none 0 0,.int .i64 0]) rfl rfl (PC.one _) _ _ rfl rfl rfl rfl rfl ?_;intro W6 hv aG;have ac:=hd hv;have aC:=hd (zN (zQ wr (.cells #[.slice none 0 0,.int .i64 0] 29)) aG Km);have HM:=hd (HM.o.call aC.o);have bg:=hd (bg.o.later aC.o);have aM:=hd (aM.o.later aC.o);have bh:=hd (bh.o.keep aC.o);have aD:=hd (zI aD.o aC.o);clear hv aG aC)
        |((with_reducible refine zC (ty:=29) (x:=.tmp 10) ?_);refine zB zW ac.o rfl _ rfl rfl rfl ?_)
        |((with_reducible refine zC (ty:=35) (x:=.tmp 8) ?_);refine zG bh.o _ rfl rfl rfl ?_)
        |(go_at_call 87;refine Calls.mono (zB4 aM.o bg.o au.o iP.o Bp.o) ?_;rintro e w7 ⟨c11,rfl,h1,b9⟩;have HQ:=hd h1;have HM:=hd (HM.o.call b9);have ac:=hd (ac.o.keep b9);have aM:=hd (aM.o.later b9);have aD:=hd (zI aD.o b9);clear b9 h1;dsimp only)
        |((with_reducible refine zF (ty:=29) (x:=.tmp 11) ?_);refine zA zW (r:=c11.row) (jT.new w7 29 #[.slice none 0 0,.int .i64 0]) rfl rfl (PC.one _) _ _ rfl rfl rfl rfl rfl ?_;intro W8 hv aG;have dh:=hd hv;have aC:=hd (zN (zQ w7 (.cells #[.slice none 0 0,.int .i64 0] 29)) aG Km);have HM:=hd (HM.o.call aC.o);have aM:=hd (aM.o.later aC.o);have HQ:=hd (HQ.o.later aC.o);have ac:=hd (ac.o.keep aC.o);have aD:=hd (zI aD.o aC.o);clear hv aG aC)
        |((with_reducible refine kH (ty:=29) (x:=.tmp 10) ?_);refine zK zW ac.o rfl _ rfl Ke rfl ?_)
        |((with_reducible refine kH (ty:=29) (x:=.tmp 11) ?_);refine zK zW dh.o rfl _ rfl Ke rfl ?_)
        |(go_at_call 57;refine Calls.mono (zB5 aM.o HQ.o Bu.o) ?_;rintro e w9 ⟨rfl,b9⟩;have HM:=hd (HM.o.call b9);have aD:=hd (zI aD.o b9);clear b9))
       go_roundw
       case rel=>exact⟨2,by omega,by go_num,aD,hd ⟨fun h=>qC.o.1 Kb,fun h=>rfl⟩⟩
       case measure=>simp[intOf]
    ·have pF:=hd (zI bc.o aD.o);go_wp2
     go_roundw
     case rel=>exact⟨1,by omega,by go_num,pF,hd ⟨fun h=>⟨qC.o.1 Kb,qC.o.2 Kb⟩,fun h=>absurd h Kb⟩⟩
     case measure=>simp[intOf]
  ·have HM:=hd (yw.o.call HB.o);have bg:=hd (Et.o.later HB.o);have tV:=hd (zE4 (zIj (dv.o)).2 HB.o);go_wp2_with(first
    |((with_reducible refine zC (ty:=35) (x:=.tmp 24) ?_);refine kK zMk (r:=ci.row) tV.o rfl _ rfl rfl rfl ?_)
    |((with_reducible refine zF (ty:=35) (x:=.tmp 8) ?_);refine zA zMk (r:=ci.row) (jT.new wr 35 #[.int .i64 0,.slice none 0 0,.slice none 0 0,.int .i64 0,.bool false,.slice none 0 0,.slice none 0 0,.slice none 0 0,.slice none 0 0,.slice none 0 0,.slice none 0 0,.bool false,.slice none 0 0,.int .i64 0,.slice none 0 0,.int .i64 0,.bool false,.slice none 0 0,.int .i64 0,.slice none 0 0,.int .i64 0]) rfl rfl (zTu ci) _ _ rfl rfl rfl rfl rfl ?_;intro W4 hv aG;have bh:=hd (show jR W4 wr.heap.size ci from hv);have aJ:=hd (zN (zQ wr (.cells #[.int .i64 0,.slice none 0 0,.slice none 0 0,.int .i64 0,.bool false,.slice none 0 0,.slice none 0 0,.slice none 0 0,.slice none 0 0,.slice none 0 0,.slice none 0 0,.bool false,.slice none 0 0,.int .i64 0,.slice none 0 0,.int .i64 0,.bool false,.slice none 0 0,.int .i64 0,.slice none 0 0,.int .i64 0] 35)) aG Km);have HM:=hd (HM.o.call aJ.o);have bg:=hd (bg.o.later aJ.o);clear hv aG)
    |((with_reducible refine zC (ty:=29) (x:=.tmp 27) ?_);refine zEa HM.o.v2 (j:=1) (vs:=[.slice s.A s.n s.c,.int .i64 s.x]) zW _ rfl rfl rfl Ka ?_)
    |((with_reducible refine zC (ty:=29) (x:=.tmp 30) ?_);refine zEa HM.o.v2 (j:=3) (vs:=[.slice s.B s.m s.d,.int .i64 s.y]) zW _ rfl rfl rfl Ka ?_)
    |((with_reducible refine zNd ?_);refine zEq Tryz.underlying101 kFv Kd Kd (c:=PC.row ⟨s.A,s.n,s.c,s.x⟩) (d:=PC.row ⟨s.B,s.m,s.d,s.y⟩) rfl rfl _ _ rfl rfl rfl rfl ?_))
   obtain⟨W5,dI⟩:∃W5,W4.alloc (.cells (PC.row ⟨s.A,s.n,s.c,s.x⟩++PC.row ⟨s.B,s.m,s.d,s.y⟩) 29)=W5:=⟨_,rfl⟩;have iM:=hd (show W5.heap[W4.heap.size]? =some (.cells (PC.row ⟨s.A,s.n,s.c,s.x⟩++PC.row ⟨s.B,s.m,s.d,s.y⟩) 29 (0,0))from dI▸heap_alloc_new W4 _);have bz:Below W4.heap.size W4 W5:=dI▸Kl.alloc Km _;rw[dI];have tW:=hd (HM.o.call bz);have li:=hd (bg.o.later bz);have gU:=hd (bh.o.keep bz);have bc:=hd (HB.o.trans ((aJ.o.trans (bz.mono aJ.o.size)).mono HB.o.size));clear dI bz aJ HB tV HM bg bh;obtain⟨g8,kA⟩:∃g,wr.heap.size=g:=⟨_,rfl⟩;obtain⟨Eu,gV⟩:∃g,W4.heap.size=g:=⟨_,rfl⟩;rw[kA]at gU;rw[gV]at iM;try rw[kA]
   try rw[gV]
   clear kA gV;obtain⟨wo,rfl⟩:∃wo:World,wo=wr:=⟨_,rfl⟩;go_loopw [34] (fun i wr=>∃j:Nat,j<=2/\i=.int .i64 j/\Kr (Below W5.heap.size W5 wr)/\Kr ((1<=j->(un&&yt)=true)/\(2<=j->(ym&&yu)=true))) (fun i _=>2-(intOf i).toNat)
   case atStart=>exact⟨0,by omega,rfl,hd Kl,hd ⟨fun h=>absurd h Kb,fun h=>absurd h Kb⟩⟩
   case round=>
    obtain⟨j,hj,rfl,aD,qC⟩:=hrel;rcases(show j=0∨j=1∨j=2 by omega)with rfl|rfl|rfl
    ·have mS:=hd (zE4 (zIj iM.o).1 aD.o);have HM:=hd (tW.o.call aD.o);have bg:=hd (li.o.later aD.o);have bh:=hd (gU.o.keep aD.o);have aM:=hd (uK.o.later HM.o.below);cases un
     case false=>
      have lQ:=hd (show false=E by have:=HE.o;simpa using this);exact kOa
     case true=>
      cases yt
      case false=>
       have lQ:=hd (show false=E by have:=HE.o;simpa using this);exact kOa
      case true=>
       go_wp2_with(first
        |((with_reducible refine zC (ty:=29) (x:=.tmp 36) ?_);refine kK zW (r:=PC.row (PC.mk s.A s.n s.c s.x)) mS.o rfl _ rfl rfl rfl ?_)
        |((with_reducible refine zF (ty:=29) (x:=.tmp 10) ?_);refine zA zW (r:=PC.row (PC.mk s.A s.n s.c s.x)) (jT.new wr 29 #[.slice none 0 0,.int .i64 0]) rfl rfl (PC.one _) _ _ rfl rfl rfl rfl rfl ?_;intro W6 hv aG;have ac:=hd hv;have aC:=hd (zN (zQ wr (.cells #[.slice none 0 0,.int .i64 0] 29)) aG Km);have HM:=hd (HM.o.call aC.o);have bg:=hd (bg.o.later aC.o);have aM:=hd (aM.o.later aC.o);have bh:=hd (bh.o.keep aC.o);have aD:=hd (zI aD.o aC.o);clear hv aG aC)
        |((with_reducible refine zC (ty:=29) (x:=.tmp 10) ?_);refine zB zW ac.o rfl _ rfl rfl rfl ?_)
        |((with_reducible refine zC (ty:=35) (x:=.tmp 8) ?_);refine zG bh.o _ rfl rfl rfl ?_)
        |(go_at_call 87;refine Calls.mono (zB4 aM.o bg.o uP.o qU.o Bo.o) ?_;rintro e w7 ⟨c11,rfl,h1,b9⟩;have HQ:=hd h1;have HM:=hd (HM.o.call b9);have ac:=hd (ac.o.keep b9);have aM:=hd (aM.o.later b9);have aD:=hd (zI aD.o b9);clear b9 h1;dsimp only)
        |((with_reducible refine zF (ty:=29) (x:=.tmp 11) ?_);refine zA zW (r:=c11.row) (jT.new w7 29 #[.slice none 0 0,.int .i64 0]) rfl rfl (PC.one _) _ _ rfl rfl rfl rfl rfl ?_;intro W8 hv aG;have dh:=hd hv;have aC:=hd (zN (zQ w7 (.cells #[.slice none 0 0,.int .i64 0] 29)) aG Km);have HM:=hd (HM.o.call aC.o);have aM:=hd (aM.o.later aC.o);have HQ:=hd (HQ.o.later aC.o);have ac:=hd (ac.o.keep aC.o);have aD:=hd (zI aD.o aC.o);clear hv aG aC)
        |((with_reducible refine kH (ty:=29) (x:=.tmp 10) ?_);refine zK zW ac.o rfl _ rfl Ke rfl ?_)
        |((with_reducible refine kH (ty:=29) (x:=.tmp 11) ?_);refine zK zW dh.o rfl _ rfl Ke rfl ?_)
        |(go_at_call 57;refine Calls.mono (zB5 aM.o HQ.o Bt.o) ?_;rintro e w9 ⟨rfl,b9⟩;have HM:=hd (HM.o.call b9);have aD:=hd (zI aD.o b9);clear b9))
       go_roundw
       case rel=>exact⟨1,by omega,by go_num,aD,hd ⟨fun h=>rfl,fun h=>absurd h Kb⟩⟩
       case measure=>simp[intOf]
    ·have mS:=hd (zE4 (zIj iM.o).2 aD.o);have HM:=hd (tW.o.call aD.o);have bg:=hd (li.o.later aD.o);have bh:=hd (gU.o.keep aD.o);have aM:=hd (B0.o.later HM.o.below);cases ym
     case false=>
      have lQ:=hd (show false=E by have:=HE.o;simpa using this);exact kOa
     case true=>
      cases yu
      case false=>
       have lQ:=hd (show false=E by have:=HE.o;simpa using this);exact kOa
      case true=>
       go_wp2_with(first
        |((with_reducible refine zC (ty:=29) (x:=.tmp 36) ?_);refine kK zW (r:=PC.row (PC.mk s.B s.m s.d s.y)) mS.o rfl _ rfl rfl rfl ?_)
        |((with_reducible refine zF (ty:=29) (x:=.tmp 10) ?_);refine zA zW (r:=PC.row (PC.mk s.B s.m s.d s.y)) (jT.new wr 29 #[.slice none 0 0,.int .i64 0]) rfl rfl (PC.one _) _ _ rfl rfl rfl rfl rfl ?_;intro W6 hv aG;have ac:=hd hv;have aC:=hd (zN (zQ wr (.cells #[.slice none 0 0,.int .i64 0] 29)) aG Km);have HM:=hd (HM.o.call aC.o);have bg:=hd (bg.o.later aC.o);have aM:=hd (aM.o.later aC.o);have bh:=hd (bh.o.keep aC.o);have aD:=hd (zI aD.o aC.o);clear hv aG aC)
        |((with_reducible refine zC (ty:=29) (x:=.tmp 10) ?_);refine zB zW ac.o rfl _ rfl rfl rfl ?_)
        |((with_reducible refine zC (ty:=35) (x:=.tmp 8) ?_);refine zG bh.o _ rfl rfl rfl ?_)
        |(go_at_call 87;refine Calls.mono (zB4 aM.o bg.o uP.o iP.o Bn.o) ?_;rintro e w7 ⟨c11,rfl,h1,b9⟩;have HQ:=hd h1;have HM:=hd (HM.o.call b9);have ac:=hd (ac.o.keep b9);have aM:=hd (aM.o.later b9);have aD:=hd (zI aD.o b9);clear b9 h1;dsimp only)
        |((with_reducible refine zF (ty:=29) (x:=.tmp 11) ?_);refine zA zW (r:=c11.row) (jT.new w7 29 #[.slice none 0 0,.int .i64 0]) rfl rfl (PC.one _) _ _ rfl rfl rfl rfl rfl ?_;intro W8 hv aG;have dh:=hd hv;have aC:=hd (zN (zQ w7 (.cells #[.slice none 0 0,.int .i64 0] 29)) aG Km);have HM:=hd (HM.o.call aC.o);have aM:=hd (aM.o.later aC.o);have HQ:=hd (HQ.o.later aC.o);have ac:=hd (ac.o.keep aC.o);have aD:=hd (zI aD.o aC.o);clear hv aG aC)
        |((with_reducible refine kH (ty:=29) (x:=.tmp 10) ?_);refine zK zW ac.o rfl _ rfl Ke rfl ?_)
        |((with_reducible refine kH (ty:=29) (x:=.tmp 11) ?_);refine zK zW dh.o rfl _ rfl Ke rfl ?_)
        |(go_at_call 57;refine Calls.mono (zB5 aM.o HQ.o Br.o) ?_;rintro e w9 ⟨rfl,b9⟩;have HM:=hd (HM.o.call b9);have aD:=hd (zI aD.o b9);clear b9))
       go_roundw
       case rel=>exact⟨2,by omega,by go_num,aD,hd ⟨fun h=>qC.o.1 Kb,fun h=>rfl⟩⟩
       case measure=>simp[intOf]
    ·have pF:=hd (zI bc.o aD.o);go_wp2
     go_roundw
     case rel=>exact⟨2,by omega,by go_num,pF,hd ⟨fun h=>HT.o.1 Kb,fun h=>⟨qC.o.1 Kb,qC.o.2 Kb⟩⟩⟩
     case measure=>simp[intOf]
  ·have HX:=hd HT.o;have hx1:=HX.o.1 Kb;have hx2:=HX.o.2 Kb;have BA:true=E:=by have:=HE.o;rw[hx1.1,hx1.2,hx2.1,hx2.2]at this;exact this
   have lQ:=hd BA;clear hx1 hx2 BA;go_wp2
   go_ret
   exact⟨by have h:=lQ.o;subst h;rfl,zI yw.o.below HB.o⟩
