import Derived.Test.YtmglnjmnabjjgaaGreatBEmpty
set_option maxRecDepth 100000
set_option maxHeartbeats 8000000
namespace Go.Proofs.YtmglnjmnabjjgaaGreat
open Go.RowKit
theorem kN4 {P:Prop}(h:P:=by
 try have k1:(c.k==1)=false:=by simp;omega
 try have k2:(c.k==2)=false:=by simp;omega
 try have k3:(c.k==3)=false:=by simp;omega
 try have k4:(c.k==4)=false:=by simp;omega
 try have k5:(c.k==5)=false:=by simp;omega
 try have k6:(c.k==6)=false:=by simp;omega
 try have k7:(c.k==7)=false:=by simp;omega
 try have k8:(c.k==8)=false:=by simp;omega
 try have k9:(c.k==9)=false:=by simp;omega
 try have k1:(c.k==1)=false:=by simp[hk]
 try have k2:(c.k==2)=true:=by simp[hk]
 try have k1:(c.k==1)=true:=by simp[hk]
 try have k2:(c.k==2)=false:=by simp[hk]
 try have k3:(c.k==3)=true:=by simp[hk]
 try have k3:(c.k==3)=false:=by simp[hk]
 try have k4:(c.k==4)=true:=by simp[hk]
 try have k4:(c.k==4)=false:=by simp[hk]
 try have k5:(c.k==5)=true:=by simp[hk]
 try have k5:(c.k==5)=false:=by simp[hk]
 try have k6:(c.k==6)=true:=by simp[hk]
 try have k6:(c.k==6)=false:=by simp[hk]
 try have k7:(c.k==7)=true:=by simp[hk]
 try have k7:(c.k==7)=false:=by simp[hk]
 try have k8:(c.k==8)=true:=by simp[hk]
 try have k8:(c.k==8)=false:=by simp[hk]
 try have k9:(c.k==9)=true:=by simp[hk]
 try have k9:(c.k==9)=false:=by simp[hk]
 obtain⟨W0,hW,hb0,hsz,e1,e2⟩:=zBb w c;have av:=hd e1;have ah:=hd e2;have HW:=hd hW;have HB:=hd hb0;have cN:=hd hk;clear hk;clear hW hb0 hsz e1 e2;go_enter Tryz.func99,Tryz.ntmps99
 go_upto_region 1 with fail
 rw[HW.o];have hg:w.heap.size<=w.heap.size+1:=Nat.le_succ _;go_wp2_with(first
  |((with_reducible refine zC (ty:=3) ?_);refine zE av.o (j:=0) (v:=.int .i64 c.k) _ rfl rfl rfl rfl Tryz.underlying3 rfl ?_)
  |((with_reducible refine zF (ty:=33) ?_);refine zL zJu av.o _ _ rfl rfl rfl 11 _ [.bool false,.slice none 0 0,.int .i64 0,.slice none 0 0,.int .i64 0] {c with fi:=false,F1:=none,f1:=0,d1:=0,fo:=0,F2:=none,f2:=0,d2:=0,fp:=0} rfl Kj rfl rfl Kh Km Ka ?_;intro W9 ak ag;have ah:=hd (ah.o.off ag Kb);have av:=hd ak;have HB:=hd (zN HB.o ag Kb);clear ak ag)
  |((with_reducible refine zF (ty:=33) ?_);refine zL zJu av.o _ _ rfl rfl rfl 16 _ [.bool false,.slice none 0 0,.int .i64 0,.slice none 0 0,.int .i64 0] {c with fi:=false,F1:=none,f1:=0,d1:=0,fo:=0,F2:=none,f2:=0,d2:=0,fp:=0,gi:=false,G1:=none,g1:=0,e1:=0,go:=0,G2:=none,g2:=0,e2:=0,gp:=0} rfl Kj rfl rfl Kh Km Ka ?_;intro W9 ak ag;have ah:=hd (ah.o.off ag Kb);have av:=hd ak;have HB:=hd (zN HB.o ag Kb);clear ak ag)
  |((with_reducible refine zF (ty:=27) ?_);refine zL zCa av.o _ _ rfl rfl rfl 1 _ [.slice none 0 0] {c with Q:=none,lq:=0,cq:=0} rfl Kj rfl rfl Kh Km Ka ?_;intro W9 ak ag;have ah:=hd (ah.o.off ag Kb);have av:=hd ak;have HB:=hd (zN HB.o ag Kb);clear ak ag)
  |((with_reducible refine zF (ty:=27) ?_);refine zL zCa av.o _ _ rfl rfl rfl 2 _ [.slice none 0 0] {c with Q:=none,lq:=0,cq:=0,T:=none,lt:=0,ct:=0} rfl Kj rfl rfl Kh Km Ka ?_;intro W9 ak ag;have ah:=hd (ah.o.off ag Kb);have av:=hd ak;have HB:=hd (zN HB.o ag Kb);clear ak ag)
  |((with_reducible refine zF (ty:=26) ?_);refine zL zKq av.o _ _ rfl rfl rfl 4 _ [.bool false,.slice none 0 0,.slice none 0 0,.slice none 0 0] {c with Q:=none,lq:=0,cq:=0,lf:=false,P:=none,np:=0,pc:=0,X:=none,nt:=0,tc:=0,K:=none,nk:=0,kc:=0} rfl Kj rfl rfl Kh Km Ka ?_;intro W9 ak ag;have ah:=hd (ah.o.off ag Kb);have av:=hd ak;have HB:=hd (zN HB.o ag Kb);clear ak ag)
  |((with_reducible refine zF (ty:=22) ?_);refine zL zCq av.o _ _ rfl rfl rfl 9 _ [.slice none 0 0] {c with Q:=none,lq:=0,cq:=0,z:=0,W:=none,nw:=0,cw:=0} rfl Kj rfl rfl Kh Km Ka ?_;intro W9 ak ag;have ah:=hd (ah.o.off ag Kb);have av:=hd ak;have HB:=hd (zN HB.o ag Kb);clear ak ag)
  |((with_reducible refine zF (ty:=22) ?_);refine zL zCq av.o _ _ rfl rfl rfl 8 _ [.slice none 0 0] {c with Q:=none,lq:=0,cq:=0,z:=0,O:=none,no:=0,co:=0} rfl Kj rfl rfl Kh Km Ka ?_;intro W9 ak ag;have ah:=hd (ah.o.off ag Kb);have av:=hd ak;have HB:=hd (zN HB.o ag Kb);clear ak ag)
  |((with_reducible refine zF (ty:=22) ?_);refine zL zCq av.o _ _ rfl rfl rfl 8 _ [.slice none 0 0] {c with Q:=none,lq:=0,cq:=0,O:=none,no:=0,co:=0} rfl Kj rfl rfl Kh Km Ka ?_;intro W9 ak ag;have ah:=hd (ah.o.off ag Kb);have av:=hd ak;have HB:=hd (zN HB.o ag Kb);clear ak ag)
  |((with_reducible refine zF (ty:=22) ?_);refine zL zCq av.o _ _ rfl rfl rfl 9 _ [.slice none 0 0] {c with Q:=none,lq:=0,cq:=0,O:=none,no:=0,co:=0,W:=none,nw:=0,cw:=0} rfl Kj rfl rfl Kh Km Ka ?_;intro W9 ak ag;have ah:=hd (ah.o.off ag Kb);have av:=hd ak;have HB:=hd (zN HB.o ag Kb);clear ak ag)
  |((with_reducible refine zF (ty:=3) ?_);refine zL zHs av.o _ _ rfl rfl rfl 3 _ [.int .i64 0] {c with Q:=none,lq:=0,cq:=0,z:=0} rfl Kj rfl rfl Kh Km Ka ?_;intro W9 ak ag;have ah:=hd (ah.o.off ag Kb);have av:=hd ak;have HB:=hd (zN HB.o ag Kb);clear ak ag)
  |((with_reducible refine zF (ty:=23) ?_);refine zL zFu av.o _ _ rfl rfl rfl 10 _ [.slice none 0 0] {c with Q:=none,lq:=0,cq:=0,z:=0,S:=none,nx:=0,cx:=0} rfl Kj rfl rfl Kh Km Ka ?_;intro W9 ak ag;have ah:=hd (ah.o.off ag Kb);have av:=hd ak;have HB:=hd (zN HB.o ag Kb);clear ak ag)
  |((with_reducible refine zC (ty:=35) ?_);refine zG av.o _ rfl rfl rfl ?_)
  |((with_reducible refine zF (ty:=35) (x:=.tmp 2) ?_);refine kF ah.o _ _ rfl rfl rfl rfl rfl ?_;intro W9 ak ag;have ah:=hd ak;have HB:=hd (zN HB.o ag Kb);clear ak ag)
  |fail)
 refine bodyPost_ret (zDv Tryz.results99 _ _ ah.o rfl) rfl ⟨_,rfl,?_,HB.o⟩;first
  |
   have hr:=((ha.setQ (A:=none) (n:=0) (d:=0) (l:=[]) rfl Kb Kb (IL.nil _ _ _) InI.nil).setN (zEh _ _)).later HB.o
   have he:jB a={a with q:=[],n:=zeroT}:=by
    unfold jB;simp[ha.hk,cN.o]
   rw[he]
   exact hr
  |
   have hr:=(((ha.setQ (A:=none) (n:=0) (d:=0) (l:=[]) rfl Kb Kb (IL.nil _ _ _) InI.nil).setZ 0).setO (A:=none) (n:=0) (d:=0) (l:=[]) rfl Kb Kb (PL.none _ _ _) zIo.none).later HB.o
   have he:jB a={a with q:=[],z:=0,o:=[]}:=by
    unfold jB;simp[ha.hk,cN.o]
   rw[he]
   exact hr
  |
   have hr:=(((ha.setQ (A:=none) (n:=0) (d:=0) (l:=[]) rfl Kb Kb (IL.nil _ _ _) InI.nil).setZ 0).setW (A:=none) (n:=0) (d:=0) (l:=[]) rfl Kb Kb (PL.none _ _ _) zIo.none).later HB.o
   have he:jB a={a with q:=[],z:=0,w:=[]}:=by
    unfold jB;simp[ha.hk,cN.o]
   rw[he]
   exact hr
  |
   have hr:=((ha.setQ (A:=none) (n:=0) (d:=0) (l:=[]) rfl Kb Kb (IL.nil _ _ _) InI.nil).setT (A:=none) (n:=0) (d:=0) (l:=[]) rfl Kb Kb (IL.nil _ _ _) InI.nil).later HB.o
   have he:jB a={a with q:=[],t:=[]}:=by
    unfold jB;simp[ha.hk,cN.o]
   rw[he]
   exact hr
  |
   have hr:=(((ha.setQ (A:=none) (n:=0) (d:=0) (l:=[]) rfl Kb Kb (IL.nil _ _ _) InI.nil).setO (A:=none) (n:=0) (d:=0) (l:=[]) rfl Kb Kb (PL.none _ _ _) zIo.none).setW (A:=none) (n:=0) (d:=0) (l:=[]) rfl Kb Kb (PL.none _ _ _) zIo.none).later HB.o
   have he:jB a={a with q:=[],o:=[],w:=[]}:=by
    unfold jB;simp[ha.hk,cN.o]
   rw[he]
   exact hr
  |
   have hr:=(((ha.setQ (A:=none) (n:=0) (d:=0) (l:=[]) rfl Kb Kb (IL.nil _ _ _) InI.nil).setZ 0).setX (A:=none) (n:=0) (d:=0) (l:=[]) rfl Kb Kb (VL.nil _ _ _)).later HB.o
   have he:jB a={a with q:=[],z:=0,x:=[]}:=by
    unfold jB;simp[ha.hk,cN.o]
   rw[he]
   exact hr
  |
   have hr:=((ha.setF (zIi.zero _)).setG (zIi.zero _)).later HB.o
   have he:jB a={a with f:=zeroS,g:=zeroS}:=by
    unfold jB;simp[ha.hk,cN.o]
   rw[he]
   exact hr
  |
   have hr:=ha.later HB.o
   have he:jB a=a:=by
    unfold jB;have hk:=cN.o;rw[ha.hk,if_neg Kb,if_neg Kb,if_neg Kb,if_neg Kb,if_neg Kb,if_neg Kb,if_neg Kb,if_neg Kb,if_neg Kb]
   rw[he]
   exact hr
  |fail):P:=h
theorem kF9 (w:World)(c:OC)(a:OpP)(ha:OkA w c a)(hk:c.k=1):Calls Tryz.prog 99 #[.agg c.row] w (zNc w (jB a)):=by
 exact kN4
theorem kGa (w:World)(c:OC)(a:OpP)(ha:OkA w c a)(hk:c.k=2):Calls Tryz.prog 99 #[.agg c.row] w (zNc w (jB a)):=by
 exact kN4
theorem kGb (w:World)(c:OC)(a:OpP)(ha:OkA w c a)(hk:c.k=3):Calls Tryz.prog 99 #[.agg c.row] w (zNc w (jB a)):=by
 exact kN4
theorem kGc (w:World)(c:OC)(a:OpP)(ha:OkA w c a)(hk:c.k=4):Calls Tryz.prog 99 #[.agg c.row] w (zNc w (jB a)):=by
 exact kN4
theorem kGd (w:World)(c:OC)(a:OpP)(ha:OkA w c a)(hk:c.k=5):Calls Tryz.prog 99 #[.agg c.row] w (zNc w (jB a)):=by
 exact kN4
theorem kGe (w:World)(c:OC)(a:OpP)(ha:OkA w c a)(hk:c.k=6):Calls Tryz.prog 99 #[.agg c.row] w (zNc w (jB a)):=by
 have k1:(c.k==1)=false:=by simp[hk]
 have k2:(c.k==2)=false:=by simp[hk]
 have k3:(c.k==3)=false:=by simp[hk]
 have k4:(c.k==4)=false:=by simp[hk]
 have k5:(c.k==5)=false:=by simp[hk]
 have k6:(c.k==6)=true:=by simp[hk]
 have k7:(c.k==7)=false:=by simp[hk]
 have k8:(c.k==8)=false:=by simp[hk]
 have k9:(c.k==9)=false:=by simp[hk]
 obtain⟨W0,hW,hb0,hsz,e1,e2⟩:=zBb w c;have av:=hd e1;have ah:=hd e2;have HW:=hd hW;have HB:=hd hb0;have cN:=hd hk;clear hk;clear hW hb0 hsz e1 e2;go_enter Tryz.func99,Tryz.ntmps99
 go_upto_region 1 with fail
 rw[HW.o];have hg:w.heap.size<=w.heap.size+1:=Nat.le_succ _;go_wp2_with(first
  |((with_reducible refine zC (ty:=3) ?_);refine zE av.o (j:=0) (v:=.int .i64 c.k) _ rfl rfl rfl rfl Tryz.underlying3 rfl ?_)
  |((with_reducible refine zF (ty:=27) ?_);refine zL zCa av.o _ _ rfl rfl rfl 1 _ [.slice none 0 0] {c with Q:=none,lq:=0,cq:=0} rfl Kj rfl rfl Kh Km Ka ?_;intro W9 ak ag;have ah:=hd (ah.o.off ag Kb);have av:=hd ak;have HB:=hd (zN HB.o ag Kb);clear ak ag)
  |((with_reducible refine zF (ty:=22) ?_);refine zL zCq av.o _ _ rfl rfl rfl 8 _ [.slice none 0 0] {c with Q:=none,lq:=0,cq:=0,O:=none,no:=0,co:=0} rfl Kj rfl rfl Kh Km Ka ?_;intro W9 ak ag;have ah:=hd (ah.o.off ag Kb);have av:=hd ak;have HB:=hd (zN HB.o ag Kb);clear ak ag)
  |((with_reducible refine zF (ty:=22) ?_);refine zL zCq av.o _ _ rfl rfl rfl 9 _ [.slice none 0 0] {c with Q:=none,lq:=0,cq:=0,O:=none,no:=0,co:=0,W:=none,nw:=0,cw:=0} rfl Kj rfl rfl Kh Km Ka ?_;intro W9 ak ag;have ah:=hd (ah.o.off ag Kb);have av:=hd ak;have HB:=hd (zN HB.o ag Kb);clear ak ag)
  |((with_reducible refine zC (ty:=35) ?_);refine zG av.o _ rfl rfl rfl ?_)
  |((with_reducible refine zF (ty:=35) (x:=.tmp 2) ?_);refine kF ah.o _ _ rfl rfl rfl rfl rfl ?_;intro W9 ak ag;have ah:=hd ak;have HB:=hd (zN HB.o ag Kb);clear ak ag))
 refine bodyPost_ret (zDv Tryz.results99 _ _ ah.o rfl) rfl ⟨_,rfl,?_,HB.o⟩;have hr:=(((ha.setQ (A:=none) (n:=0) (d:=0) (l:=[]) rfl Kb Kb (IL.nil _ _ _) InI.nil).setO (A:=none) (n:=0) (d:=0) (l:=[]) rfl Kb Kb (PL.none _ _ _) zIo.none).setW (A:=none) (n:=0) (d:=0) (l:=[]) rfl Kb Kb (PL.none _ _ _) zIo.none).later HB.o;have he:jB a={a with q:=[],o:=[],w:=[]}:=by
  unfold jB;simp[ha.hk,cN.o]
 rw[he];exact hr
theorem kGf (w:World)(c:OC)(a:OpP)(ha:OkA w c a)(hk:c.k=7):Calls Tryz.prog 99 #[.agg c.row] w (zNc w (jB a)):=by
 exact kN4
theorem kGg (w:World)(c:OC)(a:OpP)(ha:OkA w c a)(hk:c.k=8):Calls Tryz.prog 99 #[.agg c.row] w (zNc w (jB a)):=by
 exact kN4
theorem kGh (w:World)(c:OC)(a:OpP)(ha:OkA w c a)(hk:c.k=9):Calls Tryz.prog 99 #[.agg c.row] w (zNc w (jB a)):=by
 exact kN4
theorem kGi (w:World)(c:OC)(a:OpP)(ha:OkA w c a)(hk:¬(1<=c.k/\c.k<=9)):Calls Tryz.prog 99 #[.agg c.row] w (zNc w (jB a)):=by
 exact kN4
theorem zSh (w:World)(c:OC)(a:OpP)(ha:OkA w c a):Calls Tryz.prog 99 #[.agg c.row] w (zNc w (jB a)):=by
 by_cases h:1<=c.k/\c.k<=9
 ·rcases zV0 h.1 h.2 with h|h|h|h|h|h|h|h|h
  ·exact kF9 w c a ha h
  ·exact kGa w c a ha h
  ·exact kGb w c a ha h
  ·exact kGc w c a ha h
  ·exact kGd w c a ha h
  ·exact kGe w c a ha h
  ·exact kGf w c a ha h
  ·exact kGg w c a ha h
  ·exact kGh w c a ha h
 ·exact kGi w c a ha h
theorem zKx {a:OpP}(t:zAf a):zAf (jB a):=by
 obtain⟨h1,h2,h3,h4,h5,h6,h7,h8,h9⟩:=t;unfold jB;split<;>(try split)<;>(try split)<;>(try split)<;>(try split)<;>(try split)<;>(try split)<;>(try split)<;>(try split)<;>constructor<;>first|assumption|simp[zeroS]
theorem kPs {P:Prop}(h:P:=by
 have ie:=hd (show zFf c.k from ha.hk▸ha.hik);obtain⟨u,hu⟩:∃u,zA0 c.k=u:=⟨_,rfl⟩;rw[hu]at h0;have HU:=hd hu;have hb0:=zQ w (.cells c.row 35);obtain⟨W0,hW⟩:∃W0,w.alloc (.cells c.row 35)=W0:=⟨_,rfl⟩;have e1:=jR.new w c;rw[hW]at hb0 e1;have aP:=hd (fun W(h:Below W0.heap.size W0 W)=>e1.keep h);have cH:=hd (fun W(h:Below W0.heap.size W0 W)=>(ha.later hb0).later h);have HW:=hd hW;have fV:=hd hb0;have ac:=hd (Below.refl W0.heap.size W0);have aw:=hd ta;have wq:=hd (zKx ta);have wu:=(aP.o _ ac.o).ck;try have HB:=hd hb
 clear hu;try clear hb
 clear hW hb0 e1 ha ta;go_enter Tryz.func67,Tryz.ntmps67
 go_upto_region 1 with fail
 rw[HW.o];go_wp2_with(first
  |(go_at_call 97;refine Calls.mono (zBk _ ie.o _) ?_;rintro e w9 ⟨rfl,b9⟩;have ac:=hd (zI ac.o b9);clear b9 wu;rw[HU.o])
  |(go_at_call 99;refine Calls.mono (zSh _ _ _ (cH.o _ ac.o)) ?_;rintro e w9 ⟨cx,rfl,ox,b9⟩;have HX:=hd ox;have ac:=hd (zI ac.o b9);clear b9 ox)
  |(go_at_call 98;refine Calls.mono (kB1 HX.o wq.o HB.o) ?_;rintro e w9 ⟨rfl,b9⟩;have ac:=hd (zI ac.o b9);clear b9)
  |((with_reducible refine kH (ty:=35) (x:=.tmp 1) ?_);refine zDq (aP.o _ ac.o) _ rfl Ke rfl ?_)
  |fail)
 go_ret
 exact⟨rfl,fV.o.trans (ac.o.mono fV.o.size)⟩):P:=h
theorem kGj (w:World)(c:OC)(a:OpP)(ha:OkA w c a)(ta:zAf a)(h0:(zA0 c.k==0)=true):Calls Tryz.prog 67 #[.agg c.row] w (jA (.int .i64 1) w):=by
 exact kPs
theorem kGk (w:World)(c:OC)(a:OpP)(ha:OkA w c a)(ta:zAf a)(h0:(zA0 c.k==0)=false)(hb:bareB (jB a)=true):Calls Tryz.prog 67 #[.agg c.row] w (jA (.int .i64 0) w):=by
 exact kPs
theorem kGl (w:World)(c:OC)(a:OpP)(ha:OkA w c a)(ta:zAf a)(h0:(zA0 c.k==0)=false)(hb:bareB (jB a)=false):Calls Tryz.prog 67 #[.agg c.row] w (jA (.int .i64 1) w):=by
 exact kPs
theorem zFt {w:World}{c:OC}{a:OpP}{E:Int}(ha:OkA w c a)(ta:zAf a)(hE:zCx a=E):Calls Tryz.prog 67 #[.agg c.row] w (jA (.int .i64 E) w):=by
 subst hE;unfold zCx;rw[ha.hk];cases h0:(zA0 c.k==0)
 ·rw[if_neg (by simpa using h0)];cases hb:bareB (jB a)
  ·exact kGl w c a ha ta h0 hb
  ·exact kGk w c a ha ta h0 hb
 ·rw[if_pos (by simpa using h0)];exact kGj w c a ha ta h0
