import Derived.Test.YtmglnjmnabjjgaaGreatBFresh
import Derived.Test.YtmglnjmnabjjgaaGreatJBWith
set_option maxRecDepth 100000
set_option maxHeartbeats 8000000
namespace Go.Proofs.YtmglnjmnabjjgaaGreat
open Go.RowKit
variable {P:Prop}{l:List Int}
theorem kSl (h:P:=by
 have hb0:=zQ w (.cells c.row 35);obtain⟨W0,hW⟩:∃W0,w.alloc (.cells c.row 35)=W0:=⟨_,rfl⟩;have e1:=jR.new w c;rw[hW]at hb0 e1;have HW:=hd hW;have fV:=hd hb0;have cH:=hd (ha.later hb0);have aw:=hd ta;have uk:=e1.ck;have uq:=e1.cq;have hlq:c.lq<=1000:=by have:=ta.hq;have:=ha.hlq;omega
 rw[hr];try
  have HC:=hd (hr▸zOq c.Q a.q c.lq c.cq W0 cH.o.hlq hlq cH.o.hiq cH.o.hq)
 try
  have HC:=hd (hr▸zUd c.Q a.q c.lq c.cq W0 cH.o.hlq hlq cH.o.hiq cH.o.hq)
 clear hW hb0 e1 ha ta hr;go_enter Tryz.func114,Tryz.ntmps114
 go_upto_region 1 with fail
 rw[HW.o];go_wp2_with(first
  |(go_at_call 86;refine HC.o.mono ?_;rintro e w9 ⟨v9,rfl,ag,aZ⟩)
  |(go_at_call 24;refine HC.o.mono ?_;rintro e w9 ⟨v9,rfl,ag,aZ⟩)
  |fail)
 go_ret2
 exact⟨v9,rfl,ag.weaken fV.o.size,fV.o.trans (aZ.mono fV.o.size)⟩):P:=h
theorem zXr (w:World)(c:OC)(a:OpP)(ha:OkA w c a)(ta:zAf a)(hk:(c.k==3)=true):Calls Tryz.prog 114 #[.agg c.row] w (zOp w (jV a.q)):=by
 obtain⟨⟨p,er⟩,hr⟩:∃r,jV a.q=r:=⟨_,rfl⟩;exact kSl
theorem zXs (w:World)(c:OC)(a:OpP)(ha:OkA w c a)(ta:zAf a)(hk:(c.k==3)=false):Calls Tryz.prog 114 #[.agg c.row] w (zOp w (zBg a.q)):=by
 obtain⟨⟨p,er⟩,hr⟩:∃r,zBg a.q=r:=⟨_,rfl⟩;exact kSl
structure zG8 (w w4 w5:World)(c cx:OC)(W:World):Prop where
 v1:jR W w.heap.size c
 v2:jR W (w.heap.size+1) OC.zero
 v3:jR W w5.heap.size cx
 below:Below w.heap.size w W
 mid:Mid w4.heap.size w5.heap.size w5 W
 lo:w.heap.size+1<w4.heap.size
 hi:w4.heap.size<=w5.heap.size
section
variable {w w4 w5 W W':World}{c cx cy:OC}
theorem zG8.call (h:zG8 w w4 w5 c cx W)(hb:Below W.heap.size W W'):zG8 w w4 w5 c cx W':=⟨h.v1.keep hb,h.v2.keep hb,h.v3.keep hb,zI h.below hb,h.mid.below hb (Nat.le_of_lt h.v3.lt),h.lo,h.hi⟩
theorem zG8.put (h:zG8 w w4 w5 c cx W)(hv:jR W' w5.heap.size cy)(ho:Off w5.heap.size W W'):zG8 w w4 w5 c cy W':=
 ⟨h.v1.off ho (by have:=h.lo;have:=h.hi;omega),h.v2.off ho (by have:=h.lo;have:=h.hi;omega),hv,zN h.below ho (by have:=h.lo;have:=h.hi;omega),h.mid.off ho (Nat.le_of_lt h.v3.lt) (.inr Kl),h.lo,h.hi⟩
theorem zG8.made (h1:jR w5 w.heap.size c)(h2:jR w5 (w.heap.size+1) OC.zero)(hb:Below w.heap.size w w5)(hlo:w.heap.size+1<w4.heap.size)(hhi:w4.heap.size<=w5.heap.size):zG8 w w4 w5 c cx (w5.alloc (.cells cx.row 35)):=by
 have aZ:=zQ w5 (.cells (OC.row cx) 35);exact⟨h1.keep aZ,h2.keep aZ,jR.new w5 cx,zI hb aZ,(Mid.refl _ _ _).below aZ Kl,hlo,hhi⟩
theorem zG8.told (h:zG8 w w4 w5 c cx W)(ho:Off (w.heap.size+1) W W'):Below w.heap.size w W'/\Mid w4.heap.size w5.heap.size w5 W':=
 ⟨zN h.below ho (Nat.le_succ _),h.mid.off ho (Nat.le_of_lt h.v3.lt) (.inl h.lo)⟩
end
theorem zHd (k:Int):zFf (zA0 k):=by
 unfold zA0 zFf;repeat' split
 all_goals omega
theorem kOj (h:P:=by
 try have k3:(c.k==3)=false:=by simp;omega
 try have k4:(c.k==4)=false:=by simp;omega
 try have k6:(c.k==6)=false:=by simp;omega
 try have k5:(c.k==5)=false:=by simp;omega
 try have k9:(c.k==9)=false:=by simp;omega
 try have gB:=hd aO
 try have k3:(c.k==3)=false:=by simp[hk]
 try have k4:(c.k==4)=true:=by simp[hk]
 try have k3:(c.k==3)=true:=by simp[hk]
 try have k4:(c.k==4)=false:=by simp[hk]
 try have k6:(c.k==6)=true:=by simp[hk]
 try have k6:(c.k==6)=false:=by simp[hk]
 try have k5:(c.k==5)=true:=by simp[hk]
 try have k5:(c.k==5)=false:=by simp[hk]
 try have k9:(c.k==9)=true:=by simp[hk]
 try have k9:(c.k==9)=false:=by simp[hk]
 try have cN:=hd hk
 try have HU:=hd hu
 have HE:=hd he;try have pI:=hd hr
 obtain⟨W0,hW,hb0,hsz,e1,e2⟩:=zBb w c;have av:=hd e1;have ah:=hd e2;have HW:=hd hW;have HB:=hd hb0;have HH:=hd ha;have aw:=hd ta;have cM:=hd hsz;clear he;try clear hk
 try clear hu
 try clear hr
 try clear aO
 clear hW hb0 e1 e2 ha ta hsz;go_enter Tryz.func76,Tryz.ntmps76
 go_upto_region 1 with fail
 rw[HW.o];go_wp2_with(first
  |((with_reducible refine zC (ty:=35) (x:=.tmp 1) ?_);refine zG av.o _ rfl rfl rfl ?_)
  |((with_reducible refine zC (ty:=35) (x:=.tmp 5) ?_);refine zG HI.o.v3 _ rfl rfl rfl ?_)
  |((with_reducible refine zC (ty:=35) (x:=.tmp 1) ?_);refine zG HI.o.v1 _ rfl rfl rfl ?_)
  |(go_at_call 67;refine(zFt (HH.o.later HB.o) aw.o HE.o).mono ?_;rintro e w4 ⟨rfl,b4⟩;have av:=hd (av.o.keep b4);have ah:=hd (ah.o.keep b4);have HB:=hd (zI HB.o b4);clear b4)
  |((with_reducible refine zF (ty:=35) (x:=.tmp 2) ?_);refine kF (c:=OC.zero) ah.o _ _ rfl rfl rfl rfl rfl ?_;intro W9 ak ag;have ah:=hd ak;have HB:=hd (zN HB.o ag (Nat.le_succ _));clear ak ag)
  |((with_reducible refine zF (ty:=35) (x:=.tmp 5) ?_);refine zAe (c:=cx) _ _ rfl rfl rfl rfl rfl rfl rfl ?_;have HI:=hd (zG8.made (cx:=cx) av.o ah.o HB.o gD.o nK.o))
  |((with_reducible refine zF (ty:=35) (x:=.tmp 2) ?_);refine kF (c:=OC.zero) HI.o.v2 _ _ rfl rfl rfl rfl rfl ?_;intro W9 ak ag;have ah:=hd ak;have HB:=hd (zN HI.o.below ag (Nat.le_succ _));clear ak ag)
  |((with_reducible refine zF (ty:=35) (x:=.tmp 2) ?_);refine kF HI.o.v2 _ _ rfl rfl rfl rfl rfl ?_;intro W9 ak ag;have ah:=hd ak;have HT:=hd (HI.o.told ag);have ba:=hd ag;clear ak ag)
  |(go_at_call 113;refine(zFh _ c a (HH.o.later HB.o) aw.o).mono ?_;rintro e w5 ⟨cx,rfl,hs5,b5⟩;have cI:=hd hs5;have gD:=hd (show w.heap.size+1<w4.heap.size from ah.o.lt);have nK:=hd b5.size;have av:=hd (av.o.keep b5);have ah:=hd (ah.o.keep b5);have HB:=hd (zI HB.o b5);clear hs5 b5)
  |((with_reducible refine zC (ty:=3) ?_);refine zE HI.o.v1 (j:=0) (v:=.int .i64 c.k) _ rfl rfl rfl rfl Tryz.underlying3 rfl ?_)
  |(go_at_call 97;refine Calls.mono (zBk _ ie.o _) ?_;rintro e w9 ⟨rfl,b9⟩;have HI:=hd (HI.o.call b9);clear b9;rw[HU.o])
  |((with_reducible refine zF (ty:=3) (x:=.tmp 19) ?_);refine zL zHs HI.o.v3 _ _ rfl rfl rfl 0 _ [.int .i64 u] {cx with k:=u} rfl rfl rfl rfl Kh Km Ka ?_;intro W9 ak ag;have bC:=hd (HI.o.put ak ag);have HI:=hd bC.o;clear bC ak ag)
  |((with_reducible refine zC (ty:=33) (x:=.tmp 54) ?_);refine kR HI.o.v3 (j:=16) (vs:=[.bool cx.gi,.slice cx.G1 cx.g1 cx.e1,.int .i64 cx.go,.slice cx.G2 cx.g2 cx.e2,.int .i64 cx.gp]) zD4 _ rfl rfl rfl Ka ?_)
  |((with_reducible refine zC (ty:=33) (x:=.tmp 56) ?_);refine kR HI.o.v3 (j:=11) (vs:=[.bool cx.fi,.slice cx.F1 cx.f1 cx.d1,.int .i64 cx.fo,.slice cx.F2 cx.f2 cx.d2,.int .i64 cx.fp]) zD4 _ rfl rfl rfl Ka ?_)
  |((with_reducible refine zF (ty:=33) (x:=.tmp 58) ?_);refine zL zJu HI.o.v3 _ _ rfl rfl rfl 11 _ [.bool cx.gi,.slice cx.G1 cx.g1 cx.e1,.int .i64 cx.go,.slice cx.G2 cx.g2 cx.e2,.int .i64 cx.gp] {cx with k:=u,fi:=cx.gi,F1:=cx.G1,f1:=cx.g1,d1:=cx.e1,fo:=cx.go,F2:=cx.G2,f2:=cx.g2,d2:=cx.e2,fp:=cx.gp} rfl rfl rfl rfl Kh Km Ka ?_;intro W9 ak ag;have bC:=hd (HI.o.put ak ag);have HI:=hd bC.o;clear bC ak ag)
  |((with_reducible refine zF (ty:=33) (x:=.tmp 59) ?_);refine zL zJu HI.o.v3 _ _ rfl rfl rfl 16 _ [.bool cx.fi,.slice cx.F1 cx.f1 cx.d1,.int .i64 cx.fo,.slice cx.F2 cx.f2 cx.d2,.int .i64 cx.fp] {cx with k:=u,fi:=cx.gi,F1:=cx.G1,f1:=cx.g1,d1:=cx.e1,fo:=cx.go,F2:=cx.G2,f2:=cx.g2,d2:=cx.e2,fp:=cx.gp,gi:=cx.fi,G1:=cx.F1,g1:=cx.f1,e1:=cx.d1,go:=cx.fo,G2:=cx.F2,g2:=cx.f2,e2:=cx.d2,gp:=cx.fp} rfl rfl rfl rfl Kh Km Ka ?_;intro W9 ak ag;have bC:=hd (HI.o.put ak ag);have HI:=hd bC.o;clear bC ak ag)
  |((with_reducible refine zC (ty:=27) (x:=.tmp 48) ?_);refine zE HI.o.v3 (j:=2) (v:=.slice cx.T cx.lt cx.ct) _ rfl rfl rfl rfl Tryz.underlying27 rfl ?_)
  |((with_reducible refine zC (ty:=27) (x:=.tmp 50) ?_);refine zE HI.o.v3 (j:=1) (v:=.slice cx.Q cx.lq cx.cq) _ rfl rfl rfl rfl Tryz.underlying27 rfl ?_)
  |((with_reducible refine zF (ty:=27) (x:=.tmp 41) ?_);refine zL zCa HI.o.v3 _ _ rfl rfl rfl 1 _ [.slice Ap lp dp] {cx with k:=u,Q:=Ap,lq:=lp,cq:=dp} rfl rfl rfl rfl Kh Km Ka ?_;intro W9 ak ag;have bC:=hd (HI.o.put ak ag);have HP:=hd (HP.o.high (zA5.off ag ig.o));have HI:=hd bC.o;clear bC ak ag)
  |((with_reducible refine zF (ty:=27) (x:=.tmp 52) ?_);refine zL zCa HI.o.v3 _ _ rfl rfl rfl 1 _ [.slice cx.T cx.lt cx.ct] {cx with k:=u,Q:=cx.T,lq:=cx.lt,cq:=cx.ct} rfl rfl rfl rfl Kh Km Ka ?_;intro W9 ak ag;have bC:=hd (HI.o.put ak ag);have HI:=hd bC.o;clear bC ak ag)
  |((with_reducible refine zF (ty:=27) (x:=.tmp 53) ?_);refine zL zCa HI.o.v3 _ _ rfl rfl rfl 2 _ [.slice cx.Q cx.lq cx.cq] {cx with k:=u,Q:=cx.T,lq:=cx.lt,cq:=cx.ct,T:=cx.Q,lt:=cx.lq,ct:=cx.cq} rfl rfl rfl rfl Kh Km Ka ?_;intro W9 ak ag;have bC:=hd (HI.o.put ak ag);have HI:=hd bC.o;clear bC ak ag)
  |(go_at_call 114;refine(zXs _ c a (HH.o.later HI.o.below) aw.o k3).mono ?_;rintro e w7 ⟨v7,rfl,aI,b7⟩;obtain⟨Ap,dp,rfl,hp1,_,hp2⟩:=aI.open_;have HP:=hd (zI6 aI);have ig:=hd HI.o.v3.lt;have HI:=hd (HI.o.call b7);have HD:=hd hp1;rw[gB.o]at HD⊢;clear b7 hp2 aI;dsimp only;rw[pI.o])
  |(go_at_call 114;refine(zXr _ c a (HH.o.later HI.o.below) aw.o k3).mono ?_;rintro e w7 ⟨v7,rfl,aI,b7⟩;obtain⟨Ap,dp,rfl,hp1,_,hp2⟩:=aI.open_;have HP:=hd (zI6 aI);have ig:=hd HI.o.v3.lt;have HI:=hd (HI.o.call b7);have HD:=hd hp1;rw[gB.o]at HD⊢;clear b7 hp2 aI;dsimp only;rw[pI.o])
  |(go_at_call 114;refine(zXs _ c a (HH.o.later HI.o.below) aw.o k3).mono ?_;rintro e w7 ⟨v7,rfl,aI,b7⟩;obtain⟨Ap,dp,rfl,hp1,_,hp2⟩:=aI.open_;have HP:=hd (zI6 aI);have ig:=hd HI.o.v3.lt;have HI:=hd (HI.o.call b7);have HD:=hd hp1;clear b7 hp2 aI;dsimp only;rw[pI.o])
  |(go_at_call 114;refine(zXr _ c a (HH.o.later HI.o.below) aw.o k3).mono ?_;rintro e w7 ⟨v7,rfl,aI,b7⟩;obtain⟨Ap,dp,rfl,hp1,_,hp2⟩:=aI.open_;have HP:=hd (zI6 aI);have ig:=hd HI.o.v3.lt;have HI:=hd (HI.o.call b7);have HD:=hd hp1;clear b7 hp2 aI;dsimp only;rw[pI.o])
  |((with_reducible refine zC (ty:=22) (x:=.tmp 42) ?_);refine zE HI.o.v3 (j:=9) (v:=.slice cx.W cx.nw cx.cw) _ rfl rfl rfl rfl Tryz.underlying22 rfl ?_)
  |((with_reducible refine zC (ty:=22) (x:=.tmp 44) ?_);refine zE HI.o.v3 (j:=8) (v:=.slice cx.O cx.no cx.co) _ rfl rfl rfl rfl Tryz.underlying22 rfl ?_)
  |((with_reducible refine zF (ty:=22) (x:=.tmp 46) ?_);refine zL zCq HI.o.v3 _ _ rfl rfl rfl 8 _ [.slice cx.W cx.nw cx.cw] {cx with k:=u,Q:=Ap,lq:=lp,cq:=dp,O:=cx.W,no:=cx.nw,co:=cx.cw} rfl rfl rfl rfl Kh Km Ka ?_;intro W9 ak ag;have bC:=hd (HI.o.put ak ag);have HP:=hd (HP.o.high (zA5.off ag ig.o));have HI:=hd bC.o;clear bC ak ag)
  |((with_reducible refine zF (ty:=22) (x:=.tmp 47) ?_);refine zL zCq HI.o.v3 _ _ rfl rfl rfl 9 _ [.slice cx.O cx.no cx.co] {cx with k:=u,Q:=Ap,lq:=lp,cq:=dp,O:=cx.W,no:=cx.nw,co:=cx.cw,W:=cx.O,nw:=cx.no,cw:=cx.co} rfl rfl rfl rfl Kh Km Ka ?_;intro W9 ak ag;have bC:=hd (HI.o.put ak ag);have HP:=hd (HP.o.high (zA5.off ag ig.o));have HI:=hd bC.o;clear bC ak ag)
  |((with_reducible refine zF (ty:=22) (x:=.tmp 46) ?_);refine zL zCq HI.o.v3 _ _ rfl rfl rfl 8 _ [.slice cx.W cx.nw cx.cw] {cx with k:=u,O:=cx.W,no:=cx.nw,co:=cx.cw} rfl rfl rfl rfl Kh Km Ka ?_;intro W9 ak ag;have bC:=hd (HI.o.put ak ag);have HI:=hd bC.o;clear bC ak ag)
  |((with_reducible refine zF (ty:=22) (x:=.tmp 47) ?_);refine zL zCq HI.o.v3 _ _ rfl rfl rfl 9 _ [.slice cx.O cx.no cx.co] {cx with k:=u,O:=cx.W,no:=cx.nw,co:=cx.cw,W:=cx.O,nw:=cx.no,cw:=cx.co} rfl rfl rfl rfl Kh Km Ka ?_;intro W9 ak ag;have bC:=hd (HI.o.put ak ag);have HI:=hd bC.o;clear bC ak ag)
  |fail)
 first
  |
   refine bodyPost_ret (zCt Tryz.results76 _ _ ah.o rfl) rfl ⟨OC.zero,rfl,fun W _=>OkA.zero W,HB.o⟩
  |
   obtain⟨aZ,fW⟩:=HT.o
   refine bodyPost_ret (zCt Tryz.results76 _ _ ah.o rfl) rfl ⟨{cx with k:=u},rfl,fun W hw=>?_,aZ⟩
   have h:=cI.o W (fW.high (hw.mono (by have:=gD.o;omega)))
   show OkA W _ {a with k:=zA0 c.k}
   rw[HU.o]
   exact h.setK fM.o
  |
   obtain⟨aZ,fW⟩:=HT.o
   refine bodyPost_ret (zCt Tryz.results76 _ _ ah.o rfl) rfl ⟨{cx with k:=u,O:=cx.W,no:=cx.nw,co:=cx.cw,W:=cx.O,nw:=cx.no,cw:=cx.co},rfl,fun W hw=>?_,aZ⟩
   have h:=cI.o W (fW.high (hw.mono (by have:=gD.o;omega)))
   show OkA W _ {a with k:=zA0 c.k,o:=a.w,w:=a.o}
   rw[HU.o]
   exact((h.setK fM.o).setO h.hnw h.hcw h.hmw h.hw h.hww).setW h.hno h.hco h.hmo h.ho h.hwo
  |
   obtain⟨aZ,fW⟩:=HT.o
   refine bodyPost_ret (zCt Tryz.results76 _ _ ah.o rfl) rfl ⟨{cx with k:=u,Q:=cx.T,lq:=cx.lt,cq:=cx.ct,T:=cx.Q,lt:=cx.lq,ct:=cx.cq},rfl,fun W hw=>?_,aZ⟩
   have h:=cI.o W (fW.high (hw.mono (by have:=gD.o;omega)))
   show OkA W _ {a with k:=zA0 c.k,q:=a.t,t:=a.q}
   rw[HU.o]
   exact((h.setK fM.o).setQ h.hlt h.hct h.hmt h.ht h.hit).setT h.hlq h.hcq h.hmq h.hq h.hiq
  |
   obtain⟨aZ,fW⟩:=HT.o
   refine bodyPost_ret (zCt Tryz.results76 _ _ ah.o rfl) rfl ⟨{cx with k:=u,fi:=cx.gi,F1:=cx.G1,f1:=cx.g1,d1:=cx.e1,fo:=cx.go,F2:=cx.G2,f2:=cx.g2,d2:=cx.e2,fp:=cx.gp,gi:=cx.fi,G1:=cx.F1,g1:=cx.f1,e1:=cx.d1,go:=cx.fo,G2:=cx.F2,g2:=cx.f2,e2:=cx.d2,gp:=cx.fp},rfl,fun W hw=>?_,aZ⟩
   have h:=cI.o W (fW.high (hw.mono (by have:=gD.o;omega)))
   show OkA W _ {a with k:=zA0 c.k,f:=a.g,g:=a.f}
   rw[HU.o]
   exact((h.setK fM.o).setF h.hg).setG h.hf
  |
   obtain⟨aZ,fW⟩:=HT.o
   refine bodyPost_ret (zCt Tryz.results76 _ _ ah.o rfl) rfl ⟨{cx with k:=u,Q:=Ap,lq:=lp,cq:=dp,O:=cx.W,no:=cx.nw,co:=cx.cw,W:=cx.O,nw:=cx.no,cw:=cx.co},rfl,fun W hw=>?_,aZ⟩
   have h:=cI.o W (fW.high (hw.mono (by have:=gD.o;omega)))
   have hil:=HLEN.o _ rfl
   have jz:=HP.o W ((zA5.off ba.o (by have:=gD.o;have:=nK.o;have:=ig.o;omega)).trans (hw.mono (by have:=gD.o;have:=nK.o;have:=ig.o;omega)))
   show OkA W _ {a with k:=zA0 c.k,q:=(jV a.q).1,o:=a.w,w:=a.o}
   rw[HU.o]
   exact(((h.setK fM.o).setQ gB.o HD.o (by have:=hil.2;have:=gB.o;omega) jz hil.1).setO h.hnw h.hcw h.hmw h.hw h.hww).setW h.hno h.hco h.hmo h.ho h.hwo
  |
   obtain⟨aZ,fW⟩:=HT.o
   refine bodyPost_ret (zCt Tryz.results76 _ _ ah.o rfl) rfl ⟨{cx with k:=u,Q:=Ap,lq:=lp,cq:=dp,O:=cx.W,no:=cx.nw,co:=cx.cw,W:=cx.O,nw:=cx.no,cw:=cx.co},rfl,fun W hw=>?_,aZ⟩
   have h:=cI.o W (fW.high (hw.mono (by have:=gD.o;omega)))
   have hil:=HLEN.o _ rfl
   have jz:=HP.o W ((zA5.off ba.o (by have:=gD.o;have:=nK.o;have:=ig.o;omega)).trans (hw.mono (by have:=gD.o;have:=nK.o;have:=ig.o;omega)))
   show OkA W _ {a with k:=zA0 c.k,q:=(zBg a.q).1,o:=a.w,w:=a.o}
   rw[HU.o]
   exact(((h.setK fM.o).setQ gB.o HD.o (by have:=hil.2;have:=gB.o;omega) jz hil.1).setO h.hnw h.hcw h.hmw h.hw h.hww).setW h.hno h.hco h.hmo h.ho h.hwo
  |fail):P:=h
theorem kB2 (w:World)(c:OC)(a:OpP)(ha:OkA w c a)(ta:zAf a)(he:zCx a=1):Calls Tryz.prog 76 #[.agg c.row] w (zIn w (zeroO,1)):=by
 exact kOj
theorem kI5 (w:World)(c:OC)(a:OpP)(ha:OkA w c a)(ta:zAf a)(he:zCx a=0)(hk:¬(c.k=3∨c.k=4∨c.k=5∨c.k=6∨c.k=9)):Calls Tryz.prog 76 #[.agg c.row] w (zIn w ({a with k:=zA0 c.k},0)):=by
 have ie:=hd (show zFf c.k from ha.hk▸ha.hik);obtain⟨u,hu⟩:∃u,zA0 c.k=u:=⟨_,rfl⟩;have fM:=hd (show zFf u by rw[<-hu];exact zHd c.k);exact kOj
theorem kI6 (w:World)(c:OC)(a:OpP)(ha:OkA w c a)(ta:zAf a)(he:zCx a=0)(hk:c.k=6):Calls Tryz.prog 76 #[.agg c.row] w (zIn w ({a with k:=zA0 c.k,o:=a.w,w:=a.o},0)):=by
 have ie:=hd (show zFf c.k from ha.hk▸ha.hik);obtain⟨u,hu⟩:∃u,zA0 c.k=u:=⟨_,rfl⟩;have fM:=hd (show zFf u by rw[<-hu];exact zHd c.k);exact kOj
theorem kI7 (w:World)(c:OC)(a:OpP)(ha:OkA w c a)(ta:zAf a)(he:zCx a=0)(hk:c.k=5):Calls Tryz.prog 76 #[.agg c.row] w (zIn w ({a with k:=zA0 c.k,q:=a.t,t:=a.q},0)):=by
 have ie:=hd (show zFf c.k from ha.hk▸ha.hik);obtain⟨u,hu⟩:∃u,zA0 c.k=u:=⟨_,rfl⟩;have fM:=hd (show zFf u by rw[<-hu];exact zHd c.k);exact kOj
theorem kI8 (w:World)(c:OC)(a:OpP)(ha:OkA w c a)(ta:zAf a)(he:zCx a=0)(hk:c.k=9):Calls Tryz.prog 76 #[.agg c.row] w (zIn w ({a with k:=zA0 c.k,f:=a.g,g:=a.f},0)):=by
 have ie:=hd (show zFf c.k from ha.hk▸ha.hik);obtain⟨u,hu⟩:∃u,zA0 c.k=u:=⟨_,rfl⟩;have fM:=hd (show zFf u by rw[<-hu];exact zHd c.k);exact kOj
theorem kF4 (w:World)(c:OC)(a:OpP)(ha:OkA w c a)(ta:zAf a)(he:zCx a=0)(hk:c.k=3)(er:Int)(hr:(jV a.q).2=er)(h0:(er !=0)=true):Calls Tryz.prog 76 #[.agg c.row] w (zIn w (zeroO,er)):=by
 have ie:=hd (show zFf c.k from ha.hk▸ha.hik);obtain⟨u,hu⟩:∃u,zA0 c.k=u:=⟨_,rfl⟩;have fM:=hd (show zFf u by rw[<-hu];exact zHd c.k);exact kOj
theorem zXt (h:P:=by
 split
 ·exact⟨InI.nil,by simp⟩
 ·rename_i h0 h1
  obtain⟨k,hk⟩:∃k,l.length=k+1:=⟨l.length-1,by omega⟩;have hx:=zSn l k hk;have hb:=h k Kb;refine⟨fun j hj=>?_,by simp only[zQk l k hk,List.length_set];omega⟩;simp only[zQk l k hk]at hj⊢;rw[List.length_set]at hj;rw[jY _ j (by rw[List.length_set];exact hj),List.getElem_set];split
  ·omega
  ·have:=h j hj;rwa[jY _ j hj]at this):P:=h
theorem zP7 (h:InI l)(hl:l.length<=60):InI (jV l).1/\(jV l).1.length<=1000:=by
 unfold jV;split
 ·exact⟨InI.nil,by simp⟩
 ·exact zXt
theorem kI9 (w:World)(c:OC)(a:OpP)(ha:OkA w c a)(ta:zAf a)(he:zCx a=0)(hk:c.k=3)(hr:(jV a.q).2=0):Calls Tryz.prog 76 #[.agg c.row] w (zIn w ({a with k:=zA0 c.k,q:=(jV a.q).1,o:=a.w,w:=a.o},0)):=by
 have HLEN:=hd (show∀x,(jV a.q).1=x->InI x/\x.length<=1000 from fun x h=>h▸zP7 ha.hiq ta.hq);obtain⟨lp,aO⟩:∃n,(jV a.q).1.length=n:=⟨_,rfl⟩;have ie:=hd (show zFf c.k from ha.hk▸ha.hik);obtain⟨u,hu⟩:∃u,zA0 c.k=u:=⟨_,rfl⟩;have fM:=hd (show zFf u by rw[<-hu];exact zHd c.k);exact kOj
theorem kF5 (w:World)(c:OC)(a:OpP)(ha:OkA w c a)(ta:zAf a)(he:zCx a=0)(hk:c.k=4)(er:Int)(hr:(zBg a.q).2=er)(h0:(er !=0)=true):Calls Tryz.prog 76 #[.agg c.row] w (zIn w (zeroO,er)):=by
 have ie:=hd (show zFf c.k from ha.hk▸ha.hik);obtain⟨u,hu⟩:∃u,zA0 c.k=u:=⟨_,rfl⟩;have fM:=hd (show zFf u by rw[<-hu];exact zHd c.k);exact kOj
theorem zP8 (h:InI l)(hl:l.length<=60):InI (zBg l).1/\(zBg l).1.length<=1000:=by
 unfold zBg;split
 ·exact⟨InI.nil,by simp⟩
 ·exact zXt
theorem kJa (w:World)(c:OC)(a:OpP)(ha:OkA w c a)(ta:zAf a)(he:zCx a=0)(hk:c.k=4)(hr:(zBg a.q).2=0):Calls Tryz.prog 76 #[.agg c.row] w (zIn w ({a with k:=zA0 c.k,q:=(zBg a.q).1,o:=a.w,w:=a.o},0)):=by
 have HLEN:=hd (show∀x,(zBg a.q).1=x->InI x/\x.length<=1000 from fun x h=>h▸zP8 ha.hiq ta.hq);obtain⟨lp,aO⟩:∃n,(zBg a.q).1.length=n:=⟨_,rfl⟩;have ie:=hd (show zFf c.k from ha.hk▸ha.hik);obtain⟨u,hu⟩:∃u,zA0 c.k=u:=⟨_,rfl⟩;have fM:=hd (show zFf u by rw[<-hu];exact zHd c.k);exact kOj
theorem zNq (w:World)(c:OC)(a:OpP)(ha:OkA w c a)(ta:zAf a):Calls Tryz.prog 76 #[.agg c.row] w (zIn w (zGl a)):=by
 rcases zSz a with he|he
 ·have hf:zGl a=zAp a:=by unfold zGl;rw[if_pos he]
  rw[hf];unfold zAp;rw[ha.hk];by_cases h3:c.k=3
  ·rw[if_pos h3];by_cases hr:(jV a.q).2=0
   ·rw[if_pos hr];have h:=kI9 w c a ha ta he h3 hr;rwa[show zA0 c.k=4 by rw[h3];rfl]at h
   ·rw[if_neg hr];exact kF4 w c a ha ta he h3 _ rfl (by simpa using hr)
  rw[if_neg h3];by_cases h4:c.k=4
  ·rw[if_pos h4];by_cases hr:(zBg a.q).2=0
   ·rw[if_pos hr];have h:=kJa w c a ha ta he h4 hr;rwa[show zA0 c.k=3 by rw[h4];rfl]at h
   ·rw[if_neg hr];exact kF5 w c a ha ta he h4 _ rfl (by simpa using hr)
  rw[if_neg h4];by_cases h6:c.k=6
  ·rw[if_pos h6];have h:=kI6 w c a ha ta he h6;rwa[show zA0 c.k=6 by rw[h6];rfl]at h
  rw[if_neg h6];by_cases h5:c.k=5
  ·rw[if_pos h5];have h:=kI7 w c a ha ta he h5;rwa[show zA0 c.k=5 by rw[h5];rfl]at h
  rw[if_neg h5];by_cases h9:c.k=9
  ·rw[if_pos h9];have h:=kI8 w c a ha ta he h9;rwa[show zA0 c.k=9 by rw[h9];rfl]at h
  rw[if_neg h9];exact kI5 w c a ha ta he Kb
 ·have hf:zGl a=(zeroO,1):=by unfold zGl;rw[if_neg Kb]
  rw[hf];exact kB2 w c a ha ta he
