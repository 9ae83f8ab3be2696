import Derived.Test.YtmkciabefepelaaGreatJBCalls
set_option maxRecDepth 100000
set_option maxHeartbeats 8000000
namespace Go.Proofs.YtmkciabefepelaaGreat
open Go.RowKit
theorem kNx {P:Prop}(h:P:=by
 try have k1:(c.k==1)=false:=by simp;omega
 try have k2:(c.k==2)=false:=by simp;omega
 try have k3:(c.k==3)=false:=by simp;omega
 try have k4:(c.k==4)=false:=by simp;omega
 try have k5:(c.k==5)=false:=by simp;omega
 try have k6:(c.k==6)=false:=by simp;omega
 try have k7:(c.k==7)=false:=by simp;omega
 try have k8:(c.k==8)=false:=by simp;omega
 try have k9:(c.k==9)=false:=by simp;omega
 try have k1:(c.k==1)=false:=by simp[hk]
 try have k2:(c.k==2)=true:=by simp[hk]
 try have k1:(c.k==1)=true:=by simp[hk]
 try have k2:(c.k==2)=false:=by simp[hk]
 try have k3:(c.k==3)=true:=by simp[hk]
 try have k3:(c.k==3)=false:=by simp[hk]
 try have k4:(c.k==4)=true:=by simp[hk]
 try have k4:(c.k==4)=false:=by simp[hk]
 try have k5:(c.k==5)=true:=by simp[hk]
 try have k5:(c.k==5)=false:=by simp[hk]
 try have k6:(c.k==6)=true:=by simp[hk]
 try have k6:(c.k==6)=false:=by simp[hk]
 try have k7:(c.k==7)=true:=by simp[hk]
 try have k7:(c.k==7)=false:=by simp[hk]
 try have k8:(c.k==8)=true:=by simp[hk]
 try have k8:(c.k==8)=false:=by simp[hk]
 try have k9:(c.k==9)=true:=by simp[hk]
 try have k9:(c.k==9)=false:=by simp[hk]
 obtain⟨W0,hW,hb0,hsz,e1,e2⟩:=zBb w c;have ax:=hd e1;have ar:=hd e2;have HW:=hd hW;have HB:=hd hb0;have dL:=hd hk;have c0:=e1.ck;have yX:=e1.cq;clear hk;clear hW hb0 hsz e1 e2;go_enter Tryz.func92,Tryz.ntmps92
 go_upto_region 1 with fail
 rw[HW.o];have dM:=hd (show w.heap.size≠W0.heap.size by have:=ax.o.lt;omega);have dN:=hd (show w.heap.size+1≠W0.heap.size by have:=ar.o.lt;omega);have gP:=hd (show w.heap.size<=W0.heap.size from HB.o.size);go_wp2_with(first
  |((with_reducible refine zF (ty:=35) (x:=.tmp 4) ?_);refine zAe (c:=(OC.mk c.k c.Q c.lq c.cq none 0 0 0 false none 0 0 none 0 0 none 0 0 none 0 0 none 0 0 none 0 0 false none 0 0 0 none 0 0 0 false none 0 0 0 none 0 0 0)) _ _ rfl rfl rfl rfl rfl rfl rfl ?_;have dF:=hd (jR.new W0 (OC.mk c.k c.Q c.lq c.cq none 0 0 0 false none 0 0 none 0 0 none 0 0 none 0 0 none 0 0 none 0 0 false none 0 0 0 none 0 0 0 false none 0 0 0 none 0 0 0));have mo:=zQ W0 (.cells (OC.row (OC.mk c.k c.Q c.lq c.cq none 0 0 0 false none 0 0 none 0 0 none 0 0 none 0 0 none 0 0 none 0 0 false none 0 0 0 none 0 0 0 false none 0 0 0 none 0 0 0)) 35);have ax:=hd (ax.o.keep mo);have ar:=hd (ar.o.keep mo);have HB:=hd (HB.o.trans (mo.mono HB.o.size));clear mo)
  |((with_reducible refine zF (ty:=35) (x:=.tmp 2) ?_);refine kF ar.o _ _ rfl rfl rfl rfl rfl ?_;intro W9 ak ah;have ar:=hd ak;have HB:=hd (zN HB.o ah Kb);clear ak ah)
  |((with_reducible refine zF (ty:=27) ?_);refine zL zCa dF.o _ _ rfl rfl rfl 2 _ [.slice c.T c.lt c.ct] (OC.mk c.k c.Q c.lq c.cq c.T c.lt c.ct 0 false none 0 0 none 0 0 none 0 0 none 0 0 none 0 0 none 0 0 false none 0 0 0 none 0 0 0 false none 0 0 0 none 0 0 0) rfl Kj rfl rfl Kh Km Ka ?_;intro W9 ak ah;have ar:=hd (ar.o.off ah dN.o);have ax:=hd (ax.o.off ah dM.o);have dF:=hd ak;have HB:=hd (zN HB.o ah gP.o);clear ak ah)
  |((with_reducible refine zF (ty:=27) ?_);refine zL zCa dF.o _ _ rfl rfl rfl 1 _ [.slice none 0 0] (OC.mk c.k none 0 0 none 0 0 0 false none 0 0 none 0 0 none 0 0 none 0 0 none 0 0 none 0 0 false none 0 0 0 none 0 0 0 false none 0 0 0 none 0 0 0) rfl Kj rfl rfl Kh Km Ka ?_;intro W9 ak ah;have ar:=hd (ar.o.off ah dN.o);have ax:=hd (ax.o.off ah dM.o);have dF:=hd ak;have HB:=hd (zN HB.o ah gP.o);clear ak ah)
  |((with_reducible refine zF (ty:=26) ?_);refine zL zKq dF.o _ _ rfl rfl rfl 4 _ [.bool c.lf,.slice c.P c.np c.pc,.slice c.X c.nt c.tc,.slice c.K c.nk c.kc] (OC.mk c.k c.Q c.lq c.cq none 0 0 0 c.lf c.P c.np c.pc c.X c.nt c.tc c.K c.nk c.kc none 0 0 none 0 0 none 0 0 false none 0 0 0 none 0 0 0 false none 0 0 0 none 0 0 0) rfl Kj rfl rfl Kh Km Ka ?_;intro W9 ak ah;have ar:=hd (ar.o.off ah dN.o);have ax:=hd (ax.o.off ah dM.o);have dF:=hd ak;have HB:=hd (zN HB.o ah gP.o);clear ak ah)
  |((with_reducible refine zF (ty:=22) ?_);refine zL zCq dF.o _ _ rfl rfl rfl 9 _ [.slice c.W c.nw c.cw] (OC.mk c.k c.Q c.lq c.cq none 0 0 c.z false none 0 0 none 0 0 none 0 0 none 0 0 c.W c.nw c.cw none 0 0 false none 0 0 0 none 0 0 0 false none 0 0 0 none 0 0 0) rfl Kj rfl rfl Kh Km Ka ?_;intro W9 ak ah;have ar:=hd (ar.o.off ah dN.o);have ax:=hd (ax.o.off ah dM.o);have dF:=hd ak;have HB:=hd (zN HB.o ah gP.o);clear ak ah)
  |((with_reducible refine zF (ty:=22) ?_);refine zL zCq dF.o _ _ rfl rfl rfl 8 _ [.slice c.O c.no c.co] (OC.mk c.k c.Q c.lq c.cq none 0 0 c.z false none 0 0 none 0 0 none 0 0 c.O c.no c.co none 0 0 none 0 0 false none 0 0 0 none 0 0 0 false none 0 0 0 none 0 0 0) rfl Kj rfl rfl Kh Km Ka ?_;intro W9 ak ah;have ar:=hd (ar.o.off ah dN.o);have ax:=hd (ax.o.off ah dM.o);have dF:=hd ak;have HB:=hd (zN HB.o ah gP.o);clear ak ah)
  |((with_reducible refine zF (ty:=22) ?_);refine zL zCq dF.o _ _ rfl rfl rfl 8 _ [.slice c.O c.no c.co] (OC.mk c.k c.Q c.lq c.cq none 0 0 0 false none 0 0 none 0 0 none 0 0 c.O c.no c.co none 0 0 none 0 0 false none 0 0 0 none 0 0 0 false none 0 0 0 none 0 0 0) rfl Kj rfl rfl Kh Km Ka ?_;intro W9 ak ah;have ar:=hd (ar.o.off ah dN.o);have ax:=hd (ax.o.off ah dM.o);have dF:=hd ak;have HB:=hd (zN HB.o ah gP.o);clear ak ah)
  |((with_reducible refine zF (ty:=22) ?_);refine zL zCq dF.o _ _ rfl rfl rfl 9 _ [.slice c.W c.nw c.cw] (OC.mk c.k c.Q c.lq c.cq none 0 0 0 false none 0 0 none 0 0 none 0 0 c.O c.no c.co c.W c.nw c.cw none 0 0 false none 0 0 0 none 0 0 0 false none 0 0 0 none 0 0 0) rfl Kj rfl rfl Kh Km Ka ?_;intro W9 ak ah;have ar:=hd (ar.o.off ah dN.o);have ax:=hd (ax.o.off ah dM.o);have dF:=hd ak;have HB:=hd (zN HB.o ah gP.o);clear ak ah)
  |((with_reducible refine zF (ty:=3) ?_);refine zL zHs dF.o _ _ rfl rfl rfl 3 _ [.int .i64 c.z] (OC.mk c.k c.Q c.lq c.cq none 0 0 c.z false none 0 0 none 0 0 none 0 0 none 0 0 none 0 0 none 0 0 false none 0 0 0 none 0 0 0 false none 0 0 0 none 0 0 0) rfl Kj rfl rfl Kh Km Ka ?_;intro W9 ak ah;have ar:=hd (ar.o.off ah dN.o);have ax:=hd (ax.o.off ah dM.o);have dF:=hd ak;have HB:=hd (zN HB.o ah gP.o);clear ak ah)
  |((with_reducible refine zF (ty:=23) ?_);refine zL zFu dF.o _ _ rfl rfl rfl 10 _ [.slice c.S c.nx c.cx] (OC.mk c.k c.Q c.lq c.cq none 0 0 c.z false none 0 0 none 0 0 none 0 0 none 0 0 none 0 0 c.S c.nx c.cx false none 0 0 0 none 0 0 0 false none 0 0 0 none 0 0 0) rfl Kj rfl rfl Kh Km Ka ?_;intro W9 ak ah;have ar:=hd (ar.o.off ah dN.o);have ax:=hd (ax.o.off ah dM.o);have dF:=hd ak;have HB:=hd (zN HB.o ah gP.o);clear ak ah)
  |((with_reducible refine zF (ty:=33) ?_);refine zL zJu dF.o _ _ rfl rfl rfl 11 _ [.bool c.fi,.slice c.F1 c.f1 c.d1,.int .i64 c.fo,.slice c.F2 c.f2 c.d2,.int .i64 c.fp] (OC.mk c.k none 0 0 none 0 0 0 false none 0 0 none 0 0 none 0 0 none 0 0 none 0 0 none 0 0 c.fi c.F1 c.f1 c.d1 c.fo c.F2 c.f2 c.d2 c.fp false none 0 0 0 none 0 0 0) rfl Kj rfl rfl Kh Km Ka ?_;intro W9 ak ah;have ar:=hd (ar.o.off ah dN.o);have ax:=hd (ax.o.off ah dM.o);have dF:=hd ak;have HB:=hd (zN HB.o ah gP.o);clear ak ah)
  |((with_reducible refine zF (ty:=33) ?_);refine zL zJu dF.o _ _ rfl rfl rfl 16 _ [.bool c.gi,.slice c.G1 c.g1 c.e1,.int .i64 c.go,.slice c.G2 c.g2 c.e2,.int .i64 c.gp] (OC.mk c.k none 0 0 none 0 0 0 false none 0 0 none 0 0 none 0 0 none 0 0 none 0 0 none 0 0 c.fi c.F1 c.f1 c.d1 c.fo c.F2 c.f2 c.d2 c.fp c.gi c.G1 c.g1 c.e1 c.go c.G2 c.g2 c.e2 c.gp) rfl Kj rfl rfl Kh Km Ka ?_;intro W9 ak ah;have ar:=hd (ar.o.off ah dN.o);have ax:=hd (ax.o.off ah dM.o);have dF:=hd ak;have HB:=hd (zN HB.o ah gP.o);clear ak ah)
  |((with_reducible refine zC (ty:=3) ?_);refine zE ax.o (j:=0) (v:=.int .i64 c.k) _ rfl rfl rfl rfl Tryz.underlying3 rfl ?_)
  |((with_reducible refine zC (ty:=3) ?_);refine zE ax.o (j:=3) (v:=.int .i64 c.z) _ rfl rfl rfl rfl Tryz.underlying3 rfl ?_)
  |((with_reducible refine zC (ty:=35) ?_);refine zG dF.o _ rfl rfl rfl ?_)
  |((with_reducible refine zC (ty:=27) ?_);refine zE ax.o (j:=2) (v:=.slice c.T c.lt c.ct) _ rfl rfl rfl rfl Tryz.underlying27 rfl ?_)
  |((with_reducible refine zC (ty:=26) ?_);refine kR ax.o (j:=4) (vs:=[.bool c.lf,.slice c.P c.np c.pc,.slice c.X c.nt c.tc,.slice c.K c.nk c.kc]) zCp _ rfl rfl rfl Ka ?_)
  |((with_reducible refine zC (ty:=23) ?_);refine zE ax.o (j:=10) (v:=.slice c.S c.nx c.cx) _ rfl rfl rfl rfl Tryz.underlying23 rfl ?_)
  |((with_reducible refine zC (ty:=22) ?_);refine zE ax.o (j:=8) (v:=.slice c.O c.no c.co) _ rfl rfl rfl rfl Tryz.underlying22 rfl ?_)
  |((with_reducible refine zC (ty:=22) ?_);refine zE ax.o (j:=9) (v:=.slice c.W c.nw c.cw) _ rfl rfl rfl rfl Tryz.underlying22 rfl ?_)
  |((with_reducible refine zC (ty:=33) ?_);refine kR ax.o (j:=11) (vs:=[.bool c.fi,.slice c.F1 c.f1 c.d1,.int .i64 c.fo,.slice c.F2 c.f2 c.d2,.int .i64 c.fp]) zD4 _ rfl rfl rfl Ka ?_)
  |((with_reducible refine zC (ty:=33) ?_);refine kR ax.o (j:=16) (vs:=[.bool c.gi,.slice c.G1 c.g1 c.e1,.int .i64 c.go,.slice c.G2 c.g2 c.e2,.int .i64 c.gp]) zD4 _ rfl rfl rfl Ka ?_)
  |fail)
 refine bodyPost_ret (zCt Tryz.results92 _ _ ar.o rfl) rfl ⟨_,rfl,?_,HB.o⟩;first
  |
   have hr:=((((OkA.zero w).setK (k:=c.k) (ha.hk▸ha.hik)).setQ ha.hlq ha.hcq ha.hmq ha.hq ha.hiq).setN cQ).later HB.o
   have he:fieldsO a={zeroO with k:=c.k,q:=a.q,n:=a.n}:=by
    unfold fieldsO;simp[ha.hk,dL.o]
   show OkA _ _ (fieldsO a)
   rw[he]
   exact hr
  |
   have hr:=(((((OkA.zero w).setK (k:=c.k) (ha.hk▸ha.hik)).setQ ha.hlq ha.hcq ha.hmq ha.hq ha.hiq).setZ c.z).setO ha.hno ha.hco ha.hmo ha.ho ha.hwo).later HB.o
   have he:fieldsO a={zeroO with k:=c.k,q:=a.q,z:=c.z,o:=a.o}:=by
    unfold fieldsO;simp[ha.hk,dL.o,ha.hz]
   show OkA _ _ (fieldsO a)
   rw[he]
   exact hr
  |
   have hr:=(((((OkA.zero w).setK (k:=c.k) (ha.hk▸ha.hik)).setQ ha.hlq ha.hcq ha.hmq ha.hq ha.hiq).setZ c.z).setW ha.hnw ha.hcw ha.hmw ha.hw ha.hww).later HB.o
   have he:fieldsO a={zeroO with k:=c.k,q:=a.q,z:=c.z,w:=a.w}:=by
    unfold fieldsO;simp[ha.hk,dL.o,ha.hz]
   show OkA _ _ (fieldsO a)
   rw[he]
   exact hr
  |
   have hr:=((((OkA.zero w).setK (k:=c.k) (ha.hk▸ha.hik)).setQ ha.hlq ha.hcq ha.hmq ha.hq ha.hiq).setT ha.hlt ha.hct ha.hmt ha.ht ha.hit).later HB.o
   have he:fieldsO a={zeroO with k:=c.k,q:=a.q,t:=a.t}:=by
    unfold fieldsO;simp[ha.hk,dL.o]
   show OkA _ _ (fieldsO a)
   rw[he]
   exact hr
  |
   have hr:=(((((OkA.zero w).setK (k:=c.k) (ha.hk▸ha.hik)).setQ ha.hlq ha.hcq ha.hmq ha.hq ha.hiq).setO ha.hno ha.hco ha.hmo ha.ho ha.hwo).setW ha.hnw ha.hcw ha.hmw ha.hw ha.hww).later HB.o
   have he:fieldsO a={zeroO with k:=c.k,q:=a.q,o:=a.o,w:=a.w}:=by
    unfold fieldsO;simp[ha.hk,dL.o]
   show OkA _ _ (fieldsO a)
   rw[he]
   exact hr
  |
   have hr:=(((((OkA.zero w).setK (k:=c.k) (ha.hk▸ha.hik)).setQ ha.hlq ha.hcq ha.hmq ha.hq ha.hiq).setZ c.z).setX ha.hnx ha.hcx ha.hmx ha.hx).later HB.o
   have he:fieldsO a={zeroO with k:=c.k,q:=a.q,z:=c.z,x:=a.x}:=by
    unfold fieldsO;simp[ha.hk,dL.o,ha.hz]
   show OkA _ _ (fieldsO a)
   rw[he]
   exact hr
  |
   have hr:=((((OkA.zero w).setK (k:=c.k) (ha.hk▸ha.hik)).setF ha.hf).setG ha.hg).later HB.o
   have he:fieldsO a={zeroO with k:=c.k,f:=a.f,g:=a.g}:=by
    unfold fieldsO;simp[ha.hk,dL.o]
   show OkA _ _ (fieldsO a)
   rw[he]
   exact hr
  |
   have hr:=(((OkA.zero w).setK (k:=c.k) (ha.hk▸ha.hik)).setQ ha.hlq ha.hcq ha.hmq ha.hq ha.hiq).later HB.o
   have he:fieldsO a={zeroO with k:=c.k,q:=a.q}:=by
    unfold fieldsO;have hk:=dL.o;rw[ha.hk,if_neg Kb,if_neg Kb,if_neg Kb,if_neg Kb,if_neg Kb,if_neg Kb,if_neg Kb,if_neg Kb,if_neg Kb]
   show OkA _ _ (fieldsO a)
   rw[he]
   exact hr
  |fail):P:=h
theorem kS2 (w:World)(c:OC)(a:OpP)(ha:OkA w c a)(hk:c.k=1):Calls Tryz.prog 92 #[.agg c.row] w (kP7 w (fieldsO a,true)):=by
 obtain⟨dn,cQ⟩:=ha.hn;exact kNx
theorem kS3 (w:World)(c:OC)(a:OpP)(ha:OkA w c a)(hk:c.k=2):Calls Tryz.prog 92 #[.agg c.row] w (kP7 w (fieldsO a,true)):=by
 obtain⟨dn,cQ⟩:=ha.hn;exact kNx
theorem kS4 (w:World)(c:OC)(a:OpP)(ha:OkA w c a)(hk:c.k=3):Calls Tryz.prog 92 #[.agg c.row] w (kP7 w (fieldsO a,true)):=by
 exact kNx
theorem kS5 (w:World)(c:OC)(a:OpP)(ha:OkA w c a)(hk:c.k=4):Calls Tryz.prog 92 #[.agg c.row] w (kP7 w (fieldsO a,true)):=by
 exact kNx
theorem kS6 (w:World)(c:OC)(a:OpP)(ha:OkA w c a)(hk:c.k=5):Calls Tryz.prog 92 #[.agg c.row] w (kP7 w (fieldsO a,true)):=by
 exact kNx
theorem kS7 (w:World)(c:OC)(a:OpP)(ha:OkA w c a)(hk:c.k=6):Calls Tryz.prog 92 #[.agg c.row] w (kP7 w (fieldsO a,true)):=by
 have k1:(c.k==1)=false:=by simp[hk]
 have k2:(c.k==2)=false:=by simp[hk]
 have k3:(c.k==3)=false:=by simp[hk]
 have k4:(c.k==4)=false:=by simp[hk]
 have k5:(c.k==5)=false:=by simp[hk]
 have k6:(c.k==6)=true:=by simp[hk]
 have k7:(c.k==7)=false:=by simp[hk]
 have k8:(c.k==8)=false:=by simp[hk]
 have k9:(c.k==9)=false:=by simp[hk]
 obtain⟨W0,hW,hb0,hsz,e1,e2⟩:=zBb w c;have ax:=hd e1;have ar:=hd e2;have HW:=hd hW;have HB:=hd hb0;have dL:=hd hk;clear hk;have c0:=e1.ck;have yX:=e1.cq;clear hW hb0 hsz e1 e2;go_enter Tryz.func92,Tryz.ntmps92
 go_upto_region 1 with fail
 rw[HW.o];have dM:=hd (show w.heap.size≠W0.heap.size by have:=ax.o.lt;omega);have dN:=hd (show w.heap.size+1≠W0.heap.size by have:=ar.o.lt;omega);have gP:=hd (show w.heap.size<=W0.heap.size from HB.o.size);go_wp2_with(first
  |((with_reducible refine zF (ty:=35) (x:=.tmp 4) ?_);refine zAe (c:=(OC.mk c.k c.Q c.lq c.cq none 0 0 0 false none 0 0 none 0 0 none 0 0 none 0 0 none 0 0 none 0 0 false none 0 0 0 none 0 0 0 false none 0 0 0 none 0 0 0)) _ _ rfl rfl rfl rfl rfl rfl rfl ?_;have dF:=hd (jR.new W0 (OC.mk c.k c.Q c.lq c.cq none 0 0 0 false none 0 0 none 0 0 none 0 0 none 0 0 none 0 0 none 0 0 false none 0 0 0 none 0 0 0 false none 0 0 0 none 0 0 0));have mo:=zQ W0 (.cells (OC.row (OC.mk c.k c.Q c.lq c.cq none 0 0 0 false none 0 0 none 0 0 none 0 0 none 0 0 none 0 0 none 0 0 false none 0 0 0 none 0 0 0 false none 0 0 0 none 0 0 0)) 35);have ax:=hd (ax.o.keep mo);have ar:=hd (ar.o.keep mo);have HB:=hd (HB.o.trans (mo.mono HB.o.size));clear mo)
  |((with_reducible refine zF (ty:=22) ?_);refine zL zCq dF.o _ _ rfl rfl rfl 8 _ [.slice c.O c.no c.co] (OC.mk c.k c.Q c.lq c.cq none 0 0 0 false none 0 0 none 0 0 none 0 0 c.O c.no c.co none 0 0 none 0 0 false none 0 0 0 none 0 0 0 false none 0 0 0 none 0 0 0) rfl Kj rfl rfl Kh Km Ka ?_;intro W9 ak ah;have ar:=hd (ar.o.off ah dN.o);have ax:=hd (ax.o.off ah dM.o);have dF:=hd ak;have HB:=hd (zN HB.o ah gP.o);clear ak ah)
  |((with_reducible refine zF (ty:=22) ?_);refine zL zCq dF.o _ _ rfl rfl rfl 9 _ [.slice c.W c.nw c.cw] (OC.mk c.k c.Q c.lq c.cq none 0 0 0 false none 0 0 none 0 0 none 0 0 c.O c.no c.co c.W c.nw c.cw none 0 0 false none 0 0 0 none 0 0 0 false none 0 0 0 none 0 0 0) rfl Kj rfl rfl Kh Km Ka ?_;intro W9 ak ah;have ar:=hd (ar.o.off ah dN.o);have ax:=hd (ax.o.off ah dM.o);have dF:=hd ak;have HB:=hd (zN HB.o ah gP.o);clear ak ah)
  |((with_reducible refine zC (ty:=3) ?_);refine zE ax.o (j:=0) (v:=.int .i64 c.k) _ rfl rfl rfl rfl Tryz.underlying3 rfl ?_)
  |((with_reducible refine zC (ty:=35) ?_);refine zG dF.o _ rfl rfl rfl ?_)
  |((with_reducible refine zF (ty:=35) (x:=.tmp 2) ?_);refine kF ar.o _ _ rfl rfl rfl rfl rfl ?_;intro W9 ak ah;have ar:=hd ak;have HB:=hd (zN HB.o ah Kb);clear ak ah)
  |((with_reducible refine zC (ty:=22) ?_);refine zE ax.o (j:=8) (v:=.slice c.O c.no c.co) _ rfl rfl rfl rfl Tryz.underlying22 rfl ?_)
  |((with_reducible refine zC (ty:=22) ?_);refine zE ax.o (j:=9) (v:=.slice c.W c.nw c.cw) _ rfl rfl rfl rfl Tryz.underlying22 rfl ?_))
 refine bodyPost_ret (zCt Tryz.results92 _ _ ar.o rfl) rfl ⟨_,rfl,?_,HB.o⟩;have hr:=(((((OkA.zero w).setK (k:=c.k) (ha.hk▸ha.hik)).setQ ha.hlq ha.hcq ha.hmq ha.hq ha.hiq).setO ha.hno ha.hco ha.hmo ha.ho ha.hwo).setW ha.hnw ha.hcw ha.hmw ha.hw ha.hww).later HB.o;have he:fieldsO a={zeroO with k:=c.k,q:=a.q,o:=a.o,w:=a.w}:=by
  unfold fieldsO;simp[ha.hk,dL.o]
 show OkA _ _ (fieldsO a)
 rw[he];exact hr
theorem kS8 (w:World)(c:OC)(a:OpP)(ha:OkA w c a)(hk:c.k=7):Calls Tryz.prog 92 #[.agg c.row] w (kP7 w (fieldsO a,true)):=by
 exact kNx
theorem kS9 (w:World)(c:OC)(a:OpP)(ha:OkA w c a)(hk:c.k=8):Calls Tryz.prog 92 #[.agg c.row] w (kP7 w (fieldsO a,true)):=by
 exact kNx
theorem kTa (w:World)(c:OC)(a:OpP)(ha:OkA w c a)(hk:c.k=9):Calls Tryz.prog 92 #[.agg c.row] w (kP7 w (fieldsO a,true)):=by
 exact kNx
theorem kTb (w:World)(c:OC)(a:OpP)(ha:OkA w c a)(hk:¬(1<=c.k/\c.k<=9)):Calls Tryz.prog 92 #[.agg c.row] w (kP7 w (fieldsO a,false)):=by
 exact kNx
theorem kSn (w:World)(c:OC)(a:OpP)(ha:OkA w c a):Calls Tryz.prog 92 #[.agg c.row] w (kP7 w (fieldsO a,kindB a.k)):=by
 by_cases h:1<=c.k/\c.k<=9
 ·rcases zV0 h.1 h.2 with h|h|h|h|h|h|h|h|h
  ·have hx:=kS2 w c a ha h;rwa[show kindB a.k=true by rw[ha.hk,h];rfl]
  ·have hx:=kS3 w c a ha h;rwa[show kindB a.k=true by rw[ha.hk,h];rfl]
  ·have hx:=kS4 w c a ha h;rwa[show kindB a.k=true by rw[ha.hk,h];rfl]
  ·have hx:=kS5 w c a ha h;rwa[show kindB a.k=true by rw[ha.hk,h];rfl]
  ·have hx:=kS6 w c a ha h;rwa[show kindB a.k=true by rw[ha.hk,h];rfl]
  ·have hx:=kS7 w c a ha h;rwa[show kindB a.k=true by rw[ha.hk,h];rfl]
  ·have hx:=kS8 w c a ha h;rwa[show kindB a.k=true by rw[ha.hk,h];rfl]
  ·have hx:=kS9 w c a ha h;rwa[show kindB a.k=true by rw[ha.hk,h];rfl]
  ·have hx:=kTa w c a ha h;rwa[show kindB a.k=true by rw[ha.hk,h];rfl]
 ·have hx:=kTb w c a ha h;rwa[show kindB a.k=false by rw[ha.hk];unfold kindB;cases h1:decide (1<=c.k);rfl;cases h2:decide (c.k<=9);rfl;exact absurd ⟨of_decide_eq_true h1,of_decide_eq_true h2⟩ h]
