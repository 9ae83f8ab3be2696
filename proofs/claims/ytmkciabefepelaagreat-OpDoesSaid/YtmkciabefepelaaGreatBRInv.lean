import Derived.Test.YtmkciabefepelaaGreatBInv
set_option maxRecDepth 100000
set_option maxHeartbeats 8000000
namespace Go.Proofs.YtmkciabefepelaaGreat
open Go.RowKit
theorem OkA.setZ' {w:World}{c:OC}{o:OpP}(h:OkA w c o){z z':Int}(hz:z'=z):OkA w {c with z:=z} {o with z:=z'}:={h with hz:=hz}
theorem kX9 {a:OpP}(he:zCx a=0)(hk:a.k=3)(p:List Int):({a with k:=4,q:=p,o:=a.w,w:=a.o}:OpP)={zeroO with k:=4,q:=p,z:=a.z,w:=a.o}:=by
 have h:=(zOy he).2;obtain⟨k,q,t,z,n,o,w,x,f,g⟩:=a;simp only at hk;subst hk;simp[fieldsO,zeroO]at h⊢;simp only[@eq_comm _ zeroS,@eq_comm _ zeroT]at h;simp[h]
theorem kYa {a:OpP}(he:zCx a=0)(hk:a.k=4)(p:List Int):({a with k:=3,q:=p,o:=a.w,w:=a.o}:OpP)={zeroO with k:=3,q:=p,z:=a.z,o:=a.w}:=by
 have h:=(zOy he).2;obtain⟨k,q,t,z,n,o,w,x,f,g⟩:=a;simp only at hk;subst hk;simp[fieldsO,zeroO]at h⊢;simp only[@eq_comm _ zeroS,@eq_comm _ zeroT]at h;simp[h]
theorem kN1 {P:Prop}(h:P:=by
 try have k1:(c.k==1)=true:=by simp[hk]
 try have cJ:=hd ay
 try have k1:(c.k==1)=false:=by simp[hk]
 try have k2:(c.k==2)=true:=by simp[hk]
 try have k2:(c.k==2)=false:=by simp[hk]
 try have k3:(c.k==3)=false:=by simp[hk]
 try have k4:(c.k==4)=true:=by simp[hk]
 try have k3:(c.k==3)=true:=by simp[hk]
 try have k4:(c.k==4)=false:=by simp[hk]
 try have k5:(c.k==5)=true:=by simp[hk]
 try have k5:(c.k==5)=false:=by simp[hk]
 try have k6:(c.k==6)=true:=by simp[hk]
 try have k6:(c.k==6)=false:=by simp[hk]
 try have k7:(c.k==7)=true:=by simp[hk]
 try have k7:(c.k==7)=false:=by simp[hk]
 try have k8:(c.k==8)=true:=by simp[hk]
 try have k8:(c.k==8)=false:=by simp[hk]
 try have k9:(c.k==9)=true:=by simp[hk]
 try have k9:(c.k==9)=false:=by simp[hk]
 try have dL:=hd hk
 try have m9:=hd hr
 obtain⟨W0,hW,hb0,hsz,e1,e2⟩:=zBb w c;have ax:=hd e1;have ar:=hd e2;have HW:=hd hW;have HB:=hd hb0;have HH:=hd ha;have aA:=hd ta;have hlq:c.lq<=1000:=by have:=ta.hq;have:=ha.hlq;omega
 have HE:=hd he;try clear hk
 try clear hr
 try clear ay
 clear hW hb0 e1 e2 ha ta hsz he;go_enter Tryz.func105,Tryz.ntmps105
 go_upto_region 1 with fail
 rw[HW.o];go_wp2_with(first
  |((with_reducible refine zF (ty:=35) (x:=.tmp 5) ?_);refine kF (c:=(OC.mk 3 Ap lp dp none 0 0 c.z false none 0 0 none 0 0 none 0 0 c.W c.nw c.cw none 0 0 none 0 0 false none 0 0 0 none 0 0 0 false none 0 0 0 none 0 0 0)) HI.o.v3 _ _ rfl rfl rfl rfl rfl ?_;intro W9 ak ah;have aK:=hd (HI.o.put ak ah);have HP:=hd (HP.o.high (zA5.off ah gF.o));have HI:=hd aK.o;clear aK ak ah)
  |((with_reducible refine zF (ty:=35) (x:=.tmp 5) ?_);refine kF (c:=(OC.mk 4 Ap lp dp none 0 0 c.z false none 0 0 none 0 0 none 0 0 none 0 0 c.O c.no c.co none 0 0 false none 0 0 0 none 0 0 0 false none 0 0 0 none 0 0 0)) HI.o.v3 _ _ rfl rfl rfl rfl rfl ?_;intro W9 ak ah;have aK:=hd (HI.o.put ak ah);have HP:=hd (HP.o.high (zA5.off ah gF.o));have HI:=hd aK.o;clear aK ak ah)
  |((with_reducible refine zF (ty:=35) (x:=.tmp 2) ?_);refine kF (c:=OC.zero) ar.o _ _ rfl rfl rfl rfl rfl ?_;intro W9 ak ah;have ar:=hd ak;have HB:=hd (zN HB.o ah (Nat.le_succ _));clear ak ah)
  |((with_reducible refine zF (ty:=35) (x:=.tmp 5) ?_);refine zAe (c:=c) _ _ rfl rfl rfl rfl rfl rfl rfl ?_;have HI:=hd (zG8.made (w5:=w4) (cx:=c) ax.o ar.o HB.o i5.o Kl))
  |((with_reducible refine zF (ty:=35) (x:=.tmp 2) ?_);refine kF (c:=OC.zero) HI.o.v2 _ _ rfl rfl rfl rfl rfl ?_;intro W9 ak ah;have ar:=hd ak;have HB:=hd (zN HI.o.below ah (Nat.le_succ _));clear ak ah)
  |((with_reducible refine zF (ty:=35) (x:=.tmp 2) ?_);refine kF HI.o.v2 _ _ rfl rfl rfl rfl rfl ?_;intro W9 ak ah;have ar:=hd ak;have HT:=hd (HI.o.told ah);have qW:=hd ah;clear ak ah)
  |((with_reducible refine zC (ty:=3) (x:=.tmp 56) ?_);refine zE HI.o.v1 (j:=3) (v:=.int .i64 c.z) _ rfl rfl rfl rfl Tryz.underlying3 rfl ?_)
  |((with_reducible refine zC (ty:=3) (x:=.tmp 38) ?_);refine zE HI.o.v1 (j:=3) (v:=.int .i64 c.z) _ rfl rfl rfl rfl Tryz.underlying3 rfl ?_)
  |((with_reducible refine zC (ty:=3) ?_);refine zE HI.o.v1 (j:=0) (v:=.int .i64 c.k) _ rfl rfl rfl rfl Tryz.underlying3 rfl ?_)
  |((with_reducible refine zC (ty:=35) (x:=.tmp 1) ?_);refine zG (by first|exact HI.o.v1|exact ax.o) _ rfl rfl rfl ?_)
  |((with_reducible refine zC (ty:=35) (x:=.tmp 5) ?_);refine zG HI.o.v3 _ rfl rfl rfl ?_)
  |(go_at_call 47;refine(kOr (HH.o.later HB.o) aA.o HE.o).mono ?_;rintro e w4 ⟨rfl,b4⟩;have i5:=hd (show w.heap.size+1<w4.heap.size from Nat.lt_of_lt_of_le ar.o.lt b4.size);have ax:=hd (ax.o.keep b4);have ar:=hd (ar.o.keep b4);have HB:=hd (zI HB.o b4);clear b4)
  |((with_reducible refine zF (ty:=3) (x:=.tmp 82) ?_);refine zL zHs HI.o.v3 _ _ rfl rfl rfl 0 _ [.int .i64 7] {c with k:=7} rfl rfl rfl rfl Kh Km Ka ?_;intro W9 ak ah;have aK:=hd (HI.o.put ak ah);have HI:=hd aK.o;clear aK ak ah)
  |((with_reducible refine zF (ty:=3) (x:=.tmp 79) ?_);refine zL zHs HI.o.v3 _ _ rfl rfl rfl 0 _ [.int .i64 8] {c with k:=8} rfl rfl rfl rfl Kh Km Ka ?_;intro W9 ak ah;have aK:=hd (HI.o.put ak ah);have HI:=hd aK.o;clear aK ak ah)
  |((with_reducible refine zF (ty:=3) (x:=.tmp 24) ?_);refine zL zHs HI.o.v3 _ _ rfl rfl rfl 0 _ [.int .i64 1] {c with k:=1} rfl rfl rfl rfl Kh Km Ka ?_;intro W9 ak ah;have aK:=hd (HI.o.put ak ah);have HI:=hd aK.o;clear aK ak ah)
  |((with_reducible refine zF (ty:=3) (x:=.tmp 21) ?_);refine zL zHs HI.o.v3 _ _ rfl rfl rfl 0 _ [.int .i64 2] {c with k:=2} rfl rfl rfl rfl Kh Km Ka ?_;intro W9 ak ah;have aK:=hd (HI.o.put ak ah);have HI:=hd aK.o;clear aK ak ah)
  |((with_reducible refine zC (ty:=33) (x:=.tmp 85) ?_);refine kR HI.o.v1 (j:=16) (vs:=[.bool c.gi,.slice c.G1 c.g1 c.e1,.int .i64 c.go,.slice c.G2 c.g2 c.e2,.int .i64 c.gp]) zD4 _ rfl rfl rfl Ka ?_)
  |((with_reducible refine zC (ty:=33) (x:=.tmp 88) ?_);refine kR HI.o.v1 (j:=11) (vs:=[.bool c.fi,.slice c.F1 c.f1 c.d1,.int .i64 c.fo,.slice c.F2 c.f2 c.d2,.int .i64 c.fp]) zD4 _ rfl rfl rfl Ka ?_)
  |((with_reducible refine zF (ty:=33) (x:=.tmp 87) ?_);refine zL zJu HI.o.v3 _ _ rfl rfl rfl 11 _ [.bool c.gi,.slice c.G1 c.g1 c.e1,.int .i64 c.go,.slice c.G2 c.g2 c.e2,.int .i64 c.gp] {c with fi:=c.gi,F1:=c.G1,f1:=c.g1,d1:=c.e1,fo:=c.go,F2:=c.G2,f2:=c.g2,d2:=c.e2,fp:=c.gp} rfl rfl rfl rfl Kh Km Ka ?_;intro W9 ak ah;have aK:=hd (HI.o.put ak ah);have HI:=hd aK.o;clear aK ak ah)
  |((with_reducible refine zF (ty:=33) (x:=.tmp 90) ?_);refine zL zJu HI.o.v3 _ _ rfl rfl rfl 16 _ [.bool c.fi,.slice c.F1 c.f1 c.d1,.int .i64 c.fo,.slice c.F2 c.f2 c.d2,.int .i64 c.fp] {c with fi:=c.gi,F1:=c.G1,f1:=c.g1,d1:=c.e1,fo:=c.go,F2:=c.G2,f2:=c.g2,d2:=c.e2,fp:=c.gp,gi:=c.fi,G1:=c.F1,g1:=c.f1,e1:=c.d1,go:=c.fo,G2:=c.F2,g2:=c.f2,e2:=c.d2,gp:=c.fp} rfl rfl rfl rfl Kh Km Ka ?_;intro W9 ak ah;have aK:=hd (HI.o.put ak ah);have HI:=hd aK.o;clear aK ak ah)
  |((with_reducible refine zC (ty:=22) (x:=.tmp 71) ?_);refine zE HI.o.v1 (j:=9) (v:=.slice c.W c.nw c.cw) _ rfl rfl rfl rfl Tryz.underlying22 rfl ?_)
  |((with_reducible refine zC (ty:=22) (x:=.tmp 74) ?_);refine zE HI.o.v1 (j:=8) (v:=.slice c.O c.no c.co) _ rfl rfl rfl rfl Tryz.underlying22 rfl ?_)
  |((with_reducible refine zC (ty:=22) (x:=.tmp 58) ?_);refine zE HI.o.v1 (j:=9) (v:=.slice c.W c.nw c.cw) _ rfl rfl rfl rfl Tryz.underlying22 rfl ?_)
  |((with_reducible refine zC (ty:=22) (x:=.tmp 40) ?_);refine zE HI.o.v1 (j:=8) (v:=.slice c.O c.no c.co) _ rfl rfl rfl rfl Tryz.underlying22 rfl ?_)
  |((with_reducible refine zF (ty:=22) (x:=.tmp 73) ?_);refine zL zCq HI.o.v3 _ _ rfl rfl rfl 8 _ [.slice c.W c.nw c.cw] {c with O:=c.W,no:=c.nw,co:=c.cw} rfl rfl rfl rfl Kh Km Ka ?_;intro W9 ak ah;have aK:=hd (HI.o.put ak ah);have HI:=hd aK.o;clear aK ak ah)
  |((with_reducible refine zF (ty:=22) (x:=.tmp 76) ?_);refine zL zCq HI.o.v3 _ _ rfl rfl rfl 9 _ [.slice c.O c.no c.co] {c with O:=c.W,no:=c.nw,co:=c.cw,W:=c.O,nw:=c.no,cw:=c.co} rfl rfl rfl rfl Kh Km Ka ?_;intro W9 ak ah;have aK:=hd (HI.o.put ak ah);have HI:=hd aK.o;clear aK ak ah)
  |((with_reducible refine zC (ty:=27) (x:=.tmp 63) ?_);refine zE HI.o.v1 (j:=2) (v:=.slice c.T c.lt c.ct) _ rfl rfl rfl rfl Tryz.underlying27 rfl ?_)
  |((with_reducible refine zC (ty:=27) (x:=.tmp 66) ?_);refine zE HI.o.v1 (j:=1) (v:=.slice c.Q c.lq c.cq) _ rfl rfl rfl rfl Tryz.underlying27 rfl ?_)
  |((with_reducible refine zC (ty:=27) (x:=.tmp 46) ?_);refine zE HI.o.v1 (j:=1) (v:=.slice c.Q c.lq c.cq) _ rfl rfl rfl rfl Tryz.underlying27 rfl ?_)
  |((with_reducible refine zC (ty:=27) (x:=.tmp 28) ?_);refine zE HI.o.v1 (j:=1) (v:=.slice c.Q c.lq c.cq) _ rfl rfl rfl rfl Tryz.underlying27 rfl ?_)
  |((with_reducible refine zF (ty:=27) (x:=.tmp 65) ?_);refine zL zCa HI.o.v3 _ _ rfl rfl rfl 1 _ [.slice c.T c.lt c.ct] {c with Q:=c.T,lq:=c.lt,cq:=c.ct} rfl rfl rfl rfl Kh Km Ka ?_;intro W9 ak ah;have aK:=hd (HI.o.put ak ah);have HI:=hd aK.o;clear aK ak ah)
  |((with_reducible refine zF (ty:=27) (x:=.tmp 68) ?_);refine zL zCa HI.o.v3 _ _ rfl rfl rfl 2 _ [.slice c.Q c.lq c.cq] {c with Q:=c.T,lq:=c.lt,cq:=c.ct,T:=c.Q,lt:=c.lq,ct:=c.cq} rfl rfl rfl rfl Kh Km Ka ?_;intro W9 ak ah;have aK:=hd (HI.o.put ak ah);have HI:=hd aK.o;clear aK ak ah)
  |(go_at_call 101;refine(kO8 c.Q a.q c.lq c.cq _ HH.o.hlq hlq HH.o.hiq (HH.o.later HI.o.below).hq).mono ?_;rintro e w7 ⟨v7,rfl,aW,b7⟩;obtain⟨Ap,dp,rfl,hp1,_,hp2⟩:=aW.open_;have HP:=hd (zI6 aW);have gF:=hd HI.o.v3.lt;have HI:=hd (HI.o.call b7);have HD:=hd hp1;rw[cJ.o]at HD⊢;clear b7 hp2 aW;dsimp only;rw[m9.o])
  |(go_at_call 101;refine(kO8 c.Q a.q c.lq c.cq _ HH.o.hlq hlq HH.o.hiq (HH.o.later HI.o.below).hq).mono ?_;rintro e w7 ⟨v7,rfl,aW,b7⟩;obtain⟨Ap,dp,rfl,hp1,_,hp2⟩:=aW.open_;have HP:=hd (zI6 aW);have gF:=hd HI.o.v3.lt;have HI:=hd (HI.o.call b7);have HD:=hd hp1;clear b7 hp2 aW;dsimp only;rw[m9.o])
  |(go_at_call 96;refine(kPo c.Q a.q c.lq c.cq _ HH.o.hlq hlq HH.o.hiq (HH.o.later HI.o.below).hq).mono ?_;rintro e w7 ⟨v7,rfl,aW,b7⟩;obtain⟨Ap,dp,rfl,hp1,_,hp2⟩:=aW.open_;have HP:=hd (zI6 aW);have gF:=hd HI.o.v3.lt;have HI:=hd (HI.o.call b7);have HD:=hd hp1;rw[cJ.o]at HD⊢;clear b7 hp2 aW;dsimp only;rw[m9.o])
  |(go_at_call 96;refine(kPo c.Q a.q c.lq c.cq _ HH.o.hlq hlq HH.o.hiq (HH.o.later HI.o.below).hq).mono ?_;rintro e w7 ⟨v7,rfl,aW,b7⟩;obtain⟨Ap,dp,rfl,hp1,_,hp2⟩:=aW.open_;have HP:=hd (zI6 aW);have gF:=hd HI.o.v3.lt;have HI:=hd (HI.o.call b7);have HD:=hd hp1;clear b7 hp2 aW;dsimp only;rw[m9.o])
  |fail)
 first
  |
   refine bodyPost_ret (zCt Tryz.results105 _ _ ar.o rfl) rfl ⟨OC.zero,rfl,OkA.zero _,HB.o⟩
  |
   refine bodyPost_ret (zCt Tryz.results105 _ _ ar.o rfl) rfl ⟨{c with k:=2},rfl,?_,HT.o.1⟩
   have h:=HH.o.later HT.o.1
   exact h.setK (by unfold zFf;omega)
  |
   refine bodyPost_ret (zCt Tryz.results105 _ _ ar.o rfl) rfl ⟨{c with k:=1},rfl,?_,HT.o.1⟩
   have h:=HH.o.later HT.o.1
   exact h.setK (by unfold zFf;omega)
  |
   refine bodyPost_ret (zCt Tryz.results105 _ _ ar.o rfl) rfl ⟨{c with k:=8},rfl,?_,HT.o.1⟩
   have h:=HH.o.later HT.o.1
   exact h.setK (by unfold zFf;omega)
  |
   refine bodyPost_ret (zCt Tryz.results105 _ _ ar.o rfl) rfl ⟨{c with k:=7},rfl,?_,HT.o.1⟩
   have h:=HH.o.later HT.o.1
   exact h.setK (by unfold zFf;omega)
  |
   refine bodyPost_ret (zCt Tryz.results105 _ _ ar.o rfl) rfl ⟨{c with Q:=c.T,lq:=c.lt,cq:=c.ct,T:=c.Q,lt:=c.lq,ct:=c.cq},rfl,?_,HT.o.1⟩
   have h:=HH.o.later HT.o.1
   exact(h.setQ h.hlt h.hct h.hmt h.ht h.hit).setT h.hlq h.hcq h.hmq h.hq h.hiq
  |
   refine bodyPost_ret (zCt Tryz.results105 _ _ ar.o rfl) rfl ⟨{c with O:=c.W,no:=c.nw,co:=c.cw,W:=c.O,nw:=c.no,cw:=c.co},rfl,?_,HT.o.1⟩
   have h:=HH.o.later HT.o.1
   exact(h.setO h.hnw h.hcw h.hmw h.hw h.hww).setW h.hno h.hco h.hmo h.ho h.hwo
  |
   refine bodyPost_ret (zCt Tryz.results105 _ _ ar.o rfl) rfl ⟨{c with fi:=c.gi,F1:=c.G1,f1:=c.g1,d1:=c.e1,fo:=c.go,F2:=c.G2,f2:=c.g2,d2:=c.e2,fp:=c.gp,gi:=c.fi,G1:=c.F1,g1:=c.f1,e1:=c.d1,go:=c.fo,G2:=c.F2,g2:=c.f2,e2:=c.d2,gp:=c.fp},rfl,?_,HT.o.1⟩
   have h:=HH.o.later HT.o.1
   exact(h.setF h.hg).setG h.hf
  |
   refine bodyPost_ret (zCt Tryz.results105 _ _ ar.o rfl) rfl ⟨(OC.mk 4 Ap lp dp none 0 0 c.z false none 0 0 none 0 0 none 0 0 none 0 0 c.O c.no c.co none 0 0 false none 0 0 0 none 0 0 0 false none 0 0 0 none 0 0 0),rfl,?_,HT.o.1⟩
   have h:=HH.o.later HT.o.1
   have hil:=HLEN.o _ rfl
   have gQ:=HP.o W9 (zA5.off qW.o (by have:=i5.o;have:=gF.o;omega))
   have h1:=((((OkA.zero W9).setK (k:=4) (by unfold zFf;omega)).setQ cJ.o HD.o (by have:=hil.2;have:=cJ.o;omega) gQ hil.1).setZ' h.hz).setW h.hno h.hco h.hmo h.ho h.hwo
   exact h1
  |
   refine bodyPost_ret (zCt Tryz.results105 _ _ ar.o rfl) rfl ⟨(OC.mk 3 Ap lp dp none 0 0 c.z false none 0 0 none 0 0 none 0 0 c.W c.nw c.cw none 0 0 none 0 0 false none 0 0 0 none 0 0 0 false none 0 0 0 none 0 0 0),rfl,?_,HT.o.1⟩
   have h:=HH.o.later HT.o.1
   have hil:=HLEN.o _ rfl
   have gQ:=HP.o W9 (zA5.off qW.o (by have:=i5.o;have:=gF.o;omega))
   have h1:=((((OkA.zero W9).setK (k:=3) (by unfold zFf;omega)).setQ cJ.o HD.o (by have:=hil.2;have:=cJ.o;omega) gQ hil.1).setZ' h.hz).setO h.hnw h.hcw h.hmw h.hw h.hww
   exact h1
  |fail):P:=h
theorem kTd (w:World)(c:OC)(a:OpP)(ha:OkA w c a)(ta:zAf a)(he:zCx a=1):Calls Tryz.prog 105 #[.agg c.row] w (kPp w (zeroO,1)):=by
 exact kN1
theorem kVf (w:World)(c:OC)(a:OpP)(ha:OkA w c a)(ta:zAf a)(he:zCx a=0)(hk:c.k=1):Calls Tryz.prog 105 #[.agg c.row] w (kPp w ({a with k:=2},0)):=by
 exact kN1
theorem kVg (w:World)(c:OC)(a:OpP)(ha:OkA w c a)(ta:zAf a)(he:zCx a=0)(hk:c.k=2):Calls Tryz.prog 105 #[.agg c.row] w (kPp w ({a with k:=1},0)):=by
 exact kN1
theorem kVh (w:World)(c:OC)(a:OpP)(ha:OkA w c a)(ta:zAf a)(he:zCx a=0)(hk:c.k=7):Calls Tryz.prog 105 #[.agg c.row] w (kPp w ({a with k:=8},0)):=by
 exact kN1
theorem kVi (w:World)(c:OC)(a:OpP)(ha:OkA w c a)(ta:zAf a)(he:zCx a=0)(hk:c.k=8):Calls Tryz.prog 105 #[.agg c.row] w (kPp w ({a with k:=7},0)):=by
 exact kN1
theorem kVj (w:World)(c:OC)(a:OpP)(ha:OkA w c a)(ta:zAf a)(he:zCx a=0)(hk:c.k=5):Calls Tryz.prog 105 #[.agg c.row] w (kPp w ({a with q:=a.t,t:=a.q},0)):=by
 exact kN1
theorem kVk (w:World)(c:OC)(a:OpP)(ha:OkA w c a)(ta:zAf a)(he:zCx a=0)(hk:c.k=6):Calls Tryz.prog 105 #[.agg c.row] w (kPp w ({a with o:=a.w,w:=a.o},0)):=by
 exact kN1
theorem kVl (w:World)(c:OC)(a:OpP)(ha:OkA w c a)(ta:zAf a)(he:zCx a=0)(hk:c.k=9):Calls Tryz.prog 105 #[.agg c.row] w (kPp w ({a with f:=a.g,g:=a.f},0)):=by
 exact kN1
theorem kUi (w:World)(c:OC)(a:OpP)(ha:OkA w c a)(ta:zAf a)(he:zCx a=0)(hk:c.k=3)(er:Int)(hr:(jV a.q).2=er)(h0:(er !=0)=true):Calls Tryz.prog 105 #[.agg c.row] w (kPp w (zeroO,er)):=by
 exact kN1
theorem kVm (w:World)(c:OC)(a:OpP)(ha:OkA w c a)(ta:zAf a)(he:zCx a=0)(hk:c.k=3)(hr:(jV a.q).2=0):Calls Tryz.prog 105 #[.agg c.row] w (kPp w ({zeroO with k:=4,q:=(jV a.q).1,z:=a.z,w:=a.o},0)):=by
 have HLEN:=hd (show∀x,(jV a.q).1=x->InI x/\x.length<=1000 from fun x h=>h▸zP7 ha.hiq ta.hq);obtain⟨lp,ay⟩:∃n,(jV a.q).1.length=n:=⟨_,rfl⟩;exact kN1
theorem kUj (w:World)(c:OC)(a:OpP)(ha:OkA w c a)(ta:zAf a)(he:zCx a=0)(hk:c.k=4)(er:Int)(hr:(zBg a.q).2=er)(h0:(er !=0)=true):Calls Tryz.prog 105 #[.agg c.row] w (kPp w (zeroO,er)):=by
 exact kN1
theorem kVn (w:World)(c:OC)(a:OpP)(ha:OkA w c a)(ta:zAf a)(he:zCx a=0)(hk:c.k=4)(hr:(zBg a.q).2=0):Calls Tryz.prog 105 #[.agg c.row] w (kPp w ({zeroO with k:=3,q:=(zBg a.q).1,z:=a.z,o:=a.w},0)):=by
 have HLEN:=hd (show∀x,(zBg a.q).1=x->InI x/\x.length<=1000 from fun x h=>h▸zP8 ha.hiq ta.hq);obtain⟨lp,ay⟩:∃n,(zBg a.q).1.length=n:=⟨_,rfl⟩;exact kN1
theorem kRq (w:World)(c:OC)(a:OpP)(ha:OkA w c a)(ta:zAf a):Calls Tryz.prog 105 #[.agg c.row] w (kPp w (zGl a)):=by
 rcases zSz a with he|he
 ·have hf:zGl a=zAp a:=by unfold zGl;rw[if_pos he]
  rw[hf];unfold zAp;have hkb:=(zOy he).1;simp only[kindB,Bool.and_eq_true,decide_eq_true_iff]at hkb;rw[ha.hk]at hkb⊢;have e0:a.k=c.k:=ha.hk;rcases zV0 hkb.1 hkb.2 with h|h|h|h|h|h|h|h|h
  ·rw[h];exact kVf w c a ha ta he h
  ·rw[h];exact kVg w c a ha ta he h
  ·rw[h,if_pos rfl];by_cases hr:(jV a.q).2=0
   ·rw[if_pos hr,kX9 he (e0.trans h)];exact kVm w c a ha ta he h hr
   ·rw[if_neg hr];exact kUi w c a ha ta he h _ rfl (by simpa using hr)
  ·rw[h,if_neg Kb,if_pos rfl];by_cases hr:(zBg a.q).2=0
   ·rw[if_pos hr,kYa he (e0.trans h)];exact kVn w c a ha ta he h hr
   ·rw[if_neg hr];exact kUj w c a ha ta he h _ rfl (by simpa using hr)
  ·have h1:=kVj w c a ha ta he h;rw[h];have e2:({a with q:=a.t,t:=a.q}:OpP)={a with k:=5,q:=a.t,t:=a.q}:=by rw[<-h,<-e0]
   rw[e2]at h1;exact h1
  ·have h1:=kVk w c a ha ta he h;rw[h];have e2:({a with o:=a.w,w:=a.o}:OpP)={a with k:=6,o:=a.w,w:=a.o}:=by rw[<-h,<-e0]
   rw[e2]at h1;exact h1
  ·rw[h];exact kVh w c a ha ta he h
  ·rw[h];exact kVi w c a ha ta he h
  ·have h1:=kVl w c a ha ta he h;rw[h];have e2:({a with f:=a.g,g:=a.f}:OpP)={a with k:=9,f:=a.g,g:=a.f}:=by rw[<-h,<-e0]
   rw[e2]at h1;exact h1
 ·have hf:zGl a=(zeroO,1):=by unfold zGl;rw[if_neg Kb]
  rw[hf];exact kTd w c a ha ta he
