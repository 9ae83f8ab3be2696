import Derived.Test.YtmkciabefepelaaGreatJRDo2
set_option maxRecDepth 100000
set_option maxHeartbeats 8000000
namespace Go.Proofs.YtmkciabefepelaaGreat
open Go.RowKit
variable {w:World}{c m:NC}{b mt n x y:NT}{a:OpP}{q2:List Int}{E:Int}{r:NT×Int}
theorem jP {P Q:Prop}(k:Q)(h:Q->P:=by
 intro kk;simp only[Act.put,List.getElem_toArray,List.getElem_cons_succ,List.getElem_cons_zero,List.setIfInBounds_toArray,List.set_cons_succ,List.set_cons_zero];exact kk):P:=h k
theorem kOv {P:Prop}(h:P:=by
 try have CC:=hd hm
 have ej:=hd hbk;try have dZ:=hd hin
 try have fe:=hd bA
 try have fW:=hd hgb
 try have fX:=hd hbl
 try have cU:=hd cK
 try have lU:=hd hlb
 try have gV:=hd hop
 try have fU:=hd hkb
 try have lV:=hd gY
 try have lh:=hd hbig
 try have aL:=hd hcut
 try have cL:=hd hcm
 try have bp:=hd hput
 have HN:=hd hn;have HO:=hd ho;have aA:=hd ta;have bC:=hd hm;clear hn ho ta hm hbk;try clear hin
 try clear bA
 try clear hgb
 try clear hbl
 try clear cK
 try clear hlb
 try clear hop
 try clear hkb
 try clear gY
 try clear hbig
 try clear hcut
 try clear hcm
 try clear hput
 obtain⟨W0,hW,hst⟩:=jM w c o m;have HW:=hd hW;have HM:=hd hst;clear hW hst;go_enter Tryz.func81,Tryz.ntmps81
 go_upto_region 1 with fail
 rw[HW.o];clear HW;first
  |
   go_wp2_with(first
    |((with_reducible refine zC (ty:=27) (x:=.tmp 14) ?_);refine zE HM.o.v4 (j:=1) (v:=.slice o.Q o.lq o.cq) _ rfl rfl rfl rfl Tryz.underlying27 rfl ?_)
    |(go_at_call 117;refine Calls.mono (zI7 (HO.o.later HM.o.below) aA.o ej.o) ?_;rintro e w2 ⟨A2,l2,c2,rfl,hl2,hc2,hi2,b9⟩;have av:=hd (show Pth _ w2 A2 l2 c2 q2 w2 from⟨hl2,by have h5:=fe.o;have h6:q2.length=l2:=hl2;omega,hc2,dZ.o,hi2,zA5.refl _ _⟩);have eG:=HM.o.v6.lt;have HM:=hd (HM.o.call b9);have dO:=HM.o.v6.lt;clear b9 hl2 hc2 hi2;dsimp only)
    |(go_at_call 117;refine Calls.mono (zI7 (HO.o.later HM.o.below) aA.o ej.o) ?_;rintro e w2 ⟨A2,l2,c2,rfl,hl2,hc2,hi2,b9⟩;have HM:=hd (HM.o.call b9);clear b9 hl2 hc2 hi2;dsimp only)
    |((with_reducible refine zC (ty:=26) (x:=.tmp 3) ?_);refine zB zD HM.o.v3 rfl _ rfl rfl rfl ?_)
    |(go_at_call 30;refine Calls.mono (zHl (HN.o.later HM.o.below) av.o.has fW.o) ?_;rintro e w4 h4;obtain⟨cb,db,us,rfl,htop,hst,b9⟩:=h4.top;have cO:=hd htop;have HB:=hd hst.now;have HM:=hd (HM.o.call b9);have av:=hd (av.o.call b9);have kG:=HM.o.v6.lt;have lg:=b9.size;clear b9 htop hst;dsimp only)
    |((with_reducible refine zF (ty:=26) (x:=.tmp 10) ?_);refine zA zD (r0:=NC.nil.row) (r:=cb.row) (zAr w4).1 rfl rfl cb.one _ _ rfl rfl rfl rfl rfl ?_;intro W5 hv ho;have ag:=hd hv;have HI:=hd (((zA5.refl w2.heap.size w4).call (zAr w4).2).off2 ho Kb);have HB:=hd (HB.o.later2 (zAr w4).2 ho Kl);have av:=hd ((av.o.call (zAr w4).2).off ho Kb);have HM:=hd ((HM.o.call (zAr w4).2).off Kb ho);clear hv ho)
    |((with_reducible refine zF (ty:=26) (x:=.tmp 6) ?_);refine zA zD (r0:=NC.nil.row) (r:=NC.nil.row) HM.o.v6 rfl rfl NC.nil.one _ _ rfl rfl rfl rfl rfl ?_;intro W7 hv ho;have HM:=hd (HM.o.set6 (a':=NC.nil) hv ho);clear hv ho)
    |((with_reducible refine zC (ty:=4) (x:=.tmp 35) ?_);refine zM ag.o (j:=0) (v:=.bool false) _ rfl rfl rfl (by have h9:=HB.o.lf;rw[fX.o]at h9;simp only[NC.row,<-h9];rfl) Tryz.underlying4 rfl ?_)
    |((with_reducible refine zC (ty:=4) (x:=.tmp 37) ?_);refine zM HM.o.v5 (j:=0) (v:=.bool true) _ rfl rfl rfl (by have h9:=bC.o.lf;rw[cU.o]at h9;simp only[NC.row,<-h9];rfl) Tryz.underlying4 rfl ?_)
    |((with_reducible refine zC (ty:=4) (x:=.tmp 35) ?_);refine zM ag.o (j:=0) (v:=.bool true) _ rfl rfl rfl (by have h9:=HB.o.lf;rw[fX.o]at h9;simp only[NC.row,<-h9];rfl) Tryz.underlying4 rfl ?_)
    |((with_reducible refine zC (ty:=4) (x:=.tmp 37) ?_);refine zM HM.o.v5 (j:=0) (v:=.bool false) _ rfl rfl rfl (by have h9:=bC.o.lf;rw[cU.o]at h9;simp only[NC.row,<-h9];rfl) Tryz.underlying4 rfl ?_)
    |fail)
   exact bodyPost_ret (kU Tryz.results81 _ _ HM.o.v6 rfl) rfl ⟨NC.nil,rfl,fun _ _=>zAb _,HM.o.below⟩
  |
   go_upto_region 9 with(first
    |((with_reducible refine zC (ty:=27) (x:=.tmp 14) ?_);refine zE HM.o.v4 (j:=1) (v:=.slice o.Q o.lq o.cq) _ rfl rfl rfl rfl Tryz.underlying27 rfl ?_)
    |(go_at_call 117;refine Calls.mono (zI7 (HO.o.later HM.o.below) aA.o ej.o) ?_;rintro e w2 ⟨A2,l2,c2,rfl,hl2,hc2,hi2,b9⟩;have av:=hd (show Pth _ w2 A2 l2 c2 q2 w2 from⟨hl2,by have h5:=fe.o;have h6:q2.length=l2:=hl2;omega,hc2,dZ.o,hi2,zA5.refl _ _⟩);have eG:=HM.o.v6.lt;have HM:=hd (HM.o.call b9);have dO:=HM.o.v6.lt;clear b9 hl2 hc2 hi2;dsimp only)
    |((with_reducible refine zC (ty:=26) (x:=.tmp 3) ?_);refine zB zD HM.o.v3 rfl _ rfl rfl rfl ?_)
    |(go_at_call 30;refine Calls.mono (zHl (HN.o.later HM.o.below) av.o.has fW.o) ?_;rintro e w4 h4;obtain⟨cb,db,us,rfl,htop,hst,b9⟩:=h4.top;have cO:=hd htop;have HB:=hd hst.now;have HM:=hd (HM.o.call b9);have av:=hd (av.o.call b9);have kG:=HM.o.v6.lt;have lg:=b9.size;clear b9 htop hst;dsimp only)
    |((with_reducible refine zF (ty:=26) (x:=.tmp 10) ?_);refine zA zD (r0:=NC.nil.row) (r:=cb.row) (zAr w4).1 rfl rfl cb.one _ _ rfl rfl rfl rfl rfl ?_;intro W5 hv ho;have ag:=hd hv;have HI:=hd (((zA5.refl w2.heap.size w4).call (zAr w4).2).off2 ho Kb);have HB:=hd (HB.o.later2 (zAr w4).2 ho Kl);have av:=hd ((av.o.call (zAr w4).2).off ho Kb);have HM:=hd ((HM.o.call (zAr w4).2).off Kb ho);clear hv ho)
    |((with_reducible refine zC (ty:=4) (x:=.tmp 35) ?_);refine zM ag.o (j:=0) (v:=.bool false) _ rfl rfl rfl (by have h9:=HB.o.lf;rw[fX.o]at h9;simp only[NC.row,<-h9];rfl) Tryz.underlying4 rfl ?_)
    |((with_reducible refine zC (ty:=4) (x:=.tmp 37) ?_);refine zM HM.o.v5 (j:=0) (v:=.bool false) _ rfl rfl rfl (by have h9:=bC.o.lf;rw[cU.o]at h9;simp only[NC.row,<-h9];rfl) Tryz.underlying4 rfl ?_)
    |((with_reducible refine zC (ty:=4) (x:=.tmp 35) ?_);refine zM ag.o (j:=0) (v:=.bool true) _ rfl rfl rfl (by have h9:=HB.o.lf;rw[fX.o]at h9;simp only[NC.row,<-h9];rfl) Tryz.underlying4 rfl ?_)
    |((with_reducible refine zC (ty:=4) (x:=.tmp 37) ?_);refine zM HM.o.v5 (j:=0) (v:=.bool true) _ rfl rfl rfl (by have h9:=bC.o.lf;rw[cU.o]at h9;simp only[NC.row,<-h9];rfl) Tryz.underlying4 rfl ?_)
    |fail)
   obtain⟨g10,dK⟩:∃g,w4.heap.size=g:=⟨_,rfl⟩
   have iP:w4.heap.size<=g10:=Kb
   rw[dK]at ag
   try rw[dK]
   clear dK
   have HM:=hd (HM.o.call (Kk.drew))
   have ag:=hd (ag.o.keep (Kk.drew))
   have av:=hd (av.o.call (Kk.drew))
   have HI:=hd (HI.o.call (Kk.drew))
   have HB:=hd (HB.o.later (Kk.drew))
   refine jO (S:=fun W'=>jR W' (w.heap.size+1) o/\jT 26 W' g10 cb.row) (z:=fun _=>false) Ka ?_
   have ac:=hd (And.intro HM.o.v4 ag.o)
   refine Ko 0 5 (.pointer (some ⟨w.heap.size+1,3,none⟩)) ac.o ?_
   simp only[Act.put,List.getElem_toArray,List.getElem_cons_zero,List.setIfInBounds_toArray,List.set_cons_succ,List.set_cons_zero]
   refine Kn 1 4 (.int .i64 o.z) (fun W9 aC=>?_) ac.o ?_
   ·exact kV (j:=3) aC.1.toR _ rfl rfl rfl Tryz.underlying3 rfl
   refine jP ?_
   refine Kn 2 3 (.agg cb.row) (fun W9 aC=>?_) ac.o ?_
   ·exact zS zD aC.2 rfl _ rfl rfl
   refine jP ?_
   refine Kp 3 2 (fun K hK=>?_)
   rw[if_pos Ka]
   go_simp
   go_at_call 127
   refine(zDu (c:=cb) HB.o lU.o).mono ?_
   rintro e w5 ⟨rfl,b9⟩
   have HM:=hd (HM.o.call b9)
   have ag:=hd (ag.o.keep b9)
   have av:=hd (av.o.call b9)
   have HI:=hd (HI.o.call b9)
   clear b9 ac
   have ac:=hd (And.intro HM.o.v4 ag.o)
   refine hK _ _ (fun _=>ac.o) ?_
   clear hK K
   first
    |
     refine Ko 4 1 (.bool true) ac.o ?_
     refine jP ?_
     refine Kp 5 0 (fun K hK=>?_)
     rw[if_pos Ka]
     go_simp
     refine hK _ _ (fun _=>ac.o) (zAl Ka ?_)
     clear hK K ac
     go_wp2_with(first
      |((with_reducible refine zF (ty:=26) (x:=.tmp 6) ?_);refine zA zD (r0:=NC.nil.row) (r:=NC.nil.row) HM.o.v6 rfl rfl NC.nil.one _ _ rfl rfl rfl rfl rfl ?_;intro W7 hv ho;have HM:=hd (HM.o.set6 (a':=NC.nil) hv ho);clear hv ho)
      |fail)
     exact bodyPost_ret (kU Tryz.results81 _ _ HM.o.v6 rfl) rfl ⟨NC.nil,rfl,fun _ _=>zAb _,HM.o.below⟩
    |
     refine Ko 4 1 (.bool false) ac.o ?_
     refine jP ?_
     refine Kp 5 0 (fun K hK=>?_)
     rw[if_pos Ka]
     go_simp
     refine hK _ _ (fun _=>ac.o) (zAl Ka ?_)
     clear hK K ac
     first
      |
       go_wp2_with(first
        |((with_reducible refine zC (ty:=22) (x:=.tmp 49) ?_);refine zE HM.o.v4 (j:=8) (v:=.slice o.O o.no o.co) _ rfl rfl rfl rfl Tryz.underlying22 rfl ?_)
        |((with_reducible refine zC (ty:=22) (x:=.tmp 51) ?_);refine zM HM.o.v5 (j:=1) (v:=.slice m.P m.np m.pc) _ rfl rfl rfl rfl Tryz.underlying22 rfl ?_)
        |(go_at_call 119;refine Calls.mono (zLd (bC.o.later HM.o.below) (HO.o.later HM.o.below) gV.o) ?_;rintro e w6 ⟨rfl,b9⟩;have HM:=hd (HM.o.call b9);have ag:=hd (ag.o.keep b9);have av:=hd (av.o.call b9);have HI:=hd (HI.o.call b9);clear b9)
        |((with_reducible refine zF (ty:=26) (x:=.tmp 6) ?_);refine zA zD (r0:=NC.nil.row) (r:=NC.nil.row) HM.o.v6 rfl rfl NC.nil.one _ _ rfl rfl rfl rfl rfl ?_;intro W7 hv ho;have HM:=hd (HM.o.set6 (a':=NC.nil) hv ho);clear hv ho)
        |fail)
       exact bodyPost_ret (kU Tryz.results81 _ _ HM.o.v6 rfl) rfl ⟨NC.nil,rfl,fun _ _=>zAb _,HM.o.below⟩
      |
       go_upto_region 13 with(first
        |((with_reducible refine zC (ty:=22) (x:=.tmp 49) ?_);refine zE HM.o.v4 (j:=8) (v:=.slice o.O o.no o.co) _ rfl rfl rfl rfl Tryz.underlying22 rfl ?_)
        |((with_reducible refine zC (ty:=22) (x:=.tmp 51) ?_);refine zM HM.o.v5 (j:=1) (v:=.slice m.P m.np m.pc) _ rfl rfl rfl rfl Tryz.underlying22 rfl ?_)
        |(go_at_call 119;refine Calls.mono (zLd (bC.o.later HM.o.below) (HO.o.later HM.o.below) gV.o) ?_;rintro e w6 ⟨rfl,b9⟩;have HM:=hd (HM.o.call b9);have ag:=hd (ag.o.keep b9);have av:=hd (av.o.call b9);have HI:=hd (HI.o.call b9);clear b9)
        |fail)
       have HM:=hd (HM.o.call (Kk.drew))
       have ag:=hd (ag.o.keep (Kk.drew))
       have av:=hd (av.o.call (Kk.drew))
       have HI:=hd (HI.o.call (Kk.drew))
       obtain⟨W,hW⟩:∃W,w6.drew=W:=⟨_,rfl⟩
       rw[hW]at HM ag av HI
       refine jO (S:=fun W'=>jT 26 W' (w.heap.size+1+1) m.row/\W'.cell? ⟨g10,3,none⟩=some (.slice cb.K cb.nk cb.kc)) (z:=fun j=>j==13) Ka ?_
       rw[hW]
       clear hW
       have ac:=hd (And.intro HM.o.v5 (ag.o.cell 3 (.slice cb.K cb.nk cb.kc) rfl))
       refine Ko 0 13 (.pointer (some ⟨g10,2,none⟩)) ac.o ?_
       simp only[Act.put,List.getElem_toArray,List.getElem_cons_zero,List.setIfInBounds_toArray,List.set_cons_succ,List.set_cons_zero]
       refine Ko 2 12 (.pointer (some ⟨w.heap.size+1+1,2,none⟩)) ac.o ?_
       refine jP ?_
       refine Kn 3 11 (.slice m.X m.nt m.tc) (fun W9 aC=>?_) ac.o ?_
       ·exact kV (j:=2) aC.1 _ rfl rfl rfl Tryz.underlying23 rfl
       refine jP ?_
       refine Ko 5 10 (.pointer (some ⟨g10,3,none⟩)) ac.o ?_
       refine jP ?_
       refine Kn 6 9 (.slice cb.K cb.nk cb.kc) (fun W9 aC=>?_) ac.o ?_
       ·exact zK3 aC.2 _ rfl rfl Tryz.underlying24 rfl
       refine jP ?_
       refine Ko 7 8 (.pointer (some ⟨w.heap.size+1+1,3,none⟩)) ac.o ?_
       refine jP ?_
       refine Kn 8 7 (.slice m.K m.nk m.kc) (fun W9 aC=>?_) ac.o ?_
       ·exact kV (j:=3) aC.1 _ rfl rfl rfl Tryz.underlying24 rfl
       refine jP ?_
       refine Kp 1 6 (fun K hK=>?_)
       rw[if_pos Ka]
       refine zB6 (j:=2) (ag.o.cell 2 (.slice cb.X cb.nt cb.tc) rfl) _ rfl rfl Tryz.underlying23 rfl ?_
       refine jP ?_
       refine hK _ _ (fun _=>ac.o) ?_
       clear hK K
       have htop:=cO.o.high HI.o
       have hmp:=bC.o.parts
       have hsz:=lh.o
       have bo:b.tx.length+1<=sizeT b:=by obtain⟨lf,ps,tx,ks⟩:=b;simp only[sizeT,NT.tx];omega
       have hl2:mt.tx.length+1<=sizeT mt:=by obtain⟨lf,ps,tx,ks⟩:=mt;simp only[sizeT,NT.tx];omega
       have cC:b.ks.length<=sizeT b:=zLe b
       have hl4:mt.ks.length<=sizeT mt:=zLe mt
       have e1:=htop.nt
       have e2:=htop.nk
       have e3:=hmp.nt
       have e4:=hmp.nk
       have se:=HI.o.size
       have hbs:=HM.o.below.size
       have tC:=ag.o.lt
       have yI:=hd HI.o
       refine Kp 4 5 (fun K hK=>?_)
       first
        |
         refine zIq zTa W rfl _ _ rfl w2.heap.size (.slice cb.X cb.nt cb.tc) cb.nt (rv b.tx) rfl htop.x m.X m.nt m.tc w.heap.size (rv mt.tx) rfl (by rw[zCg,e3,Nat.mul_one]) (hmp.x.below HM.o.below) (zNz _) Kg Kb Kb ?_
         intro A' c' W5 hrow hgr hat
         have iE:=hd hrow
         have mM:=hd hgr
         have ju:=hgr.size
         have hkb:∀q,(Value.slice cb.X cb.nt cb.tc).ownBlock=some q->w2.heap.size<=q/\q<w4.heap.size:=fun q hq=>cO.o.x.lt q hq
         have hmb:Below w.heap.size w W5:=HM.o.below.grown hgr Kb (fun j hj=>by have:=(hkb j hj).1;omega)
         have cI:∀g,(g<w2.heap.size∨w4.heap.size<=g)->g<W.heap.size->W5.heap[g]? =W.heap[g]? :=fun g hg hl=>hgr.block g hl (fun e=>by have:=hkb g e.symm;omega)
         have HM:=hd (show M4 w c o m NC.nil W5 from⟨(cI _ Kb HM.o.v3.lt).trans HM.o.v3,(cI _ Kb HM.o.v4.lt).trans HM.o.v4,(cI _ Kb HM.o.v5.lt).trans HM.o.v5,(cI _ Kb HM.o.v6.lt).trans HM.o.v6,hmb⟩)
         have ag:=hd (show jT 26 W5 g10 _ from(cI _ Kb ag.o.lt).trans ag.o)
         have gJ:=hd ag.o
         have av:=hd (av.o.grown hgr (fun j hj=>(hkb j hj).1))
         have sj:=hd hat
         clear hat hrow hgr cI hkb hmb
         refine jP ?_
         have ac:=hd (And.intro HM.o.v5 (ag.o.cell 3 (.slice cb.K cb.nk cb.kc) rfl))
         refine hK _ _ (fun _=>ac.o) ?_
         clear hK K
         refine Ko 10 4 (.pointer (some ⟨g10,2,none⟩)) ac.o ?_
         refine jP ?_
         refine Kp 9 3 (fun K hK=>?_)
         refine zJh zWg _ rfl _ _ rfl w2.heap.size (.slice cb.K cb.nk cb.kc) cb.nk (zGg us) rfl (htop.k.kept mM.o (zJz htop.x htop.k Kd)) m.K m.nk m.kc (by rw[<-e4,lV.o];rfl) rfl ?_
         refine jP ?_
         have ac:=hd (And.intro HM.o.v5 (ag.o.cell 3 (.slice cb.K cb.nk cb.kc) rfl))
         refine hK _ _ (fun _=>ac.o) ?_
         clear hK K
         refine Kp 11 2 (fun K hK=>?_)
         rw[if_pos Ka]
         refine zY zFu ag.o _ _ rfl rfl 2 _ [.slice A' (cb.nt+m.nt) c'] rfl rfl rfl rfl (zHt rfl) Km ?_
         intro W7 hv ho
         have nV:=hd ho
         have HM:=hd (HM.o.off Kb ho)
         have av:=hd (av.o.off ho Kb)
         have ag:=hd (show jT 26 W7 g10 (NC.row ({cb with X:=A',nt:=cb.nt+m.nt,tc:=c'}:NC))from hv)
         clear hv ho
         have ac:=hd (And.intro HM.o.v5 (ag.o.cell 3 (.slice cb.K cb.nk cb.kc) rfl))
         refine hK _ _ (fun _=>ac.o) ?_
         clear hK K
         refine Ko 12 1 (.pointer (some ⟨g10,3,none⟩)) ac.o ?_
         refine jP ?_
         refine Kp 13 0 (fun K hK=>?_)
         rw[if_pos Ka]
         refine zY zKu ag.o _ _ rfl rfl 3 _ [.slice cb.K cb.nk cb.kc] rfl rfl rfl rfl (zHt rfl) Km ?_
         intro W8 hv ho
         have cj:=hd (show jT 26 W8 g10 (NC.row ({cb with X:=A',nt:=cb.nt+m.nt,tc:=c'}:NC))from hv)
         have q8:=hd (nV.o.trans ho)
         have HM:=hd (HM.o.off Kb ho)
         have av:=hd (av.o.off ho Kb)
         clear hv ho
         refine hK _ _ (fun h=>absurd h Kd) (zAl Ka ?_)
         clear hK K
         have iF:=hd (zS1 cO.o yI.o fU.o lV.o e3 Kb iE.o mM.o gJ.o q8.o)
         clear htop hmp bo hl2 cC hl4 e1 e2 e3 e4 hsz
         go_wp2_with(first
          |((with_reducible refine zC (ty:=26) (x:=.tmp 3) ?_);refine zB zD HM.o.v3 rfl _ rfl rfl rfl ?_)
          |((with_reducible refine zC (ty:=27) (x:=.tmp 70) ?_);refine zE HM.o.v4 (j:=1) (v:=.slice o.Q o.lq o.cq) _ rfl rfl rfl rfl Tryz.underlying27 rfl ?_)
          |(go_at_call 83;refine Calls.mono (zR2 (HN.o.later HM.o.below) (zKt.later (HO.o.hasq aA.o) HM.o.below) aL.o cL.o) ?_;rintro e w9 ⟨cr,cy,rfl,h1,h2,b9⟩;have HX:=hd h1.now;have iF:=hd (iF.o.later b9);have cj:=hd (cj.o.keep b9);have av:=hd (av.o.call b9);have HM:=hd (HM.o.call b9);have wO:=HM.o.v6.lt;have hl12:=cj.o.lt;have CE:=av.o.hi.size;clear b9 h1 h2;dsimp only)
          |((with_reducible refine zF (ty:=26) (x:=.tmp 11) ?_);refine zA zD (r0:=NC.nil.row) (r:=cr.row) (zP3 w9).1 rfl rfl cr.one _ _ rfl rfl rfl rfl rfl ?_;intro vd hv ho;have bf:=hd hv;have lJ:=hd ((zP3 w9).2.1.off ho Kb);have cj:=hd ((cj.o.keep (zP3 w9).2.2).off ho Kb);have av:=hd ((av.o.call (zP3 w9).2.2).off ho Kb);have HM:=hd ((HM.o.call (zP3 w9).2.2).off Kb ho);have bw:=hd ((zP3 w9).2.2.trans (ho.below Kl (zP3 w9).2.2.size));clear hv ho)
          |((with_reducible refine zF (ty:=26) (x:=.tmp 12) ?_);refine zA zD (r0:=NC.nil.row) (r:=cy.row) lJ.o rfl rfl cy.one _ _ rfl rfl rfl rfl rfl ?_;intro CF hv ho;have bf:=hd (bf.o.off ho Kb);have bw:=hd (bw.o.trans (ho.below Kb bw.o.size));have HX:=hd (HX.o.later bw.o);have iF:=hd (iF.o.later bw.o);have cj:=hd (cj.o.off ho Kb);have av:=hd (av.o.off ho Kb);have HM:=hd (HM.o.off Kb ho);clear lJ;clear hv ho)
          |((with_reducible refine zC (ty:=26) (x:=.tmp 11) ?_);refine zB zD bf.o rfl _ rfl rfl rfl ?_)
          |((with_reducible refine zC (ty:=26) (x:=.tmp 10) ?_);refine zB zD cj.o rfl _ rfl rfl rfl ?_)
          |(go_at_call 128;refine Calls.mono (zJ1 HX.o iF.o av.o.has bp.o) ?_;rintro e wF ⟨cf,rfl,hx,b9⟩;have hlo:=HM.o.v6.lt;have hsz:=HM.o.below.size;have HX:=hd hx;have HM:=hd (HM.o.call b9);clear b9 hx;dsimp only)
          |((with_reducible refine zF (ty:=26) (x:=.tmp 6) ?_);refine zA zD (r0:=NC.nil.row) (r:=cf.row) HM.o.v6 rfl rfl cf.one _ _ rfl rfl rfl rfl rfl ?_;intro WF hv ho;have HM:=hd (HM.o.set6 (a':=cf) hv ho);have HX:=hd (HX.o.off ho Kb);clear hv ho)
          |fail)
         exact bodyPost_ret (kU Tryz.results81 _ _ HM.o.v6 rfl) rfl ⟨cf,rfl,HX.o.more Kb,HM.o.below⟩
        |
         refine zJh zTa _ rfl _ _ rfl w2.heap.size (.slice cb.X cb.nt cb.tc) cb.nt (rv b.tx) rfl htop.x m.X m.nt m.tc (by rw[<-e3,lV.o];rfl) rfl ?_
         refine jP ?_
         have ac:=hd (And.intro HM.o.v5 (ag.o.cell 3 (.slice cb.K cb.nk cb.kc) rfl))
         refine hK _ _ (fun _=>ac.o) ?_
         clear hK K
         obtain⟨dk,hkk⟩:=CC.o.parts.k
         obtain⟨vs,hvs,hvl⟩:=hkk.vals
         have uT:=hd hvs
         have uU:=hd hvl
         have sk:=hd hvs.flat
         clear hkk hvs hvl
         refine Ko 10 4 (.pointer (some ⟨g10,2,none⟩)) ac.o ?_
         refine jP ?_
         refine Kp 9 3 (fun K hK=>?_)
         refine zIq zWg W rfl _ _ rfl w2.heap.size (.slice cb.K cb.nk cb.kc) cb.nk (zGg us) rfl (cO.o.high HI.o).k m.K m.nk m.kc w.heap.size (zGg vs) rfl (by rw[sk.o.1,e4]) (uU.o.below HM.o.below) sk.o.2 Kg Kb Kb ?_
         intro A' c' W5 hrow hgr hat
         have iE:=hd hrow
         have mM:=hd hgr
         have ju:=hgr.size
         have hkb:∀q,(Value.slice cb.K cb.nk cb.kc).ownBlock=some q->w2.heap.size<=q/\q<w4.heap.size:=fun q hq=>cO.o.k.lt q hq
         have hmb:Below w.heap.size w W5:=HM.o.below.grown hgr Kb (fun j hj=>by have:=(hkb j hj).1;omega)
         have cI:∀g,(g<w2.heap.size∨w4.heap.size<=g)->g<W.heap.size->W5.heap[g]? =W.heap[g]? :=fun g hg hl=>hgr.block g hl (fun e=>by have:=hkb g e.symm;omega)
         have HM:=hd (show M4 w c o m NC.nil W5 from⟨(cI _ Kb HM.o.v3.lt).trans HM.o.v3,(cI _ Kb HM.o.v4.lt).trans HM.o.v4,(cI _ Kb HM.o.v5.lt).trans HM.o.v5,(cI _ Kb HM.o.v6.lt).trans HM.o.v6,hmb⟩)
         have ag:=hd (show jT 26 W5 g10 _ from(cI _ Kb ag.o.lt).trans ag.o)
         have gJ:=hd ag.o
         have av:=hd (av.o.grown hgr (fun j hj=>(hkb j hj).1))
         have sj:=hd hat
         clear hat hrow hgr cI hkb hmb
         refine jP ?_
         have ac:=hd (And.intro HM.o.v5 (ag.o.cell 3 (.slice cb.K cb.nk cb.kc) rfl))
         refine hK _ _ (fun _=>ac.o) ?_
         clear hK K
         refine Kp 11 2 (fun K hK=>?_)
         rw[if_pos Ka]
         refine zY zFu ag.o _ _ rfl rfl 2 _ [.slice cb.X cb.nt cb.tc] rfl rfl rfl rfl (zHt rfl) Km ?_
         intro W7 hv ho
         have nV:=hd ho
         have HM:=hd (HM.o.off Kb ho)
         have av:=hd (av.o.off ho Kb)
         have ag:=hd (show jT 26 W7 g10 (NC.row cb)from hv)
         clear hv ho
         have ac:=hd (And.intro HM.o.v5 (ag.o.cell 3 (.slice cb.K cb.nk cb.kc) rfl))
         refine hK _ _ (fun _=>ac.o) ?_
         clear hK K
         refine Ko 12 1 (.pointer (some ⟨g10,3,none⟩)) ac.o ?_
         refine jP ?_
         refine Kp 13 0 (fun K hK=>?_)
         rw[if_pos Ka]
         refine zY zKu ag.o _ _ rfl rfl 3 _ [.slice A' (cb.nk+m.nk) c'] rfl rfl rfl rfl (zHt rfl) Km ?_
         intro W8 hv ho
         have cj:=hd (show jT 26 W8 g10 (NC.row ({cb with K:=A',nk:=cb.nk+m.nk,kc:=c'}:NC))from hv)
         have q8:=hd (nV.o.trans ho)
         have HM:=hd (HM.o.off Kb ho)
         have av:=hd (av.o.off ho Kb)
         clear hv ho
         refine hK _ _ (fun h=>absurd h Kd) (zAl Ka ?_)
         clear hK K
         have iF:=hd (zY0 cO.o yI.o fU.o lV.o e4 Kb iE.o mM.o sj.o Kb tC gJ.o q8.o uT.o Kb HM.o.below)
         clear htop hmp bo hl2 cC hl4 e1 e2 e3 e4 hsz
         go_wp2_with(first
          |((with_reducible refine zC (ty:=26) (x:=.tmp 3) ?_);refine zB zD HM.o.v3 rfl _ rfl rfl rfl ?_)
          |((with_reducible refine zC (ty:=27) (x:=.tmp 70) ?_);refine zE HM.o.v4 (j:=1) (v:=.slice o.Q o.lq o.cq) _ rfl rfl rfl rfl Tryz.underlying27 rfl ?_)
          |(go_at_call 83;refine Calls.mono (zR2 (HN.o.later HM.o.below) (zKt.later (HO.o.hasq aA.o) HM.o.below) aL.o cL.o) ?_;rintro e w9 ⟨cr,cy,rfl,h1,h2,b9⟩;have HX:=hd h1.now;have iF:=hd (iF.o.later b9);have cj:=hd (cj.o.keep b9);have av:=hd (av.o.call b9);have HM:=hd (HM.o.call b9);have wO:=HM.o.v6.lt;have hl12:=cj.o.lt;have CE:=av.o.hi.size;clear b9 h1 h2;dsimp only)
          |((with_reducible refine zF (ty:=26) (x:=.tmp 11) ?_);refine zA zD (r0:=NC.nil.row) (r:=cr.row) (zP3 w9).1 rfl rfl cr.one _ _ rfl rfl rfl rfl rfl ?_;intro vd hv ho;have bf:=hd hv;have lJ:=hd ((zP3 w9).2.1.off ho Kb);have cj:=hd ((cj.o.keep (zP3 w9).2.2).off ho Kb);have av:=hd ((av.o.call (zP3 w9).2.2).off ho Kb);have HM:=hd ((HM.o.call (zP3 w9).2.2).off Kb ho);have bw:=hd ((zP3 w9).2.2.trans (ho.below Kl (zP3 w9).2.2.size));clear hv ho)
          |((with_reducible refine zF (ty:=26) (x:=.tmp 12) ?_);refine zA zD (r0:=NC.nil.row) (r:=cy.row) lJ.o rfl rfl cy.one _ _ rfl rfl rfl rfl rfl ?_;intro CF hv ho;have bf:=hd (bf.o.off ho Kb);have bw:=hd (bw.o.trans (ho.below Kb bw.o.size));have HX:=hd (HX.o.later bw.o);have iF:=hd (iF.o.later bw.o);have cj:=hd (cj.o.off ho Kb);have av:=hd (av.o.off ho Kb);have HM:=hd (HM.o.off Kb ho);clear lJ;clear hv ho)
          |((with_reducible refine zC (ty:=26) (x:=.tmp 11) ?_);refine zB zD bf.o rfl _ rfl rfl rfl ?_)
          |((with_reducible refine zC (ty:=26) (x:=.tmp 10) ?_);refine zB zD cj.o rfl _ rfl rfl rfl ?_)
          |(go_at_call 128;refine Calls.mono (zJ1 HX.o iF.o av.o.has bp.o) ?_;rintro e wF ⟨cf,rfl,hx,b9⟩;have hlo:=HM.o.v6.lt;have hsz:=HM.o.below.size;have HX:=hd hx;have HM:=hd (HM.o.call b9);clear b9 hx;dsimp only)
          |((with_reducible refine zF (ty:=26) (x:=.tmp 6) ?_);refine zA zD (r0:=NC.nil.row) (r:=cf.row) HM.o.v6 rfl rfl cf.one _ _ rfl rfl rfl rfl rfl ?_;intro WF hv ho;have HM:=hd (HM.o.set6 (a':=cf) hv ho);have HX:=hd (HX.o.off ho Kb);clear hv ho)
          |fail)
         exact bodyPost_ret (kU Tryz.results81 _ _ HM.o.v6 rfl) rfl ⟨cf,rfl,HX.o.more Kb,HM.o.below⟩
        |fail
      |fail
    |fail
  |fail):P:=h
theorem zXm {o:OC}{er:Int}(hn:kS w c n)(ho:OkA w o a)(ta:zAf a)(hm:kS w m mt)(hbk:jV a.q=(q2,er))(hne:(er !=0)=true):Calls Tryz.prog 81 #[.agg c.row,.agg o.row,.agg m.row] w (zAm w (zeroT,er)):=by
 exact kOv
theorem kBl {o:OC}(hn:kS w c n)(ho:OkA w o a)(ta:zAf a)(hm:kS w m mt)(hbk:jV a.q=(q2,0))(hin:InI q2)(bA:q2.length<=1000)(hgb:zGm n q2=(b,0))(hbl:b.lf=true)(cK:mt.lf=false):Calls Tryz.prog 81 #[.agg c.row,.agg o.row,.agg m.row] w (zAm w (zeroT,7)):=by
 exact kOv
theorem kBm {o:OC}(hn:kS w c n)(ho:OkA w o a)(ta:zAf a)(hm:kS w m mt)(hbk:jV a.q=(q2,0))(hin:InI q2)(bA:q2.length<=1000)(hgb:zGm n q2=(b,0))(hbl:b.lf=false)(cK:mt.lf=true):Calls Tryz.prog 81 #[.agg c.row,.agg o.row,.agg m.row] w (zAm w (zeroT,7)):=by
 exact kOv
theorem kE1 {o:OC}(hn:kS w c n)(ho:OkA w o a)(ta:zAf a)(hm:kS w m mt)(hbk:jV a.q=(q2,0))(hin:InI q2)(bA:q2.length<=1000)(hgb:zGm n q2=(b,0))(hbl:b.lf=true)(cK:mt.lf=true)(hlb:zXd b=E)(_z1:(o.z==E)=false)(z2:(o.z !=E)=true):Calls Tryz.prog 81 #[.agg c.row,.agg o.row,.agg m.row] w (zAm w (zeroT,8)):=by
 exact kOv
theorem kE2 {o:OC}(hn:kS w c n)(ho:OkA w o a)(ta:zAf a)(hm:kS w m mt)(hbk:jV a.q=(q2,0))(hin:InI q2)(bA:q2.length<=1000)(hgb:zGm n q2=(b,0))(hbl:b.lf=true)(cK:mt.lf=true)(hlb:zXd b=E)(_z1:(o.z==E)=true)(z2:(o.z !=E)=false)(hop:decide (a.o=mt.ps)=false):Calls Tryz.prog 81 #[.agg c.row,.agg o.row,.agg m.row] w (zAm w (zeroT,9)):=by
 exact kOv
theorem kE3 {o:OC}(hn:kS w c n)(ho:OkA w o a)(ta:zAf a)(hm:kS w m mt)(hbk:jV a.q=(q2,0))(hin:InI q2)(bA:q2.length<=1000)(hgb:zGm n q2=(b,0))(hbl:b.lf=false)(cK:mt.lf=false)(hlb:zXd b=E)(_z1:(o.z==E)=false)(z2:(o.z !=E)=true):Calls Tryz.prog 81 #[.agg c.row,.agg o.row,.agg m.row] w (zAm w (zeroT,8)):=by
 exact kOv
theorem kE4 {o:OC}(hn:kS w c n)(ho:OkA w o a)(ta:zAf a)(hm:kS w m mt)(hbk:jV a.q=(q2,0))(hin:InI q2)(bA:q2.length<=1000)(hgb:zGm n q2=(b,0))(hbl:b.lf=false)(cK:mt.lf=false)(hlb:zXd b=E)(_z1:(o.z==E)=true)(z2:(o.z !=E)=false)(hop:decide (a.o=mt.ps)=false):Calls Tryz.prog 81 #[.agg c.row,.agg o.row,.agg m.row] w (zAm w (zeroT,9)):=by
 exact kOv
theorem kA1 {o:OC}(hn:kS w c n)(ho:OkA w o a)(ta:zAf a)(hm:kS w m mt)(hbk:jV a.q=(q2,0))(hin:InI q2)(bA:q2.length<=1000)(hgb:zGm n q2=(b,0))(hbl:b.lf=true)(cK:mt.lf=true)(hlb:zXd b=E)(_z1:(o.z==E)=true)(z2:(o.z !=E)=false)(hop:decide (a.o=mt.ps)=true)(hkb:b.ks=[])(gY:mt.ks=[])(hbig:sizeT b+sizeT mt<=100000)(hcut:zBw n a.q=(x,0))(hcm:zE3 n a.q=y)(hput:zSe x q2 (zAo b mt)=r):Calls Tryz.prog 81 #[.agg c.row,.agg o.row,.agg m.row] w (zAm w r):=by
 have jv:=hm;exact kOv
theorem kA2 {o:OC}(hn:kS w c n)(ho:OkA w o a)(ta:zAf a)(hm:kS w m mt)(hbk:jV a.q=(q2,0))(hin:InI q2)(bA:q2.length<=1000)(hgb:zGm n q2=(b,0))(hbl:b.lf=false)(cK:mt.lf=false)(hlb:zXd b=E)(_z1:(o.z==E)=true)(z2:(o.z !=E)=false)(hop:decide (a.o=mt.ps)=true)(hkb:b.tx=[])(gY:mt.tx=[])(hbig:sizeT b+sizeT mt<=100000)(hcut:zBw n a.q=(x,0))(hcm:zE3 n a.q=y)(hput:zSe x q2 (zAo b mt)=r):Calls Tryz.prog 81 #[.agg c.row,.agg o.row,.agg m.row] w (zAm w r):=by
 exact kOv
