import Derived.Test.YtmkciabefepelaaGreatJUChg
import Derived.Test.YtmkciabefepelaaGreatJUTxt
import Derived.Test.YtmkciabefepelaaGreatUSplE
import Derived.Test.YtmkciabefepelaaGreatUMer
import Derived.Test.YtmkciabefepelaaGreatJRSplL
set_option maxRecDepth 100000
set_option maxHeartbeats 8000000
namespace Go.Proofs.YtmkciabefepelaaGreat
open Go.RowKit
variable {P:Prop}{s:SC}{sl:Sl}
theorem kP6 {Q:Prop}(k:Q)(h:Q->P:=by
 intro kk;simp only[Act.put,List.getElem_toArray,List.getElem_cons_succ,List.getElem_cons_zero,List.setIfInBounds_toArray,List.set_cons_succ,List.set_cons_zero];exact kk):P:=h k
theorem kFr {n:NT}(h:zAh n=0):zXd n=zG9 n:=by
 obtain⟨h1,h2⟩:=kX h;unfold zXd zG9;cases hl:n.lf with
 |true=>rw[if_pos rfl,h1 hl];simp
 |false=>rw[if_neg Kd,h2 hl];simp
section
variable {w:World}{c:NC}{o:OC}{n:NT}{a:OpP}{r:NT×Int}
theorem kEa (hn:kS w c n)(ho:OkA w o a)(ta:zAf a)(hs:sizeT n<=900)(hk:a.k=1)(hE:kB7 n a=r):Calls Tryz.prog 42 #[.agg c.row,.agg o.row] w (zAm w r):=by
 have ko:o.k=1:=by rw[<-ho.hk];exact hk
 unfold kB7 at hE;by_cases h0:zAd a.n=0
 ·rw[if_neg (by simp[h0])]at hE;exact kMu hn ho ta ko (fun W hb=>kFx (hn.later hb) (ho.later hb) ta ko h0) Kb hE
 ·rw[if_pos h0]at hE;subst hE;exact zKv hn ho ta (fun W hb=>kFx (hn.later hb) (ho.later hb) ta ko rfl) (by simpa using h0)
theorem kEb (hn:kS w c n)(ho:OkA w o a)(ta:zAf a)(hk:a.k=2)(hE:zVk n a=r):Calls Tryz.prog 42 #[.agg c.row,.agg o.row] w (zAm w r):=by
 have ko:o.k=2:=by rw[<-ho.hk];exact hk
 unfold zVk at hE;rcases zH1 n a.q with⟨hq,e⟩|⟨hq,hg,e⟩|⟨m,x,hq,hg,e,em⟩
 ·rw[e,if_pos Kd]at hE;subst hE;exact zKv hn ho ta (fun W hb=>kIt (hn.later hb) (ho.later hb) ta ko (by rw[<-ho.hlq];exact hq)) Kd
 ·rw[e,if_pos Kd]at hE;subst hE;exact zKv hn ho ta (fun W hb=>kFy (hn.later hb) (ho.later hb) ta ko (by rw[<-ho.hlq];exact hq) hg) Kd
 ·rw[e,em,if_neg Kc]at hE;have hm:=fun(W:World)(hb:Below w.heap.size w W)=>kFy (hn.later hb) (ho.later hb) ta ko (by rw[<-ho.hlq];exact hq) (kP hg);by_cases h:eqT m a.n=true
  ·rw[if_pos h]at hE;subst hE;have h':eqT a.n m=true:=zPc ((zIw _ _).1 h).symm;exact kK6 hn ho ta ko hm (fun W d hb hd=>zXa (hn.later hb) (ho.later hb) ta hd h' e em)
  ·rw[if_neg h]at hE;subst hE;have h':eqT a.n m=false:=by cases h2:eqT a.n m with|false=>rfl|true=>exact absurd (zPc ((zIw _ _).1 h2).symm) h
   exact kK6 hn ho ta ko hm (fun W d hb hd=>kAx (hn.later hb) (ho.later hb) ta hd h')
theorem kEc (hn:kS w c n)(ho:OkA w o a)(ta:zAf a)(hc:zAh n=0)(hs:sizeT n<=900)(hk:a.k=3)(hE:kBo n a=r):Calls Tryz.prog 42 #[.agg c.row,.agg o.row] w (zAm w r):=by
 have ko:o.k=3:=by rw[<-ho.hk];exact hk
 unfold kBo at hE;rcases zH1 n a.q with⟨hq,e⟩|⟨hq,hg,e⟩|⟨m,x,hq,hg,e,em⟩
 ·rw[e,if_pos Kd]at hE;subst hE;exact zKv hn ho ta (fun W hb=>kIu (hn.later hb) (ho.later hb) ta ko (by rw[<-ho.hlq];exact hq)) Kd
 ·rw[e,if_pos Kd]at hE;subst hE;exact zKv hn ho ta (fun W hb=>kFz (hn.later hb) (ho.later hb) ta ko (by rw[<-ho.hlq];exact hq) hg) Kd
 ·rw[e,em,if_neg Kc]at hE;have hm:=fun(W:World)(hb:Below w.heap.size w W)=>kFz (hn.later hb) (ho.later hb) ta ko (by rw[<-ho.hlq];exact hq) (kP hg);obtain⟨⟨q2,er⟩,hbk⟩:∃b,jV a.q=b:=⟨_,rfl⟩;rw[hbk]at hE;by_cases h0:er=0
  case neg=>
   rw[if_pos h0]at hE;have h8:er=8:=by have:=kEk hq (by rw[hbk];exact h0);rw[hbk]at this;exact this
   subst hE;subst h8;exact zPr hn ho ta ko hm (fun W d hb hd=>zXm (hn.later hb) (ho.later hb) ta hd hbk Kd)
  subst h0;rw[if_neg Kc]at hE;obtain⟨b,hb1,hb2⟩:=kLb hq hg hbk;rw[e]at hb2;dsimp only at hE;rw[kP hb2]at hE;have hin:=zP7 ho.hiq ta.hq;rw[hbk]at hin;have hcm:=zA6 n a.q m hc hg;have hcb:=zA6 n q2 b hc hb1;have hsm:=zPt hg;have aO:=zPt hb1;obtain⟨v1,v2⟩:=kX hcm;obtain⟨u1,u2⟩:=kX hcb;have hlb:=kFr hcb;unfold kLk at hE;dsimp only at hE;by_cases h1:b.lf=m.lf
  case neg=>
   rw[if_pos h1]at hE;subst hE;cases hx:b.lf with
   |true=>
    have hy:m.lf=false:=by cases h2:m.lf with|false=>rfl|true=>exact absurd (hx.trans h2.symm) h1
    exact zPr hn ho ta ko hm (fun W d hb hd=>kBl (hn.later hb) (ho.later hb) ta hd hbk hin.1 hin.2 (kP hb1) hx hy)
   |false=>
    have hy:m.lf=true:=by cases h2:m.lf with|true=>rfl|false=>exact absurd (hx.trans h2.symm) h1
    exact zPr hn ho ta ko hm (fun W d hb hd=>kBm (hn.later hb) (ho.later hb) ta hd hbk hin.1 hin.2 (kP hb1) hx hy)
  rw[if_neg (by simp[h1])]at hE;by_cases h2:zG9 b=a.z
  case neg=>
   rw[if_pos h2]at hE;subst hE;have z0:o.z≠zG9 b:=fun e=>h2 (by rw[ho.hz,e]);have z1:(o.z==zG9 b)=false:=by simpa using z0
   have z2:(o.z !=zG9 b)=true:=by simpa using z0
   cases hx:b.lf with
   |true=>exact zPr hn ho ta ko hm (fun W d hb hd=>kE1 (hn.later hb) (ho.later hb) ta hd hbk hin.1 hin.2 (kP hb1) hx (by rw[<-h1];exact hx) hlb z1 z2)
   |false=>exact zPr hn ho ta ko hm (fun W d hb hd=>kE3 (hn.later hb) (ho.later hb) ta hd hbk hin.1 hin.2 (kP hb1) hx (by rw[<-h1];exact hx) hlb z1 z2)
  rw[if_neg (by simp[h2])]at hE;have z0:o.z=zG9 b:=by rw[<-ho.hz];exact h2.symm
  have z1:(o.z==zG9 b)=true:=by simpa using z0
  have z2:(o.z !=zG9 b)=false:=by simpa using z0
  by_cases h3:m.ps=a.o
  case neg=>
   rw[if_pos h3]at hE;subst hE;have aF:decide (a.o=m.ps)=false:=decide_eq_false fun e=>h3 e.symm;cases hx:b.lf with
   |true=>exact zPr hn ho ta ko hm (fun W d hb hd=>kE2 (hn.later hb) (ho.later hb) ta hd hbk hin.1 hin.2 (kP hb1) hx (by rw[<-h1];exact hx) hlb z1 z2 aF)
   |false=>exact zPr hn ho ta ko hm (fun W d hb hd=>kE4 (hn.later hb) (ho.later hb) ta hd hbk hin.1 hin.2 (kP hb1) hx (by rw[<-h1];exact hx) hlb z1 z2 aF)
  rw[if_neg (by simp[h3])]at hE;have aF:decide (a.o=m.ps)=true:=decide_eq_true h3.symm;have hp:zSe x q2 (zAo b m)=r:=by rw[zR5 hb2];exact hE
  cases hx:b.lf with
  |true=>exact zPr hn ho ta ko hm (fun W d hb hd=>kA1 (hn.later hb) (ho.later hb) ta hd hbk hin.1 hin.2 (kP hb1) hx (by rw[<-h1];exact hx) hlb z1 z2 aF (u1 hx) (v1 (by rw[<-h1];exact hx)) Kb e em hp)
  |false=>exact zPr hn ho ta ko hm (fun W d hb hd=>kA2 (hn.later hb) (ho.later hb) ta hd hbk hin.1 hin.2 (kP hb1) hx (by rw[<-h1];exact hx) hlb z1 z2 aF (u2 hx) (v2 (by rw[<-h1];exact hx)) Kb e em hp)
theorem kEd (hn:kS w c n)(ho:OkA w o a)(ta:zAf a)(hc:zAh n=0)(hs:sizeT n<=900)(hk:a.k=4)(hE:kBp n a=r):Calls Tryz.prog 42 #[.agg c.row,.agg o.row] w (zAm w r):=by
 have ko:o.k=4:=by rw[<-ho.hk];exact hk
 unfold kBp at hE;by_cases hw:chk a.w=0
 case neg=>
  rw[if_pos hw]at hE;subst hE;exact zKv hn ho ta (fun W hb=>kIs (hn.later hb) (ho.later hb) ta ko rfl (by simpa using hw)) (by simpa using hw)
 rw[if_neg (by simp[hw])]at hE;rcases zH1 n a.q with⟨hq,e⟩|⟨hq,hg,e⟩|⟨m,x,hq,hg,e,em⟩
 ·rw[e,if_pos Kd]at hE;subst hE;exact zKv hn ho ta (fun W hb=>kIv (hn.later hb) (ho.later hb) ta ko hw (by rw[<-ho.hlq];exact hq)) Kd
 ·rw[e,if_pos Kd]at hE;subst hE;exact zKv hn ho ta (fun W hb=>kF0 (hn.later hb) (ho.later hb) ta ko hw (by rw[<-ho.hlq];exact hq) hg) Kd
 ·rw[e,em,if_neg Kc]at hE;have hm:=fun(W:World)(hb:Below w.heap.size w W)=>kF0 (hn.later hb) (ho.later hb) ta ko hw (by rw[<-ho.hlq];exact hq) (kP hg);have hcm:=zA6 n a.q m hc hg;have hlm:=kFr hcm;have hsm:=zPt hg;unfold kLl at hE;by_cases h0:o.z<0
  ·rw[if_pos (.inl (by rw[ho.hz];exact h0))]at hE;subst hE;exact kD9 hn ho ta ko hm (fun W d hb hd=>kA8 (hn.later hb) (ho.later hb) ta hd (decide_eq_true h0))
  by_cases h1:zG9 m<o.z
  ·rw[if_pos (.inr (by rw[ho.hz];exact h1))]at hE;subst hE;exact kD9 hn ho ta ko hm (fun W d hb hd=>zXe (hn.later hb) (ho.later hb) ta hd (decide_eq_false h0) hlm (decide_eq_true h1))
  rw[if_neg (by rw[ho.hz];omega),ho.hz]at hE;obtain⟨⟨q2,er⟩,hnx⟩:∃b,zBg a.q=b:=⟨_,rfl⟩;have her:er=0:=by have:=kIc hq hg (by omega:sizeT n<=100000);rw[hnx]at this;exact this
  subst her;rw[hnx]at hE;dsimp only at hE;have hin:=zP8 ho.hiq ta.hq;rw[hnx]at hin;obtain⟨k,hz⟩:∃k:Nat,o.z=(k:Int):=⟨o.z.toNat,by omega⟩;have vY:o.z.toNat=k:=Kb;rw[vY]at hE;have hput:=zR5 (m:=jN m k) hg;have l9:sizeT (putT n a.q (jN m k))<=100000:=by
   have h2:=zBo n a.q (jN m k) m hg;have h3:=zGv m k [];omega
  cases hx:m.lf with
  |true=>
   have hlen:k<=m.tx.length:=by have:=(kX hcm).1 hx;unfold zG9 at h1;rw[this]at h1;simp at h1;omega
   exact kD9 hn ho ta ko hm (fun W d hb hd=>zXn (hn.later hb) (ho.later hb) ta hd (decide_eq_false h0) hz (by rw[<-hd.parts.nt];exact hlen) hlm (decide_eq_false h1) hnx hin.1 hin.2 (by rw[<-hd.lf];exact hx) hx hput l9 hE)
  |false=>
   have hlen:k<=m.ks.length:=by have:=(kX hcm).2 hx;unfold zG9 at h1;rw[this]at h1;simp at h1;omega
   exact kD9 hn ho ta ko hm (fun W d hb hd=>kEl (hn.later hb) (ho.later hb) ta hd (decide_eq_false h0) hz (by rw[<-hd.parts.nk];exact hlen) hlm (decide_eq_false h1) hnx hin.1 hin.2 (by rw[<-hd.lf];exact hx) hx hput l9 hE)
theorem kEe (hn:kS w c n)(ho:OkA w o a)(ta:zAf a)(hs:sizeT n<=900)(hk:a.k=5)(hE:zVl n a=r):Calls Tryz.prog 42 #[.agg c.row,.agg o.row] w (zAm w r):=by
 have ko:o.k=5:=by rw[<-ho.hk];exact hk
 unfold zVl at hE;rcases zH1 n a.q with⟨hq,e⟩|⟨hq,hg,e⟩|⟨m,x,hq,hg,e,em⟩
 ·rw[e,if_pos Kd]at hE;subst hE;exact zKv hn ho ta (fun W hb=>kIw (hn.later hb) (ho.later hb) ta ko (by rw[<-ho.hlq];exact hq)) Kd
 ·rw[e,if_pos Kd]at hE;subst hE;exact zKv hn ho ta (fun W hb=>kF1 (hn.later hb) (ho.later hb) ta ko (by rw[<-ho.hlq];exact hq) hg) Kd
 ·rw[e,em,if_neg Kc]at hE;have:=kLc e;exact kMv hn ho ta ko (fun W hb=>kF1 (hn.later hb) (ho.later hb) ta ko (by rw[<-ho.hlq];exact hq) (kP hg)) e em Kb hE
theorem kEf (hn:kS w c n)(ho:OkA w o a)(ta:zAf a)(hk:a.k=6)(hE:setO n a=r):Calls Tryz.prog 42 #[.agg c.row,.agg o.row] w (zAm w r):=by
 have ko:o.k=6:=by rw[<-ho.hk];exact hk
 unfold setO at hE;by_cases hq:a.q.length=0
 ·rw[if_pos hq]at hE;subst hE;exact zKv hn ho ta (fun W hb=>kIx (hn.later hb) (ho.later hb) ta ko (by rw[<-ho.hlq];exact hq)) Kd
 rw[if_neg hq]at hE;have hl:o.lq≠0:=by rw[<-ho.hlq];exact hq
 cases hg:kB n a.q with
 |none=>
  rw[zB2 hg,if_pos Kd]at hE;subst hE;exact zKv hn ho ta (fun W hb=>kF2 (hn.later hb) (ho.later hb) ta ko hl (zB2 hg)) Kd
 |some m=>
  rw[kP hg,if_neg Kc]at hE;have hm:=fun(W:World)(hb:Below w.heap.size w W)=>kF2 (hn.later hb) (ho.later hb) ta ko hl (kP hg);unfold set2 at hE;by_cases h0:PE m.ps a.o a.w=0
  ·rw[if_neg (by simp[h0])]at hE;subst hE;have kA:=zPj.1 h0;have hL:=kA.list;exact kK7 hn ho ta ko hm (fun W d hb hd=>kIa (hn.later hb) (ho.later hb) ta hd (by rw[h0,hL]) kA.may (zR5 hg))
  ·rw[if_pos h0]at hE;subst hE;exact kK7 hn ho ta ko hm (fun W d hb hd=>kK8 (hn.later hb) (ho.later hb) ta hd rfl (by simpa using h0))
theorem zR3 (hn:kS w c n)(ho:OkA w o a)(ta:zAf a)(hs:sizeT n<=900)(del:Bool)(hk:a.k=if del then 8 else 7)(hE:zP1 n a (fun r=>if del then zFe r a.z a.x else zFx r a.z a.x)=r):Calls Tryz.prog 42 #[.agg c.row,.agg o.row] w (zAm w r):=by
 unfold zP1 at hE;have hme:∀(r:NT×Int),zGm n a.q=r->∀W,Below w.heap.size w W->Calls Tryz.prog 79 #[.agg c.row,.agg o.row] W (zEi W r):=fun r hr W hb=>by
  cases del with
  |true=>exact kLj (hn.later hb) (ho.later hb) ta (by rw[<-ho.hk];exact hk) hr
  |false=>exact kLi (hn.later hb) (ho.later hb) ta (by rw[<-ho.hk];exact hk) hr
 have hch:∀{mt:NT}{r:NT×Int},(∀W,Below w.heap.size w W->Calls Tryz.prog 79 #[.agg c.row,.agg o.row] W (zEi W (mt,0)))->(∀W m,Below w.heap.size w W->kS W m mt->Calls Tryz.prog 86 #[.agg c.row,.agg o.row,.agg m.row] W (zAm W r))->Calls Tryz.prog 42 #[.agg c.row,.agg o.row] w (zAm w r):=fun h1 h2=>by
  cases del with
  |true=>exact kMt hn ho ta (by rw[<-ho.hk];exact hk) h1 h2
  |false=>exact kMs hn ho ta (by rw[<-ho.hk];exact hk) h1 h2
 cases hg:kB n a.q with
 |none=>
  rw[zB2 hg,if_pos Kd]at hE;subst hE;exact zKv hn ho ta (hme _ (zB2 hg)) Kd
 | some m=>
  rw[kP hg,if_neg Kc]at hE;have hm:=hme _ (kP hg);have hsm:=zPt hg;dsimp only at hE;cases aI:m.lf with
  |false=>
   rw[if_pos aI]at hE;subst hE;exact hch hm (fun W d hb hd=>kA4 (hn.later hb) (ho.later hb) ta hd (by rw[<-hd.lf];exact aI))
  | true=>
   rw[if_neg (by simp[aI])]at hE;unfold kI0 at hE;have sZ:sizeT m<=900:=Kb;have tS:m.tx.length<=900:=by have:=jC m;omega
   have xR:=ta.hx;cases del with
   |true=>
    have k8:(o.k==8)=true:=by rw[<-ho.hk,hk];rfl
    simp only[if_true]at hE;obtain⟨⟨L,er⟩,hr⟩:∃b,zFe m.tx a.z a.x=b:=⟨_,rfl⟩;rw[hr]at hE;by_cases h0:er=0
    ·subst h0;rw[if_neg Kc]at hE;subst hE;have hll:L.length<=35184372088832:=by have:=zKj hr;omega
     exact hch hm (fun W d hb hd=>zNm (hn.later hb) (ho.later hb) ta hd (by rw[<-hd.lf];exact aI) k8 sZ hr hll (zR5 hg))
    ·rw[if_pos h0]at hE;subst hE;exact hch hm (fun W d hb hd=>zPw (hn.later hb) (ho.later hb) ta hd (by rw[<-hd.lf];exact aI) k8 sZ hr (by simpa using h0))
   |false=>
    have k8:(o.k==8)=false:=by rw[<-ho.hk,hk];rfl
    simp only[Bool.false_eq_true,if_false]at hE;obtain⟨⟨L,er⟩,hr⟩:∃b,zFx m.tx a.z a.x=b:=⟨_,rfl⟩;rw[hr]at hE;by_cases h0:er=0
    ·subst h0;rw[if_neg Kc]at hE;subst hE;have hll:L.length<=35184372088832:=by have:=zKi hr;omega
     exact hch hm (fun W d hb hd=>zNl (hn.later hb) (ho.later hb) ta hd (by rw[<-hd.lf];exact aI) k8 sZ hr hll (zR5 hg))
    ·rw[if_pos h0]at hE;subst hE;exact hch hm (fun W d hb hd=>zPv (hn.later hb) (ho.later hb) ta hd (by rw[<-hd.lf];exact aI) k8 sZ hr (by simpa using h0))
theorem kAy (hn:kS w c n)(ho:OkA w o a)(ta:zAf a)(hc:zAh n=0)(hs:sizeT n<=900)(h1:1<=a.k)(h8:a.k<=8)(hE:doO n a=r):Calls Tryz.prog 42 #[.agg c.row,.agg o.row] w (zAm w r):=by
 rcases(show a.k=1∨a.k=2∨a.k=3∨a.k=4∨a.k=5∨a.k=6∨a.k=7∨a.k=8 by omega)with e|e|e|e|e|e|e|e
 ·exact kEa hn ho ta hs e (by rw[<-kKb e];exact hE)
 ·exact kEb hn ho ta e (by rw[<-kM0 e];exact hE)
 ·exact kEc hn ho ta hc hs e (by rw[<-kM1 e];exact hE)
 ·exact kEd hn ho ta hc hs e (by rw[<-kLm e];exact hE)
 ·exact kEe hn ho ta hs e (by rw[<-kLn e];exact hE)
 ·exact kEf hn ho ta e (by rw[<-kLo e];exact hE)
 ·exact zR3 hn ho ta hs false e (by rw[<-hE,kLp e];rfl)
 ·exact zR3 hn ho ta hs true e (by rw[<-hE,kLq e];rfl)
end
section
variable {w:World}{c:NC}{o:OC}{n:NT}{a:OpP}{r:NT×Int}
theorem kYz (hn:kS w c n)(ho:OkA w o a)(ta:zAf a)(hc:zAh n=0)(hs:sizeT n<=900)(hk:a.k=3)(hE:kBo n a=r):Calls Tryz.prog 48 #[.agg c.row,.agg o.row] w (kNs w r):=by
 have ko:o.k=3:=by rw[<-ho.hk];exact hk
 unfold kBo at hE;rcases zH1 n a.q with⟨hq,e⟩|⟨hq,hg,e⟩|⟨m,x,hq,hg,e,em⟩
 ·rw[e,if_pos Kd]at hE;subst hE;exact kVc hn ho ta ko e rfl Kd
 ·rw[e,if_pos Kd]at hE;subst hE;exact kVc hn ho ta ko e rfl Kd
 ·rw[e,em,if_neg Kc]at hE;obtain⟨⟨q2,er⟩,hbk⟩:∃b,jV a.q=b:=⟨_,rfl⟩;rw[hbk]at hE;by_cases h0:er=0
  case neg=>
   rw[if_pos h0]at hE;have h8:er=8:=by have:=kEk hq (by rw[hbk];exact h0);rw[hbk]at this;exact this
   subst hE;subst h8;exact kXw hn ho ta ko e em hbk Kd
  subst h0;rw[if_neg Kc]at hE;obtain⟨b,hb1,hb2⟩:=kLb hq hg hbk;rw[e]at hb2;dsimp only at hE;rw[kP hb2]at hE;have hin:=zP7 ho.hiq ta.hq;rw[hbk]at hin;have hcm:=zA6 n a.q m hc hg;have hcb:=zA6 n q2 b hc hb1;have hsm:=zPt hg;have aO:=zPt hb1;obtain⟨v1,v2⟩:=kX hcm;obtain⟨u1,u2⟩:=kX hcb;unfold kLk at hE;dsimp only at hE;by_cases h1:b.lf=m.lf
  case neg=>
   rw[if_pos h1]at hE;subst hE;cases hx:b.lf with
   |true=>
    have hy:m.lf=false:=by cases h2:m.lf with|false=>rfl|true=>exact absurd (hx.trans h2.symm) h1
    exact kV4 hn ho ta ko e em hbk hin.1 hin.2 (kP hb2) hx hy
   |false=>
    have hy:m.lf=true:=by cases h2:m.lf with|true=>rfl|false=>exact absurd (hx.trans h2.symm) h1
    exact kV5 hn ho ta ko e em hbk hin.1 hin.2 (kP hb2) hx hy
  rw[if_neg (by simp[h1])]at hE;by_cases h2:zG9 b=a.z
  case neg=>
   rw[if_pos h2]at hE;subst hE;have z2:(zG9 b !=o.z)=true:=by rw[<-ho.hz];simpa using h2
   cases hx:b.lf with
   |true=>exact kV6 hn ho ta ko e em hbk hin.1 hin.2 (kP hb2) hx (by rw[<-h1];exact hx) rfl z2
   |false=>exact kV8 hn ho ta ko e em hbk hin.1 hin.2 (kP hb2) hx (by rw[<-h1];exact hx) rfl z2
  rw[if_neg (by simp[h2])]at hE;have z2:(zG9 b !=o.z)=false:=by rw[<-ho.hz];simpa using h2
  by_cases h3:m.ps=a.o
  case neg=>
   rw[if_pos h3]at hE;subst hE;have aF:decide (m.ps=a.o)=false:=decide_eq_false h3;cases hx:b.lf with
   |true=>exact kV7 hn ho ta ko e em hbk hin.1 hin.2 (kP hb2) hx (by rw[<-h1];exact hx) rfl z2 aF
   |false=>exact kV9 hn ho ta ko e em hbk hin.1 hin.2 (kP hb2) hx (by rw[<-h1];exact hx) rfl z2 aF
  rw[if_neg (by simp[h3])]at hE;have aF:decide (m.ps=a.o)=true:=decide_eq_true h3;have hp:zSe x q2 (zAo b m)=r:=by rw[zR5 hb2];exact hE
  cases hx:b.lf with
  |true=>exact kWa hn ho ta ko e em hbk hin.1 hin.2 (kP hb2) hx (by rw[<-h1];exact hx) rfl z2 aF (u1 hx) (v1 (by rw[<-h1];exact hx)) Kb hp
  |false=>exact kWb hn ho ta ko e em hbk hin.1 hin.2 (kP hb2) hx (by rw[<-h1];exact hx) rfl z2 aF (u2 hx) (v2 (by rw[<-h1];exact hx)) Kb hp
theorem kY0 (hn:kS w c n)(ho:OkA w o a)(ta:zAf a)(hc:zAh n=0)(hs:sizeT n<=900)(hk:a.k=4)(hE:kBp n a=r):Calls Tryz.prog 48 #[.agg c.row,.agg o.row] w (kNs w r):=by
 have ko:o.k=4:=by rw[<-ho.hk];exact hk
 unfold kBp at hE;by_cases hw:chk a.w=0
 case neg=>
  rw[if_pos hw]at hE;subst hE;exact kXx hn ho ta ko rfl hw
 rw[if_neg (by simp[hw])]at hE;rcases zH1 n a.q with⟨hq,e⟩|⟨hq,hg,e⟩|⟨m,x,hq,hg,e,em⟩
 ·rw[e,if_pos Kd]at hE;subst hE;exact kVd hn ho ta ko hw e rfl Kd
 ·rw[e,if_pos Kd]at hE;subst hE;exact kVd hn ho ta ko hw e rfl Kd
 ·rw[e,em,if_neg Kc]at hE;have hcm:=zA6 n a.q m hc hg;have hsm:=zPt hg;unfold kLl at hE;by_cases h0:o.z<0
  ·rw[if_pos (.inl (by rw[ho.hz];exact h0))]at hE;subst hE;exact kXy hn ho ta ko hw e em (decide_eq_true h0)
  by_cases h1:zG9 m<o.z
  ·rw[if_pos (.inr (by rw[ho.hz];exact h1))]at hE;subst hE;exact kXz hn ho ta ko hw e em (decide_eq_false h0) rfl (decide_eq_true h1)
  rw[if_neg (by rw[ho.hz];omega),ho.hz]at hE;obtain⟨⟨q2,er⟩,hnx⟩:∃b,zBg a.q=b:=⟨_,rfl⟩;have her:er=0:=by have:=kIc hq hg (by omega:sizeT n<=100000);rw[hnx]at this;exact this
  subst her;rw[hnx]at hE;dsimp only at hE;have hin:=zP8 ho.hiq ta.hq;rw[hnx]at hin;obtain⟨k,hz⟩:∃k:Nat,o.z=(k:Int):=⟨o.z.toNat,by omega⟩;have vY:o.z.toNat=k:=Kb;rw[vY]at hE;have hput:=zR5 (m:=jN m k) hg;have l9:sizeT (putT n a.q (jN m k))<=100000:=by
   have h2:=zBo n a.q (jN m k) m hg;have h3:=zGv m k [];omega
  cases hx:m.lf with
  |true=>
   have hlen:k<=m.tx.length:=by have:=(kX hcm).1 hx;unfold zG9 at h1;rw[this]at h1;simp at h1;omega
   exact kX0 hn ho ta ko hw e em (decide_eq_false h0) hz hlen rfl (decide_eq_false h1) hnx hin.1 hin.2 hx hput l9 hE
  |false=>
   have hlen:k<=m.ks.length:=by have:=(kX hcm).2 hx;unfold zG9 at h1;rw[this]at h1;simp at h1;omega
   exact kX1 hn ho ta ko hw e em (decide_eq_false h0) hz hlen rfl (decide_eq_false h1) hnx hin.1 hin.2 hx hput l9 hE
theorem kRg (hn:kS w c n)(ho:OkA w o a)(ta:zAf a)(hc:zAh n=0)(hs:sizeT n<=900)(h1:1<=a.k)(h8:a.k<=8)(hE:doO n a=r):Calls Tryz.prog 48 #[.agg c.row,.agg o.row] w (kNs w r):=by
 rcases(show a.k=1∨a.k=2∨a.k=3∨a.k=4∨a.k=5∨a.k=6∨a.k=7∨a.k=8 by omega)with e|e|e|e|e|e|e|e
 ·exact kYr hn ho ta hs e (by rw[<-kKb e];exact hE)
 ·exact kYs hn ho ta e (by rw[<-kM0 e];exact hE)
 ·exact kYz hn ho ta hc hs e (by rw[<-kM1 e];exact hE)
 ·exact kY0 hn ho ta hc hs e (by rw[<-kLm e];exact hE)
 ·exact kYt hn ho ta hs e (by rw[<-kLn e];exact hE)
 ·exact kYu hn ho ta e (by rw[<-kLo e];exact hE)
 ·exact kYv hn ho ta hs e (by rw[<-kLp e];exact hE)
 ·exact kYw hn ho ta hs e (by rw[<-kLq e];exact hE)
end
theorem kQw (h:P:=by
 have H1:=hd h1;try have H2:=hd h2
 try have H3:=hd h3
 try have H4:=hd h4
 have HN:=hd hn;have bn:=hd hs;have HO:=hd ho;have l8:=hd hf;have aA:=hd ta;clear hn hs ho hf ta h1;try clear h2
 try clear h3
 try clear h4
 obtain⟨W0,hW,hst⟩:=kN w c s o;have HW:=hd hW;have HM:=hd hst;clear hW hst;go_enter Tryz.func40,Tryz.ntmps40
 go_upto_region 1 with fail
 rw[HW.o];clear HW;go_wp2_with(first
  |((with_reducible refine zC (ty:=26) (x:=.tmp 3) ?_);refine zB zD HM.o.v3 rfl _ rfl rfl rfl ?_)
  |(go_at_call 18;refine Calls.mono (zFa (HN.o.later HM.o.below) H1.o) ?_;rintro e w1 ⟨rfl,b9⟩;have HM:=hd (HM.o.call b9);clear b9)
  |((with_reducible refine zC (ty:=4) (x:=.tmp 14) ?_);refine zM HM.o.v3 (j:=0) (v:=.bool false) _ rfl rfl rfl (by simp only[NC.row,H2.o];rfl) Tryz.underlying4 rfl ?_)
  |((with_reducible refine zC (ty:=4) (x:=.tmp 14) ?_);refine zM HM.o.v3 (j:=0) (v:=.bool true) _ rfl rfl rfl (by simp only[NC.row,H2.o];rfl) Tryz.underlying4 rfl ?_)
  |((with_reducible refine zC (ty:=33) (x:=.tmp 4) ?_);refine zB zP HM.o.v4 rfl _ rfl rfl rfl ?_)
  |(go_at_call 19;refine Calls.mono (zKk (HN.o.later HM.o.below) (bn.o.later HM.o.below) l8.o H3.o) ?_;rintro e w2 ⟨rfl,b9⟩;have HM:=hd (HM.o.call b9);clear b9)
  |((with_reducible refine zC (ty:=35) (x:=.tmp 5) ?_);refine zG HM.o.v5 _ rfl rfl rfl ?_)
  |(go_at_call 58;refine Calls.mono (zFt (HO.o.later HM.o.below) aA.o H4.o) ?_;rintro e w3 ⟨rfl,b9⟩;have HM:=hd (HM.o.call b9);clear b9)
  |fail)
 go_ret
 exact⟨rfl,HM.o.below⟩):P:=h
theorem kH0 {w:World}{c:NC}{o:OC}{n:NT}{a:OpP}{E:Int}(hn:kS w c n)(hs:zB1 w s sl)(ho:OkA w o a)(hf:fewS sl=true)(ta:zAf a)(h1:zAd n=E)(hne:(E !=0)=true):Calls Tryz.prog 40 #[.agg c.row,.agg s.row,.agg o.row] w (jA (.int .i64 E) w):=by
 exact kQw
theorem kH1 {w:World}{c:NC}{o:OC}{n:NT}{a:OpP}(hn:kS w c n)(hs:zB1 w s sl)(ho:OkA w o a)(hf:fewS sl=true)(ta:zAf a)(h1:zAd n=0)(h2:c.lf=true):Calls Tryz.prog 40 #[.agg c.row,.agg s.row,.agg o.row] w (jA (.int .i64 7) w):=by
 exact kQw
theorem kH2 {w:World}{c:NC}{o:OC}{n:NT}{a:OpP}{E:Int}(hn:kS w c n)(hs:zB1 w s sl)(ho:OkA w o a)(hf:fewS sl=true)(ta:zAf a)(h1:zAd n=0)(h2:c.lf=false)(h3:zE8 n sl=E)(hne:(E !=0)=true):Calls Tryz.prog 40 #[.agg c.row,.agg s.row,.agg o.row] w (jA (.int .i64 E) w):=by
 exact kQw
theorem kH3 {w:World}{c:NC}{o:OC}{n:NT}{a:OpP}{E:Int}(hn:kS w c n)(hs:zB1 w s sl)(ho:OkA w o a)(hf:fewS sl=true)(ta:zAf a)(h1:zAd n=0)(h2:c.lf=false)(h3:zE8 n sl=0)(h4:zCx a=E):Calls Tryz.prog 40 #[.agg c.row,.agg s.row,.agg o.row] w (jA (.int .i64 E) w):=by
 exact kQw
noncomputable def zG7 (n:NT)(s:Sl)(a:OpP):Int:=if zAd n≠0 then zAd n else if n.lf=true then 7 else if zE8 n s≠0 then zE8 n s else zCx a
theorem zIh {w:World}{c:NC}{o:OC}{n:NT}{a:OpP}{E:Int}(hn:kS w c n)(hs:zB1 w s sl)(ho:OkA w o a)(hf:fewS sl=true)(ta:zAf a)(hE:zG7 n sl a=E):Calls Tryz.prog 40 #[.agg c.row,.agg s.row,.agg o.row] w (jA (.int .i64 E) w):=by
 unfold zG7 at hE;by_cases h1:zAd n=0
 case neg=>rw[if_pos h1]at hE;subst hE;exact kH0 hn hs ho hf ta rfl (by simpa using h1)
 rw[if_neg (by simp[h1])]at hE;have el:=hn.lf;cases h2:n.lf with
 |true=>rw[if_pos h2]at hE;subst hE;exact kH1 hn hs ho hf ta h1 (by rw[<-el];exact h2)
 |false=>
  rw[if_neg (by simp[h2])]at hE;have h2':c.lf=false:=by rw[<-el];exact h2
  by_cases h3:zE8 n sl=0
  case neg=>rw[if_pos h3]at hE;subst hE;exact kH2 hn hs ho hf ta h1 h2' rfl (by simpa using h3)
  rw[if_neg (by simp[h3])]at hE;exact kH3 hn hs ho hf ta h1 h2' h3 hE
theorem zPn {w:World}{si:Bool}{A B:Option Addr}{n c m d:Nat}{x y:Int}{s:Sl}(h:zIi w si A n c x B m d y s)(h1:n<=1000)(h2:m<=1000):
  Calls Tryz.prog 44 #[.agg #[.bool si,.slice A n c,.int .i64 x,.slice B m d,.int .i64 y]] w (kMx w si n x m y s):=by
 obtain⟨W0,hW⟩:∃W0,(w.alloc (.cells #[.bool si,.slice A n c,.int .i64 x,.slice B m d,.int .i64 y] 33)).alloc (.cells #[.bool false,.slice none 0 0,.int .i64 0,.slice none 0 0,.int .i64 0] 33)=W0:=⟨_,rfl⟩;have hb0:Below w.heap.size w W0:=hW▸kM Kk Kl;have e0:=zK2 w (Obj.cells #[.bool si,.slice A n c,.int .i64 x,.slice B m d,.int .i64 y] 33) (Obj.cells #[.bool false,.slice none 0 0,.int .i64 0,.slice none 0 0,.int .i64 0] 33);rw[hW]at e0;have ax:=hd (show zI2 W0 w.heap.size _ _ _ _ _ from e0.1);have ar:=hd (show zI2 W0 (w.heap.size+1) _ _ _ _ _ from e0.2);have HW:=hd hW;have HB:=hd hb0;have HH:=hd h;clear hW hb0 e0 h;go_enter Tryz.func44,Tryz.ntmps44
 go_upto_region 1 with fail
 rw[HW.o];refine jO (S:=fun W=>zI2 W w.heap.size (.bool si) (.slice A n c) (.int .i64 x) (.slice B m d) (.int .i64 y)) (z:=fun j=>decide (10<=j)) Ka ?_;have ac:=hd (show zI2 W0.drew w.heap.size (.bool si) (.slice A n c) (.int .i64 x) (.slice B m d) (.int .i64 y)from ax.o);refine Kn 0 17 (.pointer (some ⟨w.heap.size,1,none⟩)) (fun W hW=>?_) ac.o ?_
 ·skip
  go_simp
 simp only[Act.put,List.setIfInBounds_toArray];refine Kn 1 16 (.pointer (some ⟨w.heap.size,1,none⟩)) (fun W hW=>?_) ac.o ?_
 ·skip
  go_simp
 simp only[Act.put];refine Kn 2 15 (.pointer (some ⟨w.heap.size,1,none⟩)) (fun W hW=>?_) ac.o ?_
 ·skip
  go_simp
 simp only[Act.put];refine Kn 3 14 (.slice A n c) (fun W hW=>?_) ac.o ?_
 ·obtain⟨_,y1,_,_,_⟩:=zI2.cells hW;go_simp
 simp only[Act.put];refine Kn 5 13 (.pointer (some ⟨w.heap.size,1,none⟩)) (fun W hW=>?_) ac.o ?_
 ·skip
  go_simp
 simp only[Act.put];refine Kn 6 12 (.pointer (some ⟨w.heap.size,3,none⟩)) (fun W hW=>?_) ac.o ?_
 ·skip
  go_simp
 simp only[Act.put];refine Kn 7 11 (.pointer (some ⟨w.heap.size,3,none⟩)) (fun W hW=>?_) ac.o ?_
 ·skip
  go_simp
 simp only[Act.put];refine Kn 8 10 (.slice B m d) (fun W hW=>?_) ac.o ?_
 ·obtain⟨_,_,_,y3,_⟩:=zI2.cells hW;go_simp
 simp only[Act.put];refine Kp 4 9 (fun K hK=>?_);rw[if_pos Ke];go_simp;go_at_call 88
 refine(zFz A s.a.1 n c _ HH.o.hn h1 ((HH.o.hA.later HB.o).later (Kk.drew))).mono ?_;rintro e w5 ⟨A5,c5,rfl,uf,hs5,cR⟩;have aN:Below W0.heap.size W0 w5:=(Kk.drew).trans cR;have ac:=hd (ax.o.keep aN);refine hK _ _ (fun _=>ac.o) ?_;clear hK K;refine zDd (i:=10) (n:=8) (.pointer (some ⟨w.heap.size,1,none⟩)) rfl rfl Ka Ka Ka (fun _ _ _ h=>h) Ke (fun W=>?_) ?_
 ·go_simp
 simp only[Act.put];refine zDd (i:=11) (n:=7) (.pointer (some ⟨w.heap.size,1,none⟩)) rfl rfl Ka Ka Ka (fun _ _ _ h=>h) Ke (fun W=>?_) ?_
 ·go_simp
 simp only[Act.put];refine zDd (i:=12) (n:=6) (.pointer (some ⟨w.heap.size,1,none⟩)) rfl rfl Ka Ka Ka (fun _ _ _ h=>h) Ke (fun W=>?_) ?_
 ·go_simp
 simp only[Act.put];refine Kp 9 5 (fun K hK=>?_);rw[if_pos Ke];go_simp;go_at_call 88
 refine(zFz B s.f.1 m d _ HH.o.hm h2 ((HH.o.hB.later HB.o).later aN)).mono ?_;rintro e w6 ⟨B6,d6,rfl,ug,mq,iz⟩;have hg1:=ax.o.lt;have hg2:=ar.o.lt;have ju:=aN.size;have uh:=iz.size;have ae:=hd (((hs5.more (show W0.heap.size<=W0.drew.heap.size from Nat.le_refl _)).high (zA5.below iz)));have qU:=hd (mq.more ju);have ax:=hd (ac.o.keep iz);have ar:=hd ((ar.o.keep aN).keep iz);have HB:=hd (HB.o.trans ((aN.trans (iz.mono ju)).mono HB.o.size));clear cR hs5 mq;refine hK _ _ (fun _=>ax.o) ?_;clear hK K ac;refine Kp 13 4 (fun K hK=>?_);rw[if_pos Ke];refine zY zCa ax.o _ _ rfl rfl 1 _ [.slice A5 n c5] rfl rfl rfl rfl (zHt rfl) Km ?_;intro W7 cM aW;refine hK _ _ (fun h=>absurd h Kd) ?_;clear hK K;refine zDd (i:=14) (n:=3) (.pointer (some ⟨w.heap.size,1,none⟩)) rfl rfl Ka Ka Ka (fun _ _ _ h=>h) Ke (fun W=>?_) ?_
 ·go_simp
 simp only[Act.put];refine zDd (i:=15) (n:=2) (.pointer (some ⟨w.heap.size,3,none⟩)) rfl rfl Ka Ka Ka (fun _ _ _ h=>h) Ke (fun W=>?_) ?_
 ·go_simp
 simp only[Act.put];refine zDd (i:=16) (n:=1) (.pointer (some ⟨w.heap.size,3,none⟩)) rfl rfl Ka Ka Ka (fun _ _ _ h=>h) Ke (fun W=>?_) ?_
 ·go_simp
 simp only[Act.put];refine Kp 17 0 (fun K hK=>?_);rw[if_pos Ke];refine zY zCa cM _ _ rfl rfl 3 _ [.slice B6 m d6] rfl rfl rfl rfl (zHt rfl) Km ?_;intro W8 cX cB;refine hK _ _ (fun h=>absurd h Kd) (zAl Ka ?_);clear hK K;have HO:=hd (aW.trans cB);have ax:=hd (show zI2 W8 w.heap.size (.bool si) (.slice A5 n c5) (.int .i64 x) (.slice B6 m d6) (.int .i64 y)from cX);have ar:=hd (ar.o.off HO.o Kb);have HB:=hd (zN HB.o HO.o Kl);clear cM aW cX cB;go_wp2_with(first
  |((with_reducible refine zC (ty:=33) ?_);refine zIm ax.o _ rfl rfl rfl ?_)
  |((with_reducible refine zF (ty:=33) (x:=.tmp 2) ?_);refine zHc ar.o _ _ rfl rfl rfl rfl rfl Ka ?_;intro W9 ak ah;have ar:=hd ak;have nM:=hd ah;clear ak ah))
 have hh:=HH.o;have hlo:w.heap.size+1<W0.heap.size:=Kb;have hhi:zA5 W0.heap.size w6 W9:=(zA5.off HO.o Kb).trans (zA5.off nM.o hlo);refine bodyPost_ret (zP6 Tryz.results44 _ _ ar.o rfl) rfl ⟨A5,c5,B6,d6,rfl,fun W hoff=>?_,zN HB.o nM.o (Nat.le_succ _)⟩;have hx:=hhi.trans (hoff.mono Kb);exact⟨hh.his,hh.hx,hh.hy,hh.hn,hh.hm,uf,ug,hh.hmn,hh.hmm,ae.o W hx,qU.o W hx⟩
theorem zKs {w:World}(h:zB1 w s sl)(h1:s.n<=1000)(h2:s.m<=1000):Calls Tryz.prog 44 #[.agg s.row] w (fun e w'=>∃t:SC,e=.returned (.agg t.row)/\zH3 w.heap.size w' (fun W=>zB1 W t sl)/\Below w.heap.size w w'):=by
 refine(zPn h h1 h2).mono ?_;rintro e w' ⟨A,c,B,d,rfl,hs,hb⟩;exact⟨⟨s.is,A,s.n,c,s.x,B,s.m,d,s.y⟩,rfl,hs,hb⟩
theorem kTz (h:P:=by
 have lA:=hd hff;try have lB:=hd iw
 have H5:=hd h5;try have H6:=hd h6
 have HN:=hd hn;have bn:=hd hs;have HO:=hd ho;have l8:=hd hf;have aA:=hd ta;clear hn hs ho hf ta hff h5;try clear iw
 try clear h6
 obtain⟨W0,hW,hst⟩:=zDs w c s o;have HW:=hd hW;have HM:=hd hst;clear hW hst;go_enter Tryz.func41,Tryz.ntmps41
 go_upto_region 1 with fail
 rw[HW.o];clear HW;go_wp2_with(first
  |((with_reducible refine zC (ty:=33) (x:=.tmp 10) ?_);refine kR HM.o.st.v5 (j:=11) (vs:=[.bool o.fi,.slice o.F1 o.f1 o.d1,.int .i64 o.fo,.slice o.F2 o.f2 o.d2,.int .i64 o.fp]) zD4 _ rfl rfl rfl Ka ?_)
  |((with_reducible refine zC (ty:=33) (x:=.tmp 4) ?_);refine zB zP HM.o.st.v4 rfl _ rfl rfl rfl ?_)
  |((with_reducible refine zC (ty:=33) (x:=.tmp 18) ?_);refine kR HM.o.st.v5 (j:=16) (vs:=[.bool o.gi,.slice o.G1 o.g1 o.e1,.int .i64 o.go,.slice o.G2 o.g2 o.e2,.int .i64 o.gp]) zD4 _ rfl rfl rfl Ka ?_)
  |(go_at_call 20;refine Calls.mono (zH9 (c:=o.from_) (zPq (HO.o.later HM.o.st.below)) (bn.o.later HM.o.st.below) lA.o l8.o H5.o) ?_;rintro e w1 ⟨rfl,b9⟩;have HM:=hd (HM.o.call b9);clear b9)
  |((with_reducible refine zC (ty:=26) (x:=.tmp 3) ?_);refine zB zD HM.o.st.v3 rfl _ rfl rfl rfl ?_)
  |(go_at_call 19;refine Calls.mono (zKk (d:=o.into) (HN.o.later HM.o.st.below) (zLl (HO.o.later HM.o.st.below)) lB.o H6.o) ?_;rintro e w2 ⟨rfl,b9⟩;have HM:=hd (HM.o.call b9);clear b9)
  |((with_reducible refine zF (ty:=26) (x:=.tmp 6) ?_);refine zA zD (r0:=NC.nil.row) (r:=NC.nil.row) HM.o.v7 rfl rfl NC.nil.one _ _ rfl rfl rfl rfl rfl ?_;intro W7 hv ho;have HM:=hd (HM.o.set7 (a':=NC.nil) Kb Kb hv ho);clear hv ho)
  |((with_reducible refine zF (ty:=33) (x:=.tmp 7) ?_);refine zA zP (r0:=SC.nil.row) (r:=SC.nil.row) HM.o.v8 rfl rfl SC.nil.one _ _ rfl rfl rfl rfl rfl ?_;intro W8 hv ho;have HM:=hd (HM.o.set8 (t':=SC.nil) Kb Kb hv ho);clear hv ho)
  |fail)
 exact bodyPost_ret (zDt Tryz.results41 _ _ HM.o.v7 HM.o.v8 rfl rfl) rfl ⟨NC.nil,SC.nil,rfl,fun _ _=>zAb _,fun _ _=>zJ2 _,HM.o.st.below⟩):P:=h
theorem kAt {w:World}{c:NC}{o:OC}{n:NT}{a:OpP}(hn:kS w c n)(hs:zB1 w s sl)(ho:OkA w o a)(hf:fewS sl=true)(ta:zAf a)(hff:fewS a.f=true)(h5:zF7 a.f sl=false):Calls Tryz.prog 41 #[.agg c.row,.agg s.row,.agg o.row] w (zVb w ((zeroT,zeroS),9)):=by
 exact kTz
theorem zW3 {w:World}{c:NC}{o:OC}{n:NT}{a:OpP}{E:Int}(hn:kS w c n)(hs:zB1 w s sl)(ho:OkA w o a)(hf:fewS sl=true)(ta:zAf a)(hff:fewS a.f=true)(iw:fewS a.g=true)(h5:zF7 a.f sl=true)(h6:zE8 n a.g=E)(hne:(E !=0)=true):Calls Tryz.prog 41 #[.agg c.row,.agg s.row,.agg o.row] w (zVb w ((zeroT,zeroS),E)):=by
 exact kTz
theorem zW4 {w:World}{c:NC}{o:OC}{n:NT}{a:OpP}(hn:kS w c n)(hs:zB1 w s sl)(ho:OkA w o a)(hf:fewS sl=true)(ta:zAf a)(hff:fewS a.f=true)(iw:fewS a.g=true)(h5:zF7 a.f sl=true)(h6:zE8 n a.g=0)(bo:o.g1<=1000)(hl2:o.g2<=1000):Calls Tryz.prog 41 #[.agg c.row,.agg s.row,.agg o.row] w (zVb w ((n,a.g),0)):=by
 have lA:=hd hff;have pI:=hd bo;have lw:=hd hl2;clear bo hl2;have lB:=hd iw;have H5:=hd h5;have H6:=hd h6;have HN:=hd hn;have bn:=hd hs;have HO:=hd ho;have l8:=hd hf;have aA:=hd ta;clear hn hs ho hf ta hff iw h5 h6;obtain⟨W0,hW,hst⟩:=zDs w c s o;have HW:=hd hW;have HM:=hd hst;clear hW hst;go_enter Tryz.func41,Tryz.ntmps41
 go_upto_region 1 with fail
 rw[HW.o];clear HW;go_upto_region 6 with(first
  |((with_reducible refine zC (ty:=33) (x:=.tmp 10) ?_);refine kR HM.o.st.v5 (j:=11) (vs:=[.bool o.fi,.slice o.F1 o.f1 o.d1,.int .i64 o.fo,.slice o.F2 o.f2 o.d2,.int .i64 o.fp]) zD4 _ rfl rfl rfl Ka ?_)
  |((with_reducible refine zC (ty:=33) (x:=.tmp 4) ?_);refine zB zP HM.o.st.v4 rfl _ rfl rfl rfl ?_)
  |(go_at_call 20;refine Calls.mono (zH9 (c:=o.from_) (zPq (HO.o.later HM.o.st.below)) (bn.o.later HM.o.st.below) lA.o l8.o H5.o) ?_;rintro e w1 ⟨rfl,b9⟩;have HM:=hd (HM.o.call b9);clear b9)
  |((with_reducible refine zC (ty:=26) (x:=.tmp 3) ?_);refine zB zD HM.o.st.v3 rfl _ rfl rfl rfl ?_)
  |((with_reducible refine zC (ty:=33) (x:=.tmp 18) ?_);refine kR HM.o.st.v5 (j:=16) (vs:=[.bool o.gi,.slice o.G1 o.g1 o.e1,.int .i64 o.go,.slice o.G2 o.g2 o.e2,.int .i64 o.gp]) zD4 _ rfl rfl rfl Ka ?_)
  |(go_at_call 19;refine Calls.mono (zKk (d:=o.into) (HN.o.later HM.o.st.below) (zLl (HO.o.later HM.o.st.below)) lB.o H6.o) ?_;rintro e w2 ⟨rfl,b9⟩;have HM:=hd (HM.o.call b9);clear b9))
 have HM:=hd (HM.o.call (Kk.drew));refine jO (S:=fun W'=>jT 26 W' w.heap.size c.row/\jR W' (w.heap.size+1+1) o) (z:=fun _=>false) Ka ?_;have ac:=hd (And.intro HM.o.st.v3 HM.o.st.v5);refine Kn 0 7 (.agg c.row) (fun W9 aC=>?_) ac.o ?_
 ·exact zS zD aC.1 rfl _ rfl rfl
 simp only[Act.put,List.getElem_toArray,List.getElem_cons_zero,List.setIfInBounds_toArray,List.set_cons_succ,List.set_cons_zero];refine Ko 2 6 (.pointer (some ⟨w.heap.size+1+1,16,none⟩)) ac.o ?_;refine kP6 ?_;refine Kn 3 5 (.agg #[.bool o.gi,.slice o.G1 o.g1 o.e1,.int .i64 o.go,.slice o.G2 o.g2 o.e2,.int .i64 o.gp]) (fun W9 aC=>?_) ac.o ?_
 ·exact zG3 (j:=16) (vs:=[.bool o.gi,.slice o.G1 o.g1 o.e1,.int .i64 o.go,.slice o.G2 o.g2 o.e2,.int .i64 o.gp]) aC.2.toR zD4 _ rfl rfl Ka
 refine kP6 ?_;refine Kp 1 4 (fun K hK=>?_);rw[if_pos Ka];go_simp;go_at_call 75
 refine(kH9 (HN.o.later HM.o.st.below)).mono ?_;rintro e w3 ⟨cx,rfl,h1,b9⟩;have Ci:=HM.o.v8.lt;have hs3:=HM.o.st.below.size;have HX:=hd h1;have HM:=hd (HM.o.call b9);clear b9 h1 ac;have ac:=hd (And.intro HM.o.st.v3 HM.o.st.v5);refine hK _ _ (fun _=>ac.o) ?_;clear hK K;refine Kp 4 3 (fun K hK=>?_);rw[if_pos Ka];go_simp;go_at_call 44
 refine(zKs (s:=o.into) (zLl (HO.o.later HM.o.st.below)) pI.o lw.o).mono ?_;rintro e w4 ⟨sx,rfl,h1,b9⟩;have Cj:=HM.o.v8.lt;have hs4:=HM.o.st.below.size;have HS:=hd h1;have HX:=hd (HX.o.call b9);have HM:=hd (HM.o.call b9);clear b9 h1 ac;have ac:=hd (And.intro HM.o.st.v3 HM.o.st.v5);refine hK _ _ (fun _=>ac.o) ?_;clear hK K;refine Kp 5 2 (fun K hK=>?_);rw[if_pos Ka];refine zY zKq HM.o.v7 _ _ rfl rfl 0 _ [.bool cx.lf,.slice cx.P cx.np cx.pc,.slice cx.X cx.nt cx.tc,.slice cx.K cx.nk cx.kc] rfl rfl rfl rfl (by intro u hu;simp at hu;rcases hu with rfl|rfl|rfl|rfl<;>rfl) Km ?_;intro W5 hv ho;have HM:=hd (HM.o.set7 (a':=cx) Kb Kb hv ho);have HX:=hd (HX.o.off ho Kb);have HS:=hd (HS.o.off ho Kb);clear hv ho;have ac:=hd (And.intro HM.o.st.v3 HM.o.st.v5);refine hK _ _ (fun _=>ac.o) ?_;clear hK K;refine Kp 6 1 (fun K hK=>?_);rw[if_pos Ka];refine zY zJu HM.o.v8 _ _ rfl rfl 0 _ [.bool sx.is,.slice sx.A sx.n sx.c,.int .i64 sx.x,.slice sx.B sx.m sx.d,.int .i64 sx.y] rfl rfl rfl rfl Kh Km ?_;intro W6 hv ho;have HM:=hd (HM.o.set8 (t':=sx) Kb Kb hv ho);have HX:=hd (HX.o.off ho Kb);have HS:=hd (HS.o.off ho Kb);clear hv ho;have ac:=hd (And.intro HM.o.st.v3 HM.o.st.v5);refine hK _ _ (fun _=>ac.o) ?_;clear hK K;refine Kp 7 0 (fun K hK=>?_);rw[if_pos Ka];go_simp;refine hK _ _ (fun _=>ac.o) (zAl Ka ?_);clear hK K;go_wp2_with fail
 exact bodyPost_ret (zDt Tryz.results41 _ _ HM.o.v7 HM.o.v8 rfl rfl) rfl ⟨cx,sx,rfl,HX.o.more Kb,HS.o.more Kb,HM.o.st.below⟩
