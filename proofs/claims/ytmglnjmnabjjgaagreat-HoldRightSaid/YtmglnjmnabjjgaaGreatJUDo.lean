import Derived.Test.YtmglnjmnabjjgaaGreatJUChg
import Derived.Test.YtmglnjmnabjjgaaGreatUMer
import Derived.Test.YtmglnjmnabjjgaaGreatJUMerL
set_option maxRecDepth 100000
set_option maxHeartbeats 8000000
namespace Go.Proofs.YtmglnjmnabjjgaaGreat
open Go.RowKit
variable {v:Value}{E:Bool}{t:TypeId}{d:RC}
theorem kFr {n:NT}(h:zAh n=0):zXd n=zG9 n:=by
 obtain⟨h1,h2⟩:=kX h;unfold zXd zG9;cases hl:n.lf with
 |true=>rw[if_pos rfl,h1 hl];simp
 |false=>rw[if_neg Kd,h2 hl];simp
section
variable {w:World}{c:NC}{o:OC}{n:NT}{a:OpP}{r:NT×Int}
theorem kEa (hn:kS w c n)(ho:OkA w o a)(ta:zAf a)(hs:sizeT n<=900)(hk:a.k=1)(hE:kB7 n a=r):Calls Tryz.prog 31 #[.agg c.row,.agg o.row] w (zAm w r):=by
 have ko:o.k=1:=by rw[<-ho.hk];exact hk
 unfold kB7 at hE;by_cases h0:zAd a.n=0
 ·rw[if_neg (by simp[h0])]at hE;exact kMu hn ho ta ko (fun W hb=>kFx (hn.later hb) (ho.later hb) ta ko h0) Kb hE
 ·rw[if_pos h0]at hE;subst hE;exact zKv hn ho ta (fun W hb=>kFx (hn.later hb) (ho.later hb) ta ko rfl) (by simpa using h0)
theorem kEb (hn:kS w c n)(ho:OkA w o a)(ta:zAf a)(hk:a.k=2)(hE:zVk n a=r):Calls Tryz.prog 31 #[.agg c.row,.agg o.row] w (zAm w r):=by
 have ko:o.k=2:=by rw[<-ho.hk];exact hk
 unfold zVk at hE;rcases zH1 n a.q with⟨hq,e⟩|⟨hq,hg,e⟩|⟨m,x,hq,hg,e,em⟩
 ·rw[e,if_pos Kd]at hE;subst hE;exact zKv hn ho ta (fun W hb=>kIt (hn.later hb) (ho.later hb) ta ko (by rw[<-ho.hlq];exact hq)) Kd
 ·rw[e,if_pos Kd]at hE;subst hE;exact zKv hn ho ta (fun W hb=>kFy (hn.later hb) (ho.later hb) ta ko (by rw[<-ho.hlq];exact hq) hg) Kd
 ·rw[e,em,if_neg Kc]at hE;have hm:=fun(W:World)(hb:Below w.heap.size w W)=>kFy (hn.later hb) (ho.later hb) ta ko (by rw[<-ho.hlq];exact hq) (kP hg);by_cases h:eqT m a.n=true
  ·rw[if_pos h]at hE;subst hE;have h':eqT a.n m=true:=zPc ((zIw _ _).1 h).symm;exact kK6 hn ho ta ko hm (fun W d hb hd=>zXa (hn.later hb) (ho.later hb) ta hd h' e em)
  ·rw[if_neg h]at hE;subst hE;have h':eqT a.n m=false:=by cases h2:eqT a.n m with|false=>rfl|true=>exact absurd (zPc ((zIw _ _).1 h2).symm) h
   exact kK6 hn ho ta ko hm (fun W d hb hd=>kAx (hn.later hb) (ho.later hb) ta hd h')
theorem kEc (hn:kS w c n)(ho:OkA w o a)(ta:zAf a)(hc:zAh n=0)(hs:sizeT n<=900)(hk:a.k=3)(hE:kBo n a=r):Calls Tryz.prog 31 #[.agg c.row,.agg o.row] w (zAm w r):=by
 have ko:o.k=3:=by rw[<-ho.hk];exact hk
 unfold kBo at hE;rcases zH1 n a.q with⟨hq,e⟩|⟨hq,hg,e⟩|⟨m,x,hq,hg,e,em⟩
 ·rw[e,if_pos Kd]at hE;subst hE;exact zKv hn ho ta (fun W hb=>kIu (hn.later hb) (ho.later hb) ta ko (by rw[<-ho.hlq];exact hq)) Kd
 ·rw[e,if_pos Kd]at hE;subst hE;exact zKv hn ho ta (fun W hb=>kFz (hn.later hb) (ho.later hb) ta ko (by rw[<-ho.hlq];exact hq) hg) Kd
 ·rw[e,em,if_neg Kc]at hE;have hm:=fun(W:World)(hb:Below w.heap.size w W)=>kFz (hn.later hb) (ho.later hb) ta ko (by rw[<-ho.hlq];exact hq) (kP hg);obtain⟨⟨q2,er⟩,hbk⟩:∃b,jV a.q=b:=⟨_,rfl⟩;rw[hbk]at hE;by_cases h0:er=0
  case neg=>
   rw[if_pos h0]at hE;have h8:er=8:=by have:=kEk hq (by rw[hbk];exact h0);rw[hbk]at this;exact this
   subst hE;subst h8;exact zPr hn ho ta ko hm (fun W d hb hd=>zXm (hn.later hb) (ho.later hb) ta hd hbk Kd)
  subst h0;rw[if_neg Kc]at hE;obtain⟨b,hb1,hb2⟩:=kLb hq hg hbk;rw[e]at hb2;dsimp only at hE;rw[kP hb2]at hE;have hin:=zP7 ho.hiq ta.hq;rw[hbk]at hin;have hcm:=zA6 n a.q m hc hg;have hcb:=zA6 n q2 b hc hb1;have hsm:=zPt hg;have bn:=zPt hb1;obtain⟨v1,v2⟩:=kX hcm;obtain⟨u1,u2⟩:=kX hcb;have hlb:=kFr hcb;unfold kLk at hE;dsimp only at hE;by_cases h1:b.lf=m.lf
  case neg=>
   rw[if_pos h1]at hE;subst hE;cases hx:b.lf with
   |true=>
    have hy:m.lf=false:=by cases h2:m.lf with|false=>rfl|true=>exact absurd (hx.trans h2.symm) h1
    exact zPr hn ho ta ko hm (fun W d hb hd=>kBl (hn.later hb) (ho.later hb) ta hd hbk hin.1 hin.2 (kP hb1) hx hy)
   |false=>
    have hy:m.lf=true:=by cases h2:m.lf with|true=>rfl|false=>exact absurd (hx.trans h2.symm) h1
    exact zPr hn ho ta ko hm (fun W d hb hd=>kBm (hn.later hb) (ho.later hb) ta hd hbk hin.1 hin.2 (kP hb1) hx hy)
  rw[if_neg (by simp[h1])]at hE;by_cases h2:zG9 b=a.z
  case neg=>
   rw[if_pos h2]at hE;subst hE;have z0:o.z≠zG9 b:=fun e=>h2 (by rw[ho.hz,e]);have z1:(o.z==zG9 b)=false:=by simpa using z0
   have z2:(o.z !=zG9 b)=true:=by simpa using z0
   cases hx:b.lf with
   |true=>exact zPr hn ho ta ko hm (fun W d hb hd=>kE1 (hn.later hb) (ho.later hb) ta hd hbk hin.1 hin.2 (kP hb1) hx (by rw[<-h1];exact hx) hlb z1 z2)
   |false=>exact zPr hn ho ta ko hm (fun W d hb hd=>kE3 (hn.later hb) (ho.later hb) ta hd hbk hin.1 hin.2 (kP hb1) hx (by rw[<-h1];exact hx) hlb z1 z2)
  rw[if_neg (by simp[h2])]at hE;have z0:o.z=zG9 b:=by rw[<-ho.hz];exact h2.symm
  have z1:(o.z==zG9 b)=true:=by simpa using z0
  have z2:(o.z !=zG9 b)=false:=by simpa using z0
  by_cases h3:m.ps=a.o
  case neg=>
   rw[if_pos h3]at hE;subst hE;have aB:decide (a.o=m.ps)=false:=decide_eq_false fun e=>h3 e.symm;cases hx:b.lf with
   |true=>exact zPr hn ho ta ko hm (fun W d hb hd=>kE2 (hn.later hb) (ho.later hb) ta hd hbk hin.1 hin.2 (kP hb1) hx (by rw[<-h1];exact hx) hlb z1 z2 aB)
   |false=>exact zPr hn ho ta ko hm (fun W d hb hd=>kE4 (hn.later hb) (ho.later hb) ta hd hbk hin.1 hin.2 (kP hb1) hx (by rw[<-h1];exact hx) hlb z1 z2 aB)
  rw[if_neg (by simp[h3])]at hE;have aB:decide (a.o=m.ps)=true:=decide_eq_true h3.symm;have hp:zSe x q2 (zAo b m)=r:=by rw[zR5 hb2];exact hE
  cases hx:b.lf with
  |true=>exact zPr hn ho ta ko hm (fun W d hb hd=>kA1 (hn.later hb) (ho.later hb) ta hd hbk hin.1 hin.2 (kP hb1) hx (by rw[<-h1];exact hx) hlb z1 z2 aB (u1 hx) (v1 (by rw[<-h1];exact hx)) Kb e em hp)
  |false=>exact zPr hn ho ta ko hm (fun W d hb hd=>kA2 (hn.later hb) (ho.later hb) ta hd hbk hin.1 hin.2 (kP hb1) hx (by rw[<-h1];exact hx) hlb z1 z2 aB (u2 hx) (v2 (by rw[<-h1];exact hx)) Kb e em hp)
theorem kEd (hn:kS w c n)(ho:OkA w o a)(ta:zAf a)(hc:zAh n=0)(hs:sizeT n<=900)(hk:a.k=4)(hE:kBp n a=r):Calls Tryz.prog 31 #[.agg c.row,.agg o.row] w (zAm w r):=by
 have ko:o.k=4:=by rw[<-ho.hk];exact hk
 unfold kBp at hE;by_cases hw:chk a.w=0
 case neg=>
  rw[if_pos hw]at hE;subst hE;exact zKv hn ho ta (fun W hb=>kIs (hn.later hb) (ho.later hb) ta ko rfl (by simpa using hw)) (by simpa using hw)
 rw[if_neg (by simp[hw])]at hE;rcases zH1 n a.q with⟨hq,e⟩|⟨hq,hg,e⟩|⟨m,x,hq,hg,e,em⟩
 ·rw[e,if_pos Kd]at hE;subst hE;exact zKv hn ho ta (fun W hb=>kIv (hn.later hb) (ho.later hb) ta ko hw (by rw[<-ho.hlq];exact hq)) Kd
 ·rw[e,if_pos Kd]at hE;subst hE;exact zKv hn ho ta (fun W hb=>kF0 (hn.later hb) (ho.later hb) ta ko hw (by rw[<-ho.hlq];exact hq) hg) Kd
 ·rw[e,em,if_neg Kc]at hE;have hm:=fun(W:World)(hb:Below w.heap.size w W)=>kF0 (hn.later hb) (ho.later hb) ta ko hw (by rw[<-ho.hlq];exact hq) (kP hg);have hcm:=zA6 n a.q m hc hg;have hlm:=kFr hcm;have hsm:=zPt hg;unfold kLl at hE;by_cases h0:o.z<0
  ·rw[if_pos (.inl (by rw[ho.hz];exact h0))]at hE;subst hE;exact kD9 hn ho ta ko hm (fun W d hb hd=>kA8 (hn.later hb) (ho.later hb) ta hd (decide_eq_true h0))
  by_cases h1:zG9 m<o.z
  ·rw[if_pos (.inr (by rw[ho.hz];exact h1))]at hE;subst hE;exact kD9 hn ho ta ko hm (fun W d hb hd=>zXe (hn.later hb) (ho.later hb) ta hd (decide_eq_false h0) hlm (decide_eq_true h1))
  rw[if_neg (by rw[ho.hz];omega),ho.hz]at hE;obtain⟨⟨q2,er⟩,hnx⟩:∃b,zBg a.q=b:=⟨_,rfl⟩;have her:er=0:=by have:=kIc hq hg (by omega:sizeT n<=100000);rw[hnx]at this;exact this
  subst her;rw[hnx]at hE;dsimp only at hE;have hin:=zP8 ho.hiq ta.hq;rw[hnx]at hin;obtain⟨k,hz⟩:∃k:Nat,o.z=(k:Int):=⟨o.z.toNat,by omega⟩;have yi:o.z.toNat=k:=Kb;rw[yi]at hE;have hput:=zR5 (m:=jN m k) hg;have pj:sizeT (putT n a.q (jN m k))<=100000:=by
   have h2:=zBo n a.q (jN m k) m hg;have h3:=zGv m k [];omega
  cases hx:m.lf with
  |true=>
   have hlen:k<=m.tx.length:=by have:=(kX hcm).1 hx;unfold zG9 at h1;rw[this]at h1;simp at h1;omega
   exact kD9 hn ho ta ko hm (fun W d hb hd=>zXn (hn.later hb) (ho.later hb) ta hd (decide_eq_false h0) hz (by rw[<-hd.parts.nt];exact hlen) hlm (decide_eq_false h1) hnx hin.1 hin.2 (by rw[<-hd.lf];exact hx) hx hput pj hE)
  |false=>
   have hlen:k<=m.ks.length:=by have:=(kX hcm).2 hx;unfold zG9 at h1;rw[this]at h1;simp at h1;omega
   exact kD9 hn ho ta ko hm (fun W d hb hd=>kEl (hn.later hb) (ho.later hb) ta hd (decide_eq_false h0) hz (by rw[<-hd.parts.nk];exact hlen) hlm (decide_eq_false h1) hnx hin.1 hin.2 (by rw[<-hd.lf];exact hx) hx hput pj hE)
theorem kEe (hn:kS w c n)(ho:OkA w o a)(ta:zAf a)(hs:sizeT n<=900)(hk:a.k=5)(hE:zVl n a=r):Calls Tryz.prog 31 #[.agg c.row,.agg o.row] w (zAm w r):=by
 have ko:o.k=5:=by rw[<-ho.hk];exact hk
 unfold zVl at hE;rcases zH1 n a.q with⟨hq,e⟩|⟨hq,hg,e⟩|⟨m,x,hq,hg,e,em⟩
 ·rw[e,if_pos Kd]at hE;subst hE;exact zKv hn ho ta (fun W hb=>kIw (hn.later hb) (ho.later hb) ta ko (by rw[<-ho.hlq];exact hq)) Kd
 ·rw[e,if_pos Kd]at hE;subst hE;exact zKv hn ho ta (fun W hb=>kF1 (hn.later hb) (ho.later hb) ta ko (by rw[<-ho.hlq];exact hq) hg) Kd
 ·rw[e,em,if_neg Kc]at hE;have:=kLc e;exact kMv hn ho ta ko (fun W hb=>kF1 (hn.later hb) (ho.later hb) ta ko (by rw[<-ho.hlq];exact hq) (kP hg)) e em Kb hE
theorem kEf (hn:kS w c n)(ho:OkA w o a)(ta:zAf a)(hk:a.k=6)(hE:setO n a=r):Calls Tryz.prog 31 #[.agg c.row,.agg o.row] w (zAm w r):=by
 have ko:o.k=6:=by rw[<-ho.hk];exact hk
 unfold setO at hE;by_cases hq:a.q.length=0
 ·rw[if_pos hq]at hE;subst hE;exact zKv hn ho ta (fun W hb=>kIx (hn.later hb) (ho.later hb) ta ko (by rw[<-ho.hlq];exact hq)) Kd
 rw[if_neg hq]at hE;have hl:o.lq≠0:=by rw[<-ho.hlq];exact hq
 cases hg:kB n a.q with
 |none=>
  rw[zB2 hg,if_pos Kd]at hE;subst hE;exact zKv hn ho ta (fun W hb=>kF2 (hn.later hb) (ho.later hb) ta ko hl (zB2 hg)) Kd
 |some m=>
  rw[kP hg,if_neg Kc]at hE;have hm:=fun(W:World)(hb:Below w.heap.size w W)=>kF2 (hn.later hb) (ho.later hb) ta ko hl (kP hg);unfold set2 at hE;by_cases h0:PE m.ps a.o a.w=0
  ·rw[if_neg (by simp[h0])]at hE;subst hE;have pn:=zPj.1 h0;have hL:=pn.list;exact kK7 hn ho ta ko hm (fun W d hb hd=>kIa (hn.later hb) (ho.later hb) ta hd (by rw[h0,hL]) pn.may (zR5 hg))
  ·rw[if_pos h0]at hE;subst hE;exact kK7 hn ho ta ko hm (fun W d hb hd=>kK8 (hn.later hb) (ho.later hb) ta hd rfl (by simpa using h0))
theorem zR3 (hn:kS w c n)(ho:OkA w o a)(ta:zAf a)(hs:sizeT n<=900)(del:Bool)(hk:a.k=if del then 8 else 7)(hE:zP1 n a (fun r=>if del then zFe r a.z a.x else zFx r a.z a.x)=r):Calls Tryz.prog 31 #[.agg c.row,.agg o.row] w (zAm w r):=by
 unfold zP1 at hE;have hme:∀(r:NT×Int),zGm n a.q=r->∀W,Below w.heap.size w W->Calls Tryz.prog 68 #[.agg c.row,.agg o.row] W (zEi W r):=fun r hr W hb=>by
  cases del with
  |true=>exact kLj (hn.later hb) (ho.later hb) ta (by rw[<-ho.hk];exact hk) hr
  |false=>exact kLi (hn.later hb) (ho.later hb) ta (by rw[<-ho.hk];exact hk) hr
 have hch:∀{mt:NT}{r:NT×Int},(∀W,Below w.heap.size w W->Calls Tryz.prog 68 #[.agg c.row,.agg o.row] W (zEi W (mt,0)))->(∀W m,Below w.heap.size w W->kS W m mt->Calls Tryz.prog 75 #[.agg c.row,.agg o.row,.agg m.row] W (zAm W r))->Calls Tryz.prog 31 #[.agg c.row,.agg o.row] w (zAm w r):=fun h1 h2=>by
  cases del with
  |true=>exact kMt hn ho ta (by rw[<-ho.hk];exact hk) h1 h2
  |false=>exact kMs hn ho ta (by rw[<-ho.hk];exact hk) h1 h2
 cases hg:kB n a.q with
 |none=>
  rw[zB2 hg,if_pos Kd]at hE;subst hE;exact zKv hn ho ta (hme _ (zB2 hg)) Kd
 | some m=>
  rw[kP hg,if_neg Kc]at hE;have hm:=hme _ (kP hg);have hsm:=zPt hg;dsimp only at hE;cases cJ:m.lf with
  |false=>
   rw[if_pos cJ]at hE;subst hE;exact hch hm (fun W d hb hd=>kA4 (hn.later hb) (ho.later hb) ta hd (by rw[<-hd.lf];exact cJ))
  | true=>
   rw[if_neg (by simp[cJ])]at hE;unfold kI0 at hE;have pp:sizeT m<=900:=Kb;have zq:m.tx.length<=900:=by have:=jC m;omega
   have zr:=ta.hx;cases del with
   |true=>
    have k8:(o.k==8)=true:=by rw[<-ho.hk,hk];rfl
    simp only[if_true]at hE;obtain⟨⟨L,er⟩,hr⟩:∃b,zFe m.tx a.z a.x=b:=⟨_,rfl⟩;rw[hr]at hE;by_cases h0:er=0
    ·subst h0;rw[if_neg Kc]at hE;subst hE;have hll:L.length<=35184372088832:=by have:=zKj hr;omega
     exact hch hm (fun W d hb hd=>zNm (hn.later hb) (ho.later hb) ta hd (by rw[<-hd.lf];exact cJ) k8 pp hr hll (zR5 hg))
    ·rw[if_pos h0]at hE;subst hE;exact hch hm (fun W d hb hd=>zPw (hn.later hb) (ho.later hb) ta hd (by rw[<-hd.lf];exact cJ) k8 pp hr (by simpa using h0))
   |false=>
    have k8:(o.k==8)=false:=by rw[<-ho.hk,hk];rfl
    simp only[Bool.false_eq_true,if_false]at hE;obtain⟨⟨L,er⟩,hr⟩:∃b,zFx m.tx a.z a.x=b:=⟨_,rfl⟩;rw[hr]at hE;by_cases h0:er=0
    ·subst h0;rw[if_neg Kc]at hE;subst hE;have hll:L.length<=35184372088832:=by have:=zKi hr;omega
     exact hch hm (fun W d hb hd=>zNl (hn.later hb) (ho.later hb) ta hd (by rw[<-hd.lf];exact cJ) k8 pp hr hll (zR5 hg))
    ·rw[if_pos h0]at hE;subst hE;exact hch hm (fun W d hb hd=>zPv (hn.later hb) (ho.later hb) ta hd (by rw[<-hd.lf];exact cJ) k8 pp hr (by simpa using h0))
theorem kAy (hn:kS w c n)(ho:OkA w o a)(ta:zAf a)(hc:zAh n=0)(hs:sizeT n<=900)(h1:1<=a.k)(h8:a.k<=8)(hE:doO n a=r):Calls Tryz.prog 31 #[.agg c.row,.agg o.row] w (zAm w r):=by
 rcases(show a.k=1∨a.k=2∨a.k=3∨a.k=4∨a.k=5∨a.k=6∨a.k=7∨a.k=8 by omega)with e|e|e|e|e|e|e|e
 ·exact kEa hn ho ta hs e (by rw[<-kKb e];exact hE)
 ·exact kEb hn ho ta e (by rw[<-kM0 e];exact hE)
 ·exact kEc hn ho ta hc hs e (by rw[<-kM1 e];exact hE)
 ·exact kEd hn ho ta hc hs e (by rw[<-kLm e];exact hE)
 ·exact kEe hn ho ta hs e (by rw[<-kLn e];exact hE)
 ·exact kEf hn ho ta e (by rw[<-kLo e];exact hE)
 ·exact zR3 hn ho ta hs false e (by rw[<-hE,kLp e];rfl)
 ·exact zR3 hn ho ta hs true e (by rw[<-hE,kLq e];rfl)
end
theorem kAz {s:Sl}(h1:s.a.1.length<=60)(h2:s.f.1.length<=60):fewS s=true:=by unfold fewS;rw[decide_eq_true h1,decide_eq_true h2];rfl
theorem zR4 (s t:Sl):zF7 s t=zF7 t s:=by
 cases h:zF7 s t with
 |true=>exact((zC4 t s).2 ((zC4 s t).1 h).symm).symm
 |false=>
  cases h2:zF7 t s with
  |false=>rfl
  |true=>rw[(zC4 s t).2 ((zC4 t s).1 h2).symm]at h;cases h
theorem kPp {w:World}{c:NC}{s:SC}{o:OC}{n:NT}{sl:Sl}{a:OpP}(hn:kS w c n)(hs:zB1 w s sl)(ho:OkA w o a)(hr:zRb n sl a){r:(NT×Sl)×Int}(hE:jL n sl a=r):Calls Tryz.prog 11 #[.agg c.row,.agg s.row,.agg o.row] w (kPc w r):=by
 have ta:=hr.tiny;have hf:=hr.sel;have hff:=kAz ta.hfa ta.hff;have ky:=kAz ta.hga ta.hgf;obtain⟨l1,l2⟩:=hs.len hf;by_cases h0:zG7 n sl a=0
 case neg=>
  have:r=((zeroT,zeroS),zG7 n sl a):=by
   rw[<-hE];unfold jL;unfold zG7 at h0⊢;by_cases h1:zAd n=0
   case neg=>rw[if_pos h1,if_pos h1]
   have h1':¬zAd n≠0:=by simp[h1]
   simp only[if_neg h1']at h0⊢;by_cases h2:n.lf=true
   ·simp only[if_pos h2]
   simp only[if_neg h2]at h0⊢;by_cases h3:zE8 n sl=0
   case neg=>simp only[if_pos (show zE8 n sl≠0 from h3)]
   have h3':¬zE8 n sl≠0:=by simp[h3]
   simp only[if_neg h3']at h0⊢;rw[if_pos h0]
  rw[this];exact kAu hn hs ho hf ta rfl (by simpa using h0)
 have fy:=h0;unfold zG7 at h0;unfold jL at hE;by_cases h1:zAd n=0
 case neg=>rw[if_pos h1]at h0;exact absurd h0 h1
 rw[if_neg (by simp[h1])]at h0 hE;by_cases h2:n.lf=true
 ·rw[if_pos h2]at h0;cases h0
 rw[if_neg h2]at h0 hE;by_cases h3:zE8 n sl=0
 case neg=>rw[if_pos h3]at h0;exact absurd h0 h3
 rw[if_neg (by simp[h3])]at h0 hE;rw[if_neg (by simp[h0])]at hE;have hk:=(zOy h0).1;simp only[kindB,Bool.and_eq_true,decide_eq_true_iff]at hk;have hc:=zC1 h1;by_cases h9:a.k=9
 ·rw[if_pos h9]at hE;have k9:(o.k==9)=true:=by rw[<-ho.hk,h9];rfl
  refine kH4 hn hs ho hf ta fy k9 (fun W hb=>?_);by_cases h5:zF7 sl a.f=false
  ·rw[if_pos h5]at hE;subst hE;exact kAt (hn.later hb) (hs.later hb) (ho.later hb) hf ta hff (by rw[zR4];exact h5)
  rw[if_neg h5]at hE;have qh:zF7 a.f sl=true:=by rw[zR4];simpa using h5
  by_cases h6:zE8 n a.g=0
  ·rw[if_neg (by simp[h6])]at hE;subst hE;have hg:=ho.hg;exact zW4 (hn.later hb) (hs.later hb) (ho.later hb) hf ta hff ky qh h6 (by have:=ta.hga;have:=hg.hn;omega) (by have:=ta.hgf;have:=hg.hm;omega)
  ·rw[if_pos h6]at hE;subst hE;exact zW3 (hn.later hb) (hs.later hb) (ho.later hb) hf ta hff ky qh rfl (by simpa using h6)
 ·rw[if_neg h9]at hE;have k9:(o.k==9)=false:=by rw[<-ho.hk];simpa using h9
  obtain⟨⟨x,er⟩,hd⟩:∃r,doO n a=r:=⟨_,rfl⟩;have hch:=fun(W:World)(hb:Below w.heap.size w W)=>kAy (hn.later hb) (ho.later hb) ta hc (hr.size hc) hk.1 Kb hd;rw[hd]at hE;by_cases h7:er=0
  case neg=>
   rw[if_pos h7]at hE;subst hE;exact kH5 hn hs ho hf ta fy k9 hch (by simpa using h7)
  subst h7;rw[if_neg Kc]at hE;have e8:=hs.his;cases hi:sl.is with
  |false=>
   rw[if_neg (by simp[hi])]at hE;subst hE;exact zTt hn hs ho hf ta fy k9 hch (by rw[<-e8];exact hi) Kb Kb
  |true=>
   cases hst:zBl sl.a a&&zBl sl.f a with
   |false=>
    rw[if_pos (by rw[hi,hst];rfl)]at hE;subst hE;exact kD6 hn hs ho hf ta fy k9 hch (by rw[<-e8];exact hi) hst
   |true=>
    rw[if_neg (by rw[hi,hst];decide)]at hE;subst hE;exact kAv hn hs ho hf ta fy k9 hch (by rw[<-e8];exact hi) Kb Kb hst
theorem zA4 {w:World}{c:NC}{s:SC}{o:OC}{n:NT}{sl:Sl}{a:OpP}(hn:kS w c n)(hs:zB1 w s sl)(ho:OkA w o a)(hr:zRb n sl a){r:(NT×Sl)×Int}(hE:jL n sl a=r):Calls Tryz.prog 11 #[.agg c.row,.agg s.row,.agg o.row] w (zTd w r):=(kPp hn hs ho hr hE).mono fun _ _ h=>h.ns
section
variable {P:Program}{ops:Array Oper}{Q:Exit->Act->World->Prop}{S:World->Prop}{m:Nat}
def kOh (P:Program)(ops:Array Oper)(Q:Exit->Act->World->Prop)(S:World->Prop)(m:Nat):Nat->Array Bool->Act->World->Prop
 |0,listed,a,w=>Region.ready .any ops listed=[]/\Q .normal a w
 |n+1,listed,a,w=>(Region.ready .any ops listed=[]->Q .normal a w)/\
   ∀i ∈ Region.ready .any ops listed,wpOp P ops Q i (fun a' w'=>((listed.setIfInBounds i true).getD m true=false->S w')/\kOh P ops Q S m n (listed.setIfInBounds i true) a' w') a w
theorem kRz :∀(n:Nat)(listed:Array Bool)(a:Act)(w:World),kOh P ops Q S m n listed a w->wpAny P .any ops Q n listed a w
 |0,_,_,_,h=>h
 |n+1,_,_,_,h=>⟨h.1,fun i hi=>wpOp_mono (fun a' w' h'=>kRz n _ a' w' h'.2) (h.2 i hi)⟩
theorem kVd {i:Nat}{oi om:Oper}(hi:ops[i]? =some oi)(fh:Region.noSelect ops=true)(hm:ops[m]? =some om)(sV:∃e ∈ om.after,Region.binds .any e=true/\e.on=i)(hne:i≠m)
  (hQ:∀c a w,Q (.panic c) (a.put oi.dst v) w->Q (.panic c) a w):
  ∀(n:Nat)(listed:Array Bool)(a:Act)(w:World),
   (∀j oj,ops[j]? =some oj->j≠i->listed.getD j true=false->(∀e ∈ oj.after,Region.binds .any e=true->e.on≠i)->oi.apart ops oj=true)->
   i ∈ Region.ready .any ops listed->listed.getD m true=false->YieldsIf P ops S oi v a->S w->
   kOh P ops Q S m n (listed.setIfInBounds i true) (a.put oi.dst v) w->kOh P ops Q S m (n+1) listed a w:=by
 have sel:=Region.noSelect_spec fh;intro n;induction n with
 |zero=>
  intro listed a w _ hr _ hy hS H;refine⟨fun h=>absurd hr (by rw[h];simp),fun j hj=>?_⟩;rcases Classical.em (j=i)with e|e
  ·subst e;exact hy.wpOp hi hS ⟨fun _=>hS,H⟩
  ·have:=ready_mono hj e;rw[H.1]at this;cases this
 | succ n ih=>
  intro listed a w hfree hr hlm hy hS H;refine⟨fun h=>absurd hr (by rw[h];simp),fun j hj=>?_⟩;rcases Classical.em (j=i)with e|e
  ·subst e;exact hy.wpOp hi hS ⟨fun _=>hS,H⟩
  ·obtain⟨cE,oj,dv,hall⟩:=mem_ready.1 hj;have cF:=(mem_ready.1 hr).1;have hno:∀e ∈ oj.after,Region.binds .any e=true->e.on≠i:=fun x hx hb heq=>by
    have h1:=hall x hx hb;rw[heq]at h1;rcases Nat.lt_or_ge i listed.size with h'|h'
    ·simp[h']at cF h1;rw[cF]at h1;cases h1
    ·simp[Array.getElem?_eq_none h']at h1
   have hjm:¬j=m:=fun ej=>by
    subst ej;rw[hm]at dv;injection dv with dv;subst dv;obtain⟨x,hx,hx2,hx3⟩:=sV;exact hno x hx hx2 hx3
   have h2:=wpOp_putIf dv (hfree j oj dv e cE hno) (fun cs b=>sel i oi cs b hi) (fun cs b=>sel j oj cs b dv) hQ hy (H.2 j (ready_mono hj e));refine wpOp_mono (fun a' w' h3=>?_) h2;have pq:S w':=h3.2.1 (by rw[getD_set_ne true hjm,getD_set_ne true hne];exact hlm);refine⟨fun _=>pq,ih (listed.setIfInBounds j true) a' w' (fun k ok hk lN hun hn=>hfree k ok hk lN ?_ hn) (ready_mono hr (Ne.symm e)) (by rw[getD_set_ne true hjm];exact hlm) h3.1 pq ?_⟩
   ·rcases Classical.em (j=k)with ek|ek
    ·subst ek;exact cE
    ·rw[getD_set_ne true ek]at hun;exact hun
   ·rw[Array.setIfInBounds_comm _ _ e];exact h3.2.2
theorem kV2 {i:Nat}{oi:Oper}(hi:ops[i]? =some oi)(fh:Region.noSelect ops=true)(hne:i≠m)
  (hQ:∀c a w,Q (.panic c) (a.put oi.dst v) w->Q (.panic c) a w):
  ∀(n:Nat)(listed:Array Bool)(a:Act)(w:World),
   (∀j oj,ops[j]? =some oj->j≠i->listed.getD j true=false->(∀e ∈ oj.after,Region.binds .any e=true->e.on≠i)->oi.apart ops oj=true)->
   i ∈ Region.ready .any ops listed->(listed.getD m true=false->S w)->YieldsIf P ops (fun _=>True) oi v a->
   kOh P ops Q S m n (listed.setIfInBounds i true) (a.put oi.dst v) w->kOh P ops Q S m (n+1) listed a w:=by
 have sel:=Region.noSelect_spec fh;intro n;induction n with
 |zero=>
  intro listed a w _ hr hS hy H;refine⟨fun h=>absurd hr (by rw[h];simp),fun j hj=>?_⟩;rcases Classical.em (j=i)with e|e
  ·subst e;exact hy.wpOp hi trivial ⟨fun h=>hS (by rw[getD_set_ne true hne]at h;exact h),H⟩
  ·have:=ready_mono hj e;rw[H.1]at this;cases this
 | succ n ih=>
  intro listed a w hfree hr hS hy H;refine⟨fun h=>absurd hr (by rw[h];simp),fun j hj=>?_⟩;rcases Classical.em (j=i)with e|e
  ·subst e;exact hy.wpOp hi trivial ⟨fun h=>hS (by rw[getD_set_ne true hne]at h;exact h),H⟩
  ·obtain⟨cE,oj,dv,hall⟩:=mem_ready.1 hj;have cF:=(mem_ready.1 hr).1;have hno:∀e ∈ oj.after,Region.binds .any e=true->e.on≠i:=fun x hx hb heq=>by
    have h1:=hall x hx hb;rw[heq]at h1;rcases Nat.lt_or_ge i listed.size with h'|h'
    ·simp[h']at cF h1;rw[cF]at h1;cases h1
    ·simp[Array.getElem?_eq_none h']at h1
   have h2:=wpOp_putIf dv (hfree j oj dv e cE hno) (fun cs b=>sel i oi cs b hi) (fun cs b=>sel j oj cs b dv) hQ hy (H.2 j (ready_mono hj e));refine wpOp_mono (fun a' w' h3=>?_) h2;have pq:(listed.setIfInBounds j true).getD m true=false->S w':=fun h=>h3.2.1 (by rw[<-Array.setIfInBounds_comm _ _ e,getD_set_ne true hne];exact h);refine⟨pq,ih (listed.setIfInBounds j true) a' w' (fun k ok hk lN hun hn=>hfree k ok hk lN ?_ hn) (ready_mono hr (Ne.symm e)) pq h3.1 ?_⟩
   ·rcases Classical.em (j=k)with ek|ek
    ·subst ek;exact cE
    ·rw[getD_set_ne true ek]at hun;exact hun
   ·rw[Array.setIfInBounds_comm _ _ e];exact h3.2.2
def kTh (ops:Array Oper)(m i:Nat):Bool:=match ops[m]? with
 |some o=>(o.after.toList.any fun e=>Region.binds .any e&&e.on==i)&& !(i==m)
 |none=>false
theorem kRi {i:Nat}(h:kTh ops m i=true):∃om,ops[m]? =some om/\(∃e ∈ om.after,Region.binds .any e=true/\e.on=i)/\i≠m:=by
 unfold kTh at h;split at h
 ·rename_i o ho
  rw[Bool.and_eq_true]at h;obtain⟨x,hx,hx2⟩:=List.any_eq_true.1 h.1;simp only[Bool.and_eq_true,beq_iff_eq]at hx2;exact⟨o,ho,⟨x,by simpa using hx,hx2.1,hx2.2⟩,by simpa using h.2⟩
 ·cases h
theorem kOu {i:Nat}{oi:Oper}(v:Value){n:Nat}{listed:Array Bool}{a:Act}{w:World}(hi:ops[i]? =some oi)(hs:Region.noSelect ops=true)(hz:kTh ops m i=true)(hl:listed.getD m true=false)(hf:Region.free .any ops listed i=true)(hr:(Region.ready .any ops listed).contains i=true)
  (hQ:∀c a w,Q (.panic c) (a.put oi.dst v) w->Q (.panic c) a w) (hw:Region.wanted oi (yielded ops a.tmps)=true) (hy:∀w,S w->(execOp a.eval oi).run P w=.ok (.value v) w) (hS:S w)
  (h:kOh P ops Q S m n (listed.setIfInBounds i true) (a.put oi.dst v) w):kOh P ops Q S m (n+1) listed a w:=by
 obtain⟨om,hm,sV,hne⟩:=kRi hz;exact kVd hi hs hm sV hne hQ n listed a w (Region.free_spec hi hf) (by simpa using hr) hl (.inl ⟨hw,hy⟩) hS h
theorem kNl {i:Nat}{oi:Oper}(v:Value){n:Nat}{listed:Array Bool}{a:Act}{w:World}(hi:ops[i]? =some oi)(hs:Region.noSelect ops=true)(hne:(!(i==m))=true)(hf:Region.free .any ops listed i=true)(hr:(Region.ready .any ops listed).contains i=true)
  (hQ:∀c a w,Q (.panic c) (a.put oi.dst v) w->Q (.panic c) a w) (hw:Region.wanted oi (yielded ops a.tmps)=true) (hy:∀w,(execOp a.eval oi).run P w=.ok (.value v) w) (hS:S w)
  (h:kOh P ops Q S m n (listed.setIfInBounds i true) (a.put oi.dst v) w):kOh P ops Q S m (n+1) listed a w:=
 kV2 hi hs (by simpa using hne) hQ n listed a w (Region.free_spec hi hf) (by simpa using hr) (fun _=>hS) (.inl ⟨hw,fun w _=>hy w⟩) h
theorem kV3 :∀{n:Nat}{listed:Array Bool}{a:Act}{w:World},listed.getD m true=true->zCu P ops Q (fun _=>True) (fun _=>false) n listed a w->kOh P ops Q S m n listed a w
 |0,_,_,_,_,h=>h
 | n +1,listed,_,_,hl,h=>⟨h.1,fun i hi=>wpOp_mono (fun a' w' h'=>by
   have h2:(listed.setIfInBounds i true).getD m true=true:=by
    rcases Classical.em (i=m)with e|e
    ·subst e;rcases Nat.lt_or_ge i listed.size with h3|h3
     ·simp[h3]
     ·simp[h3]
    ·rw[getD_set_ne true e];exact hl
   exact⟨fun h3=>(by rw[h2]at h3;cases h3),kV3 h2 h'.2⟩) (h.2 i hi)⟩
theorem kUi {o:Oper}{n:Nat}{listed:Array Bool}{a:Act}{w:World}(hr:Region.ready .any ops listed=[m])(hi:ops[m]? =some o)(hl:(listed.setIfInBounds m true).getD m true=true)
  (h:∀K:Act->World->Prop,(∀a' w',zCu P ops Q (fun _=>True) (fun _=>false) n (listed.setIfInBounds m true) a' w'->K a' w')->if Region.wanted o (yielded ops a.tmps)=true then Oper.wp P o a w K Q else False):kOh P ops Q S m (n+1) listed a w:=by
 refine⟨fun e=>absurd (e.symm.trans hr) Kc,fun j hj=>?_⟩;rw[hr,List.mem_singleton]at hj;subst hj;have h1:=h (fun a' w'=>((listed.setIfInBounds j true).getD j true=false->S w')/\kOh P ops Q S j n (listed.setIfInBounds j true) a' w') (fun a' w' h2=>⟨fun h3=>(by rw[hl]at h3;cases h3),kV3 hl h2⟩);unfold wpOp;simp only[hi];split
 ·rename_i hw
  rw[if_pos hw]at h1;exact .inl h1
 ·rename_i hw
  rw[if_neg hw]at h1;exact h1.elim
theorem kQn {id:Nat}{a:Act}{w:World}(hm:P.follows .mixedOrders=true)(h:kOh P ops Q S m ops.size (Array.replicate ops.size false) a w.drew):(Code.region id ops true).wp P Q a w:=
 wp_region_any hm (kRz _ _ _ _ h)
end
structure GC where
 A:Option Addr
 na:Nat
 ca:Nat
 ao:Int
 F:Option Addr
 nf:Nat
 cf:Nat
 fo:Int
def GC.row (c:GC):Array Value:=#[.slice c.A c.na c.ca,.int .i64 c.ao,.slice c.F c.nf c.cf,.int .i64 c.fo]
structure GkA (w:World)(c:GC)(a f:List Int×Int):Prop where
 haa:kNt w c.A c.na c.ca a.1
 hao:a.2=c.ao
 hf:kNt w c.F c.nf c.cf f.1
 hfo:f.2=c.fo
 hn:c.na<=50
 hm:c.nf<=50
theorem GkA.later {w w':World}{c:GC}{a f:List Int×Int}(h:GkA w c a f)(hb:Below w.heap.size w w'):GkA w' c a f:={h with haa:=h.haa.later hb,hf:=h.hf.later hb}
theorem GkA.pa {w:World}{c:GC}{a f:List Int×Int}(h:GkA w c a f):zI4 w (.agg #[.slice c.A c.na c.ca,.int .i64 c.ao]) a:=h.haa.pt h.hao (by have:=h.hn;omega)
theorem GkA.pf {w:World}{c:GC}{a f:List Int×Int}(h:GkA w c a f):zI4 w (.agg #[.slice c.F c.nf c.cf,.int .i64 c.fo]) f:=h.hf.pt h.hfo (by have:=h.hm;omega)
def RC.rng (c:RC):GC:=⟨c.A,c.na,c.ca,c.ao,c.F,c.nf,c.cf,c.fo⟩
theorem RkA.rng {w:World}{c:RC}{r:kNj}(h:RkA w c r)(hf:kO1 r=true):GkA w c.rng r.a r.f:=by
 obtain⟨_,_,h3,h4⟩:=kPa hf;exact⟨h.haa,h.hao,h.hf,h.hfo,by have:=h.haa.len;show c.na<=50;omega,by have:=h.hf.len;show c.nf<=50;omega⟩
theorem RkA.pt {w:World}{c:RC}{r:kNj}(h:RkA w c r)(hf:kO1 r=true):zI4 w (.agg #[.slice c.Q c.nq c.cq,.int .i64 c.qo]) r.q:=by
 obtain⟨_,h2,_,_⟩:=kPa hf;exact h.hq.pt h.hqo (by have:=h.hq.len;omega)
theorem RkA.path {w:World}{c:RC}{r:kNj}(h:RkA w c r)(hf:kO1 r=true):XA w (.slice c.P c.np c.cp) r.p:=by
 obtain⟨h1,_,_,_⟩:=kPa hf;exact⟨c.P,c.np,c.cp,rfl,h.hp.len,by have:=h.hp.len;omega,h.hp.cap,h.hp.il⟩
theorem kQo {w:World}{u:Value}{p q:List Int×Int}(hp:zI4 w u p)(hq:zI4 w v q)(hE:samP p q=E):Calls Tryz.prog 38 #[u,v] w (jA (.bool E) w):=hE▸zUk Kk hp hq
theorem kTi (w:World)(t:TypeId)(r s:Array Value):∃W0,(w.alloc (.cells r t)).alloc (.cells s t)=W0/\Below w.heap.size w W0/\jT t W0 w.heap.size r/\jT t W0 (w.heap.size+1) s:=by
 have h1:=(jT.new w t r).alloc (.cells s t);have h2:=jT.new (w.alloc (.cells r t)) t s;have e1:(w.alloc (.cells r t)).heap.size=w.heap.size+1:=by simp
 rw[e1]at h2;exact⟨_,rfl,(Kk.alloc Kl _).alloc (by rw[e1];omega) _,h1,h2⟩
theorem jT.four {W:World}{g:Nat}{a b c d:Value}(h:jT t W g #[a,b,c,d]):W.cell? ⟨g,0,none⟩=some a/\W.cell? ⟨g,1,none⟩=some b/\W.cell? ⟨g,2,none⟩=some c/\W.cell? ⟨g,3,none⟩=some d:=⟨h.cell 0 _ rfl,h.cell 1 _ rfl,h.cell 2 _ rfl,h.cell 3 _ rfl⟩
theorem kTj {w:World}{c d:GC}{a f b g:List Int×Int}(h1:GkA w c a f)(h2:GkA w d b g)(hE:(samP a b&&samP f g)=E):Calls Tryz.prog 39 #[.agg c.row,.agg d.row] w (jA (.bool E) w):=by
 subst hE;obtain⟨W0,hW,hb0,v1,v2⟩:=kTi w 31 c.row d.row;have dR:=hd (fun W(h:Below W0.heap.size W0 W)=>(v1.keep h).four);have kz:=hd (fun W(h:Below W0.heap.size W0 W)=>(v2.keep h).four);have HA:=hd (fun W(h:Below W0.heap.size W0 W)=>(h1.later hb0).later h);have HB:=hd (fun W(h:Below W0.heap.size W0 W)=>(h2.later hb0).later h);have HW:=hd hW;have ar:=hd hb0;have ac:=hd (Below.refl W0.heap.size W0);clear hW hb0 v1 v2 h1 h2;obtain⟨E1,dM⟩:∃E1,samP a b=E1:=⟨_,rfl⟩;obtain⟨E2,cP⟩:∃E2,samP f g=E2:=⟨_,rfl⟩;rw[dM,cP];have H1:=hd dM;have H2:=hd cP;clear dM cP;obtain⟨u0,u1,u2,u3⟩:=dR.o _ ac.o;obtain⟨v0,v1,v2,v3⟩:=kz.o _ ac.o;go_enter Tryz.func39,Tryz.ntmps39
 go_upto_region 1 with fail
 rw[HW.o];go_wp2_with(first
  |(go_at_call 38;have _g:=H1;refine Calls.mono (kQo (HA.o _ ac.o).pa (HB.o _ ac.o).pa H1.o) ?_;clear H1;rintro e w9 ⟨rfl,b9⟩;have ac:=hd (zI ac.o b9);clear b9 u0 u1 u2 u3 v0 v1 v2 v3;obtain⟨u0,u1,u2,u3⟩:=dR.o _ ac.o;obtain⟨v0,v1,v2,v3⟩:=kz.o _ ac.o)
  |(go_at_call 38;have _g:=H2;refine Calls.mono (kQo (HA.o _ ac.o).pf (HB.o _ ac.o).pf H2.o) ?_;clear H2;rintro e w9 ⟨rfl,b9⟩;have ac:=hd (zI ac.o b9);clear b9 u0 u1 u2 u3 v0 v1 v2 v3))
 all_goals(go_ret;exact⟨kC (by simp[*]),ar.o.trans (ac.o.mono ar.o.size)⟩)
theorem jT.eleven {W:World}{g:Nat}{c:RC}(h:jT t W g c.row):(W.cell? ⟨g,0,none⟩=some (.int .i64 c.id)/\W.cell? ⟨g,1,none⟩=some (.int .i64 c.kind)/\W.cell? ⟨g,2,none⟩=some (.int .i64 c.aff)/\W.cell? ⟨g,3,none⟩=some (.bool c.live))/\W.cell? ⟨g,4,none⟩=some (.slice c.P c.np c.cp)/\
  (W.cell? ⟨g,5,none⟩=some (.slice c.Q c.nq c.cq)/\W.cell? ⟨g,6,none⟩=some (.int .i64 c.qo))/\W.cell? ⟨g,7,none⟩=some (.slice c.A c.na c.ca)/\W.cell? ⟨g,8,none⟩=some (.int .i64 c.ao)/\W.cell? ⟨g,9,none⟩=some (.slice c.F c.nf c.cf)/\W.cell? ⟨g,10,none⟩=some (.int .i64 c.fo):=
 ⟨⟨h.cell 0 _ rfl,h.cell 1 _ rfl,h.cell 2 _ rfl,h.cell 3 _ rfl⟩,h.cell 4 _ rfl,⟨h.cell 5 _ rfl,h.cell 6 _ rfl⟩,h.cell 7 _ rfl,h.cell 8 _ rfl,h.cell 9 _ rfl,h.cell 10 _ rfl⟩
theorem kQp {P:Prop}(h:P:=by
 obtain⟨W0,hW,hb0,v1,v2⟩:=kTi w 37 c.row d.row;have dR:=hd (fun W(h:Below W0.heap.size W0 W)=>(v1.keep h).eleven);have kz:=hd (fun W(h:Below W0.heap.size W0 W)=>(v2.keep h).eleven);have HW:=hd hW;have ar:=hd hb0;have ac:=hd (Below.refl W0.heap.size W0);clear hW hb0 v1 v2;obtain⟨⟨u0,u1,u2,u3⟩,u4,_⟩:=dR.o _ ac.o;obtain⟨⟨v0,v1,v2,v3⟩,v4,_⟩:=kz.o _ ac.o;go_enter Tryz.func14,Tryz.ntmps14
 go_upto_region 1 with fail
 rw[HW.o];go_wp2_with fail
 go_ret
 exact⟨rfl,ar.o.trans (ac.o.mono ar.o.size)⟩):P:=h
theorem kSg {w:World}{c:RC}(e0:(c.id==d.id)=false):Calls Tryz.prog 14 #[.agg c.row,.agg d.row] w (jA (.bool false) w):=by
 exact kQp
theorem kSh {w:World}{c:RC}(e0:(c.id==d.id)=true)(e1:(c.kind==d.kind)=false):Calls Tryz.prog 14 #[.agg c.row,.agg d.row] w (jA (.bool false) w):=by
 exact kQp
theorem kSi {w:World}{c:RC}(e0:(c.id==d.id)=true)(e1:(c.kind==d.kind)=true)(e2:(c.aff==d.aff)=false):Calls Tryz.prog 14 #[.agg c.row,.agg d.row] w (jA (.bool false) w):=by
 exact kQp
theorem kSj {w:World}{c:RC}(e0:(c.id==d.id)=true)(e1:(c.kind==d.kind)=true)(e2:(c.aff==d.aff)=true)(e3:(c.live==d.live)=false):Calls Tryz.prog 14 #[.agg c.row,.agg d.row] w (jA (.bool false) w):=by
 exact kQp
theorem kSk {w:World}{c:RC}{r s:kNj}(h1:RkA w c r)(h2:RkA w d s)(f1:kO1 r=true)(f2:kO1 s=true)(e0:(c.id==d.id)=true)(e1:(c.kind==d.kind)=true)(e2:(c.aff==d.aff)=true)(e3:(c.live==d.live)=true):Calls Tryz.prog 14 #[.agg c.row,.agg d.row] w (jA (.bool (decide (r.p=s.p)&&(samP r.q s.q&&(samP r.a s.a&&samP r.f s.f)))) w):=by
 obtain⟨W0,hW,hb0,v1,v2⟩:=kTi w 37 c.row d.row;have dR:=hd (fun W(h:Below W0.heap.size W0 W)=>(v1.keep h).eleven);have kz:=hd (fun W(h:Below W0.heap.size W0 W)=>(v2.keep h).eleven);have HW:=hd hW;have ar:=hd hb0;have ac:=hd (Below.refl W0.heap.size W0);have HA:=hd (fun W(h:Below W0.heap.size W0 W)=>(h1.later hb0).later h);have HB:=hd (fun W(h:Below W0.heap.size W0 W)=>(h2.later hb0).later h);have sW:=hd f1;have dQ:=hd f2;obtain⟨E1,dM⟩:∃E1,decide (r.p=s.p)=E1:=⟨_,rfl⟩;obtain⟨E2,cP⟩:∃E2,samP r.q s.q=E2:=⟨_,rfl⟩;obtain⟨E3,mY⟩:∃E3,(samP r.a s.a&&samP r.f s.f)=E3:=⟨_,rfl⟩;rw[dM,cP,mY];have H1:=hd (show zEd r.p s.p=E1 from dM);have H2:=hd cP;have H3:=hd mY;clear dM cP mY;clear hW hb0 v1 v2 h1 h2 f1 f2;obtain⟨⟨u0,u1,u2,u3⟩,u4,_⟩:=dR.o _ ac.o;obtain⟨⟨v0,v1,v2,v3⟩,v4,_⟩:=kz.o _ ac.o;go_enter Tryz.func14,Tryz.ntmps14
 go_upto_region 1 with fail
 rw[HW.o];go_wp2_with(first
  |(go_at_call 37;have _g:=H1;refine Calls.mono (kTl ((HA.o _ ac.o).path sW.o) ((HB.o _ ac.o).path dQ.o) H1.o) ?_;clear H1;rintro e w9 ⟨rfl,b9⟩;have ac:=hd (zI ac.o b9);clear b9 u0 u1 u2 u3 u4 v0 v1 v2 v3 v4;obtain⟨_,_,⟨u5,u6⟩,_⟩:=dR.o _ ac.o;obtain⟨_,_,⟨v5,v6⟩,_⟩:=kz.o _ ac.o)
  |(go_at_call 38;have _g:=H2;refine Calls.mono (kQo ((HA.o _ ac.o).pt sW.o) ((HB.o _ ac.o).pt dQ.o) H2.o) ?_;clear H2;rintro e w9 ⟨rfl,b9⟩;have ac:=hd (zI ac.o b9);clear b9 u5 u6 v5 v6;obtain⟨_,_,_,u7,u8,u9,pP⟩:=dR.o _ ac.o;obtain⟨_,_,_,v7,v8,v9,v10⟩:=kz.o _ ac.o)
  |(go_at_call 39;have _g:=H3;refine Calls.mono (kTj (c:=c.rng) (d:=d.rng) ((HA.o _ ac.o).rng sW.o) ((HB.o _ ac.o).rng dQ.o) H3.o) ?_;clear H3;rintro e w9 ⟨rfl,b9⟩;have ac:=hd (zI ac.o b9);clear b9 u7 u8 u9 pP v7 v8 v9 v10))
 all_goals(go_ret;exact⟨kC (by simp[*]),ar.o.trans (ac.o.mono ar.o.size)⟩)
theorem kP3 {w:World}{c:RC}{r s:kNj}(h1:RkA w c r)(h2:RkA w d s)(f1:kO1 r=true)(f2:kO1 s=true)(hE:kV4 r s=E):Calls Tryz.prog 14 #[.agg c.row,.agg d.row] w (jA (.bool E) w):=by
 subst hE;rw[kV4,h1.hid,h2.hid,h1.hk,h2.hk,h1.ha,h2.ha,h1.hlv,h2.hlv];cases e0:(c.id==d.id)
 ·exact kSg e0
 cases e1:(c.kind==d.kind)
 ·exact kSh e0 e1
 cases e2:(c.aff==d.aff)
 ·exact kSi e0 e1 e2
 cases e3:(c.live==d.live)
 ·exact kSj e0 e1 e2 e3
 exact kSk h1 h2 f1 f2 e0 e1 e2 e3
