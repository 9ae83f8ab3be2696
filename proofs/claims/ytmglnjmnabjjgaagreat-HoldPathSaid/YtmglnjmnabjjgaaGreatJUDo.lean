import Derived.Test.YtmglnjmnabjjgaaGreatJUChg
import Derived.Test.YtmglnjmnabjjgaaGreatUMer
import Derived.Test.YtmglnjmnabjjgaaGreatJUMerL
set_option maxRecDepth 4000
namespace Go.Proofs.YtmglnjmnabjjgaaGreat
open Go.RowKit
variable {v:Value}{A:Option Addr}{t:TypeId}
theorem kFr {n:NT}(h:zAh n=0):zXd n=zG9 n:=by
 obtain⟨h1,h2⟩:=kX h;unfold zXd zG9;cases hl:n.lf with
 |true=>rw[if_pos rfl,h1 hl];simp
 |false=>rw[if_neg Kd,h2 hl];simp
section
variable {w:World}{c:NC}{o:OC}{n:NT}{a:OpP}{r:NT×Int}
theorem kEa (hn:kS w c n)(ho:OkA w o a)(ta:zAf a)(hs:sizeT n<=900)(hk:a.k=1)(hE:kB7 n a=r):Calls Tryz.prog 31 #[.agg c.row,.agg o.row] w (zAm w r):=by
 have ko:o.k=1:=by rw[<-ho.hk];exact hk
 unfold kB7 at hE;by_cases h0:zAd a.n=0
 ·rw[if_neg (by simp[h0])]at hE;exact kMu hn ho ta ko (fun W hb=>kFx (hn.later hb) (ho.later hb) ta ko h0) Kb hE
 ·rw[if_pos h0]at hE;subst hE;exact zKv hn ho ta (fun W hb=>kFx (hn.later hb) (ho.later hb) ta ko rfl) (by simpa using h0)
theorem kEb (hn:kS w c n)(ho:OkA w o a)(ta:zAf a)(hk:a.k=2)(hE:zVk n a=r):Calls Tryz.prog 31 #[.agg c.row,.agg o.row] w (zAm w r):=by
 have ko:o.k=2:=by rw[<-ho.hk];exact hk
 unfold zVk at hE;rcases zH1 n a.q with⟨hq,e⟩|⟨hq,hg,e⟩|⟨m,x,hq,hg,e,em⟩
 ·rw[e,if_pos Kd]at hE;subst hE;exact zKv hn ho ta (fun W hb=>kIt (hn.later hb) (ho.later hb) ta ko (by rw[<-ho.hlq];exact hq)) Kd
 ·rw[e,if_pos Kd]at hE;subst hE;exact zKv hn ho ta (fun W hb=>kFy (hn.later hb) (ho.later hb) ta ko (by rw[<-ho.hlq];exact hq) hg) Kd
 ·rw[e,em,if_neg Kc]at hE;have hm:=fun(W:World)(hb:Below w.heap.size w W)=>kFy (hn.later hb) (ho.later hb) ta ko (by rw[<-ho.hlq];exact hq) (kP hg);by_cases h:eqT m a.n=true
  ·rw[if_pos h]at hE;subst hE;have h':eqT a.n m=true:=zPc ((zIw _ _).1 h).symm;exact kK6 hn ho ta ko hm (fun W d hb hd=>zXa (hn.later hb) (ho.later hb) ta hd h' e em)
  ·rw[if_neg h]at hE;subst hE;have h':eqT a.n m=false:=by cases h2:eqT a.n m with|false=>rfl|true=>exact absurd (zPc ((zIw _ _).1 h2).symm) h
   exact kK6 hn ho ta ko hm (fun W d hb hd=>kAx (hn.later hb) (ho.later hb) ta hd h')
theorem kEc (hn:kS w c n)(ho:OkA w o a)(ta:zAf a)(hc:zAh n=0)(hs:sizeT n<=900)(hk:a.k=3)(hE:kBo n a=r):Calls Tryz.prog 31 #[.agg c.row,.agg o.row] w (zAm w r):=by
 have ko:o.k=3:=by rw[<-ho.hk];exact hk
 unfold kBo at hE;rcases zH1 n a.q with⟨hq,e⟩|⟨hq,hg,e⟩|⟨m,x,hq,hg,e,em⟩
 ·rw[e,if_pos Kd]at hE;subst hE;exact zKv hn ho ta (fun W hb=>kIu (hn.later hb) (ho.later hb) ta ko (by rw[<-ho.hlq];exact hq)) Kd
 ·rw[e,if_pos Kd]at hE;subst hE;exact zKv hn ho ta (fun W hb=>kFz (hn.later hb) (ho.later hb) ta ko (by rw[<-ho.hlq];exact hq) hg) Kd
 ·rw[e,em,if_neg Kc]at hE;have hm:=fun(W:World)(hb:Below w.heap.size w W)=>kFz (hn.later hb) (ho.later hb) ta ko (by rw[<-ho.hlq];exact hq) (kP hg);obtain⟨⟨q2,er⟩,hbk⟩:∃b,jV a.q=b:=⟨_,rfl⟩;rw[hbk]at hE;by_cases h0:er=0
  case neg=>
   rw[if_pos h0]at hE;have h8:er=8:=by have:=kEk hq (by rw[hbk];exact h0);rw[hbk]at this;exact this
   subst hE;subst h8;exact zPr hn ho ta ko hm (fun W d hb hd=>zXm (hn.later hb) (ho.later hb) ta hd hbk Kd)
  subst h0;rw[if_neg Kc]at hE;obtain⟨b,hb1,hb2⟩:=kLb hq hg hbk;rw[e]at hb2;dsimp only at hE;rw[kP hb2]at hE;have hin:=zP7 ho.hiq ta.hq;rw[hbk]at hin;have hcm:=zA6 n a.q m hc hg;have hcb:=zA6 n q2 b hc hb1;have hsm:=zPt hg;have bM:=zPt hb1;obtain⟨v1,v2⟩:=kX hcm;obtain⟨u1,u2⟩:=kX hcb;have hlb:=kFr hcb;unfold kLk at hE;dsimp only at hE;by_cases h1:b.lf=m.lf
  case neg=>
   rw[if_pos h1]at hE;subst hE;cases hx:b.lf with
   |true=>
    have hy:m.lf=false:=by cases h2:m.lf with|false=>rfl|true=>exact absurd (hx.trans h2.symm) h1
    exact zPr hn ho ta ko hm (fun W d hb hd=>kBl (hn.later hb) (ho.later hb) ta hd hbk hin.1 hin.2 (kP hb1) hx hy)
   |false=>
    have hy:m.lf=true:=by cases h2:m.lf with|true=>rfl|false=>exact absurd (hx.trans h2.symm) h1
    exact zPr hn ho ta ko hm (fun W d hb hd=>kBm (hn.later hb) (ho.later hb) ta hd hbk hin.1 hin.2 (kP hb1) hx hy)
  rw[if_neg (by simp[h1])]at hE;by_cases h2:zG9 b=a.z
  case neg=>
   rw[if_pos h2]at hE;subst hE;have z0:o.z≠zG9 b:=fun e=>h2 (by rw[ho.hz,e]);have z1:(o.z==zG9 b)=false:=by simpa using z0
   have z2:(o.z !=zG9 b)=true:=by simpa using z0
   cases hx:b.lf with
   |true=>exact zPr hn ho ta ko hm (fun W d hb hd=>kE1 (hn.later hb) (ho.later hb) ta hd hbk hin.1 hin.2 (kP hb1) hx (by rw[<-h1];exact hx) hlb z1 z2)
   |false=>exact zPr hn ho ta ko hm (fun W d hb hd=>kE3 (hn.later hb) (ho.later hb) ta hd hbk hin.1 hin.2 (kP hb1) hx (by rw[<-h1];exact hx) hlb z1 z2)
  rw[if_neg (by simp[h2])]at hE;have z0:o.z=zG9 b:=by rw[<-ho.hz];exact h2.symm
  have z1:(o.z==zG9 b)=true:=by simpa using z0
  have z2:(o.z !=zG9 b)=false:=by simpa using z0
  by_cases h3:m.ps=a.o
  case neg=>
   rw[if_pos h3]at hE;subst hE;have aQ:decide (a.o=m.ps)=false:=decide_eq_false fun e=>h3 e.symm;cases hx:b.lf with
   |true=>exact zPr hn ho ta ko hm (fun W d hb hd=>kE2 (hn.later hb) (ho.later hb) ta hd hbk hin.1 hin.2 (kP hb1) hx (by rw[<-h1];exact hx) hlb z1 z2 aQ)
   |false=>exact zPr hn ho ta ko hm (fun W d hb hd=>kE4 (hn.later hb) (ho.later hb) ta hd hbk hin.1 hin.2 (kP hb1) hx (by rw[<-h1];exact hx) hlb z1 z2 aQ)
  rw[if_neg (by simp[h3])]at hE;have aQ:decide (a.o=m.ps)=true:=decide_eq_true h3.symm;have hp:zSe x q2 (zAo b m)=r:=by rw[zR5 hb2];exact hE
  cases hx:b.lf with
  |true=>exact zPr hn ho ta ko hm (fun W d hb hd=>kA1 (hn.later hb) (ho.later hb) ta hd hbk hin.1 hin.2 (kP hb1) hx (by rw[<-h1];exact hx) hlb z1 z2 aQ (u1 hx) (v1 (by rw[<-h1];exact hx)) Kb e em hp)
  |false=>exact zPr hn ho ta ko hm (fun W d hb hd=>kA2 (hn.later hb) (ho.later hb) ta hd hbk hin.1 hin.2 (kP hb1) hx (by rw[<-h1];exact hx) hlb z1 z2 aQ (u2 hx) (v2 (by rw[<-h1];exact hx)) Kb e em hp)
theorem kEd (hn:kS w c n)(ho:OkA w o a)(ta:zAf a)(hc:zAh n=0)(hs:sizeT n<=900)(hk:a.k=4)(hE:kBp n a=r):Calls Tryz.prog 31 #[.agg c.row,.agg o.row] w (zAm w r):=by
 have ko:o.k=4:=by rw[<-ho.hk];exact hk
 unfold kBp at hE;by_cases hw:chk a.w=0
 case neg=>
  rw[if_pos hw]at hE;subst hE;exact zKv hn ho ta (fun W hb=>kIs (hn.later hb) (ho.later hb) ta ko rfl (by simpa using hw)) (by simpa using hw)
 rw[if_neg (by simp[hw])]at hE;rcases zH1 n a.q with⟨hq,e⟩|⟨hq,hg,e⟩|⟨m,x,hq,hg,e,em⟩
 ·rw[e,if_pos Kd]at hE;subst hE;exact zKv hn ho ta (fun W hb=>kIv (hn.later hb) (ho.later hb) ta ko hw (by rw[<-ho.hlq];exact hq)) Kd
 ·rw[e,if_pos Kd]at hE;subst hE;exact zKv hn ho ta (fun W hb=>kF0 (hn.later hb) (ho.later hb) ta ko hw (by rw[<-ho.hlq];exact hq) hg) Kd
 ·rw[e,em,if_neg Kc]at hE;have hm:=fun(W:World)(hb:Below w.heap.size w W)=>kF0 (hn.later hb) (ho.later hb) ta ko hw (by rw[<-ho.hlq];exact hq) (kP hg);have hcm:=zA6 n a.q m hc hg;have hlm:=kFr hcm;have hsm:=zPt hg;unfold kLl at hE;by_cases h0:o.z<0
  ·rw[if_pos (.inl (by rw[ho.hz];exact h0))]at hE;subst hE;exact kD9 hn ho ta ko hm (fun W d hb hd=>kA8 (hn.later hb) (ho.later hb) ta hd (decide_eq_true h0))
  by_cases h1:zG9 m<o.z
  ·rw[if_pos (.inr (by rw[ho.hz];exact h1))]at hE;subst hE;exact kD9 hn ho ta ko hm (fun W d hb hd=>zXe (hn.later hb) (ho.later hb) ta hd (decide_eq_false h0) hlm (decide_eq_true h1))
  rw[if_neg (by rw[ho.hz];omega),ho.hz]at hE;obtain⟨⟨q2,er⟩,hnx⟩:∃b,zBg a.q=b:=⟨_,rfl⟩;have her:er=0:=by have:=kIc hq hg (by omega:sizeT n<=100000);rw[hnx]at this;exact this
  subst her;rw[hnx]at hE;dsimp only at hE;have hin:=zP8 ho.hiq ta.hq;rw[hnx]at hin;obtain⟨k,hz⟩:∃k:Nat,o.z=(k:Int):=⟨o.z.toNat,by omega⟩;have Ev:o.z.toNat=k:=Kb;rw[Ev]at hE;have hput:=zR5 (m:=jN m k) hg;have uO:sizeT (putT n a.q (jN m k))<=100000:=by
   have h2:=zBo n a.q (jN m k) m hg;have h3:=zGv m k [];omega
  cases hx:m.lf with
  |true=>
   have hlen:k<=m.tx.length:=by have:=(kX hcm).1 hx;unfold zG9 at h1;rw[this]at h1;simp at h1;omega
   exact kD9 hn ho ta ko hm (fun W d hb hd=>zXn (hn.later hb) (ho.later hb) ta hd (decide_eq_false h0) hz (by rw[<-hd.parts.nt];exact hlen) hlm (decide_eq_false h1) hnx hin.1 hin.2 (by rw[<-hd.lf];exact hx) hx hput uO hE)
  |false=>
   have hlen:k<=m.ks.length:=by have:=(kX hcm).2 hx;unfold zG9 at h1;rw[this]at h1;simp at h1;omega
   exact kD9 hn ho ta ko hm (fun W d hb hd=>kEl (hn.later hb) (ho.later hb) ta hd (decide_eq_false h0) hz (by rw[<-hd.parts.nk];exact hlen) hlm (decide_eq_false h1) hnx hin.1 hin.2 (by rw[<-hd.lf];exact hx) hx hput uO hE)
theorem kEe (hn:kS w c n)(ho:OkA w o a)(ta:zAf a)(hs:sizeT n<=900)(hk:a.k=5)(hE:zVl n a=r):Calls Tryz.prog 31 #[.agg c.row,.agg o.row] w (zAm w r):=by
 have ko:o.k=5:=by rw[<-ho.hk];exact hk
 unfold zVl at hE;rcases zH1 n a.q with⟨hq,e⟩|⟨hq,hg,e⟩|⟨m,x,hq,hg,e,em⟩
 ·rw[e,if_pos Kd]at hE;subst hE;exact zKv hn ho ta (fun W hb=>kIw (hn.later hb) (ho.later hb) ta ko (by rw[<-ho.hlq];exact hq)) Kd
 ·rw[e,if_pos Kd]at hE;subst hE;exact zKv hn ho ta (fun W hb=>kF1 (hn.later hb) (ho.later hb) ta ko (by rw[<-ho.hlq];exact hq) hg) Kd
 ·rw[e,em,if_neg Kc]at hE;have:=kLc e;exact kMv hn ho ta ko (fun W hb=>kF1 (hn.later hb) (ho.later hb) ta ko (by rw[<-ho.hlq];exact hq) (kP hg)) e em Kb hE
theorem kEf (hn:kS w c n)(ho:OkA w o a)(ta:zAf a)(hk:a.k=6)(hE:setO n a=r):Calls Tryz.prog 31 #[.agg c.row,.agg o.row] w (zAm w r):=by
 have ko:o.k=6:=by rw[<-ho.hk];exact hk
 unfold setO at hE;by_cases hq:a.q.length=0
 ·rw[if_pos hq]at hE;subst hE;exact zKv hn ho ta (fun W hb=>kIx (hn.later hb) (ho.later hb) ta ko (by rw[<-ho.hlq];exact hq)) Kd
 rw[if_neg hq]at hE;have hl:o.lq≠0:=by rw[<-ho.hlq];exact hq
 cases hg:kB n a.q with
 |none=>
  rw[zB2 hg,if_pos Kd]at hE;subst hE;exact zKv hn ho ta (fun W hb=>kF2 (hn.later hb) (ho.later hb) ta ko hl (zB2 hg)) Kd
 |some m=>
  rw[kP hg,if_neg Kc]at hE;have hm:=fun(W:World)(hb:Below w.heap.size w W)=>kF2 (hn.later hb) (ho.later hb) ta ko hl (kP hg);unfold set2 at hE;by_cases h0:PE m.ps a.o a.w=0
  ·rw[if_neg (by simp[h0])]at hE;subst hE;have uP:=zPj.1 h0;have hL:=uP.list;exact kK7 hn ho ta ko hm (fun W d hb hd=>kIa (hn.later hb) (ho.later hb) ta hd (by rw[h0,hL]) uP.may (zR5 hg))
  ·rw[if_pos h0]at hE;subst hE;exact kK7 hn ho ta ko hm (fun W d hb hd=>kK8 (hn.later hb) (ho.later hb) ta hd rfl (by simpa using h0))
theorem zR3 (hn:kS w c n)(ho:OkA w o a)(ta:zAf a)(hs:sizeT n<=900)(del:Bool)(hk:a.k=if del then 8 else 7)(hE:zP1 n a (fun r=>if del then zFe r a.z a.x else zFx r a.z a.x)=r):Calls Tryz.prog 31 #[.agg c.row,.agg o.row] w (zAm w r):=by
 unfold zP1 at hE;have hme:∀(r:NT×Int),zGm n a.q=r->∀W,Below w.heap.size w W->Calls Tryz.prog 68 #[.agg c.row,.agg o.row] W (zEi W r):=fun r hr W hb=>by
  cases del with
  |true=>exact kLj (hn.later hb) (ho.later hb) ta (by rw[<-ho.hk];exact hk) hr
  |false=>exact kLi (hn.later hb) (ho.later hb) ta (by rw[<-ho.hk];exact hk) hr
 have hch:∀{mt:NT}{r:NT×Int},(∀W,Below w.heap.size w W->Calls Tryz.prog 68 #[.agg c.row,.agg o.row] W (zEi W (mt,0)))->(∀W m,Below w.heap.size w W->kS W m mt->Calls Tryz.prog 75 #[.agg c.row,.agg o.row,.agg m.row] W (zAm W r))->Calls Tryz.prog 31 #[.agg c.row,.agg o.row] w (zAm w r):=fun h1 h2=>by
  cases del with
  |true=>exact kMt hn ho ta (by rw[<-ho.hk];exact hk) h1 h2
  |false=>exact kMs hn ho ta (by rw[<-ho.hk];exact hk) h1 h2
 cases hg:kB n a.q with
 |none=>
  rw[zB2 hg,if_pos Kd]at hE;subst hE;exact zKv hn ho ta (hme _ (zB2 hg)) Kd
 | some m=>
  rw[kP hg,if_neg Kc]at hE;have hm:=hme _ (kP hg);have hsm:=zPt hg;dsimp only at hE;cases bW:m.lf with
  |false=>
   rw[if_pos bW]at hE;subst hE;exact hch hm (fun W d hb hd=>kA4 (hn.later hb) (ho.later hb) ta hd (by rw[<-hd.lf];exact bW))
  | true=>
   rw[if_neg (by simp[bW])]at hE;unfold kI0 at hE;have gN:sizeT m<=900:=Kb;have oa:m.tx.length<=900:=by have:=jC m;omega
   have Fw:=ta.hx;cases del with
   |true=>
    have k8:(o.k==8)=true:=by rw[<-ho.hk,hk];rfl
    simp only[if_true]at hE;obtain⟨⟨L,er⟩,hr⟩:∃b,zFe m.tx a.z a.x=b:=⟨_,rfl⟩;rw[hr]at hE;by_cases h0:er=0
    ·subst h0;rw[if_neg Kc]at hE;subst hE;have hll:L.length<=35184372088832:=by have:=zKj hr;omega
     exact hch hm (fun W d hb hd=>zNm (hn.later hb) (ho.later hb) ta hd (by rw[<-hd.lf];exact bW) k8 gN hr hll (zR5 hg))
    ·rw[if_pos h0]at hE;subst hE;exact hch hm (fun W d hb hd=>zPw (hn.later hb) (ho.later hb) ta hd (by rw[<-hd.lf];exact bW) k8 gN hr (by simpa using h0))
   |false=>
    have k8:(o.k==8)=false:=by rw[<-ho.hk,hk];rfl
    simp only[Bool.false_eq_true,if_false]at hE;obtain⟨⟨L,er⟩,hr⟩:∃b,zFx m.tx a.z a.x=b:=⟨_,rfl⟩;rw[hr]at hE;by_cases h0:er=0
    ·subst h0;rw[if_neg Kc]at hE;subst hE;have hll:L.length<=35184372088832:=by have:=zKi hr;omega
     exact hch hm (fun W d hb hd=>zNl (hn.later hb) (ho.later hb) ta hd (by rw[<-hd.lf];exact bW) k8 gN hr hll (zR5 hg))
    ·rw[if_pos h0]at hE;subst hE;exact hch hm (fun W d hb hd=>zPv (hn.later hb) (ho.later hb) ta hd (by rw[<-hd.lf];exact bW) k8 gN hr (by simpa using h0))
theorem kAy (hn:kS w c n)(ho:OkA w o a)(ta:zAf a)(hc:zAh n=0)(hs:sizeT n<=900)(h1:1<=a.k)(h8:a.k<=8)(hE:doO n a=r):Calls Tryz.prog 31 #[.agg c.row,.agg o.row] w (zAm w r):=by
 rcases(show a.k=1∨a.k=2∨a.k=3∨a.k=4∨a.k=5∨a.k=6∨a.k=7∨a.k=8 by omega)with e|e|e|e|e|e|e|e
 ·exact kEa hn ho ta hs e (by rw[<-kKb e];exact hE)
 ·exact kEb hn ho ta e (by rw[<-kM0 e];exact hE)
 ·exact kEc hn ho ta hc hs e (by rw[<-kM1 e];exact hE)
 ·exact kEd hn ho ta hc hs e (by rw[<-kLm e];exact hE)
 ·exact kEe hn ho ta hs e (by rw[<-kLn e];exact hE)
 ·exact kEf hn ho ta e (by rw[<-kLo e];exact hE)
 ·exact zR3 hn ho ta hs false e (by rw[<-hE,kLp e];rfl)
 ·exact zR3 hn ho ta hs true e (by rw[<-hE,kLq e];rfl)
end
theorem kAz {s:Sl}(h1:s.a.1.length<=60)(h2:s.f.1.length<=60):fewS s=true:=by unfold fewS;rw[decide_eq_true h1,decide_eq_true h2];rfl
theorem zR4 (s t:Sl):zF7 s t=zF7 t s:=by
 cases h:zF7 s t with
 |true=>exact((zC4 t s).2 ((zC4 s t).1 h).symm).symm
 |false=>
  cases h2:zF7 t s with
  |false=>rfl
  |true=>rw[(zC4 s t).2 ((zC4 t s).1 h2).symm]at h;cases h
theorem kV6 {w:World}{c:NC}{s:SC}{o:OC}{n:NT}{sl:Sl}{a:OpP}(hn:kS w c n)(hs:zB1 w s sl)(ho:OkA w o a)(hr:zRb n sl a){r:(NT×Sl)×Int}(hE:jL n sl a=r):Calls Tryz.prog 11 #[.agg c.row,.agg s.row,.agg o.row] w (kPu w r):=by
 have ta:=hr.tiny;have hf:=hr.sel;have hff:=kAz ta.hfa ta.hff;have pJ:=kAz ta.hga ta.hgf;obtain⟨l1,l2⟩:=hs.len hf;by_cases h0:zG7 n sl a=0
 case neg=>
  have:r=((zeroT,zeroS),zG7 n sl a):=by
   rw[<-hE];unfold jL;unfold zG7 at h0⊢;by_cases h1:zAd n=0
   case neg=>rw[if_pos h1,if_pos h1]
   have h1':¬zAd n≠0:=by simp[h1]
   simp only[if_neg h1']at h0⊢;by_cases h2:n.lf=true
   ·simp only[if_pos h2]
   simp only[if_neg h2]at h0⊢;by_cases h3:zE8 n sl=0
   case neg=>simp only[if_pos (show zE8 n sl≠0 from h3)]
   have h3':¬zE8 n sl≠0:=by simp[h3]
   simp only[if_neg h3']at h0⊢;rw[if_pos h0]
  rw[this];exact kAu hn hs ho hf ta rfl (by simpa using h0)
 have i9:=h0;unfold zG7 at h0;unfold jL at hE;by_cases h1:zAd n=0
 case neg=>rw[if_pos h1]at h0;exact absurd h0 h1
 rw[if_neg (by simp[h1])]at h0 hE;by_cases h2:n.lf=true
 ·rw[if_pos h2]at h0;cases h0
 rw[if_neg h2]at h0 hE;by_cases h3:zE8 n sl=0
 case neg=>rw[if_pos h3]at h0;exact absurd h0 h3
 rw[if_neg (by simp[h3])]at h0 hE;rw[if_neg (by simp[h0])]at hE;have hk:=(zOy h0).1;simp only[kindB,Bool.and_eq_true,decide_eq_true_iff]at hk;have hc:=zC1 h1;by_cases h9:a.k=9
 ·rw[if_pos h9]at hE;have k9:(o.k==9)=true:=by rw[<-ho.hk,h9];rfl
  refine kH4 hn hs ho hf ta i9 k9 (fun W hb=>?_);by_cases h5:zF7 sl a.f=false
  ·rw[if_pos h5]at hE;subst hE;exact kAt (hn.later hb) (hs.later hb) (ho.later hb) hf ta hff (by rw[zR4];exact h5)
  rw[if_neg h5]at hE;have vC:zF7 a.f sl=true:=by rw[zR4];simpa using h5
  by_cases h6:zE8 n a.g=0
  ·rw[if_neg (by simp[h6])]at hE;subst hE;have hg:=ho.hg;exact zW4 (hn.later hb) (hs.later hb) (ho.later hb) hf ta hff pJ vC h6 (by have:=ta.hga;have:=hg.hn;omega) (by have:=ta.hgf;have:=hg.hm;omega)
  ·rw[if_pos h6]at hE;subst hE;exact zW3 (hn.later hb) (hs.later hb) (ho.later hb) hf ta hff pJ vC rfl (by simpa using h6)
 ·rw[if_neg h9]at hE;have k9:(o.k==9)=false:=by rw[<-ho.hk];simpa using h9
  obtain⟨⟨x,er⟩,hd⟩:∃r,doO n a=r:=⟨_,rfl⟩;have hch:=fun(W:World)(hb:Below w.heap.size w W)=>kAy (hn.later hb) (ho.later hb) ta hc (hr.size hc) hk.1 Kb hd;rw[hd]at hE;by_cases h7:er=0
  case neg=>
   rw[if_pos h7]at hE;subst hE;exact kH5 hn hs ho hf ta i9 k9 hch (by simpa using h7)
  subst h7;rw[if_neg Kc]at hE;have e8:=hs.his;cases hi:sl.is with
  |false=>
   rw[if_neg (by simp[hi])]at hE;subst hE;exact zTt hn hs ho hf ta i9 k9 hch (by rw[<-e8];exact hi) Kb Kb
  |true=>
   cases hst:zBl sl.a a&&zBl sl.f a with
   |false=>
    rw[if_pos (by rw[hi,hst];rfl)]at hE;subst hE;exact kD6 hn hs ho hf ta i9 k9 hch (by rw[<-e8];exact hi) hst
   |true=>
    rw[if_neg (by rw[hi,hst];decide)]at hE;subst hE;exact kAv hn hs ho hf ta i9 k9 hch (by rw[<-e8];exact hi) Kb Kb hst
theorem zA4 {w:World}{c:NC}{s:SC}{o:OC}{n:NT}{sl:Sl}{a:OpP}(hn:kS w c n)(hs:zB1 w s sl)(ho:OkA w o a)(hr:zRb n sl a){r:(NT×Sl)×Int}(hE:jL n sl a=r):Calls Tryz.prog 11 #[.agg c.row,.agg s.row,.agg o.row] w (zTd w r):=(kV6 hn hs ho hr hE).mono fun _ _ h=>h.ns
section
variable {P:Program}{ops:Array Oper}{Q:Exit->Act->World->Prop}{S:World->Prop}{m:Nat}
def kOk (P:Program)(ops:Array Oper)(Q:Exit->Act->World->Prop)(S:World->Prop)(m:Nat):Nat->Array Bool->Act->World->Prop
 |0,listed,a,w=>Region.ready .any ops listed=[]/\Q .normal a w
 |n+1,listed,a,w=>(Region.ready .any ops listed=[]->Q .normal a w)/\
   ∀i ∈ Region.ready .any ops listed,wpOp P ops Q i (fun a' w'=>((listed.setIfInBounds i true).getD m true=false->S w')/\kOk P ops Q S m n (listed.setIfInBounds i true) a' w') a w
theorem kTk :∀(n:Nat)(listed:Array Bool)(a:Act)(w:World),kOk P ops Q S m n listed a w->wpAny P .any ops Q n listed a w
 |0,_,_,_,h=>h
 |n+1,_,_,_,h=>⟨h.1,fun i hi=>wpOp_mono (fun a' w' h'=>kTk n _ a' w' h'.2) (h.2 i hi)⟩
theorem kW9 {i:Nat}{oi om:Oper}(hi:ops[i]? =some oi)(eP:Region.noSelect ops=true)(hm:ops[m]? =some om)(yV:∃e ∈ om.after,Region.binds .any e=true/\e.on=i)(hne:i≠m)
  (hQ:∀c a w,Q (.panic c) (a.put oi.dst v) w->Q (.panic c) a w):
  ∀(n:Nat)(listed:Array Bool)(a:Act)(w:World),
   (∀j oj,ops[j]? =some oj->j≠i->listed.getD j true=false->(∀e ∈ oj.after,Region.binds .any e=true->e.on≠i)->oi.apart ops oj=true)->
   i ∈ Region.ready .any ops listed->listed.getD m true=false->YieldsIf P ops S oi v a->S w->
   kOk P ops Q S m n (listed.setIfInBounds i true) (a.put oi.dst v) w->kOk P ops Q S m (n+1) listed a w:=by
 have sel:=Region.noSelect_spec eP;intro n;induction n with
 |zero=>
  intro listed a w _ hr _ hy hS H;refine⟨fun h=>absurd hr (by rw[h];simp),fun j hj=>?_⟩;rcases Classical.em (j=i)with e|e
  ·subst e;exact hy.wpOp hi hS ⟨fun _=>hS,H⟩
  ·have:=ready_mono hj e;rw[H.1]at this;cases this
 | succ n ih=>
  intro listed a w hfree hr hlm hy hS H;refine⟨fun h=>absurd hr (by rw[h];simp),fun j hj=>?_⟩;rcases Classical.em (j=i)with e|e
  ·subst e;exact hy.wpOp hi hS ⟨fun _=>hS,H⟩
  ·obtain⟨cG,oj,dv,hall⟩:=mem_ready.1 hj;have cH:=(mem_ready.1 hr).1;have hno:∀e ∈ oj.after,Region.binds .any e=true->e.on≠i:=fun x hx hb heq=>by
    have h1:=hall x hx hb;rw[heq]at h1;rcases Nat.lt_or_ge i listed.size with h'|h'
    ·simp[h']at cH h1;rw[cH]at h1;cases h1
    ·simp[Array.getElem?_eq_none h']at h1
   have hjm:¬j=m:=fun ej=>by
    subst ej;rw[hm]at dv;injection dv with dv;subst dv;obtain⟨x,hx,hx2,hx3⟩:=yV;exact hno x hx hx2 hx3
   have h2:=wpOp_putIf dv (hfree j oj dv e cG hno) (fun cs b=>sel i oi cs b hi) (fun cs b=>sel j oj cs b dv) hQ hy (H.2 j (ready_mono hj e));refine wpOp_mono (fun a' w' h3=>?_) h2;have uQ:S w':=h3.2.1 (by rw[getD_set_ne true hjm,getD_set_ne true hne];exact hlm);refine⟨fun _=>uQ,ih (listed.setIfInBounds j true) a' w' (fun k ok hk ni hun hn=>hfree k ok hk ni ?_ hn) (ready_mono hr (Ne.symm e)) (by rw[getD_set_ne true hjm];exact hlm) h3.1 uQ ?_⟩
   ·rcases Classical.em (j=k)with ek|ek
    ·subst ek;exact cG
    ·rw[getD_set_ne true ek]at hun;exact hun
   ·rw[Array.setIfInBounds_comm _ _ e];exact h3.2.2
theorem kX0 {i:Nat}{oi:Oper}(hi:ops[i]? =some oi)(eP:Region.noSelect ops=true)(hne:i≠m)
  (hQ:∀c a w,Q (.panic c) (a.put oi.dst v) w->Q (.panic c) a w):
  ∀(n:Nat)(listed:Array Bool)(a:Act)(w:World),
   (∀j oj,ops[j]? =some oj->j≠i->listed.getD j true=false->(∀e ∈ oj.after,Region.binds .any e=true->e.on≠i)->oi.apart ops oj=true)->
   i ∈ Region.ready .any ops listed->(listed.getD m true=false->S w)->YieldsIf P ops (fun _=>True) oi v a->
   kOk P ops Q S m n (listed.setIfInBounds i true) (a.put oi.dst v) w->kOk P ops Q S m (n+1) listed a w:=by
 have sel:=Region.noSelect_spec eP;intro n;induction n with
 |zero=>
  intro listed a w _ hr hS hy H;refine⟨fun h=>absurd hr (by rw[h];simp),fun j hj=>?_⟩;rcases Classical.em (j=i)with e|e
  ·subst e;exact hy.wpOp hi trivial ⟨fun h=>hS (by rw[getD_set_ne true hne]at h;exact h),H⟩
  ·have:=ready_mono hj e;rw[H.1]at this;cases this
 | succ n ih=>
  intro listed a w hfree hr hS hy H;refine⟨fun h=>absurd hr (by rw[h];simp),fun j hj=>?_⟩;rcases Classical.em (j=i)with e|e
  ·subst e;exact hy.wpOp hi trivial ⟨fun h=>hS (by rw[getD_set_ne true hne]at h;exact h),H⟩
  ·obtain⟨cG,oj,dv,hall⟩:=mem_ready.1 hj;have cH:=(mem_ready.1 hr).1;have hno:∀e ∈ oj.after,Region.binds .any e=true->e.on≠i:=fun x hx hb heq=>by
    have h1:=hall x hx hb;rw[heq]at h1;rcases Nat.lt_or_ge i listed.size with h'|h'
    ·simp[h']at cH h1;rw[cH]at h1;cases h1
    ·simp[Array.getElem?_eq_none h']at h1
   have h2:=wpOp_putIf dv (hfree j oj dv e cG hno) (fun cs b=>sel i oi cs b hi) (fun cs b=>sel j oj cs b dv) hQ hy (H.2 j (ready_mono hj e));refine wpOp_mono (fun a' w' h3=>?_) h2;have uQ:(listed.setIfInBounds j true).getD m true=false->S w':=fun h=>h3.2.1 (by rw[<-Array.setIfInBounds_comm _ _ e,getD_set_ne true hne];exact h);refine⟨uQ,ih (listed.setIfInBounds j true) a' w' (fun k ok hk ni hun hn=>hfree k ok hk ni ?_ hn) (ready_mono hr (Ne.symm e)) uQ h3.1 ?_⟩
   ·rcases Classical.em (j=k)with ek|ek
    ·subst ek;exact cG
    ·rw[getD_set_ne true ek]at hun;exact hun
   ·rw[Array.setIfInBounds_comm _ _ e];exact h3.2.2
def kU3 (ops:Array Oper)(m i:Nat):Bool:=match ops[m]? with
 |some o=>(o.after.toList.any fun e=>Region.binds .any e&&e.on==i)&& !(i==m)
 |none=>false
theorem kSw {i:Nat}(h:kU3 ops m i=true):∃om,ops[m]? =some om/\(∃e ∈ om.after,Region.binds .any e=true/\e.on=i)/\i≠m:=by
 unfold kU3 at h;split at h
 ·rename_i o ho
  rw[Bool.and_eq_true]at h;obtain⟨x,hx,hx2⟩:=List.any_eq_true.1 h.1;simp only[Bool.and_eq_true,beq_iff_eq]at hx2;exact⟨o,ho,⟨x,by simpa using hx,hx2.1,hx2.2⟩,by simpa using h.2⟩
 ·cases h
theorem kSe {i:Nat}{oi:Oper}(v:Value){n:Nat}{listed:Array Bool}{a:Act}{w:World}(hi:ops[i]? =some oi)(hs:Region.noSelect ops=true)(hz:kU3 ops m i=true)(hl:listed.getD m true=false)(hf:Region.free .any ops listed i=true)(hr:(Region.ready .any ops listed).contains i=true)
  (hQ:∀c a w,Q (.panic c) (a.put oi.dst v) w->Q (.panic c) a w) (hw:Region.wanted oi (yielded ops a.tmps)=true) (hy:∀w,S w->(execOp a.eval oi).run P w=.ok (.value v) w) (hS:S w)
  (h:kOk P ops Q S m n (listed.setIfInBounds i true) (a.put oi.dst v) w):kOk P ops Q S m (n+1) listed a w:=by
 obtain⟨om,hm,yV,hne⟩:=kSw hz;exact kW9 hi hs hm yV hne hQ n listed a w (Region.free_spec hi hf) (by simpa using hr) hl (.inl ⟨hw,hy⟩) hS h
theorem kOl {i:Nat}{oi:Oper}(v:Value){n:Nat}{listed:Array Bool}{a:Act}{w:World}(hi:ops[i]? =some oi)(hs:Region.noSelect ops=true)(hne:(!(i==m))=true)(hf:Region.free .any ops listed i=true)(hr:(Region.ready .any ops listed).contains i=true)
  (hQ:∀c a w,Q (.panic c) (a.put oi.dst v) w->Q (.panic c) a w) (hw:Region.wanted oi (yielded ops a.tmps)=true) (hy:∀w,(execOp a.eval oi).run P w=.ok (.value v) w) (hS:S w)
  (h:kOk P ops Q S m n (listed.setIfInBounds i true) (a.put oi.dst v) w):kOk P ops Q S m (n+1) listed a w:=
 kX0 hi hs (by simpa using hne) hQ n listed a w (Region.free_spec hi hf) (by simpa using hr) (fun _=>hS) (.inl ⟨hw,fun w _=>hy w⟩) h
theorem kX1 :∀{n:Nat}{listed:Array Bool}{a:Act}{w:World},listed.getD m true=true->zCu P ops Q (fun _=>True) (fun _=>false) n listed a w->kOk P ops Q S m n listed a w
 |0,_,_,_,_,h=>h
 | n +1,listed,_,_,hl,h=>⟨h.1,fun i hi=>wpOp_mono (fun a' w' h'=>by
   have h2:(listed.setIfInBounds i true).getD m true=true:=by
    rcases Classical.em (i=m)with e|e
    ·subst e;rcases Nat.lt_or_ge i listed.size with h3|h3
     ·simp[h3]
     ·simp[h3]
    ·rw[getD_set_ne true e];exact hl
   exact⟨fun h3=>(by rw[h2]at h3;cases h3),kX1 h2 h'.2⟩) (h.2 i hi)⟩
theorem kX2 {o:Oper}{n:Nat}{listed:Array Bool}{a:Act}{w:World}(hr:Region.ready .any ops listed=[m])(hi:ops[m]? =some o)(hl:(listed.setIfInBounds m true).getD m true=true)
  (h:∀K:Act->World->Prop,(∀a' w',zCu P ops Q (fun _=>True) (fun _=>false) n (listed.setIfInBounds m true) a' w'->K a' w')->if Region.wanted o (yielded ops a.tmps)=true then Oper.wp P o a w K Q else False):kOk P ops Q S m (n+1) listed a w:=by
 refine⟨fun e=>absurd (e.symm.trans hr) Kc,fun j hj=>?_⟩;rw[hr,List.mem_singleton]at hj;subst hj;have h1:=h (fun a' w'=>((listed.setIfInBounds j true).getD j true=false->S w')/\kOk P ops Q S j n (listed.setIfInBounds j true) a' w') (fun a' w' h2=>⟨fun h3=>(by rw[hl]at h3;cases h3),kX1 hl h2⟩);unfold wpOp;simp only[hi];split
 ·rename_i hw
  rw[if_pos hw]at h1;exact .inl h1
 ·rename_i hw
  rw[if_neg hw]at h1;exact h1.elim
theorem kU4 {id:Nat}{a:Act}{w:World}(hm:P.follows .mixedOrders=true)(h:kOk P ops Q S m ops.size (Array.replicate ops.size false) a w.drew):(Code.region id ops true).wp P Q a w:=
 wp_region_any hm (kTk _ _ _ _ h)
end
structure kNx where
 id:Int
 kind:Int
 aff:Int
 live:Bool
 p:List Int
 q:List Int×Int
 a:List Int×Int
 f:List Int×Int
def kX3 :kNx:=⟨0,0,0,false,[],([],0),([],0),([],0)⟩
def kWi (r:kNx):Bool:=decide (r.p.length<=50)&&(decide (r.q.1.length<=50)&&(decide (r.a.1.length<=50)&&decide (r.f.1.length<=50)))
theorem kV7 {r:kNx}(h:kWi r=true):r.p.length<=50/\r.q.1.length<=50/\r.a.1.length<=50/\r.f.1.length<=50:=by
 simpa[kWi,and_assoc]using h
def zP (p:List Int×Int):Bool:=samP p ([],0)
def chkR (n:NT)(r:kNx):Int:=
 if r.kind=1 then(if r.aff≠0∨zP r.q=false∨(zP r.a&&zP r.f)=false then 1 else(zGm n r.p).2)
 else if r.kind=2 then(if r.aff<0∨2<r.aff∨r.p.length≠0∨(zP r.a&&zP r.f)=false then 1 else zK6 n r.q)
 else if r.kind=3 then(if r.aff<0∨4<r.aff∨r.p.length≠0∨zP r.q=false then 1 else if zK6 n r.a≠0 then zK6 n r.a else zK6 n r.f)
 else 1
structure RC where
 id:Int
 kind:Int
 aff:Int
 live:Bool
 P:Option Addr
 np:Nat
 cp:Nat
 Q:Option Addr
 nq:Nat
 cq:Nat
 qo:Int
 A:Option Addr
 na:Nat
 ca:Nat
 ao:Int
 F:Option Addr
 nf:Nat
 cf:Nat
 fo:Int
def RC.row (c:RC):Array Value:=#[.int .i64 c.id,.int .i64 c.kind,.int .i64 c.aff,.bool c.live,.slice c.P c.np c.cp,.slice c.Q c.nq c.cq,.int .i64 c.qo,.slice c.A c.na c.ca,.int .i64 c.ao,.slice c.F c.nf c.cf,.int .i64 c.fo]
def RC.zero :RC:=⟨0,0,0,false,none,0,0,none,0,0,0,none,0,0,0,none,0,0,0⟩
theorem RC.one (c:RC):c.row.all (·.oneCell')=true:=Ka
theorem kOb :kC5 37 11:=⟨.struct (Tryz.prog.fieldsOf 37),by kernel_rfl,rfl,by kernel_rfl⟩
theorem kTl :kC5 29 2:=⟨.struct (Tryz.prog.fieldsOf 29),by kernel_rfl,rfl,by kernel_rfl⟩
structure kNz (w:World)(A:Option Addr)(n c:Nat)(l:List Int):Prop where
 len:l.length=n
 cap:n<=c
 max:n<=9223372036854775807
 il:IL w w.heap.size A l
theorem kNz.later {w w':World}{n c:Nat}{l:List Int}(h:kNz w A n c l)(hb:Below w.heap.size w w'):kNz w' A n c l:=⟨h.len,h.cap,h.max,h.il.later hb⟩
theorem kNz.nil (w:World):kNz w none 0 0 []:=⟨rfl,Nat.le_refl _,by decide,IL.nil _ _ _⟩
theorem kNz.pt {w:World}{n c:Nat}{p:List Int×Int}{o:Int}(h:kNz w A n c p.1)(ho:p.2=o)(hl:n<=10000000):zI4 w (.agg #[.slice A n c,.int .i64 o]) p:=⟨A,n,c,by rw[ho],h.len,hl,h.cap,h.il⟩
structure RkA (w:World)(c:RC)(r:kNx):Prop where
 hid:r.id=c.id
 hk:r.kind=c.kind
 ha:r.aff=c.aff
 hlv:r.live=c.live
 hp:kNz w c.P c.np c.cp r.p
 hq:kNz w c.Q c.nq c.cq r.q.1
 hqo:r.q.2=c.qo
 haa:kNz w c.A c.na c.ca r.a.1
 hao:r.a.2=c.ao
 hf:kNz w c.F c.nf c.cf r.f.1
 hfo:r.f.2=c.fo
 hkw:(Lit.int .i64 c.kind).wf=true
theorem RkA.later {w w':World}{c:RC}{r:kNx}(h:RkA w c r)(hb:Below w.heap.size w w'):RkA w' c r:=
 {h with hp:=h.hp.later hb,hq:=h.hq.later hb,haa:=h.haa.later hb,hf:=h.hf.later hb}
theorem RkA.zero (w:World):RkA w RC.zero kX3:=⟨rfl,rfl,rfl,rfl,kNz.nil _,kNz.nil _,rfl,kNz.nil _,rfl,kNz.nil _,rfl,rfl⟩
def cellsR (cs:List RC):List Value:=cs.flatMap fun c=>c.row.toList
theorem kOq (cs:List RC):(cellsR cs).length=cs.length*11:=by
 induction cs with
 |nil=>rfl
 |cons c r ih=>rw[cellsR,List.flatMap_cons,List.length_append,<-cellsR,ih,List.length_cons];show 11+_=_;omega
theorem kTx (c:RC):cellsR [c]=c.row.toList:=by simp[cellsR]
theorem kQy :∀{cs:List RC}{k:Nat}{c:RC},cs[k]? =some c->∀j v,c.row.toList[j]? =some v->(cellsR cs)[k*11+j]? =some v
 |[],_,_,h,_,_,_=>by simp at h
 |d::r,0,c,h,j,v,hv=>by
  simp only[List.getElem?_cons_zero,Option.some.injEq]at h;subst h;have hj:=(List.getElem?_eq_some_iff.1 hv).1;rw[cellsR,List.flatMap_cons,Nat.zero_mul,Nat.zero_add,List.getElem?_append_left hj];exact hv
 |d::r,k+1,c,h,j,v,hv=>by
  rw[List.getElem?_cons_succ]at h;have h2:=kQy h j v hv;rw[cellsR,List.flatMap_cons,List.getElem?_append_right (by show 11<=_;omega),show(k+1)*11+j-d.row.toList.length=k*11+j by show _-11=_;omega];exact h2
theorem kTy (cs:List RC):∀u ∈ cellsR cs,u.oneCell'=true:=fun u hu=>by
 obtain⟨c,_,hc⟩:=List.mem_flatMap.1 hu;exact Array.all_eq_true'.1 c.one u (by simpa using hc)
structure LR (w:World)(A:Option Addr)(cs:List RC)(us:List kNx):Prop where
 hv:VL w w.heap.size A (cellsR cs)
 hl:cs.length=us.length
 ha:∀(k:Nat)(c:RC)(a:kNx),cs[k]? =some c->us[k]? =some a->RkA w c a
theorem LR.later {w w':World}{cs:List RC}{us:List kNx}(h:LR w A cs us)(hb:Below w.heap.size w w'):LR w' A cs us:=
 ⟨h.hv.later hb,h.hl,fun k c a h1 h2=>(h.ha k c a h1 h2).later hb⟩
theorem LR.nil (w:World)(A:Option Addr):LR w A [] []:=⟨VL.nil _ _ _,rfl,fun k c a h=>by simp at h⟩
theorem LR.at_ {w:World}{cs:List RC}{us:List kNx}(h:LR w A cs us){k:Nat}(hk:k<us.length):
  ∃b o c a,A=some ⟨b,o,none⟩/\b<w.heap.size/\cs[k]? =some c/\us[k]? =some a/\RkA w c a/\w.rangeAt b (o+k*11) c.row.toList:=by
 have hk2:k<cs.length:=by rw[h.hl];exact hk
 have e1:cs[k]? =some cs[k]:=List.getElem?_eq_getElem hk2;have e2:us[k]? =some us[k]:=List.getElem?_eq_getElem hk;obtain⟨b,o,e,hb,hc⟩:=h.hv (fun e=>by have:=kOq cs;rw[e]at this;simp at this;omega);exact⟨b,o,cs[k],us[k],e,hb,e1,e2,h.ha k _ _ e1 e2,fun j v hv=>by rw[Nat.add_assoc];exact hc _ _ (kQy e1 j v hv)⟩
theorem jT.four {W:World}{g:Nat}{a b c d:Value}(h:jT t W g #[a,b,c,d]):W.cell? ⟨g,0,none⟩=some a/\W.cell? ⟨g,1,none⟩=some b/\W.cell? ⟨g,2,none⟩=some c/\W.cell? ⟨g,3,none⟩=some d:=⟨h.cell 0 _ rfl,h.cell 1 _ rfl,h.cell 2 _ rfl,h.cell 3 _ rfl⟩
theorem jT.eleven {W:World}{g:Nat}{c:RC}(h:jT t W g c.row):(W.cell? ⟨g,0,none⟩=some (.int .i64 c.id)/\W.cell? ⟨g,1,none⟩=some (.int .i64 c.kind)/\W.cell? ⟨g,2,none⟩=some (.int .i64 c.aff)/\W.cell? ⟨g,3,none⟩=some (.bool c.live))/\W.cell? ⟨g,4,none⟩=some (.slice c.P c.np c.cp)/\
  (W.cell? ⟨g,5,none⟩=some (.slice c.Q c.nq c.cq)/\W.cell? ⟨g,6,none⟩=some (.int .i64 c.qo))/\W.cell? ⟨g,7,none⟩=some (.slice c.A c.na c.ca)/\W.cell? ⟨g,8,none⟩=some (.int .i64 c.ao)/\W.cell? ⟨g,9,none⟩=some (.slice c.F c.nf c.cf)/\W.cell? ⟨g,10,none⟩=some (.int .i64 c.fo):=
 ⟨⟨h.cell 0 _ rfl,h.cell 1 _ rfl,h.cell 2 _ rfl,h.cell 3 _ rfl⟩,h.cell 4 _ rfl,⟨h.cell 5 _ rfl,h.cell 6 _ rfl⟩,h.cell 7 _ rfl,h.cell 8 _ rfl,h.cell 9 _ rfl,h.cell 10 _ rfl⟩
theorem kN3 (w:World)(c:RC):jT 37 (w.alloc (.cells c.row 37)) w.heap.size c.row/\Below w.heap.size w (w.alloc (.cells c.row 37)):=⟨jT.new w _ _,Kl.alloc Km _⟩
theorem kN1 {ops:Array Oper}{rest:List Oper}{op:Oper}{a:Act}{W:World}{Q:Exit->Act->World->Prop}{g:Nat}{old:Array Value}{c:RC}(x y:Operand)(ho:op.op=.store 37 x y)(hgd:op.guard=none)(hd:op.dst=none)(hx:a.eval x=.pointer (some ⟨g,0,none⟩))(hy:a.eval y=.agg c.row)(hg:W.heap.size=g)(hold:old.size=11)
  (hk:wpList Tryz.prog ops Q rest a (W.alloc (.cells c.row 37))):wpList Tryz.prog ops Q (op::rest) a (W.alloc (.cells old 37)):=by
 subst hg;obtain⟨d,h3,h4,h5⟩:=kOb;have hrun:=run_storeVar_row (P:=Tryz.prog) (W.alloc (.cells old 37)) W.heap.size 37 37 old c.row (heap_alloc_new _ _) h5 hold c.one;rw[zXk]at hrun;refine wpList_plain hgd fun K hK=>?_;unfold Oper.wp execOp;simp only[ho,hx,hy,Instr.storeAt,Instr.sureAddr,Sem.run_bind,Sem.run_pure,Result.andThen_ok,hrun];show K (a.put op.dst undef) _
 rw[hd];exact hK _ _ hk
theorem kU5 :(Tryz.prog.info? 37).map (fun i=>(i.zero,i.size,i.bytes))=some (some (.agg RC.zero.row),11,152):=Ka
theorem kYq :zQ7 42 37 11 152:=⟨Tryz.underlying42,by
 obtain⟨i0,hi,hz0,hz1,hz2⟩:=info_parts kU5;exact⟨i0,_,hi,hz0,hz1,hz2,rfl⟩,by decide⟩
theorem kXa {w:World}{b n size c:Nat}{xs:List Value}(h:w.ownsRow b t size (.slice A n c) n xs):n<=c/\VL w w.heap.size A xs:=by
 rcases h.2 with⟨e,_⟩|⟨g,cap,cur,e,hbg,hg,hnc,_,hsz,qu⟩
 ·injection e with e1 e2 e3;subst e1 e2 e3;exact⟨Nat.le_refl _,fun hn=>absurd (List.eq_nil_of_length_eq_zero (by have:=h.1;omega)) hn⟩
 ·injection e with e1 e2 e3;subst e1 e3;refine⟨hnc,fun _=>⟨g,0,rfl,(Array.getElem?_eq_some_iff.1 hg).1,fun k u hk=>?_⟩⟩;rw[<-qu,List.getElem?_take]at hk;split at hk
  ·simp only[World.cell?,hg,Nat.zero_add];simpa using hk
  ·cases hk
theorem kO0 {w W W':World}{o:Option Nat}(hb:Below w.heap.size w W)(g:W.grownBy W' o)(ho:∀j,o=some j->w.heap.size<=j):Below w.heap.size w W':=
 hb.trans ⟨g.os,g.tape,g.output,g.size,fun k hk=>g.block k (Nat.lt_of_lt_of_le hk hb.size) (fun e=>absurd (ho k e.symm) Kb)⟩
def RkL (w:World)(cs:List RC)(us:List kNx):Prop:=cs.length=us.length/\∀(k:Nat)(c:RC)(a:kNx),cs[k]? =some c->us[k]? =some a->RkA w c a
theorem RkL.later {w w':World}{cs:List RC}{us:List kNx}(h:RkL w cs us)(hb:Below w.heap.size w w'):RkL w' cs us:=⟨h.1,fun k c a h1 h2=>(h.2 k c a h1 h2).later hb⟩
theorem LR.rk {w:World}{cs:List RC}{us:List kNx}(h:LR w A cs us):RkL w cs us:=⟨h.hl,h.ha⟩
theorem RkL.one {w:World}{c:RC}{r:kNx}(h:RkA w c r):RkL w [c] [r]:=⟨rfl,fun j d a h1 h2=>by
 match j with
 |0=>
  simp only[List.getElem?_cons_zero,Option.some.injEq]at h1 h2;subst h1 h2;exact h
 |j+1=>simp at h1⟩
theorem RkL.lr {w:World}{cs:List RC}{us:List kNx}(h:RkL w cs us)(hv:VL w w.heap.size A (cellsR cs)):LR w A cs us:=⟨hv,h.1,h.2⟩
