import Derived.Test.YtmkciabefepelaaGreatJUChg
import Derived.Test.YtmkciabefepelaaGreatJUSplL
import Derived.Test.YtmkciabefepelaaGreatJUMerL
set_option maxRecDepth 100000
namespace Go.Proofs.YtmkciabefepelaaGreat
open Go.RowKit
variable {b c1 cp g1 gp:Nat}
theorem kFr {n:NT}(h:zAh n=0):zXd n=zG9 n:=by
 obtain⟨h1,h2⟩:=kX h;unfold zXd zG9;cases hl:n.lf with
 |true=>rw[if_pos rfl,h1 hl];simp
 |false=>rw[if_neg Kd,h2 hl];simp
section
variable {w:World}{c:NC}{o:OC}{n:NT}{a:OpP}{r:NT×Int}
theorem kEa (hn:kS w c n)(ho:OkA w o a)(ta:zAf a)(hs:sizeT n<=900)(hk:a.k=1)(hE:kB7 n a=r):Calls Tryz.prog 42 #[.agg c.row,.agg o.row] w (zAm w r):=by
 have ko:o.k=1:=by rw[<-ho.hk];exact hk
 unfold kB7 at hE;by_cases h0:zAd a.n=0
 ·rw[if_neg (by simp[h0])]at hE;exact kMu hn ho ta ko (fun W hb=>kFx (hn.later hb) (ho.later hb) ta ko h0) Kb hE
 ·rw[if_pos h0]at hE;subst hE;exact zKv hn ho ta (fun W hb=>kFx (hn.later hb) (ho.later hb) ta ko rfl) (by simpa using h0)
theorem kEb (hn:kS w c n)(ho:OkA w o a)(ta:zAf a)(hk:a.k=2)(hE:zVk n a=r):Calls Tryz.prog 42 #[.agg c.row,.agg o.row] w (zAm w r):=by
 have ko:o.k=2:=by rw[<-ho.hk];exact hk
 unfold zVk at hE;rcases zH1 n a.q with⟨hq,e⟩|⟨hq,hg,e⟩|⟨m,x,hq,hg,e,em⟩
 ·rw[e,if_pos Kd]at hE;subst hE;exact zKv hn ho ta (fun W hb=>kIt (hn.later hb) (ho.later hb) ta ko (by rw[<-ho.hlq];exact hq)) Kd
 ·rw[e,if_pos Kd]at hE;subst hE;exact zKv hn ho ta (fun W hb=>kFy (hn.later hb) (ho.later hb) ta ko (by rw[<-ho.hlq];exact hq) hg) Kd
 ·rw[e,em,if_neg Kc]at hE;have hm:=fun(W:World)(hb:Below w.heap.size w W)=>kFy (hn.later hb) (ho.later hb) ta ko (by rw[<-ho.hlq];exact hq) (kP hg);by_cases h:eqT m a.n=true
  ·rw[if_pos h]at hE;subst hE;have h':eqT a.n m=true:=zPc ((zIw _ _).1 h).symm;exact kK6 hn ho ta ko hm (fun W d hb hd=>zXa (hn.later hb) (ho.later hb) ta hd h' e em)
  ·rw[if_neg h]at hE;subst hE;have h':eqT a.n m=false:=by cases h2:eqT a.n m with|false=>rfl|true=>exact absurd (zPc ((zIw _ _).1 h2).symm) h
   exact kK6 hn ho ta ko hm (fun W d hb hd=>kAx (hn.later hb) (ho.later hb) ta hd h')
theorem kEc (hn:kS w c n)(ho:OkA w o a)(ta:zAf a)(hc:zAh n=0)(hs:sizeT n<=900)(hk:a.k=3)(hE:kBo n a=r):Calls Tryz.prog 42 #[.agg c.row,.agg o.row] w (zAm w r):=by
 have ko:o.k=3:=by rw[<-ho.hk];exact hk
 unfold kBo at hE;rcases zH1 n a.q with⟨hq,e⟩|⟨hq,hg,e⟩|⟨m,x,hq,hg,e,em⟩
 ·rw[e,if_pos Kd]at hE;subst hE;exact zKv hn ho ta (fun W hb=>kIu (hn.later hb) (ho.later hb) ta ko (by rw[<-ho.hlq];exact hq)) Kd
 ·rw[e,if_pos Kd]at hE;subst hE;exact zKv hn ho ta (fun W hb=>kFz (hn.later hb) (ho.later hb) ta ko (by rw[<-ho.hlq];exact hq) hg) Kd
 ·rw[e,em,if_neg Kc]at hE;have hm:=fun(W:World)(hb:Below w.heap.size w W)=>kFz (hn.later hb) (ho.later hb) ta ko (by rw[<-ho.hlq];exact hq) (kP hg);obtain⟨⟨q2,er⟩,hbk⟩:∃b,jV a.q=b:=⟨_,rfl⟩;rw[hbk]at hE;by_cases h0:er=0
  case neg=>
   rw[if_pos h0]at hE;have h8:er=8:=by have:=kEk hq (by rw[hbk];exact h0);rw[hbk]at this;exact this
   subst hE;subst h8;exact zPr hn ho ta ko hm (fun W d hb hd=>zXm (hn.later hb) (ho.later hb) ta hd hbk Kd)
  subst h0;rw[if_neg Kc]at hE;obtain⟨b,hb1,hb2⟩:=kLb hq hg hbk;rw[e]at hb2;dsimp only at hE;rw[kP hb2]at hE;have hin:=zP7 ho.hiq ta.hq;rw[hbk]at hin;have hcm:=zA6 n a.q m hc hg;have hcb:=zA6 n q2 b hc hb1;have hsm:=zPt hg;have bR:=zPt hb1;obtain⟨v1,v2⟩:=kX hcm;obtain⟨u1,u2⟩:=kX hcb;have hlb:=kFr hcb;unfold kLk at hE;dsimp only at hE;by_cases h1:b.lf=m.lf
  case neg=>
   rw[if_pos h1]at hE;subst hE;cases hx:b.lf with
   |true=>
    have hy:m.lf=false:=by cases h2:m.lf with|false=>rfl|true=>exact absurd (hx.trans h2.symm) h1
    exact zPr hn ho ta ko hm (fun W d hb hd=>kBl (hn.later hb) (ho.later hb) ta hd hbk hin.1 hin.2 (kP hb1) hx hy)
   |false=>
    have hy:m.lf=true:=by cases h2:m.lf with|true=>rfl|false=>exact absurd (hx.trans h2.symm) h1
    exact zPr hn ho ta ko hm (fun W d hb hd=>kBm (hn.later hb) (ho.later hb) ta hd hbk hin.1 hin.2 (kP hb1) hx hy)
  rw[if_neg (by simp[h1])]at hE;by_cases h2:zG9 b=a.z
  case neg=>
   rw[if_pos h2]at hE;subst hE;have z0:o.z≠zG9 b:=fun e=>h2 (by rw[ho.hz,e]);have z1:(o.z==zG9 b)=false:=by simpa using z0
   have z2:(o.z !=zG9 b)=true:=by simpa using z0
   cases hx:b.lf with
   |true=>exact zPr hn ho ta ko hm (fun W d hb hd=>kE1 (hn.later hb) (ho.later hb) ta hd hbk hin.1 hin.2 (kP hb1) hx (by rw[<-h1];exact hx) hlb z1 z2)
   |false=>exact zPr hn ho ta ko hm (fun W d hb hd=>kE3 (hn.later hb) (ho.later hb) ta hd hbk hin.1 hin.2 (kP hb1) hx (by rw[<-h1];exact hx) hlb z1 z2)
  rw[if_neg (by simp[h2])]at hE;have z0:o.z=zG9 b:=by rw[<-ho.hz];exact h2.symm
  have z1:(o.z==zG9 b)=true:=by simpa using z0
  have z2:(o.z !=zG9 b)=false:=by simpa using z0
  by_cases h3:m.ps=a.o
  case neg=>
   rw[if_pos h3]at hE;subst hE;have aN:decide (a.o=m.ps)=false:=decide_eq_false fun e=>h3 e.symm;cases hx:b.lf with
   |true=>exact zPr hn ho ta ko hm (fun W d hb hd=>kE2 (hn.later hb) (ho.later hb) ta hd hbk hin.1 hin.2 (kP hb1) hx (by rw[<-h1];exact hx) hlb z1 z2 aN)
   |false=>exact zPr hn ho ta ko hm (fun W d hb hd=>kE4 (hn.later hb) (ho.later hb) ta hd hbk hin.1 hin.2 (kP hb1) hx (by rw[<-h1];exact hx) hlb z1 z2 aN)
  rw[if_neg (by simp[h3])]at hE;have aN:decide (a.o=m.ps)=true:=decide_eq_true h3.symm;have hp:zSe x q2 (zAo b m)=r:=by rw[zR5 hb2];exact hE
  cases hx:b.lf with
  |true=>exact zPr hn ho ta ko hm (fun W d hb hd=>kA1 (hn.later hb) (ho.later hb) ta hd hbk hin.1 hin.2 (kP hb1) hx (by rw[<-h1];exact hx) hlb z1 z2 aN (u1 hx) (v1 (by rw[<-h1];exact hx)) Kb e em hp)
  |false=>exact zPr hn ho ta ko hm (fun W d hb hd=>kA2 (hn.later hb) (ho.later hb) ta hd hbk hin.1 hin.2 (kP hb1) hx (by rw[<-h1];exact hx) hlb z1 z2 aN (u2 hx) (v2 (by rw[<-h1];exact hx)) Kb e em hp)
theorem kEd (hn:kS w c n)(ho:OkA w o a)(ta:zAf a)(hc:zAh n=0)(hs:sizeT n<=900)(hk:a.k=4)(hE:kBp n a=r):Calls Tryz.prog 42 #[.agg c.row,.agg o.row] w (zAm w r):=by
 have ko:o.k=4:=by rw[<-ho.hk];exact hk
 unfold kBp at hE;by_cases hw:chk a.w=0
 case neg=>
  rw[if_pos hw]at hE;subst hE;exact zKv hn ho ta (fun W hb=>kIs (hn.later hb) (ho.later hb) ta ko rfl (by simpa using hw)) (by simpa using hw)
 rw[if_neg (by simp[hw])]at hE;rcases zH1 n a.q with⟨hq,e⟩|⟨hq,hg,e⟩|⟨m,x,hq,hg,e,em⟩
 ·rw[e,if_pos Kd]at hE;subst hE;exact zKv hn ho ta (fun W hb=>kIv (hn.later hb) (ho.later hb) ta ko hw (by rw[<-ho.hlq];exact hq)) Kd
 ·rw[e,if_pos Kd]at hE;subst hE;exact zKv hn ho ta (fun W hb=>kF0 (hn.later hb) (ho.later hb) ta ko hw (by rw[<-ho.hlq];exact hq) hg) Kd
 ·rw[e,em,if_neg Kc]at hE;have hm:=fun(W:World)(hb:Below w.heap.size w W)=>kF0 (hn.later hb) (ho.later hb) ta ko hw (by rw[<-ho.hlq];exact hq) (kP hg);have hcm:=zA6 n a.q m hc hg;have hlm:=kFr hcm;have hsm:=zPt hg;unfold kLl at hE;by_cases h0:o.z<0
  ·rw[if_pos (.inl (by rw[ho.hz];exact h0))]at hE;subst hE;exact kD9 hn ho ta ko hm (fun W d hb hd=>kA8 (hn.later hb) (ho.later hb) ta hd (decide_eq_true h0))
  by_cases h1:zG9 m<o.z
  ·rw[if_pos (.inr (by rw[ho.hz];exact h1))]at hE;subst hE;exact kD9 hn ho ta ko hm (fun W d hb hd=>zXe (hn.later hb) (ho.later hb) ta hd (decide_eq_false h0) hlm (decide_eq_true h1))
  rw[if_neg (by rw[ho.hz];omega),ho.hz]at hE;obtain⟨⟨q2,er⟩,hnx⟩:∃b,zBg a.q=b:=⟨_,rfl⟩;have her:er=0:=by have:=kIc hq hg (by omega:sizeT n<=100000);rw[hnx]at this;exact this
  subst her;rw[hnx]at hE;dsimp only at hE;have hin:=zP8 ho.hiq ta.hq;rw[hnx]at hin;obtain⟨k,hz⟩:∃k:Nat,o.z=(k:Int):=⟨o.z.toNat,by omega⟩;have De:o.z.toNat=k:=Kb;rw[De]at hE;have hput:=zR5 (m:=jN m k) hg;have sV:sizeT (putT n a.q (jN m k))<=100000:=by
   have h2:=zBo n a.q (jN m k) m hg;have h3:=zGv m k [];omega
  cases hx:m.lf with
  |true=>
   have hlen:k<=m.tx.length:=by have:=(kX hcm).1 hx;unfold zG9 at h1;rw[this]at h1;simp at h1;omega
   exact kD9 hn ho ta ko hm (fun W d hb hd=>zXn (hn.later hb) (ho.later hb) ta hd (decide_eq_false h0) hz (by rw[<-hd.parts.nt];exact hlen) hlm (decide_eq_false h1) hnx hin.1 hin.2 (by rw[<-hd.lf];exact hx) hx hput sV hE)
  |false=>
   have hlen:k<=m.ks.length:=by have:=(kX hcm).2 hx;unfold zG9 at h1;rw[this]at h1;simp at h1;omega
   exact kD9 hn ho ta ko hm (fun W d hb hd=>kEl (hn.later hb) (ho.later hb) ta hd (decide_eq_false h0) hz (by rw[<-hd.parts.nk];exact hlen) hlm (decide_eq_false h1) hnx hin.1 hin.2 (by rw[<-hd.lf];exact hx) hx hput sV hE)
theorem kEe (hn:kS w c n)(ho:OkA w o a)(ta:zAf a)(hs:sizeT n<=900)(hk:a.k=5)(hE:zVl n a=r):Calls Tryz.prog 42 #[.agg c.row,.agg o.row] w (zAm w r):=by
 have ko:o.k=5:=by rw[<-ho.hk];exact hk
 unfold zVl at hE;rcases zH1 n a.q with⟨hq,e⟩|⟨hq,hg,e⟩|⟨m,x,hq,hg,e,em⟩
 ·rw[e,if_pos Kd]at hE;subst hE;exact zKv hn ho ta (fun W hb=>kIw (hn.later hb) (ho.later hb) ta ko (by rw[<-ho.hlq];exact hq)) Kd
 ·rw[e,if_pos Kd]at hE;subst hE;exact zKv hn ho ta (fun W hb=>kF1 (hn.later hb) (ho.later hb) ta ko (by rw[<-ho.hlq];exact hq) hg) Kd
 ·rw[e,em,if_neg Kc]at hE;have:=kLc e;exact kMv hn ho ta ko (fun W hb=>kF1 (hn.later hb) (ho.later hb) ta ko (by rw[<-ho.hlq];exact hq) (kP hg)) e em Kb hE
theorem kEf (hn:kS w c n)(ho:OkA w o a)(ta:zAf a)(hk:a.k=6)(hE:setO n a=r):Calls Tryz.prog 42 #[.agg c.row,.agg o.row] w (zAm w r):=by
 have ko:o.k=6:=by rw[<-ho.hk];exact hk
 unfold setO at hE;by_cases hq:a.q.length=0
 ·rw[if_pos hq]at hE;subst hE;exact zKv hn ho ta (fun W hb=>kIx (hn.later hb) (ho.later hb) ta ko (by rw[<-ho.hlq];exact hq)) Kd
 rw[if_neg hq]at hE;have hl:o.lq≠0:=by rw[<-ho.hlq];exact hq
 cases hg:kB n a.q with
 |none=>
  rw[zB2 hg,if_pos Kd]at hE;subst hE;exact zKv hn ho ta (fun W hb=>kF2 (hn.later hb) (ho.later hb) ta ko hl (zB2 hg)) Kd
 |some m=>
  rw[kP hg,if_neg Kc]at hE;have hm:=fun(W:World)(hb:Below w.heap.size w W)=>kF2 (hn.later hb) (ho.later hb) ta ko hl (kP hg);unfold set2 at hE;by_cases h0:PE m.ps a.o a.w=0
  ·rw[if_neg (by simp[h0])]at hE;subst hE;have sW:=zPj.1 h0;have hL:=sW.list;exact kK7 hn ho ta ko hm (fun W d hb hd=>kIa (hn.later hb) (ho.later hb) ta hd (by rw[h0,hL]) sW.may (zR5 hg))
  ·rw[if_pos h0]at hE;subst hE;exact kK7 hn ho ta ko hm (fun W d hb hd=>kK8 (hn.later hb) (ho.later hb) ta hd rfl (by simpa using h0))
theorem zR3 (hn:kS w c n)(ho:OkA w o a)(ta:zAf a)(hs:sizeT n<=900)(del:Bool)(hk:a.k=if del then 8 else 7)(hE:zP1 n a (fun r=>if del then zFe r a.z a.x else zFx r a.z a.x)=r):Calls Tryz.prog 42 #[.agg c.row,.agg o.row] w (zAm w r):=by
 unfold zP1 at hE;have hme:∀(r:NT×Int),zGm n a.q=r->∀W,Below w.heap.size w W->Calls Tryz.prog 79 #[.agg c.row,.agg o.row] W (zEi W r):=fun r hr W hb=>by
  cases del with
  |true=>exact kLj (hn.later hb) (ho.later hb) ta (by rw[<-ho.hk];exact hk) hr
  |false=>exact kLi (hn.later hb) (ho.later hb) ta (by rw[<-ho.hk];exact hk) hr
 have hch:∀{mt:NT}{r:NT×Int},(∀W,Below w.heap.size w W->Calls Tryz.prog 79 #[.agg c.row,.agg o.row] W (zEi W (mt,0)))->(∀W m,Below w.heap.size w W->kS W m mt->Calls Tryz.prog 86 #[.agg c.row,.agg o.row,.agg m.row] W (zAm W r))->Calls Tryz.prog 42 #[.agg c.row,.agg o.row] w (zAm w r):=fun h1 h2=>by
  cases del with
  |true=>exact kMt hn ho ta (by rw[<-ho.hk];exact hk) h1 h2
  |false=>exact kMs hn ho ta (by rw[<-ho.hk];exact hk) h1 h2
 cases hg:kB n a.q with
 |none=>
  rw[zB2 hg,if_pos Kd]at hE;subst hE;exact zKv hn ho ta (hme _ (zB2 hg)) Kd
 | some m=>
  rw[kP hg,if_neg Kc]at hE;have hm:=hme _ (kP hg);have hsm:=zPt hg;dsimp only at hE;cases dA:m.lf with
  |false=>
   rw[if_pos dA]at hE;subst hE;exact hch hm (fun W d hb hd=>kA4 (hn.later hb) (ho.later hb) ta hd (by rw[<-hd.lf];exact dA))
  | true=>
   rw[if_neg (by simp[dA])]at hE;unfold kI0 at hE;have iW:sizeT m<=900:=Kb;have EE:m.tx.length<=900:=by have:=jC m;omega
   have EF:=ta.hx;cases del with
   |true=>
    have k8:(o.k==8)=true:=by rw[<-ho.hk,hk];rfl
    simp only[if_true]at hE;obtain⟨⟨L,er⟩,hr⟩:∃b,zFe m.tx a.z a.x=b:=⟨_,rfl⟩;rw[hr]at hE;by_cases h0:er=0
    ·subst h0;rw[if_neg Kc]at hE;subst hE;have hll:L.length<=35184372088832:=by have:=zKj hr;omega
     exact hch hm (fun W d hb hd=>zNm (hn.later hb) (ho.later hb) ta hd (by rw[<-hd.lf];exact dA) k8 iW hr hll (zR5 hg))
    ·rw[if_pos h0]at hE;subst hE;exact hch hm (fun W d hb hd=>zPw (hn.later hb) (ho.later hb) ta hd (by rw[<-hd.lf];exact dA) k8 iW hr (by simpa using h0))
   |false=>
    have k8:(o.k==8)=false:=by rw[<-ho.hk,hk];rfl
    simp only[Bool.false_eq_true,if_false]at hE;obtain⟨⟨L,er⟩,hr⟩:∃b,zFx m.tx a.z a.x=b:=⟨_,rfl⟩;rw[hr]at hE;by_cases h0:er=0
    ·subst h0;rw[if_neg Kc]at hE;subst hE;have hll:L.length<=35184372088832:=by have:=zKi hr;omega
     exact hch hm (fun W d hb hd=>zNl (hn.later hb) (ho.later hb) ta hd (by rw[<-hd.lf];exact dA) k8 iW hr hll (zR5 hg))
    ·rw[if_pos h0]at hE;subst hE;exact hch hm (fun W d hb hd=>zPv (hn.later hb) (ho.later hb) ta hd (by rw[<-hd.lf];exact dA) k8 iW hr (by simpa using h0))
theorem kAy (hn:kS w c n)(ho:OkA w o a)(ta:zAf a)(hc:zAh n=0)(hs:sizeT n<=900)(h1:1<=a.k)(h8:a.k<=8)(hE:doO n a=r):Calls Tryz.prog 42 #[.agg c.row,.agg o.row] w (zAm w r):=by
 rcases(show a.k=1∨a.k=2∨a.k=3∨a.k=4∨a.k=5∨a.k=6∨a.k=7∨a.k=8 by omega)with e|e|e|e|e|e|e|e
 ·exact kEa hn ho ta hs e (by rw[<-kKb e];exact hE)
 ·exact kEb hn ho ta e (by rw[<-kM0 e];exact hE)
 ·exact kEc hn ho ta hc hs e (by rw[<-kM1 e];exact hE)
 ·exact kEd hn ho ta hc hs e (by rw[<-kLm e];exact hE)
 ·exact kEe hn ho ta hs e (by rw[<-kLn e];exact hE)
 ·exact kEf hn ho ta e (by rw[<-kLo e];exact hE)
 ·exact zR3 hn ho ta hs false e (by rw[<-hE,kLp e];rfl)
 ·exact zR3 hn ho ta hs true e (by rw[<-hE,kLq e];rfl)
end
theorem kAz {s:Sl}(h1:s.a.1.length<=60)(h2:s.f.1.length<=60):fewS s=true:=by unfold fewS;rw[decide_eq_true h1,decide_eq_true h2];rfl
theorem zR4 (s t:Sl):zF7 s t=zF7 t s:=by
 cases h:zF7 s t with
 |true=>exact((zC4 t s).2 ((zC4 s t).1 h).symm).symm
 |false=>
  cases h2:zF7 t s with
  |false=>rfl
  |true=>rw[(zC4 s t).2 ((zC4 t s).1 h2).symm]at h;cases h
theorem zA4 {w:World}{c:NC}{s:SC}{o:OC}{n:NT}{sl:Sl}{a:OpP}(hn:kS w c n)(hs:zB1 w s sl)(ho:OkA w o a)(hr:zRb n sl a){r:(NT×Sl)×Int}(hE:jL n sl a=r):Calls Tryz.prog 13 #[.agg c.row,.agg s.row,.agg o.row] w (zTd w r):=by
 have ta:=hr.tiny;have hf:=hr.sel;have hff:=kAz ta.hfa ta.hff;have nK:=kAz ta.hga ta.hgf;obtain⟨l1,l2⟩:=hs.len hf;by_cases h0:zG7 n sl a=0
 case neg=>
  have:r=((zeroT,zeroS),zG7 n sl a):=by
   rw[<-hE];unfold jL;unfold zG7 at h0⊢;by_cases h1:zAd n=0
   case neg=>rw[if_pos h1,if_pos h1]
   have h1':¬zAd n≠0:=by simp[h1]
   simp only[if_neg h1']at h0⊢;by_cases h2:n.lf=true
   ·simp only[if_pos h2]
   simp only[if_neg h2]at h0⊢;by_cases h3:zE8 n sl=0
   case neg=>simp only[if_pos (show zE8 n sl≠0 from h3)]
   have h3':¬zE8 n sl≠0:=by simp[h3]
   simp only[if_neg h3']at h0⊢;rw[if_pos h0]
  rw[this];exact kAu hn hs ho hf ta rfl (by simpa using h0)
 have gL:=h0;unfold zG7 at h0;unfold jL at hE;by_cases h1:zAd n=0
 case neg=>rw[if_pos h1]at h0;exact absurd h0 h1
 rw[if_neg (by simp[h1])]at h0 hE;by_cases h2:n.lf=true
 ·rw[if_pos h2]at h0;cases h0
 rw[if_neg h2]at h0 hE;by_cases h3:zE8 n sl=0
 case neg=>rw[if_pos h3]at h0;exact absurd h0 h3
 rw[if_neg (by simp[h3])]at h0 hE;rw[if_neg (by simp[h0])]at hE;have hk:=(zOy h0).1;simp only[kindB,Bool.and_eq_true,decide_eq_true_iff]at hk;have hc:=zC1 h1;by_cases h9:a.k=9
 ·rw[if_pos h9]at hE;have k9:(o.k==9)=true:=by rw[<-ho.hk,h9];rfl
  refine kH4 hn hs ho hf ta gL k9 (fun W hb=>?_);by_cases h5:zF7 sl a.f=false
  ·rw[if_pos h5]at hE;subst hE;exact kAt (hn.later hb) (hs.later hb) (ho.later hb) hf ta hff (by rw[zR4];exact h5)
  rw[if_neg h5]at hE;have uD:zF7 a.f sl=true:=by rw[zR4];simpa using h5
  by_cases h6:zE8 n a.g=0
  ·rw[if_neg (by simp[h6])]at hE;subst hE;have hg:=ho.hg;exact zW4 (hn.later hb) (hs.later hb) (ho.later hb) hf ta hff nK uD h6 (by have:=ta.hga;have:=hg.hn;omega) (by have:=ta.hgf;have:=hg.hm;omega)
  ·rw[if_pos h6]at hE;subst hE;exact zW3 (hn.later hb) (hs.later hb) (ho.later hb) hf ta hff nK uD rfl (by simpa using h6)
 ·rw[if_neg h9]at hE;have k9:(o.k==9)=false:=by rw[<-ho.hk];simpa using h9
  obtain⟨⟨x,er⟩,hd⟩:∃r,doO n a=r:=⟨_,rfl⟩;have hch:=fun(W:World)(hb:Below w.heap.size w W)=>kAy (hn.later hb) (ho.later hb) ta hc (hr.size hc) hk.1 Kb hd;rw[hd]at hE;by_cases h7:er=0
  case neg=>
   rw[if_pos h7]at hE;subst hE;exact kH5 hn hs ho hf ta gL k9 hch (by simpa using h7)
  subst h7;rw[if_neg Kc]at hE;have e8:=hs.his;cases hi:sl.is with
  |false=>
   rw[if_neg (by simp[hi])]at hE;subst hE;exact zTt hn hs ho hf ta gL k9 hch (by rw[<-e8];exact hi) Kb Kb
  |true=>
   cases hst:zBl sl.a a&&zBl sl.f a with
   |false=>
    rw[if_pos (by rw[hi,hst];rfl)]at hE;subst hE;exact kD6 hn hs ho hf ta gL k9 hch (by rw[<-e8];exact hi) hst
   |true=>
    rw[if_neg (by rw[hi,hst];decide)]at hE;subst hE;exact kAv hn hs ho hf ta gL k9 hch (by rw[<-e8];exact hi) Kb Kb hst
def kK9 :NT:=elT [lfT [97,98,99]]
def zJ3 :OpP:=⟨4,[0],[],1,zeroT,[],[],[],zeroS,zeroS⟩
def kFs (b:Nat):OC:=⟨4,some ⟨b,0,none⟩,1,1,none,0,0,1,false,none,0,0,none,0,0,none,0,0,none,0,0,none,0,0,none,0,0,false,none,0,0,0,none,0,0,0,false,none,0,0,0,none,0,0,0⟩
theorem kEg :InI [0]:=fun x hx=>by
 obtain rfl:x=0:=by simpa using hx
 decide
theorem kEh {w:World}(hb:b<w.heap.size)(hc:w.cell? ⟨b,0,none⟩=some (.int .i64 0)):OkA w (kFs b) zJ3:=
 (((OkA.zero w).setK (k:=4) (by unfold zFf;omega)).setQ (A:=some ⟨b,0,none⟩) (n:=1) (d:=1) (l:=[0]) rfl Kb Kb (kHt hb hc) kEg).setZ 1
theorem zXb :zCx zJ3=0:=by
 rw[zL8];have h1:kindB zJ3.k=true:=by decide
 have h2:eqO (fieldsO zJ3) zJ3=true:=zSw rfl;rw[h1,h2];rfl
theorem kEi :doO kK9 zJ3=(elT [lfT [97],lfT [98,99]],0):=by
 unfold doO;rw[if_neg Kd,if_neg Kd,if_neg Kd,if_pos (show zJ3.k=4 from rfl)];kernel_rfl
theorem zTv :jL kK9 zeroS zJ3=((elT [lfT [97],lfT [98,99]],zeroS),0):=
 zQ8 (zO5 Ka Kd) rfl rfl zXb Kd kEi (fun h=>by cases h)
theorem zTw :zRb kK9 zeroS zJ3:=⟨by decide,⟨by decide,by decide,by decide,by decide,by decide,by decide,by decide,by decide,by decide⟩,fun _=>by decide,fun _=>by decide⟩
theorem kA0 :Conv.runesFrom {data:=#[97,98,99]} (ByteArray.size {data:=#[97,98,99]}) 0 #[]=(rv [97,98,99]).toArray:=Ka
theorem kLa {w:World}(dt:1<=cp)(hc1:3<=c1)(hp:PL w w.heap.size (some ⟨gp,0,none⟩) [(tyKey,{data:=#[112]})])(h1:VL w w.heap.size (some ⟨g1,0,none⟩) (rv [97,98,99]))(hb:b<w.heap.size)
  (hc:∀j u,#[Value.bool true,.slice none 0 0,.slice (some ⟨g1,0,none⟩) 3 c1,.slice none 0 0][j]? =some u->w.cell? ⟨b,j,none⟩=some u):
  zV 2 w w.heap.size (.agg #[.bool false,.slice (some ⟨gp,0,none⟩) 1 cp,.slice none 0 0,.slice (some ⟨b,0,none⟩) 1 1]) kK9:=by
 refine zV.shut rfl rfl rfl hp (VL.nil _ _ _) (kKs dt Kd Kd) (fun k m hk=>?_);match k,hk with
 |0,hk=>
  simp at hk;subst hk;exact⟨b,0,_,rfl,hb,zS9 rfl Kc hc1 h1,_,_,_,_,rfl,hc 0 _ rfl,hc 1 _ rfl,hc 2 _ rfl,hc 3 _ rfl⟩
 |k+1,hk=>simp at hk
def NC.abc (gp cp b:Nat):NC:=⟨false,some ⟨gp,0,none⟩,1,cp,none,0,0,some ⟨b,0,none⟩,1,1⟩
def SC.none_ :SC:=⟨false,none,0,0,0,none,0,0,0⟩
theorem kEj (w:World):zB1 w SC.none_ zeroS:=zIi.zero w
theorem kIb {w:World}(dt:1<=cp)(hc1:3<=c1)(hp:PL w w.heap.size (some ⟨gp,0,none⟩) [(tyKey,{data:=#[112]})])(h1:VL w w.heap.size (some ⟨g1,0,none⟩) (rv [97,98,99]))(hb:b<w.heap.size)
  (hc:∀j u,#[Value.bool true,.slice none 0 0,.slice (some ⟨g1,0,none⟩) 3 c1,.slice none 0 0][j]? =some u->w.cell? ⟨b,j,none⟩=some u):kS w (NC.abc gp cp b) kK9:=⟨2,kLa dt hc1 hp h1 hb hc⟩
set_option maxHeartbeats 8000000 in
theorem jG (w:World):Calls Tryz.prog 10 #[] w (jA (.bool true) w):=by
 have HF:=hd zTw;have HE:=hd zTv;go_enter Tryz.func10,Tryz.ntmps10
 go_upto_region 2 with(first
  |(go_at_call 35;refine(zO4 {data:=#[97,98,99]} [97,98,99] 3 rfl kA0 Kb _).mono ?_;rintro e w1 ⟨g1,c1,rfl,v1,b1,hc1⟩;have V1:=hd v1;have B1:=hd b1;clear v1 b1)
  |(go_at_call 34;refine(kFh _ _ _ _).mono ?_;rintro e w4 ⟨gp,cp,rfl,v3,b3,dt⟩;have B3:=hd (zEu b3);have HN:=hd (kIb dt hc1 v3 (V1.o.later (zEu b3)) (b:=w1.heap.size) (kJ9 b3) (fun j u hj=>(b3.cell Kc).trans ((World.cell?_alloc_at _ _ _ _ rfl).trans hj)));clear v3 b3 dt hc1 V1)
  |(go_at_call 13;refine Calls.mono (zA4 (c:=NC.abc gp cp w1.heap.size) (s:=SC.none_) (o:=kFs w4.heap.size) (HN.o.later (zQ w4 _)) (kEj _) (kEh Kc ((World.cell?_alloc_at _ _ _ _ rfl).trans rfl)) HF.o HE.o) ?_;rintro e w5 ⟨ca,ct,rfl,nL,hsa,b9⟩;have nM:=hd nL;have B5:=hd (zEu b9);clear b9 nL hsa HN;dsimp only)
  |((with_reducible refine zF (ty:=26) (x:=.tmp 1) ?_);refine zA zD (r:=ca.row) (zDj w5) rfl rfl ca.one _ _ rfl rfl rfl rfl rfl ?_;intro W7 bT bw;have cT:=hd bT;have HT:=hd (zDk bw);clear bT bw)
  |((with_reducible refine zF (ty:=33) (x:=.tmp 2) ?_);refine zA zP (r:=ct.row) HT.o.2 rfl rfl ct.one _ _ rfl rfl rfl rfl rfl ?_;intro W0 bU bE;have cU:=hd (zDl HT.o.1 bE);have cT:=hd (cT.o.off bE Kb);clear bU bE))
 have ay:=hd (show Below w.heap.size w W0 from zI (zI (zI B1.o B3.o) B5.o) cU.o);have l8:=hd (nM.o.later cU.o);clear nM B1 B3 B5 cU HT HF HE;obtain⟨g,hg⟩:∃g,w5.heap.size=g:=⟨_,rfl⟩;rw[hg]at cT;try rw[hg]
 clear hg;have dB:=hd (show∀W,Below W0.heap.size W0 W->(Below W0.heap.size W0 W/\W.cell? ⟨g,0,none⟩=some (.bool ca.lf)/\W.cell? ⟨g,1,none⟩=some (.slice ca.P ca.np ca.pc)/\W.cell? ⟨g,2,none⟩=some (.slice ca.X ca.nt ca.tc)/\W.cell? ⟨g,3,none⟩=some (.slice ca.K ca.nk ca.kc))from fun W h=>⟨h,(cT.o.keep h).cell 0 _ rfl,(cT.o.keep h).cell 1 _ rfl,(cT.o.keep h).cell 2 _ rfl,(cT.o.keep h).cell 3 _ rfl⟩);have oO:=hd (dB.o W0.drew Kl.drew);clear cT;go_region_held3(fun W=>Below W0.heap.size W0 W/\W.cell? ⟨g,0,none⟩=some (.bool ca.lf)/\W.cell? ⟨g,1,none⟩=some (.slice ca.P ca.np ca.pc)/\W.cell? ⟨g,2,none⟩=some (.slice ca.X ca.nt ca.tc)/\W.cell? ⟨g,3,none⟩=some (.slice ca.K ca.nk ca.kc))
  (first
   |(with_reducible exact qP)
   |(with_reducible exact mH)
   |(with_reducible exact xa)
   |(with_reducible exact wY)
   |(with_reducible exact qZ)
   |(with_reducible exact oO.o))
  (first
   |(go_at_call 15;refine Calls.mono (zHo (c':=⟨false,some ⟨zr,0,none⟩,1,zt,none,0,0,some ⟨w7.heap.size,0,none⟩,2,2⟩) (l8.o.later cQ.o) Df.o (zD8 _)) ?_;rintro e w9 ⟨rfl,b9⟩;have pG:=zI cQ.o b9;have qP:=dB.o w9 pG;have xn:=hd pG;clear pG b9)
   |(go_at_call 34;refine(kFh _ _ _ _).mono ?_;rintro e w8 ⟨zr,zt,rfl,v8,b8,sX⟩;have pH:=sY.o.trans (b8.mono sY.o.size);have Df:=hd (show kS w8 ⟨false,some ⟨zr,0,none⟩,1,zt,none,0,0,some ⟨w7.heap.size,0,none⟩,2,2⟩ (elT [lfT [97],lfT [98,99]])from⟨2,kG7 sX Dg.o Dh.o v8 ((cv.o.later xo.o).later (zEu b8)) (cT.o.later (zEu b8)) (b:=w7.heap.size) (kJ9 b8) (fun j u hj=>(b8.cell Kc).trans ((World.cell?_alloc_at _ _ _ _ rfl).trans hj))⟩);have mH:=dB.o w8 pH;have cQ:=hd pH;clear pH b8 v8 sX)
   |(have _g:=cv;go_at_call 35;refine(zO4 {data:=#[98,99]} [98,99] 2 rfl kCz Kb _).mono ?_;rintro e w7 ⟨g7,c7,rfl,v7,b7,zu⟩;have mI:=zI cY.o b7;have wY:=dB.o w7 mI;have pI:=mI.alloc mI.size (.cells #[.bool true,.slice none 0 0,.slice (some ⟨g6,0,none⟩) 1 c6,.slice none 0 0,.bool true,.slice none 0 0,.slice (some ⟨g7,0,none⟩) 2 c7,.slice none 0 0] 26);have xa:=dB.o (w7.alloc (.cells #[.bool true,.slice none 0 0,.slice (some ⟨g6,0,none⟩) 1 c6,.slice none 0 0,.bool true,.slice none 0 0,.slice (some ⟨g7,0,none⟩) 2 c7,.slice none 0 0] 26)) pI;have sY:=hd pI;have cT:=hd v7;have Dh:=hd zu;have xo:=hd b7;clear mI pI b7 v7 zu)
   |(go_at_call 35;refine(zO4 {data:=#[97]} [97] 1 rfl kG6 Kb _).mono ?_;rintro e w6 ⟨g6,c6,rfl,v6,b6,zw⟩;have pJ:Below W0.heap.size W0 w6:=Kl.drew.trans b6;have qZ:=dB.o w6 pJ;have cY:=hd pJ;have cv:=hd v6;have Dg:=hd zw;clear pJ b6 v6 zw))
 go_wp2
 go_ret
 exact⟨rfl,ay.o.trans (xn.o.mono ay.o.size)⟩
theorem zPs {n:NT}{s:Sl}{o:OpP}{r:NT×Sl}(h:jL n s o=(r,0))(hr:zRb n s o)(h1:zAh n=0->sizeT n<=120)(h2:zAh o.n=0->sizeT o.n<=100):zTc n o:=by
 obtain⟨g1,g2,g3,g4,g5⟩:=zH8 h;have hc:=zC1 g1;refine⟨zN9 (by have:=h1 hc;omega),by have:=h1 hc;omega,fun e=>?_,by have:=hr.tiny.hx;omega⟩;rcases g5 with⟨e9,_⟩|⟨k1,k8,hd,_⟩
 ·omega
 ·rw[kKb e]at hd;have:=h2 (zC1 (zCd hd).1);omega
theorem zE5 {ty:TypeId}{ops:Array Oper}{rest:List Oper}{op:Oper}{a:Act}{w:World}{Q:Exit->Act->World->Prop}{g:Nat}{c:OC}(h:jR w g c){j:Nat}{v:Value}
  (x:Operand) (ho:op.op=.load ty x) (hw:Region.wanted op (yielded ops a.tmps)=true) (hx:a.eval x=.pointer (some ⟨g,j,none⟩)) (hv:c.row[j]? =some v) {d:TypeDesc} (hu:Tryz.prog.underlying ty=some d) (hd:d.isRow=false) (hk:wpList Tryz.prog ops Q rest (a.put op.dst v) w):wpList Tryz.prog ops Q (op::rest) a w:=by
 have hc:=h.cell j v hv;have hl:=zD3 hu hd hc;refine wpList_step fun K hK=>?_;rw[if_pos hw];unfold Oper.wp execOp;simp only[ho,hx,Instr.loadAt,Instr.sureAddr,Sem.run_bind,Sem.run_pure,Result.andThen_ok,hl];exact hK _ _ hk
