import Derived.Test.YtmglnjmnabjjgaaGreatJLFrW
set_option maxRecDepth 100000
set_option maxHeartbeats 8000000
namespace Go.Proofs.YtmglnjmnabjjgaaGreat
variable {n x yn:NT}{f p q:List Int×Int}{aff ec:Int}{b:Bool}{w:World}{c:GC}{d:RC}
structure kPw (n x:NT)(a:OpP):Prop where
 form:zCx a=0
 done:1<=a.k/\a.k<=8/\doO n a=(x,0)∨a.k=9/\x=n
 size:sizeT n<=1000
 chk:zAh n=0
theorem kPw.len {a:OpP}(h:kPw n x a):∀u y,kB n u=some y->y.ks.length<9223372036854775807:=fun u y hy=>by
 have:=(kOa h.size hy).1;omega
theorem kS1 {a:OpP}{p q:List Int}(h:kPw n x a)(hp:kB n p=some yn)(hm:jF a.k a.q a.t a.z p=(q,true)):∃y,kB x q=some y:=by
 rcases h.done with⟨h1,h8,hd⟩|⟨h9,rfl⟩
 ·obtain⟨y,e,_⟩:=zTg h.len h.chk h1 h8 hd hp hm;exact⟨y,e⟩
 ·rw[kTe h.form h9 h.size hp]at hm;exact⟨yn,by rw[<-(zO hm).1];exact hp⟩
theorem kRr {a:OpP}{p q:List Int}(h:kPw n x a)(hp:kB n p=some yn)(hm:jF a.k a.q a.t a.z p=(q,false)):a.k=2:=by
 rcases h.done with⟨h1,h8,hd⟩|⟨h9,rfl⟩
 ·exact(kTd h.form h1 h8 hd h.size hp hm).1
 ·rw[kTe h.form h9 h.size hp]at hm;exact absurd (zO hm).2 Kc
theorem kPg {a:OpP}(h:kPw n x a)(hp:zK6 n p=0)(hm:zEr a.k a.q a.t a.z (a.x.length:Int) aff p=(q,true)):zK6 x q=0:=by
 rcases h.done with⟨h1,h8,hd⟩|⟨h9,rfl⟩
 ·exact kUu h.len h.chk h1 h8 hd hp hm
 ·obtain⟨m,hg,hl,l1,l2⟩:=zCm.1 hp;obtain⟨y,_,_,_,hx,hown⟩:=zKc hm;rw[kTe h.form h9 h.size hg]at hx;have hy:=(zO hx).1;have e:q=p:=by
   split at hown
   ·unfold zXx at hown;rw[if_neg Kb,if_neg Kb,if_neg (fun h=>by omega),if_neg (fun h=>by omega)]at hown;rw[<-(zO hown).1,<-hy]
   ·rw[<-(zO hown).1,<-hy]
  rw[e];exact hp
theorem kPx {a:OpP}(h:kPw n x a)(ha:zDx aff)(hp:zK6 n p=0)(hm:zEr a.k a.q a.t a.z (a.x.length:Int) aff p=(q,false)):a.k=2∨(a.k=4/\aff=0):=by
 obtain⟨m,hg,hl,l1,l2⟩:=zCm.1 hp;have hs:=(kOa h.size hg).2.1;cases hx:(jF a.k a.q a.t a.z p.1).2
 ·exact .inl (kRr h hg (show jF a.k a.q a.t a.z p.1=((jF a.k a.q a.t a.z p.1).1,false)from Prod.ext rfl hx))
 ·rw [kB4 ha l1 Kb (show jF a.k a.q a.t a.z p.1=((jF a.k a.q a.t a.z p.1).1,true)from Prod.ext rfl hx)]at hm;split at hm
  ·unfold zXx at hm;split at hm
   ·exact absurd (zO hm).2 Kc
   ·split at hm
    ·exact absurd (zO hm).2 Kc
    ·split at hm
     ·exact absurd (zO hm).2 Kc
     ·split at hm
      ·rename_i h4
       split at hm
       ·rename_i h5
        exact .inr ⟨h4.1,h5.2⟩
       ·split at hm
        ·exact absurd (zO hm).2 Kc
        ·exact absurd (zO hm).2 Kc
      ·exact absurd (zO hm).2 Kc
  ·exact absurd (zO hm).2 Kc
theorem kVp {an fo:List Int×Int}(h0:0<=aff)(h4:aff<=4):zDx (kN8 an fo aff).1/\zDx (kN8 an fo aff).2/\((kN8 an fo aff).1=0->aff=0)/\((kN8 an fo aff).2=0->aff=0):=by
 unfold kN8 zDx;repeat' split
 all_goals simp
 omega
def kNn (r:kNj):kNj:={r with live:=true}
theorem kS2 {p:List Int}(h:(zGm n p).2=0):∃y,kB n p=some y:=by
 cases hg:kB n p with
 |none=>rw[zB2 hg]at h;exact absurd h Kd
 |some m=>exact⟨m,rfl⟩
theorem kQb :zP p=true ↔ p=([],0):=by simp[zP,samP]
section
variable {a:OpP}{r:kNj}
theorem kVq {q:List Int}(k:r.kind=1)(hm:jF a.k a.q a.t a.z r.p=(q,b)):kOc a (kNn r)=if b=true then{kNr r with live:=true,p:=q}else kNr r:=by
 unfold kOc;rw[if_neg (by simp[kNn]),if_pos (show(kNn r).kind=1 from k),show(kNn r).p=r.p from rfl,hm];cases b<;>rfl
theorem kVr (k:r.kind=2)(hm:zEr a.k a.q a.t a.z (a.x.length:Int) r.aff r.q=(q,b)):kOc a (kNn r)=if b=true then{kNr r with live:=true,q:=q}else kNr r:=by
 unfold kOc;rw[if_neg (by simp[kNn]),if_neg (show¬(kNn r).kind=1 from fun h=>by have h:r.kind=1:=h;omega),if_pos (show(kNn r).kind=2 from k),show(kNn r).q=r.q from rfl,show(kNn r).aff=r.aff from rfl,hm];cases b<;>rfl
theorem kS3 {s:List Int×Int}(k:r.kind=3)(hm:kP4 a r.a r.f r.aff=((q,s),b)):kOc a (kNn r)=if b=true then{kNr r with live:=true,a:=q,f:=s}else kNr r:=by
 unfold kOc;rw[if_neg (by simp[kNn]),if_neg (show¬(kNn r).kind=1 from fun h=>by have h:r.kind=1:=h;omega),if_neg (show¬(kNn r).kind=2 from fun h=>by have h:r.kind=2:=h;omega),if_pos (show(kNn r).kind=3 from k),show(kNn r).a=r.a from rfl,show(kNn r).f=r.f from rfl,show(kNn r).aff=r.aff from rfl,hm];cases b<;>rfl
end
structure kTp (x:NT)(a:OpP)(r s:kNj):Prop where
 id:s.id=r.id
 kind:s.kind=r.kind
 aff:s.aff=r.aff
 live:s.live=true->chkR x s=0
 gone:s.live=false->s=kNr r/\(a.k=2∨(a.k=4/\r.kind≠1/\r.aff=0))
theorem kTp.o {a:OpP}{r:kNj}(h:a.k=2∨(a.k=4/\r.kind≠1/\r.aff=0)):kTp x a r (kNr r):=⟨rfl,rfl,rfl,fun h=>(by cases h),fun _=>⟨rfl,h⟩⟩
theorem kVs {r:kNj}(k:r.kind=1)(h:chkR n r=0):r.aff=0/\(zGm n r.p).2=0:=by
 unfold chkR at h;rw[if_pos k]at h;split at h
 ·exact absurd h Kd
 ·rename_i hc
  exact⟨Classical.byContradiction fun e=>hc (.inl e),h⟩
theorem kVt {r:kNj}(k:r.kind=2)(h:chkR n r=0):(0<=r.aff/\r.aff<=2)/\zK6 n r.q=0:=by
 unfold chkR at h;rw[if_neg Kb,if_pos k]at h;split at h
 ·exact absurd h Kd
 ·rename_i hc
  exact⟨by omega,h⟩
theorem kVu {r:kNj}(k:r.kind=3)(h:chkR n r=0):(0<=r.aff/\r.aff<=4)/\zK6 n r.a=0/\zK6 n r.f=0:=by
 unfold chkR at h;rw[if_neg Kb,if_neg Kb,if_pos k]at h;split at h
 ·exact absurd h Kd
 ·rename_i hc
  split at h
  ·rename_i hn;exact absurd h hn
  ·rename_i hn
   exact⟨by omega,Classical.byContradiction hn,h⟩
theorem kU0 {s:kNj}(k:s.kind=1)(ha:s.aff=0)(h1:zP s.q=true)(h2:(zP s.a&&zP s.f)=true):chkR n s=(zGm n s.p).2:=by
 unfold chkR;rw[if_pos k,if_neg (by simp only[ha,h1,h2];simp)]
theorem kU1 {s:kNj}(k:s.kind=2)(ha:0<=s.aff/\s.aff<=2)(h1:s.p.length=0)(h2:(zP s.a&&zP s.f)=true):chkR n s=zK6 n s.q:=by
 unfold chkR;rw[if_neg Kb,if_pos k,if_neg (by simp only[h1,h2];simp;omega)]
theorem kU2 {s:kNj}(k:s.kind=3)(ha:0<=s.aff/\s.aff<=4)(h1:s.p.length=0)(h2:zP s.q=true)(h3:zK6 n s.a=0):chkR n s=zK6 n s.f:=by
 unfold chkR;rw[if_neg Kb,if_neg Kb,if_pos k,if_neg (by simp only[h1,h2];simp;omega),if_neg (by simp[h3])]
theorem kQm {r:kNj}(h:chkR n r=0):r.kind=1∨r.kind=2∨r.kind=3:=by
 rcases Classical.em (r.kind=1)with k|k
 ·exact .inl k
 rcases Classical.em (r.kind=2)with k2|k2
 ·exact .inr (.inl k2)
 rcases Classical.em (r.kind=3)with k3|k3
 ·exact .inr (.inr k3)
 unfold chkR at h;rw[if_neg k,if_neg k2,if_neg k3]at h;exact absurd h Kd
theorem kT6 {a:OpP}{r:kNj}(h:kPw n x a)(hr:chkR n r=0):kTp x a r (kOc a (kNn r)):=by
 rcases kQm hr with k|k|k
 ·obtain⟨c1,c2⟩:=kVs k hr;obtain⟨y,hy⟩:=kS2 c2;obtain⟨⟨q,b⟩,hm⟩:∃m,jF a.k a.q a.t a.z r.p=m:=⟨_,rfl⟩;rw[kVq k hm];cases b
  ·exact kTp.o (.inl (kRr h hy hm))
  ·obtain⟨y2,hy2⟩:=kS1 h hy hm;refine⟨rfl,rfl,rfl,fun _=>?_,fun h=>(by cases h)⟩;exact(kU0 (s:={kNr r with live:=true,p:=q}) k c1 rfl rfl).trans (by show(zGm x q).2=0;rw[kP hy2])
 ·obtain⟨c1,c2⟩:=kVt k hr;have ha:zDx r.aff:=by unfold zDx;omega
  obtain⟨⟨q,b⟩,hm⟩:∃m,zEr a.k a.q a.t a.z (a.x.length:Int) r.aff r.q=m:=⟨_,rfl⟩;rw[kVr k hm];cases b
  ·refine kTp.o ?_;rcases kPx h ha c2 hm with e|⟨e1,e2⟩
   ·exact .inl e
   ·exact .inr ⟨e1,by omega,e2⟩
  ·refine⟨rfl,rfl,rfl,fun _=>?_,fun h=>(by cases h)⟩;exact(kU1 (s:={kNr r with live:=true,q:=q}) k c1 rfl rfl).trans (kPg h c2 hm)
 ·obtain⟨c1,c2,c3⟩:=kVu k hr;obtain⟨a1,a2,a3,a4⟩:=kVp (an:=r.a) (fo:=r.f) (aff:=r.aff) Kb Kb;obtain⟨⟨q,b⟩,hm⟩:∃m,zEr a.k a.q a.t a.z (a.x.length:Int) (kN8 r.a r.f r.aff).1 r.a=m:=⟨_,rfl⟩;obtain⟨⟨s,b2⟩,hm2⟩:∃m,zEr a.k a.q a.t a.z (a.x.length:Int) (kN8 r.a r.f r.aff).2 r.f=m:=⟨_,rfl⟩;have hG:kP4 a r.a r.f r.aff=if b=true/\b2=true then((q,s),true)else((([],0),([],0)),false):=by
   unfold kP4;simp only[hm,hm2]
  cases b
  ·rw[kS3 k (hG.trans (if_neg Kc))];refine kTp.o ?_;rcases kPx h a1 c2 hm with e|⟨e1,e2⟩
   ·exact .inl e
   ·exact .inr ⟨e1,by omega,a3 e2⟩
  ·cases b2
   ·rw[kS3 k (hG.trans (if_neg Kc))];refine kTp.o ?_;rcases kPx h a2 c3 hm2 with e|⟨e1,e2⟩
    ·exact .inl e
    ·exact .inr ⟨e1,by omega,a4 e2⟩
   ·rw[kS3 k (hG.trans (if_pos ⟨rfl,rfl⟩))];refine⟨rfl,rfl,rfl,fun _=>?_,fun h=>(by cases h)⟩;have g1:=kPg h c2 hm;have g2:=kPg h c3 hm2;exact(kU2 (s:={kNr r with live:=true,a:=q,f:=s}) k c1 rfl rfl g1).trans g2
open Go.RowKit
theorem kOd {P:Prop}(h:P:=by
 have H1:=hd h1;try have H2:=hd h2
 try have H3:=hd h3
 try have iq:=hd bG
 try have fY:=hd hap
 obtain⟨W0,hW,hst⟩:=kQj w c o 37 d.row;have HW:=hd hW;have HS:=hd hst;have HN:=hd hn;have HO:=hd ho;have HR:=hd hr;clear h1;try clear h2
 try clear h3
 try clear bG
 try clear hap
 clear hW hst hn ho hr;go_enter Tryz.func3,Tryz.ntmps3
 go_upto_region 1 with fail
 rw[HW.o];go_wp2_with(first
  |(go_at_call 6;refine Calls.mono (kOw _) ?_;rintro e w1 ⟨rfl,b9⟩;have HS:=hd (HS.o.call b9);clear b9)
  |((with_reducible refine zC (ty:=26) (x:=.tmp 3) ?_);refine zB zD HS.o.v4 rfl _ rfl rfl rfl ?_)
  |((with_reducible refine zC (ty:=26) (x:=.tmp 7) ?_);refine zB zD bl.o rfl _ rfl rfl rfl ?_)
  |(go_at_call 7;refine Calls.mono (zTe (HN.o.later HS.o.below) (by unfold zFf;omega) H1.o) ?_;rintro e w2 ⟨rfl,b9⟩;have HS:=hd (HS.o.call b9);clear b9)
  |((with_reducible refine kH (ty:=35) (x:=.tmp 4) ?_);refine zDq HS.o.v5 _ rfl Ke rfl ?_)
  |((with_reducible refine zC (ty:=35) (x:=.tmp 4) ?_);refine zG HS.o.v5 _ rfl rfl rfl ?_)
  |(go_at_call 8;refine Calls.mono (kJm (HO.o.later HS.o.below) H2.o) ?_;rintro e w3 ⟨rfl,b9⟩;have HS:=hd (HS.o.call b9);clear b9)
  |((with_reducible refine kH (ty:=37) (x:=.tmp 5) ?_);refine zK kNu HS.o.v6 rfl _ rfl Ke rfl ?_)
  |((with_reducible refine kO8 (ty:=42) (k:=1) ?_);refine kNs (c:=d) _ rfl Ke rfl ?_;have bU:=hd (kPi (HR.o.later HS.o.below));have HS:=hd (HS.o.call (kNx w3 d).2))
  |(go_at_call 9;refine Calls.mono (kPn bU.o rfl Kb H3.o) ?_;rintro e w4 ⟨rfl,b9⟩;have HS:=hd (HS.o.call b9);clear b9)
  |((with_reducible refine kH (ty:=26) (x:=.tmp 3) ?_);refine zK zD HS.o.v4 rfl _ rfl Ke rfl ?_)
  |(go_at_call 10;refine Calls.mono (kPm (HN.o.later HS.o.below) (HR.o.later HS.o.below) jG.o iq.o) ?_;rintro e w5 ⟨rfl,b9⟩;have HS:=hd (HS.o.call b9);clear b9)
  |(go_at_call 11;refine Calls.mono (zA4 (s:=⟨false,none,0,0,0,none,0,0,0⟩) (HN.o.later HS.o.below) (zIi.zero _) (HO.o.later HS.o.below) ir.o fY.o) ?_;rintro e w6 ⟨ca,ct,rfl,ip,hsa,b9⟩;have bX:=hd ip;have HS:=hd (HS.o.call b9);clear b9 ip hsa;dsimp only)
  |((with_reducible refine zF (ty:=26) (x:=.tmp 7) ?_);refine zA zD (r:=ca.row) (zDj w6) rfl rfl ca.one _ _ rfl rfl rfl rfl rfl ?_;intro W7 bk aI;have bl:=hd bk;have HT:=hd (zDk aI);clear bk aI)
  |((with_reducible refine zF (ty:=33) (x:=.tmp 8) ?_);refine zA kNm (r:=ct.row) HT.o.2 rfl rfl ct.one _ _ rfl rfl rfl rfl rfl ?_;intro W8 bz aQ;have bM:=hd (zDl HT.o.1 aQ);have bl:=hd (bl.o.off aQ Kb);have HS:=hd (HS.o.call bM.o);have bX:=hd (bX.o.later bM.o);clear bz aQ HT bM)
  |(go_at_call 12;refine Calls.mono (zHo (c':=(NC.mk false none 0 0 none 0 0 none 0 0)) bX.o (wT.o _) eW.o) ?_;rintro e w9 ⟨rfl,b9⟩;have HS:=hd (HS.o.call b9);clear b9)
  |fail)
 go_ret
 exact⟨rfl,HS.o.below⟩):P:=h
theorem kT7 {c:NC}{o:OC}{a:OpP}{r:kNj}(hn:kS w c n)(ho:OkA w o a)(hr:RkA w d r)(h1:zI5 100 n=false):Calls Tryz.prog 3 #[.agg c.row,.agg o.row,.agg d.row] w (jW w):=by
 exact kOd
theorem kT8 {c:NC}{o:OC}{a:OpP}{r:kNj}(hn:kS w c n)(ho:OkA w o a)(hr:RkA w d r)(h1:zI5 100 n=true)(h2:zT3 a=false):Calls Tryz.prog 3 #[.agg c.row,.agg o.row,.agg d.row] w (jW w):=by
 exact kOd
theorem kT9 {c:NC}{o:OC}{a:OpP}{r:kNj}(hn:kS w c n)(ho:OkA w o a)(hr:RkA w d r)(h1:zI5 100 n=true)(h2:zT3 a=true)(h3:kO9 [r]=false):Calls Tryz.prog 3 #[.agg c.row,.agg o.row,.agg d.row] w (jW w):=by
 exact kOd
theorem kUa {c:NC}{o:OC}{a:OpP}{r:kNj}(hn:kS w c n)(ho:OkA w o a)(hr:RkA w d r)(h1:zI5 100 n=true)(h2:zT3 a=true)(h3:kO9 [r]=true)(bG:chkR n r=ec)(hne:(ec !=0)=true):Calls Tryz.prog 3 #[.agg c.row,.agg o.row,.agg d.row] w (jW w):=by
 have jG:=hd (kN9 h3 (r:=r) Kc);exact kOd
theorem kUb {c:NC}{o:OC}{a:OpP}{r:kNj}(hn:kS w c n)(ho:OkA w o a)(hr:RkA w d r)(h1:zI5 100 n=true)(h2:zT3 a=true)(h3:kO9 [r]=true){er:Int}(bG:chkR n r=ec)(iT:(ec !=0)=false)(hap:jL n zeroS a=((zeroT,zeroS),er))(hne:(er !=0)=true):Calls Tryz.prog 3 #[.agg c.row,.agg o.row,.agg d.row] w (jW w):=by
 have jG:=hd (kN9 h3 (r:=r) Kc);have ir:=hd (kNw h1 h2 hn ho).1;have wT:=hd (fun W9:World=>(show kS W9 (NC.mk false none 0 0 none 0 0 none 0 0) zeroT from⟨1,zEh _ _⟩));have eW:=hd (zD8 zeroT);exact kOd
def kWg (w:World)(r:Int×Int)(e:Ending)(w':World):Prop:=e=.returned (.tuple #[.int .i64 r.1,.int .i64 r.2])/\Below w.heap.size w w'
theorem kOy {t:TypeId}{g:Nat}(h:jT t w g c.row):w.cell? ⟨g,0,none⟩=some (.slice c.A c.na c.ca)/\w.cell? ⟨g,1,none⟩=some (.int .i64 c.ao)/\w.cell? ⟨g,2,none⟩=some (.slice c.F c.nf c.cf)/\w.cell? ⟨g,3,none⟩=some (.int .i64 c.fo):=h.four
structure GtA (w:World)(c:GC)(a f:List Int×Int):Prop where
 haa:kNt w c.A c.na c.ca a.1
 hao:a.2=c.ao
 hf:kNt w c.F c.nf c.cf f.1
 hfo:f.2=c.fo
 hn:c.na<=1000
 hm:c.nf<=1000
theorem GtA.later {w':World}{a:List Int×Int}(h:GtA w c a f)(hb:Below w.heap.size w w'):GtA w' c a f:={h with haa:=h.haa.later hb,hf:=h.hf.later hb}
theorem GtA.pa {a:List Int×Int}(h:GtA w c a f):zI4 w (.agg #[.slice c.A c.na c.ca,.int .i64 c.ao]) a:=h.haa.pt h.hao (by have:=h.hn;omega)
theorem GtA.pf {a:List Int×Int}(h:GtA w c a f):zI4 w (.agg #[.slice c.F c.nf c.cf,.int .i64 c.fo]) f:=h.hf.pt h.hfo (by have:=h.hm;omega)
theorem GC.one (c:GC):c.row.all (·.oneCell')=true:=Ka
theorem kU3 {a:List Int×Int}{t:Bool}(h:GtA w c a f)(ht:decide (kFb f a<0)=t):Calls Tryz.prog 118 #[.agg c.row] w (fun e w'=>∃A n x y B m z v,e=.returned (.tuple #[.agg #[.slice A n x,.int .i64 y],.agg #[.slice B m z,.int .i64 v],.bool t])/\Below w.heap.size w w'):=by
 have hx:=kTg c.A c.F a f c.na c.nf c.ca c.cf t w ht h.haa.len h.hf.len h.hn h.hm h.haa.il h.hf.il;rw[h.hao,h.hfo]at hx;refine hx.mono ?_;rintro e w' ⟨u,v,rfl,⟨A,x,rfl,_⟩,⟨B,z,rfl,_⟩,hb⟩;exact⟨_,_,_,_,_,_,_,_,rfl,hb⟩
theorem kNy {P:Prop}(h:P:=by
 go_wp2_with(first
  |(go_at_call 63;refine Calls.mono (kRq HG.o.pa HG.o.pf eW.o) ?_;rintro e w2 ⟨rfl,b9⟩;have HB:=hd (zI HB.o b9);clear b9)
  |fail)
 go_ret2
 exact⟨by rw[HR.o];rfl,HB.o⟩):P:=h
theorem kUc {a:List Int×Int}{r:Int×Int}(h:GtA w c a f)(hr:kN8 a f aff=r):Calls Tryz.prog 89 #[.agg c.row,.int .i64 aff] w (kWg w r):=by
 obtain⟨t,ht⟩:∃t,decide (kFb f a<0)=t:=⟨_,rfl⟩;obtain⟨E,hE⟩:∃E,samP a f=E:=⟨_,rfl⟩;have eW:=hd hE;have HT:=hd ht;have HR:=hd hr;have hb:Below w.heap.size w (w.alloc (.cells c.row 31)):=Kk.alloc Kl _;have HG:=hd (h.later hb);have HV:=hd (jT.new w 31 c.row);have HB:=hd hb;obtain⟨W0,hW⟩:∃W0,w.alloc (.cells c.row 31)=W0:=⟨_,rfl⟩;rw[hW]at HG HV HB;have HW:=hd hW;clear h ht hr hb hW hE;go_enter Tryz.func89,Tryz.ntmps89
 go_upto_region 1 with fail
 rw[HW.o];go_upto_region 2 with(first
  |((with_reducible refine zC (ty:=31) (x:=.tmp 2) ?_);refine zB kN3 HV.o rfl _ rfl rfl rfl ?_)
  |(go_at_call 118;refine Calls.mono (kU3 HG.o HT.o) ?_;rintro e w1 ⟨A,n,x,y,B,m,z,v,rfl,b9⟩;have HV:=hd (HV.o.keep b9);have HG:=hd (HG.o.later b9);have HB:=hd (zI HB.o b9);clear b9))
 have ed:=kM (Below.refl w1.heap.size w1) Kl (o:=.cells #[.slice A n x,.int .i64 y] 29) (o':=.cells #[.slice B m z,.int .i64 v] 29);have HV:=hd (HV.o.keep ed);have HG:=hd (HG.o.later ed);have HB:=hd (zI HB.o ed);generalize(w1.alloc (.cells #[.slice A n x,.int .i64 y] 29)).alloc (.cells #[.slice B m z,.int .i64 v] 29)=W2 at HV HG HB⊢
 clear ed;obtain⟨n0,n1,n2,n3⟩:=kOy HV.o;by_cases h3:aff=3
 ·subst h3;cases E
  ·have hc:kN8 a f 3=if t=true then(2,1)else(1,2):=by
    unfold kN8;rw[if_pos rfl,eW.o,if_neg Kd,<-HT.o];simp
   cases t
   ·have HR:=hd (show r=(1,2)from HR.o.symm.trans hc);clear hc;exact kNy
   ·have HR:=hd (show r=(2,1)from HR.o.symm.trans hc);clear hc;exact kNy
  ·have HR:=hd (show r=(1,1)from HR.o.symm.trans (by unfold kN8;rw[if_pos rfl,eW.o,if_pos rfl]));cases t
   ·exact kNy
   ·exact kNy
 by_cases h4:aff=4
 ·subst h4;have hc:kN8 a f 4=if t=true then(1,2)else(2,1):=by
   unfold kN8;rw[if_neg Kd,if_pos rfl,<-HT.o];simp
  cases t
  ·have HR:=hd (show r=(2,1)from HR.o.symm.trans hc);clear hc;exact kNy
  ·have HR:=hd (show r=(1,2)from HR.o.symm.trans hc);clear hc;exact kNy
 ·have HR:=hd (show r=(aff,aff)from HR.o.symm.trans (by unfold kN8;rw[if_neg h3,if_neg h4]));have e3:(aff==3)=false:=by simpa using h3
  have e4:(aff==4)=false:=by simpa using h4
  clear h3 h4;exact kNy
