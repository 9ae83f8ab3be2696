import Derived.Test.YtmkciabefepelaaGreatJNEach
set_option maxRecDepth 4000
set_option maxHeartbeats 8000000
namespace Go.Proofs.YtmkciabefepelaaGreat
open Go.RowKit
variable {w w':World}{B b by_ c g k:Nat}{l:List Pr}{n:NT}{m y:Int}{u0 u1 u2 u3:Value}{P Q:Nat->Prop}{A:Option Addr}{xs:List Value}{te ts:TypeId}
theorem kM {o o':Obj}(h:Below B w w')(hB:B<=w'.heap.size):Below B w ((w'.alloc o).alloc o'):=(h.alloc hB o).alloc Kf o'
theorem zY6 (g:Nat):∀(d d':Nat)(w:World)(v v':Value)(n n':NT),w.cell? ⟨g,0,none⟩=some (.func (.func 62) #[] #[.pointer (some ⟨g,0,none⟩)])->zV d w w.heap.size v n->zV d' w w.heap.size v' n'->
      Calls Tryz.prog 62 #[v,v',.pointer (some ⟨g,0,none⟩)] w (jA (.bool (eqT n n')) w):=by
 intro d;induction d with
 |zero=>intro d' w v v' n n' _ h;exact h.elim
 | succ d ih=>
  intro e w v v' n n' hg hn hn';obtain⟨d1,lf,ps,tx,ks,PA,pc,TA,tc,KA,kc,hd1,rfl,rfl,hp,ht,hf,hks⟩:=hn.open_;obtain⟨e1,lf',ps',tx',ks',PA',pc',TA',tc',KA',kc',hd2,rfl,rfl,hp',ht',hf',i6⟩:=hn'.open_;obtain rfl:d=d1:=Kb;obtain⟨wb,hwb⟩:∃wb,wb=(w.alloc (.cells #[.bool lf,.slice PA ps.length pc,.slice TA tx.length tc,.slice KA ks.length kc] 26)).alloc (.cells #[.bool lf',.slice PA' ps'.length pc',.slice TA' tx'.length tc',.slice KA' ks'.length kc'] 26):=⟨_,rfl⟩;have hb1:Below w.heap.size w wb:=hwb▸kM Kk Kl;have HC:=hd (zS3 lf ps tx lf' ps' tx' PA TA KA PA' TA' KA' pc tc ks.length kc pc' tc' ks'.length kc' wb hf hf' ((hp.below hb1).more hb1.size) ((ht.below hb1).more hb1.size) ((hp'.below hb1).more hb1.size) ((ht'.below hb1).more hb1.size));have HB:=hd hb1;have cv:=hd hks;have fF:=hd i6;have HG:=hd hg;have hgl:=kQ hg;have cC:=hf.2.2.2.1;have i7:=hf'.2.2.2.1;subst hwb;clear hn hn' hp ht hf hks hp' ht' hf' i6 hb1 hd1 hd2 hg;obtain⟨S,hS⟩:∃S,S=zO1 lf ps tx ks.length lf' ps' tx' ks'.length:=⟨_,rfl⟩;rw[<-hS]at HC;cases S
  ·have HF:=hd (zMb (ks:=ks) (ks':=ks') hS.symm);clear hS ih cv fF HG;go_enter Tryz.func62,Tryz.ntmps62
   go_wp2_with(first|(refine HC.o.mono ?_;rintro e w' ⟨rfl,hb⟩;obtain⟨⟨x0,x1,x2,x3⟩,⟨y0,y1,y2,y3⟩,hlt⟩:=kFg hb))
   go_ret
   exact⟨kC HF.o.symm,HB.o.trans (hb.mono HB.o.size)⟩
  ·have HS:=hd hS.symm;have fG:ks.length=ks'.length:=(of_decide_eq_true hS.symm).2.1;have rh:=hd fG;clear hS fG;go_enter Tryz.func62,Tryz.ntmps62
   go_wp2_with(first|(refine HC.o.mono ?_;rintro e w' ⟨rfl,hb⟩;obtain⟨⟨x0,x1,x2,x3⟩,⟨y0,y1,y2,y3⟩,hlt⟩:=kFg hb))
   obtain⟨N,hN⟩:∃N,N=w'.heap.size:=⟨_,rfl⟩;have HW:=hd (HB.o.trans (hb.mono HB.o.size));have X3:=hd x3;have Y3:=hd y3;have AP:=hd hgl;clear x0 x1 x2 x3 y0 y1 y2 y3 hb HC HB hgl;go_loopw [14] (fun i wr=>∃k:Nat,k<=ks.length/\i=.int .i64 k/\Kq (Below w'.heap.size w' wr)/\Kq (∀j,j<k->ks[j]? =ks'[j]?)) (fun i _=>ks.length-(intOf i).toNat)
   case atStart=>exact⟨0,Nat.zero_le _,rfl,Below.refl _ _,fun j hj=>absurd hj (Nat.not_lt_zero _)⟩
   case round=>
    obtain⟨k,hk,rfl,HR,HA⟩:=hrel;by_cases dO:k<ks.length
    ·have dP:k<ks'.length:=by have:=rh.o;omega
     have hbr:=HW.o.trans (HR.o.mono HW.o.size);obtain⟨m,b,o,lf1,bJ,bS,bK,bL,bT,bM,bN,bU,bO,hm,rfl,hbg,dw,c0,c1,c2,c3⟩:=(cv.o.below hbr).at_ dO;obtain⟨m',b',o',lf2,bV,cE,bW,bX,cF,bY,bP,dE,bF,hm',rfl,uB,km,c0',c1',rq,ru⟩:=(fF.o.below hbr).at_ dP;have gg:=kL ((hbr.cell (p:=⟨g,0,none⟩) AP.o).trans HG.o);have l0:=kL c0;have l1:=kL c1;have l2:=kL c2;have l3:=kL c3;have rx:=kL c0';have ry:=kL c1';have rz:=kL rq;have rA:=kL ru;have lx:=kL ((HR.o.cell (p:=⟨w.heap.size,3,none⟩) (by show w.heap.size<_;omega)).trans X3.o);have ly:=kL ((HR.o.cell (p:=⟨w.heap.size+1,3,none⟩) (by show w.heap.size+1<_;omega)).trans Y3.o);have HC:=fun(u:zMa wr.heap.size wr)=>hd (ih e1 u.1 _ _ m m' (gg u) (((dw.below (u.2.mono hbr.size))).more (Nat.le_trans hbr.size u.2.size)) (((km.below (u.2.mono hbr.size))).more (Nat.le_trans hbr.size u.2.size)));obtain⟨E,hE⟩:∃E,E=eqT m m':=⟨_,rfl⟩;rw[<-hE]at HC;have HE:=hd hE.symm;have HM:=hd hm;have rB:=hd hm';have dA:=hd hbr;clear hE hm hm' dw km c0 c1 c2 c3 c0' c1' rq ru hbr cv fF ih;cases E
     ·have HF:=hd (zY4 (lf:=lf) (ps:=ps) (tx:=tx) (lf':=lf') (ps':=ps') (tx':=tx') HM.o rB.o HE.o);clear HA;go_wp2_with fail
      refine zAu wr.heap.size Ka Ka ?_;repeat(go_big_quiet_step(exact zFm Kl (HC _).o))
      refine wpQuiet_nil ?_;intro _ hu;obtain⟨⟨w2,hw2⟩,rfl⟩:=hu;clear l0 l1 l2 l3 rx ry rz rA lx ly gg HC;go_wp2
      go_ret
      exact⟨kC HF.o.symm,dA.o.trans (hw2.mono dA.o.size)⟩
     ·have bq:=zBm (p:=fun j=>ks[j]? =ks'[j]?) HA (by rw[HM.o,rB.o,zUn HE.o]);clear HA;go_wp2_with fail
      refine zAu wr.heap.size Ka Ka ?_;repeat(go_big_quiet_step(exact zFm Kl (HC _).o))
      refine wpQuiet_nil ?_;intro _ hu;obtain⟨⟨w2,hw2⟩,rfl⟩:=hu;clear l0 l1 l2 l3 rx ry rz rA lx ly gg HC;go_wp2
      go_roundw
      case rel=>exact⟨k+1,by omega,by go_num,hd (HR.o.trans (hw2.mono HR.o.size)),bq⟩
      case measure=>simp[intOf];omega
    ·have HF:=hd (zY5 HS.o (fun j hj=>HA.o j Kb));clear HA;go_wp2
     go_ret
     exact⟨kC HF.o.symm,HW.o.trans (HR.o.mono HW.o.size)⟩
theorem zQ1 (d d':Nat)(w:World)(v v':Value)(n n':NT)(hn:zV d w w.heap.size v n)(hn':zV d' w w.heap.size v' n'):Calls Tryz.prog 22 #[v,v'] w (jA (.bool (eqT n n')) w):=by
 have hn0:=hn;have rC:=hn';obtain⟨d1,lf,ps,tx,ks,PA,pc,TA,tc,KA,kc,hd1,rfl,rfl,hp,ht,hf,hks⟩:=hn.open_;obtain⟨e1,lf',ps',tx',ks',PA',pc',TA',tc',KA',kc',hd2,rfl,rfl,hp',ht',hf',i6⟩:=hn'.open_;obtain⟨f0,nP⟩:∃f:Value,f=.func (.func 62) #[] #[.pointer (some ⟨w.heap.size+2,0,none⟩)]:=⟨_,rfl⟩;obtain⟨wa,gH⟩:∃wa,wa=((w.alloc (.cells #[.bool lf,.slice PA ps.length pc,.slice TA tx.length tc,.slice KA ks.length kc] 26)).alloc (.cells #[.bool lf',.slice PA' ps'.length pc',.slice TA' tx'.length tc',.slice KA' ks'.length kc'] 26)).alloc (.cells #[f0] 42):=⟨_,rfl⟩;have dU:Below w.heap.size w wa:=gH▸(kM Kk Kl).alloc Kf _;have ql:wa.cell? ⟨w.heap.size+2,0,none⟩=some f0:=by rw[gH,World.cell?_alloc_at _ _ _ _ Kc];rfl
 have HC:=hd (zY6 (w.heap.size+2) d d' wa _ _ _ _ (nP▸ql) (hn0.later dU) (rC.later dU));have HB:=hd dU;subst gH nP;clear hn hn' hn0 rC hp ht hf hks hp' ht' hf' i6 dU hd1 hd2 ql;go_enter Tryz.func22,Tryz.ntmps22
 go_wp2_with(first|(refine HC.o.mono ?_;rintro e w' ⟨rfl,hb⟩))
 go_ret
 exact⟨rfl,HB.o.trans (hb.mono HB.o.size)⟩
theorem kPj {P:Prop}(h:P:=by
 go_wp2_with(first
  |(go_at_call 50;refine HC.o.mono ?_;rintro e w' ⟨rfl,hb⟩;obtain⟨⟨x0,x1,x2,x3⟩,⟨y0,y1,y2,y3⟩,hlt⟩:=kFg hb)
  |(go_at_call 51;refine(HD _ (HB.o.trans (hb.mono HB.o.size))).o.mono ?_;rintro e w'' ⟨rfl,kd,rfl⟩)
  |fail)
 go_ret
 first
  |exact⟨kC HF.o.symm,zZ (HB.o.trans (hb.mono HB.o.size)) _⟩
  |exact⟨kC HF.o.symm,HB.o.trans (hb.mono HB.o.size)⟩
  |fail):P:=h
theorem zWd :∀(d d':Nat)(w:World)(v v':Value)(n n':NT),zV d w w.heap.size v n->zV d' w w.heap.size v' n'->
      Calls Tryz.prog 15 #[v,v'] w (jA (.bool (eqT n n')) w):=by
 intro d;induction d with
 |zero=>intro d' w v v' n n' h;exact h.elim
 | succ d ih=>
  intro e w v v' n n' hn hn';obtain⟨d1,lf,ps,tx,ks,PA,pc,TA,tc,KA,kc,hd1,rfl,rfl,hp,ht,hf,hks⟩:=hn.open_;obtain⟨e1,lf',ps',tx',ks',PA',pc',TA',tc',KA',kc',hd2,rfl,rfl,hp',ht',hf',i6⟩:=hn'.open_;obtain rfl:d=d1:=Kb;obtain⟨wb,hwb⟩:∃wb,wb=(w.alloc (.cells #[.bool lf,.slice PA ps.length pc,.slice TA tx.length tc,.slice KA ks.length kc] 26)).alloc (.cells #[.bool lf',.slice PA' ps'.length pc',.slice TA' tx'.length tc',.slice KA' ks'.length kc'] 26):=⟨_,rfl⟩;have hb1:Below w.heap.size w wb:=hwb▸kM Kk Kl;have HC:=hd (zWq PA PA' ps ps' pc pc' wb (by have:=hf.2.1;omega) (by have:=hf'.2.1;omega) ((hp.below hb1).more hb1.size) ((hp'.below hb1).more hb1.size));have HD:=fun(r:Bool)(hr:sameL tx tx'=r)(w':World)(hb:Below w.heap.size w w')=>hd (zZy TA TA' tx tx' tx.length tx'.length tc tc' r hr w' rfl rfl (by have:=hf.2.2.1;omega) (by have:=hf'.2.2.1;omega) ((ht.below hb).more hb.size) ((ht'.below hb).more hb.size));have HB:=hd hb1;have cv:=hd hks;have fF:=hd i6;have cC:=hf.2.2.2.1;have i7:=hf'.2.2.2.1;subst hwb;clear hn hn' hp ht hf hks hp' ht' hf' i6 hb1 hd1 hd2;rcases Classical.em (lf=lf')with h1|h1
  ·subst h1;rcases Classical.em (ps=ps')with h2|h2
   ·subst h2;rw[decide_eq_true rfl]at HC;rcases Classical.em (tx=tx')with h3|h3
    ·subst h3;have HD:=HD true (zWs _);rcases Classical.em (ks.length=ks'.length)with h4|h4
     ·have rh:=hd h4;have z1:((ks.length:Int)==(ks'.length:Int))=true:=by simp;omega
      have z2:((ks.length:Int) !=(ks'.length:Int))=false:=by simp;omega
      have HS:=hd (show zO1 lf ps tx ks.length lf ps tx ks'.length=true from decide_eq_true ⟨rfl,h4,rfl,rfl⟩);clear h4;cases lf<;>
      ·go_enter Tryz.func15,Tryz.ntmps15
       go_wp2_with(first
        |(go_at_call 50;refine HC.o.mono ?_;rintro e w' ⟨rfl,hb⟩;obtain⟨⟨x0,x1,x2,x3⟩,⟨y0,y1,y2,y3⟩,hlt⟩:=kFg hb)
        |(go_at_call 51;refine(HD _ (HB.o.trans (hb.mono HB.o.size))).o.mono ?_;rintro e w'' ⟨rfl,kd,rfl⟩))
       have HW:=hd (HB.o.trans (hb.mono HB.o.size));have X3:=hd x3;have Y3:=hd y3;clear x0 x1 x2 x3 y0 y1 y2 y3 hb HC HB HD z1 z2;go_loopw [39] (fun i wr=>∃k:Nat,k<=ks.length/\i=.int .i64 k/\Kq (Below w'.heap.size w' wr)/\Kq (∀j,j<k->ks[j]? =ks'[j]?)) (fun i _=>ks.length-(intOf i).toNat)
       case atStart=>exact⟨0,Nat.zero_le _,rfl,zZ Kk _,fun j hj=>absurd hj (Nat.not_lt_zero _)⟩
       case round=>
        obtain⟨k,hk,rfl,HR,HA⟩:=hrel;by_cases dO:k<ks.length
        ·have dP:k<ks'.length:=by have:=rh.o;omega
         have hbr:=HW.o.trans (HR.o.mono HW.o.size);obtain⟨m,b,o,lf1,bJ,bS,bK,bL,bT,bM,bN,bU,bO,hm,rfl,hbg,dw,c0,c1,c2,c3⟩:=(cv.o.below hbr).at_ dO;obtain⟨m',b',o',lf2,bV,cE,bW,bX,cF,bY,bP,dE,bF,hm',rfl,uB,km,c0',c1',rq,ru⟩:=(fF.o.below hbr).at_ dP;have l0:=kL c0;have l1:=kL c1;have l2:=kL c2;have l3:=kL c3;have rx:=kL c0';have ry:=kL c1';have rz:=kL rq;have rA:=kL ru;have lx:=kL ((HR.o.cell (p:=⟨w.heap.size,3,none⟩) (by show w.heap.size<_;omega)).trans X3.o);have ly:=kL ((HR.o.cell (p:=⟨w.heap.size+1,3,none⟩) (by show w.heap.size+1<_;omega)).trans Y3.o);have HC:=fun(u:zMa wr.heap.size wr)=>hd (ih e1 u.1 _ _ m m' (((dw.below (u.2.mono hbr.size))).more (Nat.le_trans hbr.size u.2.size)) (((km.below (u.2.mono hbr.size))).more (Nat.le_trans hbr.size u.2.size)));obtain⟨E,hE⟩:∃E,E=eqT m m':=⟨_,rfl⟩;rw[<-hE]at HC;have HE:=hd hE.symm;have HM:=hd hm;have rB:=hd hm';have dA:=hd hbr;clear hE hm hm' dw km c0 c1 c2 c3 c0' c1' rq ru hbr cv fF ih;cases E
         ·have HF:=fun(a b:Bool)=>hd (zY4 (lf:=a) (lf':=b) (ps:=ps) (tx:=tx) (ps':=ps) (tx':=tx) HM.o rB.o HE.o);clear HA;go_wp2_with fail
          refine zAu wr.heap.size Ka Ka ?_;repeat(go_big_quiet_step(exact zFm Kl (HC _).o))
          refine wpQuiet_nil ?_;intro _ hu;obtain⟨⟨w2,hw2⟩,rfl⟩:=hu;clear l0 l1 l2 l3 rx ry rz rA lx ly HC;go_wp2
          go_ret
          exact⟨kC (HF _ _).o.symm,dA.o.trans (hw2.mono dA.o.size)⟩
         ·have bq:=zBm (p:=fun j=>ks[j]? =ks'[j]?) HA (by rw[HM.o,rB.o,zUn HE.o]);clear HA;go_wp2_with fail
          refine zAu wr.heap.size Ka Ka ?_;repeat(go_big_quiet_step(exact zFm Kl (HC _).o))
          refine wpQuiet_nil ?_;intro _ hu;obtain⟨⟨w2,hw2⟩,rfl⟩:=hu;clear l0 l1 l2 l3 rx ry rz rA lx ly HC;go_wp2
          go_roundw
          case rel=>exact⟨k+1,by omega,by go_num,hd (HR.o.trans (hw2.mono HR.o.size)),bq⟩
          case measure=>simp[intOf];omega
        ·have HF:=hd (zY5 HS.o (fun j hj=>HA.o j Kb));clear HA;go_wp2
         go_ret
         exact⟨kC HF.o.symm,HW.o.trans (HR.o.mono HW.o.size)⟩
     ·have HF:=hd (zMb (ks:=ks) (ks':=ks') (zGr (lf:=lf) (ps:=ps) (tx:=tx) (lf':=lf) (ps':=ps) (tx':=tx) (fun h=>h4 h.2.1)));have z1:((ks.length:Int)==(ks'.length:Int))=false:=by simp;omega
      have z2:((ks.length:Int) !=(ks'.length:Int))=true:=by simp;omega
      clear h4 ih cv fF;cases lf<;>
      ·go_enter Tryz.func15,Tryz.ntmps15
       exact kPj
    ·have HD:=HD false (by unfold sameL;exact decide_eq_false h3);have HF:=hd (zMb (ks:=ks) (ks':=ks') (zGr (lf:=lf) (ps:=ps) (tx:=tx) (lf':=lf) (ps':=ps) (tx':=tx') (fun h=>h3 h.2.2.2)));clear h3 ih cv fF;cases lf<;>
     ·go_enter Tryz.func15,Tryz.ntmps15
      exact kPj
   ·rw[decide_eq_false h2]at HC;have HF:=hd (zMb (ks:=ks) (ks':=ks') (zGr (lf:=lf) (ps:=ps) (tx:=tx) (lf':=lf) (ps':=ps') (tx':=tx') (fun h=>h2 h.2.2.1)));clear h2 ih cv fF HD;cases lf<;>
    ·go_enter Tryz.func15,Tryz.ntmps15
     exact kPj
  ·have HF:=hd (zMb (ks:=ks) (ks':=ks') (zGr (lf:=lf) (ps:=ps) (tx:=tx) (lf':=lf') (ps':=ps') (tx':=tx') (fun h=>h1 h.1)));clear ih cv fF HD HC;cases lf<;>cases lf'<;>first
   |exact absurd rfl h1
   | (go_enter Tryz.func15,Tryz.ntmps15
      go_wp2
      go_ret
      exact⟨kC HF.o.symm,HB.o⟩)
def kJ8 (p:Pr):Int:=(p.1.size:Int)/64+(p.2.size:Int)/64
def zG6 (m:Int)(l:List Pr):Int:=l.foldl (fun m p=>wrap64 (m-kJ8 p)) m
mutual
def zF8 :Int->NT->Int
 |m,.mk _ ps tx ks=>if zG6 (wrap64 (m-(1+tx.length+ps.length))) ps<0 then-1 else leftK (zG6 (wrap64 (m-(1+tx.length+ps.length))) ps) ks
def leftK :Int->List NT->Int
 |m,[]=>m
 |m,k::r=>if zF8 m k<0 then-1 else leftK (zF8 m k) r
end
theorem zS8 {p:Pr}(m:Int)(h:l[k]? =some p):zG6 m (l.take (k+1))=wrap64 (zG6 m (l.take k)-kJ8 p):=by
 unfold zG6;rw[zPd h,List.foldl_append];rfl
theorem kCw (h:k<l.length):l[k]? =some (jU l k):=by
 rw[zB7 l k h];exact List.getElem?_eq_getElem h
def zFf (a:Int):Prop:= -9223372036854775808<=a/\a<=9223372036854775807
theorem zZb (l:List Pr):∀m,zFf m->zFf (zG6 m l):=by
 induction l with
 |nil=>intro m h;exact h
 |cons p r ih=>intro m _;exact ih _ (zKe _)
mutual
theorem zUp :∀(n:NT)(m:Int),zFf (zF8 m n)
 |.mk _ ps tx ks,m=>by
  rw[zF8];split
  ·unfold zFf;omega
  ·exact zUq ks _ (zZb ps _ (zKe _))
theorem zUq :∀(l:List NT)(m:Int),zFf m->zFf (leftK m l)
 |[],m,h=>by rw[leftK];exact h
 |k::r,m,h=>by
  rw[leftK];split
  ·unfold zFf;omega
  ·exact zUq r _ (zUp k m)
end
theorem zWe {ks:List NT}(h:ks[k]? =some n)(hy:zF8 m n=y)(h0:¬y<0):leftK m (ks.drop k)=leftK y (ks.drop (k+1)):=by
 subst hy;rw[zCo h,leftK,if_neg h0]
theorem zWf {ks:List NT}(h:ks[k]? =some n)(hy:zF8 m n=y)(h0:y<0):leftK m (ks.drop k)= -1:=by
 subst hy;rw[zCo h,leftK,if_pos h0]
theorem zZc {ks:List NT}(h:ks.length<=k):leftK m (ks.drop k)=m:=by
 rw[List.drop_eq_nil_of_le h];rfl
theorem kCx :∀(d:Nat)(w:World)(v:Value)(n:NT)(m:Int),zFf m->zV d w w.heap.size v n->
      Calls Tryz.prog 78 #[v,.int .i64 m] w (jA (.int .i64 (zF8 m n)) w):=by
 intro d;induction d with
 |zero=>intro w v n m _ h;exact h.elim
 | succ d ih=>
  intro w v n m hm hn;obtain⟨d1,lf,ps,tx,ks,PA,pc,TA,tc,KA,kc,hd1,rfl,rfl,hp,ht,hf,hks⟩:=hn.open_;obtain rfl:d=d1:=Kb;have hb1:Below w.heap.size w (w.alloc (.cells #[.bool lf,.slice PA ps.length pc,.slice TA tx.length tc,.slice KA ks.length kc] 26)):=Kk.alloc Kl _;have HP:=hd hp;have cv:=hd hks;have HW:=hd hf.1;have bo:=hf.2.1;have hl2:=hf.2.2.1;have cC:=hf.2.2.2.1;obtain⟨m1,m2⟩:=hm;obtain⟨M,hM⟩:∃M,M=wrap64 (m-(1+tx.length+ps.length)):=⟨_,rfl⟩;have HB:=hd hb1;have uC:=hd (show zF8 m (.mk lf ps tx ks)=if zG6 M ps<0 then-1 else leftK (zG6 M ps) ks by rw[zF8,hM]);have xy:=zKe (m-(1+tx.length+ps.length));rw[<-hM]at xy;obtain⟨M1,M2⟩:=xy;have HM:=hd hM;clear hn hp ht hf hks hd1 hM hb1;go_enter Tryz.func78,Tryz.ntmps78
  go_wp2
  go_loopw [1,22] (fun z i wr=>∃(k:Nat)(y:Int),k<=ps.length/\z=.int .i64 y/\i=.int .i64 k/\Kq (zFf y)/\Kq (Below (w.alloc (.cells #[.bool lf,.slice PA ps.length pc,.slice TA tx.length tc,.slice KA ks.length kc] 26)).heap.size (w.alloc (.cells #[.bool lf,.slice PA ps.length pc,.slice TA tx.length tc,.slice KA ks.length kc] 26)) wr)/\Kq (y=zG6 M (ps.take k))) (fun _ i _=>ps.length-(intOf i).toNat)
  case atStart=>exact⟨0,M,Nat.zero_le _,by rw[HM.o],rfl,⟨M1,M2⟩,Below.refl _ _,rfl⟩
  case round=>
   obtain⟨k,y,hk,rfl,rfl,HI,HR,HY⟩:=hrel;obtain⟨I1,I2⟩:=HI.o;have hbr:=HB.o.trans (HR.o.mono HB.o.size);have hsz:=hbr.size;by_cases hlt:k<ps.length
   ·obtain⟨b,o,rfl,hlb,c1,c2⟩:=(HP.o.below hbr).at_ hlt;obtain⟨s1,s2⟩:=HW.o.at_ hlt;have xz:=hd (zS8 M (kCw hlt));rw[<-HY.o]at xz;have dA:=hd hbr;clear hbr;go_wp2
    go_roundw
    case rel=>exact⟨k+1,_,by omega,rfl,by go_num,hd (zKe _),hd (HR.o.alloc HR.o.size _),hd (by rw[xz.o];rfl)⟩
    case measure=>simp[intOf];omega
   ·have HE:=hd (show y=zG6 M ps by rw[HY.o,List.take_of_length_le Kb]);obtain⟨x0,x1,x2,x3⟩:=kHm HR.o;clear HY HP HW;by_cases hneg:y<0
    ·have HF:=hd (show zF8 m (.mk lf ps tx ks)= -1 by rw[uC.o,<-HE.o,if_pos hneg]);go_wp2
     go_ret
     exact⟨zAj HF.o.symm,hbr⟩
    ·have HF:=hd (show zF8 m (.mk lf ps tx ks)=leftK y (ks.drop 0) by rw[uC.o,<-HE.o,if_neg hneg];rfl);have dA:=hd hbr;clear hbr;go_wp2
     obtain⟨wo,hwo⟩:∃wo:World,wo=wr:=⟨_,rfl⟩;subst hwo;obtain⟨yo,AQ⟩:∃yo:Int,yo=y:=⟨_,rfl⟩;subst AQ;clear x0 x1 x2 x3 HI HE uC HR;go_loopw [1,43] (fun z i wr=>∃(k:Nat)(y:Int),k<=ks.length/\z=.int .i64 y/\i=.int .i64 k/\Kq (zFf y)/\Kq (Below w.heap.size w wr)/\Kq (zF8 m (.mk lf ps tx ks)=leftK y (ks.drop k))) (fun _ i _=>ks.length-(intOf i).toNat)
     case atStart=>exact⟨0,yo,Nat.zero_le _,rfl,rfl,⟨I1,I2⟩,dA,HF⟩
     case round=>
      clear HF I1 I2 hneg hlt dA hsz;obtain⟨k,y,hk,rfl,rfl,HI,HR,HY⟩:=hrel;obtain⟨I1,I2⟩:=HI.o;have hsz:=HR.o.size;by_cases hlt:k<ks.length
      ·obtain⟨n1,b,o,lf1,bJ,bS,bK,bL,bT,bM,bN,bU,bO,jf,rfl,hbg,dw,c0,c1,c2,c3⟩:=(cv.o.below HR.o).at_ hlt;obtain⟨wk,hwk⟩:∃wk,wk=wr.alloc (.cells #[.bool lf1,.slice bJ bS bK,.slice bL bT bM,.slice bN bU bO] 26):=⟨_,rfl⟩;have hbk:Below w.heap.size w wk:=hwk▸HR.o.alloc Kb _;have hbk2:Below wr.heap.size wr wk:=hwk▸Kk.alloc Kl _;have HC:=hd (ih wk _ n1 y ⟨I1,I2⟩ (((dw.more hsz).below hbk2).more hbk2.size));have HK:=hd hbk;obtain⟨x,hx⟩:∃x,zF8 y n1=x:=⟨_,rfl⟩;have tN:=zUp n1 y;rw[hx]at HC tN;have AR:=hd tN;by_cases hx0:x<0
       ·have HG:=hd (HY.o.trans (zWf jf hx hx0));subst hwk;clear jf dw hbk hbk2 hx cv HY tN;go_wp2_with(first|(refine HC.o.mono ?_;rintro e w' ⟨rfl,hb'⟩))
        go_ret
        exact⟨zAj HG.o.symm,HK.o.trans (hb'.mono HK.o.size)⟩
       ·have HG:=hd (HY.o.trans (zWe jf hx hx0));subst hwk;clear jf dw hbk hbk2 hx cv HY tN;go_wp2_with(first|(refine HC.o.mono ?_;rintro e w' ⟨rfl,hb'⟩))
        go_roundw
        case rel=>exact⟨k+1,x,by omega,rfl,by go_num,AR,hd (HK.o.trans (hb'.mono HK.o.size)),HG⟩
        case measure=>simp[intOf];omega
      ·have HG:=hd (HY.o.trans (zZc Kb));clear HY;go_wp2
       go_ret
       exact⟨zAj HG.o.symm,HR.o⟩
def zI5 (m:Int)(n:NT):Bool:=decide (0<=zF8 m n)
theorem zO3 (d:Nat)(w:World)(v:Value)(n:NT)(m:Int)(hm:zFf m)(hn:zV d w w.heap.size v n):Calls Tryz.prog 36 #[v,.int .i64 m] w (jA (.bool (zI5 m n)) w):=by
 have hn0:=hn;obtain⟨d',lf,ps,tx,ks,PA,pc,TA,tc,KA,kc,hd',rfl,rfl,hp,ht,hf,hks⟩:=hn.open_;have hb1:Below w.heap.size w (w.alloc (.cells #[.bool lf,.slice PA ps.length pc,.slice TA tx.length tc,.slice KA ks.length kc] 26)):=Kk.alloc Kl _;have HC:=hd (kCx d _ _ _ m hm (hn0.later hb1));obtain⟨y,hy⟩:∃y,y=zF8 m (.mk lf ps tx ks):=⟨_,rfl⟩;rw[<-hy]at HC;have HF:=hd (show zI5 m (.mk lf ps tx ks)=decide (0<=y) by rw[hy];rfl);have HB:=hd hb1;clear hn hn0 hp ht hf hks hd' hb1 hm hy;go_enter Tryz.func36,Tryz.ntmps36
 go_wp2_with(first|(refine HC.o.mono ?_;rintro e w' ⟨rfl,hb⟩))
 go_ret
 exact⟨kC HF.o.symm,HB.o.trans (hb.mono HB.o.size)⟩
theorem kCy (s:ByteArray)(l:List Int)(n:Nat)(hn:l.length=n)(hl:Conv.runesFrom s s.size 0 #[]=(rv l).toArray)(hsz:n<=1000):∃(c:World->Nat)(row:World->Array Value),(∀w,n<=c w)/\
  (∀w,(convert 9 23 (.string s)).run Tryz.prog w=.ok (.slice (some ⟨w.heap.size,0,none⟩) n (c w)) (w.drew.alloc (.cells (row w) 21)))/\∀(w:World)(k:Nat)(u:Value),(rv l)[k]? =some u->(row w)[k]? =some u:=by
 subst hn;refine⟨fun w=>grownCap w l.length 0 21,fun w=>(rv l).toArray++Array.replicate (grownCap w l.length 0 21-l.length) (.int .i32 0),fun w=>grownCap_ge w _ _ _,fun w=>?_,fun w k u h=>?_⟩
 ·have h:=run_runes_of_string w 9 23 21 s Tryz.underlying9 Tryz.underlying23 Tryz.underlying21 (by rw[hl];simp[rv];omega);rw[hl]at h;simpa[rv]using h
 ·have hk:k<(rv l).length:=(List.getElem?_eq_some_iff.1 h).1;rw[Array.getElem?_append_left (by simpa using hk)];simpa using h
theorem zO4 (s:ByteArray)(l:List Int)(n:Nat)(hn:l.length=n)(hl:Conv.runesFrom s s.size 0 #[]=(rv l).toArray)(hsz:n<=1000)(w:World):
  Calls Tryz.prog 35 #[.string s,.slice none 0 0] w fun e w'=>∃(g c:Nat),e=.returned (.agg #[.bool true,.slice none 0 0,.slice (some ⟨g,0,none⟩) n c,.slice none 0 0])/\VL w' w'.heap.size (some ⟨g,0,none⟩) (rv l)/\Below w.heap.size w w'/\n<=c:=by
 obtain⟨c,row,hcn,h1,h2⟩:=kCy s l n hn hl hsz;obtain⟨wb,hwb⟩:∃wb,wb=w.alloc (.cells #[.bool false,.slice none 0 0,.slice none 0 0,.slice none 0 0] 26):=⟨_,rfl⟩;have h3:=h1 wb;have h4:=h2 wb;obtain⟨C,hC⟩:∃C,C=c wb:=⟨_,rfl⟩;obtain⟨R,hR⟩:∃R,R=row wb:=⟨_,rfl⟩;rw[<-hC,<-hR]at h3;rw[<-hR]at h4;have hs:wb.heap.size=w.heap.size+1:=by rw[hwb];simp
 rw[hs]at h3;have H4:=hd h4;have AU:=hd (show n<=C by rw[hC];exact hcn _);clear hC hR h1 h2 h4 hl hn hs hcn;subst hwb;go_enter Tryz.func35,Tryz.ntmps35
 go_wp2
 refine bodyPost_ret (v:=.agg #[.bool true,.slice none 0 0,.slice (some ⟨w.heap.size+1,0,none⟩) n C,.slice none 0 0]) (by simp[results,Tryz.results35,go_sem]) rfl ⟨w.heap.size+1,C,rfl,?_,?_,AU.o⟩
 ·intro _;refine⟨w.heap.size+1,0,rfl,by simp,fun k u hk=>?_⟩;show(((w.alloc _).alloc _).drew).cell? _=_
  have e:∀o:Obj,((w.alloc o).alloc (.cells R 21)).cell? ⟨w.heap.size+1,0+k,none⟩=R[0+k]? :=fun o=>World.cell?_alloc_at _ _ _ _ Kc;exact(e _).trans (by rw[Nat.zero_add];exact H4.o k u hk)
 ·exact((Kk.alloc Kl _).alloc Kc _).drew
theorem kG6 :Conv.runesFrom {data:=#[97]} (ByteArray.size {data:=#[97]}) 0 #[]=(rv [97]).toArray:=Ka
theorem kCz :Conv.runesFrom {data:=#[98,99]} (ByteArray.size {data:=#[98,99]}) 0 #[]=(rv [98,99]).toArray:=Ka
theorem kFh (KA:Option Addr)(nk kc:Nat)(w:World):
  Calls Tryz.prog 34 #[.string {data:=#[112]},.slice KA nk kc] w fun e w'=>∃(g c:Nat),e=.returned (.agg #[.bool false,.slice (some ⟨g,0,none⟩) 1 c,.slice none 0 0,.slice KA nk kc])/\PL w' w'.heap.size (some ⟨g,0,none⟩) [(tyKey,{data:=#[112]})]/\Below w.heap.size w w'/\1<=c:=by
 go_enter Tryz.func34,Tryz.ntmps34
 go_wp2
 refine bodyPost_ret (v:=.agg #[.bool false,.slice (some ⟨w.heap.size+1+1,0,none⟩) 1 1,.slice none 0 0,.slice KA nk kc]) (by simp[results,Tryz.results34,go_sem]) rfl ⟨w.heap.size+1+1,1,rfl,?_,?_,Nat.le_refl _⟩
 ·intro _;refine⟨w.heap.size+1+1,0,rfl,by simp,fun k hk=>?_⟩;obtain rfl:k=0:=by simp at hk;omega
  constructor<;>(rw[World.cell?_alloc_at _ _ _ _ Kc];rfl)
 ·exact((Kk.alloc Kl _).alloc Kc _).alloc Kf _
def exT :NT:=.mk false [(tyKey,{data:=#[112]})] [] [.mk true [] [97] [],.mk true [] [98,99] []]
theorem zS9 {n:Nat}{l:List Int}(hl:l.length=n)(hn:n<=1000)(hc:n<=c)(h:VL w w.heap.size (some ⟨g,0,none⟩) (rv l)):zV 1 w w.heap.size (.agg #[.bool true,.slice none 0 0,.slice (some ⟨g,0,none⟩) n c,.slice none 0 0]) (.mk true [] l []):=by
 subst hl;exact zV.shut rfl rfl rfl (PL.nil _ _ _) h ⟨⟨by simp,by simp⟩,by simp,by omega,by simp,by simp,hc,by simp⟩ (fun k m hk=>by simp at hk)
theorem zZd :∀p ∈ [((tyKey,{data:=#[112]}):Pr)],p.1.size<=9223372036854775807/\p.2.size<=9223372036854775807:=fun p hp=>by
 rw[List.mem_singleton]at hp;subst hp;exact⟨by show(4:Nat)<=_;omega,by show(1:Nat)<=_;omega⟩
theorem kG7 {gp cp g1 c1 g2 c2:Nat}(cT:1<=cp)(hc1:1<=c1)(hc2:2<=c2)(hp:PL w w.heap.size (some ⟨gp,0,none⟩) [(tyKey,{data:=#[112]})])(h1:VL w w.heap.size (some ⟨g1,0,none⟩) (rv [97]))(h2:VL w w.heap.size (some ⟨g2,0,none⟩) (rv [98,99]))(hb:b<w.heap.size)
  (hc:∀j u,#[Value.bool true,.slice none 0 0,.slice (some ⟨g1,0,none⟩) 1 c1,.slice none 0 0,.bool true,.slice none 0 0,.slice (some ⟨g2,0,none⟩) 2 c2,.slice none 0 0][j]? =some u->w.cell? ⟨b,j,none⟩=some u):
  zV 2 w w.heap.size (.agg #[.bool false,.slice (some ⟨gp,0,none⟩) 1 cp,.slice none 0 0,.slice (some ⟨b,0,none⟩) 2 2]) exT:=by
 refine zV.shut rfl rfl rfl hp (VL.nil _ _ _) ⟨⟨by simp,zZd⟩,by simp,by simp,by simp,by simpa using cT,by simp,by simp⟩ (fun k m hk=>?_);match k,hk with
 |0,hk=>
  simp at hk;subst hk;exact⟨b,0,_,rfl,hb,zS9 rfl Kc hc1 h1,_,_,_,_,rfl,hc 0 _ rfl,hc 1 _ rfl,hc 2 _ rfl,hc 3 _ rfl⟩
 |1,hk=>
  simp at hk;subst hk;exact⟨b,0,_,rfl,hb,zS9 rfl Kc hc2 h2,_,_,_,_,rfl,hc 4 _ rfl,hc 5 _ rfl,hc 6 _ rfl,hc 7 _ rfl⟩
 |k+2,hk=>simp at hk
theorem zEu {o:Obj}(h:Below (w.alloc o).heap.size (w.alloc o) w'):Below w.heap.size w w':=(Kk.alloc Kl _).trans (h.mono Kc)
theorem kJ9 {o:Obj}(h:Below (w.alloc o).heap.size (w.alloc o) w'):w.heap.size<w'.heap.size:=by have:=h.size;simp at this;omega
def Box (w:World)(b:Nat)(u0 u1 u2 u3:Value):Prop:=w.cell? ⟨b,0,none⟩=some u0/\w.cell? ⟨b,1,none⟩=some u1/\w.cell? ⟨b,2,none⟩=some u2/\w.cell? ⟨b,3,none⟩=some u3
theorem Box.keep (h:Box w b u0 u1 u2 u3)(hb:Below w.heap.size w w'):Box w' b u0 u1 u2 u3:=
 ⟨(hb.cell (kQ h.1)).trans h.1,(hb.cell (kQ h.2.1)).trans h.2.1,(hb.cell (kQ h.2.2.1)).trans h.2.2.1,(hb.cell (kQ h.2.2.2)).trans h.2.2.2⟩
theorem Box.new (w:World)(u0 u1 u2 u3:Value)(t:TypeId):Box (w.alloc (.cells #[u0,u1,u2,u3] t)) w.heap.size u0 u1 u2 u3:=by
 refine⟨?_,?_,?_,?_⟩<;>(rw[World.cell?_alloc_at _ _ _ _ rfl];rfl)
theorem Box.alloc (h:Box w b u0 u1 u2 u3)(o:Obj):Box (w.alloc o) b u0 u1 u2 u3:=h.keep (Kk.alloc Kl o)
theorem zV.val {d:Nat}{v:Value}(h:zV d w B v n):∃lf PA np pc TA nt tc KA nk kc,v=.agg #[.bool lf,.slice PA np pc,.slice TA nt tc,.slice KA nk kc]:=by
 obtain⟨d',lf,ps,tx,ks,PA,pc,TA,tc,KA,kc,_,_,e,_⟩:=h.open_;exact⟨_,_,_,_,_,_,_,_,_,_,e⟩
open Go.WideShapes (add_plain)
def kKa (w:World)(b q:Nat)(u:Value):Prop:=w.cell? ⟨b,q,none⟩=some u/\w.frozen? ⟨b,q,none⟩=false
def VP (P:Nat->Prop)(w:World)(A:Option Addr)(xs:List Value):Prop:=∀k u,xs[k]? =some u->∃b o,A=some ⟨b,o,none⟩/\P b/\kKa w b (o+k) u
def pv (l:List Pr):List Value:=l.flatMap fun p=>[.string p.1,.string p.2]
def zAx (P:Nat->Prop):Nat->World->Value->NT->Prop
 |0,_,_,_=>False
 |d+1,w,v,n=>∃PA pc TA tc KA kc,v=.agg #[.bool n.lf,.slice PA n.ps.length pc,.slice TA n.tx.length tc,.slice KA n.ks.length kc]/\VP P w PA (pv n.ps)/\VP P w TA (rv n.tx)/\zU0 n.ps n.tx.length n.ks.length pc tc kc/\
   ∀k m,n.ks[k]? =some m->∃b o u,KA=some ⟨b,o,none⟩/\P b/\zAx P d w u m/\zK1 w b (o+k*4) u/\w.frozen? ⟨b,o+k*4,none⟩=false
theorem VP.keep (h:VP P w A xs)(im:∀b,P b->Q b)(hk:∀p:Addr,P p.block->w'.cell? p=w.cell? p/\w'.frozen? p=w.frozen? p):VP Q w' A xs:=fun k u hu=>by
 obtain⟨b,o,e,hb,h1,h2⟩:=h k u hu;exact⟨b,o,e,im b hb,(hk ⟨b,o+k,none⟩ hb).1.trans h1,(hk ⟨b,o+k,none⟩ hb).2.trans h2⟩
theorem zAx.keep (im:∀b,P b->Q b)(hk:∀p:Addr,P p.block->w'.cell? p=w.cell? p/\w'.frozen? p=w.frozen? p):∀{d:Nat}{v:Value}{n:NT},zAx P d w v n->zAx Q d w' v n
 |0,_,_,h=>h
 |d+1,_,_,⟨PA,pc,TA,tc,KA,kc,e,hp,ht,hf,hks⟩=>⟨PA,pc,TA,tc,KA,kc,e,hp.keep im hk,ht.keep im hk,hf,fun k m hm=>by
   obtain⟨b,o,u,e1,hb,hn,hc,hz⟩:=hks k m hm;exact⟨b,o,u,e1,im b hb,hn.keep im hk,hc.keep fun p hp=>(hk p (by rw[hp];exact hb)).1,(hk ⟨b,o+k*4,none⟩ hb).2.trans hz⟩⟩
theorem zZe (p:Pr)(l:List Pr):pv (p::l)=.string p.1::.string p.2::pv l:=rfl
theorem zN8 (l:List Pr):(pv l).length=l.length*2:=by
 induction l with
 |nil=>rfl
 |cons p r ih=>rw[zZe];simp only[List.length_cons,ih];omega
theorem zZf (l:List Pr):∀(k:Nat),k<l.length->(pv l)[k*2]? =some (.string (jU l k).1)/\(pv l)[k*2+1]? =some (.string (jU l k).2):=by
 induction l with
 |nil=>intro k hk;simp at hk
 |cons p r ih=>
  intro k hk;rw[zZe];cases k with
  |zero=>exact⟨rfl,rfl⟩
  |succ k=>
   have:=ih k (by simpa using hk);rw[show(k+1)*2=k*2+1+1 by omega,show k*2+1+1+1=k*2+1+1+1 from rfl];simp only[List.getElem?_cons_succ];exact this
theorem zZg (l:List Pr):∀u ∈ pv l,u.oneCell'=true:=by
 intro u hu;obtain⟨p,_,hp⟩:=List.mem_flatMap.1 hu;simp only[List.mem_cons,List.not_mem_nil,or_false]at hp;rcases hp with rfl|rfl<;>rfl
theorem VP.pl (h:VP P w A (pv l))(hP:∀b,P b->b<B):PL w B A l:=fun hn=>by
 have hl:0<l.length:=List.length_pos_iff.2 hn;obtain⟨b,o,e,hb,h0,_⟩:=h (0*2) _ (zZf l 0 hl).1;refine⟨b,o,e,hP b hb,fun k hk=>?_⟩;obtain⟨b1,o1,e1,_,h1,_⟩:=h (k*2) _ (zZf l k hk).1;obtain⟨b2,o2,e2,_,h2,_⟩:=h (k*2+1) _ (zZf l k hk).2;rw[e]at e1 e2;injection e1 with e1;injection e1 with a1 a2;injection e2 with e2;injection e2 with a3 a4;subst a1 a2 a3 a4;exact⟨h1,by rw[<-Nat.add_assoc]at h2;exact h2⟩
theorem VP.vl (h:VP P w A xs)(hP:∀b,P b->b<B):VL w B A xs:=fun hn=>by
 cases xs with
 |nil=>exact absurd rfl hn
 |cons x r=>
  obtain⟨b,o,e,hb,_,_⟩:=h 0 x rfl;refine⟨b,o,e,hP b hb,fun k u hk=>?_⟩;obtain⟨b1,o1,e1,_,h1,_⟩:=h k u hk;rw[e]at e1;injection e1 with e1;injection e1 with a1 a2;subst a1 a2;exact h1
theorem zAx.at_ (hP:∀b,P b->b<B):∀{d:Nat}{v:Value}{n:NT},zAx P d w v n->zV d w B v n
 |0,_,_,h=>h
 |d+1,_,_,⟨PA,pc,TA,tc,KA,kc,e,hp,ht,hf,hks⟩=>⟨PA,pc,TA,tc,KA,kc,e,hp.pl hP,ht.vl hP,hf,fun k m hm=>by
   obtain⟨b,o,u,e1,hb,hn,hc,_⟩:=hks k m hm;exact⟨b,o,u,e1,hP b hb,hn.at_ hP,hc⟩⟩
theorem PL.vl (h:PL w B A l):VL w B A (pv l):=fun hn=>by
 obtain⟨b,o,e,hb,hc⟩:=h (by rintro rfl;exact hn rfl);refine⟨b,o,e,hb,fun k u hu=>?_⟩;have hk:k<(pv l).length:=(List.getElem?_eq_some_iff.1 hu).1;rw[zN8]at hk;obtain⟨q,hq⟩:∃q,k=q*2∨k=q*2+1:=⟨k/2,by omega⟩;rcases hq with rfl|rfl
 ·rw[(zZf l q Kb).1]at hu;injection hu with hu;rw[<-hu];exact(hc q Kb).1
 ·rw[(zZf l q Kb).2]at hu;injection hu with hu;rw[<-hu,<-Nat.add_assoc];exact(hc q Kb).2
structure zQ7 (ts te:TypeId)(size by_:Nat):Prop where
 under:Tryz.prog.underlying ts=some (.slice te)
 info:∃i z,Tryz.prog.info? te=some i/\i.zero=some z/\i.size=size/\i.bytes=by_/\z.cells.size=size
 pos:0<size
theorem kC0 :(Tryz.prog.info? 94).map (fun i=>(i.zero,i.size,i.bytes))=some (some (.agg #[.string ByteArray.empty,.string ByteArray.empty]),2,32):=Ka
theorem zJj :(Tryz.prog.info? 26).map (fun i=>(i.zero,i.size,i.bytes))=some (some (.agg #[.bool false,.slice none 0 0,.slice none 0 0,.slice none 0 0]),4,80):=Ka
theorem zZh :zQ7 22 94 2 32:=⟨Tryz.underlying22,by
 obtain⟨i0,hi,hz0,hz1,hz2⟩:=info_parts kC0;exact⟨i0,_,hi,hz0,hz1,hz2,rfl⟩,by decide⟩
theorem zTa :zQ7 23 21 1 4:=⟨Tryz.underlying23,by
 obtain⟨i0,hi,hz0,hz1,hz2⟩:=info_parts zOt;exact⟨i0,_,hi,hz0,hz1,hz2,rfl⟩,by decide⟩
theorem zWg :zQ7 24 26 4 80:=⟨Tryz.underlying24,by
 obtain⟨i0,hi,hz0,hz1,hz2⟩:=info_parts zJj;exact⟨i0,_,hi,hz0,hz1,hz2,rfl⟩,by decide⟩
theorem kC1 {a:Nat}(h:a*b<=140737488355328):(a:Int)*(b:Int)<=281474976710656:=by
 have h1:((a*b:Nat):Int)<=140737488355328:=Kb;rw[Int.natCast_mul]at h1;omega
theorem zGt {size:Nat}(E:zQ7 ts te size by_)(n:Nat)(hn:by_*n<=140737488355328)(h63:n<=9223372036854775807):∃cs:Array Value,cs.size=n*size/\∀w:World,(Instr.makeSlice ts (.int .i64 0) (.int .i64 (n:Int))).run Tryz.prog w=.ok (.slice (some ⟨w.heap.size,0,none⟩) 0 n) (w.alloc (.cells cs te)):=by
 obtain⟨i0,z,hi,hz0,hz1,hz2,hz3⟩:=E.info;refine⟨madeCells z.cells (n*size),size_madeCells _ _,fun w=>?_⟩;have h:=run_make (P:=Tryz.prog) w ts te i0 z E.under hi hz0 .i64 .i64 0 (n:Int) Kb Kb (by rw[hz2];exact kC1 hn) Kb;rw[h,hz1];simp
def kC2 (size:Nat)(n:Nat)(xs:List Value)(w:World)(e:Ending)(w':World):Prop:=
 ∃g c,e=.returned (.slice (some ⟨g,0,none⟩) n c)/\w.heap.size<=g/\g<w'.heap.size/\(∀k u,xs[k]? =some u->kKa w' g k u)/\Below w.heap.size w w'/\xs.length=n*size/\n<=c
theorem zHn {t:TypeId}{size n:Nat}{base:Nat}(h:w'.ownsRow base t size (.slice (some ⟨g,0,none⟩) n c) n xs):base<=g/\g<w'.heap.size/\(∀k u,xs[k]? =some u->kKa w' g k u)/\n<=c:=by
 have hc:=h.cells (g:=g) rfl;rcases h.2 with⟨e,_⟩|⟨g',cap,cur,e,hb,hh,hnc,_⟩
 ·simp at e
 ·simp only[Value.slice.injEq,Option.some.injEq,Addr.mk.injEq,and_true,true_and]at e;obtain⟨rfl,e2⟩:=e;refine⟨hb,lt_of_block hh,fun k u hu=>⟨?_,by simp[World.frozen?,hh]⟩,by omega⟩;have:=hc k u hu;rwa[add_plain,Nat.zero_add]at this
theorem zBr {size:Nat}(E:zQ7 ts te size by_)(W:World){ops:Array Oper}{rest:List Oper}{o:Oper}{a:Act}{Q:Exit->Act->World->Prop}(hgd:o.guard=none)(s x:Operand)
  (ho:o.op=.call {callee:=.builtin .append,args:=#[s,x],argTypes:=#[ts,ts]})
  (b:Nat) (v:Value) (n:Nat) (k:List Value) (hs:a.eval s=v) {g0 n0 c0:Nat} (hO:W.ownsRow b te size v n k) (A:Option Addr) (m c B:Nat) (l:List Value) (hx:a.eval x=.slice A m c) (hn:l.length=m*size) (hp:VL W B A l) (h1:∀u ∈ l,u.oneCell'=true)
  (h63:n+m<=maxLen) (hby:(n+m)*by_<=140737488355328) (hb:b<=W.heap.size) (hv:v=.slice (some ⟨g0,0,none⟩) n0 c0)
  (hK:∀g cap w',w'.ownsRow b te size (.slice (some ⟨g,0,none⟩) (n+m) cap) (n+m) (k++l)->W.grownBy w' v.ownBlock->wpList Tryz.prog ops Q rest (a.put o.dst (.slice (some ⟨g,0,none⟩) (n+m) cap)) w'):
  wpList Tryz.prog ops Q (o::rest) a W:=by
 obtain⟨i0,z,hi,hz0,hz1,hz2,hz3⟩:=E.info;have hsz:=E.pos;rcases A with _|ad
 ·have hl:l=[]:=by
   rcases Classical.em (l=[])with h|h
   ·exact h
   ·obtain⟨_,_,h,_⟩:=hp h;cases h
  subst hl;have hm:m=0:=by
   rcases Nat.eq_zero_or_pos m with h|h
   ·exact h
   ·have:=Nat.mul_pos h hsz;simp at hn;omega
  subst hm;have gI:=hO;rcases hO.2 with⟨e,_⟩|⟨g,cap,cur,e,_⟩
  ·rw[hv]at e;cases e
  ·subst e;refine zDh hgd s x ts ho b te i0 size E.under hi _ n k hs gI c hx ?_;have:=hK g cap W (by simpa using gI) (⟨rfl,rfl,rfl,Nat.le_refl _,fun _ _ _=>rfl⟩);simpa using this
 ·refine wpList_append_own _ hgd s x ts ho b te i0 _ size by_ E.under hi hz0 hz1 hz2 hz3 hsz v n k hs hO ad m c l hx hn ?_ h1 h63 hby hb (fun v' w' h1 h2 h3=>?_)
  ·intro j u hj;have hjl:j<l.length:=(List.getElem?_eq_some_iff.1 hj).1;obtain⟨b',o',e,_,h⟩:=hp (by rintro rfl;simp at hjl);injection e with e;subst e;rw[add_plain,h j u hj]
  ·rcases h1.2 with⟨e,h0⟩|⟨g,cap,cur,e,_⟩
   ·exact absurd (h3.1 e).1 (by rw[hv];simp)
   ·subst e;exact hK g cap w' h1 h2
theorem zWh (A:Option Addr)(ps:List Pr)(c:Nat)(w:World)(hl:ps.length<=4398046511104)(hp:PL w w.heap.size A ps):Calls Tryz.prog 125 #[.slice A ps.length c] w (kC2 2 ps.length (pv ps) w):=by
 obtain⟨cs,hcs,hmk⟩:=zGt zZh ps.length Kb Kb;have hv:VL w w.heap.size A (pv ps):=hp.vl;have HV:=hd hv;have kp:=hd hcs;clear hp hv hcs;go_enter Tryz.func125,Tryz.ntmps125
 go_wp2_with(at_builtin;refine zBr zZh _ rfl (.tmp 5) (.tmp 6) rfl w.heap.size (.slice (some ⟨w.heap.size,0,none⟩) 0 ps.length) 0 [] rfl (World.ownsRow_made w cs ps.length Kl Kg kp.o) A ps.length c w.heap.size (pv ps) rfl (by rw[zN8]<;>omega) (HV.o.below (Kk.alloc Kl _)) (zZg ps) Kg Kb Kc rfl ?_;intro g cap w1 aF hg1)
 go_ret
 have h1:=zHn (by rw[Nat.zero_add,List.nil_append]at aF;exact aF);exact⟨g,cap,rfl,h1.1,h1.2.1,h1.2.2.1,(Kk.alloc Kl _).grown hg1 Kc (fun j hj=>by simp[Value.ownBlock]at hj;omega),by rw[zN8]<;>omega,h1.2.2.2⟩
theorem zWi (A:Option Addr)(ps:List Int)(c:Nat)(w:World)(hl:ps.length<=35184372088832)(hp:VL w w.heap.size A (rv ps)):Calls Tryz.prog 126 #[.slice A ps.length c] w (kC2 1 ps.length (rv ps) w):=by
 obtain⟨cs,hcs,hmk⟩:=zGt zTa ps.length Kb Kb;have hv:VL w w.heap.size A (rv ps):=hp;have HV:=hd hv;have kp:=hd hcs;clear hp hv hcs;go_enter Tryz.func126,Tryz.ntmps126
 go_wp2_with(at_builtin;refine zBr zTa _ rfl (.tmp 5) (.tmp 6) rfl w.heap.size (.slice (some ⟨w.heap.size,0,none⟩) 0 ps.length) 0 [] rfl (World.ownsRow_made w cs ps.length Kl Kg kp.o) A ps.length c w.heap.size (rv ps) rfl (by rw[zCg]<;>omega) (HV.o.below (Kk.alloc Kl _)) (zNz ps) Kg Kb Kc rfl ?_;intro g cap w1 aF hg1)
 go_ret
 have h1:=zHn (by rw[Nat.zero_add,List.nil_append]at aF;exact aF);exact⟨g,cap,rfl,h1.1,h1.2.1,h1.2.2.1,(Kk.alloc Kl _).grown hg1 Kc (fun j hj=>by simp[Value.ownBlock]at hj;omega),by rw[zCg]<;>omega,h1.2.2.2⟩
