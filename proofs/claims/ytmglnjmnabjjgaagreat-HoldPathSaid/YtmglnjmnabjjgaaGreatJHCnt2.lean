import Derived.Test.YtmglnjmnabjjgaaGreatJLFrW
set_option maxRecDepth 100000
set_option maxHeartbeats 8000000
namespace Go.Proofs.YtmglnjmnabjjgaaGreat
open Go.RowKit
variable {a:OpP}{g k n r x y:NT}{p q rb u:List Int}{cp i lp:Nat}{ec lb lk:Int}{kb kk:List NT}{w w0:World}{v:Value}{F:Nat->Prop}{A:Option Addr}{c:NC}
structure Cnt (a:OpP)(g g':NT):Prop where
 le:∀l,0<=l->cntT l g'<=cntT l g
 rem:a.k=2->∀s z l,0<=l->kB g (a.q++s)=some z->kOo z=some l->cntT l g'+1<=cntT l g
 mer:a.k=3->∀z l,0<=l->kB g a.q=some z->kOo z=some l->cntT l g'+1<=cntT l g
theorem kT9 (l x:Int)(a:Bool)(b:List Pr)(t:List Int)(ks:List NT):cntT l (.mk a b (x::t) ks)=(if x=l then 1 else 0)+cntK l ks:=by simp[cntT]
theorem kX7 (h2:a.k≠2)(h3:a.k≠3):Cnt a g g:=⟨fun _ _=>Nat.le_refl _,fun h=>absurd h h2,fun h=>absurd h h3⟩
theorem kX8 {m:NT}(e:a.k=1)(hx:kB g u=some x):Cnt a g (putT g u (jS x i 0 [fgT m])):=by
 refine⟨fun l h0=>?_,fun h=>by omega,fun h=>by omega⟩;have h1:=kOt l u g x (jS x i 0 [fgT m]) hx;have h2:=kPx l x i 0 [fgT m];rw[List.take_zero]at h2;simp only[cntK,kWg h0,Nat.add_zero]at h2;omega
theorem kX9 (p1:a.q=u++[(i:Int)])(hx:kB g u=some x)(hk:x.ks[i]? =some k)(h3:a.k≠3):Cnt a g (putT g u (jS x i 1 [])):=by
 have key:∀l,cntT l (putT g u (jS x i 1 []))+cntT l k=cntT l g:=fun l=>by
  have h1:=kOt l u g x (jS x i 1 []) hx;have h2:=kPx l x i 1 [];rw[kQr hk]at h2;simp only[cntK,Nat.add_zero]at h2;omega
 refine⟨fun l _=>by have:=key l;omega,fun _ s z l _ hz hl=>?_,fun h=>absurd h h3⟩;rw[p1,jJ,kN2 hx hk]at hz;have:=kOu (l:=l) (show kB k s=some z from hz);have:=kOn hl;have:=key l;omega
theorem kYa {rk:List Int}(p1:a.q=u++[((i+1:Nat):Int)])(hx:kB g u=some x)(hb:x.ks[i]? =some (.mk false [] (lb::rb) kb))(hk:x.ks[i+1]? =some (.mk false [] (lk::rk) kk))(h2:a.k≠2):Cnt a g (putT g u (jS x i 2 [.mk false [] (lb::(rb++rk)) (kb++kk)])):=by
 have key:∀l,cntT l (putT g u (jS x i 2 [.mk false [] (lb::(rb++rk)) (kb++kk)]))+cntT l (.mk false [] (lk::rk) [])=cntT l g:=fun l=>by
  have h1:=kOt l u g x (jS x i 2 [.mk false [] (lb::(rb++rk)) (kb++kk)]) hx;have h2:=kPx l x i 2 [.mk false [] (lb::(rb++rk)) (kb++kk)];rw[kUt hb hk]at h2;simp only[cntK,kT9,kOj]at h1 h2⊢;omega
 refine⟨fun l _=>by have:=key l;omega,fun h=>absurd h h2,fun _ z l _ hz hl=>?_⟩;rw[p1,kN2 hx hk]at hz;injection hz with hz;subst hz;have h3:1<=cntT l (.mk false [] (lk::rk) []):=kOn hl;have:=key l;omega
theorem kWj {rk rk' rt:List Int}{k1 k2:List NT}(p1:a.q=u++[(i:Int)])(hy:kB g u=some y)(hk:y.ks[i]? =some (.mk false [] (lk::rk) kk))(h2:a.k≠2)(h3:a.k≠3)(hks:k1++k2=kk):Cnt a g (putT (putT g a.q (.mk false [] (lk::rk') k1)) u (jS (setK y i (.mk false [] (lk::rk') k1)) (i+1) 0 [.mk false [] (-2::rt) k2])):=by
 refine⟨fun l h0=>?_,fun h=>absurd h h2,fun h=>absurd h h3⟩;rw[p1,(zZj hy hk).2];have e1:=kOt l u g y (jS y i 1 [.mk false [] (lk::rk') k1,.mk false [] (-2::rt) k2]) hy;have e2:=kPx l y i 1 [.mk false [] (lk::rk') k1,.mk false [] (-2::rt) k2];rw[kQr hk]at e2;subst hks;simp only[cntK,kT9,kOj]at e1 e2⊢;rw[if_neg (show¬(-2:Int)=l by omega)]at e2;omega
theorem kYb {y2:NT}{t:List Int}{j:Nat}(e:a.k=5)(hy:kB g u=some y)(hk:y.ks[i]? =some k)(hy2:kB (putT g u (jS y i 1 [])) t=some y2):Cnt a g (putT (putT g u (jS y i 1 [])) t (jS y2 j 0 [k])):=by
 refine⟨fun l h0=>?_,fun h=>by omega,fun h=>by omega⟩;have h1:=kOt l u g y (jS y i 1 []) hy;have h2:=kPx l y i 1 [];rw[kQr hk]at h2;simp only[cntK,Nat.add_zero]at h2;have h3:=kOt l t _ y2 (jS y2 j 0 [k]) hy2;have h4:=kPx l y2 j 0 [k];rw[List.take_zero]at h4;simp only[cntK,Nat.add_zero]at h4;omega
theorem kXe {rb':List Int}(h2:a.k≠2)(h3:a.k≠3)(hy:kB g q=some (.mk false [] (lb::rb) kb)):Cnt a g (putT g q (.mk false [] (lb::rb') kb)):=by
 refine⟨fun l h0=>?_,fun h=>absurd h h2,fun h=>absurd h h3⟩;have h1:=kOt l q g _ (.mk false [] (lb::rb') kb) hy;simp only[kT9]at h1;omega
theorem kXf (h:p=q∨(q.length<p.length/\∀j,j<q.length->iAt q j=iAt p j)):∃r,p=q++r:=by
 rcases h with rfl|⟨s1,s2⟩
 ·exact⟨[],by simp⟩
 ·refine⟨p.drop q.length,?_⟩;have e3:p.take q.length=q:=by
   refine zL1 Kf (fun j hj=>?_);simp at hj;rw[jY _ _ Kf,List.getElem_take,<-jY _ _ Kb];exact(s2 j Kb).symm
  conv=>lhs;rw[<-List.take_append_drop q.length p,e3]
theorem kVd {o:OC}(hG:Gh w v g F)(hF:∀q,F q->w0.heap.size<=q/\q<w.heap.size)(ho:OkA w0 o a)(hw:Below w0.heap.size w0 w)(ta:zAf a)(h1:1<=a.k)(h8:a.k<=8)(hd:doO n a=(r,0))(hs:kRu g n=true)(hn:sizeT n<=1000)(hc:zAh n=0)(hm:a.k=1->sizeT a.n<=1000):∃g',kT1 a g g'/\Cnt a g g'/\Calls Tryz.prog 17 #[v,.agg o.row] w (kSo F v g' w):=by
 have hk:=ho.hk;have hmx:∀u x,kB n u=some x->x.ks.length<9223372036854775807:=fun u x hx=>by have:=(kNp hn hx).1;omega
 rcases zC7 h1 h8 hd with⟨e,h⟩|⟨e,h⟩|⟨e,h⟩|⟨e,h⟩|⟨e,h⟩|⟨e,h⟩|⟨e,h⟩|⟨e,h⟩
 ·obtain⟨u,i,x,p1,p2,p3,p4,p5⟩:=zD7 (zCd h).2;obtain⟨y,hy,hyx⟩:=kOd u g n x hs p2;have hl:=(kNo hyx).2.1;have hf:=kNp hn p2;refine⟨_,kT1.mk Kb fun p p' z hz hmv=>?_,kX8 e hy,kYe hG hF ho hw ta Kb p1 hy Kb Kb (by have:=hm e;omega)⟩;have hb:=jD hmv Kb;rw[e,zJc (.inl rfl),p1]at hb;obtain⟨z',g1,g2⟩:=zJl (m:=fgT (kQe a.n 0)) (i:=i) hy Kb hz;rw[hb]at g1;exact⟨z',g1,g2.lab⟩
 ·obtain⟨hc2,_⟩:=zCl h;obtain⟨u,i,x,k,p1,p2,p3,p4,p5⟩:=zBn (n:=n) (p:=a.q) (by rw[hc2]);obtain⟨y,hy,hyx⟩:=kOd u g n x hs p2;obtain⟨gk,dh,lD⟩:=kPi (kNo hyx).2.2 p3;have hl:=(kNo hyx).2.1;have hf:=kNp hn p2;refine⟨_,kT1.mk Kb fun p p' z hz hmv=>?_,kX9 p1 hy dh Kb,kYc hG hF ho hw ta Kb p1 hy dh Kb⟩;have hb:=jD hmv Kb;rw[e,zJc (.inr rfl),p1]at hb;obtain⟨z',g1,g2⟩:=zJm hy (List.getElem?_eq_some_iff.1 dh).1 hz hb;exact⟨z',g1,g2.lab⟩
 ·obtain⟨u,i,x,b,k,p1,p2,p3,p4,p5,p6,_,p8⟩:=zC5 h;obtain⟨y,hy,hyx⟩:=kOd u g n x hs p2;have hl:=(kNo hyx).2.1;have vv:=(List.getElem?_eq_some_iff.1 p4).1;obtain⟨gb,hgb,xn⟩:=kPi (kNo hyx).2.2 p3;obtain⟨gk,dh,lD⟩:=kPi (kNo hyx).2.2 p4;obtain⟨lb,rb,kb,rfl⟩:=hG.form (kN2 hy hgb);obtain⟨lk,rk,kk,rfl⟩:=hG.form (kN2 hy dh);have hf:=kNp hn p2;have CM:=kNp hn (kN2 p2 p3);have tC:=kNp hn (kN2 p2 p4);obtain⟨b1,b2,b3⟩:=kNo xn;obtain⟨k1,k2,k3⟩:=kNo lD;obtain⟨m1,m2⟩:=kWr (m:=.mk false [] (lb::(rb++rk)) (kb++kk)) hy Kb hgb;have b1:rb.length+1=b.tx.length+1:=b1;have k1:rk.length+1=k.tx.length+1:=k1;have b2:kb.length=b.ks.length:=b2;have k2:kk.length=k.ks.length:=k2;refine⟨_,fun p p' z hz hmv=>?_,m2▸kYa p1 hy hgb dh Kb,kX6 (_k:=k) hG hF ho hw ta Kb p1 hy dh Kb m1 Kb⟩;rw[m2];have hb:=jD hmv Kb;have hx:=zA6 n u x hc p2;rw[e,p1]at hb;obtain⟨z',g1,g2⟩:=zO6 (m:=.mk false [] (lb::(rb++rk)) (kb++kk)) hy hgb dh rfl (fun hne=>by
   have hkl:k.lf=false:=by
    cases hl:k.lf
    ·rfl
    ·have h0:=(kX (zAk hx p4)).1 hl;rw[h0]at k2;exact absurd (List.eq_nil_of_length_eq_zero k2) hne
   have htx:=(kX (zAk hx p3)).2 (p5.trans hkl);rw[<-p6];show(zG9 b:Int)=(kb.length:Int)
   unfold zG9;rw[htx,b2];simp) hz hb
  refine⟨z',g1,fun hne=>?_,fun he=>?_⟩
  ·have tD:p≠u++[((i+1:Nat):Int)]:=fun e2=>hne ⟨e,by rw[p1];exact e2⟩;by_cases hpb:p=u++[(i:Int)]
   ·rw[if_pos (.inl hpb)]at g2;rw[hpb,kN2 hy hgb]at hz;injection hz with hz;rw[g2,<-hz];rfl
   ·rw[if_neg (by rintro(h|h);exact hpb h;exact tD h)]at g2;exact g2.lab
  ·rw[if_pos (.inr (he.2.trans p1))]at g2;refine⟨.mk false [] (lb::rb) kb,?_,?_⟩
   ·rw[he.2,p1,zFy];exact kN2 hy hgb
   ·rw[g2];rfl
 ·obtain⟨u,i,x,k,p1,p2,p3,p4,p5,p6,p7,p8⟩:=zCc hmx h;obtain⟨y,hy,hyx⟩:=kOd u g n x hs p2;have hl:=(kNo hyx).2.1;obtain⟨gk,dh,lD⟩:=kPi (kNo hyx).2.2 p4;obtain⟨lk,rk,kk,rfl⟩:=hG.form (kN2 hy dh);have hf:=kNp hn p2;have tC:=kNp hn (kN2 p2 p4);have hx:=zA6 n u x hc p2;have hv:=kX (zAk hx p4);obtain⟨k1,k2,k3⟩:=kNo lD;have k1:rk.length+1=k.tx.length+1:=k1;have k2:kk.length=k.ks.length:=k2;have hlen:zG9 k=k.tx.length+k.ks.length:=rfl;have vv:=(List.getElem?_eq_some_iff.1 dh).1;obtain⟨z,hz⟩:∃z:Nat,a.z=(z:Int):=⟨a.z.toNat,by omega⟩;have xo:o.z=(z:Int):=by rw[<-ho.hz];exact hz
  have xp:kB g a.q=some (.mk false [] (lk::rk) kk):=by rw[p1];exact kN2 hy dh
  have mv:∀{p p':List Int},jF a.k a.q a.t a.z p=(p',true)->jH 4 (u++[(i:Int)]) (z:Int) p=(p',true):=fun hmv=>by
   have hb:=jD hmv Kb;rw[e,p1,hz]at hb;exact hb
  by_cases h0:kk.length=0
  ·refine⟨_,kT1.mk Kb fun p p' s hs2 hmv=>?_,kWj p1 hy dh Kb Kb (by obtain rfl:=List.eq_nil_of_length_eq_zero h0;rfl),kXb hG hF ho hw ta Kb p1 hy vv Kb xp xo Kb Kb h0⟩;obtain rfl:=List.eq_nil_of_length_eq_zero h0;rw[p1];exact kUh hy dh (h:=.mk false [] (lk::rk.take z) []) (t:=.mk false [] (-2::rk.drop z) []) (show([]:List NT)=List.take z []from List.take_nil.symm) (show([]:List NT)=List.drop z []from List.drop_nil.symm) rfl hs2 (mv hmv)
  ·have bW:k.lf=false:=by
    cases hl:k.lf
    ·rfl
    ·rw[hv.1 hl]at k2;exact absurd k2 h0
   have htx:k.tx.length=0:=by rw[hv.2 bW];rfl
   have fin:∀{p p':List Int}{s:NT},kB g p=some s->jF a.k a.q a.t a.z p=(p',true)->∃y',kB (putT (putT g a.q (.mk false [] (lk::rk) (kk.take z))) u (jS (setK y i (.mk false [] (lk::rk) (kk.take z))) (i+1) 0 [.mk false [] [-2] (kk.drop z)])) p'=some y'/\kOo y'=kOo s:=fun hs2 hmv=>by
    rw[p1];exact kUh hy dh (h:=.mk false [] (lk::rk) (kk.take z)) (t:=.mk false [] [-2] (kk.drop z)) rfl rfl rfl hs2 (mv hmv)
   by_cases hz0:z=0
   ·exact⟨_,kT1.mk Kb fun p p' s hs2 hmv=>fin hs2 hmv,kWj p1 hy dh Kb Kb (List.take_append_drop z kk),kXd hG hF ho hw ta Kb p1 hy vv Kb xp xo Kb Kb Kb Kb⟩
   ·exact⟨_,kT1.mk Kb fun p p' s hs2 hmv=>fin hs2 hmv,kWj p1 hy dh Kb Kb (List.take_append_drop z kk),kXc hG hF ho hw ta Kb p1 hy vv Kb xp xo Kb Kb Kb⟩
 ·obtain⟨hc2,hq⟩:=zBz h;obtain⟨u,i,x,k,p1,p2,p3,p4,p5⟩:=zBn hc2;obtain⟨y,hy,hyx⟩:=kOd u g n x hs p2;obtain⟨gk,dh,lD⟩:=kPi (kNo hyx).2.2 p3;have hl:=(kNo hyx).2.1;have hf:=kNp hn p2;have hsz:=zFn hc2;obtain⟨t,j,z,q1,q2,q3,q4,q5⟩:=zD7 hq;rw[p5]at q2 q5 hsz;have hs2:=kUe u g n x _ _ hs p2 (kVj hyx kVk i 1);obtain⟨y2,hy2,xq⟩:=kOd t _ _ z hs2 q2;have hl2:=(kNo xq).2.1;have hf2:=kNp (m:=1000) Kb q2;exact⟨_,kT1.mk Kb fun p p' s hs2 hmv=>kWt e p1 q1 hy dh hy2 Kb hs2 hmv,kYb e hy dh hy2,kYd hG hF ho hw ta Kb p1 hy dh Kb q1 hy2 Kb Kb⟩
 ·obtain⟨k,p1,p2,p3,p4⟩:=zC6 h;refine⟨g,kT1.mk Kb fun p p' s hs2 hmv=>?_,kX7 Kb Kb,kXi hG hF ho hw ta Kf Kf Kf Kf Kf Kf Kf⟩;have hb:=jD hmv Kb;rw[zDz Kb]at hb;rw[<-(zO hb).1];exact⟨s,hs2,rfl⟩
 ·obtain⟨k,p1,p2,p3,p4⟩:=jZ h;have hi:zFx k.tx a.z a.x=((zFx k.tx a.z a.x).1,0):=Prod.ext rfl p3;obtain⟨j,hj,hjl⟩:=kUf hi;obtain⟨y,hy,hyx⟩:=kOd a.q g n k hs p1;obtain⟨lb,rb,kb,rfl⟩:=hG.form hy;obtain⟨b1,b2,b3⟩:=kNo hyx;have hf:=kNp hn p1;have b1:rb.length+1=k.tx.length+1:=b1;refine⟨_,kT1.mk Kb fun p p' s hs2 hmv=>?_,kXe Kb Kb hy,kX4 hG hF ho hw ta Kb hy (k:=j) (by rw[<-ho.hz];exact hj) Kb Kb⟩;have hb:=jD hmv Kb;rw[zDz Kb]at hb;rw[<-(zO hb).1];exact kUi hy rfl rfl rfl hs2
 ·obtain⟨k,p1,p2,p3,p4⟩:=jZ h;have hi:zFe k.tx a.z a.x=((zFe k.tx a.z a.x).1,0):=Prod.ext rfl p3;obtain⟨j,hj,hjl⟩:=kUg hi;obtain⟨y,hy,hyx⟩:=kOd a.q g n k hs p1;obtain⟨lb,rb,kb,rfl⟩:=hG.form hy;obtain⟨b1,b2,b3⟩:=kNo hyx;have hf:=kNp hn p1;have hnx:=ho.hnx;have b1:rb.length+1=k.tx.length+1:=b1;refine⟨_,kT1.mk Kb fun p p' s hs2 hmv=>?_,kXe Kb Kb hy,kX5 hG hF ho hw ta Kb hy (k:=j) (by rw[<-ho.hz];exact hj) Kb Kb⟩;have hb:=jD hmv Kb;rw[zDz Kb]at hb;rw[<-(zO hb).1];exact kUi hy rfl rfl rfl hs2
structure kVe (x:NT)(a:OpP)(g':NT)(p:List Int)(l:Int):Prop where
 told:∀q,jF a.k a.q a.t a.z p=(q,true)->¬(a.k=3/\p=a.q)->(∃y' m,kB g' q=some y'/\kOo y'=some l/\kB x q=some m)/\∀q' z,kB g' q'=some z->kOo z=some l->q'=q
 gone:(∃q,jF a.k a.q a.t a.z p=(q,false))∨(a.k=3/\p=a.q)->(∀q' z,kB g' q'=some z->kOo z≠some l)
theorem kXg {o:OC}(hG:Gh w v (kQe n 0) F)(hF:∀q,F q->w0.heap.size<=q/\q<w.heap.size)(ho:OkA w0 o a)(hw:Below w0.heap.size w0 w)(ta:zAf a)(hf:zCx a=0)(hd:1<=a.k/\a.k<=8/\doO n a=(r,0)∨a.k=9/\r=n)(hn:sizeT n<=1000)(hc:zAh n=0)(hm:a.k=1->sizeT a.n<=1000):
  ∃g',(∀p yn l y,kB n p=some yn->kB (kQe n 0) p=some y->kOo y=some l->0<=l->kVe r a g' p l)/\Calls Tryz.prog 17 #[v,.agg o.row] w (kSo F v g' w):=by
 have hk:=ho.hk;have hmx:∀u x,kB n u=some x->x.ks.length<9223372036854775807:=fun u x hx=>by have:=(kNp hn hx).1;omega
 rcases hd with⟨h1,h8,hd⟩|⟨h9,rfl⟩
 ·obtain⟨g',hL,hK,hC⟩:=kVd hG hF ho hw ta h1 h8 hd (kQp n 0) hn hc hm;refine⟨g',fun p yn l y hp hy hl h0=>?_,hC⟩;have hone:=(kPy l n 0).1;have hle:=hK.le l h0;refine⟨fun q hq hne=>?_,fun ju q' z hz tE=>?_⟩
  ·obtain⟨y',e1,e2,_⟩:=hL p q y hy hq;obtain⟨m,e4,_⟩:=zTg hmx hc h1 h8 hd hp hq;have e5:=(e2 hne).trans hl;refine⟨⟨y',m,e1,e5,e4⟩,fun q' z hz tE=>?_⟩;rcases Classical.em (q'=q)with h|h
   ·exact h
   ·have:=kSr hz e1 tE e5 h;omega
  ·have h9:cntT l g'+1<=cntT l (kQe n 0):=by
    rcases ju with⟨q,hq⟩|⟨h3,bg⟩
    ·obtain⟨e1,e2⟩:=kR1 hf h1 h8 hd hn hp hq;obtain⟨s,hs⟩:=kXf e2;exact hK.rem e1 s y l h0 (by rw[<-hs];exact hy) hl
    ·exact hK.mer h3 y l h0 (by rw[<-bg];exact hy) hl
   have:=kOu (l:=l) hz;have:=kOn tE;omega
 ·refine⟨_,fun p yn l y hp hy hl h0=>?_,kXi hG hF ho hw ta Kf Kf Kf Kf Kf Kf Kf⟩;have hone:=(kPy l r 0).1;refine⟨fun q hq hne=>?_,fun ju=>?_⟩
  ·rw[kUj hf h9 hn hp]at hq;have e:=(zO hq).1;subst e;refine⟨⟨y,yn,hy,hl,hp⟩,fun q' z hz tE=>?_⟩;rcases Classical.em (q'=p)with h|h
   ·exact h
   ·have:=kSr hz hy tE hl h;omega
  ·rcases ju with⟨q,hq⟩|⟨h3,_⟩
   ·rw[kUj hf h9 hn hp]at hq;exact absurd (zO hq).2 Kc
   ·omega
def kWc (w:World)(g:NT)(q:List Int)(e:Ending)(w':World):Prop:=
 ∃b lab R K,e=.returned (.pointer (some ⟨b,0,none⟩))/\jT 64 w' b #[.int .i64 lab,R,K]/\Below w.heap.size w w'/\((∃y,kB g q=some y/\kOo y=some lab)∨(kB g q=none/\lab= -1))
theorem kOf {lq cq:Nat}(hG:Gh w v g F)(hl:q.length=lq)(hle:lq<=1000)(hA:IL w w.heap.size A q):Calls Tryz.prog 21 #[v,.slice A lq cq] w (kWc w g q):=by
 have HG:=hd hG;have HL:=hd hl;have HA:=hd hA;clear hG hl hA;go_enter Tryz.func21,Tryz.ntmps21
 go_wp2
 go_loopw [0,9] (fun p i wr=>∃k:Nat,k<=lq/\i=.int .i64 k/\wr=w/\Kr (∃m Fm,kB g (q.take k)=some m/\Gh w p m Fm)) (fun _ i _=>lq-(intOf i).toNat)
 case atStart=>exact⟨0,Nat.zero_le _,rfl,rfl,hd ⟨g,F,by simp[kB],HG.o⟩⟩
 case round=>
  obtain⟨k,hk,rfl,rfl,HK⟩:=hrel;obtain⟨m,Fm,hm,d9⟩:=HK.o;obtain⟨b,lab,rs,gk,RA,rc,GA,gc,us,Fs,rfl,rfl,hO⟩:=d9.opened;have hgl:=kWu hO.hk;by_cases hlt:k<lq
  ·obtain⟨b0,o0,rfl,hb0,hc⟩:=HA.o.at_ (k:=k) (by rw[HL.o];exact hlt);obtain⟨z,hz⟩:∃z,iAt q k=z:=⟨_,rfl⟩;rw[hz]at hc;have c2:=hO.hb.cell 2 (.slice GA gk.length gc) rfl;have HM:=hd hm;have HO:=hd hO;have HZ:=hd hz;have xt:=hd (show k<q.length by rw[HL.o];exact hlt);clear HK hm d9 hO hz;by_cases h0:z<0
   ·have HE:=hd (zRy xt.o HM.o (by rw[HZ.o];unfold zBh;rw[if_neg Kb]));go_wp2
    go_ret
    refine⟨wr.heap.size,-1,.slice none 0 0,.slice none 0 0,rfl,jT.new _ _ _,Kl.alloc Km _,.inr ⟨HE.o,rfl⟩⟩
   ·by_cases h1:(gk.length:Int)<=z
    ·have HE:=hd (zRy xt.o HM.o (by rw[HZ.o];unfold zBh;rw[if_pos Kb];exact List.getElem?_eq_none (by show gk.length<=z.toNat;omega)));go_wp2
     go_ret
     refine⟨wr.heap.size,-1,.slice none 0 0,.slice none 0 0,rfl,jT.new _ _ _,Kl.alloc Km _,.inr ⟨HE.o,rfl⟩⟩
    ·obtain⟨j,hj⟩:∃j:Nat,z=(j:Int):=⟨z.toNat,by omega⟩;subst hj;have hjl:j<gk.length:=Kb;obtain⟨g1,hg1⟩:∃g1,gk[j]? =some g1:=⟨_,List.getElem?_eq_getElem hjl⟩;obtain⟨u,hu⟩:∃u,us[j]? =some u:=⟨_,List.getElem?_eq_getElem (by rw[HO.o.hl];exact hjl)⟩;have CN:=hd (HO.o.kids j g1 u hg1 hu);have HN:=hd (show kB g (q.take (k+1))=some g1 by rw[zFv xt.o HM.o,HZ.o,zA9];exact hg1);obtain⟨GA',gc',eK,qg,CO,hfree⟩:=zC9 HO.o.hk;injection eK with kG _ lg;subst kG lg;obtain⟨gb,rfl,_,lB,hcx,_⟩:=hfree j u hu;clear hg1 hu hfree lB qg CO h0 h1;go_wp2
     go_roundw
     case rel=>exact⟨k+1,by omega,by go_num,trivial,hd ⟨g1,_,HN.o,CN.o⟩⟩
     case measure=>simp[intOf];omega
  ·obtain rfl:k=lq:=Kb;have HE:=hd (show kB g q=some _ from by rw[<-List.take_of_length_le (Nat.le_of_eq HL.o)];exact hm);have HO:=hd hO;clear HK hm d9 hO;go_wp2
   go_ret
   exact⟨b,lab,_,_,rfl,HO.o.hb,Below.refl _ _,.inl ⟨_,HE.o,rfl⟩⟩
structure S2 (w:World)(c:NC)(o:OC)(W:World):Prop where
 v3:jT 26 W w.heap.size c.row
 v4:jR W (w.heap.size+1) o
 below:Below w.heap.size w W
theorem S2.call {W W':World}{o:OC}(h:S2 w c o W)(hb:Below W.heap.size W W'):S2 w c o W':=⟨h.v3.keep hb,(hb.block _ h.v4.lt).trans h.v4,zI h.below hb⟩
theorem kRg (w:World)(c:NC)(o:OC):∃W0,(w.alloc (.cells c.row 26)).alloc (.cells o.row 35)=W0/\S2 w c o W0:=by
 have e1:(w.alloc (.cells c.row 26)).heap.size=w.heap.size+1:=by simp
 have h1:=(jT.new w 26 c.row).alloc (.cells o.row 35);have h2:=jT.new (w.alloc (.cells c.row 26)) 35 o.row;rw[e1]at h2;exact⟨_,rfl,h1,h2,(Kl.alloc Km _).alloc (by rw[e1];omega) _⟩
def pathR (p:List Int):kNx:=⟨1,1,0,true,p,([],0),([],0),([],0)⟩
def kN4 (A:Option Addr)(n c:Nat):RC:=⟨1,1,0,true,A,n,c,none,0,0,0,none,0,0,0,none,0,0,0⟩
theorem kPh {n c:Nat}(h:kNz w A n c p):RkA w (kN4 A n c) (pathR p):=⟨rfl,rfl,rfl,rfl,h,kNz.nil _,rfl,kNz.nil _,rfl,kNz.nil _,rfl,rfl⟩
theorem kPm (n:NT)(p:List Int):chkR n (pathR p)=(zGm n p).2:=by
 rw[chkR,if_pos (show(pathR p).kind=1 from rfl),if_neg (by simp[pathR,zP,samP])];rfl
theorem kOi (h:p.length<=50):kWi (pathR p)=true:=by simp[kWi,pathR,h]
theorem kO2 {P:Prop}(h:P:=by
 have H1:=hd h1;try have H2:=hd h2
 try have HP:=hd hp
 try have jv:=hd hap
 try have tD:(er==0)=false:=by simpa using hne
 obtain⟨W0,hW,hst⟩:=kRg w c o;have HW:=hd hW;have HS:=hd hst;have HN:=hd hn;have HO:=hd ho;clear h1;try clear h2
 try clear hp
 try clear hap
 try clear bQ
 clear hW hst hn ho;go_enter Tryz.func5,Tryz.ntmps5
 go_upto_region 1 with fail
 rw[HW.o];go_wp2_with(first
  |(go_at_call 6;refine Calls.mono (kPc _) ?_;rintro e w1 ⟨rfl,b9⟩;have HS:=hd (HS.o.call b9);clear b9)
  |((with_reducible refine zC (ty:=26) (x:=.tmp 3) ?_);refine zB zD HS.o.v3 rfl _ rfl rfl rfl ?_)
  |(go_at_call 7;refine Calls.mono (zTe (HN.o.later HS.o.below) (by unfold zFf;omega) H1.o) ?_;rintro e w2 ⟨rfl,b9⟩;have HS:=hd (HS.o.call b9);clear b9)
  |((with_reducible refine kH (ty:=35) (x:=.tmp 4) ?_);refine zDq HS.o.v4 _ rfl Ke rfl ?_)
  |((with_reducible refine zC (ty:=35) (x:=.tmp 4) ?_);refine zG HS.o.v4 _ rfl rfl rfl ?_)
  |(go_at_call 8;refine Calls.mono (kJm (HO.o.later HS.o.below) H2.o) ?_;rintro e w3 ⟨rfl,b9⟩;have HS:=hd (HS.o.call b9);clear b9)
  |((with_reducible refine zF (ty:=37) (x:=.tmp 7) ?_);refine kN1 (c:=kN4 A lp cp) _ _ rfl rfl rfl rfl rfl rfl rfl ?_;have aJ:=hd (kN3 w3 (kN4 A lp cp)).1;have HS:=hd (HS.o.call (kN3 w3 (kN4 A lp cp)).2);have xu:=hd (show w3.alloc (.cells (kN4 A lp cp).row 37)=w3.alloc (.cells (kN4 A lp cp).row 37)from rfl))
  |(go_at_call 11;refine Calls.mono (zA4 (s:=⟨false,none,0,0,0,none,0,0,0⟩) (HN.o.later HS.o.below) (zIi.zero _) (HO.o.later HS.o.below) jb.o jv.o) ?_;rintro e w4 ⟨ca,ct,rfl,jc,hsa,b9⟩;have aM:=hd jc;have aJ:=hd (aJ.o.keep b9);have HS:=hd (HS.o.call b9);clear b9 jc hsa;dsimp only)
  |((with_reducible refine zF (ty:=26) (x:=.tmp 8) ?_);refine zA zD (r:=ca.row) (zDj w4) rfl rfl ca.one _ _ rfl rfl rfl rfl rfl ?_;intro W7 bJ aU;have ar:=hd bJ;have HT:=hd (zDk aU);clear bJ aU)
  |((with_reducible refine zF (ty:=33) (x:=.tmp 9) ?_);refine zA kYr (r:=ct.row) HT.o.2 rfl rfl ct.one _ _ rfl rfl rfl rfl rfl ?_;intro W8 bS bb;have bR:=hd (zDl HT.o.1 bb);have ar:=hd (ar.o.off bb Kb);have aJ:=hd (aJ.o.keep bR.o);have HS:=hd (HS.o.call bR.o);have aM:=hd (aM.o.later bR.o);clear bS bb HT bR)
  |((with_reducible refine kH (ty:=26) (x:=.tmp 3) ?_);refine zK zD HS.o.v3 rfl _ rfl Ke rfl ?_)
  |((with_reducible refine kH (ty:=26) (x:=.tmp 8) ?_);refine zK zD ar.o rfl _ rfl Ke rfl ?_)
  |((with_reducible refine kH (ty:=37) (x:=.tmp 7) ?_);refine zK kOb aJ.o rfl _ rfl Ke rfl ?_)
  |(go_at_call 10;refine Calls.mono (kQh (HN.o.later HS.o.below) (kPh (HP.o.later HS.o.below)) oH.o lF.o) ?_;rintro e w5 ⟨rfl,b9⟩;have aJ:=hd (aJ.o.keep b9);have ar:=hd (ar.o.keep b9);have aM:=hd (aM.o.later b9);have HS:=hd (HS.o.call b9);clear b9)
  |(go_at_call 12;refine Calls.mono (zHo (c':=(NC.mk false none 0 0 none 0 0 none 0 0)) aM.o (vw.o _) gQ.o) ?_;rintro e w9 ⟨rfl,b9⟩;have HS:=hd (HS.o.call b9);clear b9)
  |fail)
 go_ret
 exact⟨rfl,HS.o.below⟩):P:=h
theorem kWk {o:OC}(hn:kS w c n)(ho:OkA w o a)(h1:zI5 100 n=false):Calls Tryz.prog 5 #[.agg c.row,.agg o.row,.slice A lp cp] w (jW w):=by
 exact kO2
theorem kWl {o:OC}(hn:kS w c n)(ho:OkA w o a)(h1:zI5 100 n=true)(h2:zT3 a=false):Calls Tryz.prog 5 #[.agg c.row,.agg o.row,.slice A lp cp] w (jW w):=by
 exact kO2
theorem kWm {o:OC}(hn:kS w c n)(ho:OkA w o a)(h1:zI5 100 n=true)(h2:zT3 a=true)(h63:lp<=9223372036854775807)(h3:¬lp<=50):Calls Tryz.prog 5 #[.agg c.row,.agg o.row,.slice A lp cp] w (jW w):=by
 exact kO2
theorem kWn {o:OC}{er:Int}(hn:kS w c n)(ho:OkA w o a)(hp:kNz w A lp cp p)(h1:zI5 100 n=true)(h2:zT3 a=true)(h3:lp<=50)(bQ:(zGm n p).2=ec)(hap:jL n zeroS a=((zeroT,zeroS),er))(hne:(er !=0)=true):Calls Tryz.prog 5 #[.agg c.row,.agg o.row,.slice A lp cp] w (jW w):=by
 have jb:=hd (kNy h1 h2 hn ho).1;have oH:=hd (kOi (p:=p) (by rw[hp.len];exact h3));have lF:=hd (kPm n p▸bQ:chkR n (pathR p)=ec);have vw:=hd (fun W9:World=>(show kS W9 (NC.mk false none 0 0 none 0 0 none 0 0) zeroT from⟨1,zEh _ _⟩));have gQ:=hd (zD8 zeroT);exact kO2
theorem kWo {o:OC}{tl:Sl}(hn:kS w c n)(ho:OkA w o a)(hp:kNz w A lp cp p)(h1:zI5 100 n=true)(h2:zT3 a=true)(h3:lp<=50)(bQ:(zGm n p).2=ec)(hap:jL n zeroS a=((x,tl),0))(hne:(ec !=0)=true):Calls Tryz.prog 5 #[.agg c.row,.agg o.row,.slice A lp cp] w (jW w):=by
 have jb:=hd (kNy h1 h2 hn ho).1;have oH:=hd (kOi (p:=p) (by rw[hp.len];exact h3));have lF:=hd (kPm n p▸bQ:chkR n (pathR p)=ec);exact kO2
