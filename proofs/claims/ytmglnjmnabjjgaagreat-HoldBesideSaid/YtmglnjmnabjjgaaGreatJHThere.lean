import Derived.Test.YtmglnjmnabjjgaaGreatJHShp
set_option maxRecDepth 100000
set_option maxHeartbeats 8000000
namespace Go.Proofs.YtmglnjmnabjjgaaGreat
open Go.RowKit
variable {q rs u x:List Int}{E Z l lab:Int}{g7 g8 i k:Nat}{W W' w:World}{A:Option Addr}{g g' n y y':NT}{p:List Int×Int}{b:Bool}{P:Prop}{v:Value}{F:Nat->Prop}{c:NC}{a:OpP}{s t:SC}{sl:Sl}
theorem kVi {l:List Int}{x:Int}:x ∈ l ↔∃k,k<l.length/\iAt l k=x:=by
 constructor
 ·intro h;obtain⟨k,hk,e⟩:=List.getElem_of_mem h;exact⟨k,hk,by rw[jY _ _ hk,e]⟩
 ·rintro⟨k,hk,rfl⟩;exact kRe hk
theorem kTt {ks:List NT}{x:Int}:x ∈ allK ks ↔∃(j:Nat)(m:NT),ks[j]? =some m/\x ∈ allR m:=by
 induction ks with
 |nil=>simp[allK]
 |cons k r ih=>
  rw[allK,List.mem_append,ih];constructor
  ·rintro(h|⟨j,m,h1,h2⟩)
   ·exact⟨0,k,rfl,h⟩
   ·exact⟨j+1,m,by simpa using h1,h2⟩
  ·rintro⟨j,m,h1,h2⟩;cases j with
   |zero=>simp at h1;subst h1;exact .inl h2
   |succ j=>exact .inr ⟨j,m,by simpa using h1,h2⟩
theorem kS2 {ks:List NT}{a:Bool}{b:List Pr}:l ∈ allR (.mk a b (lab::rs) ks) ↔ (∃k,k<rs.length/\iAt rs k=l)∨∃(j:Nat)(m:NT),ks[j]? =some m/\l ∈ allR m:=by
 rw[allR,List.mem_append,List.tail_cons,kVi,kTt]
theorem kVj (h:k<rs.length):(rs.map (Value.int .i64))[k]? =some (.int .i64 (iAt rs k)):=by
 rw[List.getElem?_map,List.getElem?_eq_getElem h,jY _ _ h];rfl
theorem kQi {b n size c:Nat}{t:TypeId}{xs:List Value}(h:w.ownsRow b t size (.slice A n c) n xs):n<=9223372036854775807:=by
 obtain⟨RA',rc',eR,hnc,hcm,_⟩:=zC9 h;unfold maxLen at hcm;omega
theorem kP0 :∀(d:Nat)(w:World)(v:Value)(g:NT)(F:Nat->Prop)(l:Int),sizeT g<=d->Gh w v g F->(∀q,F q->q<w.heap.size)->Calls Tryz.prog 19 #[v,.int .i64 l] w (jA (.bool (decide (l ∈ allR g))) w):=by
 intro d;induction d with
 |zero=>intro w v g F l h;have:=zJs g;omega
 | succ d ih=>
  intro w v g F l hd1 hG hF;obtain⟨b,lab,rs,gk,RA,rc,GA,gc,us,Fs,rfl,rfl,hO⟩:=hG.opened;have hsz:1+(rs.length+1)+sizeK gk<=d+1:=by rw[sizeT,List.length_cons]at hd1;exact hd1
  have hvb:=hO.hb;have x1:=hvb.cell 1 (.slice RA rs.length rc) rfl;have x2:=hvb.cell 2 (.slice GA gk.length gc) rfl;have gB:=hd hvb;have HO:=hd hO;have HF:=hd hF;have cF:=hd hsz;have hrl:=kQi hO.hr;have hgl:=kQi hO.hk;clear hG hF hO hd1 hvb hsz;go_enter Tryz.func19,Tryz.ntmps19
  go_wp2_with fail
  go_loopw [14] (fun i wr=>∃k:Nat,k<=rs.length/\i=.int .i64 k/\Kr (∀j,j<k->iAt rs j≠l)/\Kr (Below w.heap.size w wr)) (fun i _=>rs.length-(intOf i).toNat)
  case atStart=>exact⟨0,Nat.zero_le _,rfl,hd (fun j hj=>absurd hj (Nat.not_lt_zero _)),hd Kl⟩
  case round=>
   obtain⟨k,hk,rfl,HA,HB⟩:=hrel;by_cases hlt:k<rs.length
   ·obtain⟨RA',rc',eR,hnc,hcm,hfree⟩:=zC9 HO.o.hr;injection eR with gP _ gQ;subst gP gQ;obtain⟨g,rfl,_,fT,hcx,_⟩:=hfree k _ (kVj hlt);rw[<-HB.o.cell (p:=⟨g,k,none⟩) fT]at hcx;obtain⟨z,hz⟩:∃z,iAt rs k=z:=⟨_,rfl⟩;rw[hz]at hcx;have HZ:=hd hz;clear hz hfree fT hnc hcm;by_cases e:z=l
    ·have HT:=hd (show decide (l ∈ allR (.mk false [] (lab::rs) gk))=true from decide_eq_true (kS2.2 (.inl ⟨k,hlt,HZ.o.trans e⟩)));have e1:(z==l)=true:=by simpa using e
     clear e HA;go_wp2_with fail
     go_ret
     exact⟨kC HT.o.symm,HB.o⟩
    ·have gZ:=hd (show∀j,j<k+1->iAt rs j≠l from fun j hj=>by
      rcases(show j<k∨j=k by omega)with h|rfl
      ·exact HA.o j h
      ·rw[HZ.o];exact e)
     have e1:(z==l)=false:=by simpa using e
     clear e HA;go_wp2_with fail
     go_roundw
     case rel=>exact⟨k+1,by omega,by go_num,gZ,HB⟩
     case measure=>simp[intOf];omega
   ·have HN:=hd (show∀j,j<rs.length->iAt rs j≠l from fun j hj=>HA.o j Kb);have x2:=HO.o.hb.cell 2 (.slice GA gk.length gc) rfl;rw[<-HB.o.cell (p:=⟨b,2,none⟩) HO.o.hb.lt]at x2;obtain⟨wo,hwo⟩:∃wo,wo=wr:=⟨_,rfl⟩;subst hwo;have aw:=HB;clear HA x1;go_wp2_with fail
    clear x2;go_loopw [27] (fun i wr=>∃k:Nat,k<=gk.length/\i=.int .i64 k/\Kr (∀(j:Nat)(m:NT),j<k->gk[j]? =some m->l ∉ allR m)/\Kr (Below w.heap.size w wr)) (fun i _=>gk.length-(intOf i).toNat)
    case atStart=>exact⟨0,Nat.zero_le _,rfl,hd (fun j m hj=>absurd hj (Nat.not_lt_zero _)),aw⟩
    case round=>
     obtain⟨k2,hk2,rfl,gZ,aL⟩:=hrel;by_cases aS:k2<gk.length
     ·obtain⟨g1,hg1⟩:∃g1,gk[k2]? =some g1:=⟨_,List.getElem?_eq_getElem aS⟩;obtain⟨u,hu⟩:∃u,us[k2]? =some u:=⟨_,List.getElem?_eq_getElem (by rw[HO.o.hl];exact aS)⟩;have jr:=HO.o.kids k2 g1 u hg1 hu;obtain⟨GA',gc',eK,nT,AH,hfree⟩:=zC9 HO.o.hk;injection eK with je _ jf;subst je jf;obtain⟨g,rfl,_,fT,hcx,_⟩:=hfree k2 u hu;rw[<-aL.o.cell (p:=⟨g,k2,none⟩) fT]at hcx;obtain⟨bk,rfl⟩:=jr.ptr;have hs1:=kAj hg1;have xy:=hd hg1;obtain⟨E,hE⟩:∃E,decide (l ∈ allR g1)=E:=⟨_,rfl⟩;have HC:=hd (hE▸ih wr _ g1 (Fs k2) l (by have:=cF.o;omega) (jr.later (fun q h=>HF.o q (HO.o.sub k2 q h).1) aL.o) (fun q h=>Nat.lt_of_lt_of_le (HF.o q (HO.o.sub k2 q h).1) aL.o.size));have HE:=hd hE;clear hg1 hu jr hfree fT hE hs1 nT AH;cases E
      ·have AJ:=hd (show∀(j:Nat)(m:NT),j<k2+1->gk[j]? =some m->l ∉ allR m from fun j m hj hm=>by
        rcases(show j<k2∨j=k2 by omega)with h|rfl
        ·exact gZ.o j m h hm
        ·rw[xy.o]at hm;injection hm with hm;subst hm;exact of_decide_eq_false HE.o)
       clear gZ;go_wp2_with(go_at_call 19;refine HC.o.mono ?_;rintro e w4 ⟨rfl,hb4⟩;have aO:=hd (zI aL.o hb4);clear hb4)
       go_roundw
       case rel=>exact⟨k2+1,by omega,by go_num,AJ,aO⟩
       case measure=>simp[intOf];omega
      ·have HT:=hd (show decide (l ∈ allR (.mk false [] (lab::rs) gk))=true from decide_eq_true (kS2.2 (.inr ⟨k2,g1,xy.o,of_decide_eq_true HE.o⟩)));clear gZ;go_wp2_with(go_at_call 19;refine HC.o.mono ?_;rintro e w4 ⟨rfl,hb4⟩;have aO:=hd (zI aL.o hb4);clear hb4)
       go_ret
       exact⟨kC HT.o.symm,aO.o⟩
     ·have HT:=hd (show decide (l ∈ allR (.mk false [] (lab::rs) gk))=false from decide_eq_false (fun h=>by
       rcases kS2.1 h with⟨k,h1,h2⟩|⟨j,m,h1,h2⟩
       ·exact HN.o k h1 h2
       ·exact gZ.o j m (by have:=(List.getElem?_eq_some_iff.1 h1).1;omega) h1 h2))
      clear gZ;go_wp2_with fail
      go_ret
      exact⟨kC HT.o.symm,aL.o⟩
theorem kS3 (h:kB g p.1=some y)(hc:atZ p b<0∨(y.tx.tail.length:Int)<=atZ p b):kPv g p b= -1:=by
 unfold kPv;rw[h];simp only;rw[if_pos hc]
theorem kOp (h:P:=by
 go_wp2_with(first
  |(go_at_call 21;refine Calls.mono (kN8 HP.o HQ.o) ?_;rintro e w9 ⟨rfl,rfl⟩)
  |fail)
 go_ret
 exact⟨zAj (by rw[HZ.o]),aw.o⟩):P:=h
theorem kP1 (h:P:=by
 obtain⟨RA',rc',eR,hnc,hcm,hfree⟩:=zC9 HO.o.hr;injection eR with gP _ gQ;subst gP gQ;obtain⟨gR,rfl,_,fT,hcx,_⟩:=hfree i _ (kVj hil);obtain⟨z,hz⟩:∃z,iAt rs i=z:=⟨_,rfl⟩;rw[hz]at hcx HZ;clear hZ hz hfree fT hnc hcm;go_enter Tryz.func18,Tryz.ntmps18
 go_upto_region 1 with fail
 rw[HW.o];exact kOp):P:=h
theorem kSa {lq cq:Nat}{off:Int}(hG:Gh w v g F)(hF:∀q,F q->q<w.heap.size)(hq:zKt w A lq cq q)(hy:kB g q=some y)(h0:0<=off)(h1:off<=9223372036854775807):Calls Tryz.prog 18 #[v,.agg #[.slice A lq cq,.int .i64 off],.bool b] w (jA (.int .i64 (kPv g (q,off) b)) w):=by
 obtain⟨W0,hW⟩:∃W0,w.alloc (.cells #[.slice A lq cq,.int .i64 off] 29)=W0:=⟨_,rfl⟩;have hb0:Below w.heap.size w W0:=hW▸Kl.alloc Km _;obtain⟨u,Fm,hp,sK,hsub,_⟩:=(hG.later hF hb0).sub q hy;obtain⟨bu,lab,rs,ks,RA,rc,KA,kc,us,Fs,rfl,rfl,hO⟩:=sK.opened;have hv:jT 29 W0 w.heap.size #[.slice A lq cq,.int .i64 off]:=hW▸jT.new w _ _;have y0:=hv.cell 0 _ rfl;have y1:=hv.cell 1 _ rfl;have x1:=hO.hb.cell 1 (.slice RA rs.length rc) rfl;have HP:=hd hp;have HQ:=hd (hq.later hb0);have aw:=hd hb0;have HW:=hd hW;have HO:=hd hO;have hrl:=kQi hO.hr;obtain⟨Z,hZ⟩:∃Z,kPv g (q,off) b=Z:=⟨_,rfl⟩;have HY:=hd hy;rw[hZ];clear hp hq hb0 hW hv hO hG hF sK hsub hy;have hat:=hd (show atZ (q,off) b=if b then off else off-1 from rfl);cases b
 ·by_cases c1:off-1<0
  ·have HZ:=hd (show Z= -1 from hZ▸kS3 HY.o (.inl (by rw[hat.o];simpa using c1)));clear hZ;go_enter Tryz.func18,Tryz.ntmps18
   go_upto_region 1 with fail
   rw[HW.o];exact kOp
  ·by_cases c2:(rs.length:Int)<=off-1
   ·have HZ:=hd (show Z= -1 from hZ▸kS3 HY.o (.inr (by rw[hat.o,kNy];simpa using c2)));clear hZ;go_enter Tryz.func18,Tryz.ntmps18
    go_upto_region 1 with fail
    rw[HW.o];exact kOp
   ·obtain⟨i,hi⟩:∃i:Nat,off-1=(i:Int):=⟨(off-1).toNat,by omega⟩;have hil:i<rs.length:=Kb;have HZ:=hd (show Z=iAt rs i from hZ▸kOj HY.o (by rw[hat.o];exact hi) hil);clear c1 c2;exact kP1
 ·by_cases c1:off<0
  ·omega
  ·by_cases c2:(rs.length:Int)<=off
   ·have HZ:=hd (show Z= -1 from hZ▸kS3 HY.o (.inr (by rw[hat.o];exact c2)));clear hZ;go_enter Tryz.func18,Tryz.ntmps18
    go_upto_region 1 with fail
    rw[HW.o];exact kOp
   ·obtain⟨i,hi⟩:∃i:Nat,off=(i:Int):=⟨off.toNat,by omega⟩;subst hi;have hil:i<rs.length:=Kb;have HZ:=hd (show Z=iAt rs i from hZ▸kOj HY.o (by rw[hat.o];rfl) hil);exact kP1
theorem kUg :∀{q:List Int}{w:World}{v u:Value},kPr w v q u->InI q
 |[],_,_,_,_=>InI.nil
 |i::r,w,v,u,h=>by
  obtain⟨b,lab,R,g,nk,c,j,x,rfl,hv,hi,hj,hnc,hcm,hcell,hrest⟩:=h;intro k hk;cases k with
  |zero=>show i<=_/\_<=i;unfold maxLen at hcm;omega
  |succ k=>
   have:=kUg hrest k (by simpa using hk);exact this
theorem kS4 {c:PC}(hG:Gh w v g F)(hF:∀q,F q->q<w.heap.size)(hp:kAw w c p)(hy:kB g p.1=some y)(h0:0<=p.2)(h1:p.2<=9223372036854775807)(hE:kPv g p b=Z):Calls Tryz.prog 18 #[v,.agg c.row,.bool b] w (jA (.int .i64 Z) w):=by
 subst hE;obtain⟨u,Fm,hpt,_⟩:=hG.sub p.1 hy;have h:=kSa (A:=c.A) (lq:=c.n) (cq:=c.c) (off:=p.2) (b:=b) hG hF ⟨hp.hn,hp.hm,hp.hc,hp.hA,kUg hpt⟩ hy h0 h1;rw[hp.hx]at h;have e:(p.1,c.x)=p:=by rw[<-hp.hx]
 rw[e]at h;exact h
theorem kTu {c:PC}(hG:Gh w v g F)(hF:∀q,F q->q<w.heap.size)(hp:kAw w c p)(h0:0<=Z)(hE:kPv g p b=Z):Calls Tryz.prog 18 #[v,.agg c.row,.bool b] w (jA (.int .i64 Z) w):=by
 obtain⟨y,i,h1,h2,h3,_⟩:=kRq (g:=g) (p:=p) (b:=b) Kb;obtain⟨u,Fm,_,sK,_⟩:=hG.sub p.1 h1;obtain⟨bu,lab,rs,ks,RA,rc,KA,kc,us,Fs,rfl,rfl,hO⟩:=sK.opened;have h4:=kQi hO.hr;have h5:i<rs.length:=h3;refine kS4 hG hF hp h1 ?_ ?_ hE
 ·unfold atZ at h2;cases b<;>simp at h2<;>omega
 ·unfold atZ at h2;cases b<;>simp at h2<;>omega
theorem kUr {m:List Int}(hx:jF a.k a.q a.t a.z p.1=(x,true))(h0:0<=p.2)(h1:p.2<=1000)(hne:a.q≠p.1)(hg:kB g' x=some y')(ht:y'.tx.tail=rs++m)(hi:atZ p b=(i:Int))(hl:i<rs.length):
  ∃q,zEr a.k a.q a.t a.z (a.x.length:Int) (kRh b) p=(q,true)/\kPv g' q b=iAt rs i:=by
 refine⟨(x,p.2),?_,?_⟩
 ·rw[kB4 (kO3 b) h0 Kb hx,if_neg hne]
 ·rw[kOj (p:=(x,p.2)) hg hi (by rw[ht];simp;omega),ht,kQh hl]
theorem kUs {rb rk:List Int}(h3:a.k=3)(hx:jF a.k a.q a.t a.z p.1=(x,true))(e:a.q=p.1)(hq:a.q.length≠0)(hz:a.z=(rb.length:Int))(hg:kB g' x=some y')(ht:y'.tx.tail=rb++rk)(h0:0<=p.2)(h1:p.2<=1000)(hi:atZ p b=(i:Int))(hl:i<rk.length):
  ∃q,zEr a.k a.q a.t a.z (a.x.length:Int) (kRh b) p=(q,true)/\kPv g' q b=iAt rk i:=by
 rw[kRr (kO3 b) h0 h1 hx e];unfold zXx;rw[if_neg Kb,if_neg Kb,if_pos ⟨h3,hq⟩,hz];refine⟨_,rfl,?_⟩;have e2:atZ (x,p.2+(rb.length:Int)) b=((rb.length+i:Nat):Int):=by rw[kRg (x:=p.1) (i:=(i:Int)) hi];omega
 rw[kOj hg e2 (by rw[ht];simp;omega),ht,kPo hl]
theorem kUt {lab2:Int}{k1 k2:List NT}{z j:Nat}(h4:a.k=4)(hx:jF a.k a.q a.t a.z p.1=(x,true))(nR:x=a.q)(e:a.q=p.1)(hq:a.q=u++[(j:Int)])(hz:a.z=(z:Int))(hzl:z<=rs.length)
  (hg1:kB g' (u++[(j:Int)])=some (.mk false [] (lab::rs.take z) k1)) (hg2:kB g' (u++[((j+1:Nat):Int)])=some (.mk false [] (lab2::rs.drop z) k2)) (h0:0<=p.2) (h1:p.2<=1000) (hi:atZ p b=(i:Int)) (hl:i<rs.length):
  ∃q,zEr a.k a.q a.t a.z (a.x.length:Int) (kRh b) p=(q,true)/\kPv g' q b=iAt rs i:=by
 rw[kRr (kO3 b) h0 h1 hx e];unfold zXx;rw[if_neg Kb,if_neg Kb,if_neg (fun h=>by omega),if_pos ⟨h4,by rw[hq];simp⟩,nR,hz,if_neg (fun h=>by have:=h.2;unfold kRh at this;cases b<;>simp at this)];have hb:zEl p.2 z (kRh b)=decide (z<=i):=by
  unfold zEl kRh;unfold atZ at hi;rw[Bool.eq_iff_iff];cases b<;>simp at hi⊢<;>omega
 rw[hb];have hadd:addL a.q (a.q.length-1) 1=u++[((j+1:Nat):Int)]:=by
  rw[hq,show(u++[(j:Int)]).length-1=u.length by simp,zAv];simp
 by_cases mG:z<=i
 ·rw[decide_eq_true mG,if_pos rfl,hadd];refine⟨_,rfl,?_⟩;obtain⟨m,rfl⟩:=Nat.exists_eq_add_of_le mG;have e2:atZ (u++[((j+1:Nat):Int)],p.2-(z:Int)) b=(m:Int):=by
   have:=kRg (x:=p.1) (y:=u++[((j+1:Nat):Int)]) (j:= -(z:Int)) (i:=((z+m:Nat):Int)) hi;rw[<-Int.sub_eq_add_neg]at this;rw[this];omega
  rw[kOj hg2 e2 (by rw[kNy];simp;omega),kNy,kPg Kb]
 ·rw[decide_eq_false mG,if_neg Kc];refine⟨_,rfl,?_⟩;rw[hq];rw[kOj hg1 (show atZ (u++[(j:Int)],p.2) b=(i:Int)from hi) (by rw[kNy];simp;omega),kNy,kPf Kb hl]
theorem kUu {gk z:NT}{s:List Int}(hu:(allR g).Nodup)(hy:kB g u=some y)(hk:y.ks[i]? =some gk)(hz:kB g ((u++[(i:Int)])++s)=some z)(hl:l ∈ allR z)(hin:l ∈ allR (putT g u (jS y i 1 []))):False:=by
 obtain⟨A,B,e1,e2⟩:=kPe u g y hy;have xz:kB gk s=some z:=by
  rw[jJ,kNx hy hk]at hz;exact hz
 have hlk:=kTs xz hl;rw[e2]at hin;have e3:allR (jS y i 1 [])=y.tx.tail++(allK (y.ks.take i)++allK (y.ks.drop (i+1))):=by
  show allR (.mk y.lf y.ps y.tx (spl y.ks i 1 []))=_
  rw[allR];unfold spl;rw[List.append_nil,kQf]
 rw[e1,kQg y,kRd hk]at hu;rw[e3]at hin;refine kQw (L:=A++(y.tx.tail++allK (y.ks.take i))) (X:=allR gk) (M:=allK (y.ks.drop (i+1))++B) ?_ hlk ?_
 ·simpa[List.append_assoc]using hu
 ·simpa[List.append_assoc,or_assoc]using hin
theorem kUv {m:Nat}(hu:(allR g).Nodup)(hg:kB g q=some (.mk false [] (lab::rs) []))(hi:i<rs.length)(hin:iAt rs i ∈ allR (putT g q (.mk false [] (lab::(rs.take k++rs.drop (k+m))) []))):i<k∨k+m<=i:=by
 rcases(show i<k∨k+m<=i∨(k<=i/\i<k+m) by omega)with h|h|⟨h1,h2⟩
 ·exact .inl h
 ·exact .inr h
 obtain⟨A,B,e1,e2⟩:=kPe q g _ hg;rw[e2]at hin;rw[e1]at hu;simp only[allR,List.tail_cons,allK,List.append_nil]at hin hu;refine(kQw (L:=A++rs.take k) (X:=(rs.drop k).take m) (M:=rs.drop (k+m)++B) (l:=iAt rs i) ?_ ?_ ?_).elim
 ·have e:rs=rs.take k++((rs.drop k).take m++rs.drop (k+m)):=by
   rw[<-List.drop_drop,List.take_append_drop,List.take_append_drop]
  rw[e]at hu;simpa[List.append_assoc]using hu
 ·obtain⟨j,rfl⟩:=Nat.exists_eq_add_of_le h1;have h3:iAt ((rs.drop k).take m) j=iAt rs (k+j):=by rw[kPf Kb Kf,kPg Kb]
  rw[<-h3];exact kRe Kf
 ·simpa[List.append_assoc,or_assoc]using hin
theorem kP2 {yn:NT}{p:List Int}(hs:kQo g n=true)(hc:zAh n=0)(hp:kB n p=some yn)(hl:yn.lf=true)(hg:kB g p=some y):y.ks=[]/\yn.ks=[]/\y.tx.length=yn.tx.length+1:=by
 obtain⟨x,h1,h2⟩:=kN7 p g n yn hs hp;rw[hg]at h1;injection h1 with h1;subst h1;have h3:=(kX (zA6 n p yn hc hp)).1 hl;obtain⟨a1,a2,_⟩:=kNn h2;exact⟨List.eq_nil_of_length_eq_zero (by rw[a2,h3];rfl),h3,a1⟩
theorem kUw {w0:World}{r:NT}{o:OC}(hG:Gh w v g F)(hF:∀q,F q->w0.heap.size<=q/\q<w.heap.size)(ho:OkA w0 o a)(hw:Below w0.heap.size w0 w)(ta:zAf a)(pK:zCx a=0)(AK:1<=a.k/\a.k<=8/\doO n a=(r,0)∨a.k=9/\r=n)(hs:kQo g n=true)(hn:sizeT n<=1000)(hc:zAh n=0)(hm:a.k=1->sizeT a.n<=1000)(hu:(allR g).Nodup):∃g',kWc a n g g'/\Calls Tryz.prog 17 #[v,.agg o.row] w (kSl F v g' w):=by
 have hk:=ho.hk;have hmx:∀u x,kB n u=some x->x.ks.length<9223372036854775807:=fun u x hx=>by have:=(kNr hn hx).1;omega
 rcases AK with⟨h1,h8,hd⟩|⟨h9,rfl⟩
 case inr=>
  refine⟨g,fun p b y yn i dF aZ aY hi hl h0 hx _=>?_,kVa hG hF ho hw ta Kf Kf Kf Kf Kf Kf Kf⟩;exact kOv (kVh pK h9 hn dF) h0 hx (fun _=>by omega) aY rfl hi hl
 have told:a.k≠2->∀{p yn},kB n p=some yn->∃x,jF a.k a.q a.t a.z p=(x,true):=fun h2 _ _ hp=>kUo pK h1 h8 hd hn hp h2;rcases zC7 h1 h8 hd with⟨e,h⟩|⟨e,h⟩|⟨e,h⟩|⟨e,h⟩|⟨e,h⟩|⟨e,h⟩|⟨e,h⟩|⟨e,h⟩
 ·obtain⟨u,i,x,p1,p2,p3,p4,p5⟩:=zD7 (zCd h).2;obtain⟨y,hy,hyx⟩:=kN7 u g n x hs p2;have hl:=(kNn hyx).2.1;have hf:=kNr hn p2;refine⟨_,fun p b z zn j dF aZ aY hi hl2 h0 hx _=>?_,kVy hG hF ho hw ta Kb p1 hy Kb Kb (by have:=hm e;omega)⟩;obtain⟨p',hmv⟩:=told Kb dF;have hb:=jD hmv Kb;rw[e,zJc (.inl rfl),p1]at hb;obtain⟨z',g1,g2⟩:=zJl (m:=fgT (kQ3 a.n 0)) (i:=i) hy Kb aY;rw[hb]at g1;exact kOv hmv h0 hx (fun _=>by omega) g1 g2.2 hi hl2
 ·obtain⟨hc2,_⟩:=zCl h;obtain⟨u,i,x,k,p1,p2,p3,p4,p5⟩:=zBn (n:=n) (p:=a.q) (by rw[hc2]);obtain⟨y,hy,hyx⟩:=kN7 u g n x hs p2;obtain⟨gk,dE,jt⟩:=kOt (kNn hyx).2.2 p3;have hl:=(kNn hyx).2.1;have hf:=kNr hn p2;refine⟨_,fun p b z zn j dF aZ aY hi hl2 h0 hx hin=>?_,kVw hG hF ho hw ta Kb p1 hy dE Kb⟩;rcases kS1 pK h1 h8 hd hn dF with⟨p',hmv⟩|⟨_,s,hps⟩
  ·have hb:=jD hmv Kb;rw[e,zJc (.inr rfl),p1]at hb;obtain⟨z',g1,g2⟩:=zJm hy (List.getElem?_eq_some_iff.1 dE).1 aY hb;exact kOv hmv h0 hx (fun _=>by omega) g1 g2.2 hi hl2
  ·rw[hps,p1]at aY;exact(kUu hu hy dE aY (by rw[kQg];exact List.mem_append_left _ (kRe hl2)) hin).elim
 ·obtain⟨u,i,x,b,k,p1,p2,p3,p4,p5,p6,_,p8⟩:=zC5 h;obtain⟨y,hy,hyx⟩:=kN7 u g n x hs p2;have hl:=(kNn hyx).2.1;have sL:=(List.getElem?_eq_some_iff.1 p4).1;obtain⟨gb,hgb,uL⟩:=kOt (kNn hyx).2.2 p3;obtain⟨gk,dE,jt⟩:=kOt (kNn hyx).2.2 p4;obtain⟨lb,rb,kb,rfl⟩:=hG.form (kNx hy hgb);obtain⟨lk,rk,kk,rfl⟩:=hG.form (kNx hy dE);have hf:=kNr hn p2;have Ay:=kNr hn (kNx p2 p3);have qG:=kNr hn (kNx p2 p4);obtain⟨b1,b2,b3⟩:=kNn uL;obtain⟨k1,k2,k3⟩:=kNn jt;obtain⟨m1,m2⟩:=kUm (m:=.mk false [] (lb::(rb++rk)) (kb++kk)) hy Kb hgb;have b1:rb.length+1=b.tx.length+1:=b1;have k1:rk.length+1=k.tx.length+1:=k1;have b2:kb.length=b.ks.length:=b2;have k2:kk.length=k.ks.length:=k2;refine⟨_,fun p bb z zn j dF aZ aY hi hl2 h0 hx _=>?_,kV1 (_k:=k) hG hF ho hw ta Kb p1 hy dE Kb m1 Kb⟩;rw[m2];obtain⟨p',hmv⟩:=told Kb dF;have hb:=jD hmv Kb;have uM:=zA6 n u x hc p2;rw[e,p1]at hb;obtain⟨z',g1,g2⟩:=zO6 (m:=.mk false [] (lb::(rb++rk)) (kb++kk)) hy hgb dE rfl (fun hne=>by
   have hkl:k.lf=false:=by
    cases hl:k.lf
    ·rfl
    ·have h0:=(kX (zAk uM p4)).1 hl;rw[h0]at k2;exact absurd (List.eq_nil_of_length_eq_zero k2) hne
   have htx:=(kX (zAk uM p3)).2 (p5.trans hkl);rw[<-p6];show(zG9 b:Int)=(kb.length:Int)
   unfold zG9;rw[htx,b2];simp) aY hb
  by_cases hpk:p.1=u++[((i+1:Nat):Int)]
  ·rw[if_pos (.inr hpk)]at g2;have hz:z=.mk false [] (lk::rk) kk:=by
    rw[hpk,kNx hy dE]at aY;injection aY with aY;exact aY.symm
   subst hz;have hkn:k=zn:=by
    rw[hpk,kNx p2 p4]at dF;injection dF
   subst hkn;have hbk:=(kX (zAk uM p3)).1 (p5.trans aZ);exact kUs (rb:=rb) e hmv (by rw[p1,hpk]) (by rw[p1];simp) (by rw[<-p6];unfold zG9;rw[hbk];simp;omega) g1 (by rw[g2];rfl) h0 hx hi hl2
  ·have hne:a.q≠p.1:=fun e2=>hpk (e2.symm.trans p1);by_cases hpb:p.1=u++[(i:Int)]
   ·rw[if_pos (.inl hpb)]at g2;have hz:z=.mk false [] (lb::rb) kb:=by
     rw[hpb,kNx hy hgb]at aY;injection aY with aY;exact aY.symm
    subst hz;exact kUr (m:=rk) hmv h0 hx hne g1 (by rw[g2];rfl) hi hl2
   ·rw[if_neg (by rintro(h|h);exact hpb h;exact hpk h)]at g2;exact kOv hmv h0 hx (fun e2=>absurd e2 hne) g1 g2.2 hi hl2
 ·obtain⟨u,i,x,k,p1,p2,p3,p4,p5,p6,p7,p8⟩:=zCc hmx h;obtain⟨y,hy,hyx⟩:=kN7 u g n x hs p2;have hl:=(kNn hyx).2.1;obtain⟨gk,dE,jt⟩:=kOt (kNn hyx).2.2 p4;obtain⟨lk,rk,kk,rfl⟩:=hG.form (kNx hy dE);have hf:=kNr hn p2;have qG:=kNr hn (kNx p2 p4);have hx:=zA6 n u x hc p2;have hv:=kX (zAk hx p4);obtain⟨k1,k2,k3⟩:=kNn jt;have k1:rk.length+1=k.tx.length+1:=k1;have k2:kk.length=k.ks.length:=k2;have hlen:zG9 k=k.tx.length+k.ks.length:=rfl;have sL:=(List.getElem?_eq_some_iff.1 dE).1;obtain⟨z,hz⟩:∃z:Nat,a.z=(z:Int):=⟨a.z.toNat,by omega⟩;have uN:o.z=(z:Int):=by rw[<-ho.hz];exact hz
  have qJ:kB g a.q=some (.mk false [] (lk::rk) kk):=by rw[p1];exact kNx hy dE
  have away:∀{p:List Int×Int}{b:Bool}{s:NT}{j:Nat}{p':List Int}{hh tt:NT},jF a.k a.q a.t a.z p.1=(p',true)->hh.ks=kk.take z->tt.ks=kk.drop z->kB g p.1=some s->a.q≠p.1->0<=p.2->p.2<=1000->atZ p b=(j:Int)->j<s.tx.tail.length->
    ∃q,zEr a.k a.q a.t a.z (a.x.length:Int) (kRh b) p=(q,true)/\kPv (putT (putT g a.q hh) u (jS (setK y i hh) (i+1) 0 [tt])) q b=iAt s.tx.tail j:=fun{p}{b}{s}{j}{p'}{hh}{tt} hmv e1 e2 aY hne h0 hx hi hl2=>by
   have hb:=jD hmv Kb;rw[e,p1,hz]at hb;obtain⟨y',g1,g2⟩:=zO7 (h:=hh) (t:=tt) hy dE e1 e2 aY hb;rw[if_neg (fun h=>hne (by rw[p1];exact h.symm))]at g2;rw[p1,(zZj hy dE).2];rw[<-p1];exact kOv hmv h0 hx (fun e2=>absurd e2 hne) g1 g2.2 hi hl2
  by_cases h0:kk.length=0
  ·refine⟨_,fun p b s sn j dF aZ aY hi hl2 h0' hx' _=>?_,kVb hG hF ho hw ta Kb p1 hy sL Kb qJ uN Kb Kb h0⟩;obtain rfl:=List.eq_nil_of_length_eq_zero h0;obtain⟨p',hmv⟩:=told Kb dF;by_cases hq:a.q=p.1
   ·have hsz:s=.mk false [] (lk::rk) []:=by
     rw[<-hq,qJ]at aY;injection aY with aY;exact aY.symm
    subst hsz;have hb:=jD hmv Kb;have nR:p'=a.q:=by
     rw[e]at hb;unfold jH at hb;rw[<-hq,if_neg (by rw[p1];simp),if_neg Kd,if_neg Kd,if_neg Kd,if_pos rfl,p1,zGa,if_neg Kd,if_neg (fun h=>absurd h.1 Kd)]at hb;rw[p1];exact(zO hb).1.symm
    have hsp:=(zZj (h:=.mk false [] (lk::rk.take z) []) (t:=.mk false [] (-2::rk.drop z) []) hy dE).2;rw[<-p1]at hsp;rw[hsp];have hin:=fun(c:Nat)(hc:c<2)=>zAz (ks:=y.ks) (o:=[.mk false [] (lk::rk.take z) [],.mk false [] (-2::rk.drop z) []]) (i:=i) (m:=1) (j:=c) (by simpa using hc) Kb;refine kUt (rs:=rk) (k1:=[]) (k2:=[]) (lab:=lk) (lab2:= -2) e hmv nR hq p1 hz Kb ?_ ?_ h0' hx' hi hl2
    ·exact(zAw (x':=jS y i 1 [.mk false [] (lk::rk.take z) [],.mk false [] (-2::rk.drop z) []]) hy i [] (by show(spl y.ks i 1 _)[i]? =_;simpa using hin 0 Kb))
    ·exact(zAw (x':=jS y i 1 [.mk false [] (lk::rk.take z) [],.mk false [] (-2::rk.drop z) []]) hy (i+1) [] (by show(spl y.ks i 1 _)[i+1]? =_;simpa using hin 1 Kb))
   ·exact away (hh:=.mk false [] (lk::rk.take z) []) (tt:=.mk false [] (-2::rk.drop z) []) hmv (show([]:List NT)=List.take z []from List.take_nil.symm) (show([]:List NT)=List.drop z []from List.drop_nil.symm) aY hq h0' hx' hi hl2
  ·have aZ:k.lf=false:=by
    cases hl:k.lf
    ·rfl
    ·rw[hv.1 hl]at k2;exact absurd k2 h0
   have htx:k.tx.length=0:=by rw[hv.2 aZ];rfl
   have fin:kWc a n g (putT (putT g a.q (.mk false [] (lk::rk) (kk.take z))) u (jS (setK y i (.mk false [] (lk::rk) (kk.take z))) (i+1) 0 [.mk false [] [-2] (kk.drop z)])):=fun p b s sn j dF AL aY hi hl2 h0' hx' _=>by
    obtain⟨p',hmv⟩:=told Kb dF;refine away hmv rfl rfl aY (fun hq=>?_) h0' hx' hi hl2;rw[<-hq,qJ]at aY;injection aY with aY;rw[<-aY,kNy]at hl2;omega
   by_cases hz0:z=0
   ·exact⟨_,fin,kVd hG hF ho hw ta Kb p1 hy sL Kb qJ uN Kb Kb Kb Kb⟩
   ·exact⟨_,fin,kVc hG hF ho hw ta Kb p1 hy sL Kb qJ uN Kb Kb Kb⟩
 ·obtain⟨hc2,hq⟩:=zBz h;obtain⟨u,i,x,k,p1,p2,p3,p4,p5⟩:=zBn hc2;obtain⟨y,hy,hyx⟩:=kN7 u g n x hs p2;obtain⟨gk,dE,jt⟩:=kOt (kNn hyx).2.2 p3;have hl:=(kNn hyx).2.1;have hf:=kNr hn p2;have hsz:=zFn hc2;obtain⟨t,j,z,q1,q2,q3,q4,q5⟩:=zD7 hq;rw[p5]at q2 q5 hsz;have hs2:=kSv u g n x _ _ hs p2 (kTp hyx kTq i 1);obtain⟨y2,hy2,uO⟩:=kN7 t _ _ z hs2 q2;have hl2:=(kNn uO).2.1;have hf2:=kNr (m:=1000) Kb q2;refine⟨_,fun p b s sn j2 dF aZ aY hi bB h0 hx _=>?_,kVx hG hF ho hw ta Kb p1 hy dE Kb q1 hy2 Kb Kb⟩;obtain⟨p',hmv⟩:=told Kb dF;obtain⟨y',g1,g2⟩:=kUn e p1 q1 hy dE hy2 Kb aY hmv;exact kOv hmv h0 hx (fun _=>by omega) g1 g2.2 hi bB
 ·obtain⟨k,p1,p2,p3,p4⟩:=zC6 h;refine⟨g,fun p b s sn j dF aZ aY hi bB h0 hx _=>?_,kVa hG hF ho hw ta Kf Kf Kf Kf Kf Kf Kf⟩;obtain⟨p',hmv⟩:=told Kb dF;have hb:=jD hmv Kb;rw[zDz Kb]at hb;exact kOv hmv h0 hx (fun _=>by omega) (by rw[<-(zO hb).1];exact aY) rfl hi bB
 ·obtain⟨k,p1,p2,p3,p4⟩:=jZ h;have hi:zFx k.tx a.z a.x=((zFx k.tx a.z a.x).1,0):=Prod.ext rfl p3;obtain⟨j,hj,hjl⟩:=kSw hi;obtain⟨y,hy,hyx⟩:=kN7 a.q g n k hs p1;obtain⟨lb,rb,kb,rfl⟩:=hG.form hy;obtain⟨b1,b2,b3⟩:=kNn hyx;have hf:=kNr hn p1;have b1:rb.length+1=k.tx.length+1:=b1;obtain⟨c1,_,_⟩:=kP2 hs hc p1 p2 hy;have c1:kb=[]:=c1;subst c1;refine⟨_,fun p b s sn i dF aZ aY hi bB h0 hx _=>?_,kVz hG hF ho hw ta Kb hy (k:=j) (by rw[<-ho.hz];exact hj) Kb Kb⟩;obtain⟨p',hmv⟩:=told Kb dF;have hb:=jD hmv Kb;rw[zDz Kb]at hb;have gy:=(zO hb).1;rw[<-ho.hnx];by_cases hq:a.q=p.1
  ·have hsz:s=.mk false [] (lb::rb) []:=by
    rw[<-hq,hy]at aY;injection aY with aY;exact aY.symm
   subst hsz;exact kUp e hmv (by rw[<-gy,hq]) hq ⟨_,hy⟩ h0 hx hj Kb hi bB
  ·obtain⟨y',g1,g2⟩:=zGx (k':=.mk false [] (lb::(rb.take j++List.replicate a.x.length (-2)++rb.drop j)) []) hy rfl rfl aY;rw[if_neg (fun h=>hq h.symm)]at g2;exact kOv hmv h0 hx (fun e2=>absurd e2 hq) (by rw[<-gy];exact g1) g2.2 hi bB
 ·obtain⟨k,p1,p2,p3,p4⟩:=jZ h;have hi:zFe k.tx a.z a.x=((zFe k.tx a.z a.x).1,0):=Prod.ext rfl p3;obtain⟨j,hj,hjl⟩:=kSx hi;obtain⟨y,hy,hyx⟩:=kN7 a.q g n k hs p1;obtain⟨lb,rb,kb,rfl⟩:=hG.form hy;obtain⟨b1,b2,b3⟩:=kNn hyx;have hf:=kNr hn p1;have hnx:=ho.hnx;have b1:rb.length+1=k.tx.length+1:=b1;obtain⟨c1,_,_⟩:=kP2 hs hc p1 p2 hy;have c1:kb=[]:=c1;subst c1;refine⟨_,fun p b s sn i dF aZ aY hi bB h0 hx hin=>?_,kV0 hG hF ho hw ta Kb hy (k:=j) (by rw[<-ho.hz];exact hj) Kb Kb⟩;obtain⟨p',hmv⟩:=told Kb dF;have hb:=jD hmv Kb;rw[zDz Kb]at hb;have gy:=(zO hb).1;rw[<-ho.hnx]at hin⊢;by_cases hq:a.q=p.1
  ·have hsz:s=.mk false [] (lb::rb) []:=by
    rw[<-hq,hy]at aY;injection aY with aY;exact aY.symm
   subst hsz;exact kUq e hmv (by rw[<-gy,hq]) hq ⟨_,hy⟩ h0 hx hj rfl Kb hi bB (kUv hu hy bB hin)
  ·obtain⟨y',g1,g2⟩:=zGx (k':=.mk false [] (lb::(rb.take j++rb.drop (j+a.x.length))) []) hy rfl rfl aY;rw[if_neg (fun h=>hq h.symm)]at g2;exact kOv hmv h0 hx (fun e2=>absurd e2 hq) (by rw[<-gy];exact g1) g2.2 hi bB
def OC.into (o:OC):SC:=⟨o.gi,o.G1,o.g1,o.e1,o.go,o.G2,o.g2,o.e2,o.gp⟩
theorem zLl {o:OC}(h:OkA w o a):zB1 w o.into a.g:=h.hg
def SC.nil :SC:=⟨false,none,0,0,0,none,0,0,0⟩
theorem zJ2 (w:World):zB1 w SC.nil zeroS:=zIi.zero w
theorem zDs (w:World)(c:NC)(s:SC)(o:OC):∃W0,((((w.alloc (.cells c.row 26)).alloc (.cells s.row 33)).alloc (.cells o.row 35)).alloc (.cells #[.bool false,.slice none 0 0,.slice none 0 0,.slice none 0 0] 26)).alloc (.cells #[.bool false,.slice none 0 0,.int .i64 0,.slice none 0 0,.int .i64 0] 33)=W0/\St5 w c s o (w.heap.size+1+1+1) (w.heap.size+1+1+1+1) NC.nil SC.nil W0:=by
 obtain⟨W1,hW1,h1⟩:=kN w c s o;have e1:W1.heap.size=w.heap.size+1+1+1:=by rw[<-hW1];simp
 rw[hW1];refine⟨_,rfl,h1.call ((Kl.alloc Km _).alloc Kc _),?_,?_⟩
 ·rw[<-e1];exact(jT.new W1 26 NC.nil.row).alloc _
 ·have e2:(W1.alloc (.cells NC.nil.row 26)).heap.size=w.heap.size+1+1+1+1:=by simp[e1]
  rw[<-e2];exact jT.new _ 33 SC.nil.row
theorem St5.set7 {o:OC}{a a':NC}(h:St5 w c s o g7 g8 a t W)(hg:w.heap.size+1+1<g7)(hne:g8≠g7)(hv:jT 26 W' g7 a'.row)(ho:Off g7 W W'):St5 w c s o g7 g8 a' t W':=⟨h.st.store ho hg,hv,h.v8.off ho hne⟩
theorem St5.set8 {o:OC}{a:NC}{t':SC}(h:St5 w c s o g7 g8 a t W)(hg:w.heap.size+1+1<g8)(hne:g7≠g8)(hv:jT 33 W' g8 t'.row)(ho:Off g8 W W'):St5 w c s o g7 g8 a t' W':=⟨h.st.store ho hg,h.v7.off ho hne,hv⟩
theorem zDt {fn:Func}{p q u:Tmp}(h:fn.results=#[.cell p 26,.cell q 33,.tmp u])(tmps:Array Value)(w:World){g g':Nat}(hv:jT 26 w g c.row)(hs:jT 33 w g' s.row)(hp:tmps.getD p undef=.pointer (some ⟨g,0,none⟩))(hq:tmps.getD q undef=.pointer (some ⟨g',0,none⟩)):(results fn tmps).run Tryz.prog w=.ok (.tuple #[.agg c.row,.agg s.row,tmps.getD u undef]) w:=by
 obtain⟨d,h3,h4,h5⟩:=zD;obtain⟨d',h3',h4',sM⟩:=zP;simp only[results,h];simp only[List.mapM_toArray,hp,hq,asAddr,Sem.run_bind,Sem.run_pure,List.mapM_cons,List.mapM_nil];simp[Sem.run_bind,Result.andThen,run_loadVar_row w g _ _ _ _ d hv h3 (by cases d<;>simp_all) h5,run_loadVar_row w g' _ _ _ _ d' hs h3' (by cases d'<;>simp_all) sM]
def OC.from_ (o:OC):SC:=⟨o.fi,o.F1,o.f1,o.d1,o.fo,o.F2,o.f2,o.d2,o.fp⟩
theorem zPq {o:OC}(h:OkA w o a):zB1 w o.from_ a.f:=h.hf
theorem kH9 (h:kS w c n):Calls Tryz.prog 41 #[.agg c.row] w (fun e w'=>∃c':NC,e=.returned (.agg c'.row)/\zH3 w.heap.size w' (fun W=>kS W c' n)/\Below w.heap.size w w'):=by
 obtain⟨d,h⟩:=h;refine(zEy d w _ n h).mono fun e w' h1=>?_;obtain⟨v,rfl,ht,hb⟩:=h1;obtain⟨c',rfl,_⟩:=zFo (ht.at_ (B:=w'.heap.size) fun b hb=>hb.2);exact⟨c',rfl,zHy ht,hb⟩
def zVb (w:World)(r:(NT×Sl)×Int)(e:Ending)(w':World):Prop:=
 ∃(c:NC)(s:SC),e=.returned (.tuple #[.agg c.row,.agg s.row,.int .i64 r.2])/\zH3 w.heap.size w' (fun W=>kS W c r.1.1)/\zH3 w.heap.size w' (fun W=>zB1 W s r.1.2)/\Below w.heap.size w w'
theorem kOq (h:P:=by
 have H1:=hd h1;try have H2:=hd h2
 try have H3:=hd h3
 try have H4:=hd h4
 have HN:=hd hn;have fL:=hd hs;have HO:=hd ho;have ju:=hd hf;have ax:=hd ta;clear hn hs ho hf ta h1;try clear h2
 try clear h3
 try clear h4
 obtain⟨W0,hW,hst⟩:=kN w c s o;have HW:=hd hW;have HM:=hd hst;clear hW hst;go_enter Tryz.func29,Tryz.ntmps29
 go_upto_region 1 with fail
 rw[HW.o];clear HW;go_wp2_with(first
  |((with_reducible refine zC (ty:=26) (x:=.tmp 3) ?_);refine zB zD HM.o.v3 rfl _ rfl rfl rfl ?_)
  |(go_at_call 65;refine Calls.mono (zFa (HN.o.later HM.o.below) H1.o) ?_;rintro e w1 ⟨rfl,b9⟩;have HM:=hd (HM.o.call b9);clear b9)
  |((with_reducible refine zC (ty:=4) (x:=.tmp 14) ?_);refine zM HM.o.v3 (j:=0) (v:=.bool false) _ rfl rfl rfl (by simp only[NC.row,H2.o];rfl) Tryz.underlying4 rfl ?_)
  |((with_reducible refine zC (ty:=4) (x:=.tmp 14) ?_);refine zM HM.o.v3 (j:=0) (v:=.bool true) _ rfl rfl rfl (by simp only[NC.row,H2.o];rfl) Tryz.underlying4 rfl ?_)
  |((with_reducible refine zC (ty:=33) (x:=.tmp 4) ?_);refine zB zP HM.o.v4 rfl _ rfl rfl rfl ?_)
  |(go_at_call 66;refine Calls.mono (zKk (HN.o.later HM.o.below) (fL.o.later HM.o.below) ju.o H3.o) ?_;rintro e w2 ⟨rfl,b9⟩;have HM:=hd (HM.o.call b9);clear b9)
  |((with_reducible refine zC (ty:=35) (x:=.tmp 5) ?_);refine zG HM.o.v5 _ rfl rfl rfl ?_)
  |(go_at_call 67;refine Calls.mono (zFt (HO.o.later HM.o.below) ax.o H4.o) ?_;rintro e w3 ⟨rfl,b9⟩;have HM:=hd (HM.o.call b9);clear b9)
  |fail)
 go_ret
 exact⟨rfl,HM.o.below⟩):P:=h
theorem kH0 {o:OC}(hn:kS w c n)(hs:zB1 w s sl)(ho:OkA w o a)(hf:fewS sl=true)(ta:zAf a)(h1:zAd n=E)(hne:(E !=0)=true):Calls Tryz.prog 29 #[.agg c.row,.agg s.row,.agg o.row] w (jA (.int .i64 E) w):=by
 exact kOq
theorem kH1 {o:OC}(hn:kS w c n)(hs:zB1 w s sl)(ho:OkA w o a)(hf:fewS sl=true)(ta:zAf a)(h1:zAd n=0)(h2:c.lf=true):Calls Tryz.prog 29 #[.agg c.row,.agg s.row,.agg o.row] w (jA (.int .i64 7) w):=by
 exact kOq
theorem kH2 {o:OC}(hn:kS w c n)(hs:zB1 w s sl)(ho:OkA w o a)(hf:fewS sl=true)(ta:zAf a)(h1:zAd n=0)(h2:c.lf=false)(h3:zE8 n sl=E)(hne:(E !=0)=true):Calls Tryz.prog 29 #[.agg c.row,.agg s.row,.agg o.row] w (jA (.int .i64 E) w):=by
 exact kOq
theorem kH3 {o:OC}(hn:kS w c n)(hs:zB1 w s sl)(ho:OkA w o a)(hf:fewS sl=true)(ta:zAf a)(h1:zAd n=0)(h2:c.lf=false)(h3:zE8 n sl=0)(h4:zCx a=E):Calls Tryz.prog 29 #[.agg c.row,.agg s.row,.agg o.row] w (jA (.int .i64 E) w):=by
 exact kOq
noncomputable def zG7 (n:NT)(s:Sl)(a:OpP):Int:=if zAd n≠0 then zAd n else if n.lf=true then 7 else if zE8 n s≠0 then zE8 n s else zCx a
theorem zIh {o:OC}(hn:kS w c n)(hs:zB1 w s sl)(ho:OkA w o a)(hf:fewS sl=true)(ta:zAf a)(hE:zG7 n sl a=E):Calls Tryz.prog 29 #[.agg c.row,.agg s.row,.agg o.row] w (jA (.int .i64 E) w):=by
 unfold zG7 at hE;by_cases h1:zAd n=0
 case neg=>rw[if_pos h1]at hE;subst hE;exact kH0 hn hs ho hf ta rfl (by simpa using h1)
 rw[if_neg (by simp[h1])]at hE;have el:=hn.lf;cases h2:n.lf with
 |true=>rw[if_pos h2]at hE;subst hE;exact kH1 hn hs ho hf ta h1 (by rw[<-el];exact h2)
 |false=>
  rw[if_neg (by simp[h2])]at hE;have h2':c.lf=false:=by rw[<-el];exact h2
  by_cases h3:zE8 n sl=0
  case neg=>rw[if_pos h3]at hE;subst hE;exact kH2 hn hs ho hf ta h1 h2' rfl (by simpa using h3)
  rw[if_neg (by simp[h3])]at hE;exact kH3 hn hs ho hf ta h1 h2' h3 hE
