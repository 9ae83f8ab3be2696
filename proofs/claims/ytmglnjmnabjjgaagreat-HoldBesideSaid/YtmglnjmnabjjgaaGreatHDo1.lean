import Derived.Test.YtmglnjmnabjjgaaGreatJHMade
set_option maxRecDepth 100000
set_option maxHeartbeats 8000000
namespace Go.Proofs.YtmglnjmnabjjgaaGreat
open Go.RowKit
variable {w w0:World}{v:Value}{g k x:NT}{F:Nat->Prop}{a:OpP}{u:List Int}{i:Nat}
def kSl (F:Nat->Prop)(v:Value)(n:NT)(w:World)(e:Ending)(w':World):Prop:=∃F',e=.returned (.tuple #[])/\Gh w' v n F'/\(∀q,F' q->F q∨(w.heap.size<=q/\q<w'.heap.size))/\Tch F w w'
theorem kPi {c:NC}{n:NT}{f:Int}(hn:kS w c n)(h0:0<=f)(hs:f+sizeT n<=500000):Calls Tryz.prog 16 #[.agg c.row,.int .i64 f] w (kWb f n w):=by
 obtain⟨d,hn⟩:=hn;exact kR9 d w _ n f hn h0 hs
mutual
theorem kQp :∀(n:NT)(f:Int),sizeT (kQ3 n f)<=2*sizeT n
 |.mk _ _ tx ks,f=>by
  have:=kQq ks (f+1+tx.length);simp only[kQ3,sizeT,List.length_cons,kOr];omega
theorem kQq :∀(ks:List NT)(f:Int),sizeK (kPx ks f)<=2*sizeK ks
 |[],f=>by simp[kPx,sizeK]
 |k::r,f=>by
  have:=kQp k f;have:=kQq r (f+sizeT k);simp only[kPx,sizeK];omega
end
theorem kVa {o:OC}(hG:Gh w v g F)(hF:∀q,F q->w0.heap.size<=q/\q<w.heap.size)(ho:OkA w0 o a)(hw:Below w0.heap.size w0 w)(ta:zAf a)(h1:(o.k==1)=false)(h2:(o.k==2)=false)(h3:(o.k==3)=false)(h4:(o.k==4)=false)(h5:(o.k==5)=false)(h7:(o.k==7)=false)(h8:(o.k==8)=false):Calls Tryz.prog 17 #[v,.agg o.row] w (kSl F v g w):=by
 obtain⟨W1,hW1⟩:∃W,w.alloc (.cells o.row 35)=W:=⟨_,rfl⟩;have hv:jR W1 w.heap.size o:=hW1▸jR.new w o;have au:Below w.heap.size w W1:=hW1▸Kl.alloc Km _;have eP:=hw.size;have HV:=hd hv;have HB:=hd (hw.trans (au.mono eP));have HG:=hd (hG.later (fun q h=>(hF q h).2) au);have HF:=hd (fun q(h:F q)=>(⟨(hF q h).1,(hF q h).2,Nat.lt_of_lt_of_le (hF q h).2 au.size⟩:w0.heap.size<=q/\q<w.heap.size/\q<W1.heap.size));have HT:=hd (Tch.of_below (F:=F) au);have HO:=hd ho;have ax:=hd ta;have HW:=hd hW1;have hs1:W1.heap.size=w.heap.size+1:=by rw[<-hW1];simp
 clear hG hF ho hw ta hv au hW1;go_enter Tryz.func17,Tryz.ntmps17
 go_upto_region 1 with fail
 rw[HW.o];clear HW;go_wp2_with(first
  |((with_reducible refine zC (ty:=3) (x:=.tmp 17) ?_);refine zE HV.o (j:=0) (v:=.int .i64 o.k) _ rfl rfl rfl rfl Tryz.underlying3 rfl ?_)
  |fail)
 go_end0
 exact⟨F,rfl,HG.o,fun q h=>.inl h,HT.o⟩
theorem kVw {o:OC}(hG:Gh w v g F)(hF:∀q,F q->w0.heap.size<=q/\q<w.heap.size)(ho:OkA w0 o a)(hw:Below w0.heap.size w0 w)(ta:zAf a)(hk:o.k=2)(bA:a.q=u++[(i:Int)])(hx:kB g u=some x)(hi:x.ks[i]? =some k)(hs:x.ks.length<=500000):Calls Tryz.prog 17 #[v,.agg o.row] w (kSl F v (putT g u (jS x i 1 [])) w):=by
 first|have k1:(o.k==1)=true:=by simp[hk]|have k1:(o.k==1)=false:=by simp[hk]
 first|have k2:(o.k==2)=true:=by simp[hk]|have k2:(o.k==2)=false:=by simp[hk]
 first|have k3:(o.k==3)=true:=by simp[hk]|have k3:(o.k==3)=false:=by simp[hk]
 first|have k4:(o.k==4)=true:=by simp[hk]|have k4:(o.k==4)=false:=by simp[hk]
 first|have k5:(o.k==5)=true:=by simp[hk]|have k5:(o.k==5)=false:=by simp[hk]
 first|have k7:(o.k==7)=true:=by simp[hk]|have k7:(o.k==7)=false:=by simp[hk]
 first|have k8:(o.k==8)=true:=by simp[hk]|have k8:(o.k==8)=false:=by simp[hk]
 clear hk;have eQ:=hd bA;have HX:=hd hx;have HI:=hd hi;have HS:=hd hs;clear bA hx hi hs;obtain⟨W1,hW1⟩:∃W,w.alloc (.cells o.row 35)=W:=⟨_,rfl⟩;have hv:jR W1 w.heap.size o:=hW1▸jR.new w o;have au:Below w.heap.size w W1:=hW1▸Kl.alloc Km _;have eP:=hw.size;have HV:=hd hv;have HB:=hd (hw.trans (au.mono eP));have HG:=hd (hG.later (fun q h=>(hF q h).2) au);have HF:=hd (fun q(h:F q)=>(⟨(hF q h).1,(hF q h).2,Nat.lt_of_lt_of_le (hF q h).2 au.size⟩:w0.heap.size<=q/\q<w.heap.size/\q<W1.heap.size));have HT:=hd (Tch.of_below (F:=F) au);have HO:=hd ho;have ax:=hd ta;have HW:=hd hW1;have hs1:W1.heap.size=w.heap.size+1:=by rw[<-hW1];simp
 clear hG hF ho hw ta hv au hW1;go_enter Tryz.func17,Tryz.ntmps17
 go_upto_region 1 with fail
 rw[HW.o];clear HW;go_wp2_with(first
  |((with_reducible refine zC (ty:=3) (x:=.tmp 17) ?_);refine zE HV.o (j:=0) (v:=.int .i64 o.k) _ rfl rfl rfl rfl Tryz.underlying3 rfl ?_)
  |((with_reducible refine zC (ty:=27) (x:=.tmp 37) ?_);refine zE HV.o (j:=1) (v:=.slice o.Q o.lq o.cq) _ rfl rfl rfl rfl Tryz.underlying27 rfl ?_)
  |(go_at_call 44;refine Calls.mono (kQa HG.o (fun q h=>(HF.o q h).2.2) (by rw[<-eQ.o];exact(HO.o.later HB.o).hasq ax.o) HX.o HI.o HS.o) ?_;rintro e w2 ⟨p,Fk,F2,rfl,h1,h2,h3,h4,h5⟩;have hs2:=h5.size;have iP:=hd h1;have HG2:=hd h2;have iQ:=hd h3;have iw:=hd h4;have gM:=hd h5;have aL:=hd (HB.o.trans (h5.below Kb (fun q _ h=>(HF.o q h).1)));have aj:=hd (show jR w2 w.heap.size o from(h5.block _ HV.o.lt (fun e=>by have:=(HF.o _ e).2.1;omega)).trans HV.o);clear h1 h2 h3 h4 h5)
  |fail)
 go_end0
 refine⟨F2,rfl,HG2.o,fun q h=>?_,HT.o.trans gM.o fun q _ h=>h⟩;rcases iw.o q (.inr h)with h|h
 ·exact .inl h
 ·exact .inr Kb
theorem kVx {o:OC}{t:List Int}{j:Nat}{y:NT}(hG:Gh w v g F)(hF:∀q,F q->w0.heap.size<=q/\q<w.heap.size)(ho:OkA w0 o a)(hw:Below w0.heap.size w0 w)(ta:zAf a)(hk:o.k=5)(bA:a.q=u++[(i:Int)])(hx:kB g u=some x)(hi:x.ks[i]? =some k)(hs:x.ks.length<=500000)(hpt:a.t=t++[(j:Int)])(hy:kB (putT g u (jS x i 1 [])) t=some y)(hj:j<=y.ks.length)(xe:y.ks.length<=500000):Calls Tryz.prog 17 #[v,.agg o.row] w (kSl F v (putT (putT g u (jS x i 1 [])) t (jS y j 0 [k])) w):=by
 first|have k1:(o.k==1)=true:=by simp[hk]|have k1:(o.k==1)=false:=by simp[hk]
 first|have k2:(o.k==2)=true:=by simp[hk]|have k2:(o.k==2)=false:=by simp[hk]
 first|have k3:(o.k==3)=true:=by simp[hk]|have k3:(o.k==3)=false:=by simp[hk]
 first|have k4:(o.k==4)=true:=by simp[hk]|have k4:(o.k==4)=false:=by simp[hk]
 first|have k5:(o.k==5)=true:=by simp[hk]|have k5:(o.k==5)=false:=by simp[hk]
 first|have k7:(o.k==7)=true:=by simp[hk]|have k7:(o.k==7)=false:=by simp[hk]
 first|have k8:(o.k==8)=true:=by simp[hk]|have k8:(o.k==8)=false:=by simp[hk]
 clear hk;have eQ:=hd bA;have HX:=hd hx;have HI:=hd hi;have HS:=hd hs;have cD:=hd hpt;have HY:=hd hy;have HJ:=hd hj;have zb:=hd xe;clear bA hx hi hs hpt hy hj xe;obtain⟨W1,hW1⟩:∃W,w.alloc (.cells o.row 35)=W:=⟨_,rfl⟩;have hv:jR W1 w.heap.size o:=hW1▸jR.new w o;have au:Below w.heap.size w W1:=hW1▸Kl.alloc Km _;have eP:=hw.size;have HV:=hd hv;have HB:=hd (hw.trans (au.mono eP));have HG:=hd (hG.later (fun q h=>(hF q h).2) au);have HF:=hd (fun q(h:F q)=>(⟨(hF q h).1,(hF q h).2,Nat.lt_of_lt_of_le (hF q h).2 au.size⟩:w0.heap.size<=q/\q<w.heap.size/\q<W1.heap.size));have HT:=hd (Tch.of_below (F:=F) au);have HO:=hd ho;have ax:=hd ta;have HW:=hd hW1;have hs1:W1.heap.size=w.heap.size+1:=by rw[<-hW1];simp
 clear hG hF ho hw ta hv au hW1;go_enter Tryz.func17,Tryz.ntmps17
 go_upto_region 1 with fail
 rw[HW.o];clear HW;go_wp2_with(first
  |((with_reducible refine zC (ty:=3) (x:=.tmp 17) ?_);refine zE HV.o (j:=0) (v:=.int .i64 o.k) _ rfl rfl rfl rfl Tryz.underlying3 rfl ?_)
  |((with_reducible refine zC (ty:=27) (x:=.tmp 178) ?_);refine zE HV.o (j:=1) (v:=.slice o.Q o.lq o.cq) _ rfl rfl rfl rfl Tryz.underlying27 rfl ?_)
  |((with_reducible refine zC (ty:=27) (x:=.tmp 178) ?_);refine zE HV.o (j:=1) (v:=.slice o.Q o.lq o.cq) _ rfl rfl rfl rfl Tryz.underlying27 rfl ?_)
  |(go_at_call 44;refine Calls.mono (kQa HG.o (fun q h=>(HF.o q h).2.2) (by rw[<-eQ.o];exact(HO.o.later HB.o).hasq ax.o) HX.o HI.o HS.o) ?_;rintro e w2 ⟨p,Fk,F2,rfl,h1,h2,h3,h4,h5⟩;have hs2:=h5.size;have iP:=hd h1;have HG2:=hd h2;have iQ:=hd h3;have iw:=hd h4;have gM:=hd h5;have aL:=hd (HB.o.trans (h5.below Kb (fun q _ h=>(HF.o q h).1)));have aj:=hd (show jR w2 w.heap.size o from(h5.block _ HV.o.lt (fun e=>by have:=(HF.o _ e).2.1;omega)).trans HV.o);clear h1 h2 h3 h4 h5)
  |((with_reducible refine zC (ty:=27) (x:=.tmp 182) ?_);refine zE aj.o (j:=2) (v:=.slice o.T o.lt o.ct) _ rfl rfl rfl rfl Tryz.underlying27 rfl ?_)
  |(go_at_call 43;refine Calls.mono (kQb HG2.o (fun q h=>by have:=iw.o q (.inr h);rcases this with h|h;(have:=(HF.o q h).2.2;omega);exact h.2) iP.o (fun q h=>⟨by have:=iw.o q (.inl h);rcases this with h|h;(have:=(HF.o q h).2.2;omega);exact h.2,iQ.o q h⟩) (by rw[<-cD.o];exact(HO.o.later aL.o).hast ax.o) HY.o HJ.o zb.o) ?_;rintro e w3 ⟨F3,rfl,h1,h2,h3⟩;have hs3:=h3.size;have pE:=hd h1;have ze:=hd h2;have mz:=hd h3;clear h1 h2 h3)
  |fail)
 go_end0
 refine⟨F3,rfl,pE.o,fun q h=>?_,(HT.o.trans gM.o fun q _ h=>h).trans mz.o fun q hq h=>?_⟩
 ·rcases ze.o q h with h|h|h
  ·rcases iw.o q (.inr h)with h|h
   ·exact .inl h
   ·exact .inr Kb
  ·rcases iw.o q (.inl h)with h|h
   ·exact .inl h
   ·exact .inr Kb
  ·exact .inr Kb
 ·rcases iw.o q (.inr h)with h|h
  ·exact h
  ·omega
theorem kVy {o:OC}(hG:Gh w v g F)(hF:∀q,F q->w0.heap.size<=q/\q<w.heap.size)(ho:OkA w0 o a)(hw:Below w0.heap.size w0 w)(ta:zAf a)(hk:o.k=1)(bA:a.q=u++[(i:Int)])(hx:kB g u=some x)(hi:i<=x.ks.length)(hs:x.ks.length<=500000)(l6:sizeT a.n<=200000):Calls Tryz.prog 17 #[v,.agg o.row] w (kSl F v (putT g u (jS x i 0 [fgT (kQ3 a.n 0)])) w):=by
 first|have k1:(o.k==1)=true:=by simp[hk]|have k1:(o.k==1)=false:=by simp[hk]
 first|have k2:(o.k==2)=true:=by simp[hk]|have k2:(o.k==2)=false:=by simp[hk]
 first|have k3:(o.k==3)=true:=by simp[hk]|have k3:(o.k==3)=false:=by simp[hk]
 first|have k4:(o.k==4)=true:=by simp[hk]|have k4:(o.k==4)=false:=by simp[hk]
 first|have k5:(o.k==5)=true:=by simp[hk]|have k5:(o.k==5)=false:=by simp[hk]
 first|have k7:(o.k==7)=true:=by simp[hk]|have k7:(o.k==7)=false:=by simp[hk]
 first|have k8:(o.k==8)=true:=by simp[hk]|have k8:(o.k==8)=false:=by simp[hk]
 clear hk;have eQ:=hd bA;have HX:=hd hx;have HI:=hd hi;have HS:=hd hs;have pY:=hd l6;clear bA hx hi hs l6;obtain⟨W1,hW1⟩:∃W,w.alloc (.cells o.row 35)=W:=⟨_,rfl⟩;have hv:jR W1 w.heap.size o:=hW1▸jR.new w o;have au:Below w.heap.size w W1:=hW1▸Kl.alloc Km _;have eP:=hw.size;have HV:=hd hv;have HB:=hd (hw.trans (au.mono eP));have HG:=hd (hG.later (fun q h=>(hF q h).2) au);have HF:=hd (fun q(h:F q)=>(⟨(hF q h).1,(hF q h).2,Nat.lt_of_lt_of_le (hF q h).2 au.size⟩:w0.heap.size<=q/\q<w.heap.size/\q<W1.heap.size));have HT:=hd (Tch.of_below (F:=F) au);have HO:=hd ho;have ax:=hd ta;have HW:=hd hW1;have hs1:W1.heap.size=w.heap.size+1:=by rw[<-hW1];simp
 clear hG hF ho hw ta hv au hW1;go_enter Tryz.func17,Tryz.ntmps17
 go_upto_region 1 with fail
 rw[HW.o];clear HW;go_wp2_with(first
  |((with_reducible refine zC (ty:=3) (x:=.tmp 17) ?_);refine zE HV.o (j:=0) (v:=.int .i64 o.k) _ rfl rfl rfl rfl Tryz.underlying3 rfl ?_)
  |((with_reducible refine zC (ty:=26) (x:=.tmp 22) ?_);refine kR HV.o (j:=4) (vs:=[.bool o.lf,.slice o.P o.np o.pc,.slice o.X o.nt o.tc,.slice o.K o.nk o.kc]) zCp _ rfl rfl rfl Ka ?_)
  |(go_at_call 16;refine Calls.mono (kPi (c:=o.nc) (HO.o.later HB.o).hasn (Int.le_refl 0) (by have:=pY.o;omega)) ?_;rintro e w2 ⟨p,rfl,h1,h2⟩;have hs2:=h2.size;have HP:=hd h1;have aL:=hd (zI HB.o h2);have aj:=hd (show jR w2 w.heap.size o from(h2.block _ HV.o.lt).trans HV.o);have gM:=hd (HT.o.trans (Tch.of_below (F:=F) h2) (fun q _ h=>h));have HG2:=hd (HG.o.later (fun q h=>(HF.o q h).2.2) h2);clear h1 h2)
  |(go_at_call 42;refine Calls.mono (kRb _ _ _ _ _ Km HP.o (fun q h=>h.2) (by have:=pY.o;have:=kQp a.n 0;omega)) ?_;rintro e w3 ⟨rfl,h1,h2⟩;have hs3:=h2.size;have iR:=hd h1;have cE:=hd (aL.o.trans (h2.below Kb (fun q _ h=>by have:=h.1;omega)));have gN:=hd (show jR w3 w.heap.size o from(h2.block _ aj.o.lt (fun e=>by have:=e.1;omega)).trans aj.o);have mz:=hd (gM.o.trans h2 (fun q hq h=>by have:=h.1;omega));have pE:=hd (HG2.o.frame (fun q h=>h2.block q (by have:=(HF.o q h).2.2;omega) (fun e=>by have:=(HF.o q h).2.2;have:=e.1;omega)));clear h1 h2)
  |((with_reducible refine zC (ty:=27) (x:=.tmp 30) ?_);refine zE gN.o (j:=1) (v:=.slice o.Q o.lq o.cq) _ rfl rfl rfl rfl Tryz.underlying27 rfl ?_)
  |(go_at_call 43;refine Calls.mono (kQb pE.o (fun q h=>by have:=(HF.o q h).2.2;omega) iR.o (fun q h=>⟨by have:=h.2;omega,fun e=>by have:=(HF.o q e).2.2;have:=h.1;omega⟩) (by rw[<-eQ.o];exact(HO.o.later cE.o).hasq ax.o) HX.o HI.o HS.o) ?_;rintro e w4 ⟨F4,rfl,h1,h2,h3⟩;have hs4:=h3.size;have ua:=hd h1;have zf:=hd h2;have iT:=hd h3;clear h1 h2 h3)
  |fail)
 go_end0
 refine⟨F4,rfl,ua.o,fun q h=>?_,mz.o.trans iT.o fun q _ h=>h⟩;rcases zf.o q h with h|h|h
 ·exact .inl h
 ·exact .inr (by have:=h.1;have:=h.2;omega)
 ·exact .inr Kb
