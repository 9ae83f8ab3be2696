import Derived.Test.YtmkciabefepelaaGreatUStay
set_option maxRecDepth 100000
set_option maxHeartbeats 8000000
namespace Go.Proofs.YtmkciabefepelaaGreat
open Go.RowKit
variable {P:Prop}{w w':World}{c:NC}{s:SC}{n x:NT}{sl:Sl}{a:OpP}{l:List Pr}{b:Nat}{D:DataW Unit}{ops:Array Oper}{rest:List Oper}{Q:Exit->Act->World->Prop}
theorem kO8 (h:P:=by
 have xh:=hd gL;try have CZ:=hd zm
 try have dP:=hd hch
 try have HIS:=hd his
 try have uC:=hd bR
 have HN:=hd hn;have dv:=hd hs;have HO:=hd ho;have kx:=hd hf;have au:=hd ta;clear hn hs ho hf ta gL;try clear zm
 try clear hch
 try clear his
 try clear bR
 obtain⟨W0,hW,hst⟩:=zDs w c s o;have HW:=hd hW;have HM:=hd hst;clear hW hst;go_enter Tryz.func13,Tryz.ntmps13
 go_upto_region 1 with fail
 rw[HW.o];clear HW;go_wp2_with(first
  |((with_reducible refine zC (ty:=26) (x:=.tmp 3) ?_);refine zB zD HM.o.st.v3 rfl _ rfl rfl rfl ?_)
  |((with_reducible refine zC (ty:=33) (x:=.tmp 4) ?_);refine zB zP HM.o.st.v4 rfl _ rfl rfl rfl ?_)
  |((with_reducible refine zC (ty:=35) (x:=.tmp 5) ?_);refine zG HM.o.st.v5 _ rfl rfl rfl ?_)
  |(go_at_call 40;refine Calls.mono (zIh (HN.o.later HM.o.st.below) (dv.o.later HM.o.st.below) (HO.o.later HM.o.st.below) kx.o au.o xh.o) ?_;rintro e w1 ⟨rfl,b9⟩;have HM:=hd (HM.o.call b9);clear b9)
  |((with_reducible refine zC (ty:=3) (x:=.tmp 21) ?_);refine zE HM.o.st.v5 (j:=0) (v:=.int .i64 o.k) _ rfl rfl rfl rfl Tryz.underlying3 rfl ?_)
  |(go_at_call 41;refine Calls.mono (CZ.o _ HM.o.st.below) ?_;rintro e w2 ⟨cx,sx,rfl,h1,h2,b9⟩;have hlo:=HM.o.v8.lt;have HX:=hd h1;have HS:=hd h2;have HM:=hd (HM.o.call b9);clear b9 h1 h2;dsimp only)
  |((with_reducible refine zF (ty:=26) (x:=.tmp 10) ?_);refine zA zD (r0:=NC.nil.row) (r:=cx.row) (zAr w2).1 rfl rfl cx.one _ _ rfl rfl rfl rfl rfl ?_;intro W3 hv ho;have ac:=hd hv;have HI:=hd ((HI.o.call (zAr w2).2).off2 ho Kb);have HM:=hd (HM.o.call ((zAr w2).2.trans (ho.below Km (zAr w2).2.size)));clear hv ho)
  |((with_reducible refine zF (ty:=26) (x:=.tmp 6) ?_);refine zA zD (r0:=NC.nil.row) (r:=cx.row) HM.o.v7 rfl rfl cx.one _ _ rfl rfl rfl rfl rfl ?_;intro W7 hv ho;have HM:=hd (HM.o.set7 (a':=cx) Kb Kb hv ho);have HX:=hd (HX.o.off ho Kb);have HS:=hd (HS.o.off ho Kb);clear hv ho)
  |((with_reducible refine zF (ty:=26) (x:=.tmp 6) ?_);refine zA zD (r0:=NC.nil.row) (r:=NC.nil.row) HM.o.v7 rfl rfl NC.nil.one _ _ rfl rfl rfl rfl rfl ?_;intro W7 hv ho;have HM:=hd (HM.o.set7 (a':=NC.nil) Kb Kb hv ho);clear hv ho)
  |((with_reducible refine zF (ty:=33) (x:=.tmp 7) ?_);refine zA zP (r0:=SC.nil.row) (r:=sx.row) HM.o.v8 rfl rfl sx.one _ _ rfl rfl rfl rfl rfl ?_;intro W8 hv ho;have HM:=hd (HM.o.set8 (t':=sx) Kb Kb hv ho);have HX:=hd (HX.o.off ho Kb);have HS:=hd (HS.o.off ho Kb);clear hv ho)
  |((with_reducible refine zF (ty:=33) (x:=.tmp 7) ?_);refine zA zP (r0:=SC.nil.row) (r:=SC.nil.row) HM.o.v8 rfl rfl SC.nil.one _ _ rfl rfl rfl rfl rfl ?_;intro W8 hv ho;have HM:=hd (HM.o.set8 (t':=SC.nil) Kb Kb hv ho);clear hv ho)
  |(go_at_call 42;refine Calls.mono (dP.o _ HM.o.st.below) ?_;rintro e w2 ⟨cx,rfl,h1,b9⟩;have hlo:=HM.o.v8.lt;have HX:=hd h1;have HI:=hd (zA5.refl w1.heap.size w2);have HM:=hd (HM.o.call b9);have bu:=HM.o.v8.lt;clear b9 h1;dsimp only)
  |((with_reducible refine zC (ty:=4) (x:=.tmp 42) ?_);refine zM HM.o.st.v4 (j:=0) (v:=.bool true) _ rfl rfl rfl (by simp only[SC.row,HIS.o];rfl) Tryz.underlying4 rfl ?_)
  |((with_reducible refine kH (ty:=33) (x:=.tmp 4) ?_);refine zK zP HM.o.st.v4 rfl _ rfl Ke rfl ?_)
  |((with_reducible refine kH (ty:=35) (x:=.tmp 5) ?_);refine zDq HM.o.st.v5 _ rfl Ke rfl ?_)
  |(go_at_call 43;refine Calls.mono (zVh (dv.o.later HM.o.st.below) kx.o (HO.o.later HM.o.st.below) au.o uC.o) ?_;rintro e w4 ⟨rfl,b9⟩;have ac:=hd (ac.o.keep b9);have HI:=hd (HI.o.call b9);have HM:=hd (HM.o.call b9);clear b9)
  |fail)
 first
  |
   exact bodyPost_ret (zDt Tryz.results13 _ _ HM.o.v7 HM.o.v8 rfl rfl) rfl ⟨NC.nil,SC.nil,rfl,zAb _,zJ2 _,HM.o.st.below⟩
  |
   exact bodyPost_ret (zDt Tryz.results13 _ _ HM.o.v7 HM.o.v8 rfl rfl) rfl ⟨cx,sx,rfl,HX.o.now,HS.o.now,HM.o.st.below⟩
  |fail):P:=h
theorem kAu {o:OC}{E:Int}(hn:kS w c n)(hs:zB1 w s sl)(ho:OkA w o a)(hf:fewS sl=true)(ta:zAf a)(gL:zG7 n sl a=E)(hne:(E !=0)=true):Calls Tryz.prog 13 #[.agg c.row,.agg s.row,.agg o.row] w (zTd w ((zeroT,zeroS),E)):=by
 exact kO8
theorem kH4 {o:OC}{r:(NT×Sl)×Int}(hn:kS w c n)(hs:zB1 w s sl)(ho:OkA w o a)(hf:fewS sl=true)(ta:zAf a)(gL:zG7 n sl a=0)(k9:(o.k==9)=true)(zm:∀W,Below w.heap.size w W->Calls Tryz.prog 41 #[.agg c.row,.agg s.row,.agg o.row] W (zVb W r)):Calls Tryz.prog 13 #[.agg c.row,.agg s.row,.agg o.row] w (zTd w r):=by
 exact kO8
theorem kH5 {o:OC}{E:Int}(hn:kS w c n)(hs:zB1 w s sl)(ho:OkA w o a)(hf:fewS sl=true)(ta:zAf a)(gL:zG7 n sl a=0)(k9:(o.k==9)=false)(hch:∀W,Below w.heap.size w W->Calls Tryz.prog 42 #[.agg c.row,.agg o.row] W (zAm W (x,E)))(hne:(E !=0)=true):Calls Tryz.prog 13 #[.agg c.row,.agg s.row,.agg o.row] w (zTd w ((zeroT,zeroS),E)):=by
 exact kO8
theorem kD6 {o:OC}(hn:kS w c n)(hs:zB1 w s sl)(ho:OkA w o a)(hf:fewS sl=true)(ta:zAf a)(gL:zG7 n sl a=0)(k9:(o.k==9)=false)(hch:∀W,Below w.heap.size w W->Calls Tryz.prog 42 #[.agg c.row,.agg o.row] W (zAm W (x,0)))(his:s.is=true)(bR:(zBl sl.a a&&zBl sl.f a)=false):Calls Tryz.prog 13 #[.agg c.row,.agg s.row,.agg o.row] w (zTd w ((zeroT,zeroS),10)):=by
 exact kO8
theorem kQ5 (h:P:=by
 have xh:=hd gL;have dP:=hd hch;have HIS:=hd his;have sU:=hd bi;have l5:=hd hl2;try have uC:=hd bR
 have HN:=hd hn;have dv:=hd hs;have HO:=hd ho;have kx:=hd hf;have au:=hd ta;clear hn hs ho hf ta gL hch his bi hl2;try clear bR
 obtain⟨W0,hW,hst⟩:=zDs w c s o;have HW:=hd hW;have HM:=hd hst;clear hW hst;go_enter Tryz.func13,Tryz.ntmps13
 go_upto_region 1 with fail
 rw[HW.o];clear HW;go_upto_region 11 with(first
  |((with_reducible refine zC (ty:=26) (x:=.tmp 3) ?_);refine zB zD HM.o.st.v3 rfl _ rfl rfl rfl ?_)
  |((with_reducible refine zC (ty:=33) (x:=.tmp 4) ?_);refine zB zP HM.o.st.v4 rfl _ rfl rfl rfl ?_)
  |((with_reducible refine zC (ty:=35) (x:=.tmp 5) ?_);refine zG HM.o.st.v5 _ rfl rfl rfl ?_)
  |(go_at_call 40;refine Calls.mono (zIh (HN.o.later HM.o.st.below) (dv.o.later HM.o.st.below) (HO.o.later HM.o.st.below) kx.o au.o xh.o) ?_;rintro e w1 ⟨rfl,b9⟩;have HM:=hd (HM.o.call b9);clear b9)
  |((with_reducible refine zC (ty:=3) (x:=.tmp 21) ?_);refine zE HM.o.st.v5 (j:=0) (v:=.int .i64 o.k) _ rfl rfl rfl rfl Tryz.underlying3 rfl ?_)
  |(go_at_call 42;refine Calls.mono (dP.o _ HM.o.st.below) ?_;rintro e w2 ⟨cx,rfl,h1,b9⟩;have hlo:=HM.o.v8.lt;have HX:=hd h1;have HI:=hd (zA5.refl w1.heap.size w2);have HM:=hd (HM.o.call b9);have bu:=HM.o.v8.lt;clear b9 h1;dsimp only)
  |((with_reducible refine zF (ty:=26) (x:=.tmp 10) ?_);refine zA zD (r0:=NC.nil.row) (r:=cx.row) (zAr w2).1 rfl rfl cx.one _ _ rfl rfl rfl rfl rfl ?_;intro W3 hv ho;have ac:=hd hv;have HI:=hd ((HI.o.call (zAr w2).2).off2 ho Kb);have HM:=hd (HM.o.call ((zAr w2).2.trans (ho.below Km (zAr w2).2.size)));clear hv ho)
  |((with_reducible refine zC (ty:=4) (x:=.tmp 42) ?_);refine zM HM.o.st.v4 (j:=0) (v:=.bool false) _ rfl rfl rfl (by simp only[SC.row,HIS.o];rfl) Tryz.underlying4 rfl ?_)
  |((with_reducible refine zC (ty:=4) (x:=.tmp 42) ?_);refine zM HM.o.st.v4 (j:=0) (v:=.bool true) _ rfl rfl rfl (by simp only[SC.row,HIS.o];rfl) Tryz.underlying4 rfl ?_)
  |((with_reducible refine kH (ty:=33) (x:=.tmp 4) ?_);refine zK zP HM.o.st.v4 rfl _ rfl Ke rfl ?_)
  |((with_reducible refine kH (ty:=35) (x:=.tmp 5) ?_);refine zDq HM.o.st.v5 _ rfl Ke rfl ?_)
  |(go_at_call 43;refine Calls.mono (zVh (dv.o.later HM.o.st.below) kx.o (HO.o.later HM.o.st.below) au.o uC.o) ?_;rintro e w4 ⟨rfl,b9⟩;have ac:=hd (ac.o.keep b9);have HI:=hd (HI.o.call b9);have HM:=hd (HM.o.call b9);clear b9)
  |fail)
 obtain⟨g10,aS⟩:∃g,w2.heap.size=g:=⟨_,rfl⟩;have cZ:w2.heap.size<=g10:=Kb;rw[aS]at ac;try rw[aS]
 clear aS;have HM:=hd (HM.o.call (Kl.drew));have ac:=hd (ac.o.keep (Kl.drew));have HI:=hd (HI.o.call (Kl.drew));refine jO (S:=fun W'=>jT 26 W' g10 cx.row/\jT 33 W' (w.heap.size+1) s.row) (z:=fun _=>false) Ka ?_;have aa:=hd (And.intro ac.o HM.o.st.v4);refine Ko 0 5 (.agg cx.row) (fun W9 ag=>?_) aa.o ?_
 ·exact zS zD ag.1 rfl _ rfl rfl
 simp only[Act.put,List.getElem_toArray,List.getElem_cons_zero,List.setIfInBounds_toArray,List.set_cons_succ,List.set_cons_zero];refine Ko 1 4 (.agg s.row) (fun W9 ag=>?_) aa.o ?_
 ·exact zS zP ag.2 rfl _ rfl rfl
 simp only[Act.put,List.getElem_toArray,List.getElem_cons_succ,List.getElem_cons_zero,List.setIfInBounds_toArray,List.set_cons_succ,List.set_cons_zero];refine Kq 2 3 (fun K hK=>?_);rw[if_pos Ka];go_simp;go_at_call 44
 refine(zKs (dv.o.later HM.o.st.below) sU.o l5.o).mono ?_;rintro e w5 ⟨sx,rfl,h1,b9⟩;have Da:=HM.o.v8.lt;have HS:=hd h1;have HI:=hd (HI.o.call b9);have ac:=hd (ac.o.keep b9);have HM:=hd (HM.o.call b9);clear b9 h1 aa;have aa:=hd (And.intro ac.o HM.o.st.v4);refine hK _ _ (fun _=>aa.o) ?_;clear hK K;refine Kq 3 2 (fun K hK=>?_);rw[if_pos Ka];refine zY zKq HM.o.v7 _ _ rfl rfl 0 _ [.bool cx.lf,.slice cx.P cx.np cx.pc,.slice cx.X cx.nt cx.tc,.slice cx.K cx.nk cx.kc] rfl rfl rfl rfl (by intro u hu;simp at hu;rcases hu with rfl|rfl|rfl|rfl<;>rfl) Kn ?_;intro W5 hv ho;have HM:=hd (HM.o.set7 (a':=cx) Kb Kb hv ho);have HI:=hd (HI.o.off2 ho Kb);have HS:=hd (HS.o.off ho Kb);have ac:=hd (ac.o.off ho Kb);clear hv ho;have aa:=hd (And.intro ac.o HM.o.st.v4);refine hK _ _ (fun _=>aa.o) ?_;clear hK K;refine Kq 4 1 (fun K hK=>?_);rw[if_pos Ka];refine zY zJu HM.o.v8 _ _ rfl rfl 0 _ [.bool sx.is,.slice sx.A sx.n sx.c,.int .i64 sx.x,.slice sx.B sx.m sx.d,.int .i64 sx.y] rfl rfl rfl rfl Kh Kn ?_;intro W6 hv ho;have HM:=hd (HM.o.set8 (t':=sx) Kb Kb hv ho);have HI:=hd (HI.o.off2 ho Kb);have HS:=hd (HS.o.off ho Kb);have ac:=hd (ac.o.off ho Kb);clear hv ho;have aa:=hd (And.intro ac.o HM.o.st.v4);refine hK _ _ (fun _=>aa.o) ?_;clear hK K;refine Kq 5 0 (fun K hK=>?_);rw[if_pos Ka];go_simp;refine hK _ _ (fun _=>aa.o) (zAl Ka ?_);clear hK K;go_wp2_with fail
 exact bodyPost_ret (zDt Tryz.results13 _ _ HM.o.v7 HM.o.v8 rfl rfl) rfl ⟨cx,sx,rfl,(HX.o.high HI.o).now,HS.o.now,HM.o.st.below⟩):P:=h
theorem kAv {o:OC}(hn:kS w c n)(hs:zB1 w s sl)(ho:OkA w o a)(hf:fewS sl=true)(ta:zAf a)(gL:zG7 n sl a=0)(k9:(o.k==9)=false)(hch:∀W,Below w.heap.size w W->Calls Tryz.prog 42 #[.agg c.row,.agg o.row] W (zAm W (x,0)))(his:s.is=true)(bi:s.n<=1000)(hl2:s.m<=1000)(bR:(zBl sl.a a&&zBl sl.f a)=true):Calls Tryz.prog 13 #[.agg c.row,.agg s.row,.agg o.row] w (zTd w ((x,sl),0)):=by
 exact kQ5
theorem zTt {o:OC}(hn:kS w c n)(hs:zB1 w s sl)(ho:OkA w o a)(hf:fewS sl=true)(ta:zAf a)(gL:zG7 n sl a=0)(k9:(o.k==9)=false)(hch:∀W,Below w.heap.size w W->Calls Tryz.prog 42 #[.agg c.row,.agg o.row] W (zAm W (x,0)))(his:s.is=false)(bi:s.n<=1000)(hl2:s.m<=1000):Calls Tryz.prog 13 #[.agg c.row,.agg s.row,.agg o.row] w (zTd w ((x,sl),0)):=by
 exact kQ5
theorem PL.qlater {A:Option Addr}(h:PL w w.heap.size A l)(hb:Below w.heap.size w w'):PL w' w'.heap.size A l:=(h.below hb).more hb.size
def qLL (w:World)(b o n:Nat)(As:Nat->Option Addr)(L:Nat->List Pr)(cs:Nat->Nat):Prop:=
 b<w.heap.size/\∀k,k<n->w.cell? ⟨b,o+k,none⟩=some (.slice (As k) (L k).length (cs k))/\PL w w.heap.size (As k) (L k)
theorem zRz (b o n c:Nat)(As:Nat->Option Addr)(L:Nat->List Pr)(cs:Nat->Nat)(w:World)(hn:n<=9223372036854775807)(hW:∀k,k<n->zIo (L k))(h:qLL w b o n As L cs):
  Calls Tryz.prog 160 #[.slice (some ⟨b,o,none⟩) n c] w fun e w'=>e=.returned (.int .i64 (zMs n L))/\Below w.heap.size w w':=by
 obtain⟨aw,zo⟩:=h;have qQ:=hd zo;have HW:=hd hW;clear zo hW;go_enter Tryz.func160,Tryz.ntmps160
 go_wp2
 go_loopw [8] (fun i wr=>∃k:Nat,k<=n/\i=.int .i64 k/\Below w.heap.size w wr/\Kr (∀j,j<k->chk (L j)=0)) (fun i _=>n-(intOf i).toNat)
 case atStart=>exact⟨0,Nat.zero_le _,rfl,Below.refl _ _,fun j hj=>absurd hj (Nat.not_lt_zero _)⟩
 case round=>
  obtain⟨k,hk,rfl,hb,HA⟩:=hrel;by_cases hlt:k<n
  ·obtain⟨hc0,hp0⟩:=qQ.o k hlt;have hw0:=HW.o k hlt;have hc:=(hb.cell (p:=⟨b,o+k,none⟩) aw).trans hc0;have hC:=hd (zKb (As k) (L k) (cs k) wr hw0 ((hp0.below hb).more hb.size));clear hc0 hp0 hw0;cases hr:(chk (L k) !=0)
   ·have HB:=zBm (p:=fun j=>chk (L j)=0) HA (by simpa using hr);clear HA;go_wp2_with(go_at_call 109;refine hC.o.mono ?_;rintro e w' ⟨rfl,hb3⟩)
    have hb4:=hb.trans (hb3.mono hb.size);go_wp2
    go_roundw
    case rel=>exact⟨k+1,by omega,by go_num,hb4,HB⟩
    case measure=>simp[intOf];omega
   ·have HF:=hd (zGd n L k hlt HA.o (by simpa using hr));go_wp2_with(go_at_call 109;refine hC.o.mono ?_;rintro e w' ⟨rfl,hb3⟩)
    go_ret
    exact⟨zAj HF.o.symm,hb.trans (hb3.mono hb.size)⟩
  ·have HF:=hd (zIz n L (fun j hj=>HA.o j Kb));clear HA;go_wp2
   go_ret
   exact⟨zAj HF.o.symm,hb⟩
open Go.RowKit Go.Maps
theorem kD7 :Keyed Tryz.prog 9:=string_keyed Tryz.underlying9
theorem kMp (w:World):(zeroValue 9).run Tryz.prog w=.ok (.string ByteArray.empty) w:=Ka
theorem zK9 {P:Program}(t k e:TypeId)(kd:IntKind)(n:Int)(ht:P.underlying t=some (.map k e))(w:World):
  (Instr.makeMap t (some (.int kd n))).run P w=.ok (.map (some w.heap.size)) (w.alloc (.map #[] 0)):=by
 simp[Instr.makeMap,run_underlying ht];rfl
abbrev kl (s:ByteArray):Lit:=.string s.data.toList
def zLa (D:DataW Unit)(l:List Pr):Prop:=
 (∀k,Maps.has D (kl k)=(zI3 l k).isSome)/\(∀k p z,zI3 l k=some p->D.atKey (kl k) z=.lit (.string p.2.data.toList))/\Maps.size D=l.length/\zB9 l
def zHb (w:World)(b:Nat)(l:List Pr):Prop:=∃D:DataW Unit,w.ownsMap Tryz.prog 9 (plainElem Tryz.prog 9) b l.length D/\zLa D l
theorem zJ0 {H:Type}{P:Program}{k:TypeId}{R:Value->Option (DataW H×List MemPlace)}{n:Nat}{D:DataW H}(h:w.ownsMap P k R b n D):w.ownsMap P k R b (Maps.size D) D:=by
 obtain⟨es,clock,hb,F,hs,rfl⟩:=h;exact⟨es,clock,hb,F,by simp[Maps.size,length_sorted],rfl⟩
theorem zPo (k:ByteArray):WideAt.IsKeyLit (kl k):=trivial
theorem zR0 {a b:ByteArray}(h:kl a=kl b):a=b:=by
 injection h with h;exact ByteArray.ext (Array.toList_inj.1 h)
theorem zHb.made (w:World):zHb (w.alloc (.map #[] 0)) w.heap.size []:=
 ⟨.map [],World.ownsMap_made w Tryz.prog 9 _,fun _=>rfl,fun _ _ _ h=>by simp[zI3]at h,rfl,List.Pairwise.nil⟩
theorem zHb.kept {row:Option Nat}(h:zHb w b l)(hg:w.grownBy w' row)(hne:some b≠row):zHb w' b l:=by
 obtain⟨D,h1,h2⟩:=h;exact⟨D,h1.kept hg hne,h2⟩
theorem zHb.alloc (h:zHb w b l)(o:Obj):zHb (w.alloc o) b l:=h.kept (World.grownBy_alloc w o none) Kc
theorem zHb.lt (h:zHb w b l):b<w.heap.size:=by
 obtain⟨D,h1,_⟩:=h;exact h1.lt
theorem zLa.put (h:zLa D l)(hT:Tidy D)(k v:ByteArray)(hn:zI3 l k=none):zLa (D.put (kl k) (.lit (.string v.data.toList))) (l++[(k,v)]):=by
 obtain⟨h1,h2,h3,h4⟩:=h;have hg:∀q,zI3 (l++[(k,v)]) q=(zI3 l q).or (if k=q then some (k,v)else none):=by
  intro q;unfold zI3;rw[List.find?_append];congr 1
  rw[List.find?_cons];by_cases e:k=q
  ·subst e;simp
  ·have:(k.toList==q.toList)=false:=by rw[beq_eq_false_iff_ne];exact fun e'=>e (toList_inj e')
   simp[this,e]
 refine⟨fun q=>?_,fun q p z hp=>?_,?_,?_⟩
 ·by_cases e:q=k
  ·subst e;rw[has_put_same hT.isMap (zPo q),hg,hn];simp
  ·rw[has_put_other (fun e'=>e (zR0 e')),h1,hg,if_neg (fun e'=>e e'.symm)];simp
 ·rw[hg]at hp;by_cases e:q=k
  ·subst e;rw[hn]at hp;simp at hp;rw[atKey_put_same hT.isMap (zPo q),<-hp]
  ·rw[if_neg (fun e'=>e e'.symm)]at hp;rw[atKey_put_other (fun e'=>e (zR0 e'))];exact h2 q p z (by simpa using hp)
 ·rw[size_put hT,h1,hn,List.length_append,h3];rfl
 ·unfold zB9;rw[List.pairwise_append];refine⟨h4,List.pairwise_singleton _ _,fun p hp q hq=>?_⟩;simp at hq;subst hq;exact zFc.1 hn p hp
theorem zLa.del (h:zLa D l)(hT:Tidy D)(k:ByteArray):zLa (D.del (kl k)) (zPe l k):=by
 obtain⟨h1,h2,h3,h4⟩:=h;refine⟨fun q=>?_,fun q p z hp=>?_,?_,?_⟩
 ·rw[zRm];by_cases e:q=k
  ·subst e;rw[has_del_same,if_pos rfl];rfl
  ·rw[has_del_other (fun e'=>e (zR0 e')),if_neg e];exact h1 q
 ·rw[zRm]at hp;by_cases e:q=k
  ·rw[if_pos e]at hp;cases hp
  ·rw[if_neg e]at hp;rw[atKey_del_other (fun e'=>e (zR0 e'))];exact h2 q p z hp
 ·have:=size_del (k:=kl k) hT;rw[h1,h3]at this;have:=zZ3 l h4 k;omega
 ·exact h4.filter _
open Go.RowKit Go.WideMaps Go.Maps
theorem zHb.put {l':List Pr}{k v:ByteArray}{n:Nat}{w1:World}(nE:zLa D l)(hT:Tidy D)(hn:zI3 l k=none)(hl:l'=l++[(k,v)])
  (h1:w1.ownsMap Tryz.prog 9 (plainElem Tryz.prog 9) b n (D.put (kl k) (.lit (.string v.data.toList)))):zHb w1 b l':=by
 subst hl;have hP:=nE.put hT k v hn;exact⟨_,by have:=zJ0 h1;rwa[hP.2.2.1]at this,hP⟩
theorem zW5 (A:Option Addr)(l:List Pr)(c:Nat)(w:World)(hF:Fit l)(hA:zB9 l)(hp:PL w w.heap.size A l):
  Calls Tryz.prog 161 #[.slice A l.length c] w fun e w'=>e=.returned (.map (some w.heap.size))/\zHb w' w.heap.size l/\Below w.heap.size w w':=by
 have wA:=hF.1;have HA:=hd hA;have HF:=hd hF;have HP:=hd hp;clear hA hF hp;have hmm:=fun(n:Int)(W:World)=>zK9 (P:=Tryz.prog) 136 9 9 .i64 n Tryz.underlying136 W;have hst:=zHb.made w;go_enter Tryz.func161,Tryz.ntmps161
 go_wp2
 clear hmm;go_loopw [11] (fun i wr=>∃n:Nat,n<=l.length/\i=.int .i64 n/\zHb wr w.heap.size (l.take n)/\Below w.heap.size w wr) (fun i _=>l.length-(intOf i).toNat)
 case atStart=>exact⟨0,Nat.zero_le _,rfl,hst,Kl.alloc Km _⟩
 case round=>
  clear hst;obtain⟨n,hn,rfl,hM,hb⟩:=hrel;by_cases hlt:n<l.length
  ·obtain⟨b,o,rfl,hlb,c1,c2⟩:=(HP.o.below hb).at_ hlt;obtain⟨s1,s2⟩:=HF.o.at_ hlt;have HN:=hd (zMu l HA.o n hlt);have HT:=hd (zMt l n hlt);obtain⟨D,hown,nE⟩:=hM;have nG:=hd nE;have zq:=hd (hown.tidy kD7);clear nE;have m0:Kr ((l.take n).length<maxLen):=hd (by rw[List.length_take];unfold maxLen;omega);have m1:Kr ((jU l n).1.size<=maxLen):=hd Kg;have m2:Kr ((jU l n).2.size<=maxLen):=hd Kg;go_wp2_with(first|(at_mapUpdate;refine wpList_mapUpdate_own _ rfl _ _ _ 136 rfl 9 9 kD7 Tryz.underlying136 _ w.heap.size _ _ rfl (hown.alloc _) m0.o _ _ _ rfl rfl (keyOf_string_mk Tryz.underlying9 m1.o) _ [] (plainElem_string Tryz.underlying9 m2.o) ?_;intro w1 hown1 hg1))
   have ij:=zHb.put nG.o zq.o HN.o HT.o hown1;have hb1:=(hb.alloc hb.size _).grown hg1 (by simpa using Nat.le_succ_of_le hb.size) (fun j hj=>by cases hj;exact Nat.le_refl _);clear hown1 hg1 nG zq hown;go_roundw
   case rel=>exact⟨n+1,by omega,by go_num,ij,hb1⟩
   case measure=>simp[intOf];omega
  ·have ij:zHb wr w.heap.size l:=by rw[List.take_of_length_le Kb]at hM;exact hM
   clear hM;go_wp2
   go_ret
   exact⟨rfl,ij,hb⟩
theorem zHb.below (h:zHb w b l)(hb:Below w.heap.size w w'):zHb w' b l:=
 h.kept (row:=none) ⟨hb.os,hb.tape,hb.output,hb.size,fun i hi _=>hb.block i hi⟩ Kc
theorem zDr (w:World){o:Oper}{a:Act}(hg:o.guard=none)(m x:Operand)(hop:o.op=Op.lookup 136 m x true)
  (b:Nat) (l:List Pr) (hm:a.eval m=.map (some b)) (hown:zHb w b l) (s:ByteArray) (hx:a.eval x=.string s) (hs:s.size<=maxLen)
  (hK:wpList Tryz.prog ops Q rest (a.put o.dst (.tuple #[.string (kJv l s),.bool (zKz l s)])) w):wpList Tryz.prog ops Q (o::rest) a w:=by
 obtain⟨D,h1,h2⟩:=hown;refine wpList_lookup_own_ok w hg m x 136 hop 9 9 kD7 Tryz.underlying136 (plainElem Tryz.prog 9) (kMp w) (.lit (.string [])) [] (plainElem_string Tryz.underlying9 Kd) b _ D hm h1 (.string s) (kl s) hx (keyOf_string_mk Tryz.underlying9 hs) (fun v ps hv=>?_);obtain⟨c,rfl,hc,_⟩:=plainElem_string_inv Tryz.underlying9 hv;have hc:=congrArg Prod.fst hc;have e1:Maps.has D (kl s)=zKz l s:=h2.1 s;have e2:c=kJv l s:=by
  unfold kJv;cases hf:zI3 l s with
  |none=>
   rw[atKey_of_not_has (by rw[h2.1 s,hf];rfl)]at hc;simp only[DataW.lit.injEq,Lit.string.injEq]at hc;exact ByteArray.ext (Array.toList_inj.1 hc.symm)
  |some p=>
   rw[h2.2.1 s p _ hf]at hc;simp only[DataW.lit.injEq,Lit.string.injEq]at hc;exact ByteArray.ext (Array.toList_inj.1 hc.symm)
 rw[e1,e2];exact hK
theorem zNa (w:World){o:Oper}{a:Act}(hg:o.guard=none)(m x:Operand)
  (hop:o.op=Op.call {callee:=Callee.builtin Builtin.delete,args:=#[m,x],argTypes:=#[136,9]})
  (b:Nat) (l:List Pr) (hm:a.eval m=.map (some b)) (hown:zHb w b l) (s:ByteArray) (hx:a.eval x=.string s) (hs:s.size<=maxLen)
  (hK:∀w',zHb w' b (zPe l s)->w.grownBy w' (some b)->wpList Tryz.prog ops Q rest (a.put o.dst (.tuple #[])) w'):wpList Tryz.prog ops Q (o::rest) a w:=by
 obtain⟨D,h1,h2⟩:=hown;refine wpList_delete_own w hg m x 136 9 hop 9 kD7 Tryz.underlying136 (plainElem Tryz.prog 9) b _ D hm h1 (.string s) (kl s) hx (keyOf_string_mk Tryz.underlying9 hs) (fun w' h3 h4=>hK w' ?_ h4.grown);have hP:=h2.del (h1.tidy kD7) s;exact⟨_,by have:=zJ0 h3;rwa[hP.2.2.1]at this,hP⟩
theorem zHx (w:World){o:Oper}{a:Act}(hg:o.guard=none)(m:Operand)
  (hop:o.op=Op.call {callee:=Callee.builtin Builtin.len,args:=#[m],argTypes:=#[136]})
  (b:Nat) (l:List Pr) (hm:a.eval m=.map (some b)) (hown:zHb w b l)
  (hK:wpList Tryz.prog ops Q rest (a.put o.dst (.int .i64 (l.length:Int))) w):wpList Tryz.prog ops Q (o::rest) a w:=by
 obtain⟨D,h1,h2⟩:=hown;refine wpList_len_own w hg m 136 hop 9 9 Tryz.underlying136 (plainElem Tryz.prog 9) b _ D hm h1 ?_;rw[h2.2.2.1];exact hK
theorem zR1 (w:World){o:Oper}{a:Act}(hg:o.guard=none)(m x v:Operand)(hop:o.op=Op.mapUpdate 136 m x v)
  (b:Nat) (l:List Pr) (hm:a.eval m=.map (some b)) (hown:zHb w b l) (hl:l.length<maxLen) (s t:ByteArray) (hx:a.eval x=.string s) (hv:a.eval v=.string t) (hs:s.size<=maxLen) (ht:t.size<=maxLen) (hn:zI3 l s=none)
  (hK:∀w',zHb w' b (l++[(s,t)])->w.grownBy w' (some b)->wpList Tryz.prog ops Q rest (a.put o.dst undef) w'):wpList Tryz.prog ops Q (o::rest) a w:=by
 obtain⟨D,h1,h2⟩:=hown;exact wpList_mapUpdate_own w hg m x v 136 hop 9 9 kD7 Tryz.underlying136 (plainElem Tryz.prog 9) b _ D hm h1 hl (.string s) (.string t) (kl s) hx hv (keyOf_string_mk Tryz.underlying9 hs) _ [] (plainElem_string Tryz.underlying9 ht)
  (fun w' h3 h4=>hK w' (zHb.put h2 (h1.tidy kD7) hn rfl h3) h4)
theorem kQ6 (h:P:=by
 have HG:=hd hg;go_enter Tryz.func162,Tryz.ntmps162
 go_wp2_with(first|(at_lookup;refine zDr _ rfl _ _ rfl b l rfl (hM.alloc _) k rfl hk2.o ?_))
 go_ret
 exact⟨kC (by rw[HE.o,HG.o];rfl),Kl.alloc Km _⟩):P:=h
theorem kH6 (b:Nat)(l:List Pr)(k v:ByteArray)(w:World)(hM:zHb w b l)(hA:zB9 l)(hk:k.size<=100):
  Calls Tryz.prog 162 #[.map (some b),.agg #[.string k,.string v]] w fun e w'=>e=.returned (.bool (zGz l (k,v)))/\Below w.heap.size w w':=by
 have HE:=hd (kDn l hA k v);have hk2:Kr (k.size<=maxLen):=hd Kg;clear hA;cases hg:zKz l k
 ·exact kQ6
 ·exact kQ6
