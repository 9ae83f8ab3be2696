import Derived.Test.YtmglnjmnabjjgaaGreatUStay
import Derived.Shelf.GgSortFunc.InsertionK
import Derived.Shelf.SlLaysF0
set_option maxRecDepth 100000
set_option maxHeartbeats 8000000
namespace Go.Proofs.YtmglnjmnabjjgaaGreat
open Go.RowKit
variable {w w':World}{r:(NT×Sl)×Int}{P:Prop}{c:NC}{s:SC}{n x:NT}{sl:Sl}{a:OpP}{l:List Pr}{b g:Nat}{D:DataW Unit}{ops:Array Oper}{rest:List Oper}{Q:Exit->Act->World->Prop}{cur:Array Value}{e:TypeId}{os:Array Obj}
def kPc (w:World)(r:(NT×Sl)×Int)(e:Ending)(w':World):Prop:=
 ∃(c:NC)(s:SC),e=.returned (.tuple #[.agg c.row,.agg s.row,.int .i64 r.2])/\kS w' c r.1.1/\zB1 w' s r.1.2/\Below w.heap.size w w'/\zH3 w.heap.size w' (fun W=>kS W c r.1.1)
theorem kPc.ns {e:Ending}(h:kPc w r e w'):zTd w r e w':=by
 obtain⟨c,s,h1,h2,h3,h4,_⟩:=h;exact⟨c,s,h1,h2,h3,h4⟩
theorem kPo (h:P:=by
 have sP:=hd fy;try have ye:=hd uT
 try have dw:=hd hch
 try have HIS:=hd his
 try have qf:=hd bn
 have HN:=hd hn;have eF:=hd hs;have HO:=hd ho;have gW:=hd hf;have aw:=hd ta;clear hn hs ho hf ta fy;try clear uT
 try clear hch
 try clear his
 try clear bn
 obtain⟨W0,hW,hst⟩:=zDs w c s o;have HW:=hd hW;have HM:=hd hst;clear hW hst;go_enter Tryz.func11,Tryz.ntmps11
 go_upto_region 1 with fail
 rw[HW.o];clear HW;go_wp2_with(first
  |((with_reducible refine zC (ty:=26) (x:=.tmp 3) ?_);refine zB zD HM.o.st.v3 rfl _ rfl rfl rfl ?_)
  |((with_reducible refine zC (ty:=33) (x:=.tmp 4) ?_);refine zB kNm HM.o.st.v4 rfl _ rfl rfl rfl ?_)
  |((with_reducible refine zC (ty:=35) (x:=.tmp 5) ?_);refine zG HM.o.st.v5 _ rfl rfl rfl ?_)
  |(go_at_call 29;refine Calls.mono (zIh (HN.o.later HM.o.st.below) (eF.o.later HM.o.st.below) (HO.o.later HM.o.st.below) gW.o aw.o sP.o) ?_;rintro e w1 ⟨rfl,b9⟩;have HM:=hd (HM.o.call b9);clear b9)
  |((with_reducible refine zC (ty:=3) (x:=.tmp 21) ?_);refine zE HM.o.st.v5 (j:=0) (v:=.int .i64 o.k) _ rfl rfl rfl rfl Tryz.underlying3 rfl ?_)
  |(go_at_call 30;refine Calls.mono (ye.o _ HM.o.st.below) ?_;rintro e w2 ⟨cx,sx,rfl,h1,h2,b9⟩;have hlo:=HM.o.v8.lt;have HX:=hd h1;have HS:=hd h2;have HM:=hd (HM.o.call b9);clear b9 h1 h2;dsimp only)
  |((with_reducible refine zF (ty:=26) (x:=.tmp 10) ?_);refine zA zD (r0:=NC.nil.row) (r:=cx.row) (zAr w2).1 rfl rfl cx.one _ _ rfl rfl rfl rfl rfl ?_;intro W3 hv ho;have ae:=hd hv;have HI:=hd ((HI.o.call (zAr w2).2).off2 ho Kb);have HM:=hd (HM.o.call ((zAr w2).2.trans (ho.below Kl (zAr w2).2.size)));clear hv ho)
  |((with_reducible refine zF (ty:=26) (x:=.tmp 6) ?_);refine zA zD (r0:=NC.nil.row) (r:=cx.row) HM.o.v7 rfl rfl cx.one _ _ rfl rfl rfl rfl rfl ?_;intro W7 hv ho;have HM:=hd (HM.o.set7 (a':=cx) Kb Kb hv ho);have HX:=hd (HX.o.off ho Kb);have HS:=hd (HS.o.off ho Kb);clear hv ho)
  |((with_reducible refine zF (ty:=26) (x:=.tmp 6) ?_);refine zA zD (r0:=NC.nil.row) (r:=NC.nil.row) HM.o.v7 rfl rfl NC.nil.one _ _ rfl rfl rfl rfl rfl ?_;intro W7 hv ho;have HM:=hd (HM.o.set7 (a':=NC.nil) Kb Kb hv ho);clear hv ho)
  |((with_reducible refine zF (ty:=33) (x:=.tmp 7) ?_);refine zA kNm (r0:=SC.nil.row) (r:=sx.row) HM.o.v8 rfl rfl sx.one _ _ rfl rfl rfl rfl rfl ?_;intro W8 hv ho;have HM:=hd (HM.o.set8 (t':=sx) Kb Kb hv ho);have HX:=hd (HX.o.off ho Kb);have HS:=hd (HS.o.off ho Kb);clear hv ho)
  |((with_reducible refine zF (ty:=33) (x:=.tmp 7) ?_);refine zA kNm (r0:=SC.nil.row) (r:=SC.nil.row) HM.o.v8 rfl rfl SC.nil.one _ _ rfl rfl rfl rfl rfl ?_;intro W8 hv ho;have HM:=hd (HM.o.set8 (t':=SC.nil) Kb Kb hv ho);clear hv ho)
  |(go_at_call 31;refine Calls.mono (dw.o _ HM.o.st.below) ?_;rintro e w2 ⟨cx,rfl,h1,b9⟩;have hlo:=HM.o.v8.lt;have HX:=hd h1;have HI:=hd (zA5.refl w1.heap.size w2);have HM:=hd (HM.o.call b9);have bY:=HM.o.v8.lt;clear b9 h1;dsimp only)
  |((with_reducible refine zC (ty:=4) (x:=.tmp 42) ?_);refine zM HM.o.st.v4 (j:=0) (v:=.bool true) _ rfl rfl rfl (by simp only[SC.row,HIS.o];rfl) Tryz.underlying4 rfl ?_)
  |((with_reducible refine kH (ty:=33) (x:=.tmp 4) ?_);refine zK kNm HM.o.st.v4 rfl _ rfl Ke rfl ?_)
  |((with_reducible refine kH (ty:=35) (x:=.tmp 5) ?_);refine zDq HM.o.st.v5 _ rfl Ke rfl ?_)
  |(go_at_call 32;refine Calls.mono (zVh (eF.o.later HM.o.st.below) gW.o (HO.o.later HM.o.st.below) aw.o qf.o) ?_;rintro e w4 ⟨rfl,b9⟩;have ae:=hd (ae.o.keep b9);have HI:=hd (HI.o.call b9);have HM:=hd (HM.o.call b9);clear b9)
  |fail)
 first
  |
   exact bodyPost_ret (zDt Tryz.results11 _ _ HM.o.v7 HM.o.v8 rfl rfl) rfl ⟨NC.nil,SC.nil,rfl,zAb _,zJ2 _,HM.o.st.below,fun _ _=>zAb _⟩
  |
   exact bodyPost_ret (zDt Tryz.results11 _ _ HM.o.v7 HM.o.v8 rfl rfl) rfl ⟨cx,sx,rfl,HX.o.now,HS.o.now,HM.o.st.below,HX.o.more Kb⟩
  |fail):P:=h
theorem kAu {o:OC}{E:Int}(hn:kS w c n)(hs:zB1 w s sl)(ho:OkA w o a)(hf:fewS sl=true)(ta:zAf a)(fy:zG7 n sl a=E)(hne:(E !=0)=true):Calls Tryz.prog 11 #[.agg c.row,.agg s.row,.agg o.row] w (kPc w ((zeroT,zeroS),E)):=by
 exact kPo
theorem kH4 {o:OC}(hn:kS w c n)(hs:zB1 w s sl)(ho:OkA w o a)(hf:fewS sl=true)(ta:zAf a)(fy:zG7 n sl a=0)(k9:(o.k==9)=true)(uT:∀W,Below w.heap.size w W->Calls Tryz.prog 30 #[.agg c.row,.agg s.row,.agg o.row] W (zVb W r)):Calls Tryz.prog 11 #[.agg c.row,.agg s.row,.agg o.row] w (kPc w r):=by
 exact kPo
theorem kH5 {o:OC}{E:Int}(hn:kS w c n)(hs:zB1 w s sl)(ho:OkA w o a)(hf:fewS sl=true)(ta:zAf a)(fy:zG7 n sl a=0)(k9:(o.k==9)=false)(hch:∀W,Below w.heap.size w W->Calls Tryz.prog 31 #[.agg c.row,.agg o.row] W (zAm W (x,E)))(hne:(E !=0)=true):Calls Tryz.prog 11 #[.agg c.row,.agg s.row,.agg o.row] w (kPc w ((zeroT,zeroS),E)):=by
 exact kPo
theorem kD6 {o:OC}(hn:kS w c n)(hs:zB1 w s sl)(ho:OkA w o a)(hf:fewS sl=true)(ta:zAf a)(fy:zG7 n sl a=0)(k9:(o.k==9)=false)(hch:∀W,Below w.heap.size w W->Calls Tryz.prog 31 #[.agg c.row,.agg o.row] W (zAm W (x,0)))(his:s.is=true)(bn:(zBl sl.a a&&zBl sl.f a)=false):Calls Tryz.prog 11 #[.agg c.row,.agg s.row,.agg o.row] w (kPc w ((zeroT,zeroS),10)):=by
 exact kPo
theorem kRw (h:P:=by
 have sP:=hd fy;have dw:=hd hch;have HIS:=hd his;have pg:=hd aY;have nD:=hd hl2;try have qf:=hd bn
 have HN:=hd hn;have eF:=hd hs;have HO:=hd ho;have gW:=hd hf;have aw:=hd ta;clear hn hs ho hf ta fy hch his aY hl2;try clear bn
 obtain⟨W0,hW,hst⟩:=zDs w c s o;have HW:=hd hW;have HM:=hd hst;clear hW hst;go_enter Tryz.func11,Tryz.ntmps11
 go_upto_region 1 with fail
 rw[HW.o];clear HW;go_upto_region 11 with(first
  |((with_reducible refine zC (ty:=26) (x:=.tmp 3) ?_);refine zB zD HM.o.st.v3 rfl _ rfl rfl rfl ?_)
  |((with_reducible refine zC (ty:=33) (x:=.tmp 4) ?_);refine zB kNm HM.o.st.v4 rfl _ rfl rfl rfl ?_)
  |((with_reducible refine zC (ty:=35) (x:=.tmp 5) ?_);refine zG HM.o.st.v5 _ rfl rfl rfl ?_)
  |(go_at_call 29;refine Calls.mono (zIh (HN.o.later HM.o.st.below) (eF.o.later HM.o.st.below) (HO.o.later HM.o.st.below) gW.o aw.o sP.o) ?_;rintro e w1 ⟨rfl,b9⟩;have HM:=hd (HM.o.call b9);clear b9)
  |((with_reducible refine zC (ty:=3) (x:=.tmp 21) ?_);refine zE HM.o.st.v5 (j:=0) (v:=.int .i64 o.k) _ rfl rfl rfl rfl Tryz.underlying3 rfl ?_)
  |(go_at_call 31;refine Calls.mono (dw.o _ HM.o.st.below) ?_;rintro e w2 ⟨cx,rfl,h1,b9⟩;have hlo:=HM.o.v8.lt;have HX:=hd h1;have HI:=hd (zA5.refl w1.heap.size w2);have HM:=hd (HM.o.call b9);have bY:=HM.o.v8.lt;clear b9 h1;dsimp only)
  |((with_reducible refine zF (ty:=26) (x:=.tmp 10) ?_);refine zA zD (r0:=NC.nil.row) (r:=cx.row) (zAr w2).1 rfl rfl cx.one _ _ rfl rfl rfl rfl rfl ?_;intro W3 hv ho;have ae:=hd hv;have HI:=hd ((HI.o.call (zAr w2).2).off2 ho Kb);have HM:=hd (HM.o.call ((zAr w2).2.trans (ho.below Kl (zAr w2).2.size)));clear hv ho)
  |((with_reducible refine zC (ty:=4) (x:=.tmp 42) ?_);refine zM HM.o.st.v4 (j:=0) (v:=.bool false) _ rfl rfl rfl (by simp only[SC.row,HIS.o];rfl) Tryz.underlying4 rfl ?_)
  |((with_reducible refine zC (ty:=4) (x:=.tmp 42) ?_);refine zM HM.o.st.v4 (j:=0) (v:=.bool true) _ rfl rfl rfl (by simp only[SC.row,HIS.o];rfl) Tryz.underlying4 rfl ?_)
  |((with_reducible refine kH (ty:=33) (x:=.tmp 4) ?_);refine zK kNm HM.o.st.v4 rfl _ rfl Ke rfl ?_)
  |((with_reducible refine kH (ty:=35) (x:=.tmp 5) ?_);refine zDq HM.o.st.v5 _ rfl Ke rfl ?_)
  |(go_at_call 32;refine Calls.mono (zVh (eF.o.later HM.o.st.below) gW.o (HO.o.later HM.o.st.below) aw.o qf.o) ?_;rintro e w4 ⟨rfl,b9⟩;have ae:=hd (ae.o.keep b9);have HI:=hd (HI.o.call b9);have HM:=hd (HM.o.call b9);clear b9)
  |fail)
 obtain⟨g10,aG⟩:∃g,w2.heap.size=g:=⟨_,rfl⟩;have bS:w2.heap.size<=g10:=Kb;rw[aG]at ae;try rw[aG]
 clear aG;have HM:=hd (HM.o.call (Kk.drew));have ae:=hd (ae.o.keep (Kk.drew));have HI:=hd (HI.o.call (Kk.drew));refine jO (S:=fun W'=>jT 26 W' g10 cx.row/\jT 33 W' (w.heap.size+1) s.row) (z:=fun _=>false) Ka ?_;have aa:=hd (And.intro ae.o HM.o.st.v4);refine Kn 0 5 (.agg cx.row) (fun W9 aj=>?_) aa.o ?_
 ·exact zS zD aj.1 rfl _ rfl rfl
 simp only[Act.put,List.getElem_toArray,List.getElem_cons_zero,List.setIfInBounds_toArray,List.set_cons_succ,List.set_cons_zero];refine Kn 1 4 (.agg s.row) (fun W9 aj=>?_) aa.o ?_
 ·exact zS kNm aj.2 rfl _ rfl rfl
 simp only[Act.put,List.getElem_toArray,List.getElem_cons_succ,List.getElem_cons_zero,List.setIfInBounds_toArray,List.set_cons_succ,List.set_cons_zero];refine Kp 2 3 (fun K hK=>?_);rw[if_pos Ka];go_simp;go_at_call 33
 refine(zKs (eF.o.later HM.o.st.below) pg.o nD.o).mono ?_;rintro e w5 ⟨sx,rfl,h1,b9⟩;have yf:=HM.o.v8.lt;have HS:=hd h1;have HI:=hd (HI.o.call b9);have ae:=hd (ae.o.keep b9);have HM:=hd (HM.o.call b9);clear b9 h1 aa;have aa:=hd (And.intro ae.o HM.o.st.v4);refine hK _ _ (fun _=>aa.o) ?_;clear hK K;refine Kp 3 2 (fun K hK=>?_);rw[if_pos Ka];refine zY zKq HM.o.v7 _ _ rfl rfl 0 _ [.bool cx.lf,.slice cx.P cx.np cx.pc,.slice cx.X cx.nt cx.tc,.slice cx.K cx.nk cx.kc] rfl rfl rfl rfl (by intro u hu;simp at hu;rcases hu with rfl|rfl|rfl|rfl<;>rfl) Km ?_;intro W5 hv ho;have HM:=hd (HM.o.set7 (a':=cx) Kb Kb hv ho);have HI:=hd (HI.o.off2 ho Kb);have HS:=hd (HS.o.off ho Kb);have ae:=hd (ae.o.off ho Kb);clear hv ho;have aa:=hd (And.intro ae.o HM.o.st.v4);refine hK _ _ (fun _=>aa.o) ?_;clear hK K;refine Kp 4 1 (fun K hK=>?_);rw[if_pos Ka];refine zY zJu HM.o.v8 _ _ rfl rfl 0 _ [.bool sx.is,.slice sx.A sx.n sx.c,.int .i64 sx.x,.slice sx.B sx.m sx.d,.int .i64 sx.y] rfl rfl rfl rfl Kh Km ?_;intro W6 hv ho;have HM:=hd (HM.o.set8 (t':=sx) Kb Kb hv ho);have HI:=hd (HI.o.off2 ho Kb);have HS:=hd (HS.o.off ho Kb);have ae:=hd (ae.o.off ho Kb);clear hv ho;have aa:=hd (And.intro ae.o HM.o.st.v4);refine hK _ _ (fun _=>aa.o) ?_;clear hK K;refine Kp 5 0 (fun K hK=>?_);rw[if_pos Ka];go_simp;refine hK _ _ (fun _=>aa.o) (zAl Ka ?_);clear hK K;go_wp2_with fail
 exact bodyPost_ret (zDt Tryz.results11 _ _ HM.o.v7 HM.o.v8 rfl rfl) rfl ⟨cx,sx,rfl,(HX.o.high HI.o).now,HS.o.now,HM.o.st.below,(HX.o.high HI.o).more Kb⟩):P:=h
theorem kAv {o:OC}(hn:kS w c n)(hs:zB1 w s sl)(ho:OkA w o a)(hf:fewS sl=true)(ta:zAf a)(fy:zG7 n sl a=0)(k9:(o.k==9)=false)(hch:∀W,Below w.heap.size w W->Calls Tryz.prog 31 #[.agg c.row,.agg o.row] W (zAm W (x,0)))(his:s.is=true)(aY:s.n<=1000)(hl2:s.m<=1000)(bn:(zBl sl.a a&&zBl sl.f a)=true):Calls Tryz.prog 11 #[.agg c.row,.agg s.row,.agg o.row] w (kPc w ((x,sl),0)):=by
 exact kRw
theorem zTt {o:OC}(hn:kS w c n)(hs:zB1 w s sl)(ho:OkA w o a)(hf:fewS sl=true)(ta:zAf a)(fy:zG7 n sl a=0)(k9:(o.k==9)=false)(hch:∀W,Below w.heap.size w W->Calls Tryz.prog 31 #[.agg c.row,.agg o.row] W (zAm W (x,0)))(his:s.is=false)(aY:s.n<=1000)(hl2:s.m<=1000):Calls Tryz.prog 11 #[.agg c.row,.agg s.row,.agg o.row] w (kPc w ((x,sl),0)):=by
 exact kRw
theorem PL.qlater {A:Option Addr}(h:PL w w.heap.size A l)(hb:Below w.heap.size w w'):PL w' w'.heap.size A l:=(h.below hb).more hb.size
def qLL (w:World)(b o n:Nat)(As:Nat->Option Addr)(L:Nat->List Pr)(cs:Nat->Nat):Prop:=
 b<w.heap.size/\∀k,k<n->w.cell? ⟨b,o+k,none⟩=some (.slice (As k) (L k).length (cs k))/\PL w w.heap.size (As k) (L k)
theorem zRz (b o n c:Nat)(As:Nat->Option Addr)(L:Nat->List Pr)(cs:Nat->Nat)(w:World)(hn:n<=9223372036854775807)(hW:∀k,k<n->zIo (L k))(h:qLL w b o n As L cs):
  Calls Tryz.prog 131 #[.slice (some ⟨b,o,none⟩) n c] w fun e w'=>e=.returned (.int .i64 (zMs n L))/\Below w.heap.size w w':=by
 obtain⟨bA,uU⟩:=h;have qg:=hd uU;have HW:=hd hW;clear uU hW;go_enter Tryz.func131,Tryz.ntmps131
 go_wp2
 go_loopw [8] (fun i wr=>∃k:Nat,k<=n/\i=.int .i64 k/\Below w.heap.size w wr/\Kq (∀j,j<k->chk (L j)=0)) (fun i _=>n-(intOf i).toNat)
 case atStart=>exact⟨0,Nat.zero_le _,rfl,Below.refl _ _,fun j hj=>absurd hj (Nat.not_lt_zero _)⟩
 case round=>
  obtain⟨k,hk,rfl,hb,HA⟩:=hrel;by_cases hlt:k<n
  ·obtain⟨hc0,hp0⟩:=qg.o k hlt;have hw0:=HW.o k hlt;have hc:=(hb.cell (p:=⟨b,o+k,none⟩) bA).trans hc0;have hC:=hd (zKb (As k) (L k) (cs k) wr hw0 ((hp0.below hb).more hb.size));clear hc0 hp0 hw0;cases hr:(chk (L k) !=0)
   ·have HB:=zBm (p:=fun j=>chk (L j)=0) HA (by simpa using hr);clear HA;go_wp2_with(go_at_call 100;refine hC.o.mono ?_;rintro e w' ⟨rfl,hb3⟩)
    have hb4:=hb.trans (hb3.mono hb.size);go_wp2
    go_roundw
    case rel=>exact⟨k+1,by omega,by go_num,hb4,HB⟩
    case measure=>simp[intOf];omega
   ·have HF:=hd (zGd n L k hlt HA.o (by simpa using hr));go_wp2_with(go_at_call 100;refine hC.o.mono ?_;rintro e w' ⟨rfl,hb3⟩)
    go_ret
    exact⟨zAj HF.o.symm,hb.trans (hb3.mono hb.size)⟩
  ·have HF:=hd (zIz n L (fun j hj=>HA.o j Kb));clear HA;go_wp2
   go_ret
   exact⟨zAj HF.o.symm,hb⟩
open Go.RowKit Go.Maps
theorem kD7 :Keyed Tryz.prog 9:=string_keyed Tryz.underlying9
theorem kMp (w:World):(zeroValue 9).run Tryz.prog w=.ok (.string ByteArray.empty) w:=Ka
theorem zK9 {P:Program}(t k e:TypeId)(kd:IntKind)(n:Int)(ht:P.underlying t=some (.map k e))(w:World):
  (Instr.makeMap t (some (.int kd n))).run P w=.ok (.map (some w.heap.size)) (w.alloc (.map #[] 0)):=by
 simp[Instr.makeMap,run_underlying ht];rfl
abbrev kl (s:ByteArray):Lit:=.string s.data.toList
def zLa (D:DataW Unit)(l:List Pr):Prop:=
 (∀k,Maps.has D (kl k)=(zI3 l k).isSome)/\(∀k p z,zI3 l k=some p->D.atKey (kl k) z=.lit (.string p.2.data.toList))/\Maps.size D=l.length/\zB9 l
def zHb (w:World)(b:Nat)(l:List Pr):Prop:=∃D:DataW Unit,w.ownsMap Tryz.prog 9 (plainElem Tryz.prog 9) b l.length D/\zLa D l
theorem zJ0 {H:Type}{P:Program}{k:TypeId}{R:Value->Option (DataW H×List MemPlace)}{n:Nat}{D:DataW H}(h:w.ownsMap P k R b n D):w.ownsMap P k R b (Maps.size D) D:=by
 obtain⟨es,clock,hb,F,hs,rfl⟩:=h;exact⟨es,clock,hb,F,by simp[Maps.size,length_sorted],rfl⟩
theorem zPo (k:ByteArray):WideAt.IsKeyLit (kl k):=trivial
theorem zR0 {a b:ByteArray}(h:kl a=kl b):a=b:=by
 injection h with h;exact ByteArray.ext (Array.toList_inj.1 h)
theorem zHb.made (w:World):zHb (w.alloc (.map #[] 0)) w.heap.size []:=
 ⟨.map [],World.ownsMap_made w Tryz.prog 9 _,fun _=>rfl,fun _ _ _ h=>by simp[zI3]at h,rfl,List.Pairwise.nil⟩
theorem zHb.kept {row:Option Nat}(h:zHb w b l)(hg:w.grownBy w' row)(hne:some b≠row):zHb w' b l:=by
 obtain⟨D,h1,h2⟩:=h;exact⟨D,h1.kept hg hne,h2⟩
theorem zHb.alloc (h:zHb w b l)(o:Obj):zHb (w.alloc o) b l:=h.kept (World.grownBy_alloc w o none) Kc
theorem zHb.lt (h:zHb w b l):b<w.heap.size:=by
 obtain⟨D,h1,_⟩:=h;exact h1.lt
theorem zLa.put (h:zLa D l)(hT:Tidy D)(k v:ByteArray)(hn:zI3 l k=none):zLa (D.put (kl k) (.lit (.string v.data.toList))) (l++[(k,v)]):=by
 obtain⟨h1,h2,h3,h4⟩:=h;have hg:∀q,zI3 (l++[(k,v)]) q=(zI3 l q).or (if k=q then some (k,v)else none):=by
  intro q;unfold zI3;rw[List.find?_append];congr 1
  rw[List.find?_cons];by_cases e:k=q
  ·subst e;simp
  ·have:(k.toList==q.toList)=false:=by rw[beq_eq_false_iff_ne];exact fun e'=>e (toList_inj e')
   simp[this,e]
 refine⟨fun q=>?_,fun q p z hp=>?_,?_,?_⟩
 ·by_cases e:q=k
  ·subst e;rw[has_put_same hT.isMap (zPo q),hg,hn];simp
  ·rw[has_put_other (fun e'=>e (zR0 e')),h1,hg,if_neg (fun e'=>e e'.symm)];simp
 ·rw[hg]at hp;by_cases e:q=k
  ·subst e;rw[hn]at hp;simp at hp;rw[atKey_put_same hT.isMap (zPo q),<-hp]
  ·rw[if_neg (fun e'=>e e'.symm)]at hp;rw[atKey_put_other (fun e'=>e (zR0 e'))];exact h2 q p z (by simpa using hp)
 ·rw[size_put hT,h1,hn,List.length_append,h3];rfl
 ·unfold zB9;rw[List.pairwise_append];refine⟨h4,List.pairwise_singleton _ _,fun p hp q hq=>?_⟩;simp at hq;subst hq;exact zFc.1 hn p hp
theorem zLa.del (h:zLa D l)(hT:Tidy D)(k:ByteArray):zLa (D.del (kl k)) (zPe l k):=by
 obtain⟨h1,h2,h3,h4⟩:=h;refine⟨fun q=>?_,fun q p z hp=>?_,?_,?_⟩
 ·rw[zRm];by_cases e:q=k
  ·subst e;rw[has_del_same,if_pos rfl];rfl
  ·rw[has_del_other (fun e'=>e (zR0 e')),if_neg e];exact h1 q
 ·rw[zRm]at hp;by_cases e:q=k
  ·rw[if_pos e]at hp;cases hp
  ·rw[if_neg e]at hp;rw[atKey_del_other (fun e'=>e (zR0 e'))];exact h2 q p z hp
 ·have:=size_del (k:=kl k) hT;rw[h1,h3]at this;have:=zZ3 l h4 k;omega
 ·exact h4.filter _
open Go.RowKit Go.WideMaps Go.Maps
theorem zHb.put {l':List Pr}{k v:ByteArray}{n:Nat}{w1:World}(kq:zLa D l)(hT:Tidy D)(hn:zI3 l k=none)(hl:l'=l++[(k,v)])
  (h1:w1.ownsMap Tryz.prog 9 (plainElem Tryz.prog 9) b n (D.put (kl k) (.lit (.string v.data.toList)))):zHb w1 b l':=by
 subst hl;have hP:=kq.put hT k v hn;exact⟨_,by have:=zJ0 h1;rwa[hP.2.2.1]at this,hP⟩
theorem zW5 (A:Option Addr)(l:List Pr)(c:Nat)(w:World)(hF:Fit l)(hA:zB9 l)(hp:PL w w.heap.size A l):
  Calls Tryz.prog 132 #[.slice A l.length c] w fun e w'=>e=.returned (.map (some w.heap.size))/\zHb w' w.heap.size l/\Below w.heap.size w w':=by
 have qY:=hF.1;have HA:=hd hA;have HF:=hd hF;have HP:=hd hp;clear hA hF hp;have hmm:=fun(n:Int)(W:World)=>zK9 (P:=Tryz.prog) 157 9 9 .i64 n Tryz.underlying157 W;have hst:=zHb.made w;go_enter Tryz.func132,Tryz.ntmps132
 go_wp2
 clear hmm;go_loopw [11] (fun i wr=>∃n:Nat,n<=l.length/\i=.int .i64 n/\zHb wr w.heap.size (l.take n)/\Below w.heap.size w wr) (fun i _=>l.length-(intOf i).toNat)
 case atStart=>exact⟨0,Nat.zero_le _,rfl,hst,Kk.alloc Kl _⟩
 case round=>
  clear hst;obtain⟨n,hn,rfl,hM,hb⟩:=hrel;by_cases hlt:n<l.length
  ·obtain⟨b,o,rfl,hlb,c1,c2⟩:=(HP.o.below hb).at_ hlt;obtain⟨s1,s2⟩:=HF.o.at_ hlt;have HN:=hd (zMu l HA.o n hlt);have HT:=hd (zMt l n hlt);obtain⟨D,hown,kq⟩:=hM;have kr:=hd kq;have uV:=hd (hown.tidy kD7);clear kq;have m0:Kq ((l.take n).length<maxLen):=hd (by rw[List.length_take];unfold maxLen;omega);have m1:Kq ((jU l n).1.size<=maxLen):=hd Kg;have m2:Kq ((jU l n).2.size<=maxLen):=hd Kg;go_wp2_with(first|(at_mapUpdate;refine wpList_mapUpdate_own _ rfl _ _ _ 157 rfl 9 9 kD7 Tryz.underlying157 _ w.heap.size _ _ rfl (hown.alloc _) m0.o _ _ _ rfl rfl (keyOf_string_mk Tryz.underlying9 m1.o) _ [] (plainElem_string Tryz.underlying9 m2.o) ?_;intro w1 hown1 hg1))
   have fK:=zHb.put kr.o uV.o HN.o HT.o hown1;have hb1:=(hb.alloc hb.size _).grown hg1 (by simpa using Nat.le_succ_of_le hb.size) (fun j hj=>by cases hj;exact Nat.le_refl _);clear hown1 hg1 kr uV hown;go_roundw
   case rel=>exact⟨n+1,by omega,by go_num,fK,hb1⟩
   case measure=>simp[intOf];omega
  ·have fK:zHb wr w.heap.size l:=by rw[List.take_of_length_le Kb]at hM;exact hM
   clear hM;go_wp2
   go_ret
   exact⟨rfl,fK,hb⟩
theorem zHb.below (h:zHb w b l)(hb:Below w.heap.size w w'):zHb w' b l:=
 h.kept (row:=none) ⟨hb.os,hb.tape,hb.output,hb.size,fun i hi _=>hb.block i hi⟩ Kc
theorem zDr (w:World){o:Oper}{a:Act}(hg:o.guard=none)(m x:Operand)(hop:o.op=Op.lookup 157 m x true)
  (b:Nat) (l:List Pr) (hm:a.eval m=.map (some b)) (hown:zHb w b l) (s:ByteArray) (hx:a.eval x=.string s) (hs:s.size<=maxLen)
  (hK:wpList Tryz.prog ops Q rest (a.put o.dst (.tuple #[.string (kJv l s),.bool (zKz l s)])) w):wpList Tryz.prog ops Q (o::rest) a w:=by
 obtain⟨D,h1,h2⟩:=hown;refine wpList_lookup_own_ok w hg m x 157 hop 9 9 kD7 Tryz.underlying157 (plainElem Tryz.prog 9) (kMp w) (.lit (.string [])) [] (plainElem_string Tryz.underlying9 Kd) b _ D hm h1 (.string s) (kl s) hx (keyOf_string_mk Tryz.underlying9 hs) (fun v ps hv=>?_);obtain⟨c,rfl,hc,_⟩:=plainElem_string_inv Tryz.underlying9 hv;have hc:=congrArg Prod.fst hc;have e1:Maps.has D (kl s)=zKz l s:=h2.1 s;have e2:c=kJv l s:=by
  unfold kJv;cases hf:zI3 l s with
  |none=>
   rw[atKey_of_not_has (by rw[h2.1 s,hf];rfl)]at hc;simp only[DataW.lit.injEq,Lit.string.injEq]at hc;exact ByteArray.ext (Array.toList_inj.1 hc.symm)
  |some p=>
   rw[h2.2.1 s p _ hf]at hc;simp only[DataW.lit.injEq,Lit.string.injEq]at hc;exact ByteArray.ext (Array.toList_inj.1 hc.symm)
 rw[e1,e2];exact hK
theorem zNa (w:World){o:Oper}{a:Act}(hg:o.guard=none)(m x:Operand)
  (hop:o.op=Op.call {callee:=Callee.builtin Builtin.delete,args:=#[m,x],argTypes:=#[157,9]})
  (b:Nat) (l:List Pr) (hm:a.eval m=.map (some b)) (hown:zHb w b l) (s:ByteArray) (hx:a.eval x=.string s) (hs:s.size<=maxLen)
  (hK:∀w',zHb w' b (zPe l s)->w.grownBy w' (some b)->wpList Tryz.prog ops Q rest (a.put o.dst (.tuple #[])) w'):wpList Tryz.prog ops Q (o::rest) a w:=by
 obtain⟨D,h1,h2⟩:=hown;refine wpList_delete_own w hg m x 157 9 hop 9 kD7 Tryz.underlying157 (plainElem Tryz.prog 9) b _ D hm h1 (.string s) (kl s) hx (keyOf_string_mk Tryz.underlying9 hs) (fun w' h3 h4=>hK w' ?_ h4.grown);have hP:=h2.del (h1.tidy kD7) s;exact⟨_,by have:=zJ0 h3;rwa[hP.2.2.1]at this,hP⟩
theorem zHx (w:World){o:Oper}{a:Act}(hg:o.guard=none)(m:Operand)
  (hop:o.op=Op.call {callee:=Callee.builtin Builtin.len,args:=#[m],argTypes:=#[157]})
  (b:Nat) (l:List Pr) (hm:a.eval m=.map (some b)) (hown:zHb w b l)
  (hK:wpList Tryz.prog ops Q rest (a.put o.dst (.int .i64 (l.length:Int))) w):wpList Tryz.prog ops Q (o::rest) a w:=by
 obtain⟨D,h1,h2⟩:=hown;refine wpList_len_own w hg m 157 hop 9 9 Tryz.underlying157 (plainElem Tryz.prog 9) b _ D hm h1 ?_;rw[h2.2.2.1];exact hK
theorem zR1 (w:World){o:Oper}{a:Act}(hg:o.guard=none)(m x v:Operand)(hop:o.op=Op.mapUpdate 157 m x v)
  (b:Nat) (l:List Pr) (hm:a.eval m=.map (some b)) (hown:zHb w b l) (hl:l.length<maxLen) (s t:ByteArray) (hx:a.eval x=.string s) (hv:a.eval v=.string t) (hs:s.size<=maxLen) (ht:t.size<=maxLen) (hn:zI3 l s=none)
  (hK:∀w',zHb w' b (l++[(s,t)])->w.grownBy w' (some b)->wpList Tryz.prog ops Q rest (a.put o.dst undef) w'):wpList Tryz.prog ops Q (o::rest) a w:=by
 obtain⟨D,h1,h2⟩:=hown;exact wpList_mapUpdate_own w hg m x v 157 hop 9 9 kD7 Tryz.underlying157 (plainElem Tryz.prog 9) b _ D hm h1 hl (.string s) (.string t) (kl s) hx hv (keyOf_string_mk Tryz.underlying9 hs) _ [] (plainElem_string Tryz.underlying9 ht)
  (fun w' h3 h4=>hK w' (zHb.put h2 (h1.tidy kD7) hn rfl h3) h4)
theorem kRx (h:P:=by
 have HG:=hd hg;go_enter Tryz.func133,Tryz.ntmps133
 go_wp2_with(first|(at_lookup;refine zDr _ rfl _ _ rfl b l rfl (hM.alloc _) k rfl hk2.o ?_))
 go_ret
 exact⟨kC (by rw[HE.o,HG.o];rfl),Kk.alloc Kl _⟩):P:=h
theorem kH6 (b:Nat)(l:List Pr)(k v:ByteArray)(w:World)(hM:zHb w b l)(hA:zB9 l)(hk:k.size<=100):
  Calls Tryz.prog 133 #[.map (some b),.agg #[.string k,.string v]] w fun e w'=>e=.returned (.bool (zGz l (k,v)))/\Below w.heap.size w w':=by
 have HE:=hd (kDn l hA k v);have hk2:Kq (k.size<=maxLen):=hd Kg;clear hA;cases hg:zKz l k
 ·exact kRx
 ·exact kRx
open Go.RowKit Go.Sort
def zTk (p:Pr):List Value:=[.string p.1,.string p.2]
def flat (l:List Pr):List Value:=l.flatMap zTk
instance : Inhabited Pr:=⟨noPr⟩
theorem zD5 (l:List Pr):(flat l).length=l.length*2:=by
 unfold flat;induction l with
 |nil=>rfl
 |cons p r ih=>rw[List.flatMap_cons,List.length_append,ih,List.length_cons];simp[zTk];omega
theorem zRo (l m:List Pr):flat (l++m)=flat l++flat m:=by unfold flat;rw[List.flatMap_append]
theorem kDq (l:List Pr)(k:Nat)(hk:k<l.length):(flat l)[k*2]? =some (.string (jU l k).1)/\(flat l)[k*2+1]? =some (.string (jU l k).2):=by
 induction l generalizing k with
 |nil=>simp at hk
 | cons p r ih=>
  cases k with
  |zero=>exact⟨rfl,rfl⟩
  |succ k=>
   have:=ih k (by simpa using hk);have e1:(flat (p::r))[(k+1)*2]? =(flat r)[k*2]? :=by
    show(Value.string p.1::Value.string p.2::flat r)[(k+1)*2]? =_
    rw[show(k+1)*2=k*2+1+1 by omega];rfl
   have e2:(flat (p::r))[(k+1)*2+1]? =(flat r)[k*2+1]? :=by
    show(Value.string p.1::Value.string p.2::flat r)[(k+1)*2+1]? =_
    rw[show(k+1)*2+1=k*2+1+1+1 by omega];rfl
   have e3:jU (p::r) (k+1)=jU r k:=rfl;rw[e1,e2,e3];exact this
theorem zU5 (l:List Pr):flatK zTk 2 l.toArray=(flat l).toArray:=by
 apply Array.ext
 ·simp[zD5]
 ·intro t h1 h2;have ht:t<l.length*2:=by simpa using h1
  have hk:t/2<l.length:=Kb;have hg:=kDq l (t/2) hk;rw[<-getElem!_pos (flatK zTk 2 l.toArray) t h1,get_flatK _ _ _ t (by simpa using ht)];have e:l.toArray[t/2]! =jU l (t/2):=by
   rw[getElem!_pos l.toArray (t/2) (by simpa using hk),zB7 l _ hk];rfl
  rw[e];have h3:(flat l)[t]? =some ((flat l).toArray[t]'h2):=by
   rw[List.getElem?_eq_getElem (by simpa[zD5]using ht)];rfl
  rcases Nat.mod_two_eq_zero_or_one t with h0|h0
  ·have:t=t/2*2:=Kb;rw[h0];rw[<-this,h3]at hg;exact(Option.some.inj hg.1).symm
  ·have:t=t/2*2+1:=Kb;rw[h0];rw[<-this,h3]at hg;exact(Option.some.inj hg.2).symm
theorem zMx (hb:w.heap[g]? =some (.cells cur e (0,0)))(ht:cur.toList.take (l.length*2)=flat l):HoldsK zTk 2 w g 0 l.toArray:=by
 unfold HoldsK;rw[zU5];intro j hj;have hj':j<(flat l).length:=by simpa using hj
 refine⟨?_,by simp[World.frozen?,hb]⟩;have h1:(cur.toList.take (l.length*2))[j]? =(flat l)[j]? :=by rw[ht]
 rw[List.getElem?_take_of_lt (by rwa[zD5]at hj')]at h1;simp only[World.cell?,hb,Nat.zero_add];simp only[Option.isSome_none,Bool.false_eq_true,if_false];rw[<-Array.getElem?_toList,h1,List.getElem?_eq_getElem hj',getElem!_pos (flat l).toArray j hj];rfl
theorem zRp {n:Nat}{fr:Nat×Nat}(d:Array Pr)(hb:w.heap[g]? =some (.cells cur e fr)):
  (sortWorldK zTk 2 w g 0 n d os).heap[g]? =some (.cells (putCells id 0 (flatK zTk 2 d) cur) e fr):=by
 have hg:g<w.heap.size:=(Array.getElem?_eq_some_iff.1 hb).1;unfold sortWorldK putRowK;rw[heap_grow_old _ _ (by simpa[putRow,mapBlock,Sort.ahead]using hg)];simp[putRow,mapBlock,Sort.ahead,Array.getElem?_modify,hb,onCells]
theorem zMy {n:Nat}(d:Array Pr):w.grownBy (sortWorldK zTk 2 w g 0 n d os) (some g):=by
 unfold sortWorldK putRowK;refine⟨rfl,rfl,rfl,by simp[grow,putRow,mapBlock,Sort.ahead],fun k hk hne=>?_⟩;rw[heap_grow_old _ _ (by simpa[putRow,mapBlock,Sort.ahead]using hk)];have:g≠k:=fun e=>hne (by rw[e]);simp[putRow,mapBlock,Sort.ahead,Array.getElem?_modify,this]
theorem zNj (cur:Array Value)(ts:List Value)(h:ts.length<=cur.size):(putCells id 0 ts.toArray cur).toList.take ts.length=ts:=by
 apply List.ext_getElem?;intro j;by_cases hj:j<ts.length
 ·rw[List.getElem?_take_of_lt hj,Array.getElem?_toList];simp[putCells,hj,show j<cur.size by omega]
 ·rw[List.getElem?_take_eq_none Kb,List.getElem?_eq_none Kb]
theorem zMz {base cap n:Nat}{ss ts:List Pr}(hl:ts.length=ss.length)(hbase:base<=g)(hb:w.heap[g]? =some (.cells cur e (0,0)))
  (h1:ss.length<=cap) (h2:cap<=maxLen) (h3:cur.size=cap*2):
  (sortWorldK zTk 2 w g 0 n ts.toArray os).ownsRow base e 2 (.slice (some ⟨g,0,none⟩) ss.length cap) ss.length (flat ts):=
 ⟨by rw[zD5,hl],.inr ⟨g,cap,_,rfl,hbase,zRp _ hb,h1,h2,by simp[putCells,h3],by
  rw[zU5,<-hl,<-zD5];exact zNj cur _ (by rw[zD5,h3];omega)⟩⟩
open Go.Shelf
def zWx :Go.Shelf.Ren:=⟨fun|6=>147|15=>153|14=>152|28=>163|29=>164|20=>155|21=>156|22=>157|23=>158|24=>159|25=>160|26=>161|27=>162|46=>166|47=>167|48=>168|49=>169|50=>170|57=>171|n=>n,fun|22=>22|24=>103|25=>170|3=>3|39=>175|0=>0|53=>185|55=>187|4=>4|46=>178|45=>177|50=>182|5=>5|9=>9|66=>188|70=>192|76=>194|77=>131|n=>n,fun|n=>n⟩
theorem kKp :Go.Proofs.SlLaysF0.n6 Tryz.prog zWx:={
 mixed:=Ka
 f6:=⟨Tryz.f147.name,by decide,Tryz.func147.trans (congrArg some Ka)⟩
 f14:=⟨Tryz.f152.name,by decide,Tryz.func152.trans (congrArg some Ka)⟩
 f15:=Tryz.func153.trans (congrArg some Ka)
 f20:=⟨Tryz.f155.name,by decide,Tryz.func155.trans (congrArg some Ka)⟩
 f21:=⟨Tryz.f156.name,by decide,Tryz.func156.trans (congrArg some Ka)⟩
 f22:=⟨Tryz.f157.name,by decide,Tryz.func157.trans (congrArg some Ka)⟩
 f23:=⟨Tryz.f158.name,by decide,Tryz.func158.trans (congrArg some Ka)⟩
 f24:=⟨Tryz.f159.name,by decide,Tryz.func159.trans (congrArg some Ka)⟩
 f25:=⟨Tryz.f160.name,by decide,Tryz.func160.trans (congrArg some Ka)⟩
 f26:=⟨Tryz.f161.name,by decide,Tryz.func161.trans (congrArg some Ka)⟩
 f27:=⟨Tryz.f162.name,by decide,Tryz.func162.trans (congrArg some Ka)⟩
 f28:=Tryz.func163.trans (congrArg some Ka)
 f29:=Tryz.func164.trans (congrArg some Ka)
 f46:=⟨Tryz.f166.name,by decide,Tryz.func166.trans (congrArg some Ka)⟩
 f47:=Tryz.func167.trans (congrArg some Ka)
 f48:=Tryz.func168.trans (congrArg some Ka)
 f49:=⟨Tryz.f169.name,by decide,Tryz.func169.trans (congrArg some Ka)⟩
 f50:=⟨Tryz.f170.name,by decide,Tryz.func170.trans (congrArg some Ka)⟩
 f57:=⟨Tryz.f171.name,by decide,Tryz.func171.trans (congrArg some Ka)⟩
 t0:=Tryz.underlying0
 a0:=Tryz.isAgg0
 z0:=Tryz.sizeOf0
 v0:=Tryz.zeroValue0
 t3:=Tryz.underlying3
 a3:=Tryz.isAgg3
 z3:=Tryz.sizeOf3
 v3:=Tryz.zeroValue3
 t4:=Tryz.underlying4
 a4:=Tryz.isAgg4
 z4:=Tryz.sizeOf4
 v4:=Tryz.zeroValue4
 t5:=Tryz.underlying5
 a5:=Tryz.isAgg5
 z5:=Tryz.sizeOf5
 v5:=Tryz.zeroValue5
 t9:=Tryz.underlying9
 a9:=Tryz.isAgg9
 z9:=Tryz.sizeOf9
 v9:=Tryz.zeroValue9
 t22:=Tryz.underlying22
 a22:=Tryz.isAgg22
 z22:=Tryz.sizeOf22
 v22:=Tryz.zeroValue22
 t25:=Tryz.underlying170
 a25:=Tryz.isAgg170
 z25:=Tryz.sizeOf170
 v25:=Tryz.zeroValue170
 t39:=Tryz.underlying175
 a39:=Tryz.isAgg175
 z39:=Tryz.sizeOf175
 v39:=Tryz.zeroValue175
 t45:=Tryz.underlying177
 a45:=Tryz.isAgg177
 z45:=Tryz.sizeOf177
 v45:=Tryz.zeroValue177
 t46:=Tryz.underlying178
 a46:=Tryz.isAgg178
 z46:=Tryz.sizeOf178
 v46:=Tryz.zeroValue178
 t50:=Tryz.underlying182
 a50:=Tryz.isAgg182
 z50:=Tryz.sizeOf182
 v50:=Tryz.zeroValue182
 t53:=Tryz.underlying185
 a53:=Tryz.isAgg185
 z53:=Tryz.sizeOf185
 v53:=Tryz.zeroValue185
 t55:=Tryz.underlying187
 a55:=Tryz.isAgg187
 z55:=Tryz.sizeOf187
 v55:=Tryz.zeroValue187
 t66:=Tryz.underlying188
 a66:=Tryz.isAgg188
 z66:=Tryz.sizeOf188
 v66:=Tryz.zeroValue188
 t70:=Tryz.underlying192
 a70:=Tryz.isAgg192
 z70:=Tryz.sizeOf192
 v70:=Tryz.zeroValue192
 t76:=Tryz.underlying194
 a76:=Tryz.isAgg194
 z76:=Tryz.sizeOf194
 v76:=Tryz.zeroValue194
 t77:=Tryz.underlying131
 a77:=Tryz.isAgg131
 z77:=Tryz.sizeOf131
 v77:=Tryz.zeroValue131}
