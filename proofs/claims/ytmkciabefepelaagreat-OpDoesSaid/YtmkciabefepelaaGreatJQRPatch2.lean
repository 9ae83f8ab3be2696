import Derived.Test.YtmkciabefepelaaGreatJORStays
set_option maxRecDepth 100000
set_option maxHeartbeats 8000000
namespace Go.Proofs.YtmkciabefepelaaGreat
open Go.RowKit
variable {ops:Array Oper}{r:List Int×Int}{rest:List Oper}{op:Oper}{g j:Nat}{v:Value}{d:TypeDesc}
theorem kTs (A B C:Option Addr)(l old new:List Pr)(c d f:Nat)(w:World)(hl:chk l=0)(ho:chk old=0)(hn:chk new=0)(hp:PL w w.heap.size A l)(hq:PL w w.heap.size B old)(hr:PL w w.heap.size C new):
  Calls Tryz.prog 102 #[.slice A l.length c,.slice B old.length d,.slice C new.length f] w (zId w l old new):=by
 have iA:=hd (LL3 c d f hp hq hr);have HF:=hd (zIc hl);have HG:=hd (zIc ho);have HH:=hd (zIc hn);have mI:Kq (∀k,k<3->Fit (zGf l old new k)/\chk (zGf l old new k)=0):=hd fun k hk=>by
  match k,hk with
  |0,_=>exact⟨HF.o,hl⟩
  |1,_=>exact⟨HG.o,ho⟩
  |2,_=>exact⟨HH.o,hn⟩
 have qq:=hd (zBv hl);have Bl:=((zC8 l).1 hl).1;have Bn:=((zC8 old).1 ho).1;have n16:=((zC8 new).1 hn).1;have HP:=hd hp;have HQ:=hd hq;have HR:=hd hr;have Hl:=hd hl;have Hn:=hd hn;clear hl ho hn hp hq hr;go_enter Tryz.func102,Tryz.ntmps102
 go_wp2
 go_loopw [29] (fun i wr=>∃k:Nat,k<=3/\i=.int .i64 k/\Below (w.heap.size+1) (w.alloc (.cells #[.slice A l.length c,.slice B old.length d,.slice C new.length f] 22)) wr) (fun i _=>3-(intOf i).toNat)
 case atStart=>exact⟨0,by omega,rfl,Below.refl _ _⟩
 case round =>
  obtain⟨k,hk,rfl,hb⟩:=hrel;have hw:Below w.heap.size w wr:=(Kk.alloc Kl _).trans (hb.mono Kb);by_cases hlt:k<3
  ·obtain⟨hc0,hp0⟩:=iA.o.2 k hlt;obtain⟨hF,hcz⟩:=mI.o k hlt;have hc:=(hb.cell (p:=⟨w.heap.size,0+k,none⟩) Kc).trans hc0;rw[Nat.zero_add]at hc;have hp1:=(hp0.below (B:=_) (hb.mono Kc)).more hb.size;have hC:=hd (kP1 (zGf A B C k) (zGf l old new k) (zGf c d f k) wr hF.wide hp1 0 hcz);clear hc0 hp0 hcz hp1 hF;go_wp2_with(first|(go_at_call 100;refine hC.o.mono ?_;rintro e w3 ⟨rfl,hb3⟩))
   have hb4:=hb.trans (hb3.mono (by have:=hb.size;simp at this;omega));go_roundw
   case rel=>exact⟨k+1,by omega,by go_num,hb4⟩
   case measure=>simp[intOf];omega
  ·clear hb iA mI;obtain⟨wa,gH⟩:∃wa:World,wa=wr:=⟨_,rfl⟩;subst gH;go_wp2
   clear hlt hk;go_loopw [41] (fun i wr=>∃n:Nat,n<=old.length/\i=.int .i64 n/\Below w.heap.size w wr/\Kq (∀j,j<n->zGz l ((jU old j).1,(jU old j).2)=true)) (fun i _=>old.length-(intOf i).toNat)
   case atStart=>exact⟨0,Nat.zero_le _,rfl,hw,fun j hj=>absurd hj (Nat.not_lt_zero _)⟩
   case round=>
    clear hw;obtain⟨n,hn,rfl,hb,HX⟩:=hrel;by_cases hlt:n<old.length
    ·obtain⟨g,o,rfl,oV,c1,c2⟩:=(HQ.o.below hb).at_ hlt;have aN:=hb.alloc hb.size (.cells #[.string (jU old n).1,.string (jU old n).2] 94);have hp1:=(HP.o.qlater aN);cases hh:zGz l ((jU old n).1,(jU old n).2)
     ·have HE:Kq (zDp l old new=9):=hd (by unfold zDp;rw[if_pos (zWw hlt hh)]);have hC:=hd (kQs A l c (jU old n).1 (jU old n).2 _ hh _ Kb hp1);clear hh hp1;go_wp2_with(first|(go_at_call 145;refine hC.o.mono ?_;rintro e w3 ⟨rfl,hb3⟩))
      go_ret2
      exact zTm HE.o Kd ⟨rfl,aN.trans (hb3.mono (by have:=hb.size;simp;omega))⟩
     ·have HY:=zBm (p:=fun j=>zGz l ((jU old j).1,(jU old j).2)=true) HX hh;have hC:=hd (kQs A l c (jU old n).1 (jU old n).2 _ hh _ Kb hp1);clear hh hp1 HX;go_wp2_with(first|(go_at_call 145;refine hC.o.mono ?_;rintro e w3 ⟨rfl,hb3⟩))
      have hb4:=aN.trans (hb3.mono (by have:=hb.size;simp;omega));go_roundw
      case rel=>exact⟨n+1,by omega,by go_num,hb4,HY⟩
      case measure=>simp[intOf];omega
    ·have HS :=hd (zTi (l:=l) (old:=old) (fun j hj=>HX.o j Kb));clear HX;obtain⟨wb,hwb⟩:∃wb:World,wb=wr:=⟨_,rfl⟩;subst hwb;go_wp2
     clear hlt hn;go_loopw [52] (fun i wr=>∃n:Nat,n<=new.length/\i=.int .i64 n/\Below w.heap.size w wr/\Kq (∀j,j<n->zKz (zD1 l old) (jU new j).1=false)) (fun i _=>new.length-(intOf i).toNat)
     case atStart=>exact⟨0,Nat.zero_le _,rfl,hb,fun j hj=>absurd hj (Nat.not_lt_zero _)⟩
     case round=>
      clear hb;obtain⟨n,hn,rfl,hb,HX⟩:=hrel;by_cases hlt:n<new.length
      ·obtain⟨g,o,rfl,oV,c1,c2⟩:=(HR.o.below hb).at_ hlt;have aN:=hb.alloc hb.size (.cells #[.string (jU new n).1,.string (jU new n).2] 94);have hq1:=(HQ.o.qlater aN);have HK:=hd (kUk qq.o (kUl HS.o) (jU new n).1);cases gZ:zKz old (jU new n).1
       ·cases his:zKz l (jU new n).1
        ·have HY:=zBm (p:=fun j=>zKz (zD1 l old) (jU new j).1=false) HX (by rw[HK.o,his];rfl);have hC:=hd (kO7 B old d (jU new n).1 _ _ rfl gZ _ Kb hq1);have HI:=hd his;clear gZ his hq1 HX HK;go_wp2_with fail
         refine hC.o.mono ?_;rintro e w3 ⟨rfl,hb3⟩;obtain⟨k1,k2⟩:=kDt hb3;have hb4:=aN.trans (hb3.mono (by have:=hb.size;simp;omega));go_wp2_with fail
         refine(kO7 A l c (jU new n).1 _ _ rfl HI.o w3 Kb (HP.o.qlater hb4)).mono ?_;rintro e w4 ⟨rfl,cR⟩;have iz:=hb4.trans (cR.mono hb4.size);go_wp2
         go_roundw
         case rel=>exact⟨n+1,by omega,by go_num,iz,HY⟩
         case measure=>simp[intOf];omega
        ·have HE:Kq (zDp l old new=9):=hd (by
          unfold zDp;rw[HS.o,kDo hlt (by rw[HK.o,his,gZ];rfl)];rfl)
         have hC:=hd (kO7 B old d (jU new n).1 _ _ rfl gZ _ Kb hq1);have HI:=hd his;clear gZ his hq1 HX HK;go_wp2_with fail
         refine hC.o.mono ?_;rintro e w3 ⟨rfl,hb3⟩;obtain⟨k1,k2⟩:=kDt hb3;have hb4:=aN.trans (hb3.mono (by have:=hb.size;simp;omega));go_wp2_with fail
         refine(kO7 A l c (jU new n).1 _ _ rfl HI.o w3 Kb (HP.o.qlater hb4)).mono ?_;rintro e w4 ⟨rfl,cR⟩;go_wp2
         go_ret2
         exact zTm HE.o Kd ⟨rfl,hb4.trans (cR.mono hb4.size)⟩
       ·have HY:=zBm (p:=fun j=>zKz (zD1 l old) (jU new j).1=false) HX (by rw[HK.o,gZ];simp);have hC:=hd (kO7 B old d (jU new n).1 _ _ rfl gZ _ Kb hq1);clear gZ hq1 HX HK;cases his:zKz l (jU new n).1
        all_goals
         have HI:=hd his
         clear his
         go_wp2_with fail
         refine hC.o.mono ?_
         rintro e w3 ⟨rfl,hb3⟩
         obtain⟨k1,k2⟩:=kDt hb3
         have hb4:=aN.trans (hb3.mono (by have:=hb.size;simp;omega))
         go_wp2_with fail
         refine(kO7 A l c (jU new n).1 _ _ rfl HI.o w3 Kb (HP.o.qlater hb4)).mono ?_
         rintro e w4 ⟨rfl,cR⟩
         have iz:=hb4.trans (cR.mono hb4.size)
         go_wp2
         go_roundw
         case rel=>exact⟨n+1,by omega,by go_num,iz,HY⟩
         case measure=>simp[intOf];omega
      ·have eJ:=hd (kAa (l:=zD1 l old) (new:=new) (fun j hj=>HX.o j Kb));clear HX;obtain⟨wc,hwc⟩:∃wc:World,wc=wr:=⟨_,rfl⟩;subst hwc;go_wp2
       clear hlt hn;go_loopw [19,78] (fun v i wr=>∃n:Nat,n<=l.length/\i=.int .i64 n/\kAg wr w.heap.size v (zD1 (l.take n) old)/\Below w.heap.size w wr) (fun _ i _=>l.length-(intOf i).toNat)
       case atStart=>exact⟨0,Nat.zero_le _,rfl,kAg.nil _ _,hb⟩
       case round=>
        clear hb;obtain⟨n,hn,rfl,hO,hb⟩:=hrel;by_cases hlt:n<l.length
        ·obtain⟨g,o,rfl,oV,c1,c2⟩:=(HP.o.below hb).at_ hlt;have cK:=zZ8 (l.take n) old;have hol:(zD1 (l.take n) old).length<=1000:=by rw[List.length_take]at cK;omega
         have Bo:=hd hol;have aN:=hb.alloc hb.size (.cells #[.string (jU l n).1,.string (jU l n).2] 94);have hq1:=(HQ.o.qlater aN);have oU:=hO.alloc (.cells #[.string (jU l n).1,.string (jU l n).2] 94);clear cK hol;cases hh:zGz old ((jU l n).1,(jU l n).2)
         ·have HT:=hd (kSo hlt hh);have hC:=hd (kQs B old d (jU l n).1 (jU l n).2 _ hh _ Kb hq1);clear hh hq1;go_wp2_with(first
           |(go_at_call 145;refine hC.o.mono ?_;rintro e w3 ⟨rfl,hb3⟩;obtain⟨k1,k2⟩:=kDt hb3;have gI:=oU.below hb3;have hb4:=aN.trans (hb3.mono (by have:=hb.size;simp;omega));have hs4:=hb4.size)
           |(at_builtin;refine kNq _ rfl (.tmp 86) (.tmp 88) rfl w.heap.size _ _ rfl gI (jU l n).1 (jU l n).2 w3.heap.size rfl rfl Bo.o hs4 ?_;intro v5 w5 mJ Bp))
          go_roundw
          case rel=>exact⟨n+1,by omega,by go_num,by rw[HT.o];exact mJ,Bp.below _ _ Kl hs4 hb4⟩
          case measure=>simp[intOf];omega
         ·have HT:=hd (kSp hlt hh);have hC:=hd (kQs B old d (jU l n).1 (jU l n).2 _ hh _ Kb hq1);clear hh hq1;go_wp2_with(first
           |(go_at_call 145;refine hC.o.mono ?_;rintro e w3 ⟨rfl,hb3⟩))
          have gI:=oU.below hb3;have hb4:=aN.trans (hb3.mono (by have:=hb.size;simp;omega));go_roundw
          case rel=>exact⟨n+1,by omega,by go_num,by rw[HT.o];exact gI,hb4⟩
          case measure=>simp[intOf];omega
        ·have xM:kAg wr w.heap.size u19 (zD1 l old):=by rw[List.take_of_length_le Kb]at hO;exact hO
         have cK:=zZ8 l old;clear hO;obtain⟨wd,hwd⟩:∃wd:World,wd=wr:=⟨_,rfl⟩;subst hwd;go_wp2
         clear hlt hn;go_loopw [19,93] (fun v i wr=>∃n:Nat,n<=new.length/\i=.int .i64 n/\kAg wr w.heap.size v (kSq (zD1 l old) (new.take n))/\Below w.heap.size w wr) (fun _ i _=>new.length-(intOf i).toNat)
         case atStart=>exact⟨0,Nat.zero_le _,rfl,xM,hb⟩
         case round=>
          clear hb xM;obtain⟨n,hn,rfl,hO,hb⟩:=hrel;have hlen:=kPy (zD1 l old) (new.take n);have htl:(new.take n).length<=new.length:=by rw[List.length_take];omega
          by_cases hlt:n<new.length
          ·obtain⟨g,o,rfl,oV,c1,c2⟩:=(HR.o.below hb).at_ hlt;have HT:=hd (zMt new n hlt);have Bq:=hd (kTg (zD1 l old) (new.take n) ((jU new n).1,(jU new n).2));obtain⟨acc,hacc⟩:∃acc,acc=kSq (zD1 l old) (new.take n):=⟨_,rfl⟩;rw[<-hacc]at hO hlen;have uN:=hd hacc;have jz:acc.length<=900:=Kb;clear hacc hlen;have aN:=hb.alloc hb.size (.cells #[.string (jU new n).1,.string (jU new n).2] 94);obtain⟨A9,c9,ak,p9⟩:=(hO.alloc (.cells #[.string (jU new n).1,.string (jU new n).2] 94)).PL;have P9:=hd p9;clear p9 hO;subst ak;have hC:=hd (kTo A9 acc c9 (jU new n).1 (jU new n).2 _ jz P9.o);go_wp2_with(first
            |(go_at_call 147;refine hC.o.mono ?_;rintro e w3 ⟨v3,rfl,jh,hb3⟩))
           have hb4:=aN.trans (hb3.mono (by have:=hb.size;simp;omega));have ji:=jh.base aN.size;go_roundw
           case rel=>exact⟨n+1,by omega,by go_num,by rw[HT.o,Bq.o,<-uN.o];exact ji,hb4⟩
           case measure=>simp[intOf];omega
          ·have oW:kAg wr w.heap.size u19 (kSq (zD1 l old) new):=by rw[List.take_of_length_le Kb]at hO;exact hO
           have bB:=kPy (zD1 l old) new;have xN:=hd (kSr Hl.o Hn.o eJ.o);rw[xN.o]at oW bB;obtain⟨r,hr⟩:∃r,r=zA7 l old new:=⟨_,rfl⟩;rw[<-hr]at oW bB;have uO:=hd hr;clear hr hO hlen htl xN;obtain⟨A9,c9,ak,rO⟩:=oW;have HO:=hd rO;clear rO;subst ak;by_cases lN:(16:Int)<(r.length:Int)
           ·have HE:Kq (zDp l old new=2):=hd (by
             unfold zDp;rw[HS.o,eJ.o,if_neg Kc,if_neg Kc,if_pos Kb])
            clear bB;go_wp2
            go_ret2
            exact zTm HE.o Kd ⟨rfl,hb⟩
           ·have HE:Kq (zDp l old new=0):=hd (by
             unfold zDp;rw[HS.o,eJ.o,if_neg Kc,if_neg Kc,if_neg Kb])
            clear bB;go_wp2
            go_ret2
            exact kKr HE.o ⟨_,rfl,by rw[<-uO.o];exact⟨A9,c9,rfl,HO.o⟩,hb⟩
open Go.WideShapes (add_plain)
theorem kOt {ts te:TypeId}{by_:Nat}(E:kMy ts te by_)(hby:by_<=64)(W:World){o:Oper}{a:Act}{K:Act->World->Prop}{Q:Exit->Act->World->Prop}{F:Prop}(hgd:o.guard=none)(s x:Operand)
  (ho:o.op=.call {callee:=.builtin .append,args:=#[s,x],argTypes:=#[ts,ts]})
  (b:Nat) (v:Value) (k l:List Value) (hs:a.eval s=v) (hO:zE1 te W b v k) (A:Option Addr) (n c B:Nat) (hx:a.eval x=.slice A n c) (hn:l.length=n) (hp:VL W B A l) (h1:∀u ∈ l,u.oneCell'=true) (hlen:k.length+l.length<=100000) (hb:b<=W.heap.size)
  (hK:∀v' w',zE1 te w' b v' (k++l)->kBq b v W w'->K (a.put o.dst v') w'):
  if Region.wanted o (yielded ops a.tmps)=true then Oper.wp Tryz.prog o a W K Q else F:=by
 have hw:Region.wanted o (yielded ops a.tmps)=true:=by simp[Region.wanted,hgd]
 rw[if_pos hw];subst hn;obtain⟨i0,z,hi,hz0,hz1,hz2,hz3⟩:=E.info;rcases A with _|ad
 ·have hl:l=[]:=by
   rcases Classical.em (l=[])with h|h
   ·exact h
   ·obtain⟨_,_,h,_⟩:=hp h;cases h
  subst hl;have hown:=hO.own;have hrun:(Builtin.append_ #[ts,ts] o.type #[v,.slice none 0 c]).run Tryz.prog W=.ok v W:=by
   rcases hown.2 with⟨rfl,_⟩|⟨g,cap,cur,rfl,_,_,hnc,_⟩
   ·simp[Builtin.append_,run_underlying E.under,sizeOf,typeInfo,hi,Builtin.lenOf,Builtin.firstCells]
   ·simp[Builtin.append_,run_underlying E.under,sizeOf,typeInfo,hi,Builtin.lenOf,Builtin.firstCells,hnc,storeCells]
  unfold Oper.wp;simp[execOp,ho,resolve,invoke,builtin,hs,hx,hrun,Result.andThen];exact hK v W (by rw[List.append_nil];exact hO) (kBq.refl _ _ _)
 ·have hc:∀j u,l[j]? =some u->W.cell? (ad.add j)=some u:=by
   intro j u hj;have hjl:j<l.length:=(List.getElem?_eq_some_iff.1 hj).1;obtain⟨b',o',e,_,h⟩:=hp (by rintro rfl;simp at hjl);injection e with e;subst e;rw[add_plain,h j u hj]
  have hbb:(k.length+l.length)*by_<=100000*64:=Nat.mul_le_mul hlen hby;refine wp_append_own _ s x ts ho b te i0 _ 1 by_ E.under hi hz0 hz1 hz2 hz3 Kd v k.length k hs hO.own ad l.length c l hx Kc hc h1
   Kg Kb hb (fun v' w' h1 h2 _=>hK v' w' (zE1.of_own (n:=k.length+l.length) h1 Kc) ?_)
  exact⟨h2.size,fun B w0 hB ow hb0=>hb0.grown h2 ow (fun j hj=>Nat.le_trans hB (hO.lt hj).1),fun p hp hne=>World.cell?_of_block (h2.block p.block hp hne)⟩
theorem kV0 (A:Option Addr)(n c k b:Nat)(hc:k+b<=c):∃D:Option Addr,(∀(w:World)(B:Nat)(xs:List Value),VL w B A xs->xs.length=n->n<=c->VL w B D ((xs.drop k).take b))/\
  (∀W:World,(Instr.slice 23 (.slice A n c) (some (.int .i64 (k:Int))) (some (.int .i64 ((k:Int)+(b:Int)))) none).run Tryz.prog W=.ok (.slice D b (c-k)) W):=by
 refine⟨if c=k then A else A.map (·.add (k*1)),fun w B xs h hx hnc=>(h.drop k c n hx.symm hnc).take b,fun W=>?_⟩;have he:Tryz.prog.elem 23=21:=Ka;have hs:∀W,(sizeOf 21).run Tryz.prog W=.ok 1 W:=fun _=>by kernel_rfl
 rw[run_slice_lh W 23 A n c (by rw[he];exact Tryz.underlying23) .i64 .i64 _ _ Kb Kb Kb,he,hs];have e:((k:Int)+(b:Int)).toNat=k+b:=Kb;simp[Result.andThen,sliced,e]
theorem kO0 {P:Prop}(h:P:=by
 go_enter Tryz.func103,Tryz.ntmps103
 go_wp2_with fail
 refine eJ.o.mono ?_;rintro e w' ⟨rfl,rfl⟩;go_wp2_with fail
 refine j0.o.mono ?_;rintro e w' ⟨rfl,rfl⟩;go_wp2
 go_ret2
 exact zI8 HE.o (zE1.nil _ _) Kk):P:=h
theorem kRy (A B:Option Addr)(l m:List Int)(a b c d:Nat)(p:Int)(w:World)(ha:l.length=a)(hb:m.length=b)(hl:a<=1000)(hm:b<=1000)(jz:a<=c)(_hbd:b<=d)(hp:VL w w.heap.size A (rv l))(hq:VL w w.heap.size B (rv m)):
  Calls Tryz.prog 103 #[.slice A a c,.int .i64 p,.slice B b d] w (kJu w (zFx l p m)):=by
 have eJ:=hd (kOm A l a c w ha Kb hp);have j0:=hd (kOm B m b d w hb Kb hq);unfold zNh at eJ j0;cases h1:okR l
 ·have HE:=hd (show zFx l p m=([],4) by unfold zFx;rw[h1];rfl);rw[h1]at eJ;clear h1 hp hq ha hb;go_enter Tryz.func103,Tryz.ntmps103
  go_wp2_with fail
  refine eJ.o.mono ?_;rintro e w' ⟨rfl,rfl⟩;go_wp2
  go_ret2
  exact zI8 HE.o (zE1.nil _ _) Kk
 ·cases h2:okR m
  ·have HE:=hd (show zFx l p m=([],4) by unfold zFx;rw[h1,h2];rfl);rw[h1]at eJ;rw[h2]at j0;clear h1 h2 hp hq ha hb;exact kO0
  ·have hI:zFx l p m=if 0<=p/\p<=l.length then(l.take p.toNat++(m++l.drop p.toNat),0)else([],8):=by unfold zFx;rw[if_pos (by rw[h1,h2];rfl)]
   rw[h1]at eJ;rw[h2]at j0;rw[ha]at hI;clear h1 h2;rcases(show p<0∨(0<=p/\p<=a)∨(0<=p/\(a:Int)<p) by omega)with h3|⟨h3,h4⟩|⟨h3,h4⟩
   ·have HE:=hd (show zFx l p m=([],8) by rw[hI,if_neg Kb]);clear hI hp hq ha hb;exact kO0
   ·obtain⟨k,rfl⟩:∃k:Nat,p=k:=⟨p.toNat,by omega⟩;have hka:k<=a:=Kb;have HE:=hd (show zFx l k m=(l.take k++(m++l.drop k),0) by rw[hI,if_pos Kb];rfl);obtain⟨D,hD,nR⟩:=zLb A a c k Kb jz;have iW:=zLc A a c k Kb;have mK:=hD w w.heap.size (rv l) hp (by rw[zCg];exact ha);rw[<-zOs]at mK;have oX:=hp.take k;rw[<-zOr]at oX;have HD:=hd mK;have HQ:=hd hq;have F1:Kq (∀W:World,Below w.heap.size w W->Calls Tryz.prog 39 #[.slice A k c] W (zYp W (l.take k))):=hd (fun W hb=>kQ6 A (l.take k) k c W Kf Kb (oX.later hb));have uP:Kq ((rv m).length=b):=hd (by rw[zCg];exact hb);have rP:Kq ((rv (l.drop k)).length=a-k):=hd (by rw[zCg];simp;omega);have hlt:(rv (l.take k)).length<=1000:=by rw[zCg];simp;omega
    clear hI hp hq ha hb hD mK oX h3 h4;go_enter Tryz.func103,Tryz.ntmps103
    go_wp2_with fail
    refine eJ.o.mono ?_;rintro e w' ⟨rfl,rfl⟩;go_wp2_with fail
    refine j0.o.mono ?_;rintro e w' ⟨rfl,rfl⟩;go_wp2_with fail
    go_region_law(first|((go_simp;go_at_call 39;refine(F1.o _ (zNr w)).mono ?_;intro e w2 h2;obtain⟨v2,rfl,az,hb2⟩:=h2.old (zNr w)))|((refine kOt zLg Kd w2 rfl (.tmp 27) (.tmp 28) rfl w.heap.size v2 (rv (l.take k)) (rv m) (by first|rfl|simp[Act.eval]) az B b d w.heap.size (by first|rfl|simp[Act.eval]) uP.o (HQ.o.below hb2) (zNz _) (by have:=uP.o;omega) hb2.size ?_;intro v3 w3 d7 hg3))|((refine kOt zLg Kd w3 rfl (.tmp 29) (.tmp 32) rfl w.heap.size v3 (rv (l.take k)++rv m) (rv (l.drop k)) (by first|rfl|simp[Act.eval]) d7 D (a-k) (c-k) w.heap.size (by first|rfl|simp[Act.eval]) rP.o (HD.o.below (hg3.below _ _ Kl hb2.size hb2)) (zNz _) (by have:=uP.o;have:=rP.o;simp;omega) (Nat.le_trans hb2.size hg3.size) ?_;intro v4 w4 tO hg4)))
    go_wp2
    go_ret2
    have hb3:=hg3.below w.heap.size w Kl hb2.size hb2;have hb4:=hg4.below w.heap.size w Kl hb3.size hb3;exact zI8 HE.o (by rw[zQp,zQp,<-List.append_assoc];exact tO) hb4
   ·have HE:=hd (show zFx l p m=([],8) by rw[hI,if_neg Kb]);clear hI hp hq ha hb;exact kO0
theorem kOf {P:Prop}(h:P:=by
 go_enter Tryz.func104,Tryz.ntmps104
 go_wp2_with fail
 refine eJ.o.mono ?_;rintro e w' ⟨rfl,rfl⟩;go_wp2_with fail
 refine j0.o.mono ?_;rintro e w' ⟨rfl,rfl⟩;go_wp2
 go_ret2
 exact zI8 HE.o (zE1.nil _ _) Kk):P:=h
theorem kRz (A B:Option Addr)(l m:List Int)(a b c d:Nat)(p:Int)(w:World)(ha:l.length=a)(hb:m.length=b)(hl:a<=1000)(hm:b<=1000)(jz:a<=c)(_hbd:b<=d)(hp:VL w w.heap.size A (rv l))(hq:VL w w.heap.size B (rv m)):
  Calls Tryz.prog 104 #[.slice A a c,.int .i64 p,.slice B b d] w (kJu w (zFe l p m)):=by
 have eJ:=hd (kOm A l a c w ha Kb hp);have j0:=hd (kOm B m b d w hb Kb hq);unfold zNh at eJ j0;cases h1:okR l
 ·have HE:=hd (show zFe l p m=([],4) by unfold zFe;rw[h1];rfl);rw[h1]at eJ;clear h1 hp hq ha hb;go_enter Tryz.func104,Tryz.ntmps104
  go_wp2_with fail
  refine eJ.o.mono ?_;rintro e w' ⟨rfl,rfl⟩;go_wp2
  go_ret2
  exact zI8 HE.o (zE1.nil _ _) Kk
 ·cases h2:okR m
  ·have HE:=hd (show zFe l p m=([],4) by unfold zFe;rw[h1,h2];rfl);rw[h1]at eJ;rw[h2]at j0;clear h1 h2 hp hq ha hb;exact kOf
  ·have hI:zFe l p m=if 0<=p/\p<=l.length then if(l.drop p.toNat).take m.length=m then(l.take p.toNat++l.drop (p.toNat+m.length),0)else([],9)else([],8):=by unfold zFe;rw[if_pos (by rw[h1,h2];rfl)]
   rw[h1]at eJ;rw[h2]at j0;rw[ha]at hI;clear h1 h2;rcases(show p<0∨(0<=p/\p<=a)∨(0<=p/\(a:Int)<p) by omega)with h3|⟨h3,h4⟩|⟨h3,h4⟩
   ·have HE:=hd (show zFe l p m=([],8) by rw[hI,if_neg Kb]);clear hI hp hq ha hb;exact kOf
   ·obtain⟨k,rfl⟩:∃k:Nat,p=k:=⟨p.toNat,by omega⟩;have hka:k<=a:=Kb;have qs:zFe l k m=if(l.drop k).take m.length=m then(l.take k++l.drop (k+m.length),0)else([],9):=by rw[hI,if_pos Kb];rfl
    clear hI h3 h4;by_cases hfit:k+b<=a
    ·obtain⟨M,hM,xO⟩:=kV0 A a c k b Kb;have rQ:=hM w w.heap.size (rv l) hp (by rw[zCg];exact ha) jz;rw[<-zOs,<-zOr]at rQ;have tP:((l.drop k).take b).length=b:=by simp;omega
     have g1:¬((a:Int)-(k:Int)<(b:Int)):=Kb;have CY:¬(a-k<b):=Kb;have uQ:(k:Int)+(b:Int)<=c:=Kb;cases hr:decide ((l.drop k).take b=m)
     ·have HE:=hd (show zFe l k m=([],9) by rw[qs,hb,if_neg (of_decide_eq_false hr)]);have HS:=hd (zZy M B ((l.drop k).take b) m b b (c-k) d false hr w tP hb Kb Kb rQ hq);clear qs hp hq ha hb hM rQ tP hr;go_enter Tryz.func104,Tryz.ntmps104
      go_wp2_with fail
      refine eJ.o.mono ?_;rintro e w' ⟨rfl,rfl⟩;go_wp2_with fail
      refine j0.o.mono ?_;rintro e w' ⟨rfl,rfl⟩;go_wp2_with fail
      refine HS.o.mono ?_;intro e w1 h1;obtain⟨rfl,hb1⟩:=h1.still;go_wp2
      go_ret2
      exact zI8 HE.o (zE1.nil _ _) hb1
     ·have HE:=hd (show zFe l k m=(l.take k++l.drop (k+m.length),0) by rw[qs,hb,if_pos (of_decide_eq_true hr)]);have HS:=hd (zZy M B ((l.drop k).take b) m b b (c-k) d true hr w tP hb Kb Kb rQ hq);obtain⟨D2,rR,ia⟩:=zLb A a c (k+b) hfit jz;have iD:=rR w w.heap.size (rv l) hp (by rw[zCg];exact ha);rw[<-zOs]at iD;have iW:=zLc A a c k Kb;have rS:∀W:World,(Instr.slice 23 (.slice A a c) (some (.int .i64 ((k:Int)+(b:Int)))) none none).run Tryz.prog W=.ok (.slice D2 (a-(k+b)) (c-(k+b))) W:=fun W=>by
       have:=ia W;rwa[Int.natCast_add]at this
      have hwr:IntKind.i64.wrap ((k:Int)+(b:Int))=(k:Int)+(b:Int):=IntWalk.i64_in _ Kb;have oX:=hp.take k;rw[<-zOr]at oX;have F1:Kq (∀W:World,Below w.heap.size w W->Calls Tryz.prog 39 #[.slice A k c] W (zYp W (l.take k))):=hd (fun W hb=>kQ6 A (l.take k) k c W Kf Kb (oX.later hb));have qu:=hd iD;have rP:Kq ((rv (l.drop (k+b))).length=a-(k+b)):=hd (by rw[zCg];simp;omega);have HB:=hd hb;have hlt:(rv (l.take k)).length<=1000:=by rw[zCg];simp;omega
      clear qs hp hq ha hb hM rQ tP hr rR ia iD oX;go_enter Tryz.func104,Tryz.ntmps104
      go_wp2_with fail
      refine eJ.o.mono ?_;rintro e w' ⟨rfl,rfl⟩;go_wp2_with fail
      refine j0.o.mono ?_;rintro e w' ⟨rfl,rfl⟩;go_wp2_with fail
      refine HS.o.mono ?_;intro e w1 h1;obtain⟨rfl,hb1⟩:=h1.still;clear h1;have rT:Below w.heap.size w w1.drew:=hb1.trans ((zNr w1).mono hb1.size);go_wp2_with fail
      go_region_law(first|((go_simp;go_at_call 39;refine(F1.o _ rT).mono ?_;intro e w2 h2;obtain⟨v2,rfl,az,hb2⟩:=h2.old rT))|((refine kOt zLg Kd w2 rfl (.tmp 46) (.tmp 52) rfl w.heap.size v2 (rv (l.take k)) (rv (l.drop (k+b))) (by first|rfl|simp[Act.eval]) az D2 (a-(k+b)) (c-(k+b)) w.heap.size (by first|rfl|simp[Act.eval]) rP.o (qu.o.below hb2) (zNz _) (by have:=rP.o;omega) hb2.size ?_;intro v3 w3 d7 hg3)))
      go_wp2
      go_ret2
      have hb3:=hg3.below w.heap.size w Kl hb2.size hb2;exact zI8 HE.o (by rw[HB.o,zQp];exact d7) hb3
    ·have HE:=hd (show zFe l k m=([],9) by
      rw[qs,if_neg];intro e;have:=congrArg List.length e;simp at this;omega)
     have g1:(a:Int)-(k:Int)<(b:Int):=Kb;have g2:a-k<b:=Kb;clear qs hp hq ha hb hfit;exact kOf
   ·have HE:=hd (show zFe l p m=([],8) by rw[hI,if_neg Kb]);clear hI hp hq ha hb;exact kOf
theorem kTt (A B C:Option Addr)(l old new:List Pr)(c d f:Nat)(w:World)(hF:zIo l)(hG:zIo old)(hH:zIo new)(hp:PL w w.heap.size A l)(hq:PL w w.heap.size B old)(hr:PL w w.heap.size C new)(E:Int)(hE:PE l old new=E)(L:List Pr)(hL:PLs l old new=L):
  Calls Tryz.prog 102 #[.slice A l.length c,.slice B old.length d,.slice C new.length f] w (zM0 w E L):=by
 subst hE hL;by_cases h3:chk3 l old new=0
 ·have h3':=h3;unfold chk3 kFk at h3';have e1:chk l=0:=by
   by_cases e:chk l=0
   ·exact e
   ·rw[if_neg e]at h3';exact absurd h3' e
  rw[if_pos e1]at h3';have e2:chk old=0:=by
   by_cases e:chk old=0
   ·exact e
   ·rw[if_neg e]at h3';exact absurd h3' e
  rw[if_pos e2]at h3';refine(kTs A B C l old new c d f w e1 e2 h3' hp hq hr).mono fun e w' h=>?_;have oY:PE l old new=zDp l old new:=by unfold PE;rw[if_pos h3]
  unfold zId at h;unfold zM0 PLs;rw[oY];by_cases h0:zDp l old new=0
  ·rw[if_pos h0]at h⊢;rw[h0];exact h
  ·rw[if_neg h0]at h⊢;exact⟨_,h.1,kAg.nil _ _,h.2⟩
 ·refine(kSu A B C l old new c d f w hF hG hH hp hq hr _ rfl (by simpa using h3)).mono fun e w' h=>?_;have oY:PE l old new=chk3 l old new:=by unfold PE;rw[if_neg h3]
  unfold zM0 PLs;rw[oY,if_neg h3];exact⟨_,h.1,kAg.nil _ _,h.2⟩
section
variable {w:World}{c m:NC}{o:OC}{n mt:NT}{a:OpP}
theorem kTu {r:List Pr×Int}(h:kS w m mt)(ho:OkA w o a)(hE:(PLs mt.ps a.o a.w,PE mt.ps a.o a.w)=r):Calls Tryz.prog 102 #[.slice m.P m.np m.pc,.slice o.O o.no o.co,.slice o.W o.nw o.cw] w (kJo w r):=by
 have hp:=h.parts;have h1:=hp.p;have e1:=hp.np;have e2:=ho.hno;have e3:=ho.hnw;rw[<-hE,<-e1,<-e2,<-e3];exact(kTt m.P o.O o.W mt.ps a.o a.w m.pc o.co o.cw w hp.f.1 ho.hwo ho.hww h1 ho.ho ho.hw _ rfl _ rfl).mono fun e w' h=>h.told
theorem kV1 (h:kS w m mt)(ho:OkA w o a)(ta:zAf a)(hs:sizeT mt<=900)(hE:zFx mt.tx a.z a.x=r):Calls Tryz.prog 103 #[.slice m.X m.nt m.tc,.int .i64 o.z,.slice o.S o.nx o.cx] w (kGo w r):=by
 have hp:=h.parts;have e1:=hp.nt;have e2:=ho.hnx;have e3:=ta.hx;have hl:mt.tx.length<=sizeT mt:=by obtain⟨lf,ps,tx,ks⟩:=mt;simp only[sizeT,NT.tx];omega
 rw[<-hE,ho.hz];exact(kRy m.X o.S mt.tx a.x m.nt o.nx m.tc o.cx o.z w e1 e2 Kb Kb (by have:=hp.f.2.2.2.2.2.1;omega) ho.hcx hp.x ho.hx).mono fun e w' h=>h.told
theorem kV2 (h:kS w m mt)(ho:OkA w o a)(ta:zAf a)(hs:sizeT mt<=900)(hE:zFe mt.tx a.z a.x=r):Calls Tryz.prog 104 #[.slice m.X m.nt m.tc,.int .i64 o.z,.slice o.S o.nx o.cx] w (kGo w r):=by
 have hp:=h.parts;have e1:=hp.nt;have e2:=ho.hnx;have e3:=ta.hx;have hl:mt.tx.length<=sizeT mt:=by obtain⟨lf,ps,tx,ks⟩:=mt;simp only[sizeT,NT.tx];omega
 rw[<-hE,ho.hz];exact(kRz m.X o.S mt.tx a.x m.nt o.nx m.tc o.cx o.z w e1 e2 Kb Kb (by have:=hp.f.2.2.2.2.2.1;omega) ho.hcx hp.x ho.hx).mono fun e w' h=>h.told
theorem kNy {E:Int}(ho:OkA w o a)(hE:chk a.w=E):Calls Tryz.prog 100 #[.slice o.W o.nw o.cw] w (jA (.int .i64 E) w):=by
 subst hE;rw[<-ho.hnw];exact kO9 o.W a.w o.cw w ho.hww ho.hw
theorem kP2 {E:Bool}(h:kS w m mt)(ho:OkA w o a)(hE:decide (mt.ps=a.o)=E):Calls Tryz.prog 50 #[.slice m.P m.np m.pc,.slice o.O o.no o.co] w (jA (.bool E) w):=by
 have hp:=h.parts;subst hE;rw[<-ho.hno,<-hp.np];have:=hp.f.2.1;have:=ho.hmo;have:=ho.hno;exact zWq m.P o.O mt.ps a.o m.pc o.co w Kb Kb hp.p ho.ho
end
theorem kQa {ty:TypeId}{a:Act}{w:World}{Q:Exit->Act->World->Prop}{c:OC}(h:jR w g c) 
  (x:Operand) (ho:op.op=.load ty x) (hw:Region.wanted op (yielded ops a.tmps)=true) (hx:a.eval x=.pointer (some ⟨g,j,none⟩)) (hv:c.row[j]? =some v) (hu:Tryz.prog.underlying ty=some d) (hd:d.isRow=false) (hk:wpList Tryz.prog ops Q rest (a.put op.dst v) w):wpList Tryz.prog ops Q (op::rest) a w:=by
 have hc:=h.cell j v hv;have hl:=zD3 hu hd hc;refine wpList_step fun K hK=>?_;rw[if_pos hw];unfold Oper.wp execOp;simp only[ho,hx,Instr.loadAt,Instr.sureAddr,Sem.run_bind,Sem.run_pure,Result.andThen_ok,hl];exact hK _ _ hk
theorem kO1 {ty t:TypeId}{a:Act}{w:World}{Q:Exit->Act->World->Prop}{r:Array Value}(h:jT t w g r) 
  (x:Operand) (ho:op.op=.load ty x) (hw:Region.wanted op (yielded ops a.tmps)=true) (hx:a.eval x=.pointer (some ⟨g,j,none⟩)) (hv:r[j]? =some v) (hu:Tryz.prog.underlying ty=some d) (hd:d.isRow=false) (hk:wpList Tryz.prog ops Q rest (a.put op.dst v) w):wpList Tryz.prog ops Q (op::rest) a w:=by
 have hc:=h.cell j v hv;have hl:=zD3 hu hd hc;refine wpList_step fun K hK=>?_;rw[if_pos hw];unfold Oper.wp execOp;simp only[ho,hx,Instr.loadAt,Instr.sureAddr,Sem.run_bind,Sem.run_pure,Result.andThen_ok,hl];exact hK _ _ hk
