import Derived.Test.YtmglnjmnabjjgaaGreatJGRead
set_option maxRecDepth 4000
set_option maxHeartbeats 8000000
namespace Go.Proofs.YtmglnjmnabjjgaaGreat
open Go.RowKit
variable {B b g k nk:Nat}{w w':World}{n:NT}{u0 u1 u2 u3 v:Value}{lf':Bool}{l ps':List Pr}{tx':List Int}{ks':List NT}{m y:Int}
theorem One.below {t:TypeId}{u:Value}(h:One t g u w)(hb:Below w.heap.size w w'):One t g u w':=(hb.block g (lt_of_block h)).trans h
theorem Eff.of_below (hb:Below w.heap.size w w')(hg:g<=w.heap.size):Eff g none none w w':=
 ⟨hb.mono hg,hb.size,fun _ hp _ _=>hb.cell hp,.inl rfl⟩
theorem kJ1 {o:Obj}(hb:Below (w.alloc o).heap.size (w.alloc o) w'):w.heap.size<w'.heap.size:=by
 have:=hb.size;simp at this;omega
def QC (g:Nat)(z:Int)(O:Option Nat)(w:World):Prop:=O=none/\One 43 g (.int .i64 z) w
theorem kQc {P:Prop}(h:P:=by
 go_wp2_with(first
  |(refine HC.o.mono ?_;rintro e w' ⟨rfl,hb⟩;have hbb:=HB.o.trans (hb.mono HB.o.size);have x0:=cell_of_one (HQ.o.below hbb);have x1:=free_of_one (HQ.o.below hbb))
  |fail)
 go_ret
 exact zL9 HS.o ⟨rfl,(HQ.o.below hbb).set _⟩ ((Eff.of_below hbb Kb).setCell _)):P:=h
theorem zQ0 (g:Nat)(z:Int)(d:Nat)(w:World)(v:Value)(n:NT)(O:Option Nat)(qW:QC g z O w)(hn:zV d w g v n):
  Calls Tryz.prog 95 #[v,.pointer (some ⟨g,0,none⟩)] w (Did g (QC g) O (zWv z n) w):=by
 obtain⟨rfl,hQ⟩:=qW;obtain⟨d',lf,ps,tx,ks,PA,pc,TA,tc,KA,kc,hd',rfl,rfl,hp,ht,hf,hks⟩:=hn.open_;have hlt:=lt_of_block hQ;have hb1:Below w.heap.size w (w.alloc (.cells #[.bool lf,.slice PA ps.length pc,.slice TA tx.length tc,.slice KA ks.length kc] 26)):=Kk.alloc Kl _;have HC:=hd (kHn lf ps tx PA TA KA pc tc ks.length kc _ hf ((hp.below (hb1.mono Kb)).more Kf) ((ht.below (hb1.mono Kb)).more Kf));have HQ:=hd hQ;have HB:=hd hb1;obtain⟨E,hE⟩:∃E,E=zPb lf ps tx ks.length:=⟨_,rfl⟩;rw[<-hE]at HC;have HS:=hd (show zWv z (.mk lf ps tx ks)=(E==0,E) by rw[hE];rfl);clear hks hp ht hf hn hQ hd' hE hb1;rcases Classical.em (E=0)with h0|h0
 ·subst h0;go_enter Tryz.func95,Tryz.ntmps95
  exact kQc
 ·have h1:(E==0)=false:=by simp[h0]
  have h2:(E !=0)=true:=by simp[h0]
  rw[h1]at HS;clear h0;go_enter Tryz.func95,Tryz.ntmps95
  exact kQc
theorem zY2 (g N:Nat):zY1 95 g N zWv (QC g) (fun _ _=>True) (fun _ _=>True):=
 ⟨enters_of Tryz.func95 Ka rfl,fun _ _ _ h j hj=>(by rw[h.1]at hj;cases hj),fun _ _ _ o _ h=>⟨h.1,h.2.alloc o⟩,fun _ _ _ _ _ _ _=>trivial,fun _ _ _ _=>⟨trivial,fun _=>trivial⟩,fun d w v n s O _ hQ _ hn=>zQ0 g s d w v n O hQ hn⟩
theorem zS2 (h:1048576<wrap64 (sizeT n)):zAd n=2:=by unfold zAd;rw[if_pos h]
theorem zV4 (h:¬1048576<wrap64 (sizeT n)):zAd n=zAh n:=by unfold zAd;rw[if_neg h]
theorem zV5 (d:Nat)(w:World)(v:Value)(n:NT)(hn:zV d w w.heap.size v n):Calls Tryz.prog 65 #[v] w (jA (.int .i64 (zAd n)) w):=by
 have hn0:=hn;obtain⟨d',lf,ps,tx,ks,PA,pc,TA,tc,KA,kc,hd',rfl,rfl,hp,ht,hf,hks⟩:=hn.open_;obtain⟨wb,hwb⟩:∃wb,wb=w.alloc (.cells #[.bool lf,.slice PA ps.length pc,.slice TA tx.length tc,.slice KA ks.length kc] 26):=⟨_,rfl⟩;have hb1:Below w.heap.size w wb:=hwb▸Kk.alloc Kl _;have HC:=hd (zUm d wb _ _ ((hn0.below hb1).more hb1.size));obtain⟨z,hz⟩:∃z,z=wrap64 (sizeT (.mk lf ps tx ks)):=⟨_,rfl⟩;have hzb:=zKe (sizeT (.mk lf ps tx ks));rw[<-hz]at HC hzb;obtain⟨hz1,hz2⟩:=hzb;have HB:=hd hb1;by_cases kg:1048576<z
 ·have HF:=hd (zS2 (n:=.mk lf ps tx ks) (by rw[<-hz];exact kg));subst hwb;clear hz hn hn0 hp ht hf hks hd' hb1;go_enter Tryz.func65,Tryz.ntmps65
  go_wp2_with(first|(refine HC.o.mono ?_;rintro e w' ⟨rfl,hb⟩))
  go_ret
  exact⟨zAj HF.o.symm,HB.o.trans (hb.mono HB.o.size)⟩
 ·have HF:=hd (zV4 (n:=.mk lf ps tx ks) (by rw[<-hz];exact kg));have HD:=fun(w':World)(hb:Below wb.heap.size wb w')(hQ:QC w'.heap.size 0 none (w'.alloc (.cells #[.int .i64 0] 43)))=>
   hd (zOz (d:=d) (v:=.agg #[.bool lf,.slice PA ps.length pc,.slice TA tx.length tc,.slice KA ks.length kc]) (n:=.mk lf ps tx ks) (Q:=fun _=>QC w'.heap.size) (fun N _=>zY2 w'.heap.size N) Kc trivial (fun _ _ _ hb=>⟨hQ.1,hQ.2.below hb⟩) (((hn0.below hb1).more hb1.size).below hb|>.more hb.size|>.below (Kk.alloc Kl _)))
  have e:=zOb (.mk lf ps tx ks) 0;rw[e]at HD;subst hwb;clear hz hn hn0 hp ht hf hks hd' hb1 e;go_enter Tryz.func65,Tryz.ntmps65
  go_wp2_with(first
   |(go_at_call 93;refine HC.o.mono ?_;rintro e w' ⟨rfl,hb⟩;obtain⟨x0,x1,x2,x3⟩:=kHm hb;have HE:=HD w' hb ⟨rfl,One.new _ _ _⟩;have hbs:=kJ1 hb;clear HD)
   |(go_at_call 94;refine HE.o.mono ?_;rintro e w'' ⟨rfl,O',⟨_,hq⟩,ha⟩;have y0:=cell_of_one hq))
  go_ret
  exact⟨zAj HF.o.symm,(HB.o.trans (hb.mono HB.o.size)).trans ((Kk.alloc (by have:=HB.o.size;omega) _).trans (ha.mono (by have:=HB.o.size;omega)))⟩
def zMa (N:Nat)(w:World):Type:={w':World//Below N w w'}
instance (N :Nat) (w:World):Nonempty (zMa N w):=⟨⟨w,Below.refl N w⟩⟩
theorem zAu (N:Nat){id:Nat}{Q:Exit->Act->World->Prop}{a:Act}{l:List Oper}(hm:Tryz.prog.follows .mixedOrders=true)(hB:Region.lexB .any l.toArray=true)
  (h:wpQuiet Tryz.prog l.toArray (fun w'=>∃u:zMa N w,w'=u.1) (fun a'=>∀w',(∃u:zMa N w,w'=u.1)->Q .normal a' w') l a):(Code.region id l.toArray true).wp Tryz.prog Q a w:=
 wp_region_quiet (C:=fun w'=>∃u:zMa N w,w'=u.1) hm hB ⟨⟨_,(Below.refl N w).drew⟩,rfl⟩ (by simpa using h)
theorem kQ {a:Addr}(h:w.cell? a=some v):a.block<w.heap.size:=by
 unfold World.cell? at h;cases hb:w.heap[a.block]? with
 |none=>rw[hb]at h;cases h
 |some o=>exact(Array.getElem?_eq_some_iff.1 hb).1
theorem kL {p:Addr}(h:w.cell? p=some v):∀u:zMa w.heap.size w,u.1.cell? p=some v:=fun u=>(u.2.cell (kQ h)).trans h
theorem zFm {f:FuncId}{args:Array Value}{N:Nat}{u:zMa N w}(hN:N<=w.heap.size)(h:Calls Tryz.prog f args u.1 (jA v u.1)):
  Calls Tryz.prog f args u.1 fun e w''=>e=.returned v/\∃u':zMa N w,w''=u'.1:=
 h.mono fun _ w''⟨he,hb⟩=>⟨he,⟨w'',u.2.trans (hb.mono (Nat.le_trans hN u.2.size))⟩,rfl⟩
def zO1 (lf:Bool)(ps:List Pr)(tx:List Int)(nk:Nat)(lf':Bool)(ps':List Pr)(tx':List Int)(nk':Nat):Bool:=decide (lf=lf'/\nk=nk'/\ps=ps'/\tx=tx')
theorem zGr {lf:Bool}{ps:List Pr}{tx:List Int}{nk':Nat}(h:¬(lf=lf'/\nk=nk'/\ps=ps'/\tx=tx')):zO1 lf ps tx nk lf' ps' tx' nk'=false:=decide_eq_false h
theorem zY3 {lf:Bool}{ps:List Pr}{tx:List Int}:zO1 lf ps tx nk lf ps tx nk=true:=decide_eq_true ⟨rfl,rfl,rfl,rfl⟩
theorem kFg {a b c d a' b' c' d':Value}{t t':TypeId}(hb:Below ((w.alloc (.cells #[a,b,c,d] t)).alloc (.cells #[a',b',c',d'] t')).heap.size ((w.alloc (.cells #[a,b,c,d] t)).alloc (.cells #[a',b',c',d'] t')) w'):
  (w'.cell? ⟨w.heap.size,0,none⟩=some a/\w'.cell? ⟨w.heap.size,1,none⟩=some b/\w'.cell? ⟨w.heap.size,2,none⟩=some c/\w'.cell? ⟨w.heap.size,3,none⟩=some d)/\
  (w'.cell? ⟨w.heap.size+1,0,none⟩=some a'/\w'.cell? ⟨w.heap.size+1,1,none⟩=some b'/\w'.cell? ⟨w.heap.size+1,2,none⟩=some c'/\w'.cell? ⟨w.heap.size+1,3,none⟩=some d')/\w.heap.size+1<w'.heap.size:=by
 refine⟨⟨?_,?_,?_,?_⟩,⟨?_,?_,?_,?_⟩,by have:=hb.size;simp at this;omega⟩;all_goals first
  |(rw[hb.cell Kf,World.cell?_alloc_lt _ _ _ Kc,World.cell?_alloc_at _ _ _ _ rfl];rfl)
  |(rw[hb.cell Kc,World.cell?_alloc_at _ _ _ _ Kc];rfl)
theorem zS3 (lf:Bool)(ps:List Pr)(tx:List Int)(lf':Bool)(ps':List Pr)(tx':List Int)(PA TA KA PA' TA' KA':Option Addr)(pc tc nk kc pc' tc' nk' kc':Nat)(w:World)(hf:zU0 ps tx.length nk pc tc kc)(hf':zU0 ps' tx'.length nk' pc' tc' kc')(hp:PL w w.heap.size PA ps)(ht:VL w w.heap.size TA (rv tx))(hp':PL w w.heap.size PA' ps')(ht':VL w w.heap.size TA' (rv tx')):
  Calls Tryz.prog 128 #[.agg #[.bool lf,.slice PA ps.length pc,.slice TA tx.length tc,.slice KA nk kc],.agg #[.bool lf',.slice PA' ps'.length pc',.slice TA' tx'.length tc',.slice KA' nk' kc']] w (jA (.bool (zO1 lf ps tx nk lf' ps' tx' nk')) w):=by
 have hb1:Below w.heap.size w ((w.alloc (.cells #[.bool lf,.slice PA ps.length pc,.slice TA tx.length tc,.slice KA nk kc] 26)).alloc (.cells #[.bool lf',.slice PA' ps'.length pc',.slice TA' tx'.length tc',.slice KA' nk' kc'] 26)):=(Kk.alloc Kl _).alloc Kc _;have HB:=hd hb1;rcases Classical.em (lf=lf')with h1|h1
 ·subst h1;rcases Classical.em (nk=nk')with h2|h2
  ·subst h2;have HC:=hd (zRf PA PA' ps ps' pc pc' _ (by have:=hf.2.1;omega) (by have:=hf'.2.1;omega) ((hp.below hb1).more hb1.size) ((hp'.below hb1).more hb1.size));rcases Classical.em (ps=ps')with h3|h3
   ·subst h3;rw[decide_eq_true rfl]at HC;have HD:=fun(w':World)(hb:Below w.heap.size w w')=>hd (zUw TA TA' tx tx' tx.length tx'.length tc tc' (zO1 lf ps tx nk lf ps tx' nk) (by unfold sameL zO1;simp) w' rfl rfl (by have:=hf.2.2.1;omega) (by have:=hf'.2.2.1;omega) ((ht.below hb).more hb.size) ((ht'.below hb).more hb.size));clear hf hf' hp ht hp' ht' hb1;cases lf<;>
    ·go_enter Tryz.func128,Tryz.ntmps128
     go_wp2_with(first
      |(go_at_call 103;refine HC.o.mono ?_;rintro e w' ⟨rfl,hb⟩;obtain⟨⟨x0,x1,x2,x3⟩,⟨y0,y1,y2,y3⟩,hlt⟩:=kFg hb)
      |(go_at_call 146;refine(HD _ (HB.o.trans (hb.mono HB.o.size))).o.mono ?_;rintro e w'' ⟨rfl,kd,rfl⟩))
     go_ret
     exact⟨rfl,zZ (HB.o.trans (hb.mono HB.o.size)) _⟩
   ·rw[decide_eq_false h3]at HC;have HF:=hd (zGr (lf:=lf) (ps:=ps) (tx:=tx) (nk:=nk) (lf':=lf) (ps':=ps') (tx':=tx') (nk':=nk) (fun h=>h3 h.2.2.1));clear hf hf' hp ht hp' ht' hb1 h3;cases lf<;>
    ·go_enter Tryz.func128,Tryz.ntmps128
     go_wp2_with(first
      |(go_at_call 103;refine HC.o.mono ?_;rintro e w' ⟨rfl,hb⟩;obtain⟨⟨x0,x1,x2,x3⟩,⟨y0,y1,y2,y3⟩,hlt⟩:=kFg hb))
     go_ret
     exact⟨kC HF.o.symm,HB.o.trans (hb.mono HB.o.size)⟩
  ·have HF:=hd (zGr (lf:=lf) (ps:=ps) (tx:=tx) (nk:=nk) (lf':=lf) (ps':=ps') (tx':=tx') (nk':=nk') (fun h=>h2 h.2.1));have z1:((nk:Int)==(nk':Int))=false:=by simp;omega
   have z2:((nk:Int) !=(nk':Int))=true:=by simp;omega
   clear hf hf' hp ht hp' ht' hb1 h2;cases lf<;>
   ·go_enter Tryz.func128,Tryz.ntmps128
    go_wp2
    go_ret
    exact⟨kC HF.o.symm,HB.o⟩
 ·have HF:=hd (zGr (lf:=lf) (ps:=ps) (tx:=tx) (nk:=nk) (lf':=lf') (ps':=ps') (tx':=tx') (nk':=nk') (fun h=>h1 h.1));clear hf hf' hp ht hp' ht' hb1;cases lf<;>cases lf'<;>first
  |exact absurd rfl h1
  | (go_enter Tryz.func128,Tryz.ntmps128
     go_wp2
     go_ret
     exact⟨kC HF.o.symm,HB.o⟩)
theorem zMb {lf:Bool}{ps:List Pr}{tx:List Int}{ks:List NT}(h:zO1 lf ps tx ks.length lf' ps' tx' ks'.length=false):eqT (.mk lf ps tx ks) (.mk lf' ps' tx' ks')=false:=by
 apply zUx;intro e;injection e with e1 e2 e3 e4;subst e1 e2 e3 e4;rw[zY3]at h;cases h
theorem zY4 {lf:Bool}{ps:List Pr}{tx:List Int}{ks:List NT}{m m':NT}(h:ks[k]? =some m)(h':ks'[k]? =some m')(hn:eqT m m'=false):eqT (.mk lf ps tx ks) (.mk lf' ps' tx' ks')=false:=by
 apply zUx;intro e;injection e with e1 e2 e3 e4;subst e4;rw[h]at h';injection h' with h';subst h';rw[zD8]at hn;cases hn
theorem zUn {a b:NT}(h:eqT a b=true):a=b:=by
 rcases Classical.em (a=b)with h1|h1
 ·exact h1
 ·rw[zUx h1]at h;cases h
theorem zY5 {lf:Bool}{ps:List Pr}{tx:List Int}{ks:List NT}(h:zO1 lf ps tx ks.length lf' ps' tx' ks'.length=true)(ha:∀j,j<ks.length->ks[j]? =ks'[j]?):eqT (.mk lf ps tx ks) (.mk lf' ps' tx' ks')=true:=by
 have h1:=of_decide_eq_true h;obtain⟨rfl,hl,rfl,rfl⟩:=h1;apply zPc;congr 1
 apply List.ext_getElem?;intro i;by_cases hi:i<ks.length
 ·exact ha i hi
 ·rw[List.getElem?_eq_none Kb,List.getElem?_eq_none Kb]
theorem kM {o o':Obj}(h:Below B w w')(hB:B<=w'.heap.size):Below B w ((w'.alloc o).alloc o'):=(h.alloc hB o).alloc Kf o'
theorem zY6 (g:Nat):∀(d d':Nat)(w:World)(v v':Value)(n n':NT),w.cell? ⟨g,0,none⟩=some (.func (.func 127) #[] #[.pointer (some ⟨g,0,none⟩)])->zV d w w.heap.size v n->zV d' w w.heap.size v' n'->
      Calls Tryz.prog 127 #[v,v',.pointer (some ⟨g,0,none⟩)] w (jA (.bool (eqT n n')) w):=by
 intro d;induction d with
 |zero=>intro d' w v v' n n' _ h;exact h.elim
 | succ d ih=>
  intro e w v v' n n' hg hn hn';obtain⟨d1,lf,ps,tx,ks,PA,pc,TA,tc,KA,kc,hd1,rfl,rfl,hp,ht,hf,hks⟩:=hn.open_;obtain⟨e1,lf',ps',tx',ks',PA',pc',TA',tc',KA',kc',hd2,rfl,rfl,hp',ht',hf',eY⟩:=hn'.open_;obtain rfl:d=d1:=Kb;obtain⟨wb,hwb⟩:∃wb,wb=(w.alloc (.cells #[.bool lf,.slice PA ps.length pc,.slice TA tx.length tc,.slice KA ks.length kc] 26)).alloc (.cells #[.bool lf',.slice PA' ps'.length pc',.slice TA' tx'.length tc',.slice KA' ks'.length kc'] 26):=⟨_,rfl⟩;have hb1:Below w.heap.size w wb:=hwb▸kM Kk Kl;have HC:=hd (zS3 lf ps tx lf' ps' tx' PA TA KA PA' TA' KA' pc tc ks.length kc pc' tc' ks'.length kc' wb hf hf' ((hp.below hb1).more hb1.size) ((ht.below hb1).more hb1.size) ((hp'.below hb1).more hb1.size) ((ht'.below hb1).more hb1.size));have HB:=hd hb1;have bJ:=hd hks;have cS:=hd eY;have HG:=hd hg;have hgl:=kQ hg;have cj:=hf.2.2.2.1;have iV:=hf'.2.2.2.1;subst hwb;clear hn hn' hp ht hf hks hp' ht' hf' eY hb1 hd1 hd2 hg;obtain⟨S,hS⟩:∃S,S=zO1 lf ps tx ks.length lf' ps' tx' ks'.length:=⟨_,rfl⟩;rw[<-hS]at HC;cases S
  ·have HF:=hd (zMb (ks:=ks) (ks':=ks') hS.symm);clear hS ih bJ cS HG;go_enter Tryz.func127,Tryz.ntmps127
   go_wp2_with(first|(refine HC.o.mono ?_;rintro e w' ⟨rfl,hb⟩;obtain⟨⟨x0,x1,x2,x3⟩,⟨y0,y1,y2,y3⟩,hlt⟩:=kFg hb))
   go_ret
   exact⟨kC HF.o.symm,HB.o.trans (hb.mono HB.o.size)⟩
  ·have HS:=hd hS.symm;have fE:ks.length=ks'.length:=(of_decide_eq_true hS.symm).2.1;have rH:=hd fE;clear hS fE;go_enter Tryz.func127,Tryz.ntmps127
   go_wp2_with(first|(refine HC.o.mono ?_;rintro e w' ⟨rfl,hb⟩;obtain⟨⟨x0,x1,x2,x3⟩,⟨y0,y1,y2,y3⟩,hlt⟩:=kFg hb))
   obtain⟨N,hN⟩:∃N,N=w'.heap.size:=⟨_,rfl⟩;have HW:=hd (HB.o.trans (hb.mono HB.o.size));have X3:=hd x3;have Y3:=hd y3;have wV:=hd hgl;clear x0 x1 x2 x3 y0 y1 y2 y3 hb HC HB hgl;go_loopw [14] (fun i wr=>∃k:Nat,k<=ks.length/\i=.int .i64 k/\Kq (Below w'.heap.size w' wr)/\Kq (∀j,j<k->ks[j]? =ks'[j]?)) (fun i _=>ks.length-(intOf i).toNat)
   case atStart=>exact⟨0,Nat.zero_le _,rfl,Below.refl _ _,fun j hj=>absurd hj (Nat.not_lt_zero _)⟩
   case round=>
    obtain⟨k,hk,rfl,HR,HA⟩:=hrel;by_cases bY:k<ks.length
    ·have iW:k<ks'.length:=by have:=rH.o;omega
     have hbr:=HW.o.trans (HR.o.mono HW.o.size);obtain⟨m,b,o,lf1,cY,dC,cZ,dh,dD,di,dt,dE,kc1,hm,rfl,hbg,cO,c0,c1,c2,c3⟩:=(bJ.o.below hbr).at_ bY;obtain⟨m',b',o',lf2,eJ,eK,eN,eP,eQ,eT,eU,eV,kc2,hm',rfl,rI,gM,c0',c1',oq,ou⟩:=(cS.o.below hbr).at_ iW;have gg:=kL ((hbr.cell (p:=⟨g,0,none⟩) wV.o).trans HG.o);have l0:=kL c0;have l1:=kL c1;have l2:=kL c2;have l3:=kL c3;have ov:=kL c0';have ow:=kL c1';have oz:=kL oq;have o5:=kL ou;have lx:=kL ((HR.o.cell (p:=⟨w.heap.size,3,none⟩) (by show w.heap.size<_;omega)).trans X3.o);have ly:=kL ((HR.o.cell (p:=⟨w.heap.size+1,3,none⟩) (by show w.heap.size+1<_;omega)).trans Y3.o);have HC:=fun(u:zMa wr.heap.size wr)=>hd (ih e1 u.1 _ _ m m' (gg u) (((cO.below (u.2.mono hbr.size))).more (Nat.le_trans hbr.size u.2.size)) (((gM.below (u.2.mono hbr.size))).more (Nat.le_trans hbr.size u.2.size)));obtain⟨E,hE⟩:∃E,E=eqT m m':=⟨_,rfl⟩;rw[<-hE]at HC;have HE:=hd hE.symm;have HM:=hd hm;have o6:=hd hm';have cu:=hd hbr;clear hE hm hm' cO gM c0 c1 c2 c3 c0' c1' oq ou hbr bJ cS ih;cases E
     ·have HF:=hd (zY4 (lf:=lf) (ps:=ps) (tx:=tx) (lf':=lf') (ps':=ps') (tx':=tx') HM.o o6.o HE.o);clear HA;go_wp2_with fail
      refine zAu wr.heap.size Ka Ka ?_;repeat(go_big_quiet_step(exact zFm Kl (HC _).o))
      refine wpQuiet_nil ?_;intro _ hu;obtain⟨⟨w2,hw2⟩,rfl⟩:=hu;clear l0 l1 l2 l3 ov ow oz o5 lx ly gg HC;go_wp2
      go_ret
      exact⟨kC HF.o.symm,cu.o.trans (hw2.mono cu.o.size)⟩
     ·have aX:=zBm (p:=fun j=>ks[j]? =ks'[j]?) HA (by rw[HM.o,o6.o,zUn HE.o]);clear HA;go_wp2_with fail
      refine zAu wr.heap.size Ka Ka ?_;repeat(go_big_quiet_step(exact zFm Kl (HC _).o))
      refine wpQuiet_nil ?_;intro _ hu;obtain⟨⟨w2,hw2⟩,rfl⟩:=hu;clear l0 l1 l2 l3 ov ow oz o5 lx ly gg HC;go_wp2
      go_roundw
      case rel=>exact⟨k+1,by omega,by go_num,hd (HR.o.trans (hw2.mono HR.o.size)),aX⟩
      case measure=>simp[intOf];omega
    ·have HF:=hd (zY5 HS.o (fun j hj=>HA.o j Kb));clear HA;go_wp2
     go_ret
     exact⟨kC HF.o.symm,HW.o.trans (HR.o.mono HW.o.size)⟩
theorem zQ1 (d d':Nat)(w:World)(v v':Value)(n n':NT)(hn:zV d w w.heap.size v n)(hn':zV d' w w.heap.size v' n'):Calls Tryz.prog 101 #[v,v'] w (jA (.bool (eqT n n')) w):=by
 have hn0:=hn;have o7:=hn';obtain⟨d1,lf,ps,tx,ks,PA,pc,TA,tc,KA,kc,hd1,rfl,rfl,hp,ht,hf,hks⟩:=hn.open_;obtain⟨e1,lf',ps',tx',ks',PA',pc',TA',tc',KA',kc',hd2,rfl,rfl,hp',ht',hf',eY⟩:=hn'.open_;obtain⟨f0,j0⟩:∃f:Value,f=.func (.func 127) #[] #[.pointer (some ⟨w.heap.size+2,0,none⟩)]:=⟨_,rfl⟩;obtain⟨wa,ey⟩:∃wa,wa=((w.alloc (.cells #[.bool lf,.slice PA ps.length pc,.slice TA tx.length tc,.slice KA ks.length kc] 26)).alloc (.cells #[.bool lf',.slice PA' ps'.length pc',.slice TA' tx'.length tc',.slice KA' ks'.length kc'] 26)).alloc (.cells #[f0] 47):=⟨_,rfl⟩;have bK:Below w.heap.size w wa:=ey▸(kM Kk Kl).alloc Kf _;have ng:wa.cell? ⟨w.heap.size+2,0,none⟩=some f0:=by rw[ey,World.cell?_alloc_at _ _ _ _ Kc];rfl
 have HC:=hd (zY6 (w.heap.size+2) d d' wa _ _ _ _ (j0▸ng) (hn0.later bK) (o7.later bK));have HB:=hd bK;subst ey j0;clear hn hn' hn0 o7 hp ht hf hks hp' ht' hf' eY bK hd1 hd2 ng;go_enter Tryz.func101,Tryz.ntmps101
 go_wp2_with(first|(refine HC.o.mono ?_;rintro e w' ⟨rfl,hb⟩))
 go_ret
 exact⟨rfl,HB.o.trans (hb.mono HB.o.size)⟩
theorem kPh {P:Prop}(h:P:=by
 go_wp2_with(first
  |(go_at_call 34;refine HC.o.mono ?_;rintro e w' ⟨rfl,hb⟩;obtain⟨⟨x0,x1,x2,x3⟩,⟨y0,y1,y2,y3⟩,hlt⟩:=kFg hb)
  |(go_at_call 35;refine(HD _ (HB.o.trans (hb.mono HB.o.size))).o.mono ?_;rintro e w'' ⟨rfl,kd,rfl⟩)
  |fail)
 go_ret
 first
  |exact⟨kC HF.o.symm,zZ (HB.o.trans (hb.mono HB.o.size)) _⟩
  |exact⟨kC HF.o.symm,HB.o.trans (hb.mono HB.o.size)⟩
  |fail):P:=h
theorem zWd :∀(d d':Nat)(w:World)(v v':Value)(n n':NT),zV d w w.heap.size v n->zV d' w w.heap.size v' n'->
      Calls Tryz.prog 12 #[v,v'] w (jA (.bool (eqT n n')) w):=by
 intro d;induction d with
 |zero=>intro d' w v v' n n' h;exact h.elim
 | succ d ih=>
  intro e w v v' n n' hn hn';obtain⟨d1,lf,ps,tx,ks,PA,pc,TA,tc,KA,kc,hd1,rfl,rfl,hp,ht,hf,hks⟩:=hn.open_;obtain⟨e1,lf',ps',tx',ks',PA',pc',TA',tc',KA',kc',hd2,rfl,rfl,hp',ht',hf',eY⟩:=hn'.open_;obtain rfl:d=d1:=Kb;obtain⟨wb,hwb⟩:∃wb,wb=(w.alloc (.cells #[.bool lf,.slice PA ps.length pc,.slice TA tx.length tc,.slice KA ks.length kc] 26)).alloc (.cells #[.bool lf',.slice PA' ps'.length pc',.slice TA' tx'.length tc',.slice KA' ks'.length kc'] 26):=⟨_,rfl⟩;have hb1:Below w.heap.size w wb:=hwb▸kM Kk Kl;have HC:=hd (zWq PA PA' ps ps' pc pc' wb (by have:=hf.2.1;omega) (by have:=hf'.2.1;omega) ((hp.below hb1).more hb1.size) ((hp'.below hb1).more hb1.size));have HD:=fun(r:Bool)(hr:sameL tx tx'=r)(w':World)(hb:Below w.heap.size w w')=>hd (zZy TA TA' tx tx' tx.length tx'.length tc tc' r hr w' rfl rfl (by have:=hf.2.2.1;omega) (by have:=hf'.2.2.1;omega) ((ht.below hb).more hb.size) ((ht'.below hb).more hb.size));have HB:=hd hb1;have bJ:=hd hks;have cS:=hd eY;have cj:=hf.2.2.2.1;have iV:=hf'.2.2.2.1;subst hwb;clear hn hn' hp ht hf hks hp' ht' hf' eY hb1 hd1 hd2;rcases Classical.em (lf=lf')with h1|h1
  ·subst h1;rcases Classical.em (ps=ps')with h2|h2
   ·subst h2;rw[decide_eq_true rfl]at HC;rcases Classical.em (tx=tx')with h3|h3
    ·subst h3;have HD:=HD true (zWs _);rcases Classical.em (ks.length=ks'.length)with h4|h4
     ·have rH:=hd h4;have z1:((ks.length:Int)==(ks'.length:Int))=true:=by simp;omega
      have z2:((ks.length:Int) !=(ks'.length:Int))=false:=by simp;omega
      have HS:=hd (show zO1 lf ps tx ks.length lf ps tx ks'.length=true from decide_eq_true ⟨rfl,h4,rfl,rfl⟩);clear h4;cases lf<;>
      ·go_enter Tryz.func12,Tryz.ntmps12
       go_wp2_with(first
        |(go_at_call 34;refine HC.o.mono ?_;rintro e w' ⟨rfl,hb⟩;obtain⟨⟨x0,x1,x2,x3⟩,⟨y0,y1,y2,y3⟩,hlt⟩:=kFg hb)
        |(go_at_call 35;refine(HD _ (HB.o.trans (hb.mono HB.o.size))).o.mono ?_;rintro e w'' ⟨rfl,kd,rfl⟩))
       have HW:=hd (HB.o.trans (hb.mono HB.o.size));have X3:=hd x3;have Y3:=hd y3;clear x0 x1 x2 x3 y0 y1 y2 y3 hb HC HB HD z1 z2;go_loopw [39] (fun i wr=>∃k:Nat,k<=ks.length/\i=.int .i64 k/\Kq (Below w'.heap.size w' wr)/\Kq (∀j,j<k->ks[j]? =ks'[j]?)) (fun i _=>ks.length-(intOf i).toNat)
       case atStart=>exact⟨0,Nat.zero_le _,rfl,zZ Kk _,fun j hj=>absurd hj (Nat.not_lt_zero _)⟩
       case round=>
        obtain⟨k,hk,rfl,HR,HA⟩:=hrel;by_cases bY:k<ks.length
        ·have iW:k<ks'.length:=by have:=rH.o;omega
         have hbr:=HW.o.trans (HR.o.mono HW.o.size);obtain⟨m,b,o,lf1,cY,dC,cZ,dh,dD,di,dt,dE,kc1,hm,rfl,hbg,cO,c0,c1,c2,c3⟩:=(bJ.o.below hbr).at_ bY;obtain⟨m',b',o',lf2,eJ,eK,eN,eP,eQ,eT,eU,eV,kc2,hm',rfl,rI,gM,c0',c1',oq,ou⟩:=(cS.o.below hbr).at_ iW;have l0:=kL c0;have l1:=kL c1;have l2:=kL c2;have l3:=kL c3;have ov:=kL c0';have ow:=kL c1';have oz:=kL oq;have o5:=kL ou;have lx:=kL ((HR.o.cell (p:=⟨w.heap.size,3,none⟩) (by show w.heap.size<_;omega)).trans X3.o);have ly:=kL ((HR.o.cell (p:=⟨w.heap.size+1,3,none⟩) (by show w.heap.size+1<_;omega)).trans Y3.o);have HC:=fun(u:zMa wr.heap.size wr)=>hd (ih e1 u.1 _ _ m m' (((cO.below (u.2.mono hbr.size))).more (Nat.le_trans hbr.size u.2.size)) (((gM.below (u.2.mono hbr.size))).more (Nat.le_trans hbr.size u.2.size)));obtain⟨E,hE⟩:∃E,E=eqT m m':=⟨_,rfl⟩;rw[<-hE]at HC;have HE:=hd hE.symm;have HM:=hd hm;have o6:=hd hm';have cu:=hd hbr;clear hE hm hm' cO gM c0 c1 c2 c3 c0' c1' oq ou hbr bJ cS ih;cases E
         ·have HF:=fun(a b:Bool)=>hd (zY4 (lf:=a) (lf':=b) (ps:=ps) (tx:=tx) (ps':=ps) (tx':=tx) HM.o o6.o HE.o);clear HA;go_wp2_with fail
          refine zAu wr.heap.size Ka Ka ?_;repeat(go_big_quiet_step(exact zFm Kl (HC _).o))
          refine wpQuiet_nil ?_;intro _ hu;obtain⟨⟨w2,hw2⟩,rfl⟩:=hu;clear l0 l1 l2 l3 ov ow oz o5 lx ly HC;go_wp2
          go_ret
          exact⟨kC (HF _ _).o.symm,cu.o.trans (hw2.mono cu.o.size)⟩
         ·have aX:=zBm (p:=fun j=>ks[j]? =ks'[j]?) HA (by rw[HM.o,o6.o,zUn HE.o]);clear HA;go_wp2_with fail
          refine zAu wr.heap.size Ka Ka ?_;repeat(go_big_quiet_step(exact zFm Kl (HC _).o))
          refine wpQuiet_nil ?_;intro _ hu;obtain⟨⟨w2,hw2⟩,rfl⟩:=hu;clear l0 l1 l2 l3 ov ow oz o5 lx ly HC;go_wp2
          go_roundw
          case rel=>exact⟨k+1,by omega,by go_num,hd (HR.o.trans (hw2.mono HR.o.size)),aX⟩
          case measure=>simp[intOf];omega
        ·have HF:=hd (zY5 HS.o (fun j hj=>HA.o j Kb));clear HA;go_wp2
         go_ret
         exact⟨kC HF.o.symm,HW.o.trans (HR.o.mono HW.o.size)⟩
     ·have HF:=hd (zMb (ks:=ks) (ks':=ks') (zGr (lf:=lf) (ps:=ps) (tx:=tx) (lf':=lf) (ps':=ps) (tx':=tx) (fun h=>h4 h.2.1)));have z1:((ks.length:Int)==(ks'.length:Int))=false:=by simp;omega
      have z2:((ks.length:Int) !=(ks'.length:Int))=true:=by simp;omega
      clear h4 ih bJ cS;cases lf<;>
      ·go_enter Tryz.func12,Tryz.ntmps12
       exact kPh
    ·have HD:=HD false (by unfold sameL;exact decide_eq_false h3);have HF:=hd (zMb (ks:=ks) (ks':=ks') (zGr (lf:=lf) (ps:=ps) (tx:=tx) (lf':=lf) (ps':=ps) (tx':=tx') (fun h=>h3 h.2.2.2)));clear h3 ih bJ cS;cases lf<;>
     ·go_enter Tryz.func12,Tryz.ntmps12
      exact kPh
   ·rw[decide_eq_false h2]at HC;have HF:=hd (zMb (ks:=ks) (ks':=ks') (zGr (lf:=lf) (ps:=ps) (tx:=tx) (lf':=lf) (ps':=ps') (tx':=tx') (fun h=>h2 h.2.2.1)));clear h2 ih bJ cS HD;cases lf<;>
    ·go_enter Tryz.func12,Tryz.ntmps12
     exact kPh
  ·have HF:=hd (zMb (ks:=ks) (ks':=ks') (zGr (lf:=lf) (ps:=ps) (tx:=tx) (lf':=lf') (ps':=ps') (tx':=tx') (fun h=>h1 h.1)));clear ih bJ cS HD HC;cases lf<;>cases lf'<;>first
   |exact absurd rfl h1
   | (go_enter Tryz.func12,Tryz.ntmps12
      go_wp2
      go_ret
      exact⟨kC HF.o.symm,HB.o⟩)
def kJ8 (p:Pr):Int:=(p.1.size:Int)/64+(p.2.size:Int)/64
def zG6 (m:Int)(l:List Pr):Int:=l.foldl (fun m p=>wrap64 (m-kJ8 p)) m
mutual
def zF8 :Int->NT->Int
 |m,.mk _ ps tx ks=>if zG6 (wrap64 (m-(1+tx.length+ps.length))) ps<0 then-1 else leftK (zG6 (wrap64 (m-(1+tx.length+ps.length))) ps) ks
def leftK :Int->List NT->Int
 |m,[]=>m
 |m,k::r=>if zF8 m k<0 then-1 else leftK (zF8 m k) r
end
theorem zS8 {p:Pr}(m:Int)(h:l[k]? =some p):zG6 m (l.take (k+1))=wrap64 (zG6 m (l.take k)-kJ8 p):=by
 unfold zG6;rw[zPd h,List.foldl_append];rfl
theorem kCw (h:k<l.length):l[k]? =some (jU l k):=by
 rw[zB7 l k h];exact List.getElem?_eq_getElem h
def zFf (a:Int):Prop:= -9223372036854775808<=a/\a<=9223372036854775807
theorem zZb (l:List Pr):∀m,zFf m->zFf (zG6 m l):=by
 induction l with
 |nil=>intro m h;exact h
 |cons p r ih=>intro m _;exact ih _ (zKe _)
mutual
theorem zUp :∀(n:NT)(m:Int),zFf (zF8 m n)
 |.mk _ ps tx ks,m=>by
  rw[zF8];split
  ·unfold zFf;omega
  ·exact zUq ks _ (zZb ps _ (zKe _))
theorem zUq :∀(l:List NT)(m:Int),zFf m->zFf (leftK m l)
 |[],m,h=>by rw[leftK];exact h
 |k::r,m,h=>by
  rw[leftK];split
  ·unfold zFf;omega
  ·exact zUq r _ (zUp k m)
end
theorem zWe {ks:List NT}(h:ks[k]? =some n)(hy:zF8 m n=y)(h0:¬y<0):leftK m (ks.drop k)=leftK y (ks.drop (k+1)):=by
 subst hy;rw[zCo h,leftK,if_neg h0]
theorem zWf {ks:List NT}(h:ks[k]? =some n)(hy:zF8 m n=y)(h0:y<0):leftK m (ks.drop k)= -1:=by
 subst hy;rw[zCo h,leftK,if_pos h0]
theorem zZc {ks:List NT}(h:ks.length<=k):leftK m (ks.drop k)=m:=by
 rw[List.drop_eq_nil_of_le h];rfl
theorem kCx :∀(d:Nat)(w:World)(v:Value)(n:NT)(m:Int),zFf m->zV d w w.heap.size v n->
      Calls Tryz.prog 25 #[v,.int .i64 m] w (jA (.int .i64 (zF8 m n)) w):=by
 intro d;induction d with
 |zero=>intro w v n m _ h;exact h.elim
 | succ d ih=>
  intro w v n m hm hn;obtain⟨d1,lf,ps,tx,ks,PA,pc,TA,tc,KA,kc,hd1,rfl,rfl,hp,ht,hf,hks⟩:=hn.open_;obtain rfl:d=d1:=Kb;have hb1:Below w.heap.size w (w.alloc (.cells #[.bool lf,.slice PA ps.length pc,.slice TA tx.length tc,.slice KA ks.length kc] 26)):=Kk.alloc Kl _;have HP:=hd hp;have bJ:=hd hks;have HW:=hd hf.1;have aY:=hf.2.1;have hl2:=hf.2.2.1;have cj:=hf.2.2.2.1;obtain⟨m1,m2⟩:=hm;obtain⟨M,hM⟩:∃M,M=wrap64 (m-(1+tx.length+ps.length)):=⟨_,rfl⟩;have HB:=hd hb1;have rJ:=hd (show zF8 m (.mk lf ps tx ks)=if zG6 M ps<0 then-1 else leftK (zG6 M ps) ks by rw[zF8,hM]);have ut:=zKe (m-(1+tx.length+ps.length));rw[<-hM]at ut;obtain⟨M1,M2⟩:=ut;have HM:=hd hM;clear hn hp ht hf hks hd1 hM hb1;go_enter Tryz.func25,Tryz.ntmps25
  go_wp2
  go_loopw [1,22] (fun z i wr=>∃(k:Nat)(y:Int),k<=ps.length/\z=.int .i64 y/\i=.int .i64 k/\Kq (zFf y)/\Kq (Below (w.alloc (.cells #[.bool lf,.slice PA ps.length pc,.slice TA tx.length tc,.slice KA ks.length kc] 26)).heap.size (w.alloc (.cells #[.bool lf,.slice PA ps.length pc,.slice TA tx.length tc,.slice KA ks.length kc] 26)) wr)/\Kq (y=zG6 M (ps.take k))) (fun _ i _=>ps.length-(intOf i).toNat)
  case atStart=>exact⟨0,M,Nat.zero_le _,by rw[HM.o],rfl,⟨M1,M2⟩,Below.refl _ _,rfl⟩
  case round=>
   obtain⟨k,y,hk,rfl,rfl,HI,HR,HY⟩:=hrel;obtain⟨I1,I2⟩:=HI.o;have hbr:=HB.o.trans (HR.o.mono HB.o.size);have hsz:=hbr.size;by_cases hlt:k<ps.length
   ·obtain⟨b,o,rfl,hlb,c1,c2⟩:=(HP.o.below hbr).at_ hlt;obtain⟨s1,s2⟩:=HW.o.at_ hlt;have ni:=hd (zS8 M (kCw hlt));rw[<-HY.o]at ni;have cu:=hd hbr;clear hbr;go_wp2
    go_roundw
    case rel=>exact⟨k+1,_,by omega,rfl,by go_num,hd (zKe _),hd (HR.o.alloc HR.o.size _),hd (by rw[ni.o];rfl)⟩
    case measure=>simp[intOf];omega
   ·have HE:=hd (show y=zG6 M ps by rw[HY.o,List.take_of_length_le Kb]);obtain⟨x0,x1,x2,x3⟩:=kHm HR.o;clear HY HP HW;by_cases hneg:y<0
    ·have HF:=hd (show zF8 m (.mk lf ps tx ks)= -1 by rw[rJ.o,<-HE.o,if_pos hneg]);go_wp2
     go_ret
     exact⟨zAj HF.o.symm,hbr⟩
    ·have HF:=hd (show zF8 m (.mk lf ps tx ks)=leftK y (ks.drop 0) by rw[rJ.o,<-HE.o,if_neg hneg];rfl);have cu:=hd hbr;clear hbr;go_wp2
     obtain⟨wo,hwo⟩:∃wo:World,wo=wr:=⟨_,rfl⟩;subst hwo;obtain⟨yo,wW⟩:∃yo:Int,yo=y:=⟨_,rfl⟩;subst wW;clear x0 x1 x2 x3 HI HE rJ HR;go_loopw [1,43] (fun z i wr=>∃(k:Nat)(y:Int),k<=ks.length/\z=.int .i64 y/\i=.int .i64 k/\Kq (zFf y)/\Kq (Below w.heap.size w wr)/\Kq (zF8 m (.mk lf ps tx ks)=leftK y (ks.drop k))) (fun _ i _=>ks.length-(intOf i).toNat)
     case atStart=>exact⟨0,yo,Nat.zero_le _,rfl,rfl,⟨I1,I2⟩,cu,HF⟩
     case round=>
      clear HF I1 I2 hneg hlt cu hsz;obtain⟨k,y,hk,rfl,rfl,HI,HR,HY⟩:=hrel;obtain⟨I1,I2⟩:=HI.o;have hsz:=HR.o.size;by_cases hlt:k<ks.length
      ·obtain⟨n1,b,o,lf1,cY,dC,cZ,dh,dD,di,dt,dE,kc1,ij,rfl,hbg,cO,c0,c1,c2,c3⟩:=(bJ.o.below HR.o).at_ hlt;obtain⟨wk,hwk⟩:∃wk,wk=wr.alloc (.cells #[.bool lf1,.slice cY dC cZ,.slice dh dD di,.slice dt dE kc1] 26):=⟨_,rfl⟩;have hbk:Below w.heap.size w wk:=hwk▸HR.o.alloc Kb _;have hbk2:Below wr.heap.size wr wk:=hwk▸Kk.alloc Kl _;have HC:=hd (ih wk _ n1 y ⟨I1,I2⟩ (((cO.more hsz).below hbk2).more hbk2.size));have HK:=hd hbk;obtain⟨x,hx⟩:∃x,zF8 y n1=x:=⟨_,rfl⟩;have pQ:=zUp n1 y;rw[hx]at HC pQ;have wX:=hd pQ;by_cases hx0:x<0
       ·have HG:=hd (HY.o.trans (zWf ij hx hx0));subst hwk;clear ij cO hbk hbk2 hx bJ HY pQ;go_wp2_with(first|(refine HC.o.mono ?_;rintro e w' ⟨rfl,hb'⟩))
        go_ret
        exact⟨zAj HG.o.symm,HK.o.trans (hb'.mono HK.o.size)⟩
       ·have HG:=hd (HY.o.trans (zWe ij hx hx0));subst hwk;clear ij cO hbk hbk2 hx bJ HY pQ;go_wp2_with(first|(refine HC.o.mono ?_;rintro e w' ⟨rfl,hb'⟩))
        go_roundw
        case rel=>exact⟨k+1,x,by omega,rfl,by go_num,wX,hd (HK.o.trans (hb'.mono HK.o.size)),HG⟩
        case measure=>simp[intOf];omega
      ·have HG:=hd (HY.o.trans (zZc Kb));clear HY;go_wp2
       go_ret
       exact⟨zAj HG.o.symm,HR.o⟩
def zI5 (m:Int)(n:NT):Bool:=decide (0<=zF8 m n)
theorem zO3 (d:Nat)(w:World)(v:Value)(n:NT)(m:Int)(hm:zFf m)(hn:zV d w w.heap.size v n):Calls Tryz.prog 7 #[v,.int .i64 m] w (jA (.bool (zI5 m n)) w):=by
 have hn0:=hn;obtain⟨d',lf,ps,tx,ks,PA,pc,TA,tc,KA,kc,hd',rfl,rfl,hp,ht,hf,hks⟩:=hn.open_;have hb1:Below w.heap.size w (w.alloc (.cells #[.bool lf,.slice PA ps.length pc,.slice TA tx.length tc,.slice KA ks.length kc] 26)):=Kk.alloc Kl _;have HC:=hd (kCx d _ _ _ m hm (hn0.later hb1));obtain⟨y,hy⟩:∃y,y=zF8 m (.mk lf ps tx ks):=⟨_,rfl⟩;rw[<-hy]at HC;have HF:=hd (show zI5 m (.mk lf ps tx ks)=decide (0<=y) by rw[hy];rfl);have HB:=hd hb1;clear hn hn0 hp ht hf hks hd' hb1 hm hy;go_enter Tryz.func7,Tryz.ntmps7
 go_wp2_with(first|(refine HC.o.mono ?_;rintro e w' ⟨rfl,hb⟩))
 go_ret
 exact⟨kC HF.o.symm,HB.o.trans (hb.mono HB.o.size)⟩
theorem zEu {o:Obj}(h:Below (w.alloc o).heap.size (w.alloc o) w'):Below w.heap.size w w':=(Kk.alloc Kl _).trans (h.mono Kc)
def Box (w:World)(b:Nat)(u0 u1 u2 u3:Value):Prop:=w.cell? ⟨b,0,none⟩=some u0/\w.cell? ⟨b,1,none⟩=some u1/\w.cell? ⟨b,2,none⟩=some u2/\w.cell? ⟨b,3,none⟩=some u3
theorem Box.keep (h:Box w b u0 u1 u2 u3)(hb:Below w.heap.size w w'):Box w' b u0 u1 u2 u3:=
 ⟨(hb.cell (kQ h.1)).trans h.1,(hb.cell (kQ h.2.1)).trans h.2.1,(hb.cell (kQ h.2.2.1)).trans h.2.2.1,(hb.cell (kQ h.2.2.2)).trans h.2.2.2⟩
theorem Box.new (w:World)(u0 u1 u2 u3:Value)(t:TypeId):Box (w.alloc (.cells #[u0,u1,u2,u3] t)) w.heap.size u0 u1 u2 u3:=by
 refine⟨?_,?_,?_,?_⟩<;>(rw[World.cell?_alloc_at _ _ _ _ rfl];rfl)
theorem Box.alloc (h:Box w b u0 u1 u2 u3)(o:Obj):Box (w.alloc o) b u0 u1 u2 u3:=h.keep (Kk.alloc Kl o)
theorem zV.val {d:Nat}(h:zV d w B v n):∃lf PA np pc TA nt tc KA nk kc,v=.agg #[.bool lf,.slice PA np pc,.slice TA nt tc,.slice KA nk kc]:=by
 obtain⟨d',lf,ps,tx,ks,PA,pc,TA,tc,KA,kc,_,_,e,_⟩:=h.open_;exact⟨_,_,_,_,_,_,_,_,_,_,e⟩
