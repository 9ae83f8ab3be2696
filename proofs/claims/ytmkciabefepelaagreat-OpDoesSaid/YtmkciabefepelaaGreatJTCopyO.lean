import Derived.Test.YtmkciabefepelaaGreatJNTopO
set_option maxRecDepth 100000
set_option maxHeartbeats 8000000
namespace Go.Proofs.YtmkciabefepelaaGreat
open Go.RowKit
open Go.WideShapes (add_plain)
variable {w w3 wb wr:World}{b cp d gO n pc tc:Nat}{TA gp gt:Option Addr}{v:Value}{us xs:List Value}{P:Nat->Prop}
def kYx (t:TypeId)(size n:Nat)(xs:List Value)(w:World)(e:Ending)(w':World):Prop:=
 ∃A c,e=.returned (.slice A n c)/\VP (fun b=>w.heap.size<=b/\b<w'.heap.size) w' A xs/\Below w.heap.size w w'/\n<=c/\w'.ownsRow w.heap.size t size (.slice A n c) n xs
theorem kR1 (A:Option Addr)(l:List Int)(n c:Nat)(w:World)(hn:l.length=n)(hl:n<=35184372088832)(hp:VL w w.heap.size A (rv l)):
  Calls Tryz.prog 39 #[.slice A n c] w (kYx 21 1 n (rv l) w):=by
 have HP:=hd hp;have HN:=hd hn;clear hp hn;go_enter Tryz.func39,Tryz.ntmps39
 go_wp2_with(at_builtin;refine kOg zTa w rfl _ _ rfl rfl A n c w.heap.size (rv l) rfl (by rw[zCg,HN.o,Nat.mul_one]) HP.o (zNz l) Kg Kb ?_;intro A' c' w1 aF hg1)
 go_ret
 exact⟨A',c',rfl,zIr aF,kOc hg1,zPm aF,aF⟩
def kX2 (w:World)(lf:Bool)(ps:List Pr)(tx:List Int)(kids:Value)(s4:Value)(wx:World):Prop:=
 ∃(gO:Nat)(gp:Option Addr)(cp:Nat)(gt:Option Addr)(ct:Nat),s4=.pointer (some ⟨gO,0,none⟩)/\Below w.heap.size w wx/\wx.heap[w.heap.size+1]? =some (.cells #[.bool false,.slice none 0 0,.slice none 0 0,.slice none 0 0] 26)/\w.heap.size+2<=gO/\wx.cell? ⟨w.heap.size,3,none⟩=some kids/\
  wx.heap[gO]? =some (.cells #[.bool lf,.slice gp ps.length cp,.slice gt tx.length ct,.slice none 0 0] 26 (0,0))/\
  VP (fun b=>w.heap.size+2<=b/\b<wx.heap.size/\b≠gO) wx gp (pv ps)/\VP (fun b=>w.heap.size+2<=b/\b<wx.heap.size/\b≠gO) wx gt (rv tx)/\ps.length<=cp/\tx.length<=ct/\PT wx (w.heap.size+2) gp cp gt ct ps tx
theorem kQt {lf:Bool}{ps:List Pr}{tx:List Int}{kids s4:Value}{wx:World}{ct:Nat}{k0:Value}{fr:Nat×Nat}(h:kX8 w lf ps tx kids s4 wx)(e:s4=.pointer (some ⟨gO,0,none⟩))(hO:wx.heap[gO]? =some (.cells #[.bool lf,.slice gp ps.length cp,.slice gt tx.length ct,k0] 26 fr))(hpt:PT w3 (w.heap.size+2) gp cp gt ct ps tx)(hk:zGj w3 wx):kX2 w lf ps tx kids s4 wx:=by
 obtain⟨gO',gp',cp',gt',ct',e',h2,h3,h4,h5,h6,h7,h8,h9,h10⟩:=h;have eO:gO'=gO:=by rw[e]at e';injection e' with e';injection e' with e';injection e' with e';exact e'.symm
 subst eO;rw[hO]at h6;simp only[Option.some.injEq,Obj.cells.injEq,Array.mk.injEq,List.cons.injEq,Value.slice.injEq,and_true,true_and]at h6;obtain⟨⟨⟨e1,e2⟩,⟨e3,e4⟩,e5⟩,e6⟩:=h6;subst e1 e2 e3 e4 e5 e6;exact⟨_,_,_,_,_,e,h2,h3,h4,h5,hO,h7,h8,h9,h10,hpt.keep hk⟩
theorem kR2 {W W' w2:World}{ps:List Pr}{tx:List Int}{ct:Nat}(op:w2.ownsRow W.heap.size 94 2 (.slice gp ps.length cp) ps.length (pv ps))(ot:w3.ownsRow W'.heap.size 21 1 (.slice gt tx.length ct) tx.length (rv tx))(hb:Below w2.heap.size w2 w3)(hW:w.heap.size+2<=W.heap.size)(hW':w.heap.size+2<=W'.heap.size):PT w3 (w.heap.size+2) gp cp gt ct ps tx:=
 ⟨zBy (zA8 op fun b _ hl=>hb.block b hl) hW,zBy ot hW'⟩
structure kQj (P:Nat->Prop)(wb:World)(base d:Nat)(lf:Bool)(ps:List Pr)(tx:List Int)(gO:Nat)(PA:Option Addr)(pc:Nat)(TA:Option Addr)(tc:Nat)(vK:Value)(n:Nat)(us:List Value)(ks:List NT)(wr:World):Prop where
 b:zNk P wb base d lf ps tx gO PA pc TA tc vK n us ks wr
 pt:PT wr base PA pc TA tc ps tx
theorem kU0 {base:Nat}{size:Nat}(h:w.ownsRow base 26 size v n xs){g:Nat}(hg:v.ownBlock=some g):∃cs fr,w.heap[g]? =some (.cells cs 26 fr):=by
 rcases h.2 with⟨e,_⟩|⟨g',cap,cur,e,_,hh,_⟩
 ·rw[e]at hg;cases hg
 ·rw[e]at hg;injection hg with hg;exact⟨cur,(0,0),hg▸hh⟩
theorem kR3 {w4 w6:World}{base:Nat}{lf:Bool}{ps:List Pr}{tx:List Int}{PA:Option Addr}{vK gK:Value}{n6:Nat}{eD:List Value}{ks xU:List NT}{o o1:Obj}{x:Value}
  (h:kQj P wb base d lf ps tx gO PA pc TA tc vK n us ks wr) (hb4:Below (wr.alloc o).drew.heap.size (wr.alloc o).drew w4) (hgrow:(w4.alloc o1).grownBy w6 vK.ownBlock) (hst:zNk P wb base d lf ps tx gO PA pc TA tc gK n6 eD xU (w6.setCell ⟨gO,3,none⟩ x)):kQj P wb base d lf ps tx gO PA pc TA tc gK n6 eD xU (w6.setCell ⟨gO,3,none⟩ x):=by
 refine⟨hst,h.pt.keep fun b hb hn=>?_⟩;obtain⟨hs4,cD⟩:=zIk hb4;have e5:(w4.alloc o1).heap.size=w4.heap.size+1:=sz1;have hne:b≠gO:=fun e=>hn _ _ (e▸h.b.o);rw[Below.heap_setCell _ _ _ _ (by simpa using hne),hgrow.block b (by rw[e5];omega) (by intro e;obtain⟨cs,fr,h1⟩:=kU0 h.b.row e.symm;exact hn _ _ h1),Below.heap_alloc _ _ _ Kb,cD b hb]
theorem kSx {w7:World}{base:Nat}{lf:Bool}{ps:List Pr}{tx:List Int}{PA:Option Addr}{A:Option Addr}{cap:Nat}{ks:List NT}
  (hh:kQj P wb base d lf ps tx gO PA pc TA tc (.slice A n cap) n us ks wr) (hP:∀b,P b->base<=b) (hf:zIo ps/\ps.length<=4398046511104/\tx.length<=35184372088832/\ks.length<=1759218604441/\ps.length<=pc/\tx.length<=tc) (hs:wr.heap.size<=w7.heap.size) (h7:∀b,base<=b->b<wr.heap.size->w7.heap[b]? =wr.heap[b]?):
  zTz base d w7 (.agg #[.bool lf,.slice PA ps.length pc,.slice TA tx.length tc,.slice A n cap]) (.mk lf ps tx ks):=by
 have h:=hh.b;have hrow:=zA8 h.row h7;have hn:ks.length=n:=h.num;have BG:(Value.slice A 0 0).ownBlock=(Value.slice A n cap).ownBlock:=by cases A<;>rfl
 refine⟨PA,pc,TA,tc,A,cap,us,by rw[<-hn];rfl,zA8 hh.pt.p h7,zA8 hh.pt.t h7,?_,⟨hf.1,hf.2.1,hf.2.2.1,hf.2.2.2.1,hf.2.2.2.2.1,hf.2.2.2.2.2,?_⟩,h.len.trans hn.symm,fun j m hm=>?_⟩
 ·show w7.ownsRow base _ 4 (.slice A ks.length cap) ks.length _
  rw[hn];exact hrow
 ·show ks.length<=cap
  rw[hn];exact zPm hrow
 ·obtain⟨u,hu,ht⟩:=h.kids j m hm;exact⟨u,hu,ht.keep (fun b hb=>⟨hP b hb.1,by have:=hb.2.1;omega,by rw[BG];exact hb.2.2.2⟩) (fun p hp=>⟨World.cell?_of_block (h7 _ (hP _ hp.1) hp.2.1),World.frozen?_of_block (h7 _ (hP _ hp.1) hp.2.1)⟩)⟩
theorem kR4 :∀(d:Nat)(w:World)(v:Value)(n:NT),zV d w w.heap.size v n->Calls Tryz.prog 12 #[v] w (zPu (d-1) n w):=by
 intro d;induction d with
 |zero=>intro w v n h;exact h.elim
 | succ d ih=>
  have ih2:∀(w:World)(v:Value)(n:NT),zV d w w.heap.size v n->Calls Tryz.prog 12 #[v] w (zVf d n w):=by
   intro w v n h2;cases d with
   |zero=>exact h2.elim
   |succ d0=>exact(ih w v n h2).mono fun e w' hh=>hh.copied
  clear ih;intro w v n hn;obtain⟨d1,lf,ps,tx,ks,PA,pc,TA,tc,KA,kc,hd1,rfl,rfl,hp,ht,hf,hks⟩:=hn.open_;obtain rfl:d=d1:=Kb;obtain⟨wb,hwb⟩:∃wb,wb=(w.alloc (.cells #[.bool lf,.slice PA ps.length pc,.slice TA tx.length tc,.slice KA ks.length kc] 26)).alloc (.cells #[.bool false,.slice none 0 0,.slice none 0 0,.slice none 0 0] 26):=⟨_,rfl⟩;have hb1:Below w.heap.size w wb:=hwb▸kM Kk Kl;have X:=(Box.new w (.bool lf) (.slice PA ps.length pc) (.slice TA tx.length tc) (.slice KA ks.length kc) 26).alloc (.cells #[.bool false,.slice none 0 0,.slice none 0 0,.slice none 0 0] 26);rw[<-hwb]at X;have aO:wb.heap.size=w.heap.size+2:=by rw[hwb];simp
  have HP:=hd hp;have HT:=hd ht;have cv:=hd hks;have HF:=hd hf;have HB:=hd hb1;have HX:=hd X;have nX:=hd aO;have bG:=hd (show wb.heap[w.heap.size+1]? =some (.cells #[.bool false,.slice none 0 0,.slice none 0 0,.slice none 0 0] 26) by rw[hwb,<-sz1 (w:=w) (A:=(.cells #[.bool lf,.slice PA ps.length pc,.slice TA tx.length tc,.slice KA ks.length kc] 26))];exact heap_alloc_new _ _);have bo:=hf.2.1;have hl2:=hf.2.2.1;have cC:=hf.2.2.2.1;obtain⟨x0,x1,x2,x3⟩:=X;subst hwb;clear hn hp ht hf hks hd1 hb1 aO;go_enter Tryz.func12,Tryz.ntmps12
  go_wp2_with fail
  have sA:=fun(w':World)(hb0:Below ((w.alloc (.cells #[.bool lf,.slice PA ps.length pc,.slice TA tx.length tc,.slice KA ks.length kc] 26)).alloc (.cells #[.bool false,.slice none 0 0,.slice none 0 0,.slice none 0 0] 26)).heap.size ((w.alloc (.cells #[.bool lf,.slice PA ps.length pc,.slice TA tx.length tc,.slice KA ks.length kc] 26)).alloc (.cells #[.bool false,.slice none 0 0,.slice none 0 0,.slice none 0 0] 26)) w')=>hd (HP.o.vl.below (HB.o.trans (hb0.mono HB.o.size)));have sB:=fun(w':World)(hb0:Below ((w.alloc (.cells #[.bool lf,.slice PA ps.length pc,.slice TA tx.length tc,.slice KA ks.length kc] 26)).alloc (.cells #[.bool false,.slice none 0 0,.slice none 0 0,.slice none 0 0] 26)).heap.size ((w.alloc (.cells #[.bool lf,.slice PA ps.length pc,.slice TA tx.length tc,.slice KA ks.length kc] 26)).alloc (.cells #[.bool false,.slice none 0 0,.slice none 0 0,.slice none 0 0] 26)) w')=>hd (kR1 TA tx tx.length tc w' rfl Kb (HT.o.later (HB.o.trans (hb0.mono HB.o.size))));go_upto_region 1 with fail
  go_cut [3] (fun s3 wx=>kX2 w lf ps tx (.slice KA ks.length kc) s3 wx)
  case first=>
   go_region_held3(fun w'=>Below ((w.alloc (.cells #[.bool lf,.slice PA ps.length pc,.slice TA tx.length tc,.slice KA ks.length kc] 26)).alloc (.cells #[.bool false,.slice none 0 0,.slice none 0 0,.slice none 0 0] 26)).heap.size ((w.alloc (.cells #[.bool lf,.slice PA ps.length pc,.slice TA tx.length tc,.slice KA ks.length kc] 26)).alloc (.cells #[.bool false,.slice none 0 0,.slice none 0 0,.slice none 0 0] 26)) w'/\w'.cell? ⟨w.heap.size,0,none⟩=some (.bool lf)/\w'.cell? ⟨w.heap.size,1,none⟩=some (.slice PA ps.length pc)/\w'.cell? ⟨w.heap.size,2,none⟩=some (.slice TA tx.length tc)/\w'.cell? ⟨w.heap.size,3,none⟩=some (.slice KA ks.length kc))
    (first
     |assumption
     |exact⟨Kk.drew,x0,x1,x2,x3⟩
     |exact zXl ‹_› (Kk.alloc Kl _)
     |exact kBg ‹_› Kf (by first|exact rD.1.size|simp))
    (first
     |(go_at_call 39;refine Calls.mono (sB _ ?hh).o ?_;(case hh=>(go_split_ands;assumption));intro e w3 h3;obtain⟨gt,ct,rfl,vt,b3,hct,rE⟩:=h3;have oD:=hd rE;clear rE;have jg:=zXl ‹_› b3;have fD:=hd vt;(first|(have fg:=hd (kI mN.o b3))|(have fg:=hd (kBf (w:=w) (Z:=(.cells #[.bool false,.slice none 0 0,.slice none 0 0,.slice none 0 0] 26)) b3))|(have fg:=hd (kFw (W0:=w2) (o:=(.cells #[.bool false,.slice none 0 0,.slice none 0 0,.slice none 0 0] 26)) b3 (g:=w2.heap.size) rfl))|skip);(first|(have vo:=zJ fg.o;obtain⟨c0,c1,c2,c3,c4,c5,c6,c7⟩:=vo)|skip))
     |(refine kOx zZh _ rfl _ _ rfl rfl PA ps.length pc w.heap.size (pv ps) rfl (by rw[zN8]) (sA _ (by go_split_ands;assumption)).o (zZg ps) Kg Kb ?_;intro gp cp w2 az hg2;have b2:=kOc hg2;have rD:=zXl ‹_› b2;have fC:=hd (zIr az);have gV:=hd az;have cT:=zPm az;(first|(have mN:=hd (kI fg.o b2))|(have mN:=hd (kBf (w:=w) (Z:=(.cells #[.bool false,.slice none 0 0,.slice none 0 0,.slice none 0 0] 26)) b2))|(have mN:=hd (kFw (W0:=w3) (o:=(.cells #[.bool false,.slice none 0 0,.slice none 0 0,.slice none 0 0] 26)) b2 (g:=w3.heap.size) rfl))|skip);(first|(have qj:=zJ mN.o;obtain⟨a0,a1,a2,a3,a4,a5,a6,a7⟩:=qj)|skip)))
   ·go_wp2_with fail
    go_meet
    exact kQt (w3:=w3) (kSa cT hct HB.o bG.o jg fC.o fD.o b3 (by rw[sz2];exact Nat.le_refl _) (by have h:=b2.size;rw[sz2]at h;omega) (by have h:=b2.size;rw[sz2]at h;have:=b3.size;omega)) rfl (heap_alloc_new _ _) (kR2 gV.o oD.o b3 (by rw[sz2];exact Nat.le_refl _) (by have h:=b2.size;rw[sz2]at h;omega)) (zGj.of_below (Kk.alloc Kl _))
   ·go_wp2_with fail
    go_meet
    exact kQt (w3:=w3) (kPw cT hct HB.o bG.o jg fC.o fD.o (zEu b3) fg.o (by have h:=b2.size;rw[sz2]at h;omega) (by rw[sz2];exact Nat.le_refl _) (by rw[sz1];have h:=b2.size;rw[sz2]at h;omega) (fun b _ h=>by omega) (fun b h=>by rw[sz1]at h;omega)) rfl (kD fg.o) (kR2 gV.o oD.o (zEu b3) (by rw[sz2];exact Nat.le_refl _) (by rw[sz1];have h:=b2.size;rw[sz2]at h;omega)) (zOj fg.o)
   ·go_wp2_with fail
    go_meet
    exact kQt (w3:=w3) (kPw cT hct HB.o bG.o jg fC.o fD.o b3 fg.o Kb (by rw[sz3];omega) (by have h:=b2.size;rw[sz3]at h;omega) (fun b h _=>by rw[sz3]at h;omega) (fun b h=>by have h2:=b2.size;rw[sz3]at h2;omega)) rfl (kD fg.o) (kR2 gV.o oD.o b3 (by rw[sz3];omega) (by have h:=b2.size;rw[sz3]at h;omega)) (zOj fg.o)
  case rest=>
   obtain⟨gO,gp,cp,gt,ct,rfl,cA,hr4,o7,k3,hO,fC,fD,cT,hct,hpt⟩:=hcut;have hb0:=kP4 (P:=fun b=>w.heap.size+2<=b) (d:=d) (base:=w.heap.size+2) (by have:=cA.size;have:=kQ k3;have:=lt_of_block hr4;simp at*;omega) o7 (fun _ h=>h) hO (fC.keep (fun _ h=>h) (fun _ _=>⟨rfl,rfl⟩)) (fD.keep (fun _ h=>h) (fun _ _=>⟨rfl,rfl⟩));have bw:=hd (show kQj (fun b=>w.heap.size+2<=b) wc (w.heap.size+2) d lf ps tx gO gp cp gt ct (.slice none 0 0) 0 [] [] wc from⟨hb0,hpt⟩);clear hpt;have ip:=hd cA;have pj:=hd hr4;have vq:=hd k3;clear hO fC fD cA hr4 x0 x1 x2 x3 HX HB HP HT sA sB bG nX hb0;go_wp2_with fail
   clear k3;go_loopw [18] (fun i wr=>∃(k:Nat)(vK:Value)(us:List Value),k<=ks.length/\i=.int .i64 k/\Kq (kQj (fun b=>w.heap.size+2<=b) wc (w.heap.size+2) d lf ps tx gO gp cp gt ct vK k us (ks.take k) wr)) (fun i _=>ks.length-(intOf i).toNat)
   case atStart=>exact⟨0,_,_,Nat.zero_le _,rfl,bw⟩
   case round=>
    obtain⟨k,vK,us,hk,rfl,HL⟩:=hrel;clear bw;have hbr:=ip.o.trans (HL.o.b.below.mono Kb);by_cases hlt:k<ks.length
    ·obtain⟨m,b,o,lf1,bJ,bS,bK,bL,bT,bM,bN,bU,bO,hm,rfl,hbg,dw,c0,c1,c2,c3⟩:=(cv.o.below hbr).at_ hlt;have hsz:=hbr.size;have fV:=HL.o.b.o;have fH:=lt_of_block fV;have HM:=hd hm;obtain⟨A,cap,rfl,hkc,hcm,_⟩:=zC9 HL.o.b.row;obtain⟨p0,p1,p2,p3,g0,g1,g2,g3⟩:=zJ fV;obtain⟨wk,hwk⟩:∃wk,wk=(wr.alloc (.cells #[.bool lf1,.slice bJ bS bK,.slice bL bT bM,.slice bN bU bO] 26)).drew:=⟨_,rfl⟩;have hbk:Below wr.heap.size wr wk:=hwk▸(Kk.alloc Kl _).drew;have HC:=hd (ih2 wk _ m (((dw.more hsz).below hbk).more hbk.size));have ej:=hd hbk;have gj:=HL.o.b.apart;have hbs:=HL.o.b.bs;have hbl:=HL.o.b.below.size;have lj:=hd (zPd hm);obtain⟨i0,hi,hz0,hz1,hz2⟩:=info_parts zJj;subst hwk;clear dw hbk hm fV hbr;go_upto_block 1 with fail
     go_cut [18] (fun s wx=>s=.int .i64 k/\∃(gK:Value)(eD:List Value),Kq (kQj (fun b=>w.heap.size+2<=b) wc (w.heap.size+2) d lf ps tx gO gp cp gt ct gK (k+1) eD (ks.take (k+1)) wx))
     case first=>
      go_wp2_with fail
      go_region_law(first
        |((go_simp;go_at_call 12;refine HC.o.mono ?_;intro e w4 h4;obtain⟨v4,rfl,dt,hb4⟩:=h4;obtain⟨lf4,aU,bg,aS,aV,bh,aT,aZ,bi,bb,rfl⟩:=(dt.at_ (B:=w4.heap.size) (fun b hb=>hb.2)).val;obtain⟨hs4,cD⟩:=zIk hb4;have ji:=hd ((cD gO fH).trans HL.o.b.o);obtain⟨r0,r1,r2,r3,r4,r5,r6,r7⟩:=zJ ji.o;have rG:gO<w4.heap.size:=Kb;have hrow4:=hd (zG5 HL.o.b.row cD);have kq:=hd cD;clear cD;have cA:=hd hb4;have iq:=hd dt;clear dt hb4))
        |((refine step_append_lies _ Ke (.tmp 23) (.tmp 26) _ Ke (w.heap.size+2) 26 i0 _ 4 80 Tryz.underlying24 hi hz0 hz1 hz2 rfl Kb (.slice A k cap) k (us.flatMap fun u=>u.cells.toList) (by first|rfl|simp[Act.eval]) (hrow4.o.alloc _) ⟨w4.heap.size,0,none⟩ 1 1 [.bool lf4,.slice aU bg aS,.slice aV bh aT,.slice aZ bi bb] (by first|rfl|simp[Act.eval]) Ke (World.news_of_block (cs:=#[.bool lf4,.slice aU bg aS,.slice aV bh aT,.slice aZ bi bb]) (t:=26) (fr:=(0,0)) (heap_alloc_new w4 _)) (by simp[Value.oneCell']) Kb Kg Kb Kf (w4.heap.size+1) Kc ?_;intro g6 bZ w6 aQ aw bR jk;have eT:=hd (kAr aw ji.o gj);obtain⟨s0,s1,s2,s3,s4,s5,s6,s7⟩:=zJ eT.o;have jl:=lt_of_block eT.o)))
      all_goals
       have hst:=zOh HL.o.b ej.o cA.o iq.o aw aQ bR
       rw[<-lj.o]at hst
       have HST:=hd (kR3 HL.o cA.o aw hst)
       clear hst
       clear aw aQ bR s0 s1 s2 s3 s4 s5 s6 s7 r0 r1 r2 r3 r4 r5 r6 r7 hrow4 ji eT kq cA iq p0 p1 p2 p3 g0 g1 g2 g3 c0 c1 c2 c3
       go_wp2_with fail
       go_meet
       exact⟨rfl,_,_,HST⟩
     case rest=>
      obtain⟨rfl,gK,eD,HST⟩:=hcut;clear p0 p1 p2 p3 g0 g1 g2 g3 c0 c1 c2 c3;go_wp2
      go_roundw
      case rel=>exact⟨k+1,gK,eD,by omega,by go_num,HST⟩
      case measure=>simp[intOf];omega
    ·obtain rfl:k=ks.length:=Kb;have eU:=HL.o.b.o;have oF:=lt_of_block eU;obtain⟨A,cap,rfl,_⟩:=zC9 HL.o.b.row;obtain⟨p0,p1,p2,p3,_,_,_,_⟩:=zJ eU;clear eU;have hres:wr.heap[w.heap.size+1]? =some (.cells #[.bool false,.slice none 0 0,.slice none 0 0,.slice none 0 0] 26):=(HL.o.b.below.block _ Kb).trans pj.o;obtain⟨q0,q1,q2,q3,q4,q5,q6,q7⟩:=zJ hres;have oG:=hd hres;have dA:=hd hbr;clear hres hbr;go_wp2
     have h7:=kD (a:=.bool lf) (b:=.slice gp ps.length cp) (c:=.slice gt tx.length ct) (d:=.slice A ks.length cap) oG.o;obtain⟨t0,t1,t2,t3,_,_,_,_⟩:=zJ h7;have hend:=fun w7 hs h7=>kSx (w7:=w7) HL.o (fun _ h=>h) (by rw[List.take_length];exact⟨HF.o.1,HF.o.2.1,HF.o.2.2.1,HF.o.2.2.2.1,cT,hct⟩) hs h7;rw[List.take_length]at hend;refine bodyPost_ret (v:=.agg #[.bool lf,.slice gp ps.length cp,.slice gt tx.length ct,.slice A ks.length cap]) (by simp[results,Tryz.results12,go_sem,t0,t1,t2,t3]) rfl ⟨_,rfl,(hend _ Kc (fun b hb _=>?_)).base Kb,?_⟩
     ·iterate 4 rw[Below.heap_setCell _ _ _ _ (by show _≠w.heap.size+1;omega)]
     ·exact(((dA.o.setCell (by show _<=w.heap.size+1;omega) _).setCell (by show _<=w.heap.size+1;omega) _).setCell (by show _<=w.heap.size+1;omega) _).setCell (by show _<=w.heap.size+1;omega) _
theorem zTs (l m:List Int)(K:Nat)(hK:K=kO l m)(h:K+1≠l.length∨¬K<m.length∨¬iAt l K<iAt m K):zFg l m=false:=by
 subst hK;cases h2:zFg l m
 ·rfl
 ·rw[zEe]at h2;omega
theorem kOd {P:Prop}(h:P:=by
 go_quiet(fail)
 go_wp2
 go_ret
 exact kW (zA3 (by rw[HF.o])) Ki):P:=h
theorem kAs (A B:Option Addr)(l m:List Int)(c d:Nat)(w:World)(hl:l.length<=9223372036854775807)(hm:m.length<=9223372036854775807)(hp:IL w w.heap.size A l)(hq:IL w w.heap.size B m):
  Calls Tryz.prog 122 #[.slice A l.length c,.slice B m.length d] w (zHa (.bool (zFg l m)) w):=by
 have HC:=hd (zH5 A B l m c d w hl hm hp hq);have hN:=zHf l m;obtain⟨K,hK⟩:∃K,K=kO l m:=⟨_,rfl⟩;rw[<-hK]at HC hN;have HK:=hd hK;clear hK;have ws:IntKind.i64.wrap ((l.length:Int)-1)=(l.length:Int)-1:=IntWalk.i64_in _ Kb;by_cases h1:K+1=l.length
 ·have hx:((K:Int)==(l.length:Int)-1)=true:=by simp;omega
  by_cases h2:K<m.length
  ·obtain⟨b1,o1,rfl,bo,c1⟩:=hp.at_ (show K<l.length by omega);obtain⟨b2,o2,rfl,hl2,c2⟩:=hq.at_ h2;have h0:K<l.length:=Kb;by_cases h3:iAt l K<iAt m K
   ·have HF:=hd ((zEe l m).2 (by rw[<-HK.o];exact⟨h1,h2,h3⟩));clear hp hq hN h1;go_enter Tryz.func122,Tryz.ntmps122
    go_wp2_with(go_at_call 73;refine HC.o.mono ?_;rintro e w' ⟨rfl,kd,rfl⟩)
    exact kOd
   ·have HF:=hd (zTs l m K HK.o (.inr (.inr h3)));have h3':decide (iAt l K<iAt m K)=false:=decide_eq_false h3;clear hp hq hN h1 h3;go_enter Tryz.func122,Tryz.ntmps122
    go_wp2_with(go_at_call 73;refine HC.o.mono ?_;rintro e w' ⟨rfl,kd,rfl⟩)
    exact kOd
  ·have HF:=hd (zTs l m K HK.o (.inr (.inl h2)));have h2':decide (K<m.length)=false:=decide_eq_false h2;clear hp hq hN h1 h2;go_enter Tryz.func122,Tryz.ntmps122
   go_wp2_with(go_at_call 73;refine HC.o.mono ?_;rintro e w' ⟨rfl,kd,rfl⟩)
   exact kOd
 ·have HF:=hd (zTs l m K HK.o (.inl h1));have hx:((K:Int)==(l.length:Int)-1)=false:=by simp;omega
  clear hp hq hN h1;go_enter Tryz.func122,Tryz.ntmps122
  go_wp2_with(go_at_call 73;refine HC.o.mono ?_;rintro e w' ⟨rfl,kd,rfl⟩)
  exact kOd
theorem kQ7 (A B:Option Addr)(l m:List Int)(a b c d:Nat)(r:Bool)(hr:zEd l m=r)(w:World)(ha:l.length=a)(hb:m.length=b)(hl:l.length<=9223372036854775807)(hm:m.length<=9223372036854775807)(hp:IL w w.heap.size A l)(hq:IL w w.heap.size B m):
  Calls Tryz.prog 107 #[.slice A a c,.slice B b d] w (zHa (.bool r) w):=by
 subst ha hb hr;exact zVv A B l m c d w hl hm hp hq
theorem kQk (l m:List Int)(k:Nat)(h1:k<=l.length)(h2:k<=m.length):zEd (l.take k) (m.take k)=decide (k<=kO l m):=by
 have h:=kUq l (m.take k) k h1;have h3:zBu (l.take k) (m.take k)=false:=zUb _ _ (.inl Kf);rw[h3,Bool.or_false]at h;rw[h,Bool.eq_iff_iff,decide_eq_true_iff,decide_eq_true_iff];constructor
 ·intro h4;rcases Nat.lt_or_ge (kO l m) k with hlt|hge
  ·exfalso;have:=zGp l (m.take k) (kO l m) Kb;refine zQl l m Kb Kb ?_;rw[this,jY (m.take k) (kO l m) Kf,jY m (kO l m) Kb];simp
  ·exact hge
 ·intro h4;have:kO l (m.take k)=k:=zEc _ _ _ h1 Kf (fun j hj=>by
   rw[zGp l m j Kb,jY (m.take k) j Kf,jY m j Kb];simp) (fun _ h=>absurd h Kf)
  omega
theorem kSy (A B:Option Addr)(l m:List Int)(c d:Nat)(w:World)(hl:l.length<=9223372036854775807)(_hm:m.length<=9223372036854775807)(hd1:m.length<=d)(hp:IL w w.heap.size A l)(hq:IL w w.heap.size B m):
  Calls Tryz.prog 169 #[.slice A l.length c,.slice B m.length d] w (zHa (.bool (zBu l m)) w):=by
 by_cases h1:l.length<m.length
 ·have HS:=hd (kQ7 A B l (m.take l.length) l.length l.length c d (zBu l m) (by
   have h:=kQk l m l.length Kl Kb;rw[List.take_length]at h;rw[h];have:=zHf l m;unfold zBu;simp only[h1,decide_true,Bool.true_and];rw[Bool.eq_iff_iff,decide_eq_true_iff,decide_eq_true_iff];omega) w rfl Kf hl Kf hp (hq.take _))
  clear hp hq;go_enter Tryz.func169,Tryz.ntmps169
  go_wp2_with fail
  refine HS.o.mono ?_;rintro e w' ⟨rfl,kd,rfl⟩;go_wp2
  go_ret
  exact kW rfl Ki
 ·have hx:decide (l.length<m.length)=false:=decide_eq_false h1;have HF:=hd (zUb l m (.inl h1));clear h1 hp hq;go_enter Tryz.func169,Tryz.ntmps169
  go_wp2
  go_ret
  exact kW (zA3 (by rw[HF.o])) ⟨0,rfl⟩
theorem kPn {P:Prop}(h:P:=by
 go_enter Tryz.func170,Tryz.ntmps170
 go_wp2_with fail
 go_quiet((go_at_call 107;exact HT.o _))
 go_wp2
 go_ret
 exact kW (zA3 (by rw[HF.o])) Ki):P:=h
theorem kTw (A B:Option Addr)(l m:List Int)(n c d:Nat)(w:World)(hl:n<=9223372036854775807)(_hm:m.length<=9223372036854775807)(hc1:n<=c)(hd1:m.length<=d)(HL:Kq (l.length=n))(hp:IL w w.heap.size A l)(hq:IL w w.heap.size B m):
  Calls Tryz.prog 170 #[.slice A n c,.slice B m.length d] w (zHa (.bool (zFg l m)) w):=by
 rcases n with _|k
 ·have HF:=hd (zTs l m _ rfl (.inl (by have:=HL.o;omega)));clear hp hq;go_enter Tryz.func170,Tryz.ntmps170
  go_wp2_with fail
  exact kOd
 ·by_cases h2:k<m.length
  ·have HS:Kq (∀(r:Bool),decide (k<=kO l m)=r->∀n':Nat,Calls Tryz.prog 107 #[.slice A k c,.slice B k d] (w.drewN n') fun e w'=>e=.returned (.bool r)/\∃m,w'=w.drewN m):=hd (fun r hr n'=>zQo (kQ7 A B (l.take k) (m.take k) k k c d r ((kQk l m k (by have:=HL.o;omega) Kb).trans hr) (w.drewN n') (by have:=HL.o;simp;omega) Kf Kf Kf (hp.take _) (hq.take _)));obtain⟨b1,o1,rfl,bo,c1⟩:=hp.at_ (show k<l.length by have:=HL.o;omega);obtain⟨b2,o2,rfl,hl2,c2⟩:=hq.at_ h2;cases h3:decide (k<=kO l m)
   ·have HT:=hd (HS.o _ h3);have HF:=hd (zTs l m _ rfl (.inl (by have:=of_decide_eq_false h3;have:=HL.o;omega)));clear hp hq HS h3;exact kPn
   ·have HT:=hd (HS.o _ h3);have h4:=of_decide_eq_true h3;by_cases h5:iAt l k<iAt m k
    ·have HF:=hd ((zEe l m).2 (by
      have e:kO l m=k:=by
       rcases Nat.lt_or_ge k (kO l m)with hlt|hge
       ·have:=zGp l m k hlt;omega
       ·omega
      rw[e];exact⟨by have:=HL.o;omega,h2,h5⟩))
     clear hp hq HS h3 h4;exact kPn
    ·have HF:=hd (show zFg l m=false by
      cases h6:zFg l m
      ·rfl
      ·exfalso;rw[zEe]at h6;have e:kO l m=k:=by have:=HL.o;omega
       rw[e]at h6;exact h5 h6.2.2)
     have hx:decide (iAt l k<iAt m k)=false:=decide_eq_false h5;clear hp hq HS h3 h4 h5;exact kPn
  ·have HF:=hd (zTs l m _ rfl (by have:=zHf l m;have:=HL.o;omega));have hx:decide (k<m.length)=false:=decide_eq_false h2;clear hp hq h2;go_enter Tryz.func170,Tryz.ntmps170
   go_wp2_with fail
   exact kOd
theorem zJz {b' e e' s s' n':Nat}{u:Value}{ys:List Value}(h:w.ownsRow b e s v n xs)(h':w.ownsRow b' e' s' u n' ys)(hne:e≠e'):u.ownBlock=none∨u.ownBlock≠v.ownBlock:=by
 rcases h'.2 with⟨rfl,_⟩|⟨g',cap',cur',rfl,_,hg',_⟩
 ·exact .inl rfl
 ·rcases h.2 with⟨rfl,_⟩|⟨g,cap,cur,rfl,_,hg,_⟩
  ·exact .inr (by simp[Value.ownBlock])
  ·refine .inr fun hh=>?_;simp only[Value.ownBlock,Option.some.injEq]at hh;rw[hh,hg]at hg';injection hg' with hg';injection hg' with _ h2;exact hne h2
theorem zBt.open_at {l:List Int}(h:zBt w b v l)(n:Nat)(hn:l.length=n):∃(A:Option Addr)(c:Nat),v=.slice A n c/\n<=c/\IL w w.heap.size A l:=by
 subst hn;obtain⟨A,c,h1,h2,_,h3⟩:=h.open_;exact⟨A,c,h1,h2,h3⟩
