import Derived.Test.YtmglnjmnabjjgaaGreatTSplice
import Derived.StillTailTactics
set_option maxRecDepth 100000
set_option maxHeartbeats 8000000
namespace Go.Proofs.YtmglnjmnabjjgaaGreat
open Go.RowKit
open Go.WideShapes (add_plain)
variable {W w w' w0 w2 w3:World}{B d g k kc nk np nt pc tc:Nat}{A KA TA:Option Addr}{i:Int}{r:List Int}{s:Option NT}{n:NT}{a b c c1 v:Value}{f:NT->NT×Int}{fv:FuncId}{C:World->Prop}{pre:NT->Prop}
theorem IL.tail (h:IL w B A (i::r))(c:Nat)(hc:r.length+1<=c):IL w B (if c=1 then A else A.map (·.add (1*1))) r:=fun hn=>by
 have h0:0<r.length:=List.length_pos_iff.2 hn;obtain⟨b,o,rfl,hb,hcell⟩:=h Kc;rw[if_neg Kb];refine⟨b,o+1,by simp[add_plain],hb,fun k hk=>?_⟩;have:=hcell (k+1) Kf;rw[show o+1+k=o+(k+1) by omega,this];rfl
theorem zSd (A:Option Addr)(k c:Nat)(hc:k+1<=c):∃D:Option Addr,(∀(w:World)(B:Nat)(i:Int)(r:List Int),IL w B A (i::r)->r.length=k->IL w B D r)/\(∀g,(∀a,A=some a->a.block≠g)->∀a,D=some a->a.block≠g)/\
  (∀W:World,(Instr.slice 27 (.slice A (k+1) c) (some (.int .i64 1)) none none).run Tryz.prog W=.ok (.slice D k (c-1)) W):=by
 refine⟨if c=1 then A else A.map (·.add (1*1)),fun w B i r h hx=>h.tail c Kb,fun g h a ha=>?_,fun W=>?_⟩
 ·cases A with
  |none=>split at ha<;>cases ha
  |some a0=>
   have h0:=h a0 rfl;split at ha
   ·injection ha with ha;rw[<-ha];exact h0
   ·simp only[Option.map_some,Option.some.injEq]at ha;rw[<-ha];exact h0
 have he:Tryz.prog.elem 27=3:=Ka;have hs:∀W,(sizeOf 3).run Tryz.prog W=.ok 1 W:=fun _=>by kernel_rfl
 rw[run_slice_l W 27 A (k+1) c (by rw[he];exact Tryz.underlying27) .i64 _ Kb Kb,he,hs];simp[Result.andThen,sliced]
theorem zVg {p:List Int}(h:IL w B A p)(hg:B<=g):p≠[]->∀a,A=some a->a.block≠g:=fun hn a ha=>by
 obtain⟨b,o,e,hb,_⟩:=h hn;rw[ha]at e;injection e with e;subst e;show b≠g
 omega
def zJ6 (g:Nat):Option NT->World->World->Prop
 |none,w,w'=>w'.heap[g]? =w.heap[g]?
 |some t,w,w'=>∃u0 u1 u2 u3 d,w'.heap[g]? =some (.cells #[u0,u1,u2,u3] 26 (0,0))/\zAx (fun b=>w.heap.size<=b/\b<w'.heap.size) d w' (.agg #[u0,u1,u2,u3]) t
theorem zJ6.move {w'':World}(h:zJ6 g s w w')(hs:w0.heap.size<=w.heap.size)(hs':w'.heap.size<=w''.heap.size)(h0:w.heap[g]? =w0.heap[g]?)(hg:w''.heap[g]? =w'.heap[g]?)(hb:∀b,w.heap.size<=b->b<w'.heap.size->w''.heap[b]? =w'.heap[b]?):zJ6 g s w0 w'':=by
 cases s with
 |none=>exact hg.trans (Eq.trans h h0)
 |some t=>
  obtain⟨u0,u1,u2,u3,d,h1,h2⟩:=h;exact⟨u0,u1,u2,u3,d,hg.trans h1,h2.keep (fun b hb=>by omega) (fun p hp=>⟨World.cell?_of_block (hb _ hp.1 hp.2),World.frozen?_of_block (hb _ hp.1 hp.2)⟩)⟩
def kEz (g:Nat)(r:NT×Int)(s:Option NT)(w:World)(e:Ending)(w':World):Prop:=
 ∃v d,e=.returned (.tuple #[v,.int .i64 r.2])/\zAx (fun b=>w.heap.size<=b/\b<w'.heap.size) d w' v r.1/\Off g w w'/\zJ6 g s w w'
theorem zB0 {r:NT×Int}{e:Int}(h:r=(n,e))(ht:zAx (fun b=>w.heap.size<=b/\b<w'.heap.size) d w' v n)(ho:Off g w w')(hl:zJ6 g s w w'):kEz g r s w (.returned (.tuple #[v,.int .i64 e])) w':=by
 subst h;exact⟨v,d,rfl,ht,ho,hl⟩
theorem zAx.block_keep {lo hi:Nat}{Q:Nat->Prop}(h:zAx (fun b=>lo<=b/\b<hi) d w v n)(hQ:∀b,lo<=b->b<hi->Q b)(hb:∀b,lo<=b->b<hi->w'.heap[b]? =w.heap[b]?):zAx Q d w' v n:=
 h.keep (fun b hb=>hQ b hb.1 hb.2) (fun _ hp=>⟨World.cell?_of_block (hb _ hp.1 hp.2),World.frozen?_of_block (hb _ hp.1 hp.2)⟩)
theorem zT {d:Value}(h:k≠g):((((w.setCell ⟨g,0,none⟩ a).setCell ⟨g,1,none⟩ b).setCell ⟨g,2,none⟩ c).setCell ⟨g,3,none⟩ d).heap[k]? =w.heap[k]? :=by
 iterate 4 rw[Below.heap_setCell _ _ _ _ (by simpa using h)]
theorem jK {d:Value}:((((w.setCell ⟨g,0,none⟩ a).setCell ⟨g,1,none⟩ b).setCell ⟨g,2,none⟩ c).setCell ⟨g,3,none⟩ d).heap.size=w.heap.size:=by simp
theorem Off.set4 {d:Value}(h:Off g w0 w)(hk:w0.heap.size<=k∨k=g):Off g w0 ((((w.setCell ⟨k,0,none⟩ a).setCell ⟨k,1,none⟩ b).setCell ⟨k,2,none⟩ c).setCell ⟨k,3,none⟩ d):=
 ⟨h.os,h.tape,h.output,by rw[jK];exact h.size,fun j hj hg=>by rw[zT Kb];exact h.block j hj hg⟩
theorem Below.set4 {d:Value}(h:Below B w0 w)(hk:B<=k):Below B w0 ((((w.setCell ⟨k,0,none⟩ a).setCell ⟨k,1,none⟩ b).setCell ⟨k,2,none⟩ c).setCell ⟨k,3,none⟩ d):=
 (((h.setCell (by show B<=k;exact hk) _).setCell (by show B<=k;exact hk) _).setCell (by show B<=k;exact hk) _).setCell (by show B<=k;exact hk) _
theorem Off.drop (h:Off g w w')(hg:w'.heap[g]? =w.heap[g]?):Below w.heap.size w w':=
 ⟨h.os,h.tape,h.output,h.size,fun k hk=>by
  rcases Classical.em (k=g)with e|e
  ·rw[e];exact hg
  ·exact h.block k hk e⟩
theorem Off.drew (h:Off g w w'):Off g w w'.drew:=⟨h.os,h.tape,h.output,h.size,h.block⟩
theorem Off.alloc (h:Off g w w')(o:Obj):Off g w (w'.alloc o):=
 ⟨h.os,h.tape,h.output,by have:=h.size;simp;omega,fun k hk hg=>by
  have:=h.size;rw[Below.heap_alloc _ _ _ Kb];exact h.block k hk hg⟩
def kE0 (g:Nat)(w2:World)(r:NT×Int)(s:Option NT)(s8 s9:Value)(wx:World):Prop:=
 ∃g8 lf PA np pc TA nt tc KA nk kc d,s8=.pointer (some ⟨g8,0,none⟩)/\s9=.int .i64 r.2/\w2.heap.size<=g8/\wx.heap[g8]? =some (.cells #[.bool lf,.slice PA np pc,.slice TA nt tc,.slice KA nk kc] 26 (0,0))/\
  zAx (fun b=>w2.heap.size<=b/\b<wx.heap.size/\b≠g8) d wx (.agg #[.bool lf,.slice PA np pc,.slice TA nt tc,.slice KA nk kc]) r.1/\Off g w2 wx/\zJ6 g s w2 wx
theorem kBi {r:NT×Int}{lf:Bool}{PA:Option Addr}(hW:Below w2.heap.size w2 W)(hg:g<w2.heap.size)
  (ht:zAx (fun b=>W.heap.size<=b/\b<w3.heap.size) d w3 (.agg #[.bool lf,.slice PA np pc,.slice TA nt tc,.slice KA nk kc]) r.1) (ho:Off g W w3) (hl:zJ6 g s W w3):
  kE0 g w2 r s (.pointer (some ⟨w3.heap.size,0,none⟩)) (.int .i64 r.2) (w3.alloc (.cells #[.bool lf,.slice PA np pc,.slice TA nt tc,.slice KA nk kc] 26)):=by
 have h1:=hW.size;have h2:=ho.size;have e:(w3.alloc (.cells #[.bool lf,.slice PA np pc,.slice TA nt tc,.slice KA nk kc] 26)).heap.size=w3.heap.size+1:=by simp
 refine⟨_,_,_,_,_,_,_,_,_,_,_,d,rfl,rfl,by omega,heap_alloc_new _ _,ht.block_keep (fun b a1 a2=>by omega) (fun b _ a2=>Below.heap_alloc _ _ _ a2),((Off.of_below hW).trans ho).alloc _,hl.move h1 Kb (hW.block g hg) (Below.heap_alloc _ _ _ Kb) (fun b _ a2=>Below.heap_alloc _ _ _ a2)⟩
theorem kBj {r:NT×Int}{lf:Bool}{PA:Option Addr}{g8:Nat}{z0 z1 z2 z3:Value}(hW:Below w2.heap.size w2 W)(hg:g<w2.heap.size)(gX:w2.heap.size<=g8)(rN:g8<W.heap.size)
  (hO:w3.heap[g8]? =some (.cells #[z0,z1,z2,z3] 26 (0,0))) (ht:zAx (fun b=>W.heap.size<=b/\b<w3.heap.size) d w3 (.agg #[.bool lf,.slice PA np pc,.slice TA nt tc,.slice KA nk kc]) r.1) (ho:Off g W w3) (hl:zJ6 g s W w3):
  kE0 g w2 r s (.pointer (some ⟨g8,0,none⟩)) (.int .i64 r.2) ((((w3.setCell ⟨g8,0,none⟩ (.bool lf)).setCell ⟨g8,1,none⟩ (.slice PA np pc)).setCell ⟨g8,2,none⟩ (.slice TA nt tc)).setCell ⟨g8,3,none⟩ (.slice KA nk kc)):=by
 have h1:=hW.size;have h2:=ho.size;refine⟨g8,_,_,_,_,_,_,_,_,_,_,d,rfl,rfl,gX,kD hO,ht.block_keep (fun b a1 a2=>by rw[jK];omega) (fun b a1 a2=>zT Kb),((Off.of_below hW).trans ho).set4 (.inl gX),hl.move h1 (by rw[jK];exact Nat.le_refl _) (hW.block g hg) (zT Kb) (fun b a1 _=>zT Kb)⟩
structure kBk (fv:FuncId)(c1:Value)(g:Nat)(f:NT->NT×Int)(s:NT->Option NT)(C:World->Prop)(pre:NT->Prop):Prop where
 enters:∀args w,(callFunc fv args).run Tryz.prog w=.ok (.enter fv args) w
 later:∀w w',C w->Below w.heap.size w w'->C w'
 does:∀d w v n,zV d w g v n->g<w.heap.size->C w->pre n->Calls Tryz.prog fv #[v,c1] w (kEz g (f n) (s n) w)
structure zT1 (fv:FuncId)(c1 c2:Value)(g:Nat)(f:NT->NT×Int)(s:NT->Option NT)(C:World->Prop)(pre:NT->Prop):Prop where
 enters:∀args w,(callFunc fv args).run Tryz.prog w=.ok (.enter fv args) w
 later:∀w w',C w->Below w.heap.size w w'->C w'
 does:∀d w v n,zV d w g v n->g<w.heap.size->C w->pre n->Calls Tryz.prog fv #[v,c1,c2] w (kEz g (f n) (s n) w)
theorem zJ7 (h:zBh n i=none):zIf f n (i::r)=(zeroT,5)/\kB n (i::r)=none:=by
 rw[zIf,zR,h];exact⟨rfl,rfl⟩
theorem zJ8 {k:NT}(h:zBh n i=some k):zIf f n (i::r)=(if(zIf f k r).2=0 then(setK n i.toNat (zIf f k r).1,0)else(zeroT,(zIf f k r).2))/\kB n (i::r)=kB k r:=by
 rw[zIf,zR,h];exact⟨rfl,rfl⟩
theorem kQe {P:Prop}(h:P:=by
 intro p;induction p with
 |nil=>
  intro d w v n A lp c aO hl hc hg hC hn hp hA hpre;obtain rfl:lp=0:=aO.symm;obtain⟨lf,PA,np,pc,TA,nt,tc,KA,nk,kc,rfl⟩:=hn.val;obtain⟨wb,hwb⟩:∃wb,wb=(w.alloc (.cells #[.bool lf,.slice PA np pc,.slice TA nt tc,.slice KA nk kc] 26)).alloc (.cells #[.bool false,.slice none 0 0,.slice none 0 0,.slice none 0 0] 26):=⟨_,rfl⟩;have hb0:Below w.heap.size w wb:=hwb▸kM Kk Kl;have bn:wb.heap.size=w.heap.size+2:=by rw[hwb];simp
  have dG:wb.heap[w.heap.size]? =some (.cells #[.bool lf,.slice PA np pc,.slice TA nt tc,.slice KA nk kc] 26 (0,0))/\wb.heap[w.heap.size+1]? =some (.cells #[.bool false,.slice none 0 0,.slice none 0 0,.slice none 0 0] 26 (0,0)):=hwb▸zBj w _ _ _ _ _ _ _ _ _ _;have HC:=hd (R.does d wb _ n (hn.below (hb0.mono Kb)) Kb (R.later _ _ hC hb0) (hpre n rfl));have HE:=R.enters;have HB:=hd hb0;have HS:=hd bn;have dH:=hd dG;obtain⟨x0,x1,x2,x3,_,_,_,_⟩:=zJ dG.1;obtain⟨FR,dI⟩:∃FR,FR=f n:=⟨_,rfl⟩;have HF:=hd (show zIf f n []=FR from dI.symm);have HG:=hd (show(kB n []).bind s=s n from rfl);rw[<-dI]at HC;obtain⟨F1,F2⟩:=FR;clear hn hp hA hpre hC hb0 bn dG aO dI;go_enter Tryz.func106,Tryz.ntmps106
  subst hwb;go_wp2_with(first|(refine HC.o.mono ?_;intro e w1 h1;obtain⟨v1,d1,rfl,ht1,aB,aY⟩:=h1;obtain⟨lf4,aM,bf,aK,aN,bg,aL,aU,bh,aV,rfl⟩:=(ht1.at_ (B:=w1.heap.size) (fun b hb=>hb.2)).val;have bo:=hd ((aB.block (w.heap.size+1) (by rw[HS.o];omega) Kb).trans dH.o.2);obtain⟨r0,r1,r2,r3,r4,r5,r6,r7⟩:=zJ bo.o;have oQ:=hd ht1;have iM:=hd aB;have pg:=hd aY;have hz1:=aB.size;rw[HS.o]at hz1;clear ht1 aB aY))
  have h7:=kD (a:=.bool lf4) (b:=.slice aM bf aK) (c:=.slice aN bg aL) (d:=.slice aU bh aV) bo.o;obtain⟨t0,t1,t2,t3,_,_,_,_⟩:=zJ h7;have hS:=HS.o;refine bodyPost_ret (v:=.tuple #[.agg #[.bool lf4,.slice aM bf aK,.slice aN bg aL,.slice aU bh aV],.int .i64 F2]) (by simp[results,Tryz.results106,go_sem,t0,t1,t2,t3]) rfl (zB0 HF.o (oQ.o.block_keep (fun b h1 h2=>by rw[jK];omega) (fun b h1 h2=>zT Kb)) (((Off.of_below HB.o).trans iM.o).set4 (.inl Kb)) ?_);rw[HG.o];exact pg.o.move Kb (by rw[jK];exact Nat.le_refl _) (HB.o.block g Kb) (zT Kb) (fun b h1 h2=>zT Kb)
 | cons i r ih=>
  intro d w v n A lp c aO hl hc hg hC hn hp hA hpre;obtain⟨k,rfl⟩:∃k,lp=k+1:=⟨r.length,by rw[<-aO];simp⟩;have bB:r.length=k:=by simpa using aO
  obtain⟨d',lf,ps,tx,ks,PA,pc,TA,tc,KA,kc,hd',hn',rfl,hps,htx,hf,hks⟩:=hn.open_;obtain⟨wb,hwb⟩:∃wb,wb=(w.alloc (.cells #[.bool lf,.slice PA ps.length pc,.slice TA tx.length tc,.slice KA ks.length kc] 26)).alloc (.cells #[.bool false,.slice none 0 0,.slice none 0 0,.slice none 0 0] 26):=⟨_,rfl⟩;have hb0:Below w.heap.size w wb:=hwb▸kM Kk Kl;have bn:wb.heap.size=w.heap.size+2:=by rw[hwb];simp
  have dG:wb.heap[w.heap.size]? =some (.cells #[.bool lf,.slice PA ps.length pc,.slice TA tx.length tc,.slice KA ks.length kc] 26 (0,0))/\wb.heap[w.heap.size+1]? =some (.cells #[.bool false,.slice none 0 0,.slice none 0 0,.slice none 0 0] 26 (0,0)):=hwb▸zBj w _ _ _ _ _ _ _ _ _ _;have hz:((k:Int)+1==0)=false:=by simp;omega
  have hnz:((k:Int)+1 !=0)=true:=by simp;omega
  obtain⟨b,o,rfl,hbl,hc0⟩:=hp.at_ (k:=0) Kc;have e0:iAt (i::r) 0=i:=rfl;rw[e0,Nat.add_zero]at hc0;have hcb:=(hb0.cell (p:=⟨b,o,none⟩) (by show b<_;omega)).trans hc0;have yA:b<w.heap.size:=hbl;have hbg:b≠g:=hA Kc _ rfl;obtain⟨D,hD,ve,hrun⟩:=zSd (some ⟨b,o,none⟩) k c hc;have HD:=hd (hD w _ i r hp bB);have yB:=hd (ve g (hA Kc));have cj:=hf.2.2.2.1;have HN:=hd hn;have bJ:=hd hks;have tq:=hd hpre;have yC:=hd hC;have HB:=hd hb0;have HS:=hd bn;have dH:=hd dG;have bb:=hd bB;have fk:=hd hn';have yD:=hd ih;obtain⟨x0,x1,x2,x3,_,_,_,_⟩:=zJ dG.1;have l0:=kL x0;have l1:=kL x1;have l2:=kL x2;have l3:=kL x3;have lc:=kL hcb;obtain⟨hb,lZ⟩:∃hb,zOf n i=hb:=⟨_,rfl⟩;have HK:=fun u:zMa wb.heap.size wb=>hd (zD6 n i hb lZ d u.1 _ ((hn.below ((hb0.trans (u.2.mono hb0.size)).mono Kb)).more (by have:=u.2.size;omega)));have ma:=hd lZ;clear hn hps htx hf hks hd' hb0 bn dG hp hA ve hpre hC aO hD bB hn' ih lZ x0 x1 x2 x3 hc0 hcb;go_enter Tryz.func106,Tryz.ntmps106
  cases hb
  ·have HF:=hd (zJ7 (f:=f) (r:=r) (zJx ma.o));subst hwb;go_wp2_with fail
   refine zAu ((w.alloc (.cells #[.bool lf,.slice PA ps.length pc,.slice TA tx.length tc,.slice KA ks.length kc] 26)).alloc (.cells #[.bool false,.slice none 0 0,.slice none 0 0,.slice none 0 0] 26)).heap.size Ka Ka ?_;repeat(go_big_quiet_step(exact zFm Kl (HK _).o))
   refine wpQuiet_nil ?_;intro _ hu;obtain⟨⟨w2,hw2⟩,rfl⟩:=hu;have bN:=hd (kI dH.o.2 hw2);obtain⟨r0,r1,r2,r3,r4,r5,r6,r7⟩:=zJ bN.o;have pO:=hd hw2;have hz2:=hw2.size;rw[HS.o]at hz2;clear l0 l1 l2 l3 lc HK hw2;go_wp2
   have h7:=kD (a:=.bool false) (b:=.slice none 0 0) (c:=.slice none 0 0) (d:=.slice none 0 0) bN.o;obtain⟨t0,t1,t2,t3,_,_,_,_⟩:=zJ h7;have hS:=HS.o;refine bodyPost_ret (v:=.tuple #[.agg #[.bool false,.slice none 0 0,.slice none 0 0,.slice none 0 0],.int .i64 5]) (by simp[results,Tryz.results106,go_sem,t0,t1,t2,t3]) rfl (zB0 HF.o.1 (zBs _ 0 _) ((Off.of_below (HB.o.trans (pO.o.mono Kb))).set4 (.inl Kb)) ?_);rw[HF.o.2];exact(zT Kb).trans ((pO.o.block g Kb).trans (HB.o.block g Kb))
  ·obtain⟨kid,fu⟩:=zJw ma.o;obtain⟨hk1,hk2,hk3⟩:=zA1 fu;have HF:=hd (zJ8 (f:=f) (r:=r) fu);obtain⟨j,hj⟩:∃j:Nat,i=(j:Int):=⟨i.toNat,by omega⟩;subst hj;have lM:j<ks.length:=by have:=hk2;rw[fk.o]at this;simp only[NT.ks]at this;omega
   have yE:=hd (show ks[j]? =some kid by have:=hk3;rw[fk.o]at this;simpa[NT.ks]using this);have pJ:=hd (show∀a,kB kid r=some a->pre a from fun a ha=>tq.o a (by rw[HF.o.2];exact ha));clear fu hk1 hk2 hk3;subst hwb;go_wp2_with fail
   refine zAu ((w.alloc (.cells #[.bool lf,.slice PA ps.length pc,.slice TA tx.length tc,.slice KA ks.length kc] 26)).alloc (.cells #[.bool false,.slice none 0 0,.slice none 0 0,.slice none 0 0] 26)).heap.size Ka Ka ?_;repeat(go_big_quiet_step(exact zFm Kl (HK _).o))
   refine wpQuiet_nil ?_;intro w2 hu;obtain⟨⟨_,hw2⟩,rfl⟩:=hu;have hz2:=hw2.size;rw[HS.o]at hz2;have aX:=hd (show Below w.heap.size w w2 from HB.o.trans (hw2.mono (by rw[HS.o];omega)));have ah:=hd (kI dH.o.1 hw2);have bN:=hd (kI dH.o.2 hw2);have hpc:w2.cell? ⟨b,o,none⟩=some (.int .i64 j):=lc ⟨w2,hw2⟩;obtain⟨m2,b',o',lf2,eJ,eK,eN,eP,eQ,eT,eU,eV,kc2,hm2,rfl,oD,dW,c0,c1,c2,c3⟩:=(bJ.o.below (aX.o.mono Kb)).at_ lM;have hmk:m2=kid:=by have:=yE.o;rw[hm2]at this;injection this
   subst hmk;have nz:=hd dW;obtain⟨x0,x1,x2,x3,_,_,_,_⟩:=zJ ah.o;obtain⟨r0,r1,r2,r3,r4,r5,r6,r7⟩:=zJ bN.o;clear l0 l1 l2 l3 lc HK hw2 hm2 dW;have dw:=fun(w':World)(hb:Below w2.heap.size w2 w')=>hd (yD.o d' w' _ m2 D k (c-1) bb.o Kb Kb (by have:=hb.size;omega) (R.later _ _ yC.o (aX.o.trans (hb.mono Kb))) (nz.o.below (hb.mono Kb)) ((HD.o.below (aX.o.trans (hb.mono Kb))).more (by have:=hb.size;omega)) (fun _=>yB.o) pJ.o);obtain⟨FR,dI⟩:∃FR,FR=zIf f m2 r:=⟨_,rfl⟩;have oJ:=hd dI;have eG:=hd (show∀W,Off g w2 W->(Off g w2 W/\W.cell? ⟨w.heap.size,3,none⟩=some (.slice (some ⟨b',o',none⟩) ks.length kc)/\W.cell? ⟨b,o,none⟩=some (.int .i64 j)/\W.cell? ⟨b',o'+j*4,none⟩=some (.bool lf2)/\W.cell? ⟨b',o'+j*4+1,none⟩=some (.slice eJ eK eN)/\W.cell? ⟨b',o'+j*4+2,none⟩=some (.slice eP eQ eT)/\W.cell? ⟨b',o'+j*4+3,none⟩=some (.slice eU eV kc2))from fun W h=>
    ⟨h,(h.cell (p:=⟨w.heap.size,3,none⟩) (by show w.heap.size<_;omega) (by show w.heap.size≠g;omega)).trans x3,(h.cell (p:=⟨b,o,none⟩) (by show b<_;omega) (by show b≠g;omega)).trans hpc,(h.cell (kQ c0) (by show b'≠g;omega)).trans c0,(h.cell (kQ c1) (by show b'≠g;omega)).trans c1,(h.cell (kQ c2) (by show b'≠g;omega)).trans c2,(h.cell (kQ c3) (by show b'≠g;omega)).trans c3⟩)
   rw[<-dI]at dw;clear dI;go_upto_region 5 with fail
   go_cut [8,9] (fun s8 s9 wx=>kE0 g w2 FR ((kB m2 r).bind s) s8 s9 wx)
   case first=>
    go_region_held3(fun W=>Off g w2 W/\W.cell? ⟨w.heap.size,3,none⟩=some (.slice (some ⟨b',o',none⟩) ks.length kc)/\W.cell? ⟨b,o,none⟩=some (.int .i64 j)/\W.cell? ⟨b',o'+j*4,none⟩=some (.bool lf2)/\W.cell? ⟨b',o'+j*4+1,none⟩=some (.slice eJ eK eN)/\W.cell? ⟨b',o'+j*4+2,none⟩=some (.slice eP eQ eT)/\W.cell? ⟨b',o'+j*4+3,none⟩=some (.slice eU eV kc2))
     (first
      |assumption
      |exact eG.o _ (Off.refl _ _).drew
      |(go_split_ands;exact eG.o _ (Off.alloc (by assumption) _))
      |(go_split_ands;exact eG.o _ (Off.set4 (by assumption) (.inl (by first|exact Nat.le_refl _|omega)))))
     (first
      |(go_at_call 106;refine Calls.mono (dw _ ?hh).o ?_;(case hh=>first|exact Kk.drew|exact(Kk.drew.alloc Kl _));intro e w3 h3;obtain⟨v3,d3,rfl,gS,p8,iV⟩:=h3;obtain⟨lf4,aM,bf,aK,aN,bg,aL,aU,bh,aV,rfl⟩:=(gS.at_ (B:=w3.heap.size) (fun b hb=>hb.2)).val;have pS:=eG.o w3 (Off.trans (by go_split_ands;assumption) p8);have qc:=hd gS;have vg:=hd p8;have mZ:=hd iV;(first|(have vk:=hd ((p8.block w2.heap.size (by show w2.heap.size<(World.heap _).size;simp) Kb).trans (heap_alloc_new (World.drew w2) _));obtain⟨q0,q1,q2,q3,q4,q5,q6,q7⟩:=zJ vk.o)|skip);have hz3:=p8.size;clear gS p8 iV))
    ·go_wp2_with fail
     go_meet
     exact kBi Kk.drew Kb qc.o vg.o mZ.o
    ·go_wp2_with fail
     go_meet
     exact kBj (Kk.drew.alloc Kl _) Kb Kl Kc vk.o qc.o vg.o mZ.o
   case rest=>
    obtain⟨g8,lf8,m9,mA,mB,mC,nt8,mD,mE,mF,mG,d8,rfl,rfl,gX,gP,vq,aQ,vr⟩:=hcut;obtain⟨F1,F2⟩:=FR;have zw:=aQ.size;have qj:=hd aQ;have lj:=hd vr;have yF:=hd vq;have yG:=hd gP;have bE:=hd ((aQ.block w.heap.size Kb Kb).trans ah.o);have tu:=hd ((aQ.block (w.heap.size+1) Kb Kb).trans bN.o);have yH:=(aQ.cell (p:=⟨b,o,none⟩) (by show b<_;omega) (by show b≠g;omega)).trans hpc;have HOW:=hd (show Off g w wc from(Off.of_below aX.o).trans aQ);have yI:=lt_of_block gP;clear x0 x1 x2 x3 r0 r1 r2 r3 r4 r5 r6 r7 c0 c1 c2 c3 hpc gP vq aQ vr eG dw hrun;obtain⟨x0,x1,x2,x3,_,_,_,_⟩:=zJ bE.o;obtain⟨r0,r1,r2,r3,r4,r5,r6,r7⟩:=zJ tu.o;obtain⟨k0,k1,k2,k3,_,_,_,_⟩:=zJ yG.o;have hS:=HS.o;rcases Classical.em (F2=0)with h0|h0
    ·subst h0;have HE:=hd (show zIf f n ((j:Int)::r)=(jS n j 1 [F1],0) by rw[HF.o.1,<-oJ.o];rfl);obtain⟨dm,yJ⟩:∃dm,dm=max d d8:=⟨_,rfl⟩;obtain⟨Q,hQ⟩:∃Q:Nat->Prop,Q=fun b=>w2.heap.size<=b/\b<wc.heap.size/\b≠g8:=⟨_,rfl⟩;obtain⟨W8,jg⟩:∃W8,W8=(wc.alloc (.cells #[.bool lf8,.slice m9 mA mB,.slice mC nt8 mD,.slice mE mF mG] 26)).drew:=⟨_,rfl⟩;have pA:Below wc.heap.size wc W8:=jg▸(Kk.alloc Kl _).drew;have tz:W8.heap.size=wc.heap.size+1:=by rw[jg];show(wc.alloc _).heap.size=_;simp
     have hvl:VL W8 W8.heap.size (some ⟨wc.heap.size,0,none⟩) [.bool lf8,.slice m9 mA mB,.slice mC nt8 mD,.slice mE mF mG]:=by
      rw[tz,jg];exact zYo wc 26 [.bool lf8,.slice m9 mA mB,.slice mC nt8 mD,.slice mE mF mG]
     have hoth:zGi Q dm W8 (some ⟨wc.heap.size,0,none⟩) [.agg #[.bool lf8,.slice m9 mA mB,.slice mC nt8 mD,.slice mE mF mG]] [F1]:=⟨rfl,by simpa[Value.cells]using hvl,fun q m hm=>by
      cases q with
      |zero=>
       simp only[List.getElem?_cons_zero,Option.some.injEq]at hm;subst hm;refine⟨_,rfl,(yF.o.deep (d':=dm) Kb).keep (fun b hb=>by rw[hQ];exact hb) (fun p hp=>⟨pA.cell hp.2.1,pA.frozen hp.2.1⟩)⟩
      |succ q=>simp at hm⟩
     have bV:=hd (zIe Q dm W8 (fun b hb=>by rw[hQ]at hb;have:=hb.2.1;omega) _ n j 1 1 1 (j:Int) 1 rfl rfl _ _ [F1] (((HN.o.below (HOW.o.below Kl Kb)).below (pA.mono Kb)).deep (d':=dm) Kb|>.more Kb) hoth rfl (by have:=lM;rw[fk.o];exact this) (by have:=cj;rw[fk.o];show ks.length+1<=_;omega));have vv:=hd hQ;have pB:=hd tz;have bM:=hd pA;clear yJ hQ pA tz hvl hoth;have jt:=hd (show∀W:World,(∀k,(k=w.heap.size∨k=b∨k=g8)->W.heap[k]? =wc.heap[k]?)->(W.cell? ⟨w.heap.size,0,none⟩=some (.bool lf)/\W.cell? ⟨w.heap.size,1,none⟩=some (.slice PA ps.length pc)/\W.cell? ⟨w.heap.size,2,none⟩=some (.slice TA tx.length tc)/\W.cell? ⟨w.heap.size,3,none⟩=some (.slice (some ⟨b',o',none⟩) ks.length kc)/\W.cell? ⟨b,o,none⟩=some (.int .i64 j)/\W.cell? ⟨g8,0,none⟩=some (.bool lf8)/\W.cell? ⟨g8,1,none⟩=some (.slice m9 mA mB)/\W.cell? ⟨g8,2,none⟩=some (.slice mC nt8 mD)/\W.cell? ⟨g8,3,none⟩=some (.slice mE mF mG))from fun W h=>
      ⟨(World.cell?_of_block (h _ (.inl rfl))).trans x0,(World.cell?_of_block (h _ (.inl rfl))).trans x1,(World.cell?_of_block (h _ (.inl rfl))).trans x2,(World.cell?_of_block (h _ (.inl rfl))).trans x3,(World.cell?_of_block (h _ (.inr (.inl rfl)))).trans yH,(World.cell?_of_block (h _ (.inr (.inr rfl)))).trans k0,(World.cell?_of_block (h _ (.inr (.inr rfl)))).trans k1,(World.cell?_of_block (h _ (.inr (.inr rfl)))).trans k2,(World.cell?_of_block (h _ (.inr (.inr rfl)))).trans k3⟩)
     have gG:=hd (jt.o wc.drew (fun _ _=>rfl));have yK:=hd (jt.o (wc.alloc (.cells #[.bool lf8,.slice m9 mA mB,.slice mC nt8 mD,.slice mE mF mG] 26)).drew (fun k hk=>Below.heap_alloc wc _ k Kb));subst jg;go_wp2_with fail
     go_region_held3(fun W=>W.cell? ⟨w.heap.size,0,none⟩=some (.bool lf)/\W.cell? ⟨w.heap.size,1,none⟩=some (.slice PA ps.length pc)/\W.cell? ⟨w.heap.size,2,none⟩=some (.slice TA tx.length tc)/\W.cell? ⟨w.heap.size,3,none⟩=some (.slice (some ⟨b',o',none⟩) ks.length kc)/\W.cell? ⟨b,o,none⟩=some (.int .i64 j)/\W.cell? ⟨g8,0,none⟩=some (.bool lf8)/\W.cell? ⟨g8,1,none⟩=some (.slice m9 mA mB)/\W.cell? ⟨g8,2,none⟩=some (.slice mC nt8 mD)/\W.cell? ⟨g8,3,none⟩=some (.slice mE mF mG))
      (first
       |(with_reducible exact lV)
       |(with_reducible exact yL)
       |(with_reducible exact yK.o)
       |(with_reducible exact gG.o))
      (first
       |(go_at_call 108;refine bV.o.mono ?_;intro e w9 h9;obtain⟨v9,rfl,gT,aZ⟩:=h9;obtain⟨lf9,iy,iz,i6,iA,iB,iC,iD,iE,iF,rfl⟩:=(gT.at_ (B:=w9.heap.size) (fun b hb=>hb.2)).val;have kw:=hd (((aZ.block _ (by have:=pB.o;omega)).trans (bM.o.block (w.heap.size+1) Kb)).trans tu.o);obtain⟨q0,q1,q2,q3,q4,q5,q6,q7⟩:=zJ kw.o;have yL:=jt.o w9 (fun k hk=>(aZ.block k (by have:=pB.o;omega)).trans (bM.o.block k Kb));have lV:=jt.o _ (fun k hk=>(zT (w:=w9) (g:=w.heap.size+1) (a:=.bool lf9) (b:=.slice iy iz i6) (c:=.slice iA iB iC) (d:=.slice iD iE iF) Kb).trans ((aZ.block k (by have:=pB.o;omega)).trans (bM.o.block k Kb)));have nC:=hd gT;have aH:=hd aZ;have qa:=aZ.size;rw[pB.o]at qa;clear gT aZ))
     go_wp2
     have h7:=kD (a:=.bool lf9) (b:=.slice iy iz i6) (c:=.slice iA iB iC) (d:=.slice iD iE iF) kw.o;obtain⟨t0,t1,t2,t3,_,_,_,_⟩:=zJ h7;have pp:=pB.o;have tA:=hd (show Off g w w9 from(HOW.o.trans (Off.of_below bM.o)).trans (Off.of_below aH.o));refine bodyPost_ret (v:=.tuple #[.agg #[.bool lf9,.slice iy iz i6,.slice iA iB iC,.slice iD iE iF],.int .i64 0]) (by simp[results,Tryz.results106,go_sem,t0,t1,t2,t3]) rfl (zB0 HE.o (nC.o.keep (fun b hb=>?_) (fun p hp=>?_)) (tA.o.set4 (.inl Kb)) ?_)
     ·rw[jK];obtain⟨h1,h2⟩:=hb;rw[vv.o]at h1;refine⟨?_,h2⟩;rcases h1 with h|h
      ·have:=h.1;omega
      ·omega
     ·have hne:p.block≠w.heap.size+1:=by
       obtain⟨h1,_⟩:=hp;rw[vv.o]at h1;rcases h1 with h|h
       ·have:=h.1;omega
       ·omega
      exact⟨World.cell?_of_block (zT hne),World.frozen?_of_block (zT hne)⟩
     ·rw[HF.o.2];exact lj.o.move Kb (by rw[jK];omega) (aX.o.block g hg) ((zT Kb).trans ((aH.o.block g Kb).trans (bM.o.block g Kb))) (fun b h1 h2=>(zT Kb).trans ((aH.o.block b Kb).trans (bM.o.block b h2)))
    ·have g1:(F2==0)=false:=by simp[h0]
     have g2:(F2 !=0)=true:=by simp[h0]
     have HE:=hd (show zIf f n ((j:Int)::r)=(zeroT,F2) by rw[HF.o.1,<-oJ.o];simp[h0]);clear h0;go_wp2
     have h7:=kD (a:=.bool false) (b:=.slice none 0 0) (c:=.slice none 0 0) (d:=.slice none 0 0) tu.o;obtain⟨t0,t1,t2,t3,_,_,_,_⟩:=zJ h7;refine bodyPost_ret (v:=.tuple #[.agg #[.bool false,.slice none 0 0,.slice none 0 0,.slice none 0 0],.int .i64 F2]) (by simp[results,Tryz.results106,go_sem,t0,t1,t2,t3]) rfl (zB0 HE.o (zBs _ 0 _) (HOW.o.set4 (.inl Kb)) ?_);rw[HF.o.2];exact lj.o.move Kb (by rw[jK];exact Nat.le_refl _) (aX.o.block g hg) (zT Kb) (fun b h1 h2=>zT Kb)):P:=h
theorem zT2 {s:NT->Option NT}(R:kBk fv c1 g f s C pre):
  ∀(p:List Int)(d:Nat)(w:World)(v:Value)(n:NT)(A:Option Addr)(lp c:Nat),p.length=lp->lp<=1000000->lp<=c->g<w.heap.size->C w->zV d w g v n->IL w w.heap.size A p->(p≠[]->∀a,A=some a->a.block≠g)->(∀a,kB n p=some a->pre a)->
   Calls Tryz.prog 106 #[v,.slice A lp c,.func (.func fv) #[] #[c1]] w (kEz g (zIf f n p) ((kB n p).bind s) w):=by
 exact kQe
theorem zNf {c2:Value}{s:NT->Option NT}(R:zT1 fv c1 c2 g f s C pre):
  ∀(p:List Int)(d:Nat)(w:World)(v:Value)(n:NT)(A:Option Addr)(lp c:Nat),p.length=lp->lp<=1000000->lp<=c->g<w.heap.size->C w->zV d w g v n->IL w w.heap.size A p->(p≠[]->∀a,A=some a->a.block≠g)->(∀a,kB n p=some a->pre a)->
   Calls Tryz.prog 106 #[v,.slice A lp c,.func (.func fv) #[] #[c1,c2]] w (kEz g (zIf f n p) ((kB n p).bind s) w):=by
 exact kQe
