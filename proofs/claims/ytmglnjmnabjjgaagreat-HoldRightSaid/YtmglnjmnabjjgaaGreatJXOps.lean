import Derived.Test.YtmglnjmnabjjgaaGreatJKSel
set_option maxRecDepth 100000
namespace Go.Proofs.YtmglnjmnabjjgaaGreat
open Go.RowKit
open Go.WideShapes (add_plain)
variable {W w w':World}{B g:Nat}{r10 r11 r12 r13 r14 r15 r16 r17 r18 r19 r20 r4 r5 r6 r7 r8 r9 u v x0 x1 x2 x3:Value}{t:TypeId}{l m p q:List Int}{b:Bool}{K pos s x:Int}{P:Prop}
theorem xlt {o:Obj}(h:w.heap[g]? =some o):g<w.heap.size:=(Array.getElem?_eq_some_iff.1 h).1
theorem zI1 {o:Obj}(h:W.heap[g]? =some o)(hb:Below W.heap.size W w'):w'.heap[g]? =some o:=(hb.block _ (xlt h)).trans h
theorem zD9 (h:w.heap[g]? =some (.cells #[x0,x1,x2,x3,r4,r5,r6,r7,r8,r9,r10,r11,r12,r13,r14,r15,r16,r17,r18,r19,r20] t (0,0))):
  w.cell? ⟨g,0,none⟩=some x0/\w.cell? ⟨g,1,none⟩=some x1/\w.cell? ⟨g,2,none⟩=some x2/\w.cell? ⟨g,3,none⟩=some x3:=by
 refine⟨?_,?_,?_,?_⟩<;>simp[World.cell?,h]
theorem zH2 (h:w.heap[g]? =some (.cells #[x0,x1,x2,x3,r4,r5,r6,r7,r8,r9,r10,r11,r12,r13,r14,r15,r16,r17,r18,r19,r20] t (0,0))):
  w.cell? ⟨g,4,none⟩=some r4/\w.cell? ⟨g,5,none⟩=some r5/\w.cell? ⟨g,6,none⟩=some r6/\w.cell? ⟨g,7,none⟩=some r7/\w.cell? ⟨g,8,none⟩=some r8/\w.cell? ⟨g,9,none⟩=some r9/\w.cell? ⟨g,10,none⟩=some r10/\w.cell? ⟨g,11,none⟩=some r11/\w.cell? ⟨g,12,none⟩=some r12/\w.cell? ⟨g,13,none⟩=some r13/\w.cell? ⟨g,14,none⟩=some r14/\w.cell? ⟨g,15,none⟩=some r15/\w.cell? ⟨g,16,none⟩=some r16/\w.cell? ⟨g,17,none⟩=some r17/\w.cell? ⟨g,18,none⟩=some r18/\w.cell? ⟨g,19,none⟩=some r19/\w.cell? ⟨g,20,none⟩=some r20:=by
 refine⟨?_,?_,?_,?_,?_,?_,?_,?_,?_,?_,?_,?_,?_,?_,?_,?_,?_⟩<;>simp[World.cell?,h]
def kBb (w:World)(r:List Int×Bool)(e:Ending)(w':World):Prop:=∃v,e=.returned (.tuple #[v,.bool r.2])/\zBt w' w.heap.size v r.1/\Below w.heap.size w w'
theorem kT {r:List Int×Bool}(h:r=(l,b))(ho:zBt w' w.heap.size v l)(hb:Below w.heap.size w w'):kBb w r (.returned (.tuple #[v,.bool b])) w':=by
 subst h;exact⟨v,rfl,ho,hb⟩
theorem zVq.old {e:Ending}(h:zVq W l e w')(hb:Below w.heap.size w W):zVq w l e w':=by
 obtain⟨v,he,ho,hb2⟩:=h;exact⟨v,he,ho.weaken hb.size,hb.trans (hb2.mono hb.size)⟩
theorem kFu (W:World)(l:List Int)(t:TypeId)(_hn:l≠[]):IL (W.alloc (.cells (l.map (Value.int .i64)).toArray t)) (W.heap.size+1) (some ⟨W.heap.size,0,none⟩) l:=fun _=>
 ⟨W.heap.size,0,rfl,by omega,fun k hk=>by rw[World.cell?_alloc_at _ _ _ _ rfl];simp[jY l k hk,hk]⟩
theorem kLd (W:World)(x:Int)(t:TypeId):IL (W.alloc (.cells #[.int .i64 x] t)) (W.alloc (.cells #[.int .i64 x] t)).heap.size (some ⟨W.heap.size,0,none⟩) [x]:=by
 have:=kFu W [x] t Kc;simpa using this
theorem kIe (W:World)(x y:Int)(t:TypeId):IL (W.alloc (.cells #[.int .i64 x,.int .i64 y] t)) (W.alloc (.cells #[.int .i64 x,.int .i64 y] t)).heap.size (some ⟨W.heap.size,0,none⟩) [x,y]:=by
 have:=kFu W [x,y] t Kc;simpa using this
theorem zQ (W:World)(o:Obj):Below W.heap.size W (W.alloc o):=Kk.alloc Kl _
def XA (w:World)(v:Value)(l:List Int):Prop:=∃A n c,v=.slice A n c/\l.length=n/\n<=1000/\n<=c/\IL w w.heap.size A l
theorem XA.later (h:XA w v l)(hb:Below w.heap.size w w'):XA w' v l:=by
 obtain⟨A,n,c,e,h1,h2,h3,h4⟩:=h;exact⟨A,n,c,e,h1,h2,h3,h4.later hb⟩
theorem XA.own (h:zBt w B v l)(hl:l.length<=1000):XA w v l:=by
 obtain⟨A,c,e,h1,_,h2⟩:=h.open_;exact⟨A,_,c,e,rfl,hl,h1,h2⟩
theorem zCv (W:World)(d:Nat):XA W (.slice none 0 d) []:=⟨none,0,d,rfl,rfl,by omega,by omega,IL.nil _ _ _⟩
theorem zBf (W:World)(x:Int)(t:TypeId):XA (W.alloc (.cells #[.int .i64 x] t)) (.slice (some ⟨W.heap.size,0,none⟩) 1 1) [x]:=⟨_,_,_,rfl,rfl,by omega,by omega,kLd W x t⟩
theorem zDy (W:World)(x y:Int)(t:TypeId):XA (W.alloc (.cells #[.int .i64 x,.int .i64 y] t)) (.slice (some ⟨W.heap.size,0,none⟩) 2 2) [x,y]:=⟨_,_,_,rfl,rfl,by omega,by omega,kIe W x y t⟩
theorem zB3 (hp:XA W v l)(hs:jI l=b):Calls Tryz.prog 82 #[v] W (jA (.bool b) W):=by
 obtain⟨A,n,c,rfl,h1,h2,_,h3⟩:=hp;subst hs;exact zLw (zXf A l n c W h1 Kb h3)
theorem zVe (hp:XA W u l)(hq:XA W v m)(hs:zX l m=s):Calls Tryz.prog 84 #[u,v] W (zHa (.int .i64 s) W):=by
 obtain⟨A,n,c,rfl,h1,h2,_,h3⟩:=hp;obtain⟨B,k,d,rfl,g1,g2,_,g3⟩:=hq;subst hs;exact kA9 A B l m n k c d W h1 g1 Kb Kb h3 g3
def kI4 (l:List Int):Prop:=∀j,j<l.length-> -4000000<=iAt l j/\iAt l j<=4000000
theorem zBc :kI4 []:=fun _ h=>absurd h (Nat.not_lt_zero _)
theorem zBd (h: -4000000<=x/\x<=4000000):kI4 [x]:=fun j hj=>by
 obtain rfl:j=0:=by simp at hj;omega
 exact h
theorem zBe {y:Int}(h: -4000000<=x/\x<=4000000)(h2: -4000000<=y/\y<=4000000):kI4 [x,y]:=fun j hj=>by
 rcases(show j=0∨j=1 by simp at hj;omega)with rfl|rfl
 ·exact h
 ·exact h2
theorem zCb {r:List Int}{k:Nat}{z:Int}(hz:(k:Int)=z)(hp:XA W u l)(hq:XA W v r)(hk:r.length≠0->k+r.length<=l.length)(hL:kI4 l)(hR:kI4 r):Calls Tryz.prog 83 #[u,.int .i64 z,v] W (zVq W (plusL l k r)):=by
 subst hz;obtain⟨A,n,c,rfl,rfl,h2,_,h3⟩:=hp;obtain⟨B,m,d,rfl,rfl,g2,_,g3⟩:=hq;exact kEm A B l r _ _ k c d W rfl rfl h2 hk hL hR h3 g3
theorem kEp (hp:XA W u l)(hq:XA W v m)(hs:zEd l m=b):Calls Tryz.prog 23 #[u,v] W (jA (.bool b) W):=by
 obtain⟨A,n,c,rfl,rfl,h2,h4,h3⟩:=hp;obtain⟨B,k,d,rfl,rfl,g2,g4,g3⟩:=hq;subst hs;exact zLw (zQi A B l m c d W Kb Kb h3 g3)
theorem kTl (hp:XA W u l)(hq:XA W v m)(hs:zEd l m=b):Calls Tryz.prog 37 #[u,v] W (jA (.bool b) W):=by
 obtain⟨A,n,c,rfl,rfl,h2,h4,h3⟩:=hp;obtain⟨B,k,d,rfl,rfl,g2,g4,g3⟩:=hq;subst hs;exact zLw (zVv A B l m c d W Kb Kb h3 g3)
theorem zI {w0:World}(h:Below w0.heap.size w0 W)(hb:Below W.heap.size W w'):Below w0.heap.size w0 w':=h.trans (hb.mono h.size)
def two {α:Type}(x y:α):Nat->α
 |0=>x
 |_=>y
theorem kBc (A1 A2:Option Addr)(l1 l2:List Int)(n1 n2 c1 c2:Nat)(W:World)(t:TypeId)(g:Nat)(hg:g=W.heap.size)(h1:l1.length=n1)(h2:l2.length=n2)(m1:n1<=1000)(m2:n2<=1000)
  (v1:IL W W.heap.size A1 l1) (v2:IL W W.heap.size A2 l2):
  Calls Tryz.prog 85 #[.slice (some ⟨g,0,none⟩) 2 2] (W.alloc (.cells #[.slice A1 n1 c1,.slice A2 n2 c2] t)) (zVq W (l1++l2)):=by
 subst hg h1 h2;have hb:=zQ W (.cells #[.slice A1 l1.length c1,.slice A2 l2.length c2] t);have e:zR8 (two l1 l2) 2=l1++l2:=by simp[zR8,two]
 rw[<-e];refine(zXi W.heap.size 0 2 2 (two A1 A2) (two l1 l2) (two c1 c2) _ Kb (fun k hk=>?_) (fun k hk=>?_) Kc (fun k hk=>?_)).mono fun _ _ h=>h.old hb
 ·match k,hk with
  |0,_=>exact m1
  |1,_=>exact m2
 ·rw[World.cell?_alloc_at _ _ _ _ rfl];match k,hk with
  |0,_=>simp[two]
  |1,_=>simp[two]
 ·match k,hk with
  |0,_=>exact v1.later hb
  |1,_=>exact v2.later hb
theorem IL.drop {A:Option Addr}(h:IL w B A l)(n c m:Nat)(hm:m=l.length)(hc:m<=c):IL w B (if c=n then A else A.map (·.add (n*1))) (l.drop n):=fun hn=>by
 have hl:n<l.length:=by
  rcases Nat.lt_or_ge n l.length with h|h
  ·exact h
  ·exact absurd (List.drop_eq_nil_of_le h) hn
 obtain⟨b,o,rfl,hb,hcell⟩:=h (by rintro rfl;simp at hl);rw[if_neg Kb];refine⟨b,o+n,by simp[add_plain],hb,fun k hk=>?_⟩;rw[List.length_drop]at hk;rw[Nat.add_assoc,hcell _ Kb,jY _ k (by rw[List.length_drop];exact hk),jY _ (n+k) Kb,List.getElem_drop]
theorem kBd (A:Option Addr)(n c k:Nat)(hk:k<=n)(hc:n<=c):∃D:Option Addr,(∀(w:World)(B:Nat)(l:List Int),IL w B A l->l.length=n->IL w B D (l.drop k))/\
  (∀W:World,(Instr.slice 27 (.slice A n c) (some (.int .i64 (k:Int))) none none).run Tryz.prog W=.ok (.slice D (n-k) (c-k)) W):=by
 refine⟨if c=k then A else A.map (·.add (k*1)),fun w B xs h hx=>h.drop k c n hx.symm hc,fun W=>?_⟩;have he:Tryz.prog.elem 27=3:=Ka;have hs:∀W,(sizeOf 3).run Tryz.prog W=.ok 1 W:=fun _=>by kernel_rfl
 rw[run_slice_l W 27 A n c (by rw[he];exact Tryz.underlying27) .i64 _ Kb Kb,he,hs];simp[Result.andThen,sliced]
theorem zOk (h:jI l=true):kI4 l:=fun j hj=>by
 have:=(zDf l).1 h j hj;omega
theorem zEj {t:List Int}(h:(jI p&&jI q&&jI t&&zE9 pos)=false):jF K q t pos p=noR:=by unfold jF;rw[h];rfl
theorem zJ9 {t:List Int}(h:(jI p&&jI q&&jI t&&zE9 pos)=true)(hK:K≠5):jF K q t pos p=jH K q pos p:=by unfold jF;rw[h,if_pos rfl,if_neg (fun h=>hK h.1)]
theorem kBn (h:q.length=0):jH K q pos p=(p,true):=by unfold jH;rw[if_pos h]
theorem zDw (h:zX q p=s)(hs:s≠0):q.length<=p.length:=by
 subst h;rcases zAt q p with⟨h0,h1,_,_⟩|⟨h0,_,h2,_⟩|⟨h0,_,_,h3⟩|⟨h0,_⟩
 ·rw[zEe]at h1;omega
 ·unfold zEd at h2;rw[of_decide_eq_true h2];exact Nat.le_refl _
 ·rw[zE0]at h3;omega
 ·exact absurd h0 hs
theorem zNg (h:zX q p=3):q.length<p.length:=by
 rcases zAt q p with⟨h0,_⟩|⟨h0,_⟩|⟨_,_,_,h3⟩|⟨h0,_⟩
 ·omega
 ·omega
 ·rw[zE0]at h3;omega
 ·omega
theorem kNq (h:P:=by
 go_wp2_with(first
  |(go_at_call 83;refine Calls.mono (zCb (k:=k) rfl (by first|exact HP.o _ ac.o|exact HP.o _ (ac.o.alloc ac.o.size _)) (by first|exact zCv _ _|exact zBf _ _ _|exact zDy _ _ _ _) (by first|exact fun h=>absurd rfl h|exact fun _=>nG.o|exact fun _=>fB.o) (by exact dO.o) (by first|exact zBc|exact zBd Kb|exact zBe Kb Kb)) ?_;rintro e w9 ⟨v9,rfl,ho,b9⟩;have HO:=hd (ho.weaken (b':=w.heap.size) (by first|exact Nat.le_trans ar.o.size ac.o.size|exact Nat.le_trans ar.o.size (ac.o.alloc ac.o.size _).size));have aH:=hd (show Below W0.heap.size W0 w9 from by first|exact zI ac.o b9|exact zI (ac.o.alloc ac.o.size _) b9);clear b9 ho)
  |(go_at_call 83;refine Calls.mono (zCb (k:=0) rfl (by first|exact HP.o _ ac.o|exact HP.o _ (ac.o.alloc ac.o.size _)) (by first|exact zCv _ _|exact zBf _ _ _|exact zDy _ _ _ _) (by first|exact fun h=>absurd rfl h|exact fun _=>nG.o|exact fun _=>fB.o) (by exact dO.o) (by first|exact zBc|exact zBd Kb|exact zBe Kb Kb)) ?_;rintro e w9 ⟨v9,rfl,ho,b9⟩;have HO:=hd (ho.weaken (b':=w.heap.size) (by first|exact Nat.le_trans ar.o.size ac.o.size|exact Nat.le_trans ar.o.size (ac.o.alloc ac.o.size _).size));have aH:=hd (show Below W0.heap.size W0 w9 from by first|exact zI ac.o b9|exact zI (ac.o.alloc ac.o.size _) b9);clear b9 ho)
  |(go_at_call 82;(try rw[<-HW.o]);refine Calls.mono (zB3 (by first|exact HP.o _ ac.o|exact HQ.o _ ac.o|exact HT.o _ ac.o|exact zBf _ _ _) (by first|exact H1.o|exact H2.o|exact H3.o|exact H4.o)) ?_;rintro e w9 ⟨rfl,b9⟩;have ac:=hd (show Below W0.heap.size W0 w9 from by first|exact zI ac.o b9|exact zI (ac.o.alloc ac.o.size _) b9);clear b9 x0 x1 x2 x3;obtain⟨x0,x1,x2,x3⟩:=HK.o _ ac.o)
  |fail)
 go_ret2
 first
  |exact kT HF.o (zBt.nil _ _) (ar.o.trans (ac.o.mono ar.o.size))
  |exact kT HF.o HO.o (ar.o.trans (aH.o.mono ar.o.size))
  |fail):P:=h
theorem kPq (h:P:=by
 have nG:=hd (show k+1<=p.length by have h:=zDw HS.o Kd;have h2:=bj.o;omega);have HF:=hd (show jF _ q t pos p=(plusL p k [1],true) by rw[HL.o];simp[jH,HS.o,bj.o]);exact kNq):P:=h
theorem kR3 (h:P:=by
 go_upto_region 12 with fail
 go_quiet(fail)
 generalize cK:World.drewN _ _=w5
 have ac:=hd (show Below W0.heap.size W0 w5 from cK▸zZ ac.o _);clear cK x0 x1 x2 x3;obtain⟨x0,x1,x2,x3⟩:=HK.o _ ac.o;have HF:=hd (show jF _ q t pos p=(p,true) by rw[HL.o];simp[jH,HS.o,bj.o]);exact kNq):P:=h
theorem kR4 (h:P:=by
 have nG:=hd (show k+1<=p.length by have h:=zDw HS.o Kd;have h2:=bj.o;omega);have HF:=hd (show jF _ q t pos p=(plusL p k [-1],true) by rw[HL.o];simp[jH,HS.o,bj.o,lastL,HZ.o]);exact kNq):P:=h
set_option maxHeartbeats 8000000 in
theorem kIz (A Q T:Option Addr)(p q t:List Int)(n lq lt c cq ct:Nat)(K pos:Int)(r4 r5 r6 r7 r8 r9 r10 r11 r12 r13 r14 r15 r16 r17 r18 r19 r20:Value)(w:World)(hn:p.length=n)(hlq:q.length=lq)(hlt:t.length=lt)(hl:n<=1000)(hl2:lq<=1000)(cj:lt<=1000)(hc:n<=c)(hc2:lq<=cq)(hc3:lt<=ct)(lh:K≠5)(hp:IL w w.heap.size A p)(hq:IL w w.heap.size Q q)(ht:IL w w.heap.size T t):
  Calls Tryz.prog 46 #[.slice A n c,.agg #[.int .i64 K,.slice Q lq cq,.slice T lt ct,.int .i64 pos,r4,r5,r6,r7,r8,r9,r10,r11,r12,r13,r14,r15,r16,r17,r18,r19,r20]] w (kBb w (jF K q t pos p)):=by
 obtain⟨W0,hW⟩:∃W0,W0=w.alloc (.cells #[Value.int .i64 K,.slice Q lq cq,.slice T lt ct,.int .i64 pos,r4,r5,r6,r7,r8,r9,r10,r11,r12,r13,r14,r15,r16,r17,r18,r19,r20] 35):=⟨_,rfl⟩;have hb0:Below w.heap.size w W0:=hW▸zQ w _;have e0:W0.heap[w.heap.size]? =some (.cells #[Value.int .i64 K,.slice Q lq cq,.slice T lt ct,.int .i64 pos,r4,r5,r6,r7,r8,r9,r10,r11,r12,r13,r14,r15,r16,r17,r18,r19,r20] 35 (0,0)):=hW▸heap_alloc_new _ _;have HK:=hd (show∀W,Below W0.heap.size W0 W->(W.cell? ⟨w.heap.size,0,none⟩=some (.int .i64 K)/\W.cell? ⟨w.heap.size,1,none⟩=some (.slice Q lq cq)/\W.cell? ⟨w.heap.size,2,none⟩=some (.slice T lt ct)/\W.cell? ⟨w.heap.size,3,none⟩=some (.int .i64 pos))from fun W h=>zD9 (zI1 e0 h));have fU:=hd (fun W(h:Below W0.heap.size W0 W)=>hp.later (hb0.trans (h.mono hb0.size)));have nH:=hd (fun W(h:Below W0.heap.size W0 W)=>hq.later (hb0.trans (h.mono hb0.size)));have HIT:=hd (fun W(h:Below W0.heap.size W0 W)=>ht.later (hb0.trans (h.mono hb0.size)));have HP:=hd (show∀W,Below W0.heap.size W0 W->XA W (.slice A n c) p from fun W h=>⟨A,n,c,rfl,hn,hl,hc,fU.o W h⟩);have HQ:=hd (show∀W,Below W0.heap.size W0 W->XA W (.slice Q lq cq) q from fun W h=>⟨Q,lq,cq,rfl,hlq,hl2,hc2,nH.o W h⟩);have HT:=hd (show∀W,Below W0.heap.size W0 W->XA W (.slice T lt ct) t from fun W h=>⟨T,lt,ct,rfl,hlt,cj,hc3,HIT.o W h⟩);have ac:=hd (Below.refl W0.heap.size W0);have HW:=hd hW;have ar:=hd hb0;have HN:=hd hn;have bj:=hd hlq;have eX:=hd hlt;have H4:=hd (zN2 pos);obtain⟨x0,x1,x2,x3⟩:=HK.o W0 ac.o;clear hp hq ht hW hb0 e0 hn hlq hlt;cases h1:jI p
 ·have HF:=hd (zEj (K:=K) (q:=q) (t:=t) (pos:=pos) (p:=p) (by rw[h1];rfl));have H1:=hd h1;clear h1;go_enter Tryz.func46,Tryz.ntmps46
  exact kNq
 have H1:=hd h1;cases h2:jI q
 ·have H2:=hd h2;have HF:=hd (zEj (K:=K) (q:=q) (t:=t) (pos:=pos) (p:=p) (by rw[h2];simp));clear h1 h2;go_enter Tryz.func46,Tryz.ntmps46
  exact kNq
 have H2:=hd h2;cases h3:jI t
 ·have H3:=hd h3;have HF:=hd (zEj (K:=K) (q:=q) (t:=t) (pos:=pos) (p:=p) (by rw[h3];simp));clear h1 h2 h3;go_enter Tryz.func46,Tryz.ntmps46
  exact kNq
 have H3:=hd h3;cases h4:zE9 pos
 ·have HF:=hd (zEj (K:=K) (q:=q) (t:=t) (pos:=pos) (p:=p) (by rw[h4];simp));rw[h4]at H4;clear h1 h2 h3 h4;go_enter Tryz.func46,Tryz.ntmps46
  exact kNq
 have HL:=hd (zJ9 (K:=K) (q:=q) (t:=t) (pos:=pos) (p:=p) (by rw[h1,h2,h3,h4];rfl) lh);rw[h4]at H4;have dO:=hd (zOk h1);have yu:=hd ((zDf q).1 h2);obtain⟨g0,g1⟩:=(zKd pos).1 h4;clear h1 h2 h3 h4;rcases lq with _|k
 ·have HF:=hd (show jF K q t pos p=(p,true) by rw[HL.o,kBn bj.o]);go_enter Tryz.func46,Tryz.ntmps46
  go_wp2_with(first
   |(go_at_call 82;(try rw[<-HW.o]);refine Calls.mono (zB3 (by first|exact HP.o _ ac.o|exact HQ.o _ ac.o|exact HT.o _ ac.o|exact zBf _ _ _) (by first|exact H1.o|exact H2.o|exact H3.o|exact H4.o)) ?_;rintro e w9 ⟨rfl,b9⟩;have ac:=hd (show Below W0.heap.size W0 w9 from by first|exact zI ac.o b9|exact zI (ac.o.alloc ac.o.size _) b9);clear b9 x0 x1 x2 x3;obtain⟨x0,x1,x2,x3⟩:=HK.o _ ac.o))
  exact kNq
 obtain⟨s,hs⟩:∃s,zX q p=s:=⟨_,rfl⟩;have HS:=hd hs;clear hs;go_enter Tryz.func46,Tryz.ntmps46
 go_upto_region 5 with(first
   |(go_at_call 82;(try rw[<-HW.o]);refine Calls.mono (zB3 (by first|exact HP.o _ ac.o|exact HQ.o _ ac.o|exact HT.o _ ac.o|exact zBf _ _ _) (by first|exact H1.o|exact H2.o|exact H3.o|exact H4.o)) ?_;rintro e w9 ⟨rfl,b9⟩;have ac:=hd (show Below W0.heap.size W0 w9 from by first|exact zI ac.o b9|exact zI (ac.o.alloc ac.o.size _) b9);clear b9 x0 x1 x2 x3;obtain⟨x0,x1,x2,x3⟩:=HK.o _ ac.o))
 have cI:=hd (fun j=>zQo (n:=j) (zVe (HQ.o _ (zZ ac.o j)) (HP.o _ (zZ ac.o j)) HS.o));go_quiet((go_at_call 84;exact cI.o _))
 generalize cK:World.drewN _ _=w5
 have ac:=hd (show Below W0.heap.size W0 w5 from cK▸zZ ac.o _);clear cK x0 x1 x2 x3;obtain⟨x0,x1,x2,x3⟩:=HK.o _ ac.o;clear cI;have hs4:s=0∨s=1∨s=2∨s=3:=by
  have:=HS.o;rcases zAt q p with⟨h,_⟩|⟨h,_⟩|⟨h,_⟩|⟨h,_⟩<;>omega
 by_cases hK4:K=4
 ·subst hK4;rcases hs4 with rfl|rfl|rfl|rfl
  ·exact kR3
  ·go_upto_region 12 with fail
   go_quiet(fail)
   generalize cK:World.drewN _ _=w5
   have ac:=hd (show Below W0.heap.size W0 w5 from cK▸zZ ac.o _);clear cK x0 x1 x2 x3;obtain⟨x0,x1,x2,x3⟩:=HK.o _ ac.o;exact kPq
  ·exact kR3
  ·have fB:=hd (show k+2<=p.length by have h:=zNg HS.o;have h2:=bj.o;omega);obtain⟨b1,o1,rfl,hb1,e1⟩:=(fU.o w5 ac.o).at_ (show k+1<p.length from fB.o);have hkn:k+1<n:=by have h:=fB.o;have h2:=HN.o;omega
   by_cases jz:pos<=iAt p (k+1)
   ·go_upto_region 12 with fail
    go_quiet(fail)
    generalize cK:World.drewN _ _=w5
    have ac:=hd (show Below W0.heap.size W0 w5 from cK▸zZ ac.o _);clear cK x0 x1 x2 x3;obtain⟨x0,x1,x2,x3⟩:=HK.o _ ac.o;have HF:=hd (show jF _ q t pos p=(plusL p k [1,-pos],true) by rw[HL.o];simp[jH,HS.o,bj.o,jz]);exact kNq
   ·have yw:decide (pos<=iAt p (k+1))=false:=decide_eq_false jz;have aD:=hd jz;clear jz;go_upto_region 12 with fail
    go_quiet(fail)
    generalize cK:World.drewN _ _=w5
    have ac:=hd (show Below W0.heap.size W0 w5 from cK▸zZ ac.o _);clear cK x0 x1 x2 x3;obtain⟨x0,x1,x2,x3⟩:=HK.o _ ac.o;have HF:=hd (show jF _ q t pos p=(p,true) by rw[HL.o];simp[jH,HS.o,bj.o,aD.o]);exact kNq
 by_cases ql:K=1
 ·subst ql;rcases hs4 with rfl|rfl|rfl|rfl
  ·have HF:=hd (show jF _ q t pos p=(p,true) by rw[HL.o];simp[jH,HS.o,bj.o]);exact kNq
  ·exact kPq
  ·exact kPq
  ·exact kPq
 by_cases hK3:K=3
 ·subst hK3;obtain⟨b1,o1,rfl,hb1,e1⟩:=(nH.o w5 ac.o).at_ (show k<q.length by have:=bj.o;omega);by_cases hz:iAt q k=0
  ·have hz':(iAt q k==0)=true:=by simp[hz]
   have HF:=hd (show jF 3 q t pos p=noR by rw[HL.o];simp[jH,lastL,bj.o,hz]);clear hz hs4;go_wp2
   go_ret2
   exact kT HF.o (zBt.nil _ _) (ar.o.trans (ac.o.mono ar.o.size))
  have hz':(iAt q k==0)=false:=by simp[hz]
  have HZ:=hd hz;clear hz;rcases hs4 with rfl|rfl|rfl|rfl
  ·have HF:=hd (show jF _ q t pos p=(p,true) by rw[HL.o];simp[jH,HS.o,bj.o,lastL,HZ.o]);exact kNq
  ·exact kR4
  ·exact kR4
  ·have fB:=hd (show k+2<=p.length by have h:=zNg HS.o;have h2:=bj.o;omega);have HF:=hd (show jF _ q t pos p=(plusL p k [-1,pos],true) by rw[HL.o];simp[jH,HS.o,bj.o,lastL,HZ.o]);exact kNq
 by_cases hK2:K=2
 ·subst hK2;rcases hs4 with rfl|rfl|rfl|rfl
  ·have HF:=hd (show jF _ q t pos p=(p,true) by rw[HL.o];simp[jH,HS.o,bj.o]);exact kNq
  ·have nG:=hd (show k+1<=p.length by have h:=zDw HS.o Kd;have h2:=bj.o;omega);have HF:=hd (show jF _ q t pos p=(plusL p k [-1],true) by rw[HL.o];simp[jH,HS.o,bj.o]);exact kNq
  ·have HF:=hd (show jF 2 q t pos p=noR by rw[HL.o];simp[jH,HS.o,bj.o]);go_wp2
   go_ret2
   exact kT HF.o (zBt.nil _ _) (ar.o.trans (ac.o.mono ar.o.size))
  ·have HF:=hd (show jF 2 q t pos p=noR by rw[HL.o];simp[jH,HS.o,bj.o]);go_wp2
   go_ret2
   exact kT HF.o (zBt.nil _ _) (ar.o.trans (ac.o.mono ar.o.size))
 have k1:(K==1)=false:=by simp[ql]
 have k2:(K==2)=false:=by simp[hK2]
 have k3:(K==3)=false:=by simp[hK3]
 have k4:(K==4)=false:=by simp[hK4]
 have k5:(K==5)=false:=by simp[lh]
 have HF:=hd (show jF K q t pos p=(p,true) by rw[HL.o];simp[jH,ql,hK2,hK3,hK4]);clear hs4 ql hK2 hK3 hK4 lh
 go_wp2_with(first
       |(go_at_call 83;refine Calls.mono (zCb (k:=k) rfl (by first|exact HP.o _ ac.o|exact HP.o _ (ac.o.alloc ac.o.size _)) (by first|exact zCv _ _|exact zBf _ _ _|exact zDy _ _ _ _) (by first|exact fun h=>absurd rfl h|exact fun _=>nG.o|exact fun _=>fB.o) (by exact dO.o) (by first|exact zBc|exact zBd Kb|exact zBe Kb Kb)) ?_;rintro e w9 ⟨v9,rfl,ho,b9⟩;have HO:=hd (ho.weaken (b':=w.heap.size) (by first|exact Nat.le_trans ar.o.size ac.o.size|exact Nat.le_trans ar.o.size (ac.o.alloc ac.o.size _).size));have aH:=hd (show Below W0.heap.size W0 w9 from by first|exact zI ac.o b9|exact zI (ac.o.alloc ac.o.size _) b9);clear b9 ho))
 go_ret2
 exact kT HF.o HO.o (ar.o.trans (aH.o.mono ar.o.size))
