/- The document's Copy: a tree of its own, its row its own. -/
import Derived.Test.YtggapngibkeodaaTBuild
namespace Go.Proofs.Ytggapngibkeodaa
open Go.RowKit
open Go.WideShapes (add_plain)

theorem run_append_zeroG {w : World} {ty t : TypeId} {base e size n : Nat} {i : TypeInfo} {v : Value} {xs : List Value} {A : Option Addr} {c : Nat} (ht : Try.prog.underlying t = some (.slice e)) (hi : Try.prog.info? e = some i) (hown : w.ownsRow base e size v n xs) :
    (Builtin.append_ #[t, t] ty #[v, .slice A 0 c]).run Try.prog w = .ok v w := by
  rcases hown.2 with ⟨rfl, rfl⟩ | ⟨g, cap, cur, rfl, _, _, hnc, _⟩
  · cases A <;> simp [Builtin.append_, run_underlying ht, sizeOf, typeInfo, hi, Builtin.lenOf, Builtin.firstCells, loadCells, loadCellsFrom]
  · cases A <;> simp [Builtin.append_, run_underlying ht, sizeOf, typeInfo, hi, Builtin.lenOf, Builtin.firstCells, loadCells, loadCellsFrom, hnc, storeCells]

/-- A list appended to nil. -/
theorem run_append_nilG {ts te : TypeId} {size by_ : Nat} (E : ElemG ts te size by_) (W : World) (ty : TypeId) (A : Option Addr) (m c B : Nat) (l : List Value) (hn : l.length = m * size) (hp : VL W B A l) (h1 : ∀ u ∈ l, u.oneCell' = true) (h63 : m ≤ maxLen) (hby : m * by_ ≤ 140737488355328) :
    ∃ A' c' w', (Builtin.append_ #[ts, ts] ty #[.slice none 0 0, .slice A m c]).run Try.prog W = .ok (.slice A' m c') w' ∧ w'.ownsRow W.heap.size te size (.slice A' m c') m l ∧ W.grownBy w' none := by
  obtain ⟨i0, z, hi, hz0, hz1, hz2, hz3⟩ := E.info
  have hsz := E.pos
  have h0 := World.ownsRow_nil W W.heap.size te size
  rcases Nat.eq_zero_or_pos m with hm | hm
  · subst hm
    have hl : l = [] := List.eq_nil_of_length_eq_zero (by simpa using hn)
    subst hl
    exact ⟨none, 0, W, run_append_zeroG E.under hi h0, h0, rfl, rfl, rfl, Nat.le_refl _, fun _ _ _ => rfl⟩
  · have hl : 0 < l.length := by have := Nat.mul_pos hm hsz; omega
    obtain ⟨b, o, rfl, _, hc⟩ := hp (List.length_pos_iff.1 hl)
    obtain ⟨g, cap, w', hr, h2, h3, _, _⟩ := run_append_lies (P := Try.prog) W ts ty W.heap.size te i0 z size by_ E.under hi hz0 hz1 hz2 hz3 hsz (.slice none 0 0) 0 [] h0 ⟨b, o, none⟩ m c l hn (fun j u hj => by rw [add_plain]; exact hc j u hj) h1 hm (by omega) (by rw [Nat.zero_add]; exact hby) (Nat.le_refl _) _ rfl
    rw [Nat.zero_add] at hr h2
    exact ⟨some ⟨g, 0, none⟩, cap, w', hr, h2, h3⟩

theorem step_append_nilG {ts te : TypeId} {size by_ : Nat} (E : ElemG ts te size by_) (W : World) {ops : Array Oper} {o : Oper} {a : Act} {K : Act → World → Prop} {Q : Exit → Act → World → Prop} {F : Prop} (hgd : o.guard = none) (s x : Operand)
    (ho : o.op = .call { callee := .builtin .append, args := #[s, x], argTypes := #[ts, ts] }) (hs : a.eval s = .slice none 0 0)
    (A : Option Addr) (m c B : Nat) (l : List Value) (hx : a.eval x = .slice A m c) (hn : l.length = m * size) (hp : VL W B A l) (h1 : ∀ u ∈ l, u.oneCell' = true) (h63 : m ≤ maxLen) (hby : m * by_ ≤ 140737488355328)
    (h : ∀ A' c' w', w'.ownsRow W.heap.size te size (.slice A' m c') m l → W.grownBy w' none → K (a.put o.dst (.slice A' m c')) w') :
    if Region.wanted o (yielded ops a.tmps) = true then Oper.wp Try.prog o a W K Q else F := by
  have hw : Region.wanted o (yielded ops a.tmps) = true := by simp [Region.wanted, hgd]
  rw [if_pos hw]
  obtain ⟨A', c', w', hr, h2, h3⟩ := run_append_nilG E W o.type A m c B l hn hp h1 h63 hby
  unfold Oper.wp execOp
  simp only [ho, resolve, invoke, builtin, Sem.run_bind, Sem.run_pure, Result.andThen_ok, List.map_toArray, List.map_cons, List.map_nil, hs, hx, hr]
  exact h A' c' w' h2 h3
theorem wpList_append_nilG {ts te : TypeId} {size by_ : Nat} (E : ElemG ts te size by_) (W : World) {ops : Array Oper} {rest : List Oper} {o : Oper} {a : Act} {Q : Exit → Act → World → Prop} (hgd : o.guard = none) (s x : Operand)
    (ho : o.op = .call { callee := .builtin .append, args := #[s, x], argTypes := #[ts, ts] }) (hs : a.eval s = .slice none 0 0)
    (A : Option Addr) (m c B : Nat) (l : List Value) (hx : a.eval x = .slice A m c) (hn : l.length = m * size) (hp : VL W B A l) (h1 : ∀ u ∈ l, u.oneCell' = true) (h63 : m ≤ maxLen) (hby : m * by_ ≤ 140737488355328)
    (h : ∀ A' c' w', w'.ownsRow W.heap.size te size (.slice A' m c') m l → W.grownBy w' none → wpList Try.prog ops Q rest (a.put o.dst (.slice A' m c')) w') :
    wpList Try.prog ops Q (o :: rest) a W := by
  refine wpList_plain hgd fun K hK => ?_
  obtain ⟨A', c', w', hr, h2, h3⟩ := run_append_nilG E W o.type A m c B l hn hp h1 h63 hby
  unfold Oper.wp execOp
  simp only [ho, resolve, invoke, builtin, Sem.run_bind, Sem.run_pure, Result.andThen_ok, List.map_toArray, List.map_cons, List.map_nil, hs, hx, hr]
  exact hK _ _ (h A' c' w' h2 h3)
theorem grown_none {W w' : World} (h : W.grownBy w' none) : Below W.heap.size W w' := ⟨h.os, h.tape, h.output, h.size, fun k hk => h.block k hk (by simp)⟩
theorem own_vp {t : TypeId} {size n : Nat} {A : Option Addr} {c : Nat} {xs : List Value} {w : World} {base : Nat} (h : w.ownsRow base t size (.slice A n c) n xs) : VP (fun b => base ≤ b ∧ b < w.heap.size) w A xs := fun k u hu => by
  obtain ⟨A', c', e, _, _, hf⟩ := own_free h
  injection e with e1 e2 e3
  subst e1 e3
  obtain ⟨g, e, h1, h2, h3⟩ := hf k u hu
  exact ⟨g, 0, e, ⟨h1, h2⟩, by rw [Nat.zero_add]; exact h3⟩

theorem own_cap {t : TypeId} {size n : Nat} {A : Option Addr} {c : Nat} {xs : List Value} {w : World} {base : Nat} (h : w.ownsRow base t size (.slice A n c) n xs) : n ≤ c := by
  obtain ⟨A', c', e, h1, _, _⟩ := own_free h
  injection e with e1 e2 e3
  rw [e3]; exact h1
/-- A list that is made anew. -/
def NewV (n : Nat) (xs : List Value) (w : World) (e : Ending) (w' : World) : Prop :=
  ∃ A c, e = .returned (.slice A n c) ∧ VP (fun b => w.heap.size ≤ b ∧ b < w'.heap.size) w' A xs ∧ Below w.heap.size w w' ∧ n ≤ c
set_option maxHeartbeats 1000000 in
theorem r3copy_any (A : Option Addr) (l : List Int) (n c : Nat) (w : World) (hn : l.length = n) (hl : n ≤ 35184372088832) (hp : VL w w.heap.size A (rv l)) :
    Calls Try.prog 36 #[.slice A n c] w (NewV n (rv l) w) := by
  have HP := hd hp
  have HN := hd hn
  clear hp hn
  go_enter Try.func36, Try.ntmps36
  go_wp2_with (at_builtin; refine wpList_append_nilG runeG w rfl _ _ rfl rfl A n c w.heap.size (rv l) rfl (by rw [rv_len, HN.out, Nat.mul_one]) HP.out (rv_one l) (by unfold maxLen; omega) (by omega) ?_; intro A' c' w1 ho1 hg1)
  go_ret
  exact ⟨A', c', rfl, own_vp ho1, grown_none hg1, own_cap ho1⟩

/-- The new node's variable: its block, and what its lists hold. -/
def OutN (w : World) (lf : Bool) (ps : List Pr) (tx : List Int) (kids : Value) (s4 : Value) (wx : World) : Prop :=
  ∃ (gO : Nat) (gp : Option Addr) (cp : Nat) (gt : Option Addr) (ct : Nat), s4 = .pointer (some ⟨gO, 0, none⟩) ∧ Below w.heap.size w wx ∧ wx.heap[w.heap.size + 1]? = some (.cells #[.bool false, .slice none 0 0, .slice none 0 0, .slice none 0 0] 26) ∧ w.heap.size + 2 ≤ gO ∧ wx.cell? ⟨w.heap.size, 3, none⟩ = some kids ∧
    wx.heap[gO]? = some (.cells #[.bool lf, .slice gp ps.length cp, .slice gt tx.length ct, .slice none 0 0] 26 (0, 0)) ∧
    VP (fun b => w.heap.size + 2 ≤ b ∧ b < wx.heap.size ∧ b ≠ gO) wx gp (pv ps) ∧ VP (fun b => w.heap.size + 2 ≤ b ∧ b < wx.heap.size ∧ b ≠ gO) wx gt (rv tx) ∧ ps.length ≤ cp ∧ tx.length ≤ ct

theorem outN_new {w wb W W' w2 w3 : World} {lf : Bool} {ps : List Pr} {tx : List Int} {a b c kids : Value} {gp gt : Option Addr} {cp ct : Nat} (hcp : ps.length ≤ cp) (hct : tx.length ≤ ct)
    (hwb : Below w.heap.size w wb) (hwr : wb.heap[w.heap.size + 1]? = some (.cells #[.bool false, .slice none 0 0, .slice none 0 0, .slice none 0 0] 26)) (hS : Below wb.heap.size wb w3 ∧ w3.cell? ⟨w.heap.size, 0, none⟩ = some a ∧ w3.cell? ⟨w.heap.size, 1, none⟩ = some b ∧ w3.cell? ⟨w.heap.size, 2, none⟩ = some c ∧ w3.cell? ⟨w.heap.size, 3, none⟩ = some kids)
    (hp : VP (fun b => W.heap.size ≤ b ∧ b < w2.heap.size) w2 gp (pv ps)) (ht : VP (fun b => W'.heap.size ≤ b ∧ b < w3.heap.size) w3 gt (rv tx)) (hb : Below w2.heap.size w2 w3) (hW : w.heap.size + 2 ≤ W.heap.size) (hW' : w.heap.size + 2 ≤ W'.heap.size) (h2 : w.heap.size + 2 ≤ w3.heap.size) :
    OutN w lf ps tx kids (.pointer (some ⟨w3.heap.size, 0, none⟩)) (w3.alloc (.cells #[.bool lf, .slice gp ps.length cp, .slice gt tx.length ct, .slice none 0 0] 26)) := by
  have e : ∀ o : Obj, (w3.alloc o).heap.size = w3.heap.size + 1 := fun o => by simp
  have hbs := hb.size
  have hw3 : Below w.heap.size w w3 := hwb.trans (hS.1.mono hwb.size)
  refine ⟨w3.heap.size, gp, cp, gt, ct, rfl, hw3.alloc hw3.size _, (Below.heap_alloc _ _ _ (by omega)).trans ((hS.1.block _ (lt_of_block hwr)).trans hwr), h2, ?_, heap_alloc_new w3 _, ?_, ?_, hcp, hct⟩
  · rw [World.cell?_alloc_lt _ _ _ (cell_in hS.2.2.2.2)]; exact hS.2.2.2.2
  · refine hp.keep (fun b hb => by rw [e]; omega) (fun p hp => ?_)
    have hb3 : Below w2.heap.size w2 (w3.alloc (.cells #[.bool lf, .slice gp ps.length cp, .slice gt tx.length ct, .slice none 0 0] 26)) := hb.alloc hbs _
    exact ⟨hb3.cell hp.2, hb3.frozen hp.2⟩
  · refine ht.keep (fun b hb => by rw [e]; omega) (fun p hp => ?_)
    have hb3 : Below w3.heap.size w3 (w3.alloc (.cells #[.bool lf, .slice gp ps.length cp, .slice gt tx.length ct, .slice none 0 0] 26)) := (Below.refl _ _).alloc (Nat.le_refl _) _
    exact ⟨hb3.cell hp.2, hb3.frozen hp.2⟩
theorem outN_set {w wb W W' w2 w3 : World} {lf : Bool} {ps : List Pr} {tx : List Int} {a b c kids z0 z1 z2 z3 : Value} {gp gt : Option Addr} {cp ct gO : Nat} (hcp : ps.length ≤ cp) (hct : tx.length ≤ ct)
    (hwb : Below w.heap.size w wb) (hwr : wb.heap[w.heap.size + 1]? = some (.cells #[.bool false, .slice none 0 0, .slice none 0 0, .slice none 0 0] 26)) (hS : Below wb.heap.size wb w3 ∧ w3.cell? ⟨w.heap.size, 0, none⟩ = some a ∧ w3.cell? ⟨w.heap.size, 1, none⟩ = some b ∧ w3.cell? ⟨w.heap.size, 2, none⟩ = some c ∧ w3.cell? ⟨w.heap.size, 3, none⟩ = some kids)
    (hp : VP (fun b => W.heap.size ≤ b ∧ b < w2.heap.size) w2 gp (pv ps)) (ht : VP (fun b => W'.heap.size ≤ b ∧ b < w3.heap.size) w3 gt (rv tx)) (hb : Below w2.heap.size w2 w3) (hO : w3.heap[gO]? = some (.cells #[z0, z1, z2, z3] 26 (0, 0)))
    (h2 : w.heap.size + 2 ≤ gO) (hW : w.heap.size + 2 ≤ W.heap.size) (hW' : w.heap.size + 2 ≤ W'.heap.size) (hn1 : ∀ b, W.heap.size ≤ b → b < w2.heap.size → b ≠ gO) (hn2 : ∀ b, W'.heap.size ≤ b → b ≠ gO) :
    OutN w lf ps tx kids (.pointer (some ⟨gO, 0, none⟩)) ((((w3.setCell ⟨gO, 0, none⟩ (.bool lf)).setCell ⟨gO, 1, none⟩ (.slice gp ps.length cp)).setCell ⟨gO, 2, none⟩ (.slice gt tx.length ct)).setCell ⟨gO, 3, none⟩ (.slice none 0 0)) := by
  have hbs := hb.size
  obtain ⟨wx, hwx⟩ : ∃ wx, wx = ((((w3.setCell ⟨gO, 0, none⟩ (.bool lf)).setCell ⟨gO, 1, none⟩ (.slice gp ps.length cp)).setCell ⟨gO, 2, none⟩ (.slice gt tx.length ct)).setCell ⟨gO, 3, none⟩ (.slice none 0 0)) := ⟨_, rfl⟩
  have e : wx.heap.size = w3.heap.size := by rw [hwx]; simp
  have hblk : ∀ k, k ≠ gO → wx.heap[k]? = w3.heap[k]? := fun k hk => by
    rw [hwx]
    iterate 4 rw [Below.heap_setCell _ _ _ _ (by simpa using hk)]
  have hsame : ∀ p : Addr, p.block ≠ gO → wx.cell? p = w3.cell? p ∧ wx.frozen? p = w3.frozen? p := fun p hp => ⟨World.cell?_of_block (hblk _ hp), World.frozen?_of_block (hblk _ hp)⟩
  have hw3 : Below w.heap.size w w3 := hwb.trans (hS.1.mono hwb.size)
  have hbx : Below w.heap.size w wx := hwx ▸ ((((hw3.setCell (by show _ ≤ gO; omega) _).setCell (by show _ ≤ gO; omega) _).setCell (by show _ ≤ gO; omega) _).setCell (by show _ ≤ gO; omega) _)
  rw [← hwx]
  refine ⟨gO, gp, cp, gt, ct, rfl, hbx, (hblk _ (by omega)).trans ((hS.1.block _ (lt_of_block hwr)).trans hwr), h2, ?_, hwx ▸ set4_block hO, ?_, ?_, hcp, hct⟩
  · rw [(hsame ⟨w.heap.size, 3, none⟩ (by show w.heap.size ≠ gO; omega)).1]; exact hS.2.2.2.2
  · refine hp.keep (fun b hb => by have := hn1 b hb.1 hb.2; rw [e]; omega) (fun p hp => ?_)
    have h3 := hsame p (hn1 _ hp.1 hp.2)
    exact ⟨h3.1.trans (hb.cell hp.2), h3.2.trans (hb.frozen hp.2)⟩
  · refine ht.keep (fun b hb => by have := hn2 b hb.1; rw [e]; omega) (fun p hp => hsame p (hn2 _ hp.1))

theorem app_far {w4 w6 : World} {o X : Obj} {gO : Nat} {row : Option Nat} (hg : (w4.alloc o).grownBy w6 row) (h : w4.heap[gO]? = some X) (hne : row ≠ some gO) : w6.heap[gO]? = some X := by
  have hl := lt_of_block h
  exact (hg.block gO (by simp; omega) (fun e => hne e.symm)).trans ((Below.heap_alloc w4 o gO hl).trans h)
theorem build_start {P : Nat → Prop} {wc : World} {base d : Nat} {lf : Bool} {ps : List Pr} {tx : List Int} {gO : Nat} {PA : Option Addr} {pc : Nat} {TA : Option Addr} {tc : Nat} (hbase : base ≤ wc.heap.size) (hlo : base ≤ gO) (hup : ∀ b, base ≤ b → P b)
    (hO : wc.heap[gO]? = some (.cells #[.bool lf, .slice PA ps.length pc, .slice TA tx.length tc, .slice none 0 0] 26 (0, 0))) (hp : VP (fun b => P b ∧ b < wc.heap.size ∧ b ≠ gO) wc PA (pv ps)) (ht : VP (fun b => P b ∧ b < wc.heap.size ∧ b ≠ gO) wc TA (rv tx)) :
    Build P wc base d lf ps tx gO PA pc TA tc (.slice none 0 0) 0 [] [] wc :=
  ⟨Below.refl _ _, hbase, hlo, hup, hO, World.ownsRow_nil _ _ _ _, rfl, rfl, by simp [Value.ownBlock], hp.keep (fun b h => ⟨h.1, h.2.1, h.2.2, by simp [Value.ownBlock]⟩) (fun _ _ => ⟨rfl, rfl⟩), ht.keep (fun b h => ⟨h.1, h.2.1, h.2.2, by simp [Value.ownBlock]⟩) (fun _ _ => ⟨rfl, rfl⟩), fun j m hm => by simp at hm⟩
theorem TopP.mono {P Q : Nat → Prop} (hPQ : ∀ b, P b → Q b) : ∀ {d : Nat} {w : World} {v : Value} {n : NT}, TopP P d w v n → TopP Q d w v n
  | 0, _, _, _, h => h.elim
  | d + 1, w, v, n, ⟨PA, pc, TA, tc, KA, kc, e, hp, ht, hf, hks⟩ => ⟨PA, pc, TA, tc, KA, kc, e, hp.keep (fun _ h => ⟨hPQ _ h.1, h.2⟩) (fun _ _ => ⟨rfl, rfl⟩), ht.keep (fun _ h => ⟨hPQ _ h.1, h.2⟩) (fun _ _ => ⟨rfl, rfl⟩), hf, fun k m hm => by
      obtain ⟨g, u, e1, hg, ht, hc, hz⟩ := hks k m hm
      exact ⟨g, u, e1, hPQ _ hg, ht.keep (fun _ h => ⟨hPQ _ h.1, h.2⟩) (fun _ _ => ⟨rfl, rfl⟩), hc, hz⟩⟩

set_option maxRecDepth 100000 in
set_option maxHeartbeats 8000000 in
theorem rncopy_any : ∀ (d : Nat) (w : World) (v : Value) (n : NT), NodeAt d w w.heap.size v n → Calls Try.prog 11 #[v] w (CopiedT d n w) := by
  intro d
  induction d with
  | zero => intro w v n h; exact h.elim
  | succ d ih =>
    intro w v n hn
    obtain ⟨d1, lf, ps, tx, ks, PA, pc, TA, tc, KA, kc, hd1, rfl, rfl, hp, ht, hf, hks⟩ := hn.open_
    obtain rfl : d = d1 := by omega
    obtain ⟨wb, hwb⟩ : ∃ wb, wb = (w.alloc (.cells #[.bool lf, .slice PA ps.length pc, .slice TA tx.length tc, .slice KA ks.length kc] 26)).alloc (.cells #[.bool false, .slice none 0 0, .slice none 0 0, .slice none 0 0] 26) := ⟨_, rfl⟩
    have hb1 : Below w.heap.size w wb := hwb ▸ below_mono2 (Below.refl _ _) (Nat.le_refl _)
    have X := (Box.new w (.bool lf) (.slice PA ps.length pc) (.slice TA tx.length tc) (.slice KA ks.length kc) 26).alloc (.cells #[.bool false, .slice none 0 0, .slice none 0 0, .slice none 0 0] 26)
    rw [← hwb] at X
    have hsb : wb.heap.size = w.heap.size + 2 := by rw [hwb]; simp
    have HP := hd hp
    have HT := hd ht
    have HKS := hd hks
    have HF := hd hf
    have HB := hd hb1
    have HX := hd X
    have HSB := hd hsb
    have HRES := hd (show wb.heap[w.heap.size + 1]? = some (.cells #[.bool false, .slice none 0 0, .slice none 0 0, .slice none 0 0] 26) by rw [hwb, ← sz1 (w := w) (A := (.cells #[.bool lf, .slice PA ps.length pc, .slice TA tx.length tc, .slice KA ks.length kc] 26))]; exact heap_alloc_new _ _)
    have hl1 := hf.2.1
    have hl2 := hf.2.2.1
    have hl3 := hf.2.2.2.1
    obtain ⟨x0, x1, x2, x3⟩ := X
    subst hwb
    clear hn hp ht hf hks hd1 hb1 hsb
    go_enter Try.func11, Try.ntmps11
    go_wp2_with fail
    have HPV := fun (w' : World) (hb0 : Below ((w.alloc (.cells #[.bool lf, .slice PA ps.length pc, .slice TA tx.length tc, .slice KA ks.length kc] 26)).alloc (.cells #[.bool false, .slice none 0 0, .slice none 0 0, .slice none 0 0] 26)).heap.size ((w.alloc (.cells #[.bool lf, .slice PA ps.length pc, .slice TA tx.length tc, .slice KA ks.length kc] 26)).alloc (.cells #[.bool false, .slice none 0 0, .slice none 0 0, .slice none 0 0] 26)) w') => hd (HP.out.vl.below (HB.out.trans (hb0.mono HB.out.size)))
    have HTV := fun (w' : World) (hb0 : Below ((w.alloc (.cells #[.bool lf, .slice PA ps.length pc, .slice TA tx.length tc, .slice KA ks.length kc] 26)).alloc (.cells #[.bool false, .slice none 0 0, .slice none 0 0, .slice none 0 0] 26)).heap.size ((w.alloc (.cells #[.bool lf, .slice PA ps.length pc, .slice TA tx.length tc, .slice KA ks.length kc] 26)).alloc (.cells #[.bool false, .slice none 0 0, .slice none 0 0, .slice none 0 0] 26)) w') => hd (r3copy_any TA tx tx.length tc w' rfl (by omega) (HT.out.later (HB.out.trans (hb0.mono HB.out.size))))
    go_upto_region 1 with fail
    go_cut [3] (fun s3 wx => OutN w lf ps tx (.slice KA ks.length kc) s3 wx)
    case first =>
      go_region_held3 (fun w' => Below ((w.alloc (.cells #[.bool lf, .slice PA ps.length pc, .slice TA tx.length tc, .slice KA ks.length kc] 26)).alloc (.cells #[.bool false, .slice none 0 0, .slice none 0 0, .slice none 0 0] 26)).heap.size ((w.alloc (.cells #[.bool lf, .slice PA ps.length pc, .slice TA tx.length tc, .slice KA ks.length kc] 26)).alloc (.cells #[.bool false, .slice none 0 0, .slice none 0 0, .slice none 0 0] 26)) w' ∧ w'.cell? ⟨w.heap.size, 0, none⟩ = some (.bool lf) ∧ w'.cell? ⟨w.heap.size, 1, none⟩ = some (.slice PA ps.length pc) ∧ w'.cell? ⟨w.heap.size, 2, none⟩ = some (.slice TA tx.length tc) ∧ w'.cell? ⟨w.heap.size, 3, none⟩ = some (.slice KA ks.length kc))
        (first
          | assumption
          | exact ⟨(Below.refl _ _).drew, x0, x1, x2, x3⟩
          | exact keepS ‹_› ((Below.refl _ _).alloc (Nat.le_refl _) _)
          | exact keepSet ‹_› (by simp; omega) (by first | exact hS2.1.size | simp))
        (first
          | (go_at_call 36; refine Calls.mono (HTV _ ?hh).out ?_; (case hh => (go_split_ands; assumption)); intro e w3 h3; obtain ⟨gt, ct, rfl, vt, b3, hct⟩ := h3; have hS3 := keepS ‹_› b3; have HVT := hd vt; (first | (have hOc := hd (keepBlk hOa.out b3)) | (have hOc := hd (newBlk3 (w := w) (Z := (.cells #[.bool false, .slice none 0 0, .slice none 0 0, .slice none 0 0] 26)) b3)) | (have hOc := hd (newBlk (W0 := w2) (o := (.cells #[.bool false, .slice none 0 0, .slice none 0 0, .slice none 0 0] 26)) b3 (g := w2.heap.size) rfl)) | skip); (first | (have hqc := blkCells hOc.out; obtain ⟨c0, c1, c2, c3, c4, c5, c6, c7⟩ := hqc) | skip))
          | (refine step_append_nilG propG _ rfl _ _ rfl rfl PA ps.length pc w.heap.size (pv ps) rfl (by rw [pv_len]) (HPV _ (by go_split_ands; assumption)).out (pv_one ps) (by unfold maxLen; omega) (by omega) ?_; intro gp cp w2 ho2 hg2; have b2 := grown_none hg2; have hS2 := keepS ‹_› b2; have HVP := hd (own_vp ho2); have hcp := own_cap ho2; (first | (have hOa := hd (keepBlk hOc.out b2)) | (have hOa := hd (newBlk3 (w := w) (Z := (.cells #[.bool false, .slice none 0 0, .slice none 0 0, .slice none 0 0] 26)) b2)) | (have hOa := hd (newBlk (W0 := w3) (o := (.cells #[.bool false, .slice none 0 0, .slice none 0 0, .slice none 0 0] 26)) b2 (g := w3.heap.size) rfl)) | skip); (first | (have hqa := blkCells hOa.out; obtain ⟨a0, a1, a2, a3, a4, a5, a6, a7⟩ := hqa) | skip)))
      · go_wp2_with fail
        go_meet
        exact outN_new hcp hct HB.out HRES.out hS3 HVP.out HVT.out b3 (by rw [sz2]; exact Nat.le_refl _) (by have h := b2.size; rw [sz2] at h; omega) (by have h := b2.size; rw [sz2] at h; have := b3.size; omega)
      · go_wp2_with fail
        go_meet
        exact outN_set hcp hct HB.out HRES.out hS3 HVP.out HVT.out (ex_below b3) hOc.out (by have h := b2.size; rw [sz2] at h; omega) (by rw [sz2]; exact Nat.le_refl _) (by rw [sz1]; have h := b2.size; rw [sz2] at h; omega) (fun b _ h => by omega) (fun b h => by rw [sz1] at h; omega)
      · go_wp2_with fail
        go_meet
        exact outN_set hcp hct HB.out HRES.out hS3 HVP.out HVT.out b3 hOc.out (by omega) (by rw [sz3]; omega) (by have h := b2.size; rw [sz3] at h; omega) (fun b h _ => by rw [sz3] at h; omega) (fun b h => by have h2 := b2.size; rw [sz3] at h2; omega)
    case rest =>
      obtain ⟨gO, gp, cp, gt, ct, rfl, HB4, hr4, hgO, k3, hO, HVP, HVT, hcp, hct⟩ := hcut
      have hb0 := build_start (P := fun b => w.heap.size + 2 ≤ b) (d := d) (base := w.heap.size + 2) (by have := HB4.size; have := cell_in k3; have := lt_of_block hr4; simp at *; omega) hgO (fun _ h => h) hO (HVP.keep (fun _ h => h) (fun _ _ => ⟨rfl, rfl⟩)) (HVT.keep (fun _ h => h) (fun _ _ => ⟨rfl, rfl⟩))
      have HBB := hd hb0
      have HB5 := hd HB4
      have HR5 := hd hr4
      have HK5 := hd k3
      clear hO HVP HVT HB4 hr4 x0 x1 x2 x3 HX HB HP HT HPV HTV HRES HSB hb0
      go_wp2_with fail
      clear k3
      go_loopw [18] (fun i wr => ∃ (k : Nat) (vK : Value) (us : List Value), k ≤ ks.length ∧ i = .int .i64 k ∧ Hid (Build (fun b => w.heap.size + 2 ≤ b) wc (w.heap.size + 2) d lf ps tx gO gp cp gt ct vK k us (ks.take k) wr)) (fun i _ => ks.length - (intOf i).toNat)
      case atStart => exact ⟨0, _, _, Nat.zero_le _, rfl, HBB⟩
      case round =>
        obtain ⟨k, vK, us, hk, rfl, HL⟩ := hrel
        clear HBB
        have hbr := HB5.out.trans (HL.out.below.mono (by omega))
        by_cases hlt : k < ks.length
        · obtain ⟨m, b, o, lf1, PA1, np1, pc1, TA1, nt1, tc1, KA1, nk1, kc1, hm, rfl, hbg, hnm, c0, c1, c2, c3⟩ := (HKS.out.below hbr).at_ hlt
          have hsz := hbr.size
          have hOr := HL.out.out
          have hOlt := lt_of_block hOr
          have HM := hd hm
          obtain ⟨A, cap, rfl, hkc, hcm, _⟩ := own_free HL.out.row
          obtain ⟨p0, p1, p2, p3, g0, g1, g2, g3⟩ := blkCells hOr
          obtain ⟨wk, hwk⟩ : ∃ wk, wk = (wr.alloc (.cells #[.bool lf1, .slice PA1 np1 pc1, .slice TA1 nt1 tc1, .slice KA1 nk1 kc1] 26)).drew := ⟨_, rfl⟩
          have hbk : Below wr.heap.size wr wk := hwk ▸ ((Below.refl _ _).alloc (Nat.le_refl _) _).drew
          have HC := hd (ih wk _ m (((hnm.more hsz).below hbk).more hbk.size))
          have HBK := hd hbk
          have hgkO := HL.out.apart
          have hbs := HL.out.bs
          have hbl := HL.out.below.size
          have HTK := hd (take_one hm)
          obtain ⟨i0, hi, hz0, hz1, hz2⟩ := info_parts nodeInfo
          subst hwk
          clear hnm hbk hm hOr hbr
          go_upto_block 1 with fail
          go_cut [18] (fun s wx => s = .int .i64 k ∧ ∃ (vK6 : Value) (us6 : List Value), Hid (Build (fun b => w.heap.size + 2 ≤ b) wc (w.heap.size + 2) d lf ps tx gO gp cp gt ct vK6 (k + 1) us6 (ks.take (k + 1)) wx))
          case first =>
            go_wp2_with fail
            go_region_law (first
                | ((go_simp; go_at_call 11; refine HC.out.mono ?_; intro e w4 h4; obtain ⟨v4, rfl, ht4, hb4⟩ := h4.copied; obtain ⟨lf4, PA4, np4, pc4, TA4, nt4, tc4, KA4, nk4, kc4, rfl⟩ := (ht4.at_ (B := w4.heap.size) (fun b hb => hb.2)).val; obtain ⟨hs4, hbl4⟩ := call_row hb4; have hO4 := hd ((hbl4 gO hOlt).trans HL.out.out); obtain ⟨r0, r1, r2, r3, r4, r5, r6, r7⟩ := blkCells hO4.out; have hOl4 : gO < w4.heap.size := (by omega); have hrow4 := hd (ownsRow_far HL.out.row hbl4); have HBL4 := hd hbl4; clear hbl4; have HB4 := hd hb4; have HT4 := hd ht4; clear ht4 hb4))
                | ((refine step_append_lies _ (by rfl) (.tmp 23) (.tmp 26) _ (by rfl) (w.heap.size + 2) 26 i0 _ 4 80 Try.underlying24 hi hz0 hz1 hz2 rfl (by omega) (.slice A k cap) k (us.flatMap fun u => u.cells.toList) (by first | rfl | simp [Act.eval]) (hrow4.out.alloc _) ⟨w4.heap.size, 0, none⟩ 1 1 [.bool lf4, .slice PA4 np4 pc4, .slice TA4 nt4 tc4, .slice KA4 nk4 kc4] (by first | rfl | simp [Act.eval]) (by rfl) (World.news_of_block (cs := #[.bool lf4, .slice PA4 np4 pc4, .slice TA4 nt4 tc4, .slice KA4 nk4 kc4]) (t := 26) (fr := (0, 0)) (heap_alloc_new w4 _)) (by simp [Value.oneCell']) (by omega) (by unfold maxLen; omega) (by omega) (by simp; omega) (w4.heap.size + 1) (by simp) ?_; intro g6 cap6 w6 hown6 hgrow6 hat6 hlt6; have hO6 := hd (app_far hgrow6 hO4.out hgkO); obtain ⟨s0, s1, s2, s3, s4, s5, s6, s7⟩ := blkCells hO6.out; have hOl6 := lt_of_block hO6.out)))
            all_goals
              have HST := hd (build_step HL.out HBK.out HB4.out HT4.out hgrow6 hown6 hat6)
              rw [← HTK.out] at HST
              clear hgrow6 hown6 hat6 s0 s1 s2 s3 s4 s5 s6 s7 r0 r1 r2 r3 r4 r5 r6 r7 hrow4 hO4 hO6 HBL4 HB4 HT4 p0 p1 p2 p3 g0 g1 g2 g3 c0 c1 c2 c3
              go_wp2_with fail
              go_meet
              exact ⟨rfl, _, _, HST⟩
          case rest =>
            obtain ⟨rfl, vK6, us6, HST⟩ := hcut
            clear p0 p1 p2 p3 g0 g1 g2 g3 c0 c1 c2 c3
            go_wp2
            go_roundw
            case rel => exact ⟨k + 1, vK6, us6, by omega, by go_num, HST⟩
            case measure => simp [intOf]; omega
        · obtain rfl : k = ks.length := by omega
          have hO8 := HL.out.out
          have hO8l := lt_of_block hO8
          obtain ⟨A, cap, rfl, _⟩ := own_free HL.out.row
          obtain ⟨p0, p1, p2, p3, _, _, _, _⟩ := blkCells hO8
          clear hO8
          have hres : wr.heap[w.heap.size + 1]? = some (.cells #[.bool false, .slice none 0 0, .slice none 0 0, .slice none 0 0] 26) := (HL.out.below.block _ (by omega)).trans HR5.out
          obtain ⟨q0, q1, q2, q3, q4, q5, q6, q7⟩ := blkCells hres
          have HRS := hd hres
          have HBR := hd hbr
          clear hres hbr
          go_wp2
          have h7 := set4_block (a := .bool lf) (b := .slice gp ps.length cp) (c := .slice gt tx.length ct) (d := .slice A ks.length cap) HRS.out
          obtain ⟨t0, t1, t2, t3, _, _, _, _⟩ := blkCells h7
          have hend := fun w7 hs h7 => build_end (w7 := w7) HL.out (by rw [List.take_length]; exact ⟨HF.out.1, HF.out.2.1, HF.out.2.2.1, HF.out.2.2.2.1, hcp, hct⟩) hs h7
          rw [List.take_length] at hend
          refine bodyPost_ret (v := .agg #[.bool lf, .slice gp ps.length cp, .slice gt tx.length ct, .slice A ks.length cap]) (by simp [results, Try.results11, go_sem, t0, t1, t2, t3]) rfl ⟨_, rfl, (hend _ (by simp) (fun b hb _ => ?_)).mono (fun b hb => by omega), ?_⟩
          · iterate 4 rw [Below.heap_setCell _ _ _ _ (by show _ ≠ w.heap.size + 1; omega)]
          · exact (((HBR.out.setCell (by show _ ≤ w.heap.size + 1; omega) _).setCell (by show _ ≤ w.heap.size + 1; omega) _).setCell (by show _ ≤ w.heap.size + 1; omega) _).setCell (by show _ ≤ w.heap.size + 1; omega) _

end Go.Proofs.Ytggapngibkeodaa
