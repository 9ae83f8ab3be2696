/- The document's Copy: a tree of its own, its row its own. Copy, once more: what it makes owns its rows of properties, of runes, and of Kids. -/
import Derived.Test.YtmglnjmnabjjgaaJKCmp
import Derived.Test.YtmglnjmnabjjgaaJNFreshWA
namespace Go.Proofs.Ytmglnjmnabjjgaa
open Go.RowKit
open Go.WideShapes (add_plain)
set_option maxRecDepth 4000 in
/-- A list appended to nil. -/
theorem run_append_nilG {ts te : TypeId} {size by_ : Nat} (E : ElemG ts te size by_) (W : World) (ty : TypeId) (A : Option Addr) (m c B : Nat) (l : List Value) (hn : l.length = m * size) (hp : VL W B A l) (h1 : ∀ u ∈ l, u.oneCell' = true) (h63 : m ≤ maxLen) (hby : m * by_ ≤ 140737488355328) :
    ∃ A' c' w', (Builtin.append_ #[ts, ts] ty #[.slice none 0 0, .slice A m c]).run Try.prog W = .ok (.slice A' m c') w' ∧ w'.ownsRow W.heap.size te size (.slice A' m c') m l ∧ W.grownBy w' none := by
  obtain ⟨i0, z, hi, hz0, hz1, hz2, hz3⟩ := E.info
  have hsz := E.pos
  have h0 := World.ownsRow_nil W W.heap.size te size
  rcases Nat.eq_zero_or_pos m with hm | hm
  · subst hm
    have hl : l = [] := List.eq_nil_of_length_eq_zero (by simpa using hn)
    subst hl
    exact ⟨none, 0, W, run_append_zeroG E.under hi h0, h0, rfl, rfl, rfl, Nat.le_refl _, fun _ _ _ => rfl⟩
  · have hl : 0 < l.length := by have := Nat.mul_pos hm hsz; omega
    obtain ⟨b, o, rfl, _, hc⟩ := hp (List.length_pos_iff.1 hl)
    obtain ⟨g, cap, w', hr, h2, h3, _, _⟩ := run_append_lies (P := Try.prog) W ts ty W.heap.size te i0 z size by_ E.under hi hz0 hz1 hz2 hz3 hsz (.slice none 0 0) 0 [] h0 ⟨b, o, none⟩ m c l hn (fun j u hj => by rw [add_plain]; exact hc j u hj) h1 hm (by omega) (by rw [Nat.zero_add]; exact hby) (Nat.le_refl _) _ rfl
    rw [Nat.zero_add] at hr h2
    exact ⟨some ⟨g, 0, none⟩, cap, w', hr, h2, h3⟩

set_option maxRecDepth 4000 in
theorem step_append_nilG {ts te : TypeId} {size by_ : Nat} (E : ElemG ts te size by_) (W : World) {ops : Array Oper} {o : Oper} {a : Act} {K : Act → World → Prop} {Q : Exit → Act → World → Prop} {F : Prop} (hgd : o.guard = none) (s x : Operand)
    (ho : o.op = .call { callee := .builtin .append, args := #[s, x], argTypes := #[ts, ts] }) (hs : a.eval s = .slice none 0 0)
    (A : Option Addr) (m c B : Nat) (l : List Value) (hx : a.eval x = .slice A m c) (hn : l.length = m * size) (hp : VL W B A l) (h1 : ∀ u ∈ l, u.oneCell' = true) (h63 : m ≤ maxLen) (hby : m * by_ ≤ 140737488355328)
    (h : ∀ A' c' w', w'.ownsRow W.heap.size te size (.slice A' m c') m l → W.grownBy w' none → K (a.put o.dst (.slice A' m c')) w') :
    if Region.wanted o (yielded ops a.tmps) = true then Oper.wp Try.prog o a W K Q else F := by
  have hw : Region.wanted o (yielded ops a.tmps) = true := by simp [Region.wanted, hgd]
  rw [if_pos hw]
  obtain ⟨A', c', w', hr, h2, h3⟩ := run_append_nilG E W o.type A m c B l hn hp h1 h63 hby
  unfold Oper.wp execOp
  simp only [ho, resolve, invoke, builtin, Sem.run_bind, Sem.run_pure, Result.andThen_ok, List.map_toArray, List.map_cons, List.map_nil, hs, hx, hr]
  exact h A' c' w' h2 h3
set_option maxRecDepth 4000 in
theorem wpList_append_nilG {ts te : TypeId} {size by_ : Nat} (E : ElemG ts te size by_) (W : World) {ops : Array Oper} {rest : List Oper} {o : Oper} {a : Act} {Q : Exit → Act → World → Prop} (hgd : o.guard = none) (s x : Operand)
    (ho : o.op = .call { callee := .builtin .append, args := #[s, x], argTypes := #[ts, ts] }) (hs : a.eval s = .slice none 0 0)
    (A : Option Addr) (m c B : Nat) (l : List Value) (hx : a.eval x = .slice A m c) (hn : l.length = m * size) (hp : VL W B A l) (h1 : ∀ u ∈ l, u.oneCell' = true) (h63 : m ≤ maxLen) (hby : m * by_ ≤ 140737488355328)
    (h : ∀ A' c' w', w'.ownsRow W.heap.size te size (.slice A' m c') m l → W.grownBy w' none → wpList Try.prog ops Q rest (a.put o.dst (.slice A' m c')) w') :
    wpList Try.prog ops Q (o :: rest) a W := by
  refine wpList_plain hgd fun K hK => ?_
  obtain ⟨A', c', w', hr, h2, h3⟩ := run_append_nilG E W o.type A m c B l hn hp h1 h63 hby
  unfold Oper.wp execOp
  simp only [ho, resolve, invoke, builtin, Sem.run_bind, Sem.run_pure, Result.andThen_ok, List.map_toArray, List.map_cons, List.map_nil, hs, hx, hr]
  exact hK _ _ (h A' c' w' h2 h3)
set_option maxRecDepth 4000 in
theorem grown_none {W w' : World} (h : W.grownBy w' none) : Below W.heap.size W w' := ⟨h.os, h.tape, h.output, h.size, fun k hk => h.block k hk (by simp)⟩
set_option maxRecDepth 4000 in
theorem own_vp {t : TypeId} {size n : Nat} {A : Option Addr} {c : Nat} {xs : List Value} {w : World} {base : Nat} (h : w.ownsRow base t size (.slice A n c) n xs) : VP (fun b => base ≤ b ∧ b < w.heap.size) w A xs := fun k u hu => by
  obtain ⟨A', c', e, _, _, hf⟩ := own_free h
  injection e with e1 e2 e3
  subst e1 e3
  obtain ⟨g, e, h1, h2, h3⟩ := hf k u hu
  exact ⟨g, 0, e, ⟨h1, h2⟩, by rw [Nat.zero_add]; exact h3⟩

set_option maxRecDepth 4000 in
theorem own_cap {t : TypeId} {size n : Nat} {A : Option Addr} {c : Nat} {xs : List Value} {w : World} {base : Nat} (h : w.ownsRow base t size (.slice A n c) n xs) : n ≤ c := by
  obtain ⟨A', c', e, h1, _, _⟩ := own_free h
  injection e with e1 e2 e3
  rw [e3]; exact h1
/-- The new node's variable: its block, and what its lists hold. -/
def OutN (w : World) (lf : Bool) (ps : List Pr) (tx : List Int) (kids : Value) (s4 : Value) (wx : World) : Prop :=
  ∃ (gO : Nat) (gp : Option Addr) (cp : Nat) (gt : Option Addr) (ct : Nat), s4 = .pointer (some ⟨gO, 0, none⟩) ∧ Below w.heap.size w wx ∧ wx.heap[w.heap.size + 1]? = some (.cells #[.bool false, .slice none 0 0, .slice none 0 0, .slice none 0 0] 26) ∧ w.heap.size + 2 ≤ gO ∧ wx.cell? ⟨w.heap.size, 3, none⟩ = some kids ∧
    wx.heap[gO]? = some (.cells #[.bool lf, .slice gp ps.length cp, .slice gt tx.length ct, .slice none 0 0] 26 (0, 0)) ∧
    VP (fun b => w.heap.size + 2 ≤ b ∧ b < wx.heap.size ∧ b ≠ gO) wx gp (pv ps) ∧ VP (fun b => w.heap.size + 2 ≤ b ∧ b < wx.heap.size ∧ b ≠ gO) wx gt (rv tx) ∧ ps.length ≤ cp ∧ tx.length ≤ ct

set_option maxRecDepth 4000 in
theorem outN_new {w wb W W' w2 w3 : World} {lf : Bool} {ps : List Pr} {tx : List Int} {a b c kids : Value} {gp gt : Option Addr} {cp ct : Nat} (hcp : ps.length ≤ cp) (hct : tx.length ≤ ct)
    (hwb : Below w.heap.size w wb) (hwr : wb.heap[w.heap.size + 1]? = some (.cells #[.bool false, .slice none 0 0, .slice none 0 0, .slice none 0 0] 26)) (hS : Below wb.heap.size wb w3 ∧ w3.cell? ⟨w.heap.size, 0, none⟩ = some a ∧ w3.cell? ⟨w.heap.size, 1, none⟩ = some b ∧ w3.cell? ⟨w.heap.size, 2, none⟩ = some c ∧ w3.cell? ⟨w.heap.size, 3, none⟩ = some kids)
    (hp : VP (fun b => W.heap.size ≤ b ∧ b < w2.heap.size) w2 gp (pv ps)) (ht : VP (fun b => W'.heap.size ≤ b ∧ b < w3.heap.size) w3 gt (rv tx)) (hb : Below w2.heap.size w2 w3) (hW : w.heap.size + 2 ≤ W.heap.size) (hW' : w.heap.size + 2 ≤ W'.heap.size) (h2 : w.heap.size + 2 ≤ w3.heap.size) :
    OutN w lf ps tx kids (.pointer (some ⟨w3.heap.size, 0, none⟩)) (w3.alloc (.cells #[.bool lf, .slice gp ps.length cp, .slice gt tx.length ct, .slice none 0 0] 26)) := by
  have e : ∀ o : Obj, (w3.alloc o).heap.size = w3.heap.size + 1 := fun o => by simp
  have hbs := hb.size
  have hw3 : Below w.heap.size w w3 := hwb.trans (hS.1.mono hwb.size)
  refine ⟨w3.heap.size, gp, cp, gt, ct, rfl, hw3.alloc hw3.size _, (Below.heap_alloc _ _ _ (by omega)).trans ((hS.1.block _ (lt_of_block hwr)).trans hwr), h2, ?_, heap_alloc_new w3 _, ?_, ?_, hcp, hct⟩
  · rw [World.cell?_alloc_lt _ _ _ (cell_in hS.2.2.2.2)]; exact hS.2.2.2.2
  · refine hp.keep (fun b hb => by rw [e]; omega) (fun p hp => ?_)
    have hb3 : Below w2.heap.size w2 (w3.alloc (.cells #[.bool lf, .slice gp ps.length cp, .slice gt tx.length ct, .slice none 0 0] 26)) := hb.alloc hbs _
    exact ⟨hb3.cell hp.2, hb3.frozen hp.2⟩
  · refine ht.keep (fun b hb => by rw [e]; omega) (fun p hp => ?_)
    have hb3 : Below w3.heap.size w3 (w3.alloc (.cells #[.bool lf, .slice gp ps.length cp, .slice gt tx.length ct, .slice none 0 0] 26)) := (Below.refl _ _).alloc (Nat.le_refl _) _
    exact ⟨hb3.cell hp.2, hb3.frozen hp.2⟩
set_option maxRecDepth 4000 in
theorem outN_set {w wb W W' w2 w3 : World} {lf : Bool} {ps : List Pr} {tx : List Int} {a b c kids z0 z1 z2 z3 : Value} {gp gt : Option Addr} {cp ct gO : Nat} (hcp : ps.length ≤ cp) (hct : tx.length ≤ ct)
    (hwb : Below w.heap.size w wb) (hwr : wb.heap[w.heap.size + 1]? = some (.cells #[.bool false, .slice none 0 0, .slice none 0 0, .slice none 0 0] 26)) (hS : Below wb.heap.size wb w3 ∧ w3.cell? ⟨w.heap.size, 0, none⟩ = some a ∧ w3.cell? ⟨w.heap.size, 1, none⟩ = some b ∧ w3.cell? ⟨w.heap.size, 2, none⟩ = some c ∧ w3.cell? ⟨w.heap.size, 3, none⟩ = some kids)
    (hp : VP (fun b => W.heap.size ≤ b ∧ b < w2.heap.size) w2 gp (pv ps)) (ht : VP (fun b => W'.heap.size ≤ b ∧ b < w3.heap.size) w3 gt (rv tx)) (hb : Below w2.heap.size w2 w3) (hO : w3.heap[gO]? = some (.cells #[z0, z1, z2, z3] 26 (0, 0)))
    (h2 : w.heap.size + 2 ≤ gO) (hW : w.heap.size + 2 ≤ W.heap.size) (hW' : w.heap.size + 2 ≤ W'.heap.size) (hn1 : ∀ b, W.heap.size ≤ b → b < w2.heap.size → b ≠ gO) (hn2 : ∀ b, W'.heap.size ≤ b → b ≠ gO) :
    OutN w lf ps tx kids (.pointer (some ⟨gO, 0, none⟩)) ((((w3.setCell ⟨gO, 0, none⟩ (.bool lf)).setCell ⟨gO, 1, none⟩ (.slice gp ps.length cp)).setCell ⟨gO, 2, none⟩ (.slice gt tx.length ct)).setCell ⟨gO, 3, none⟩ (.slice none 0 0)) := by
  have hbs := hb.size
  obtain ⟨wx, hwx⟩ : ∃ wx, wx = ((((w3.setCell ⟨gO, 0, none⟩ (.bool lf)).setCell ⟨gO, 1, none⟩ (.slice gp ps.length cp)).setCell ⟨gO, 2, none⟩ (.slice gt tx.length ct)).setCell ⟨gO, 3, none⟩ (.slice none 0 0)) := ⟨_, rfl⟩
  have e : wx.heap.size = w3.heap.size := by rw [hwx]; simp
  have hblk : ∀ k, k ≠ gO → wx.heap[k]? = w3.heap[k]? := fun k hk => by
    rw [hwx]
    iterate 4 rw [Below.heap_setCell _ _ _ _ (by simpa using hk)]
  have hsame : ∀ p : Addr, p.block ≠ gO → wx.cell? p = w3.cell? p ∧ wx.frozen? p = w3.frozen? p := fun p hp => ⟨World.cell?_of_block (hblk _ hp), World.frozen?_of_block (hblk _ hp)⟩
  have hw3 : Below w.heap.size w w3 := hwb.trans (hS.1.mono hwb.size)
  have hbx : Below w.heap.size w wx := hwx ▸ ((((hw3.setCell (by show _ ≤ gO; omega) _).setCell (by show _ ≤ gO; omega) _).setCell (by show _ ≤ gO; omega) _).setCell (by show _ ≤ gO; omega) _)
  rw [← hwx]
  refine ⟨gO, gp, cp, gt, ct, rfl, hbx, (hblk _ (by omega)).trans ((hS.1.block _ (lt_of_block hwr)).trans hwr), h2, ?_, hwx ▸ set4_block hO, ?_, ?_, hcp, hct⟩
  · rw [(hsame ⟨w.heap.size, 3, none⟩ (by show w.heap.size ≠ gO; omega)).1]; exact hS.2.2.2.2
  · refine hp.keep (fun b hb => by have := hn1 b hb.1 hb.2; rw [e]; omega) (fun p hp => ?_)
    have h3 := hsame p (hn1 _ hp.1 hp.2)
    exact ⟨h3.1.trans (hb.cell hp.2), h3.2.trans (hb.frozen hp.2)⟩
  · refine ht.keep (fun b hb => by have := hn2 b hb.1; rw [e]; omega) (fun p hp => hsame p (hn2 _ hp.1))

set_option maxRecDepth 4000 in
theorem app_far {w4 w6 : World} {o X : Obj} {gO : Nat} {row : Option Nat} (hg : (w4.alloc o).grownBy w6 row) (h : w4.heap[gO]? = some X) (hne : row ≠ some gO) : w6.heap[gO]? = some X := by
  have hl := lt_of_block h
  exact (hg.block gO (by simp; omega) (fun e => hne e.symm)).trans ((Below.heap_alloc w4 o gO hl).trans h)
set_option maxRecDepth 4000 in
theorem build_start {P : Nat → Prop} {wc : World} {base d : Nat} {lf : Bool} {ps : List Pr} {tx : List Int} {gO : Nat} {PA : Option Addr} {pc : Nat} {TA : Option Addr} {tc : Nat} (hbase : base ≤ wc.heap.size) (hlo : base ≤ gO) (hup : ∀ b, base ≤ b → P b)
    (hO : wc.heap[gO]? = some (.cells #[.bool lf, .slice PA ps.length pc, .slice TA tx.length tc, .slice none 0 0] 26 (0, 0))) (hp : VP (fun b => P b ∧ b < wc.heap.size ∧ b ≠ gO) wc PA (pv ps)) (ht : VP (fun b => P b ∧ b < wc.heap.size ∧ b ≠ gO) wc TA (rv tx)) :
    Build P wc base d lf ps tx gO PA pc TA tc (.slice none 0 0) 0 [] [] wc :=
  ⟨Below.refl _ _, hbase, hlo, hup, hO, World.ownsRow_nil _ _ _ _, rfl, rfl, by simp [Value.ownBlock], hp.keep (fun b h => ⟨h.1, h.2.1, h.2.2, by simp [Value.ownBlock]⟩) (fun _ _ => ⟨rfl, rfl⟩), ht.keep (fun b h => ⟨h.1, h.2.1, h.2.2, by simp [Value.ownBlock]⟩) (fun _ _ => ⟨rfl, rfl⟩), fun j m hm => by simp at hm⟩
end Go.Proofs.Ytmglnjmnabjjgaa

namespace Go.Proofs.Ytmglnjmnabjjgaa
open Go.RowKit
open Go.WideShapes (add_plain)

/-- A row that is the call's own, but for where its blocks begin. -/
theorem ownsRow_base {w : World} {base base' : Nat} {t : TypeId} {size : Nat} {v : Value} {n : Nat} {xs : List Value} (h : w.ownsRow base t size v n xs) (hb : base' ≤ base) : w.ownsRow base' t size v n xs := by
  refine ⟨h.1, ?_⟩
  rcases h.2 with e | ⟨g, cap, cur, e, hg, rest⟩
  · exact .inl e
  · exact .inr ⟨g, cap, cur, e, by omega, rest⟩
/-- All blocks that are not of nodes stay. -/
def KeepN (w w' : World) : Prop := ∀ b, b < w.heap.size → (∀ cs fr, w.heap[b]? ≠ some (.cells cs 26 fr)) → w'.heap[b]? = w.heap[b]?
set_option maxRecDepth 4000 in
theorem ownsRow_keepN {w w' : World} {base : Nat} {t : TypeId} {size : Nat} {v : Value} {n : Nat} {xs : List Value} (h : w.ownsRow base t size v n xs) (ht : t ≠ 26) (hk : KeepN w w') : w'.ownsRow base t size v n xs := by
  refine ⟨h.1, ?_⟩
  rcases h.2 with e | ⟨g, cap, cur, e, hg, hh, rest⟩
  · exact .inl e
  · refine .inr ⟨g, cap, cur, e, hg, (hk g (lt_of_block hh) fun cs fr e2 => ?_).trans hh, rest⟩
    rw [hh] at e2
    injection e2 with e2
    injection e2 with _ e3
    exact ht e3
set_option maxRecDepth 4000 in
theorem KeepN.of_below {w w' : World} (h : Below w.heap.size w w') : KeepN w w' := fun b hb _ => h.block b hb
set_option maxRecDepth 4000 in
theorem KeepN.of_but {w w' : World} {g : Nat} {cs : Array Value} {fr : Nat × Nat} (hg : w.heap[g]? = some (.cells cs 26 fr)) (h : ∀ b, b ≠ g → b < w.heap.size → w'.heap[b]? = w.heap[b]?) : KeepN w w' := fun b hb hn => h b (fun e => hn cs fr (e ▸ hg)) hb
/-- Both rows beside the Kids'. -/
structure PT (w : World) (base : Nat) (gp : Option Addr) (cp : Nat) (gt : Option Addr) (ct : Nat) (ps : List Pr) (tx : List Int) : Prop where
  p : w.ownsRow base 74 2 (.slice gp ps.length cp) ps.length (pv ps)
  t : w.ownsRow base 21 1 (.slice gt tx.length ct) tx.length (rv tx)
set_option maxRecDepth 4000 in
theorem PT.keep {w w' : World} {base : Nat} {gp : Option Addr} {cp : Nat} {gt : Option Addr} {ct : Nat} {ps : List Pr} {tx : List Int} (h : PT w base gp cp gt ct ps tx) (hk : KeepN w w') : PT w' base gp cp gt ct ps tx :=
  ⟨ownsRow_keepN h.p (by decide) hk, ownsRow_keepN h.t (by decide) hk⟩
/-- What fresh makes, its row its own. -/
def FreshO (t : TypeId) (size n : Nat) (xs : List Value) (w : World) (e : Ending) (w' : World) : Prop :=
  ∃ g c, e = .returned (.slice (some ⟨g, 0, none⟩) n c) ∧ w'.ownsRow w.heap.size t size (.slice (some ⟨g, 0, none⟩) n c) n xs ∧ Below w.heap.size w w'
set_option maxRecDepth 4000 in
theorem FreshO.vp {t : TypeId} {size n : Nat} {xs : List Value} {w w' : World} {e : Ending} (h : FreshO t size n xs w e w') : ∃ g c, e = .returned (.slice (some ⟨g, 0, none⟩) n c) ∧ VP (fun b => w.heap.size ≤ b ∧ b < w'.heap.size) w' (some ⟨g, 0, none⟩) xs ∧ Below w.heap.size w w' ∧ n ≤ c ∧ w'.ownsRow w.heap.size t size (.slice (some ⟨g, 0, none⟩) n c) n xs := by
  obtain ⟨g, c, e, h1, h2⟩ := h
  exact ⟨g, c, e, own_vp h1, h2, own_cap h1, h1⟩

set_option maxRecDepth 4000 in
set_option maxHeartbeats 2000000 in
theorem freshpO_any (A : Option Addr) (ps : List Pr) (c : Nat) (w : World) (hl : ps.length ≤ 4398046511104) (hp : PL w w.heap.size A ps) : Calls Try.prog 77 #[.slice A ps.length c] w (FreshO 74 2 ps.length (pv ps) w) := by
  obtain ⟨cs, hcs, hmk⟩ := run_mk_G propG ps.length (by omega) (by omega)
  have hv : VL w w.heap.size A (pv ps) := hp.vl
  have HV := hd hv
  have HCS := hd hcs
  clear hp hv hcs
  go_enter Try.func77, Try.ntmps77
  go_wp2_with (at_builtin; refine wpList_append_G propG _ rfl (.tmp 5) (.tmp 6) rfl w.heap.size (.slice (some ⟨w.heap.size, 0, none⟩) 0 ps.length) 0 [] rfl (World.ownsRow_made w cs ps.length (Nat.le_refl _) (by unfold maxLen; omega) HCS.out) A ps.length c w.heap.size (pv ps) rfl (by rw [pv_len] <;> omega) (HV.out.below ((Below.refl _ _).alloc (Nat.le_refl _) _)) (pv_one ps) (by unfold maxLen; omega) (by omega) (by simp) rfl ?_; intro g cap w1 ho1 hg1)
  go_ret
  rw [Nat.zero_add, List.nil_append] at ho1
  exact ⟨g, cap, rfl, ho1, ((Below.refl _ _).alloc (Nat.le_refl _) _).grown hg1 (by simp) (fun j hj => by simp [Value.ownBlock] at hj; omega)⟩
set_option maxRecDepth 4000 in
set_option maxHeartbeats 2000000 in
theorem freshrO_any (A : Option Addr) (ps : List Int) (c : Nat) (w : World) (hl : ps.length ≤ 35184372088832) (hp : VL w w.heap.size A (rv ps)) : Calls Try.prog 78 #[.slice A ps.length c] w (FreshO 21 1 ps.length (rv ps) w) := by
  obtain ⟨cs, hcs, hmk⟩ := run_mk_G runeG ps.length (by omega) (by omega)
  have hv : VL w w.heap.size A (rv ps) := hp
  have HV := hd hv
  have HCS := hd hcs
  clear hp hv hcs
  go_enter Try.func78, Try.ntmps78
  go_wp2_with (at_builtin; refine wpList_append_G runeG _ rfl (.tmp 5) (.tmp 6) rfl w.heap.size (.slice (some ⟨w.heap.size, 0, none⟩) 0 ps.length) 0 [] rfl (World.ownsRow_made w cs ps.length (Nat.le_refl _) (by unfold maxLen; omega) HCS.out) A ps.length c w.heap.size (rv ps) rfl (by rw [rv_len] <;> omega) (HV.out.below ((Below.refl _ _).alloc (Nat.le_refl _) _)) (rv_one ps) (by unfold maxLen; omega) (by omega) (by simp) rfl ?_; intro g cap w1 ho1 hg1)
  go_ret
  rw [Nat.zero_add, List.nil_append] at ho1
  exact ⟨g, cap, rfl, ho1, ((Below.refl _ _).alloc (Nat.le_refl _) _).grown hg1 (by simp) (fun j hj => by simp [Value.ownBlock] at hj; omega)⟩
/-- A tree whose three rows are its own, its Kids' blocks not that of their row. -/
def TopO (base d : Nat) (w : World) (v : Value) (n : NT) : Prop :=
  ∃ (PA : Option Addr) (pc : Nat) (TA : Option Addr) (tc : Nat) (KA : Option Addr) (kc : Nat) (us : List Value), v = .agg #[.bool n.lf, .slice PA n.ps.length pc, .slice TA n.tx.length tc, .slice KA n.ks.length kc] ∧ w.ownsRow base 74 2 (.slice PA n.ps.length pc) n.ps.length (pv n.ps) ∧ w.ownsRow base 21 1 (.slice TA n.tx.length tc) n.tx.length (rv n.tx) ∧
    w.ownsRow base 26 4 (.slice KA n.ks.length kc) n.ks.length (flatV us) ∧ FitN n.ps n.tx.length n.ks.length pc tc kc ∧ us.length = n.ks.length ∧ ∀ (j : Nat) (m : NT), n.ks[j]? = some m → ∃ u, us[j]? = some u ∧ TreeP (fun b => base ≤ b ∧ b < w.heap.size ∧ some b ≠ (Value.slice KA 0 0).ownBlock) d w u m
set_option maxRecDepth 4000 in
theorem TopO.base {base base' d : Nat} {w : World} {v : Value} {n : NT} (h : TopO base d w v n) (hb : base' ≤ base) : TopO base' d w v n := by
  obtain ⟨PA, pc, TA, tc, KA, kc, us, e, hp, ht, hk, hf, hl, hks⟩ := h
  exact ⟨PA, pc, TA, tc, KA, kc, us, e, ownsRow_base hp hb, ownsRow_base ht hb, ownsRow_base hk hb, hf, hl, fun j m hm => by
    obtain ⟨u, h1, h2⟩ := hks j m hm
    exact ⟨u, h1, h2.keep (fun b hb2 => ⟨by omega, hb2.2⟩) (fun _ _ => ⟨rfl, rfl⟩)⟩⟩
set_option maxRecDepth 4000 in
theorem ownsRow_far2 {w w' : World} {base : Nat} {t : TypeId} {size : Nat} {v : Value} {n : Nat} {xs : List Value} (h : w.ownsRow base t size v n xs) (hk : ∀ b, base ≤ b → b < w.heap.size → w'.heap[b]? = w.heap[b]?) : w'.ownsRow base t size v n xs := by
  refine ⟨h.1, ?_⟩
  rcases h.2 with e | ⟨g, cap, cur, e, hg, hh, rest⟩
  · exact .inl e
  · exact .inr ⟨g, cap, cur, e, hg, (hk g hg (lt_of_block hh)).trans hh, rest⟩
set_option maxRecDepth 4000 in
theorem TopO.keep {base d : Nat} {w w' : World} {v : Value} {n : NT} (h : TopO base d w v n) (hs : w.heap.size ≤ w'.heap.size) (hk : ∀ b, base ≤ b → b < w.heap.size → w'.heap[b]? = w.heap[b]?) : TopO base d w' v n := by
  obtain ⟨PA, pc, TA, tc, KA, kc, us, e, hp, ht, hkk, hf, hl, hks⟩ := h
  exact ⟨PA, pc, TA, tc, KA, kc, us, e, ownsRow_far2 hp hk, ownsRow_far2 ht hk, ownsRow_far2 hkk hk, hf, hl, fun j m hm => by
    obtain ⟨u, h1, h2⟩ := hks j m hm
    exact ⟨u, h1, h2.keep (fun b hb2 => ⟨hb2.1, by omega, hb2.2.2⟩) (fun p hp => ⟨World.cell?_of_block (hk _ hp.1 hp.2.1), World.frozen?_of_block (hk _ hp.1 hp.2.1)⟩)⟩⟩
set_option maxRecDepth 4000 in
theorem TopO.val {base d : Nat} {w : World} {v : Value} {n : NT} (h : TopO base d w v n) : ∃ lf PA np pc TA nt tc KA nk kc, v = .agg #[.bool lf, .slice PA np pc, .slice TA nt tc, .slice KA nk kc] := by
  obtain ⟨PA, pc, TA, tc, KA, kc, us, e, _⟩ := h
  exact ⟨_, _, _, _, _, _, _, _, _, _, e⟩
set_option maxRecDepth 4000 in
theorem TopO.tree {base d : Nat} {w : World} {v : Value} {n : NT} (h : TopO base d w v n) : TreeP (fun b => base ≤ b ∧ b < w.heap.size) (d + 1) w v n := by
  obtain ⟨PA, pc, TA, tc, KA, kc, us, e, hp, ht, hkk, hf, hl, hks⟩ := h
  refine ⟨PA, pc, TA, tc, KA, kc, e, own_vp hp, own_vp ht, hf, fun k m hm => ?_⟩
  have hfree := own_vp hkk
  have h4 : ∀ x ∈ us, x.cells.size = 4 := fun x hx => by
    obtain ⟨j, hj, rfl⟩ := List.mem_iff_getElem.1 hx
    obtain ⟨u, hu, ht⟩ := hks j _ (List.getElem?_eq_getElem (by rw [← hl]; exact hj))
    rw [List.getElem?_eq_getElem hj] at hu
    injection hu with hu
    obtain ⟨c0, c1, c2, c3, e⟩ := ht.four
    rw [hu, e]; rfl
  obtain ⟨u, hu, htr⟩ := hks k m hm
  obtain ⟨c0, c1, c2, c3, e4⟩ := htr.four
  have hc := fun i c hi => hfree (k * 4 + i) c (cells_at us k u c0 c1 c2 c3 h4 hu e4 i c hi)
  obtain ⟨g, o, hg, hgb, hc0⟩ := hc 0 c0 rfl
  subst hg
  have hc' : ∀ i c, [c0, c1, c2, c3][i]? = some c → Free w g (o + (k * 4 + i)) c := fun i c hi => by
    obtain ⟨g', o', e', _, h5⟩ := hc i c hi
    injection e' with e'
    injection e' with e1 e2
    subst e1 e2
    exact h5
  refine ⟨g, o, u, rfl, hgb, htr.keep (fun b hb => ⟨hb.1, hb.2.1⟩) (fun _ _ => ⟨rfl, rfl⟩), ⟨c0, c1, c2, c3, e4, ?_, ?_, ?_, ?_⟩, ?_⟩
  · exact (hc' 0 c0 rfl).1
  · exact (hc' 1 c1 rfl).1
  · exact (hc' 2 c2 rfl).1
  · exact (hc' 3 c3 rfl).1
  · exact (hc' 0 c0 rfl).2
/-- A new tree, its rows its own. -/
def CopiedO (d : Nat) (n : NT) (w : World) (e : Ending) (w' : World) : Prop :=
  ∃ v, e = .returned v ∧ TopO w.heap.size d w' v n ∧ Below w.heap.size w w'
set_option maxRecDepth 4000 in
theorem CopiedO.copied {d : Nat} {n : NT} {w w' : World} {e : Ending} (h : CopiedO d n w e w') : Copied (d + 1) n w e w' := by
  obtain ⟨v, h1, h2, h3⟩ := h
  exact ⟨v, h1, h2.tree, h3⟩
/-- What the first region leaves, and both rows. -/
def OutAtO (w : World) (lf : Bool) (ps : List Pr) (tx : List Int) (kids : Value) (s4 : Value) (wx : World) : Prop :=
  ∃ gO gp cp gt ct, s4 = .pointer (some ⟨gO, 0, none⟩) ∧ Below w.heap.size w wx ∧ wx.heap[w.heap.size + 1]? = some (.cells #[.bool false, .slice none 0 0, .slice none 0 0, .slice none 0 0] 26) ∧ w.heap.size + 2 ≤ gO ∧ wx.cell? ⟨w.heap.size, 3, none⟩ = some kids ∧
    wx.heap[gO]? = some (.cells #[.bool lf, .slice (some ⟨gp, 0, none⟩) ps.length cp, .slice (some ⟨gt, 0, none⟩) tx.length ct, .slice none 0 0] 26 (0, 0)) ∧
    VP (fun b => w.heap.size + 2 ≤ b ∧ b < wx.heap.size ∧ b ≠ gO) wx (some ⟨gp, 0, none⟩) (pv ps) ∧ VP (fun b => w.heap.size + 2 ≤ b ∧ b < wx.heap.size ∧ b ≠ gO) wx (some ⟨gt, 0, none⟩) (rv tx) ∧ ps.length ≤ cp ∧ tx.length ≤ ct ∧ PT wx (w.heap.size + 2) (some ⟨gp, 0, none⟩) cp (some ⟨gt, 0, none⟩) ct ps tx
set_option maxRecDepth 4000 in
theorem outAt_out {w : World} {lf : Bool} {ps : List Pr} {tx : List Int} {kids s4 : Value} {wx w3 : World} {gO gp cp gt ct : Nat} {k0 : Value} {fr : Nat × Nat} (h : OutAt w lf ps tx kids s4 wx) (e : s4 = .pointer (some ⟨gO, 0, none⟩)) (hO : wx.heap[gO]? = some (.cells #[.bool lf, .slice (some ⟨gp, 0, none⟩) ps.length cp, .slice (some ⟨gt, 0, none⟩) tx.length ct, k0] 26 fr)) (hpt : PT w3 (w.heap.size + 2) (some ⟨gp, 0, none⟩) cp (some ⟨gt, 0, none⟩) ct ps tx) (hk : KeepN w3 wx) : OutAtO w lf ps tx kids s4 wx := by
  obtain ⟨gO', gp', cp', gt', ct', e', h2, h3, h4, h5, h6, h7, h8, h9, h10⟩ := h
  have eO : gO' = gO := by rw [e] at e'; injection e' with e'; injection e' with e'; injection e' with e'; exact e'.symm
  subst eO
  rw [hO] at h6
  simp only [Option.some.injEq, Obj.cells.injEq, Array.mk.injEq, List.cons.injEq, Value.slice.injEq, Addr.mk.injEq, and_true, true_and] at h6
  obtain ⟨⟨⟨e1, e2⟩, ⟨e3, e4⟩, e5⟩, e6⟩ := h6
  subst e1 e2 e3 e4 e5 e6
  exact ⟨_, _, _, _, _, e, h2, h3, h4, h5, hO, h7, h8, h9, h10, hpt.keep hk⟩
set_option maxRecDepth 4000 in
theorem pt_rows {w W W' w2 w3 : World} {ps : List Pr} {tx : List Int} {gp : Option Addr} {cp : Nat} {gt : Option Addr} {ct : Nat} (op : w2.ownsRow W.heap.size 74 2 (.slice gp ps.length cp) ps.length (pv ps)) (ot : w3.ownsRow W'.heap.size 21 1 (.slice gt tx.length ct) tx.length (rv tx)) (hb : Below w2.heap.size w2 w3) (hW : w.heap.size + 2 ≤ W.heap.size) (hW' : w.heap.size + 2 ≤ W'.heap.size) : PT w3 (w.heap.size + 2) gp cp gt ct ps tx :=
  ⟨ownsRow_base (ownsRow_far2 op fun b _ hl => hb.block b hl) hW, ownsRow_base ot hW'⟩
set_option maxRecDepth 4000 in
theorem keepN_set4 {w : World} {g : Nat} {cs : Array Value} {fr : Nat × Nat} {a b c d : Value} (h : w.heap[g]? = some (.cells cs 26 fr)) : KeepN w ((((w.setCell ⟨g, 0, none⟩ a).setCell ⟨g, 1, none⟩ b).setCell ⟨g, 2, none⟩ c).setCell ⟨g, 3, none⟩ d) :=
  KeepN.of_but h fun k hk _ => by iterate 4 rw [Below.heap_setCell _ _ _ _ (by simpa using hk)]
/-- The loop's relation, and both rows. -/
structure CopyLoopO (w : World) (d : Nat) (lf : Bool) (ps : List Pr) (tx : List Int) (ks : List NT) (gO gp cp gt ct k gk cap : Nat) (us : List Value) (wr : World) : Prop where
  loop : CopyLoop w d lf ps tx ks gO gp cp gt ct k gk cap us wr
  pt : PT wr (w.heap.size + 2) (some ⟨gp, 0, none⟩) cp (some ⟨gt, 0, none⟩) ct ps tx
set_option maxRecDepth 4000 in
theorem KeepN.trans {a b c : World} (h : KeepN a b) (k : KeepN b c) (hs : a.heap.size ≤ b.heap.size) : KeepN a c := fun x hx hn => by
  have h1 := h x hx hn
  exact (k x (by omega) (fun cs fr e => hn cs fr (h1.symm.trans e))).trans h1
set_option maxRecDepth 4000 in
theorem copyO_step {w wr w4 w6 : World} {d : Nat} {lf : Bool} {ps : List Pr} {tx : List Int} {ks : List NT} {gO gp cp gt ct k gk cap g6 cap6 : Nat} {us us6 : List Value} {o o1 : Obj} {x : Value} (h : CopyLoopO w d lf ps tx ks gO gp cp gt ct k gk cap us wr)
    (hb4 : Below (wr.alloc o).drew.heap.size (wr.alloc o).drew w4) (hgrow : (w4.alloc o1).grownBy w6 (some gk)) (hst : CopyLoop w d lf ps tx ks gO gp cp gt ct (k + 1) g6 cap6 us6 (w6.setCell ⟨gO, 3, none⟩ x)) : CopyLoopO w d lf ps tx ks gO gp cp gt ct (k + 1) g6 cap6 us6 (w6.setCell ⟨gO, 3, none⟩ x) := by
  refine ⟨hst, h.pt.keep fun b hb hn => ?_⟩
  obtain ⟨hs4, hbl4⟩ := call_row hb4
  have e5 : (w4.alloc o1).heap.size = w4.heap.size + 1 := sz1
  have hne : b ≠ gO := fun e => hn _ _ (e ▸ h.loop.out)
  have hnk : b ≠ gk := fun e => by
    rcases h.loop.row.2 with ⟨e1, _⟩ | ⟨g', cap', cur, e1, _, hh, _⟩
    · cases e1
    · injection e1 with e1
      injection e1 with e1
      injection e1 with e1
      exact hn _ _ (e ▸ e1 ▸ hh)
  rw [Below.heap_setCell _ _ _ _ (by simpa using hne), hgrow.block b (by rw [e5]; omega) (by intro e; injection e with e; exact hnk e), Below.heap_alloc _ _ _ (by omega), hbl4 b hb]
set_option maxRecDepth 4000 in
theorem copyO_end {w wr w7 : World} {d : Nat} {lf : Bool} {ps : List Pr} {tx : List Int} {ks : List NT} {gO gp cp gt ct gk cap : Nat} {us : List Value} (hh : CopyLoopO w d lf ps tx ks gO gp cp gt ct ks.length gk cap us wr) (hf : Wide ps ∧ ps.length ≤ 4398046511104 ∧ tx.length ≤ 35184372088832 ∧ ks.length ≤ 1759218604441 ∧ ps.length ≤ cp ∧ tx.length ≤ ct) (hs : wr.heap.size ≤ w7.heap.size)
    (h7 : ∀ b, b ≠ w.heap.size + 1 → w7.heap[b]? = wr.heap[b]?) :
    TopO w.heap.size d w7 (.agg #[.bool lf, .slice (some ⟨gp, 0, none⟩) ps.length cp, .slice (some ⟨gt, 0, none⟩) tx.length ct, .slice (some ⟨gk, 0, none⟩) ks.length cap]) (.mk lf ps tx ks) := by
  have h := hh.loop
  have hfar : ∀ b, w.heap.size + 2 ≤ b → b < wr.heap.size → w7.heap[b]? = wr.heap[b]? := fun b h1 _ => h7 b (by omega)
  have hrow := ownsRow_far2 h.row hfar
  refine ⟨_, _, _, _, _, _, us, rfl, ownsRow_base (ownsRow_far2 hh.pt.p hfar) (by omega), ownsRow_base (ownsRow_far2 hh.pt.t hfar) (by omega), ownsRow_base hrow (by omega), ⟨hf.1, hf.2.1, hf.2.2.1, hf.2.2.2.1, hf.2.2.2.2.1, hf.2.2.2.2.2, own_cap hrow⟩, h.len, fun j m hm => ?_⟩
  obtain ⟨u, hu, ht⟩ := h.kids j m (List.getElem?_eq_some_iff.1 hm).1 hm
  exact ⟨u, hu, ht.keep (fun b hb => ⟨by omega, by omega, fun e => by injection e with e; exact hb.2.2.2 e⟩) (fun p hp => ⟨World.cell?_of_block (h7 _ (by omega)), World.frozen?_of_block (h7 _ (by omega))⟩)⟩

end Go.Proofs.Ytmglnjmnabjjgaa
