/- Copy, once more: what it makes owns its rows of properties, of runes, and of Kids. Copy, once more: its walk. -/
import Derived.Test.YtmglnjmnabjjgaaJNFreshWK
import Derived.Test.YtmglnjmnabjjgaaJKCmp
namespace Go.Proofs.Ytmglnjmnabjjgaa
open Go.RowKit
open Go.WideShapes (add_plain)

/-- A row that is the call's own, but for where its blocks begin. -/
theorem ownsRow_base {w : World} {base base' : Nat} {t : TypeId} {size : Nat} {v : Value} {n : Nat} {xs : List Value} (h : w.ownsRow base t size v n xs) (hb : base' ≤ base) : w.ownsRow base' t size v n xs := by
  refine ⟨h.1, ?_⟩
  rcases h.2 with e | ⟨g, cap, cur, e, hg, rest⟩
  · exact .inl e
  · exact .inr ⟨g, cap, cur, e, by omega, rest⟩
/-- All blocks that are not of nodes stay. -/
def KeepN (w w' : World) : Prop := ∀ b, b < w.heap.size → (∀ cs fr, w.heap[b]? ≠ some (.cells cs 26 fr)) → w'.heap[b]? = w.heap[b]?
set_option maxRecDepth 4000 in
theorem ownsRow_keepN {w w' : World} {base : Nat} {t : TypeId} {size : Nat} {v : Value} {n : Nat} {xs : List Value} (h : w.ownsRow base t size v n xs) (ht : t ≠ 26) (hk : KeepN w w') : w'.ownsRow base t size v n xs := by
  refine ⟨h.1, ?_⟩
  rcases h.2 with e | ⟨g, cap, cur, e, hg, hh, rest⟩
  · exact .inl e
  · refine .inr ⟨g, cap, cur, e, hg, (hk g (lt_of_block hh) fun cs fr e2 => ?_).trans hh, rest⟩
    rw [hh] at e2
    injection e2 with e2
    injection e2 with _ e3
    exact ht e3
set_option maxRecDepth 4000 in
theorem KeepN.of_below {w w' : World} (h : Below w.heap.size w w') : KeepN w w' := fun b hb _ => h.block b hb
set_option maxRecDepth 4000 in
theorem KeepN.of_but {w w' : World} {g : Nat} {cs : Array Value} {fr : Nat × Nat} (hg : w.heap[g]? = some (.cells cs 26 fr)) (h : ∀ b, b ≠ g → b < w.heap.size → w'.heap[b]? = w.heap[b]?) : KeepN w w' := fun b hb hn => h b (fun e => hn cs fr (e ▸ hg)) hb
/-- Both rows beside the Kids'. -/
structure PT (w : World) (base : Nat) (gp : Option Addr) (cp : Nat) (gt : Option Addr) (ct : Nat) (ps : List Pr) (tx : List Int) : Prop where
  p : w.ownsRow base 74 2 (.slice gp ps.length cp) ps.length (pv ps)
  t : w.ownsRow base 21 1 (.slice gt tx.length ct) tx.length (rv tx)
set_option maxRecDepth 4000 in
theorem PT.keep {w w' : World} {base : Nat} {gp : Option Addr} {cp : Nat} {gt : Option Addr} {ct : Nat} {ps : List Pr} {tx : List Int} (h : PT w base gp cp gt ct ps tx) (hk : KeepN w w') : PT w' base gp cp gt ct ps tx :=
  ⟨ownsRow_keepN h.p (by decide) hk, ownsRow_keepN h.t (by decide) hk⟩
/-- What fresh makes, its row its own. -/
def FreshO (t : TypeId) (size n : Nat) (xs : List Value) (w : World) (e : Ending) (w' : World) : Prop :=
  ∃ g c, e = .returned (.slice (some ⟨g, 0, none⟩) n c) ∧ w'.ownsRow w.heap.size t size (.slice (some ⟨g, 0, none⟩) n c) n xs ∧ Below w.heap.size w w'
set_option maxRecDepth 4000 in
theorem FreshO.vp {t : TypeId} {size n : Nat} {xs : List Value} {w w' : World} {e : Ending} (h : FreshO t size n xs w e w') : ∃ g c, e = .returned (.slice (some ⟨g, 0, none⟩) n c) ∧ VP (fun b => w.heap.size ≤ b ∧ b < w'.heap.size) w' (some ⟨g, 0, none⟩) xs ∧ Below w.heap.size w w' ∧ n ≤ c ∧ w'.ownsRow w.heap.size t size (.slice (some ⟨g, 0, none⟩) n c) n xs := by
  obtain ⟨g, c, e, h1, h2⟩ := h
  exact ⟨g, c, e, own_vp h1, h2, own_cap h1, h1⟩

set_option maxRecDepth 4000 in
set_option maxHeartbeats 2000000 in
theorem freshpO_any (A : Option Addr) (ps : List Pr) (c : Nat) (w : World) (hl : ps.length ≤ 4398046511104) (hp : PL w w.heap.size A ps) : Calls Try.prog 77 #[.slice A ps.length c] w (FreshO 74 2 ps.length (pv ps) w) := by
  obtain ⟨cs, hcs, hmk⟩ := run_mk_G propG ps.length (by omega) (by omega)
  have hv : VL w w.heap.size A (pv ps) := hp.vl
  have HV := hd hv
  have HCS := hd hcs
  clear hp hv hcs
  go_enter Try.func77, Try.ntmps77
  go_wp2_with (at_builtin; refine wpList_append_G propG _ rfl (.tmp 5) (.tmp 6) rfl w.heap.size (.slice (some ⟨w.heap.size, 0, none⟩) 0 ps.length) 0 [] rfl (World.ownsRow_made w cs ps.length (Nat.le_refl _) (by unfold maxLen; omega) HCS.out) A ps.length c w.heap.size (pv ps) rfl (by rw [pv_len] <;> omega) (HV.out.below ((Below.refl _ _).alloc (Nat.le_refl _) _)) (pv_one ps) (by unfold maxLen; omega) (by omega) (by simp) rfl ?_; intro g cap w1 ho1 hg1)
  go_ret
  rw [Nat.zero_add, List.nil_append] at ho1
  exact ⟨g, cap, rfl, ho1, ((Below.refl _ _).alloc (Nat.le_refl _) _).grown hg1 (by simp) (fun j hj => by simp [Value.ownBlock] at hj; omega)⟩
set_option maxRecDepth 4000 in
set_option maxHeartbeats 2000000 in
theorem freshrO_any (A : Option Addr) (ps : List Int) (c : Nat) (w : World) (hl : ps.length ≤ 35184372088832) (hp : VL w w.heap.size A (rv ps)) : Calls Try.prog 78 #[.slice A ps.length c] w (FreshO 21 1 ps.length (rv ps) w) := by
  obtain ⟨cs, hcs, hmk⟩ := run_mk_G runeG ps.length (by omega) (by omega)
  have hv : VL w w.heap.size A (rv ps) := hp
  have HV := hd hv
  have HCS := hd hcs
  clear hp hv hcs
  go_enter Try.func78, Try.ntmps78
  go_wp2_with (at_builtin; refine wpList_append_G runeG _ rfl (.tmp 5) (.tmp 6) rfl w.heap.size (.slice (some ⟨w.heap.size, 0, none⟩) 0 ps.length) 0 [] rfl (World.ownsRow_made w cs ps.length (Nat.le_refl _) (by unfold maxLen; omega) HCS.out) A ps.length c w.heap.size (rv ps) rfl (by rw [rv_len] <;> omega) (HV.out.below ((Below.refl _ _).alloc (Nat.le_refl _) _)) (rv_one ps) (by unfold maxLen; omega) (by omega) (by simp) rfl ?_; intro g cap w1 ho1 hg1)
  go_ret
  rw [Nat.zero_add, List.nil_append] at ho1
  exact ⟨g, cap, rfl, ho1, ((Below.refl _ _).alloc (Nat.le_refl _) _).grown hg1 (by simp) (fun j hj => by simp [Value.ownBlock] at hj; omega)⟩
/-- A tree whose three rows are its own, its Kids' blocks not that of their row. -/
def TopO (base d : Nat) (w : World) (v : Value) (n : NT) : Prop :=
  ∃ (PA : Option Addr) (pc : Nat) (TA : Option Addr) (tc : Nat) (KA : Option Addr) (kc : Nat) (us : List Value), v = .agg #[.bool n.lf, .slice PA n.ps.length pc, .slice TA n.tx.length tc, .slice KA n.ks.length kc] ∧ w.ownsRow base 74 2 (.slice PA n.ps.length pc) n.ps.length (pv n.ps) ∧ w.ownsRow base 21 1 (.slice TA n.tx.length tc) n.tx.length (rv n.tx) ∧
    w.ownsRow base 26 4 (.slice KA n.ks.length kc) n.ks.length (flatV us) ∧ FitN n.ps n.tx.length n.ks.length pc tc kc ∧ us.length = n.ks.length ∧ ∀ (j : Nat) (m : NT), n.ks[j]? = some m → ∃ u, us[j]? = some u ∧ TreeP (fun b => base ≤ b ∧ b < w.heap.size ∧ some b ≠ (Value.slice KA 0 0).ownBlock) d w u m
set_option maxRecDepth 4000 in
theorem TopO.base {base base' d : Nat} {w : World} {v : Value} {n : NT} (h : TopO base d w v n) (hb : base' ≤ base) : TopO base' d w v n := by
  obtain ⟨PA, pc, TA, tc, KA, kc, us, e, hp, ht, hk, hf, hl, hks⟩ := h
  exact ⟨PA, pc, TA, tc, KA, kc, us, e, ownsRow_base hp hb, ownsRow_base ht hb, ownsRow_base hk hb, hf, hl, fun j m hm => by
    obtain ⟨u, h1, h2⟩ := hks j m hm
    exact ⟨u, h1, h2.keep (fun b hb2 => ⟨by omega, hb2.2⟩) (fun _ _ => ⟨rfl, rfl⟩)⟩⟩
set_option maxRecDepth 4000 in
theorem ownsRow_far2 {w w' : World} {base : Nat} {t : TypeId} {size : Nat} {v : Value} {n : Nat} {xs : List Value} (h : w.ownsRow base t size v n xs) (hk : ∀ b, base ≤ b → b < w.heap.size → w'.heap[b]? = w.heap[b]?) : w'.ownsRow base t size v n xs := by
  refine ⟨h.1, ?_⟩
  rcases h.2 with e | ⟨g, cap, cur, e, hg, hh, rest⟩
  · exact .inl e
  · exact .inr ⟨g, cap, cur, e, hg, (hk g hg (lt_of_block hh)).trans hh, rest⟩
set_option maxRecDepth 4000 in
theorem TopO.keep {base d : Nat} {w w' : World} {v : Value} {n : NT} (h : TopO base d w v n) (hs : w.heap.size ≤ w'.heap.size) (hk : ∀ b, base ≤ b → b < w.heap.size → w'.heap[b]? = w.heap[b]?) : TopO base d w' v n := by
  obtain ⟨PA, pc, TA, tc, KA, kc, us, e, hp, ht, hkk, hf, hl, hks⟩ := h
  exact ⟨PA, pc, TA, tc, KA, kc, us, e, ownsRow_far2 hp hk, ownsRow_far2 ht hk, ownsRow_far2 hkk hk, hf, hl, fun j m hm => by
    obtain ⟨u, h1, h2⟩ := hks j m hm
    exact ⟨u, h1, h2.keep (fun b hb2 => ⟨hb2.1, by omega, hb2.2.2⟩) (fun p hp => ⟨World.cell?_of_block (hk _ hp.1 hp.2.1), World.frozen?_of_block (hk _ hp.1 hp.2.1)⟩)⟩⟩
set_option maxRecDepth 4000 in
theorem TopO.val {base d : Nat} {w : World} {v : Value} {n : NT} (h : TopO base d w v n) : ∃ lf PA np pc TA nt tc KA nk kc, v = .agg #[.bool lf, .slice PA np pc, .slice TA nt tc, .slice KA nk kc] := by
  obtain ⟨PA, pc, TA, tc, KA, kc, us, e, _⟩ := h
  exact ⟨_, _, _, _, _, _, _, _, _, _, e⟩
set_option maxRecDepth 4000 in
theorem TopO.tree {base d : Nat} {w : World} {v : Value} {n : NT} (h : TopO base d w v n) : TreeP (fun b => base ≤ b ∧ b < w.heap.size) (d + 1) w v n := by
  obtain ⟨PA, pc, TA, tc, KA, kc, us, e, hp, ht, hkk, hf, hl, hks⟩ := h
  refine ⟨PA, pc, TA, tc, KA, kc, e, own_vp hp, own_vp ht, hf, fun k m hm => ?_⟩
  have hfree := own_vp hkk
  have h4 : ∀ x ∈ us, x.cells.size = 4 := fun x hx => by
    obtain ⟨j, hj, rfl⟩ := List.mem_iff_getElem.1 hx
    obtain ⟨u, hu, ht⟩ := hks j _ (List.getElem?_eq_getElem (by rw [← hl]; exact hj))
    rw [List.getElem?_eq_getElem hj] at hu
    injection hu with hu
    obtain ⟨c0, c1, c2, c3, e⟩ := ht.four
    rw [hu, e]; rfl
  obtain ⟨u, hu, htr⟩ := hks k m hm
  obtain ⟨c0, c1, c2, c3, e4⟩ := htr.four
  have hc := fun i c hi => hfree (k * 4 + i) c (cells_at us k u c0 c1 c2 c3 h4 hu e4 i c hi)
  obtain ⟨g, o, hg, hgb, hc0⟩ := hc 0 c0 rfl
  subst hg
  have hc' : ∀ i c, [c0, c1, c2, c3][i]? = some c → Free w g (o + (k * 4 + i)) c := fun i c hi => by
    obtain ⟨g', o', e', _, h5⟩ := hc i c hi
    injection e' with e'
    injection e' with e1 e2
    subst e1 e2
    exact h5
  refine ⟨g, o, u, rfl, hgb, htr.keep (fun b hb => ⟨hb.1, hb.2.1⟩) (fun _ _ => ⟨rfl, rfl⟩), ⟨c0, c1, c2, c3, e4, ?_, ?_, ?_, ?_⟩, ?_⟩
  · exact (hc' 0 c0 rfl).1
  · exact (hc' 1 c1 rfl).1
  · exact (hc' 2 c2 rfl).1
  · exact (hc' 3 c3 rfl).1
  · exact (hc' 0 c0 rfl).2
/-- A new tree, its rows its own. -/
def CopiedO (d : Nat) (n : NT) (w : World) (e : Ending) (w' : World) : Prop :=
  ∃ v, e = .returned v ∧ TopO w.heap.size d w' v n ∧ Below w.heap.size w w'
set_option maxRecDepth 4000 in
theorem CopiedO.copied {d : Nat} {n : NT} {w w' : World} {e : Ending} (h : CopiedO d n w e w') : Copied (d + 1) n w e w' := by
  obtain ⟨v, h1, h2, h3⟩ := h
  exact ⟨v, h1, h2.tree, h3⟩
/-- What the first region leaves, and both rows. -/
def OutAtO (w : World) (lf : Bool) (ps : List Pr) (tx : List Int) (kids : Value) (s4 : Value) (wx : World) : Prop :=
  ∃ gO gp cp gt ct, s4 = .pointer (some ⟨gO, 0, none⟩) ∧ Below w.heap.size w wx ∧ wx.heap[w.heap.size + 1]? = some (.cells #[.bool false, .slice none 0 0, .slice none 0 0, .slice none 0 0] 26) ∧ w.heap.size + 2 ≤ gO ∧ wx.cell? ⟨w.heap.size, 3, none⟩ = some kids ∧
    wx.heap[gO]? = some (.cells #[.bool lf, .slice (some ⟨gp, 0, none⟩) ps.length cp, .slice (some ⟨gt, 0, none⟩) tx.length ct, .slice none 0 0] 26 (0, 0)) ∧
    VP (fun b => w.heap.size + 2 ≤ b ∧ b < wx.heap.size ∧ b ≠ gO) wx (some ⟨gp, 0, none⟩) (pv ps) ∧ VP (fun b => w.heap.size + 2 ≤ b ∧ b < wx.heap.size ∧ b ≠ gO) wx (some ⟨gt, 0, none⟩) (rv tx) ∧ ps.length ≤ cp ∧ tx.length ≤ ct ∧ PT wx (w.heap.size + 2) (some ⟨gp, 0, none⟩) cp (some ⟨gt, 0, none⟩) ct ps tx
set_option maxRecDepth 4000 in
theorem outAt_out {w : World} {lf : Bool} {ps : List Pr} {tx : List Int} {kids s4 : Value} {wx w3 : World} {gO gp cp gt ct : Nat} {k0 : Value} {fr : Nat × Nat} (h : OutAt w lf ps tx kids s4 wx) (e : s4 = .pointer (some ⟨gO, 0, none⟩)) (hO : wx.heap[gO]? = some (.cells #[.bool lf, .slice (some ⟨gp, 0, none⟩) ps.length cp, .slice (some ⟨gt, 0, none⟩) tx.length ct, k0] 26 fr)) (hpt : PT w3 (w.heap.size + 2) (some ⟨gp, 0, none⟩) cp (some ⟨gt, 0, none⟩) ct ps tx) (hk : KeepN w3 wx) : OutAtO w lf ps tx kids s4 wx := by
  obtain ⟨gO', gp', cp', gt', ct', e', h2, h3, h4, h5, h6, h7, h8, h9, h10⟩ := h
  have eO : gO' = gO := by rw [e] at e'; injection e' with e'; injection e' with e'; injection e' with e'; exact e'.symm
  subst eO
  rw [hO] at h6
  simp only [Option.some.injEq, Obj.cells.injEq, Array.mk.injEq, List.cons.injEq, Value.slice.injEq, Addr.mk.injEq, and_true, true_and] at h6
  obtain ⟨⟨⟨e1, e2⟩, ⟨e3, e4⟩, e5⟩, e6⟩ := h6
  subst e1 e2 e3 e4 e5 e6
  exact ⟨_, _, _, _, _, e, h2, h3, h4, h5, hO, h7, h8, h9, h10, hpt.keep hk⟩
set_option maxRecDepth 4000 in
theorem pt_rows {w W W' w2 w3 : World} {ps : List Pr} {tx : List Int} {gp : Option Addr} {cp : Nat} {gt : Option Addr} {ct : Nat} (op : w2.ownsRow W.heap.size 74 2 (.slice gp ps.length cp) ps.length (pv ps)) (ot : w3.ownsRow W'.heap.size 21 1 (.slice gt tx.length ct) tx.length (rv tx)) (hb : Below w2.heap.size w2 w3) (hW : w.heap.size + 2 ≤ W.heap.size) (hW' : w.heap.size + 2 ≤ W'.heap.size) : PT w3 (w.heap.size + 2) gp cp gt ct ps tx :=
  ⟨ownsRow_base (ownsRow_far2 op fun b _ hl => hb.block b hl) hW, ownsRow_base ot hW'⟩
set_option maxRecDepth 4000 in
theorem keepN_set4 {w : World} {g : Nat} {cs : Array Value} {fr : Nat × Nat} {a b c d : Value} (h : w.heap[g]? = some (.cells cs 26 fr)) : KeepN w ((((w.setCell ⟨g, 0, none⟩ a).setCell ⟨g, 1, none⟩ b).setCell ⟨g, 2, none⟩ c).setCell ⟨g, 3, none⟩ d) :=
  KeepN.of_but h fun k hk _ => by iterate 4 rw [Below.heap_setCell _ _ _ _ (by simpa using hk)]
/-- The loop's relation, and both rows. -/
structure CopyLoopO (w : World) (d : Nat) (lf : Bool) (ps : List Pr) (tx : List Int) (ks : List NT) (gO gp cp gt ct k gk cap : Nat) (us : List Value) (wr : World) : Prop where
  loop : CopyLoop w d lf ps tx ks gO gp cp gt ct k gk cap us wr
  pt : PT wr (w.heap.size + 2) (some ⟨gp, 0, none⟩) cp (some ⟨gt, 0, none⟩) ct ps tx
set_option maxRecDepth 4000 in
theorem KeepN.trans {a b c : World} (h : KeepN a b) (k : KeepN b c) (hs : a.heap.size ≤ b.heap.size) : KeepN a c := fun x hx hn => by
  have h1 := h x hx hn
  exact (k x (by omega) (fun cs fr e => hn cs fr (h1.symm.trans e))).trans h1
set_option maxRecDepth 4000 in
theorem copyO_step {w wr w4 w6 : World} {d : Nat} {lf : Bool} {ps : List Pr} {tx : List Int} {ks : List NT} {gO gp cp gt ct k gk cap g6 cap6 : Nat} {us us6 : List Value} {o o1 : Obj} {x : Value} (h : CopyLoopO w d lf ps tx ks gO gp cp gt ct k gk cap us wr)
    (hb4 : Below (wr.alloc o).drew.heap.size (wr.alloc o).drew w4) (hgrow : (w4.alloc o1).grownBy w6 (some gk)) (hst : CopyLoop w d lf ps tx ks gO gp cp gt ct (k + 1) g6 cap6 us6 (w6.setCell ⟨gO, 3, none⟩ x)) : CopyLoopO w d lf ps tx ks gO gp cp gt ct (k + 1) g6 cap6 us6 (w6.setCell ⟨gO, 3, none⟩ x) := by
  refine ⟨hst, h.pt.keep fun b hb hn => ?_⟩
  obtain ⟨hs4, hbl4⟩ := call_row hb4
  have e5 : (w4.alloc o1).heap.size = w4.heap.size + 1 := sz1
  have hne : b ≠ gO := fun e => hn _ _ (e ▸ h.loop.out)
  have hnk : b ≠ gk := fun e => by
    rcases h.loop.row.2 with ⟨e1, _⟩ | ⟨g', cap', cur, e1, _, hh, _⟩
    · cases e1
    · injection e1 with e1
      injection e1 with e1
      injection e1 with e1
      exact hn _ _ (e ▸ e1 ▸ hh)
  rw [Below.heap_setCell _ _ _ _ (by simpa using hne), hgrow.block b (by rw [e5]; omega) (by intro e; injection e with e; exact hnk e), Below.heap_alloc _ _ _ (by omega), hbl4 b hb]
set_option maxRecDepth 4000 in
theorem copyO_end {w wr w7 : World} {d : Nat} {lf : Bool} {ps : List Pr} {tx : List Int} {ks : List NT} {gO gp cp gt ct gk cap : Nat} {us : List Value} (hh : CopyLoopO w d lf ps tx ks gO gp cp gt ct ks.length gk cap us wr) (hf : Wide ps ∧ ps.length ≤ 4398046511104 ∧ tx.length ≤ 35184372088832 ∧ ks.length ≤ 1759218604441 ∧ ps.length ≤ cp ∧ tx.length ≤ ct) (hs : wr.heap.size ≤ w7.heap.size)
    (h7 : ∀ b, b ≠ w.heap.size + 1 → w7.heap[b]? = wr.heap[b]?) :
    TopO w.heap.size d w7 (.agg #[.bool lf, .slice (some ⟨gp, 0, none⟩) ps.length cp, .slice (some ⟨gt, 0, none⟩) tx.length ct, .slice (some ⟨gk, 0, none⟩) ks.length cap]) (.mk lf ps tx ks) := by
  have h := hh.loop
  have hfar : ∀ b, w.heap.size + 2 ≤ b → b < wr.heap.size → w7.heap[b]? = wr.heap[b]? := fun b h1 _ => h7 b (by omega)
  have hrow := ownsRow_far2 h.row hfar
  refine ⟨_, _, _, _, _, _, us, rfl, ownsRow_base (ownsRow_far2 hh.pt.p hfar) (by omega), ownsRow_base (ownsRow_far2 hh.pt.t hfar) (by omega), ownsRow_base hrow (by omega), ⟨hf.1, hf.2.1, hf.2.2.1, hf.2.2.2.1, hf.2.2.2.2.1, hf.2.2.2.2.2, own_cap hrow⟩, h.len, fun j m hm => ?_⟩
  obtain ⟨u, hu, ht⟩ := h.kids j m (List.getElem?_eq_some_iff.1 hm).1 hm
  exact ⟨u, hu, ht.keep (fun b hb => ⟨by omega, by omega, fun e => by injection e with e; exact hb.2.2.2 e⟩) (fun p hp => ⟨World.cell?_of_block (h7 _ (by omega)), World.frozen?_of_block (h7 _ (by omega))⟩)⟩

end Go.Proofs.Ytmglnjmnabjjgaa

namespace Go.Proofs.Ytmglnjmnabjjgaa
open Go.RowKit

set_option maxRecDepth 100000 in
set_option maxHeartbeats 8000000 in
theorem wholeO_any (g : Nat) : ∀ (d : Nat) (w : World) (v : Value) (n : NT), w.cell? ⟨g, 0, none⟩ = some (.func (.func 76) #[] #[.pointer (some ⟨g, 0, none⟩)]) → NodeAt d w w.heap.size v n →
      Calls Try.prog 76 #[v, .pointer (some ⟨g, 0, none⟩)] w (CopiedO (d - 1) n w) := by
  intro d
  induction d with
  | zero => intro w v n _ h; exact h.elim
  | succ d ih =>
    have ih2 : ∀ (w : World) (v : Value) (n : NT), w.cell? ⟨g, 0, none⟩ = some (.func (.func 76) #[] #[.pointer (some ⟨g, 0, none⟩)]) → NodeAt d w w.heap.size v n → Calls Try.prog 76 #[v, .pointer (some ⟨g, 0, none⟩)] w (Copied d n w) := by
      intro w v n h1 h2
      cases d with
      | zero => exact h2.elim
      | succ d0 => exact (ih w v n h1 h2).mono fun e w' hh => hh.copied
    clear ih
    intro w v n hg hn
    obtain ⟨d1, lf, ps, tx, ks, PA, pc, TA, tc, KA, kc, hd1, rfl, rfl, hp, ht, hf, hks⟩ := hn.open_
    obtain rfl : d = d1 := by omega
    obtain ⟨wb, hwb⟩ : ∃ wb, wb = (w.alloc (.cells #[.bool lf, .slice PA ps.length pc, .slice TA tx.length tc, .slice KA ks.length kc] 26)).alloc (.cells #[.bool false, .slice none 0 0, .slice none 0 0, .slice none 0 0] 26) := ⟨_, rfl⟩
    have hb1 : Below w.heap.size w wb := hwb ▸ below_mono2 (Below.refl _ _) (Nat.le_refl _)
    have X := (Box.new w (.bool lf) (.slice PA ps.length pc) (.slice TA tx.length tc) (.slice KA ks.length kc) 26).alloc (.cells #[.bool false, .slice none 0 0, .slice none 0 0, .slice none 0 0] 26)
    rw [← hwb] at X
    have HP := fun (w' : World) (hb0 : Below wb.heap.size wb w') => hd (freshpO_any PA ps pc w' hf.2.1 ((hp.below (hb1.trans (hb0.mono hb1.size))).more (hb1.trans (hb0.mono hb1.size)).size))
    have HT := fun (w' : World) (hb0 : Below wb.heap.size wb w') => hd (freshrO_any TA tx tc w' hf.2.2.1 ((ht.below (hb1.trans (hb0.mono hb1.size))).more (hb1.trans (hb0.mono hb1.size)).size))
    have HRES := hd (show wb.heap[w.heap.size + 1]? = some (.cells #[.bool false, .slice none 0 0, .slice none 0 0, .slice none 0 0] 26) by rw [hwb, ← sz1 (w := w) (A := (.cells #[.bool lf, .slice PA ps.length pc, .slice TA tx.length tc, .slice KA ks.length kc] 26))]; exact heap_alloc_new _ _)
    obtain ⟨cs, hcs, hmk⟩ := run_mk_G nodeG ks.length (by have := hf.2.2.2.1; omega) (by have := hf.2.2.2.1; omega)
    have HCS := hd hcs
    have HKS := hd hks
    have HG := hd hg
    have HF := hd hf
    have HB := hd hb1
    have HX := hd X
    have hl3 := hf.2.2.2.1
    obtain ⟨x0, x1, x2, x3⟩ := X
    subst hwb
    clear hn hp ht hf hks hd1 hb1 hg hcs
    go_enter Try.func76, Try.ntmps76
    go_wp2_with fail
    go_upto_region 1 with fail
    go_cut [4] (fun s4 wx => OutAtO w lf ps tx (.slice KA ks.length kc) s4 wx)
    case first =>
      go_region_held3 (fun w' => Below ((w.alloc (.cells #[.bool lf, .slice PA ps.length pc, .slice TA tx.length tc, .slice KA ks.length kc] 26)).alloc (.cells #[.bool false, .slice none 0 0, .slice none 0 0, .slice none 0 0] 26)).heap.size ((w.alloc (.cells #[.bool lf, .slice PA ps.length pc, .slice TA tx.length tc, .slice KA ks.length kc] 26)).alloc (.cells #[.bool false, .slice none 0 0, .slice none 0 0, .slice none 0 0] 26)) w' ∧ w'.cell? ⟨w.heap.size, 0, none⟩ = some (.bool lf) ∧ w'.cell? ⟨w.heap.size, 1, none⟩ = some (.slice PA ps.length pc) ∧ w'.cell? ⟨w.heap.size, 2, none⟩ = some (.slice TA tx.length tc) ∧ w'.cell? ⟨w.heap.size, 3, none⟩ = some (.slice KA ks.length kc))
        (first
          | assumption
          | exact ⟨(Below.refl _ _).drew, x0, x1, x2, x3⟩
          | exact keepS ‹_› ((Below.refl _ _).alloc (Nat.le_refl _) _)
          | exact keepSet ‹_› (by simp; omega) (by first | exact hS2.1.size | simp))
        (first
          | (go_at_call 77; refine Calls.mono (HP _ ?hh).out ?_; (case hh => (go_split_ands; assumption)); intro e w2 h2; obtain ⟨gp, cp, rfl, vp, b2, hcp, op2⟩ := h2.vp; have hS2 := keepS ‹_› b2; have HVP := hd vp; have HOP := hd op2; clear op2; (first | have hO2 := hd (newBlk3 (w := w) (Z := (.cells #[.bool false, .slice none 0 0, .slice none 0 0, .slice none 0 0] 26)) b2) | skip); clear h2 vp)
          | (go_at_call 78; refine Calls.mono (HT _ ?hh).out ?_; (case hh => (go_split_ands; assumption)); intro e w3 h3; obtain ⟨gt, ct, rfl, vt, b3, hct, ot3⟩ := h3.vp; have hS3 := keepS ‹_› b3; have HVT := hd vt; have HOT := hd ot3; clear ot3; (first | (have hO3 := hd (keepBlk hO2.out b3); have hq3 := blkCells hO3.out; obtain ⟨q0, q1, q2, q3, q4, q5, q6, q7⟩ := hq3) | (have hO3 := hd (newBlk (W0 := w2) (o := (.cells #[.bool false, .slice none 0 0, .slice none 0 0, .slice none 0 0] 26)) b3 (g := w2.heap.size) rfl); have hq3 := blkCells hO3.out; obtain ⟨q0, q1, q2, q3, q4, q5, q6, q7⟩ := hq3) | skip); clear h3 vt))
      · go_wp2_with fail
        go_meet
        exact outAt_out (w3 := w3) (outAt_new hcp hct HB.out HRES.out hS3 HVP.out HVT.out b3 (by rw [sz2]; exact Nat.le_refl _) (by have h := b2.size; rw [sz2] at h; omega) (by have h := b2.size; rw [sz2] at h; have := b3.size; omega)) rfl (heap_alloc_new _ _) (pt_rows HOP.out HOT.out b3 (by rw [sz2]; exact Nat.le_refl _) (by have h := b2.size; rw [sz2] at h; omega)) (KeepN.of_below ((Below.refl _ _).alloc (Nat.le_refl _) _))
      · go_wp2_with fail
        go_meet
        exact outAt_out (w3 := w3) (outAt_set hcp hct HB.out HRES.out hS3 HVP.out HVT.out (ex_below b3) hO3.out (by have h := b2.size; rw [sz2] at h; omega) (by rw [sz2]; exact Nat.le_refl _) (by rw [sz1]; have h := b2.size; rw [sz2] at h; omega) (fun b _ h => by omega) (fun b h => by rw [sz1] at h; omega)) rfl (set4_block hO3.out) (pt_rows HOP.out HOT.out (ex_below b3) (by rw [sz2]; exact Nat.le_refl _) (by rw [sz1]; have h := b2.size; rw [sz2] at h; omega)) (keepN_set4 hO3.out)
      · go_wp2_with fail
        go_meet
        exact outAt_out (w3 := w3) (outAt_set hcp hct HB.out HRES.out hS3 HVP.out HVT.out b3 hO3.out (by omega) (by rw [sz3]; omega) (by have h := b2.size; rw [sz3] at h; omega) (fun b h _ => by rw [sz3] at h; omega) (fun b h => by have h2 := b2.size; rw [sz3] at h2; omega)) rfl (set4_block hO3.out) (pt_rows HOP.out HOT.out b3 (by rw [sz3]; omega) (by have h := b2.size; rw [sz3] at h; omega)) (keepN_set4 hO3.out)
    case rest =>
      obtain ⟨gO, gp, cp, gt, ct, rfl, HB4, hr4, hgO, k3, hO, HVP, HVT, hcp, hct, hpt⟩ := hcut
      have HPT := hd hpt
      clear hpt
      obtain ⟨o0, o1, o2, o3, f0, f1, f2, f3⟩ := blkCells hO
      have hOl := lt_of_block hO
      have HO := hd hO
      have HB5 := hd HB4
      have HVP := hd HVP
      have HVT := hd HVT
      have hk3 : ((wc.setCell ⟨gO, 3, none⟩ (.slice (some ⟨wc.heap.size, 0, none⟩) 0 ks.length)).alloc (.cells cs 26)).cell? ⟨w.heap.size, 3, none⟩ = some (.slice KA ks.length kc) := by
        rw [World.cell?_alloc_lt _ _ _ (by have := cell_in k3; simpa using this), World.cell?_setCell_other _ _ _ _ (by simp; try omega)]; exact k3
      have HL0 := hd (show CopyLoopO w d lf ps tx ks gO gp cp gt ct 0 wc.heap.size ks.length [] _ from ⟨copy_start (d := d) (ks := ks) hgO hO HB4 hr4 HVP.out HVT.out HCS.out hl3, HPT.out.keep ((KeepN.of_but hO (fun b hb _ => Below.heap_setCell wc (a := ⟨gO, 3, none⟩) (.slice (some ⟨wc.heap.size, 0, none⟩) 0 ks.length) b (by simpa using hb))).trans (KeepN.of_below ((Below.refl _ _).alloc (Nat.le_refl _) _)) (by simp))⟩)
      clear HPT
      clear hO HB4 hr4 HP HT x0 x1 x2 x3 HX HB HVP HVT HRES
      go_wp2_with fail
      clear hk3 k3 o0 o1 o2 o3 f0 f1 f2 f3 hmk
      go_loopw [24] (fun i wr => ∃ (k gk cap : Nat) (us : List Value), k ≤ ks.length ∧ i = .int .i64 k ∧ Hid (CopyLoopO w d lf ps tx ks gO gp cp gt ct k gk cap us wr)) (fun i _ => ks.length - (intOf i).toNat)
      case atStart => exact ⟨0, _, _, _, Nat.zero_le _, rfl, HL0⟩
      case round =>
        obtain ⟨k, gk, cap, us, hk, rfl, HL⟩ := hrel
        clear HL0
        have hbr := HL.out.loop.below
        by_cases hlt : k < ks.length
        · obtain ⟨m, b, o, lf1, PA1, np1, pc1, TA1, nt1, tc1, KA1, nk1, kc1, hm, rfl, hbg, hnm, c0, c1, c2, c3⟩ := (HKS.out.below hbr).at_ hlt
          have hsz := hbr.size
          have hOr := HL.out.loop.out
          have hOlt := lt_of_block hOr
          have HM := hd hm
          obtain ⟨p0, p1, p2, p3, g0, g1, g2, g3⟩ := blkCells hOr
          have hgc : wr.cell? ⟨g, 0, none⟩ = some (.func (.func 76) #[] #[.pointer (some ⟨g, 0, none⟩)]) := (hbr.cell (cell_in HG.out)).trans HG.out
          have hgl := cell_in hgc
          obtain ⟨wk, hwk⟩ : ∃ wk, wk = (wr.alloc (.cells #[.bool lf1, .slice PA1 np1 pc1, .slice TA1 nt1 tc1, .slice KA1 nk1 kc1] 26)).drew := ⟨_, rfl⟩
          have hbk : Below wr.heap.size wr wk := hwk ▸ ((Below.refl _ _).alloc (Nat.le_refl _) _).drew
          have HC := hd (ih2 wk _ m ((hbk.cell (cell_in hgc)).trans hgc) (((hnm.more hsz).below hbk).more hbk.size))
          have HBK := hd hbk
          have hOk : wk.heap[gO]? = _ := (hbk.block _ hOlt).trans hOr
          have HOK := hd hOk
          have hks := hd (show wk.heap.size = wr.heap.size + 1 by rw [hwk]; exact sz1)
          have hgw := cell_in HG.out
          have hgkb := HL.out.loop.row.lt gk rfl
          have hgkO := HL.out.loop.apart
          obtain ⟨i0, hi, hz0, hz1, hz2⟩ := info_parts nodeInfo
          subst hwk
          clear hnm hbk hm hOr hbr hOk
          go_upto_block 1 with fail
          go_cut [24] (fun s wx => s = .int .i64 k ∧ ∃ (g6 cap6 : Nat) (us6 : List Value), Hid (CopyLoopO w d lf ps tx ks gO gp cp gt ct (k + 1) g6 cap6 us6 wx))
          case first =>
            go_wp2_with fail
            go_region_law (first
                | ((go_simp; go_at_call 76; refine HC.out.mono ?_; intro e w4 h4; obtain ⟨v4, rfl, ht4, hb4⟩ := h4; obtain ⟨lf4, PA4, np4, pc4, TA4, nt4, tc4, KA4, nk4, kc4, rfl⟩ := (ht4.at_ (B := w4.heap.size) (fun b hb => hb.2)).val; obtain ⟨hs4, hbl4⟩ := call_row hb4; have hO4 := hd ((hbl4 gO hOlt).trans HL.out.loop.out); obtain ⟨r0, r1, r2, r3, r4, r5, r6, r7⟩ := blkCells hO4.out; have hOl4 : gO < w4.heap.size := (by omega); have hrow4 := hd (ownsRow_far HL.out.loop.row hbl4); have HBL4 := hd hbl4; clear hbl4; have HB4 := hd hb4; have HT4 := hd ht4; clear ht4 hb4))
                | ((refine step_append_lies _ (by rfl) (.tmp 29) (.tmp 33) _ (by rfl) (w.heap.size + 2) 26 i0 _ 4 80 Try.underlying24 hi hz0 hz1 hz2 rfl (by omega) (.slice (some ⟨gk, 0, none⟩) k cap) k (us.flatMap fun u => u.cells.toList) (by first | rfl | simp [Act.eval]) (hrow4.out.alloc _) ⟨w4.heap.size, 0, none⟩ 1 1 [.bool lf4, .slice PA4 np4 pc4, .slice TA4 nt4 tc4, .slice KA4 nk4 kc4] (by first | rfl | simp [Act.eval]) (by rfl) (World.news_of_block (cs := #[.bool lf4, .slice PA4 np4 pc4, .slice TA4 nt4 tc4, .slice KA4 nk4 kc4]) (t := 26) (fr := (0, 0)) (heap_alloc_new w4 _)) (by simp [Value.oneCell']) (by omega) (by unfold maxLen; omega) (by omega) (by simp; omega) (w4.heap.size + 1) (by simp) ?_; intro g6 cap6 w6 hown6 hgrow6 hat6 hlt6; have hO6 := hd (app_block hgrow6 hO4.out hgkO); obtain ⟨s0, s1, s2, s3, s4, s5, s6, s7⟩ := blkCells hO6.out; have hOl6 := lt_of_block hO6.out)))
            all_goals
              have HST := hd (copyO_step HL.out HB4.out hgrow6 (copy_step HL.out.loop HM.out HB4.out HT4.out hgrow6 hown6 hat6))
              clear hgrow6 hown6 hat6 s0 s1 s2 s3 s4 s5 s6 s7 r0 r1 r2 r3 r4 r5 r6 r7 hrow4 hO4 hO6 HBL4 HB4 HT4 p0 p1 p2 p3 g0 g1 g2 g3 c0 c1 c2 c3
              go_wp2_with fail
              go_meet
              exact ⟨rfl, g6, cap6, _, HST⟩
          case rest =>
            obtain ⟨rfl, g6, cap6, us6, HST⟩ := hcut
            clear p0 p1 p2 p3 g0 g1 g2 g3 c0 c1 c2 c3
            go_wp2
            go_roundw
            case rel => exact ⟨k + 1, g6, cap6, us6, by omega, by go_num, HST⟩
            case measure => simp [intOf]; omega
        · obtain rfl : k = ks.length := by omega
          have hO8 := HL.out.loop.out
          have hO8l := lt_of_block hO8
          obtain ⟨p0, p1, p2, p3, _, _, _, _⟩ := blkCells hO8
          clear hO8
          obtain ⟨q0, q1, q2, q3, q4, q5, q6, q7⟩ := blkCells HL.out.loop.res
          have HRS := hd HL.out.loop.res
          have hbr := HL.out.loop.below
          go_wp2
          have h7 := set4_block (a := .bool lf) (b := .slice (some ⟨gp, 0, none⟩) ps.length cp) (c := .slice (some ⟨gt, 0, none⟩) tx.length ct) (d := .slice (some ⟨gk, 0, none⟩) ks.length cap) HRS.out
          obtain ⟨t0, t1, t2, t3, _, _, _, _⟩ := blkCells h7
          refine bodyPost_ret (v := .agg #[.bool lf, .slice (some ⟨gp, 0, none⟩) ps.length cp, .slice (some ⟨gt, 0, none⟩) tx.length ct, .slice (some ⟨gk, 0, none⟩) ks.length cap]) (by simp [results, Try.results76, go_sem, t0, t1, t2, t3]) rfl ⟨_, rfl, copyO_end HL.out ⟨HF.out.1, HF.out.2.1, HF.out.2.2.1, HF.out.2.2.2.1, hcp, hct⟩ (by simp) (fun b hb => ?_), ?_⟩
          · iterate 4 rw [Below.heap_setCell _ _ _ _ (by simpa using hb)]
          · exact (((hbr.setCell (by show _ ≤ w.heap.size + 1; omega) _).setCell (by show _ ≤ w.heap.size + 1; omega) _).setCell (by show _ ≤ w.heap.size + 1; omega) _).setCell (by show _ ≤ w.heap.size + 1; omega) _

set_option maxRecDepth 4000 in
set_option maxHeartbeats 2000000 in
theorem copyO_any (d : Nat) (w : World) (v : Value) (n : NT) (hn : NodeAt d w w.heap.size v n) : Calls Try.prog 70 #[v] w (CopiedO (d - 1) n w) := by
  have hn0 := hn
  obtain ⟨lf, PA, np, pc, TA, nt, tc, KA, nk, kc, rfl⟩ := hn.val
  obtain ⟨f0, hf0⟩ : ∃ f : Value, f = .func (.func 76) #[] #[.pointer (some ⟨w.heap.size + 1 + 1, 0, none⟩)] := ⟨_, rfl⟩
  obtain ⟨wa, hwa⟩ : ∃ wa, wa = ((w.alloc (.cells #[.bool lf, .slice PA np pc, .slice TA nt tc, .slice KA nk kc] 26)).alloc (.cells #[.bool false, .slice none 0 0, .slice none 0 0, .slice none 0 0] 26)).alloc (.cells #[f0] 89) := ⟨_, rfl⟩
  have hba : Below w.heap.size w wa := hwa ▸ (below_mono2 (Below.refl _ _) (Nat.le_refl _)).alloc (by simp; omega) _
  have hca : wa.cell? ⟨w.heap.size + 1 + 1, 0, none⟩ = some f0 := by rw [hwa, World.cell?_alloc_at _ _ _ _ (by simp)]; rfl
  have hsa : wa.heap.size = w.heap.size + 3 := by rw [hwa]; simp
  have hra : wa.heap[w.heap.size + 1]? = some (.cells #[.bool false, .slice none 0 0, .slice none 0 0, .slice none 0 0] 26) := by
    rw [hwa, Below.heap_alloc _ _ _ (by simp)]
    rw [← sz1 (w := w) (A := .cells #[.bool lf, .slice PA np pc, .slice TA nt tc, .slice KA nk kc] 26)]; exact heap_alloc_new _ _
  have HC := hd (wholeO_any (w.heap.size + 1 + 1) d wa _ _ (hf0 ▸ hca) (hn0.later hba))
  have HB := hd hba
  have HR := hd hra
  have HS := hd hsa
  subst hwa hf0
  clear hn hn0 hba hca hra hsa
  go_enter Try.func70, Try.ntmps70
  go_wp2_with (first | (refine HC.out.mono ?_; intro e w' h4; obtain ⟨v4, rfl, ht4, hb4⟩ := h4; obtain ⟨lf4, PA4, np4, pc4, TA4, nt4, tc4, KA4, nk4, kc4, rfl⟩ := ht4.val; have HR4 := hd ((hb4.block (w.heap.size + 1) (by rw [HS.out]; omega)).trans HR.out); obtain ⟨r0, r1, r2, r3, r4, r5, r6, r7⟩ := blkCells HR4.out; have HT4 := hd ht4; have HB4 := hd hb4; clear ht4 hb4))
  have h7 := set4_block (a := .bool lf4) (b := .slice PA4 np4 pc4) (c := .slice TA4 nt4 tc4) (d := .slice KA4 nk4 kc4) HR4.out
  obtain ⟨t0, t1, t2, t3, _, _, _, _⟩ := blkCells h7
  have hsz := HB4.out.size
  rw [HS.out] at hsz
  have hT4 := HT4.out
  rw [HS.out] at hT4
  have hb7 : Below w.heap.size w w' := HB.out.trans (HB4.out.mono (by rw [HS.out]; omega))
  refine bodyPost_ret (v := .agg #[.bool lf4, .slice PA4 np4 pc4, .slice TA4 nt4 tc4, .slice KA4 nk4 kc4]) (by simp [results, Try.results70, go_sem, t0, t1, t2, t3]) rfl ⟨_, rfl, (hT4.keep (by simp) (fun b h1 _ => ?_)).base (by omega), ?_⟩
  · have hne : b ≠ w.heap.size + 1 := by omega
    iterate 4 rw [Below.heap_setCell _ _ _ _ (by simpa using hne)]
  · exact (((hb7.setCell (by show _ ≤ w.heap.size + 1; omega) _).setCell (by show _ ≤ w.heap.size + 1; omega) _).setCell (by show _ ≤ w.heap.size + 1; omega) _).setCell (by show _ ≤ w.heap.size + 1; omega) _

end Go.Proofs.Ytmglnjmnabjjgaa
