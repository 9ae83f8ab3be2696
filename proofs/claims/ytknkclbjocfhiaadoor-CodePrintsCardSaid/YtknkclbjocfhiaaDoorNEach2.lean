/- each, called with a visit. -/
import Derived.Test.YtknkclbjocfhiaaDoorNEach
namespace Go.Proofs.YtknkclbjocfhiaaDoor
open Go.RowKit

/-- What a call of 'each' leaves: the visit's state behind the walk. -/
def Gone {σ : Type} (g : Nat) (Q : σ → Option Nat → World → Prop) (s : σ) (w : World) (e : Ending) (w' : World) : Prop :=
  e = .returned (.tuple #[]) ∧ ∃ O', Q s O' w' ∧ Below g w w'

set_option maxRecDepth 4000 in
set_option maxHeartbeats 4000000 in
theorem each_any {σ : Type} {fv : FuncId} {g : Nat} {step : σ → NT → Bool × σ} {Q : Nat → σ → Option Nat → World → Prop} {pre : σ → NT → Prop} {preK : σ → List NT → Prop} {d : Nat} {w : World} {v : Value} {n : NT} {s : σ} (V : ∀ N, w.heap.size ≤ N → Visit fv g N step (Q N) pre preK) (hg : g < w.heap.size) (hpre : pre s n) (hQ : ∀ N wa, w.heap.size ≤ N → Below w.heap.size w wa → Q N s none wa) (hn : NodeAt d w g v n) :
    Calls Tryd.prog 36 #[v, .func (.func fv) #[] #[.pointer (some ⟨g, 0, none⟩)]] w (Gone g (Q (w.heap.size + 3)) (walkT step s n).2 w) := by
  obtain ⟨N, hN⟩ : ∃ N, N = w.heap.size + 3 := ⟨_, rfl⟩
  have V0 := V N (by omega)
  have hn0 := hn
  obtain ⟨d', lf, ps, tx, ks, PA, pc, TA, tc, KA, kc, hd', rfl, rfl, hp, ht, hf, hks⟩ := hn.open_
  obtain ⟨f0, hf0⟩ : ∃ f : Value, f = .func (.func 60) #[] #[.pointer (some ⟨w.heap.size + 1, 0, none⟩), .pointer (some ⟨w.heap.size + 2, 0, none⟩)] := ⟨_, rfl⟩
  obtain ⟨wa, hwa⟩ : ∃ wa, wa = ((w.alloc (.cells #[.bool lf, .slice PA ps.length pc, .slice TA tx.length tc, .slice KA ks.length kc] 26)).alloc (.cells #[.func (.func fv) #[] #[.pointer (some ⟨g, 0, none⟩)]] 32)).alloc (.cells #[f0] 32) := ⟨_, rfl⟩
  have hqa : Q N s none wa := hQ N wa (by omega) (hwa ▸ ((((Below.refl _ w).alloc (Nat.le_refl _) _).alloc (by simp) _).alloc (by simp; omega) _))
  have hba : Below g w wa := hwa ▸ ((((Below.refl g w).alloc (by omega) _).alloc (by simp; omega) _).alloc (by simp; omega) _)
  have hsa : wa.heap.size = N := by rw [hwa, hN]; simp
  have hva : Vars g (w.heap.size + 1) (w.heap.size + 2) fv wa := by
    constructor
    · rw [hwa, World.cell?_alloc_lt _ _ _ (by simp), World.cell?_alloc_at _ _ _ _ (by simp)]; rfl
    · rw [hwa, World.cell?_alloc_at _ _ _ _ (by simp), hf0]; rfl
  have HC := hd (walk_any V0 (by omega) (by omega) (by omega) (by omega) (by omega) d wa _ _ s none hpre hqa (by omega) hva (hn0.below hba))
  obtain ⟨v1, v2⟩ := hva
  subst hwa hf0
  have HNN := hd hN
  clear hqa hn0 hn hp ht hks hf V V0 hQ hd' hpre hN
  go_enter Tryd.func36, Tryd.ntmps36
  go_wp2_with (first | (refine HC.out.mono ?_; rintro e w' ⟨rfl, O', hq, ha⟩))
  go_wp2
  go_end0
  exact ⟨rfl, O', HNN.out ▸ hq, hba.trans ha.below⟩

end Go.Proofs.YtknkclbjocfhiaaDoor
