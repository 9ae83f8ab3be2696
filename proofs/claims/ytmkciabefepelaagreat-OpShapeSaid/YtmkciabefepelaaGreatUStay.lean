/- op.stays. -/
import Derived.Test.YtmkciabefepelaaGreatJYMove2
import Derived.Test.YtmkciabefepelaaGreatBInv
set_option maxRecDepth 4000
namespace Go.Proofs.YtmkciabefepelaaGreat
open Go.RowKit
structure V2 (w : World) (s : SC) (o : OC) (W : World) : Prop where
 v2 : jT 33 W w.heap.size s.row
 v3 : jR W (w.heap.size + 1) o
 below : Below w.heap.size w W
theorem V2.call {w W W' : World} {s : SC} {o : OC} (h : V2 w s o W) (hb : Below W.heap.size W W') : V2 w s o W' := ⟨h.v2.keep hb, h.v3.keep hb, zI h.below hb⟩
theorem kIy (w : World) (s : SC) (o : OC) : ∃ W0, (w.alloc (.cells s.row 33)).alloc (.cells o.row 35) = W0 /\ V2 w s o W0 := by
 have e1 : (w.alloc (.cells s.row 33)).heap.size = w.heap.size + 1 := by simp
 have h1 := (jT.new w 33 s.row).alloc (.cells o.row 35)
 have h2 := jR.new (w.alloc (.cells s.row 33)) o
 rw [e1] at h2
 exact ⟨_, rfl, h1, h2, ((Below.refl _ _).alloc (Nat.le_refl _) _).alloc (by simp) _⟩
theorem kNw {P : Prop} (h : P := by
 go_wp2_with (first
  | ((with_reducible refine zC (ty := 29) (x := .tmp 36) ?_); refine kK zW (r := PC.row (PC.mk s.B s.m s.d s.y)) HPJ.out rfl _ rfl rfl rfl ?_)
  | ((with_reducible refine zC (ty := 29) (x := .tmp 36) ?_); refine kK zW (r := PC.row (PC.mk s.A s.n s.c s.x)) HPJ.out rfl _ rfl rfl rfl ?_)
  | ((with_reducible refine zC (ty := 29) (x := .tmp 10) ?_); refine zB zW HV10.out rfl _ rfl rfl rfl ?_)
  | ((with_reducible refine zF (ty := 29) (x := .tmp 10) ?_); refine zA zW (r := PC.row (PC.mk s.B s.m s.d s.y)) (jT.new wr 29 #[.slice none 0 0, .int .i64 0]) rfl rfl (PC.one _) _ _ rfl rfl rfl rfl rfl ?_; intro W6 hv ho2; have HV10 := hd hv; have HB6 := hd (zN (zQ wr (.cells #[.slice none 0 0, .int .i64 0] 29)) ho2 (Nat.le_refl _)); have HM := hd (HM.out.call HB6.out); have HOK := hd (HOK.out.later HB6.out); have HPP := hd (HPP.out.later HB6.out); have HV8 := hd (HV8.out.keep HB6.out); have HBJ := hd (zI HBJ.out HB6.out); clear hv ho2 HB6)
  | ((with_reducible refine zF (ty := 29) (x := .tmp 10) ?_); refine zA zW (r := PC.row (PC.mk s.A s.n s.c s.x)) (jT.new wr 29 #[.slice none 0 0, .int .i64 0]) rfl rfl (PC.one _) _ _ rfl rfl rfl rfl rfl ?_; intro W6 hv ho2; have HV10 := hd hv; have HB6 := hd (zN (zQ wr (.cells #[.slice none 0 0, .int .i64 0] 29)) ho2 (Nat.le_refl _)); have HM := hd (HM.out.call HB6.out); have HOK := hd (HOK.out.later HB6.out); have HPP := hd (HPP.out.later HB6.out); have HV8 := hd (HV8.out.keep HB6.out); have HBJ := hd (zI HBJ.out HB6.out); clear hv ho2 HB6)
  | ((with_reducible refine zF (ty := 29) (x := .tmp 11) ?_); refine zA zW (r := c11.row) (jT.new w7 29 #[.slice none 0 0, .int .i64 0]) rfl rfl (PC.one _) _ _ rfl rfl rfl rfl rfl ?_; intro W8 hv ho2; have HV11 := hd hv; have HB6 := hd (zN (zQ w7 (.cells #[.slice none 0 0, .int .i64 0] 29)) ho2 (Nat.le_refl _)); have HM := hd (HM.out.call HB6.out); have HPP := hd (HPP.out.later HB6.out); have HQ := hd (HQ.out.later HB6.out); have HV10 := hd (HV10.out.keep HB6.out); have HBJ := hd (zI HBJ.out HB6.out); clear hv ho2 HB6)
  | ((with_reducible refine zC (ty := 35) (x := .tmp 8) ?_); refine zG HV8.out _ rfl rfl rfl ?_)
  | (go_at_call 87; refine Calls.mono (zB4 HPP.out HOK.out HTI.out HLF.out R11.out) ?_; rintro e w7 ⟨c11, rfl, h1, b9⟩; have HQ := hd h1; have HM := hd (HM.out.call b9); have HV10 := hd (HV10.out.keep b9); have HPP := hd (HPP.out.later b9); have HBJ := hd (zI HBJ.out b9); clear b9 h1; dsimp only)
  | (go_at_call 87; refine Calls.mono (zB4 HPP.out HOK.out HTI.out HLA.out R10.out) ?_; rintro e w7 ⟨c11, rfl, h1, b9⟩; have HQ := hd h1; have HM := hd (HM.out.call b9); have HV10 := hd (HV10.out.keep b9); have HPP := hd (HPP.out.later b9); have HBJ := hd (zI HBJ.out b9); clear b9 h1; dsimp only)
  | (go_at_call 87; refine Calls.mono (zB4 HPP.out HOK.out HTA.out HLF.out R01.out) ?_; rintro e w7 ⟨c11, rfl, h1, b9⟩; have HQ := hd h1; have HM := hd (HM.out.call b9); have HV10 := hd (HV10.out.keep b9); have HPP := hd (HPP.out.later b9); have HBJ := hd (zI HBJ.out b9); clear b9 h1; dsimp only)
  | (go_at_call 87; refine Calls.mono (zB4 HPP.out HOK.out HTA.out HLA.out R00.out) ?_; rintro e w7 ⟨c11, rfl, h1, b9⟩; have HQ := hd h1; have HM := hd (HM.out.call b9); have HV10 := hd (HV10.out.keep b9); have HPP := hd (HPP.out.later b9); have HBJ := hd (zI HBJ.out b9); clear b9 h1; dsimp only)
  | ((with_reducible refine kH (ty := 29) (x := .tmp 10) ?_); refine zK zW HV10.out rfl _ rfl (by rfl) rfl ?_)
  | ((with_reducible refine kH (ty := 29) (x := .tmp 11) ?_); refine zK zW HV11.out rfl _ rfl (by rfl) rfl ?_)
  | (go_at_call 57; refine Calls.mono (zB5 HPP.out HQ.out M11.out) ?_; rintro e w9 ⟨rfl, b9⟩; have HM := hd (HM.out.call b9); have HBJ := hd (zI HBJ.out b9); clear b9)
  | (go_at_call 57; refine Calls.mono (zB5 HPP.out HQ.out M10.out) ?_; rintro e w9 ⟨rfl, b9⟩; have HM := hd (HM.out.call b9); have HBJ := hd (zI HBJ.out b9); clear b9)
  | (go_at_call 57; refine Calls.mono (zB5 HPP.out HQ.out M01.out) ?_; rintro e w9 ⟨rfl, b9⟩; have HM := hd (HM.out.call b9); have HBJ := hd (zI HBJ.out b9); clear b9)
  | (go_at_call 57; refine Calls.mono (zB5 HPP.out HQ.out M00.out) ?_; rintro e w9 ⟨rfl, b9⟩; have HM := hd (HM.out.call b9); have HBJ := hd (zI HBJ.out b9); clear b9)
  | fail)
 go_ret
 exact ⟨by have h := HEE.out; subst h; rfl, HM.out.below⟩) : P := h
set_option maxRecDepth 100000 in
set_option maxHeartbeats 8000000 in
theorem zVh {w : World} {s : SC} {o : OC} {sl : Sl} {a : OpP} {E : Bool} (hs : zB1 w s sl) (hf : fewS sl = true) (ho : OkA w o a) (ta : zAf a) (hE : (zBl sl.a a && zBl sl.f a) = E) : Calls Tryz.prog 43 #[.agg s.row, .agg o.row] w (jA (.bool E) w) := by
 obtain ⟨hpa, hpf, la, lf⟩ := zW9 hs hf
 obtain ⟨⟨ai, ei⟩, hi⟩ : ∃ r, zGl a = r := ⟨_, rfl⟩
 have hti := zT5 ta
 rw [zSa, zSa] at hE
 rw [hi] at hti hE
 dsimp only at hti hE
 have hin := fun (W : World) (h : Below w.heap.size w W) => hi ▸ zNq W o a (ho.later h) ta
 obtain ⟨⟨q00, b00⟩, hr00⟩ : ∃ r, zEr a.k a.q a.t a.z a.x.length 1 sl.a = r := ⟨_, rfl⟩
 obtain ⟨⟨q01, b01⟩, hr01⟩ : ∃ r, zEr a.k a.q a.t a.z a.x.length 1 sl.f = r := ⟨_, rfl⟩
 obtain ⟨⟨q10, b10⟩, hr10⟩ : ∃ r, zEr ai.k ai.q ai.t ai.z ai.x.length 1 sl.a = r := ⟨_, rfl⟩
 obtain ⟨⟨q11, b11⟩, hr11⟩ : ∃ r, zEr ai.k ai.q ai.t ai.z ai.x.length 1 sl.f = r := ⟨_, rfl⟩
 rw [zPx hr00, zPx hr01, zPx hr10, zPx hr11] at hE
 obtain ⟨m00, hm00⟩ : ∃ e, samP sl.a q00 = e := ⟨_, rfl⟩
 obtain ⟨m01, hm01⟩ : ∃ e, samP sl.f q01 = e := ⟨_, rfl⟩
 obtain ⟨m10, hm10⟩ : ∃ e, samP sl.a q10 = e := ⟨_, rfl⟩
 obtain ⟨m11, hm11⟩ : ∃ e, samP sl.f q11 = e := ⟨_, rfl⟩
 rw [hm00, hm01, hm10, hm11] at hE
 have HE := hd hE
 have HPA := hd hpa
 have HPF := hd hpf
 have HLA := hd la
 have HLF := hd lf
 have HO := hd ho
 have HTA := hd ta
 have HTI := hd hti
 have HIN := hd hin
 have R00 := hd hr00
 have R01 := hd hr01
 have R10 := hd hr10
 have R11 := hd hr11
 have M00 := hd hm00
 have M01 := hd hm01
 have M10 := hd hm10
 have M11 := hd hm11
 clear hs hf ho ta hti hin hi hpa hpf hE la lf hr00 hr01 hr10 hr11 hm00 hm01 hm10 hm11
 obtain ⟨W0, hW, hst⟩ := kIy w s o
 have HW := hd hW
 have HM := hd hst
 clear hW hst
 go_enter Tryz.func43, Tryz.ntmps43
 go_upto_region 1 with fail
 rw [HW.out]
 clear HW
 go_upto_region 2 with (first
  | ((with_reducible refine zC (ty := 35) (x := .tmp 3) ?_); refine zG HM.out.v3 _ rfl rfl rfl ?_)
  | (go_at_call 21; refine Calls.mono (HIN.out _ HM.out.below) ?_; rintro e w1 ⟨ci, rfl, h1, b9⟩; have HM := hd (HM.out.call b9); have HI := hd h1; clear b9 h1; dsimp only)
  | ((with_reducible refine zF (ty := 35) (x := .tmp 5) ?_); refine zA zMk (r := ci.row) (jT.new w1 35 #[.int .i64 0, .slice none 0 0, .slice none 0 0, .int .i64 0, .bool false, .slice none 0 0, .slice none 0 0, .slice none 0 0, .slice none 0 0, .slice none 0 0, .slice none 0 0, .bool false, .slice none 0 0, .int .i64 0, .slice none 0 0, .int .i64 0, .bool false, .slice none 0 0, .int .i64 0, .slice none 0 0, .int .i64 0]) rfl rfl (zTu ci) _ _ rfl rfl rfl rfl rfl ?_; intro W2 hv ho2; have HV5 := hd (show jR W2 w1.heap.size ci from hv); have HB := hd (zN (zQ w1 (.cells #[.int .i64 0, .slice none 0 0, .slice none 0 0, .int .i64 0, .bool false, .slice none 0 0, .slice none 0 0, .slice none 0 0, .slice none 0 0, .slice none 0 0, .slice none 0 0, .bool false, .slice none 0 0, .int .i64 0, .slice none 0 0, .int .i64 0, .bool false, .slice none 0 0, .int .i64 0, .slice none 0 0, .int .i64 0] 35)) ho2 (Nat.le_refl _)); have HI := hd (HI.out.now.later HB.out); clear hv ho2))
 have HM := hd (HM.out.call HB.out)
 clear HB
 obtain ⟨g5, hg5⟩ : ∃ g, w1.heap.size = g := ⟨_, rfl⟩
 rw [hg5] at HV5
 try rw [hg5]
 clear hg5
 go_wp2_with (first
  | ((with_reducible refine zC (ty := 35) (x := .tmp 3) ?_); refine zG HM.out.v3 _ rfl rfl rfl ?_)
  | ((with_reducible refine zC (ty := 35) (x := .tmp 5) ?_); refine zG HV5.out _ rfl rfl rfl ?_)
  | ((with_reducible refine zNd ?_); refine zEq Tryz.underlying100 kEv (by decide) (by decide) (c := o.row) (d := ci.row) rfl rfl _ _ rfl rfl rfl rfl ?_))
 obtain ⟨W3, hW3⟩ : ∃ W3, W2.alloc (.cells (o.row ++ ci.row) 35) = W3 := ⟨_, rfl⟩
 have HSL := hd (show W3.heap[W2.heap.size]? = some (.cells (o.row ++ ci.row) 35 (0, 0)) from hW3 ▸ heap_alloc_new W2 _)
 have hb3 : Below W2.heap.size W2 W3 := hW3 ▸ (Below.refl _ _).alloc (Nat.le_refl _) _
 rw [hW3]
 have HMo := hd (HM.out.call hb3)
 have HIo := hd (HI.out.later hb3)
 clear hW3 hb3 HV5 HM HI
 obtain ⟨g20, hg20⟩ : ∃ g, W2.heap.size = g := ⟨_, rfl⟩
 rw [hg20] at HSL
 try rw [hg20]
 clear hg20
 go_loopw [22] (fun i wr => ∃ k : Nat, k <= 2 /\ i = .int .i64 k /\ Hid (Below W3.heap.size W3 wr) /\ Hid ((1 <= k -> (b00 && m00) = true /\ (b01 && m01) = true) /\ (2 <= k -> (b10 && m10) = true /\ (b11 && m11) = true))) (fun i _ => 2 - (intOf i).toNat)
 case atStart => exact ⟨0, by omega, rfl, hd (Below.refl _ _), hd ⟨fun h => absurd h (by omega), fun h => absurd h (by omega)⟩⟩
 case round =>
  obtain ⟨k, hk, rfl, HB, HT⟩ := hrel
  rcases (show k = 0 ∨ k = 1 ∨ k = 2 by omega) with rfl | rfl | rfl
  ·have HM := hd (HMo.out.call HB.out)
   have HOK := hd (HO.out.later (HM.out.below))
   have HRG := hd (zE4 (zIj (HSL.out)).1 HB.out)
   go_wp2_with (first
    | ((with_reducible refine zC (ty := 35) (x := .tmp 24) ?_); refine kK zMk (r := o.row) HRG.out rfl _ rfl rfl rfl ?_)
    | ((with_reducible refine zF (ty := 35) (x := .tmp 8) ?_); refine zA zMk (r := o.row) (jT.new wr 35 #[.int .i64 0, .slice none 0 0, .slice none 0 0, .int .i64 0, .bool false, .slice none 0 0, .slice none 0 0, .slice none 0 0, .slice none 0 0, .slice none 0 0, .slice none 0 0, .bool false, .slice none 0 0, .int .i64 0, .slice none 0 0, .int .i64 0, .bool false, .slice none 0 0, .int .i64 0, .slice none 0 0, .int .i64 0]) rfl rfl (zTu o) _ _ rfl rfl rfl rfl rfl ?_; intro W4 hv ho2; have HV8 := hd (show jR W4 wr.heap.size o from hv); have HB4 := hd (zN (zQ wr (.cells #[.int .i64 0, .slice none 0 0, .slice none 0 0, .int .i64 0, .bool false, .slice none 0 0, .slice none 0 0, .slice none 0 0, .slice none 0 0, .slice none 0 0, .slice none 0 0, .bool false, .slice none 0 0, .int .i64 0, .slice none 0 0, .int .i64 0, .bool false, .slice none 0 0, .int .i64 0, .slice none 0 0, .int .i64 0] 35)) ho2 (Nat.le_refl _)); have HM := hd (HM.out.call HB4.out); have HOK := hd (HOK.out.later HB4.out); clear hv ho2)
    | ((with_reducible refine zC (ty := 29) (x := .tmp 27) ?_); refine zEa HM.out.v2 (j := 1) (vs := [.slice s.A s.n s.c, .int .i64 s.x]) zW _ rfl rfl rfl (by kernel_rfl) ?_)
    | ((with_reducible refine zC (ty := 29) (x := .tmp 30) ?_); refine zEa HM.out.v2 (j := 3) (vs := [.slice s.B s.m s.d, .int .i64 s.y]) zW _ rfl rfl rfl (by kernel_rfl) ?_)
    | ((with_reducible refine zNd ?_); refine zEq Tryz.underlying101 kFv (by decide) (by decide) (c := PC.row ⟨s.A, s.n, s.c, s.x⟩) (d := PC.row ⟨s.B, s.m, s.d, s.y⟩) rfl rfl _ _ rfl rfl rfl rfl ?_))
   obtain ⟨W5, hW5⟩ : ∃ W5, W4.alloc (.cells (PC.row ⟨s.A, s.n, s.c, s.x⟩ ++ PC.row ⟨s.B, s.m, s.d, s.y⟩) 29) = W5 := ⟨_, rfl⟩
   have HSP := hd (show W5.heap[W4.heap.size]? = some (.cells (PC.row ⟨s.A, s.n, s.c, s.x⟩ ++ PC.row ⟨s.B, s.m, s.d, s.y⟩) 29 (0, 0)) from hW5 ▸ heap_alloc_new W4 _)
   have hb5 : Below W4.heap.size W4 W5 := hW5 ▸ (Below.refl _ _).alloc (Nat.le_refl _) _
   rw [hW5]
   have HMi := hd (HM.out.call hb5)
   have HOKi := hd (HOK.out.later hb5)
   have HV8i := hd (HV8.out.keep hb5)
   have HBX := hd (HB.out.trans ((HB4.out.trans (hb5.mono HB4.out.size)).mono HB.out.size))
   clear hW5 hb5 HB4 HB HRG HM HOK HV8
   obtain ⟨g8, hg8⟩ : ∃ g, wr.heap.size = g := ⟨_, rfl⟩
   obtain ⟨g32, hg32⟩ : ∃ g, W4.heap.size = g := ⟨_, rfl⟩
   rw [hg8] at HV8i
   rw [hg32] at HSP
   try rw [hg8]
   try rw [hg32]
   clear hg8 hg32
   obtain ⟨wo, rfl⟩ : ∃ wo : World, wo = wr := ⟨_, rfl⟩
   go_loopw [34] (fun i wr => ∃ j : Nat, j <= 2 /\ i = .int .i64 j /\ Hid (Below W5.heap.size W5 wr) /\ Hid ((1 <= j -> (b00 && m00) = true) /\ (2 <= j -> (b01 && m01) = true))) (fun i _ => 2 - (intOf i).toNat)
   case atStart => exact ⟨0, by omega, rfl, hd (Below.refl _ _), hd ⟨fun h => absurd h (by omega), fun h => absurd h (by omega)⟩⟩
   case round =>
    obtain ⟨j, hj, rfl, HBJ, HTJ⟩ := hrel
    rcases (show j = 0 ∨ j = 1 ∨ j = 2 by omega) with rfl | rfl | rfl
    ·have HPJ := hd (zE4 (zIj HSP.out).1 HBJ.out)
     have HM := hd (HMi.out.call HBJ.out)
     have HOK := hd (HOKi.out.later HBJ.out)
     have HV8 := hd (HV8i.out.keep HBJ.out)
     have HPP := hd (HPA.out.later HM.out.below)
     cases b00
     case false =>
      have HEE := hd (show false = E by have := HE.out; simpa using this)
      exact kNw
     case true =>
      cases m00
      case false =>
       have HEE := hd (show false = E by have := HE.out; simpa using this)
       exact kNw
      case true =>
       go_wp2_with (first
        | ((with_reducible refine zC (ty := 29) (x := .tmp 36) ?_); refine kK zW (r := PC.row (PC.mk s.A s.n s.c s.x)) HPJ.out rfl _ rfl rfl rfl ?_)
        | ((with_reducible refine zF (ty := 29) (x := .tmp 10) ?_); refine zA zW (r := PC.row (PC.mk s.A s.n s.c s.x)) (jT.new wr 29 #[.slice none 0 0, .int .i64 0]) rfl rfl (PC.one _) _ _ rfl rfl rfl rfl rfl ?_; intro W6 hv ho2; have HV10 := hd hv; have HB6 := hd (zN (zQ wr (.cells #[.slice none 0 0, .int .i64 0] 29)) ho2 (Nat.le_refl _)); have HM := hd (HM.out.call HB6.out); have HOK := hd (HOK.out.later HB6.out); have HPP := hd (HPP.out.later HB6.out); have HV8 := hd (HV8.out.keep HB6.out); have HBJ := hd (zI HBJ.out HB6.out); clear hv ho2 HB6)
        | ((with_reducible refine zC (ty := 29) (x := .tmp 10) ?_); refine zB zW HV10.out rfl _ rfl rfl rfl ?_)
        | ((with_reducible refine zC (ty := 35) (x := .tmp 8) ?_); refine zG HV8.out _ rfl rfl rfl ?_)
        | (go_at_call 87; refine Calls.mono (zB4 HPP.out HOK.out HTA.out HLA.out R00.out) ?_; rintro e w7 ⟨c11, rfl, h1, b9⟩; have HQ := hd h1; have HM := hd (HM.out.call b9); have HV10 := hd (HV10.out.keep b9); have HPP := hd (HPP.out.later b9); have HBJ := hd (zI HBJ.out b9); clear b9 h1; dsimp only)
        | ((with_reducible refine zF (ty := 29) (x := .tmp 11) ?_); refine zA zW (r := c11.row) (jT.new w7 29 #[.slice none 0 0, .int .i64 0]) rfl rfl (PC.one _) _ _ rfl rfl rfl rfl rfl ?_; intro W8 hv ho2; have HV11 := hd hv; have HB6 := hd (zN (zQ w7 (.cells #[.slice none 0 0, .int .i64 0] 29)) ho2 (Nat.le_refl _)); have HM := hd (HM.out.call HB6.out); have HPP := hd (HPP.out.later HB6.out); have HQ := hd (HQ.out.later HB6.out); have HV10 := hd (HV10.out.keep HB6.out); have HBJ := hd (zI HBJ.out HB6.out); clear hv ho2 HB6)
        | ((with_reducible refine kH (ty := 29) (x := .tmp 10) ?_); refine zK zW HV10.out rfl _ rfl (by rfl) rfl ?_)
        | ((with_reducible refine kH (ty := 29) (x := .tmp 11) ?_); refine zK zW HV11.out rfl _ rfl (by rfl) rfl ?_)
        | (go_at_call 57; refine Calls.mono (zB5 HPP.out HQ.out M00.out) ?_; rintro e w9 ⟨rfl, b9⟩; have HM := hd (HM.out.call b9); have HBJ := hd (zI HBJ.out b9); clear b9))
       go_roundw
       case rel => exact ⟨1, by omega, by go_num, HBJ, hd ⟨fun h => rfl, fun h => absurd h (by omega)⟩⟩
       case measure => simp [intOf]
    ·have HPJ := hd (zE4 (zIj HSP.out).2 HBJ.out)
     have HM := hd (HMi.out.call HBJ.out)
     have HOK := hd (HOKi.out.later HBJ.out)
     have HV8 := hd (HV8i.out.keep HBJ.out)
     have HPP := hd (HPF.out.later HM.out.below)
     cases b01
     case false =>
      have HEE := hd (show false = E by have := HE.out; simpa using this)
      exact kNw
     case true =>
      cases m01
      case false =>
       have HEE := hd (show false = E by have := HE.out; simpa using this)
       exact kNw
      case true =>
       go_wp2_with (first
        | ((with_reducible refine zC (ty := 29) (x := .tmp 36) ?_); refine kK zW (r := PC.row (PC.mk s.B s.m s.d s.y)) HPJ.out rfl _ rfl rfl rfl ?_)
        | ((with_reducible refine zF (ty := 29) (x := .tmp 10) ?_); refine zA zW (r := PC.row (PC.mk s.B s.m s.d s.y)) (jT.new wr 29 #[.slice none 0 0, .int .i64 0]) rfl rfl (PC.one _) _ _ rfl rfl rfl rfl rfl ?_; intro W6 hv ho2; have HV10 := hd hv; have HB6 := hd (zN (zQ wr (.cells #[.slice none 0 0, .int .i64 0] 29)) ho2 (Nat.le_refl _)); have HM := hd (HM.out.call HB6.out); have HOK := hd (HOK.out.later HB6.out); have HPP := hd (HPP.out.later HB6.out); have HV8 := hd (HV8.out.keep HB6.out); have HBJ := hd (zI HBJ.out HB6.out); clear hv ho2 HB6)
        | ((with_reducible refine zC (ty := 29) (x := .tmp 10) ?_); refine zB zW HV10.out rfl _ rfl rfl rfl ?_)
        | ((with_reducible refine zC (ty := 35) (x := .tmp 8) ?_); refine zG HV8.out _ rfl rfl rfl ?_)
        | (go_at_call 87; refine Calls.mono (zB4 HPP.out HOK.out HTA.out HLF.out R01.out) ?_; rintro e w7 ⟨c11, rfl, h1, b9⟩; have HQ := hd h1; have HM := hd (HM.out.call b9); have HV10 := hd (HV10.out.keep b9); have HPP := hd (HPP.out.later b9); have HBJ := hd (zI HBJ.out b9); clear b9 h1; dsimp only)
        | ((with_reducible refine zF (ty := 29) (x := .tmp 11) ?_); refine zA zW (r := c11.row) (jT.new w7 29 #[.slice none 0 0, .int .i64 0]) rfl rfl (PC.one _) _ _ rfl rfl rfl rfl rfl ?_; intro W8 hv ho2; have HV11 := hd hv; have HB6 := hd (zN (zQ w7 (.cells #[.slice none 0 0, .int .i64 0] 29)) ho2 (Nat.le_refl _)); have HM := hd (HM.out.call HB6.out); have HPP := hd (HPP.out.later HB6.out); have HQ := hd (HQ.out.later HB6.out); have HV10 := hd (HV10.out.keep HB6.out); have HBJ := hd (zI HBJ.out HB6.out); clear hv ho2 HB6)
        | ((with_reducible refine kH (ty := 29) (x := .tmp 10) ?_); refine zK zW HV10.out rfl _ rfl (by rfl) rfl ?_)
        | ((with_reducible refine kH (ty := 29) (x := .tmp 11) ?_); refine zK zW HV11.out rfl _ rfl (by rfl) rfl ?_)
        | (go_at_call 57; refine Calls.mono (zB5 HPP.out HQ.out M01.out) ?_; rintro e w9 ⟨rfl, b9⟩; have HM := hd (HM.out.call b9); have HBJ := hd (zI HBJ.out b9); clear b9))
       go_roundw
       case rel => exact ⟨2, by omega, by go_num, HBJ, hd ⟨fun h => HTJ.out.1 (by omega), fun h => rfl⟩⟩
       case measure => simp [intOf]
    ·have HXX := hd (zI HBX.out HBJ.out)
     go_wp2
     go_roundw
     case rel => exact ⟨1, by omega, by go_num, HXX, hd ⟨fun h => ⟨HTJ.out.1 (by omega), HTJ.out.2 (by omega)⟩, fun h => absurd h (by omega)⟩⟩
     case measure => simp [intOf]
  ·have HM := hd (HMo.out.call HB.out)
   have HOK := hd (HIo.out.later HB.out)
   have HRG := hd (zE4 (zIj (HSL.out)).2 HB.out)
   go_wp2_with (first
    | ((with_reducible refine zC (ty := 35) (x := .tmp 24) ?_); refine kK zMk (r := ci.row) HRG.out rfl _ rfl rfl rfl ?_)
    | ((with_reducible refine zF (ty := 35) (x := .tmp 8) ?_); refine zA zMk (r := ci.row) (jT.new wr 35 #[.int .i64 0, .slice none 0 0, .slice none 0 0, .int .i64 0, .bool false, .slice none 0 0, .slice none 0 0, .slice none 0 0, .slice none 0 0, .slice none 0 0, .slice none 0 0, .bool false, .slice none 0 0, .int .i64 0, .slice none 0 0, .int .i64 0, .bool false, .slice none 0 0, .int .i64 0, .slice none 0 0, .int .i64 0]) rfl rfl (zTu ci) _ _ rfl rfl rfl rfl rfl ?_; intro W4 hv ho2; have HV8 := hd (show jR W4 wr.heap.size ci from hv); have HB4 := hd (zN (zQ wr (.cells #[.int .i64 0, .slice none 0 0, .slice none 0 0, .int .i64 0, .bool false, .slice none 0 0, .slice none 0 0, .slice none 0 0, .slice none 0 0, .slice none 0 0, .slice none 0 0, .bool false, .slice none 0 0, .int .i64 0, .slice none 0 0, .int .i64 0, .bool false, .slice none 0 0, .int .i64 0, .slice none 0 0, .int .i64 0] 35)) ho2 (Nat.le_refl _)); have HM := hd (HM.out.call HB4.out); have HOK := hd (HOK.out.later HB4.out); clear hv ho2)
    | ((with_reducible refine zC (ty := 29) (x := .tmp 27) ?_); refine zEa HM.out.v2 (j := 1) (vs := [.slice s.A s.n s.c, .int .i64 s.x]) zW _ rfl rfl rfl (by kernel_rfl) ?_)
    | ((with_reducible refine zC (ty := 29) (x := .tmp 30) ?_); refine zEa HM.out.v2 (j := 3) (vs := [.slice s.B s.m s.d, .int .i64 s.y]) zW _ rfl rfl rfl (by kernel_rfl) ?_)
    | ((with_reducible refine zNd ?_); refine zEq Tryz.underlying101 kFv (by decide) (by decide) (c := PC.row ⟨s.A, s.n, s.c, s.x⟩) (d := PC.row ⟨s.B, s.m, s.d, s.y⟩) rfl rfl _ _ rfl rfl rfl rfl ?_))
   obtain ⟨W5, hW5⟩ : ∃ W5, W4.alloc (.cells (PC.row ⟨s.A, s.n, s.c, s.x⟩ ++ PC.row ⟨s.B, s.m, s.d, s.y⟩) 29) = W5 := ⟨_, rfl⟩
   have HSP := hd (show W5.heap[W4.heap.size]? = some (.cells (PC.row ⟨s.A, s.n, s.c, s.x⟩ ++ PC.row ⟨s.B, s.m, s.d, s.y⟩) 29 (0, 0)) from hW5 ▸ heap_alloc_new W4 _)
   have hb5 : Below W4.heap.size W4 W5 := hW5 ▸ (Below.refl _ _).alloc (Nat.le_refl _) _
   rw [hW5]
   have HMi := hd (HM.out.call hb5)
   have HOKi := hd (HOK.out.later hb5)
   have HV8i := hd (HV8.out.keep hb5)
   have HBX := hd (HB.out.trans ((HB4.out.trans (hb5.mono HB4.out.size)).mono HB.out.size))
   clear hW5 hb5 HB4 HB HRG HM HOK HV8
   obtain ⟨g8, hg8⟩ : ∃ g, wr.heap.size = g := ⟨_, rfl⟩
   obtain ⟨g32, hg32⟩ : ∃ g, W4.heap.size = g := ⟨_, rfl⟩
   rw [hg8] at HV8i
   rw [hg32] at HSP
   try rw [hg8]
   try rw [hg32]
   clear hg8 hg32
   obtain ⟨wo, rfl⟩ : ∃ wo : World, wo = wr := ⟨_, rfl⟩
   go_loopw [34] (fun i wr => ∃ j : Nat, j <= 2 /\ i = .int .i64 j /\ Hid (Below W5.heap.size W5 wr) /\ Hid ((1 <= j -> (b10 && m10) = true) /\ (2 <= j -> (b11 && m11) = true))) (fun i _ => 2 - (intOf i).toNat)
   case atStart => exact ⟨0, by omega, rfl, hd (Below.refl _ _), hd ⟨fun h => absurd h (by omega), fun h => absurd h (by omega)⟩⟩
   case round =>
    obtain ⟨j, hj, rfl, HBJ, HTJ⟩ := hrel
    rcases (show j = 0 ∨ j = 1 ∨ j = 2 by omega) with rfl | rfl | rfl
    ·have HPJ := hd (zE4 (zIj HSP.out).1 HBJ.out)
     have HM := hd (HMi.out.call HBJ.out)
     have HOK := hd (HOKi.out.later HBJ.out)
     have HV8 := hd (HV8i.out.keep HBJ.out)
     have HPP := hd (HPA.out.later HM.out.below)
     cases b10
     case false =>
      have HEE := hd (show false = E by have := HE.out; simpa using this)
      exact kNw
     case true =>
      cases m10
      case false =>
       have HEE := hd (show false = E by have := HE.out; simpa using this)
       exact kNw
      case true =>
       go_wp2_with (first
        | ((with_reducible refine zC (ty := 29) (x := .tmp 36) ?_); refine kK zW (r := PC.row (PC.mk s.A s.n s.c s.x)) HPJ.out rfl _ rfl rfl rfl ?_)
        | ((with_reducible refine zF (ty := 29) (x := .tmp 10) ?_); refine zA zW (r := PC.row (PC.mk s.A s.n s.c s.x)) (jT.new wr 29 #[.slice none 0 0, .int .i64 0]) rfl rfl (PC.one _) _ _ rfl rfl rfl rfl rfl ?_; intro W6 hv ho2; have HV10 := hd hv; have HB6 := hd (zN (zQ wr (.cells #[.slice none 0 0, .int .i64 0] 29)) ho2 (Nat.le_refl _)); have HM := hd (HM.out.call HB6.out); have HOK := hd (HOK.out.later HB6.out); have HPP := hd (HPP.out.later HB6.out); have HV8 := hd (HV8.out.keep HB6.out); have HBJ := hd (zI HBJ.out HB6.out); clear hv ho2 HB6)
        | ((with_reducible refine zC (ty := 29) (x := .tmp 10) ?_); refine zB zW HV10.out rfl _ rfl rfl rfl ?_)
        | ((with_reducible refine zC (ty := 35) (x := .tmp 8) ?_); refine zG HV8.out _ rfl rfl rfl ?_)
        | (go_at_call 87; refine Calls.mono (zB4 HPP.out HOK.out HTI.out HLA.out R10.out) ?_; rintro e w7 ⟨c11, rfl, h1, b9⟩; have HQ := hd h1; have HM := hd (HM.out.call b9); have HV10 := hd (HV10.out.keep b9); have HPP := hd (HPP.out.later b9); have HBJ := hd (zI HBJ.out b9); clear b9 h1; dsimp only)
        | ((with_reducible refine zF (ty := 29) (x := .tmp 11) ?_); refine zA zW (r := c11.row) (jT.new w7 29 #[.slice none 0 0, .int .i64 0]) rfl rfl (PC.one _) _ _ rfl rfl rfl rfl rfl ?_; intro W8 hv ho2; have HV11 := hd hv; have HB6 := hd (zN (zQ w7 (.cells #[.slice none 0 0, .int .i64 0] 29)) ho2 (Nat.le_refl _)); have HM := hd (HM.out.call HB6.out); have HPP := hd (HPP.out.later HB6.out); have HQ := hd (HQ.out.later HB6.out); have HV10 := hd (HV10.out.keep HB6.out); have HBJ := hd (zI HBJ.out HB6.out); clear hv ho2 HB6)
        | ((with_reducible refine kH (ty := 29) (x := .tmp 10) ?_); refine zK zW HV10.out rfl _ rfl (by rfl) rfl ?_)
        | ((with_reducible refine kH (ty := 29) (x := .tmp 11) ?_); refine zK zW HV11.out rfl _ rfl (by rfl) rfl ?_)
        | (go_at_call 57; refine Calls.mono (zB5 HPP.out HQ.out M10.out) ?_; rintro e w9 ⟨rfl, b9⟩; have HM := hd (HM.out.call b9); have HBJ := hd (zI HBJ.out b9); clear b9))
       go_roundw
       case rel => exact ⟨1, by omega, by go_num, HBJ, hd ⟨fun h => rfl, fun h => absurd h (by omega)⟩⟩
       case measure => simp [intOf]
    ·have HPJ := hd (zE4 (zIj HSP.out).2 HBJ.out)
     have HM := hd (HMi.out.call HBJ.out)
     have HOK := hd (HOKi.out.later HBJ.out)
     have HV8 := hd (HV8i.out.keep HBJ.out)
     have HPP := hd (HPF.out.later HM.out.below)
     cases b11
     case false =>
      have HEE := hd (show false = E by have := HE.out; simpa using this)
      exact kNw
     case true =>
      cases m11
      case false =>
       have HEE := hd (show false = E by have := HE.out; simpa using this)
       exact kNw
      case true =>
       go_wp2_with (first
        | ((with_reducible refine zC (ty := 29) (x := .tmp 36) ?_); refine kK zW (r := PC.row (PC.mk s.B s.m s.d s.y)) HPJ.out rfl _ rfl rfl rfl ?_)
        | ((with_reducible refine zF (ty := 29) (x := .tmp 10) ?_); refine zA zW (r := PC.row (PC.mk s.B s.m s.d s.y)) (jT.new wr 29 #[.slice none 0 0, .int .i64 0]) rfl rfl (PC.one _) _ _ rfl rfl rfl rfl rfl ?_; intro W6 hv ho2; have HV10 := hd hv; have HB6 := hd (zN (zQ wr (.cells #[.slice none 0 0, .int .i64 0] 29)) ho2 (Nat.le_refl _)); have HM := hd (HM.out.call HB6.out); have HOK := hd (HOK.out.later HB6.out); have HPP := hd (HPP.out.later HB6.out); have HV8 := hd (HV8.out.keep HB6.out); have HBJ := hd (zI HBJ.out HB6.out); clear hv ho2 HB6)
        | ((with_reducible refine zC (ty := 29) (x := .tmp 10) ?_); refine zB zW HV10.out rfl _ rfl rfl rfl ?_)
        | ((with_reducible refine zC (ty := 35) (x := .tmp 8) ?_); refine zG HV8.out _ rfl rfl rfl ?_)
        | (go_at_call 87; refine Calls.mono (zB4 HPP.out HOK.out HTI.out HLF.out R11.out) ?_; rintro e w7 ⟨c11, rfl, h1, b9⟩; have HQ := hd h1; have HM := hd (HM.out.call b9); have HV10 := hd (HV10.out.keep b9); have HPP := hd (HPP.out.later b9); have HBJ := hd (zI HBJ.out b9); clear b9 h1; dsimp only)
        | ((with_reducible refine zF (ty := 29) (x := .tmp 11) ?_); refine zA zW (r := c11.row) (jT.new w7 29 #[.slice none 0 0, .int .i64 0]) rfl rfl (PC.one _) _ _ rfl rfl rfl rfl rfl ?_; intro W8 hv ho2; have HV11 := hd hv; have HB6 := hd (zN (zQ w7 (.cells #[.slice none 0 0, .int .i64 0] 29)) ho2 (Nat.le_refl _)); have HM := hd (HM.out.call HB6.out); have HPP := hd (HPP.out.later HB6.out); have HQ := hd (HQ.out.later HB6.out); have HV10 := hd (HV10.out.keep HB6.out); have HBJ := hd (zI HBJ.out HB6.out); clear hv ho2 HB6)
        | ((with_reducible refine kH (ty := 29) (x := .tmp 10) ?_); refine zK zW HV10.out rfl _ rfl (by rfl) rfl ?_)
        | ((with_reducible refine kH (ty := 29) (x := .tmp 11) ?_); refine zK zW HV11.out rfl _ rfl (by rfl) rfl ?_)
        | (go_at_call 57; refine Calls.mono (zB5 HPP.out HQ.out M11.out) ?_; rintro e w9 ⟨rfl, b9⟩; have HM := hd (HM.out.call b9); have HBJ := hd (zI HBJ.out b9); clear b9))
       go_roundw
       case rel => exact ⟨2, by omega, by go_num, HBJ, hd ⟨fun h => HTJ.out.1 (by omega), fun h => rfl⟩⟩
       case measure => simp [intOf]
    ·have HXX := hd (zI HBX.out HBJ.out)
     go_wp2
     go_roundw
     case rel => exact ⟨2, by omega, by go_num, HXX, hd ⟨fun h => HT.out.1 (by omega), fun h => ⟨HTJ.out.1 (by omega), HTJ.out.2 (by omega)⟩⟩⟩
     case measure => simp [intOf]
  ·have HX := hd HT.out
   have hx1 := HX.out.1 (by omega)
   have hx2 := HX.out.2 (by omega)
   have hEE : true = E := by have := HE.out; rw [hx1.1, hx1.2, hx2.1, hx2.2] at this; exact this
   have HEE := hd hEE
   clear hx1 hx2 hEE
   go_wp2
   go_ret
   exact ⟨by have h := HEE.out; subst h; rfl, zI HMo.out.below HB.out⟩
end Go.Proofs.YtmkciabefepelaaGreat
