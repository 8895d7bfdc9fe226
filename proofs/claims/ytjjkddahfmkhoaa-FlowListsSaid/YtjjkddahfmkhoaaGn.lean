/-
  The walk of the statement FlowRuns: the call returns true; nothing that was in memory turns.
-/
import Derived.Test.YtjjkddahfmkhoaaGj
import Derived.Test.YtjjkddahfmkhoaaGm
namespace Go.Proofs.Ytjjkddahfmkhoaa
set_option linter.unusedVariables false
set_option linter.unusedSimpArgs false
set_option maxRecDepth 100000
open Go.RowKit Go.Shelf
attribute [local go_sem] Oper.semAt_some

/-- Groups that a list holds, each in a block of its own. -/
def GrpG (ys : List Grp) (A : Nat → Prop) (V : World) : Prop := (∀ (i : Nat) (y : Grp), ys[i]? = some y → Grp.At V y ∧ ∀ k, Of y.A k → A k) ∧ (∀ (i j : Nat) (y z : Grp), ys[i]? = some y → ys[j]? = some z → i ≠ j → ∀ k, Of y.A k → ¬ Of z.A k)
theorem GrpG.stab : Stab GrpG := fun s A V V' h k => ⟨fun i y hy => ⟨⟨(h.1 i y hy).1.1.keepF k (fun a ha e => e ((h.1 i y hy).2 _ ⟨a, ha, rfl⟩)), (h.1 i y hy).1.2⟩, (h.1 i y hy).2⟩, h.2⟩
theorem GrpG.nil (V : World) : GrpG [] (fun _ => False) V := ⟨fun i y h => by simp at h, fun i j y z h => by simp at h⟩
theorem fsnoc_at {α : Type} {l : List α} {x y : α} {i : Nat} (h : (l ++ [x])[i]? = some y) : (l[i]? = some y ∧ i < l.length) ∨ (i = l.length ∧ y = x) := by
  rcases Nat.lt_or_ge i l.length with e | e
  · rw [List.getElem?_append_left e] at h; exact Or.inl ⟨h, e⟩
  · rw [List.getElem?_append_right e] at h
    have : i - l.length = 0 := by
      rcases Nat.eq_zero_or_pos (i - l.length) with q | q
      · exact q
      · rw [List.getElem?_eq_none (by simp; omega)] at h; cases h
    rw [this] at h
    have h : x = y := by simpa using h
    exact Or.inr ⟨by omega, h.symm⟩
theorem GrpG.snoc {ys : List Grp} {y : Grp} {A : Nat → Prop} {V : World} (h : GrpG ys A V) (hy : Grp.At V y) (d : ∀ k, Of y.A k → ¬ A k) : GrpG (ys ++ [y]) (fun k => A k ∨ Of y.A k) V := by
  refine ⟨fun i z hz => ?_, fun i j z u hz hu hne k hk hk2 => ?_⟩
  · rcases fsnoc_at hz with ⟨q, _⟩ | ⟨_, rfl⟩
    · exact ⟨(h.1 i z q).1, fun k hk => Or.inl ((h.1 i z q).2 k hk)⟩
    · exact ⟨hy, fun k hk => Or.inr hk⟩
  · rcases fsnoc_at hz with ⟨q, q'⟩ | ⟨q', rfl⟩
    · rcases fsnoc_at hu with ⟨r, r'⟩ | ⟨r', rfl⟩
      · exact h.2 i j z u q r hne k hk hk2
      · exact d k hk2 ((h.1 i z q).2 k hk)
    · rcases fsnoc_at hu with ⟨r, r'⟩ | ⟨r', rfl⟩
      · exact d k hk ((h.1 j u r).2 k hk2)
      · omega
/-- Groups of a list, listed. -/
theorem glist_any (sm : Int → Int → Bool) (A : Option Addr) (n c : Nat) (xs : List Int) (fb sb : Nat) (w0 w : World) (ha : Arr w0 fb 24 [.slice A n c]) (hr : RowA w0 3 A c (fv xs)) (hl : xs.length = n) (hn : n ≤ 100000) (hb : Below w0.heap.size w0 w)
    {gf : Nat} {lf : Array Value} (ef : ∀ args w, (callFunc gf args).run Try.prog w = .ok (.enter gf args) w) (ItF : Nat → Prop) (hItF : Low ItF w) (hf : ∀ pre x a W, NextI xs pre x W → a ∈ pre → Keep (fun k => ¬ ItF k) w W → Calls Try.prog gf (#[.int .i64 a, .int .i64 x] ++ lf) W fun e w' => e = .returned (.bool (sm a x)) ∧ ∃ m, w' = W.drewN m)
    (hs : Arr w sb 29 [.func (.func 46) #[] #[.pointer (some ⟨fb, 0, none⟩)]]) (hfb : Arr w (sb + 1) 31 [.func (.func gf) #[] lf]) (hsb : w0.heap.size ≤ sb) (dF : ∀ k, FromB fb A k → ¬ ItF k) :
    Calls Try.prog 10 #[.func (.func 43) #[] #[.pointer (some ⟨sb, 0, none⟩), .pointer (some ⟨sb + 1, 0, none⟩)]] w fun e w' => ∃ Ar c ys AG, e = .returned (.slice Ar ys.length c) ∧ ys.map Grp.l = groups sm xs ∧ (RowA w' 24 Ar c (ys.map (fun y => Value.slice y.A y.n y.c)) ∧ GrpG ys AG w') ∧ (∀ a, Ar = some a → w.heap.size ≤ a.block ∧ ¬ AG a.block) ∧ (∀ k, AG k → w.heap.size ≤ k ∧ k < w'.heap.size) ∧ Below w.heap.size w w' := by
  have K0 : Keep (fun k => ¬ FromB fb A k) w0 w := (Keep.of_below (F := fun _ => False) hb).more (fun q h => h.elim)
  have lowF : ∀ k, FromB fb A k → k < w0.heap.size := fun k h => by
    rcases h with rfl | ⟨a, ha', rfl⟩
    · exact Arr.lt ha
    · exact hr.lt a ha'
  have SQ := groupseq sm (from_seq fb A n c xs w0 ha hr hl hn) w K0 (enters_of Try.func46 (by kernel_rfl) rfl) (Rp := NextI xs) (fun _ _ _ h => h) (fun _ _ _ _ _ h _ _ => h) (fun pre x W h => by
      obtain ⟨post, h⟩ := h
      have h := congrArg List.length h
      rw [hl] at h
      simp at h
      omega) ef ItF hItF hf sb (sb + 1) hs hfb (fun k hk => by have := lowF k hk; exact ⟨by omega, by omega, dF k hk⟩)
  refine (list_R Grp.A Grp.n Grp.c SQ w (Keep.refl _ _) (enters_of Try.func43 (by kernel_rfl) rfl) GrpG GrpG.stab GrpG.nil (fun pre x B W h r d => h.snoc r.2 d) (fun pre x W h => ?_)).mono ?_
  · obtain ⟨⟨prex, h1, h2, h3, h4⟩, h5, h6⟩ := h
    have e1 := congrArg List.length (gst_flat sm prex)
    have e2 : pre.length = (gst sm prex).1.length := by rw [← h1, List.length_map]
    have e3 : prex.length ≤ n := by
      rcases h4 with ⟨x, post, h4⟩ | h4
      · have h := congrArg List.length h4; rw [hl] at h; simp at h; omega
      · have h4 : prex = xs := h4
        rw [h4]; omega
    have e4 : ∀ zs : List Int, (gst sm zs).1.length ≤ zs.length := fun zs => snoc_ind (p := fun zs => (gst sm zs).1.length ≤ zs.length) (Nat.le_refl _) (fun zs x ih => by
      show (gst sm (zs ++ [x])).1.length ≤ (zs ++ [x]).length
      rw [List.length_append]
      cases hc : (gst sm zs).2 with
      | nil => rw [gst_nil x hc]; show (gst sm zs).1.length ≤ _; simp; omega
      | cons a r =>
        cases hsm : sm a x with
        | true => rw [gst_same hc hsm]; show (gst sm zs).1.length ≤ _; simp; omega
        | false => rw [gst_next hc hsm]; show ((gst sm zs).1 ++ [_]).length ≤ _; rw [List.length_append]; simp; omega) zs
    have := e4 prex
    omega
  · rintro e w' ⟨Ar, c', ys, AG, rfl, ⟨xs', h1, h2⟩, h3, h4, h5, h6⟩
    have h2 : xs' = xs := h2
    subst h2
    exact ⟨Ar, c', ys, AG, rfl, h1, h3, h4, h5, ⟨h6.os, h6.tape, h6.output, h6.size, fun q hq => h6.block q hq (fun h => h)⟩⟩
theorem equal_seq (a x : Int) (W : World) : Calls Try.prog 13 (#[.int .i64 a, .int .i64 x] ++ #[]) W fun e w' => e = .returned (.bool ((fun a b : Int => a == b) a x)) ∧ ∃ m, w' = W.drewN m := by
  rw [show (#[Value.int .i64 a, .int .i64 x] ++ #[] : Array Value) = #[.int .i64 a, .int .i64 x] by simp]
  exact (equal_any a x W).mono (fun e w' ⟨h1, h2⟩ => ⟨h1, 0, h2⟩)
set_option maxHeartbeats 8000000 in
theorem fruns_any (w : World) : Calls Try.prog 3 #[] w fun e w' => e = .returned (.bool true) ∧ Below w.heap.size w w' := by
  obtain ⟨w1, hw1⟩ : ∃ w1, w1 = w.alloc (.cells #[.int .i64 1, .int .i64 1, .int .i64 2, .int .i64 1] 3) := ⟨_, rfl⟩
  have B1 : Hid (Below w.heap.size w w1) := Lib.hid (by rw [hw1]; exact balloc _ _)
  have I1 : IFw w1 (some ⟨w.heap.size, 0, none⟩) [1, 1, 2, 1] := Arr.ifw (show Arr w1 w.heap.size 3 (fv [1, 1, 2, 1]) by rw [hw1]; exact Arr.new w _ _)
  have FR := Lib.hid (from_any (some ⟨w.heap.size, 0, none⟩) 4 4 [1, 1, 2, 1] w1 I1 rfl (by decide) (fun h => by cases h))
  have HW1 := Lib.hid hw1
  clear I1 hw1
  go_enter Try.func3, Try.ntmps3
  go_wp2_with fail
  rw [← HW1.out]
  refine FR.out.mono ?_
  rintro e w2 ⟨fb, Af, cf, rfl, ⟨a2, r2⟩, ⟨f1, f2⟩, b2⟩
  have GN := Lib.hid (groups_new (.func 46) #[] #[.pointer (some ⟨fb, 0, none⟩)] (.func 13) #[] #[] w2)
  have A2 := Lib.hid a2; have R2 := Lib.hid r2; have B2 := Lib.hid b2
  clear FR a2 r2 f1 f2 b2
  go_wp2_with fail
  refine GN.out.mono ?_
  rintro e w3 ⟨rfl, ⟨a3, a3'⟩, b3⟩
  have GL := Lib.hid (glist_any (fun a b : Int => a == b) Af 4 cf [1, 1, 2, 1] fb w2.heap.size w2 w3 A2.out R2.out rfl (by decide) b3 (enters_of Try.func13 (by kernel_rfl) rfl) (fun _ => False) (fun _ h => h.elim) (fun pre x a W _ _ _ => equal_seq a x W) a3 a3' (Nat.le_refl _) (fun _ _ h => h))
  have B3 := Lib.hid b3
  clear GN a3 a3' b3
  go_wp2_with fail
  refine GL.out.mono ?_
  rintro e w4 ⟨Ar, cr, ys, AG, rfl, hys, ⟨r4, g4⟩, n4, -, b4⟩
  have hys : ys.map Grp.l = [[1, 1], [2], [1]] := hys
  obtain ⟨y0, y1, y2, rfl⟩ : ∃ y0 y1 y2, ys = [y0, y1, y2] := by
    have h := congrArg List.length hys
    rw [List.length_map] at h
    rcases ys with _ | ⟨a, _ | ⟨b, _ | ⟨c, _ | ⟨d, r⟩⟩⟩⟩
    · simp at h
    · simp at h
    · simp at h
    · exact ⟨a, b, c, rfl⟩
    · simp at h
  have l0 : y0.l = [1, 1] := by injection hys
  have l1 : y1.l = [2] := by injection hys with _ h; injection h
  have l2 : y2.l = [1] := by injection hys with _ h; injection h with _ h; injection h
  have t0 := (g4.1 0 y0 rfl).1; have t1 := (g4.1 1 y1 rfl).1; have t2 := (g4.1 2 y2 rfl).1
  have m0 : y0.n = 2 := by rw [t0.2, l0]; rfl
  have m1 : y1.n = 1 := by rw [t1.2, l1]; rfl
  have m2 : y2.n = 1 := by rw [t2.2, l2]; rfl
  have i0 : Hid (IFw w4 y0.A [1, 1]) := Lib.hid (by have h := t0.1; rw [l0] at h; exact h.ifw)
  have i1 : Hid (IFw w4 y1.A [2]) := Lib.hid (by have h := t1.1; rw [l1] at h; exact h.ifw)
  have i2 : Hid (IFw w4 y2.A [1]) := Lib.hid (by have h := t2.1; rw [l2] at h; exact h.ifw)
  obtain ⟨g, rfl, hg⟩ := r4.at (by simp)
  have hgl := r4.lt _ rfl
  have q0 : w4.cell? ⟨g, 0, none⟩ = some (.slice y0.A 2 y0.c) := by rw [(hg 0).2 (by simp)]; show some (Value.slice y0.A y0.n y0.c) = _; rw [m0]
  have q1 : w4.cell? ⟨g, 1, none⟩ = some (.slice y1.A 1 y1.c) := by rw [(hg 1).2 (by simp)]; show some (Value.slice y1.A y1.n y1.c) = _; rw [m1]
  have q2 : w4.cell? ⟨g, 2, none⟩ = some (.slice y2.A 1 y2.c) := by rw [(hg 2).2 (by simp)]; show some (Value.slice y2.A y2.n y2.c) = _; rw [m2]
  have hs1 := B1.out.size; have hs2 := B2.out.size; have hs3 := B3.out.size
  have B4 : Hid (Below w.heap.size w w4) := Lib.hid (((B1.out.trans (B2.out.mono hs1)).trans (B3.out.mono (by omega))).trans (b4.mono (by omega)))
  clear GL hys r4 g4 n4 b4 l0 l1 l2 t0 t1 t2 m0 m1 m2 hg
  have ALB : Hid (∀ (v u : World) (o : Obj), Below w.heap.size w v → u = v.alloc o → Below w.heap.size w u) := Lib.hid (fun v u o h e => by rw [e]; exact h.alloc h.size o)
  -- the three groups
  obtain ⟨v1, hv1⟩ : ∃ v1, v1 = w4.alloc (.cells #[.int .i64 1, .int .i64 1] 3) := ⟨_, rfl⟩
  have S1 := Lib.hid (isame_f y0.A (some ⟨w4.heap.size, 0, none⟩) 2 y0.c 2 [1, 1] v1 (by decide) rfl (i0.out.below (by rw [hv1]; exact balloc _ _)) (Arr.ifw (show Arr v1 w4.heap.size 3 (fv [1, 1]) by rw [hv1]; exact Arr.new w4 _ _)))
  have b1v : Hid (Below w4.heap.size w4 v1) := Lib.hid (by rw [hv1]; exact balloc _ _)
  have HV1 := Lib.hid hv1
  clear hv1
  go_wp2_with fail
  rw [← HV1.out]
  refine S1.out.mono ?_
  rintro e w5 ⟨rfl, b5⟩
  have k5 : Hid (Below w4.heap.size w4 w5) := Lib.hid (b1v.out.trans (b5.mono b1v.out.size))
  replace q1 := (k5.out.cell (p := ⟨g, 1, none⟩) hgl).trans q1
  replace q2 := (k5.out.cell (p := ⟨g, 2, none⟩) hgl).trans q2
  obtain ⟨v2, hv2⟩ : ∃ v2, v2 = w5.alloc (.cells #[.int .i64 2] 3) := ⟨_, rfl⟩
  have k5' : Hid (Below w4.heap.size w4 v2) := Lib.hid (by rw [hv2]; exact k5.out.alloc k5.out.size _)
  have S2 := Lib.hid (isame_f y1.A (some ⟨w5.heap.size, 0, none⟩) 1 y1.c 1 [2] v2 (by decide) rfl (i1.out.below k5'.out) (Arr.ifw (show Arr v2 w5.heap.size 3 (fv [2]) by rw [hv2]; exact Arr.new w5 _ _)))
  have HV2 := Lib.hid hv2
  clear hv2 S1 b5 q0
  go_wp2_with fail
  rw [← HV2.out]
  refine S2.out.mono ?_
  rintro e w6 ⟨rfl, b6⟩
  have k6 : Hid (Below w4.heap.size w4 w6) := Lib.hid (k5'.out.trans (b6.mono k5'.out.size))
  replace q2 := (b6.cell (p := ⟨g, 2, none⟩) (Nat.lt_of_lt_of_le hgl k5'.out.size)).trans ((show v2.cell? ⟨g, 2, none⟩ = w5.cell? ⟨g, 2, none⟩ by rw [k5'.out.cell (p := ⟨g, 2, none⟩) hgl, k5.out.cell (p := ⟨g, 2, none⟩) hgl]).trans q2)
  obtain ⟨v3, hv3⟩ : ∃ v3, v3 = w6.alloc (.cells #[.int .i64 1] 3) := ⟨_, rfl⟩
  have k6' : Hid (Below w4.heap.size w4 v3) := Lib.hid (by rw [hv3]; exact k6.out.alloc k6.out.size _)
  have S3 := Lib.hid (isame_f y2.A (some ⟨w6.heap.size, 0, none⟩) 1 y2.c 1 [1] v3 (by decide) rfl (i2.out.below k6'.out) (Arr.ifw (show Arr v3 w6.heap.size 3 (fv [1]) by rw [hv3]; exact Arr.new w6 _ _)))
  have HV3 := Lib.hid hv3
  clear hv3 S2 b6 q1
  go_wp2_with fail
  rw [← HV3.out]
  refine S3.out.mono ?_
  rintro e w7 ⟨rfl, b7⟩
  have K7 : Hid (Below w.heap.size w w7) := Lib.hid ((B4.out.trans (k6'.out.mono B4.out.size)).trans (b7.mono (by have := k6'.out.size; have := B4.out.size; omega)))
  clear S3 b7 q2 i0 i1 i2 HV1 HV2 HV3 hgl
  -- the first join
  obtain ⟨v4, hv4⟩ : ∃ v, v = w7.alloc (.cells #[.int .i64 1, .int .i64 3, .int .i64 3] 3) := ⟨_, rfl⟩
  obtain ⟨v5, hv5⟩ : ∃ v, v = v4.alloc (.cells #[.int .i64 1, .int .i64 2, .int .i64 3] 3) := ⟨_, rfl⟩
  have s4 : v4.heap.size = w7.heap.size + 1 := by rw [hv4]; simp
  have F1 := Lib.hid (found_any (some ⟨w7.heap.size, 0, none⟩) (some ⟨v4.heap.size, 0, none⟩) 3 3 3 3 [1, 3, 3] [1, 2, 3] v5 (Arr.ifw (show Arr v5 w7.heap.size 3 (fv [1, 3, 3]) by rw [hv5]; exact (show Arr v4 w7.heap.size 3 (fv [1, 3, 3]) by rw [hv4]; exact Arr.new w7 _ _).below (balloc _ _))) (Arr.ifw (show Arr v5 v4.heap.size 3 (fv [1, 2, 3]) by rw [hv5]; exact Arr.new v4 _ _)) rfl rfl (by decide) (by decide) (fun h => by cases h) (fun h => by cases h))
  rw [s4] at F1
  have K8 : Hid (Below w.heap.size w v5) := Lib.hid (ALB.out v4 v5 _ (ALB.out w7 v4 _ K7.out hv4) hv5)
  have HV4 := Lib.hid hv4; have HV5 := Lib.hid hv5
  clear hv4 hv5
  go_wp2_with fail
  rw [← HV4.out, ← HV5.out]
  refine F1.out.mono ?_
  rintro e w8 ⟨Ao, co, rfl, ro, no, b8⟩
  have ro : RowA w8 3 Ao co (fv [1, 1, 3, 1, 3, 1]) := ro
  obtain ⟨v6, hv6⟩ : ∃ v, v = w8.alloc (.cells #[.int .i64 1, .int .i64 1, .int .i64 3, .int .i64 1, .int .i64 3, .int .i64 1] 3) := ⟨_, rfl⟩
  have S4 := Lib.hid (isame_f Ao (some ⟨w8.heap.size, 0, none⟩) 6 co 6 [1, 1, 3, 1, 3, 1] v6 (by decide) rfl ((RowA.ifw ro).below (by rw [hv6]; exact balloc _ _)) (Arr.ifw (show Arr v6 w8.heap.size 3 (fv [1, 1, 3, 1, 3, 1]) by rw [hv6]; exact Arr.new w8 _ _)))
  have K9 : Hid (Below w.heap.size w v6) := Lib.hid (ALB.out w8 v6 _ (K8.out.trans (b8.mono K8.out.size)) hv6)
  have HV6 := Lib.hid hv6
  clear hv6 F1 ro no b8 HV4 HV5
  go_wp2_with fail
  rw [← HV6.out]
  refine S4.out.mono ?_
  rintro e w9 ⟨rfl, b9⟩
  have K10 : Hid (Below w.heap.size w w9) := Lib.hid (K9.out.trans (b9.mono K9.out.size))
  clear S4 b9 HV6
  -- the second
  obtain ⟨v7, hv7⟩ : ∃ v, v = w9.alloc (.cells #[.int .i64 2] 3) := ⟨_, rfl⟩
  obtain ⟨v8, hv8⟩ : ∃ v, v = v7.alloc (.cells #[.int .i64 1, .int .i64 3] 3) := ⟨_, rfl⟩
  have s7 : v7.heap.size = w9.heap.size + 1 := by rw [hv7]; simp
  have F2 := Lib.hid (found_any (some ⟨w9.heap.size, 0, none⟩) (some ⟨v7.heap.size, 0, none⟩) 1 2 1 2 [2] [1, 3] v8 (Arr.ifw (show Arr v8 w9.heap.size 3 (fv [2]) by rw [hv8]; exact (show Arr v7 w9.heap.size 3 (fv [2]) by rw [hv7]; exact Arr.new w9 _ _).below (balloc _ _))) (Arr.ifw (show Arr v8 v7.heap.size 3 (fv [1, 3]) by rw [hv8]; exact Arr.new v7 _ _)) rfl rfl (by decide) (by decide) (fun h => by cases h) (fun h => by cases h))
  rw [s7] at F2
  have K11 : Hid (Below w.heap.size w v8) := Lib.hid (ALB.out v7 v8 _ (ALB.out w9 v7 _ K10.out hv7) hv8)
  have HV7 := Lib.hid hv7; have HV8 := Lib.hid hv8
  clear hv7 hv8
  go_wp2_with fail
  rw [← HV7.out, ← HV8.out]
  refine F2.out.mono ?_
  rintro e w10 ⟨Ao, co, rfl, ro, no, b10⟩
  have ro : RowA w10 3 Ao co (fv [2, 0]) := ro
  obtain ⟨v9, hv9⟩ : ∃ v, v = w10.alloc (.cells #[.int .i64 2, .int .i64 0] 3) := ⟨_, rfl⟩
  have S5 := Lib.hid (isame_f Ao (some ⟨w10.heap.size, 0, none⟩) 2 co 2 [2, 0] v9 (by decide) rfl ((RowA.ifw ro).below (by rw [hv9]; exact balloc _ _)) (Arr.ifw (show Arr v9 w10.heap.size 3 (fv [2, 0]) by rw [hv9]; exact Arr.new w10 _ _)))
  have K12 : Hid (Below w.heap.size w v9) := Lib.hid (ALB.out w10 v9 _ (K11.out.trans (b10.mono K11.out.size)) hv9)
  have HV9 := Lib.hid hv9
  clear hv9 F2 ro no b10 HV7 HV8
  go_wp2_with fail
  rw [← HV9.out]
  refine S5.out.mono ?_
  rintro e w11 ⟨rfl, b11⟩
  have K13 : Hid (Below w.heap.size w w11) := Lib.hid (K12.out.trans (b11.mono K12.out.size))
  clear S5 b11 HV9
  go_wp2_with fail
  go_ret
  exact ⟨rfl, K13.out⟩
end Go.Proofs.Ytjjkddahfmkhoaa
