/-
  The walk of the statement FlowChain: the call returns true; nothing that was in memory turns.
-/
import Derived.Laws.EntriesVeiled
import Derived.Deep.RegionLaw
import Derived.Test.YtjjkddahfmkhoaaGr
import Derived.Test.YtjjkddahfmkhoaaGw
namespace Go.Proofs.Ytjjkddahfmkhoaa
set_option linter.unusedVariables false
set_option linter.unusedSimpArgs false
set_option maxRecDepth 100000
open Go.RowKit Go.Shelf
attribute [local go_sem] Oper.semAt_some

theorem groups_flat (sm : Int → Int → Bool) (xs : List Int) : (groups sm xs).flatten = xs := by
  have h := gst_flat sm xs
  unfold groups
  split
  · rename_i e
    rw [e, List.append_nil] at h
    exact h
  · rw [List.flatten_append, List.flatten_singleton]
    exact h
theorem fold_lens (ls : List (List Int)) (b : Nat) (h : b + ls.flatten.length ≤ 1000000) : (ls.map (fun l => (l.length : Int))).foldl (fun y x => wrap64 (y + x)) (b : Int) = ((b + ls.flatten.length : Nat) : Int) := by
  induction ls generalizing b with
  | nil => simp
  | cons l ls ih =>
    rw [List.flatten_cons, List.length_append] at h
    rw [List.map_cons, List.foldl_cons]
    have e : wrap64 ((b : Int) + (l.length : Int)) = ((b + l.length : Nat) : Int) := by rw [IntWalk.wrap64_in _ (by omega)]; push_cast; rfl
    rw [e, ih (b + l.length) (by omega), List.flatten_cons, List.length_append]
    congr 1
    omega
theorem RowA.capz {w : World} {e : TypeId} {A : Option Addr} {c : Nat} {xs : List Value} (h : RowA w e A c xs) (hA : A = none) : c = 0 := by
  rcases h.parts with ⟨_, q, _⟩ | ⟨_, _, q, _⟩
  · exact q
  · rw [hA] at q; cases q
def onlyN (P : Act → World → Prop) : Exit → Act → World → Prop
  | .normal, a, w => P a w
  | _, _, _ => False
theorem onlyN_of {P : Act → World → Prop} {e : Exit} {a : Act} {w : World} (h : onlyN P e a w) : e = .normal ∧ P a w := by
  cases e with
  | normal => exact ⟨rfl, h⟩
  | _ => exact h.elim
set_option maxHeartbeats 16000000 in
theorem fchain_any (A : Option Addr) (len cap : Nat) (zs : List Int) (m n : Int) (w : World) (hr : RF w A len cap zs) :
    Calls Try.prog 9 #[.slice A len cap, .int .i64 m, .int .i64 n] w fun e w' => e = .returned (.bool true) ∧ Below w.heap.size w w' := by
  obtain ⟨k, hk⟩ : ∃ k, min len 30 = k := ⟨_, rfl⟩
  have hk1 : k ≤ len := by omega
  have hk2 : k ≤ 30 := by omega
  obtain ⟨o1, o2, -⟩ := hr.own hk1
  obtain ⟨own, how⟩ : ∃ own, own = (List.range k).map (fun j => zs.getD j 0) := ⟨_, rfl⟩
  rw [← how] at o1 o2
  have hA0 := hr.1.2.2
  have hlc : len ≤ cap := hr.1.1
  have hcm := hr.1.2.1
  unfold maxLen at hcm
  have m1 : max (min (len : Int) 30) 0 = (k : Int) := by omega
  have m2 : (min (len : Int) 30).toNat = k := by omega
  have m3 : min (len : Int) 30 = (k : Int) := by omega
  have O1 := Lib.hid o1; have O2 := Lib.hid o2; have HA0 := Lib.hid hA0
  clear hr how o1 o2 hA0 hk
  have hmf := mk_fn
  -- the variables
  obtain ⟨mb, hmb⟩ : ∃ z, z = w.heap.size := ⟨_, rfl⟩
  obtain ⟨w1, hw1⟩ : ∃ v, v = w.alloc (.cells #[.int .i64 m] 3) := ⟨_, rfl⟩
  obtain ⟨w2, hw2⟩ : ∃ v, v = w1.alloc (.cells #[.int .i64 n] 3) := ⟨_, rfl⟩
  obtain ⟨w3, hw3⟩ : ∃ v, v = w2.alloc (.cells #[.func (.func 33) #[] #[.pointer (some ⟨mb, 0, none⟩)]] 52) := ⟨_, rfl⟩
  obtain ⟨w4, hw4⟩ : ∃ v, v = w3.alloc (.cells #[.func (.func 34) #[] #[.pointer (some ⟨mb + 1, 0, none⟩)]] 52) := ⟨_, rfl⟩
  have s1 : w1.heap.size = mb + 1 := by rw [hw1, hmb]; simp
  have s2 : w2.heap.size = mb + 1 + 1 := by rw [hw2]; simp [s1]
  have s3 : w3.heap.size = mb + 1 + 1 + 1 := by rw [hw3]; simp [s2]
  have s4 : w4.heap.size = mb + 1 + 1 + 1 + 1 := by rw [hw4]; simp [s3]
  have b1 : Below w.heap.size w w1 := by rw [hw1]; exact balloc _ _
  have b2 : Below w1.heap.size w1 w2 := by rw [hw2]; exact balloc _ _
  have b3 : Below w2.heap.size w2 w3 := by rw [hw3]; exact balloc _ _
  have b4 : Below w3.heap.size w3 w4 := by rw [hw4]; exact balloc _ _
  have B4 : Hid (Below w.heap.size w w4) := Lib.hid (((b1.trans (b2.mono (by omega))).trans (b3.mono (by omega))).trans (b4.mono (by omega)))
  have CM : Hid (Arr w4 mb 3 [.int .i64 m]) := Lib.hid (by
    have h : Arr w1 mb 3 [.int .i64 m] := by rw [hw1, hmb]; exact Arr.new w _ [_]
    exact ((h.below b2).below b3).below b4)
  have CNn : Hid (Arr w4 (mb + 1) 3 [.int .i64 n]) := Lib.hid (by
    have h : Arr w2 (mb + 1) 3 [.int .i64 n] := by rw [hw2, ← s1]; exact Arr.new w1 _ [_]
    exact (h.below b3).below b4)
  have CF : Hid (Arr w4 (mb + 1 + 1) 52 [.func (.func 33) #[] #[.pointer (some ⟨mb, 0, none⟩)]]) := Lib.hid (by
    have h : Arr w3 (mb + 1 + 1) 52 [.func (.func 33) #[] #[.pointer (some ⟨mb, 0, none⟩)]] := by rw [hw3, ← s2]; exact Arr.new w2 _ [_]
    exact h.below b4)
  have CG : Hid (Arr w4 (mb + 1 + 1 + 1) 52 [.func (.func 34) #[] #[.pointer (some ⟨mb + 1, 0, none⟩)]]) := Lib.hid (by rw [hw4, ← s3]; exact Arr.new w3 _ [_])
  have FR := Lib.hid (from_any A k cap own w4 (O1.out.below B4.out) O2.out (by omega) HA0.out)
  have HW1 := Lib.hid hw1; have HW2 := Lib.hid hw2; have HW3 := Lib.hid hw3; have HW4 := Lib.hid hw4; have HMB := Lib.hid hmb
  have S2 := Lib.hid s2
  clear hw1 hw2 hw3 hw4 b1 b2 b3 b4 hmb s1 s2 s3 s4
  go_enter Try.func9, Try.ntmps9
  go_upto_region 1 with fail
  obtain ⟨Q1, hQ1⟩ : ∃ Q1 : Exit → Act → World → Prop, Q1 = (fun e a9 V1 => e = .normal ∧ V1 = w2 ∧ ∃ u20 u21 u22 u23 : Value, a9 = { tmps := #[.slice A len cap, .int .i64 m, .int .i64 n, undef, .pointer (some ⟨mb, 0, none⟩), .pointer (some ⟨mb + 1, 0, none⟩), .bool false, .slice A k cap, undef, undef, undef, undef, undef, undef, undef, undef, undef, undef, undef, .slice A len cap, u20, u21, u22, u23, undef, undef, undef, undef, undef, undef, undef, undef, undef, undef, undef, undef, undef, undef, undef, undef, undef, undef, undef, undef, undef, undef, undef, undef, undef, undef, undef, undef, undef, undef, undef, undef, undef, undef, undef, undef, undef, undef, undef, undef, undef, undef, undef, undef, undef, undef, undef, undef, undef, undef, undef, undef, undef, undef, undef, undef, undef], defers := [] }) := ⟨_, rfl⟩
  have HQ1 := Lib.hid hQ1
  clear hQ1
  refine wp_mono (Q := Q1) ?_ ?_
  · by_cases hle : len ≤ 30
    · have hkl : k = len := by omega
      have n3 : min (len : Int) 30 = (len : Int) := by omega
      clear m1 m2 m3
      rw [← HW1.out, ← HW2.out]
      go_wp2_with fail
      rw [HQ1.out]
      rw [hkl, HMB.out]
      exact ⟨rfl, rfl, _, _, _, _, rfl⟩
    · have hkl : k = 30 := by omega
      have n3 : min (len : Int) 30 = 30 := by omega
      clear m1 m2 m3
      rw [← HW1.out, ← HW2.out]
      go_wp2_with fail
      rw [HQ1.out]
      rw [hkl, HMB.out]
      exact ⟨rfl, rfl, _, _, _, _, rfl⟩
  intro e a9 V1 hq
  rw [HQ1.out] at hq
  obtain ⟨rfl, rfl, u20, u21, u22, u23, rfl⟩ := hq
  clear HQ1 Q1
  go_wp2_with fail
  rw [S2.out]
  rw [← HW3.out, ← HW4.out]
  refine FR.out.mono ?_
  rintro e w5 ⟨fb, Af, cf, rfl, ⟨a5, r5⟩, ⟨f1, f2⟩, b5⟩
  have hs4 := B4.out.size
  have cgl := Arr.lt CG.out
  have L0 := Lib.hid (ls_from fb Af k cf own w5 a5 r5 O2.out (by omega))
  have low0 : Hid (∀ q, FromB fb Af q → w4.heap.size ≤ q) := Lib.hid (fun q h => by
    rcases h with rfl | ⟨a, ha, rfl⟩
    · exact f1
    · exact f2 a ha)
  have enF : EN 46 := enters_of Try.func46 (by kernel_rfl) rfl
  have enM : EN 54 := enters_of Try.func54 (by kernel_rfl) rfl
  have enK : EN 51 := enters_of Try.func51 (by kernel_rfl) rfl
  have enR : EN 61 := enters_of Try.func61 (by kernel_rfl) rfl
  have en1 : EN 33 := enters_of Try.func33 (by kernel_rfl) rfl
  have en2 : EN 34 := enters_of Try.func34 (by kernel_rfl) rfl
  have en3 : EN 35 := enters_of Try.func35 (by kernel_rfl) rfl
  have en4 : EN 36 := enters_of Try.func36 (by kernel_rfl) rfl
  have en5 : EN 37 := enters_of Try.func37 (by kernel_rfl) rfl
  have en6 : EN 39 := enters_of Try.func39 (by kernel_rfl) rfl
  have en7 : EN 40 := enters_of Try.func40 (by kernel_rfl) rfl
  have enE : EN 13 := enters_of Try.func13 (by kernel_rfl) rfl
  have ENS := Lib.hid (And.intro enF (And.intro enM (And.intro enK (And.intro enR (And.intro en1 (And.intro en2 (And.intro en3 (And.intro en4 (And.intro en5 (And.intro en6 (And.intro en7 enE)))))))))))
  clear enF enM enK enR en1 en2 en3 en4 en5 en6 en7 enE
  have B5 : Hid (Below w.heap.size w w5) := Lib.hid (B4.out.trans (b5.mono hs4))
  have CM5 := Lib.hid (CM.out.below b5); have CN5 := Lib.hid (CNn.out.below b5); have CF5 := Lib.hid (CF.out.below b5); have CG5 := Lib.hid (CG.out.below b5)
  have hs5 := b5.size
  -- what the closures do, at any later world
  have H1 : Hid (∀ v, Below w5.heap.size w5 v → ∀ x W, Keep (fun q => ¬ q = mb) v W → Calls Try.prog 33 (#[.int .i64 x] ++ #[.pointer (some ⟨mb, 0, none⟩)]) W fun e w' => e = .returned (.int .i64 (xF m x)) ∧ Below W.heap.size W w') := Lib.hid (fun v bv x W kW => by
    rw [args_one]
    exact (fc1_any x m mb W (((CM5.out.below bv).keepF kW (fun h => h rfl)).cell 0)).mono (fun e w' h => ⟨h.1, by rw [h.2]; exact Below.refl _ _⟩))
  have H2 : Hid (∀ v, Below w5.heap.size w5 v → ∀ x W, Keep (fun q => ¬ q = mb + 1) v W → Calls Try.prog 34 (#[.int .i64 x] ++ #[.pointer (some ⟨mb + 1, 0, none⟩)]) W fun e w' => e = .returned (.int .i64 (aF n x)) ∧ Below W.heap.size W w') := Lib.hid (fun v bv x W kW => by
    rw [args_one]
    exact (fc2_any x n (mb + 1) W (((CN5.out.below bv).keepF kW (fun h => h rfl)).cell 0)).mono (fun e w' h => ⟨h.1, by rw [h.2]; exact Below.refl _ _⟩))
  clear FR a5 r5 f1 f2 b5
  go_upto_region 7 with fail
  obtain ⟨Q1, hQ1⟩ : ∃ Q1 : Act → World → Prop, Q1 = (fun a9 V1 => ∃ (Ar : Option Addr) (c : Nat) (u28 u29 u30 u31 u32 u33 : Value), a9 = { tmps := #[.slice A len cap, .int .i64 m, .int .i64 n, undef, .pointer (some ⟨mb, 0, none⟩), .pointer (some ⟨mb + 1, 0, none⟩), .bool false, .slice A k cap, .pointer (some ⟨mb + 1 + 1, 0, none⟩), .pointer (some ⟨mb + 1 + 1 + 1, 0, none⟩), .func (.func 35) #[] #[], .func (.func 36) #[] #[], .func (.func 46) #[] #[.pointer (some ⟨fb, 0, none⟩)], .slice Ar k c, undef, undef, undef, undef, undef, .slice A len cap, u20, u21, u22, u23, .func (.func 33) #[] #[.pointer (some ⟨mb, 0, none⟩)], .func (.func 34) #[] #[.pointer (some ⟨mb + 1, 0, none⟩)], .slice A k cap, .func (.func 46) #[] #[.pointer (some ⟨fb, 0, none⟩)], u28, u29, u30, u31, u32, u33, undef, undef, undef, undef, undef, undef, undef, undef, undef, undef, undef, undef, undef, undef, undef, undef, undef, undef, undef, undef, undef, undef, undef, undef, undef, undef, undef, undef, undef, undef, undef, undef, undef, undef, undef, undef, undef, undef, undef, undef, undef, undef, undef, undef, undef, undef, undef], defers := [] } ∧ RowA V1 3 Ar c (fv ((own.map (xF m)).map (aF n))) ∧ Below w5.heap.size w5 V1) := ⟨_, rfl⟩
  have HQ1 := Lib.hid hQ1
  clear hQ1
  refine wp_mono (Q := onlyN Q1) ?_ ?_
  · have bd : Hid (Below w5.heap.size w5 w5.drew) := Lib.hid (fbelowN w5 1)
    have MP1 := Lib.hid ((L0.out.later bd.out).mapc ENS.out.1 (xF m) ENS.out.2.2.2.2.1 (fun q => q = mb) (fun q e => by subst e; show _ < w5.heap.size; omega) (H1.out _ bd.out) (fun q hq e => by have := low0.out q hq; omega))
    have cf5 := CF5.out.cell 0; have cg5 := CG5.out.cell 0
    have cgl5 := Arr.lt CG5.out
    have LEN2 : Hid (((own.map (xF m)).map (aF n)).length = k) := Lib.hid (by rw [List.length_map, List.length_map]; exact O2.out)
    go_region_with (first
      | (refine MP1.out.mono ?_; rintro e w6 ⟨sb1, fb1, It1, rfl, l1, i1, b6⟩; have B6 := Lib.hid (bd.out.trans (b6.mono bd.out.size)); have cg6 := (b6.cell (p := ⟨mb + 1 + 1 + 1, 0, none⟩) cgl5).trans cg5; have MP2 := Lib.hid (l1.mapc ENS.out.2.1 (aF n) ENS.out.2.2.2.2.2.1 (fun q => q = mb + 1) (fun q e => by subst e; have := B6.out.size; omega) (H2.out _ B6.out) (fun q hq e => by rcases i1 q hq with h | h | h; (have := low0.out q h; omega); omega; (have h : w5.heap.size ≤ q := h; omega))); clear l1 i1 b6 MP1)
      | (refine MP2.out.mono ?_; rintro e w7 ⟨sb2, fb2, It2, rfl, l2, i2, b7⟩; have B7 := Lib.hid (B6.out.trans (b7.mono B6.out.size)); have LL := Lib.hid (l2.list ENS.out.2.1); rw [LEN2.out] at LL; clear l2 i2 b7 MP2)
      | (refine LL.out.mono ?_; rintro e w8 ⟨Ar, c, rfl, r8, b8⟩; have FIN := Lib.hid (And.intro r8 (B7.out.trans (b8.mono B7.out.size))); clear r8 b8 LL))
    all_goals (show Q1 _ _; rw [HQ1.out]; exact ⟨_, _, _, _, _, _, _, _, rfl, FIN.out⟩)
  intro e a9 V1 hq0
  obtain ⟨rfl, hq⟩ := onlyN_of hq0
  clear hq0
  rw [HQ1.out] at hq
  obtain ⟨Ar, c, u28, u29, u30, u31, u32, u33, rfl, rA, bA⟩ := hq
  clear HQ1 Q1
  have RAa := Lib.hid rA; have BA := Lib.hid bA
  clear rA bA
  -- by both at once
  have H5 : Hid (∀ v, Below w5.heap.size w5 v → ∀ x W, Keep (fun q => ¬ (q = mb ∨ q = mb + 1 ∨ q = mb + 1 + 1 ∨ q = mb + 1 + 1 + 1)) v W → Calls Try.prog 37 (#[.int .i64 x] ++ #[.pointer (some ⟨mb + 1 + 1 + 1, 0, none⟩), .pointer (some ⟨mb + 1 + 1, 0, none⟩)]) W fun e w' => e = .returned (.int .i64 (aF n (xF m x))) ∧ Below W.heap.size W w') := Lib.hid (fun v bv x W kW => by
    rw [args_three]
    exact fc5_any x m n mb (mb + 1) (mb + 1 + 1) (mb + 1 + 1 + 1) W (((CM5.out.below bv).keepF kW (fun h => h (Or.inl rfl))).cell 0) (((CN5.out.below bv).keepF kW (fun h => h (Or.inr (Or.inl rfl)))).cell 0) (((CF5.out.below bv).keepF kW (fun h => h (Or.inr (Or.inr (Or.inl rfl))))).cell 0) (((CG5.out.below bv).keepF kW (fun h => h (Or.inr (Or.inr (Or.inr rfl))))).cell 0))
  have MP3 := Lib.hid ((L0.out.later BA.out).mapc ENS.out.1 (fun x => aF n (xF m x)) ENS.out.2.2.2.2.2.2.2.2.1 (fun q => q = mb ∨ q = mb + 1 ∨ q = mb + 1 + 1 ∨ q = mb + 1 + 1 + 1) (fun q e => by have := BA.out.size; rcases e with e | e | e | e <;> omega) (H5.out _ BA.out) (fun q hq e => by have := low0.out q hq; omega))
  go_wp2_with fail
  refine MP3.out.mono ?_
  rintro e w9 ⟨sb3, fb3, It3, rfl, l3, -, b9⟩
  have L3 := Lib.hid (l3.list ENS.out.2.1)
  have B9 := Lib.hid (BA.out.trans (b9.mono BA.out.size)); have R9 := Lib.hid (RAa.out.below b9)
  clear MP3 l3 b9
  go_wp2_with fail
  refine L3.out.mono ?_
  rintro e w10 ⟨Ab, cb, rfl, rb, b10⟩
  have B10 := Lib.hid (B9.out.trans (b10.mono B9.out.size)); have R10 := Lib.hid (R9.out.below b10)
  have EQ1 : Hid (own.map (fun x => aF n (xF m x)) = (own.map (xF m)).map (aF n)) := Lib.hid (by rw [List.map_map]; rfl)
  rw [EQ1.out] at rb ⊢
  have RB10 := Lib.hid rb
  have LN1 : Hid (((own.map (xF m)).map (aF n)).length = k) := Lib.hid (by rw [List.length_map, List.length_map]; exact O2.out)
  rw [LN1.out]
  -- kept twice
  have H3 : Hid (∀ (v : World) (x : Int) W, Keep (fun q => ¬ False) v W → Calls Try.prog 35 (#[.int .i64 x] ++ #[]) W fun e w' => e = .returned (.bool (evenB x)) ∧ Below W.heap.size W w') := Lib.hid (fun v x W _ => by
    rw [args_nil1]
    exact (fc3_any x W).mono (fun e w' h => ⟨h.1, by rw [h.2]; exact Below.refl _ _⟩))
  have H4 : Hid (∀ (v : World) (x : Int) W, Keep (fun q => ¬ False) v W → Calls Try.prog 36 (#[.int .i64 x] ++ #[]) W fun e w' => e = .returned (.bool (lowB x)) ∧ Below W.heap.size W w') := Lib.hid (fun v x W _ => by
    rw [args_nil1]
    exact (fc4_any x W).mono (fun e w' h => ⟨h.1, by rw [h.2]; exact Below.refl _ _⟩))
  have KP1 := Lib.hid ((L0.out.later B10.out).keepc ENS.out.1 evenB ENS.out.2.2.2.2.2.2.1 (fun _ => False) (fun _ h => h.elim) (H3.out _) (fun _ _ h => h))
  clear L3 rb b10 R9 RAa EQ1
  go_wp2_with fail
  refine KP1.out.mono ?_
  rintro e w11 ⟨sb4, fb4, It4, rfl, l4, -, b11⟩
  have KP2 := Lib.hid (l4.keepc ENS.out.2.2.1 lowB ENS.out.2.2.2.2.2.2.2.1 (fun _ => False) (fun _ h => h.elim) (H4.out _) (fun _ _ h => h))
  have B11 := Lib.hid (B10.out.trans (b11.mono B10.out.size)); have R11 := Lib.hid (R10.out.below b11); have RB11 := Lib.hid (RB10.out.below b11)
  clear KP1 l4 b11 R10 RB10
  go_wp2_with fail
  refine KP2.out.mono ?_
  rintro e w12 ⟨sb5, fb5, It5, rfl, l5, -, b12⟩
  have L5 := Lib.hid (l5.list ENS.out.2.2.1)
  have B12 := Lib.hid (B11.out.trans (b12.mono B11.out.size)); have R12 := Lib.hid (R11.out.below b12); have RB12 := Lib.hid (RB11.out.below b12)
  clear KP2 l5 b12 R11 RB11
  go_wp2_with fail
  refine L5.out.mono ?_
  rintro e w13 ⟨Ac, cc, rfl, rc, b13⟩
  obtain ⟨ks, hks⟩ : ∃ ks, (own.filter evenB).filter lowB = ks := ⟨_, rfl⟩
  have HKS := Lib.hid hks
  rw [hks] at rc ⊢
  have hkl : ks.length ≤ 30 := by
    rw [← hks]
    have h1 := List.length_filter_le lowB (own.filter evenB)
    have h2 := List.length_filter_le evenB own
    have h3 := O2.out
    omega
  obtain ⟨nk, hnk⟩ : ∃ nk, ks.length = nk := ⟨_, rfl⟩
  rw [hnk] at hkl ⊢
  have HNK := Lib.hid hnk
  clear hks hnk
  have B13 := Lib.hid (B12.out.trans (b13.mono B12.out.size)); have R13 := Lib.hid (R12.out.below b13); have RB13 := Lib.hid (RB12.out.below b13); have RC13 := Lib.hid rc
  have KP3 := Lib.hid ((L0.out.later B13.out).keepc ENS.out.1 lowB ENS.out.2.2.2.2.2.2.2.1 (fun _ => False) (fun _ h => h.elim) (H4.out _) (fun _ _ h => h))
  clear L5 rc b13 R12 RB12
  go_wp2_with fail
  refine KP3.out.mono ?_
  rintro e w14 ⟨sb6, fb6, It6, rfl, l6, -, b14⟩
  have KP4 := Lib.hid (l6.keepc ENS.out.2.2.1 evenB ENS.out.2.2.2.2.2.2.1 (fun _ => False) (fun _ h => h.elim) (H3.out _) (fun _ _ h => h))
  have B14 := Lib.hid (B13.out.trans (b14.mono B13.out.size)); have R14 := Lib.hid (R13.out.below b14); have RB14 := Lib.hid (RB13.out.below b14); have RC14 := Lib.hid (RC13.out.below b14)
  clear KP3 l6 b14 R13 RB13 RC13
  go_wp2_with fail
  refine KP4.out.mono ?_
  rintro e w15 ⟨sb7, fb7, It7, rfl, l7, -, b15⟩
  have L7 := Lib.hid (l7.list ENS.out.2.2.1)
  have B15 := Lib.hid (B14.out.trans (b15.mono B14.out.size)); have R15 := Lib.hid (R14.out.below b15); have RB15 := Lib.hid (RB14.out.below b15); have RC15 := Lib.hid (RC14.out.below b15)
  clear KP4 l7 b15 R14 RB14 RC14
  go_wp2_with fail
  refine L7.out.mono ?_
  rintro e w16 ⟨Ad, cd, rfl, rd, b16⟩
  have EQ2 : Hid ((own.filter lowB).filter evenB = ks) := Lib.hid (by rw [← HKS.out, List.filter_filter, List.filter_filter]; congr 1; funext x; exact Bool.and_comm _ _)
  rw [EQ2.out] at rd ⊢
  rw [HNK.out]
  have B16 := Lib.hid (B15.out.trans (b16.mono B15.out.size)); have R16 := Lib.hid (R15.out.below b16); have RB16 := Lib.hid (RB15.out.below b16); have RC16 := Lib.hid (RC15.out.below b16); have RD16 := Lib.hid rd
  -- the groups
  have GN := Lib.hid (groups_new (.func 46) #[] #[.pointer (some ⟨fb, 0, none⟩)] (.func 13) #[] #[] w16)
  clear L7 rd b16 R15 RB15 RC15 EQ2
  go_wp2_with fail
  refine GN.out.mono ?_
  rintro e w17 ⟨rfl, ⟨g1, g2⟩, b17⟩
  have MR := Lib.hid (map_RI (.func 43) #[] #[.pointer (some ⟨w16.heap.size, 0, none⟩), .pointer (some ⟨w16.heap.size + 1, 0, none⟩)] (.func 39) #[] #[] w17)
  have G1 := Lib.hid g1; have G2 := Lib.hid g2
  have B17 := Lib.hid (B16.out.trans (b17.mono B16.out.size)); have R17 := Lib.hid (R16.out.below b17); have RB17 := Lib.hid (RB16.out.below b17); have RC17 := Lib.hid (RC16.out.below b17); have RD17 := Lib.hid (RD16.out.below b17)
  have hs16 := B16.out.size; have hs17 := b17.size
  clear GN g1 g2 b17 R16 RB16 RC16 RD16
  go_wp2_with fail
  refine MR.out.mono ?_
  rintro e w18 ⟨rfl, ⟨q1, q2⟩, b18⟩
  obtain ⟨It8, l8⟩ := (L0.out.later B17.out).glen (by rw [O2.out]; omega) ENS.out.1 (fun a b : Int => a == b) ENS.out.2.2.2.2.2.2.2.2.2.2.2 (fun a x W => equal_seq a x W) w16.heap.size (w16.heap.size + 1) G1.out G2.out (fun q hq => by
      have h2 : q < w5.heap.size := L0.out.low q hq
      exact ⟨by omega, by omega⟩) b18 ENS.out.2.2.2.2.2.2.2.2.2.1 (fun A n c W => by rw [args_nil1]; exact (fc6_any A n c W).mono (fun e w' h => ⟨h.1, by rw [h.2]; exact Below.refl _ _⟩)) w17.heap.size (w17.heap.size + 1) q1 q2 ⟨Nat.le_refl _, by omega⟩
  have L8 := Lib.hid (l8.list ENS.out.2.2.2.1)
  have B18 := Lib.hid (B17.out.trans (b18.mono B17.out.size)); have R18 := Lib.hid (R17.out.below b18); have RB18 := Lib.hid (RB17.out.below b18); have RC18 := Lib.hid (RC17.out.below b18); have RD18 := Lib.hid (RD17.out.below b18)
  clear MR q1 q2 b18 l8 R17 RB17 RC17 RD17 G1 G2
  go_wp2_with fail
  refine L8.out.mono ?_
  rintro e w19 ⟨Ae, ce, rfl, re, b19⟩
  have FL : Hid (((groups (fun a b : Int => a == b) own).map (fun l => (l.length : Int))).foldl (fun y x => wrap64 (y + x)) 0 = (k : Int)) := Lib.hid (by
    have h := fold_lens (groups (fun a b : Int => a == b) own) 0 (by rw [groups_flat, O2.out]; omega)
    rw [groups_flat, O2.out] at h
    simpa using h)
  have GLN : ((groups (fun a b : Int => a == b) own).map (fun l => (l.length : Int))).length ≤ 30 := by
    rw [List.length_map]
    have h := gst_len1 (fun a b : Int => a == b) own
    have h2 := gst_flat (fun a b : Int => a == b) own
    unfold groups
    split
    · have := O2.out; omega
    · rename_i hne
      rw [List.length_append]
      -- a group under way takes one element at least
      have h3 : ∀ zs : List Int, (gst (fun a b : Int => a == b) zs).1.length + (if (gst (fun a b : Int => a == b) zs).2 = [] then 0 else 1) ≤ zs.length := fun zs => snoc_ind (p := fun zs => (gst (fun a b : Int => a == b) zs).1.length + (if (gst (fun a b : Int => a == b) zs).2 = [] then 0 else 1) ≤ zs.length) (by simp [gst]) (fun zs x ih => by
        show _ ≤ (zs ++ [x]).length
        rw [List.length_append]
        cases hc : (gst (fun a b : Int => a == b) zs).2 with
        | nil => rw [gst_nil x hc]; rw [hc] at ih; simp at ih ⊢; omega
        | cons a r =>
          rw [hc] at ih
          cases hsm : (fun a b : Int => a == b) a x with
          | true => rw [gst_same hc hsm]; simp at ih ⊢; omega
          | false => rw [gst_next hc hsm]; simp at ih ⊢; omega) zs
      have h4 := h3 own
      rw [if_neg hne] at h4
      have := O2.out
      show _ + 1 ≤ 30
      omega
  obtain ⟨sz, hsz⟩ : ∃ sz, (groups (fun a b : Int => a == b) own).map (fun l => (l.length : Int)) = sz := ⟨_, rfl⟩
  rw [hsz] at re FL GLN ⊢
  obtain ⟨ng, hng⟩ : ∃ ng, sz.length = ng := ⟨_, rfl⟩
  rw [hng] at GLN ⊢
  have F9 := Lib.hid (from_any Ae ng ce sz w19 re.ifw hng (by omega) (RowA.capz re))
  have B19 := Lib.hid (B18.out.trans (b19.mono B18.out.size)); have R19 := Lib.hid (R18.out.below b19); have RB19 := Lib.hid (RB18.out.below b19); have RC19 := Lib.hid (RC18.out.below b19); have RD19 := Lib.hid (RD18.out.below b19)
  have HNG := Lib.hid hng
  clear L8 re b19 R18 RB18 RC18 RD18 hsz hng
  go_wp2_with fail
  refine F9.out.mono ?_
  rintro e w20 ⟨fb9, Af9, cf9, rfl, ⟨p1, p2⟩, -, b20⟩
  have FD := Lib.hid ((ls_from fb9 Af9 ng cf9 sz w20 p1 p2 HNG.out (by omega)).fold ENS.out.1 (fun y x => wrap64 (y + x)) 0 ENS.out.2.2.2.2.2.2.2.2.2.2.1 (fun b x W => by rw [args_nil2]; exact (fc7_any x b W).mono (fun e w' h => ⟨h.1, by rw [h.2]; exact Below.refl _ _⟩)))
  rw [FL.out] at FD
  have B20 := Lib.hid (B19.out.trans (b20.mono B19.out.size)); have R20 := Lib.hid (R19.out.below b20); have RB20 := Lib.hid (RB19.out.below b20); have RC20 := Lib.hid (RC19.out.below b20); have RD20 := Lib.hid (RD19.out.below b20)
  clear F9 p1 p2 b20 R19 RB19 RC19 RD19
  go_wp2_with fail
  refine FD.out.mono ?_
  rintro e w21 ⟨rfl, b21⟩
  have SM1 := Lib.hid (isame_f Ar Ab k c cb _ w21 (by omega) LN1.out (R20.out.below b21).ifw (RB20.out.below b21).ifw)
  have B21 := Lib.hid (B20.out.trans (b21.mono B20.out.size)); have RC21 := Lib.hid (RC20.out.below b21); have RD21 := Lib.hid (RD20.out.below b21)
  have i6 : ((k : Int) == (k : Int)) = true := by simp
  clear FD b21 R20 RB20 RC20 RD20
  go_wp2_with fail
  refine SM1.out.mono ?_
  rintro e w22 ⟨rfl, b22⟩
  have SM2 := Lib.hid (isame_f Ac Ad nk cc cd ks w22 (by omega) HNK.out (RC21.out.below b22).ifw (RD21.out.below b22).ifw)
  have B22 := Lib.hid (B21.out.trans (b22.mono B21.out.size))
  clear SM1 b22 RC21 RD21
  go_wp2_with fail
  refine SM2.out.mono ?_
  rintro e w23 ⟨rfl, b23⟩
  have FRN := Lib.hid (fruns_any w23)
  have B23 := Lib.hid (B22.out.trans (b23.mono B22.out.size))
  clear SM2 b23
  go_wp2_with fail
  refine FRN.out.mono ?_
  rintro e w24 ⟨rfl, b24⟩
  have B24 := Lib.hid (B23.out.trans (b24.mono B23.out.size))
  have BF : Hid (Below w.heap.size w w24) := Lib.hid (B5.out.trans (B24.out.mono (by omega)))
  clear FRN b24
  go_wp2_with fail
  go_ret
  exact ⟨rfl, BF.out⟩
end Go.Proofs.Ytjjkddahfmkhoaa
