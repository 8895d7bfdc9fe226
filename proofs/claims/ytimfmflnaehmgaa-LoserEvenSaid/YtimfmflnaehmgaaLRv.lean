/-
  The walk of the statement LoserRuns: the call returns true; nothing that was in memory turns.
-/
import Derived.Test.YtimfmflnaehmgaaLz
namespace Go.Proofs.Ytimfmflnaehmgaa
set_option linter.unusedVariables false
set_option linter.unusedSimpArgs false
set_option maxRecDepth 100000
open Go.RowKit

def rtR : Nat → List (List Int)
  | 0 => [[1, 4], [1, 3], []]
  | 1 => [[4], [1, 3], []]
  | 2 => [[4], [3], []]
  | 3 => [[4], [], []]
  | _ => [[], [], []]
def rtI : Nat → Nat
  | 1 => 1
  | 2 => 1
  | _ => 0
def rtX : Nat → Int
  | 0 => 1
  | 1 => 1
  | 2 => 3
  | _ => 4
def rtU : Nat → List Int
  | 0 => [4]
  | 1 => [3]
  | _ => []
def rtO (j : Nat) : List Int := ([1, 0, 1, 1, 3, 1, 4, 0] : List Int).take (2 * j)
theorem rt_step (j : Nat) (h : j < 4) : Best (hkey (rtR j)) (hlive (rtR j)) (rtR j).length (rtI j) ∧ (rtR j)[rtI j]? = some (rtX j :: rtU j) ∧ (rtR j).set (rtI j) (rtU j) = rtR (j + 1) ∧ lives (rtR j) ≠ 0 ∧ rtO j ++ [rtX j, (rtI j : Int)] = rtO (j + 1) ∧ (rtO j).length = 2 * j := by
  rcases (by omega : j = 0 ∨ j = 1 ∨ j = 2 ∨ j = 3) with rfl | rfl | rfl | rfl <;> (unfold Best; decide)
def runS (B : Nat) : List Sr := [⟨B + 3, B + 4, B + 2, B, 0, some ⟨B + 1, 0, none⟩, 2, [1, 4]⟩, ⟨B + 7, B + 8, B + 6, B, 0, some ⟨B + 5, 0, none⟩, 2, [1, 3]⟩, ⟨B + 10, B + 11, B + 9, B, 0, none, 0, []⟩]
theorem run_srs (B : Nat) : SrsOk (B + 13) (runS B) := by
  unfold runS
  have cases3 : ∀ {x y z : Sr} {i : Nat} {s : Sr}, ([x, y, z] : List Sr)[i]? = some s → (i = 0 ∧ s = x) ∨ (i = 1 ∧ s = y) ∨ (i = 2 ∧ s = z) := by
    intro x y z i s h
    rcases i with _ | _ | _ | i
    · exact Or.inl ⟨rfl, by simpa using h.symm⟩
    · exact Or.inr (Or.inl ⟨rfl, by simpa using h.symm⟩)
    · exact Or.inr (Or.inr ⟨rfl, by simpa using h.symm⟩)
    · simp at h
  refine ⟨fun i s hi => ?_, fun i j s s' hi hj hne => ?_, fun i j s s' hi hj => ?_, fun i j s s' hi hj => ?_⟩
  · rcases cases3 hi with ⟨rfl, rfl⟩ | ⟨rfl, rfl⟩ | ⟨rfl, rfl⟩ <;> refine ⟨by simp; try omega, by simp, by simp, by simp, fun a ha => ?_⟩ <;> (obtain ⟨_, ha⟩ := ha; first | (injection ha with ha; subst ha; simp) | cases ha)
  · rcases cases3 hi with ⟨rfl, rfl⟩ | ⟨rfl, rfl⟩ | ⟨rfl, rfl⟩ <;> rcases cases3 hj with ⟨rfl, rfl⟩ | ⟨rfl, rfl⟩ | ⟨rfl, rfl⟩ <;> simp at hne ⊢
  · rcases cases3 hi with ⟨rfl, rfl⟩ | ⟨rfl, rfl⟩ | ⟨rfl, rfl⟩ <;> rcases cases3 hj with ⟨rfl, rfl⟩ | ⟨rfl, rfl⟩ | ⟨rfl, rfl⟩ <;> refine ⟨by simp, by simp, by simp, fun a ha => ?_⟩ <;> (obtain ⟨_, ha⟩ := ha; first | (injection ha with ha; subst ha; simp) | cases ha)
  · rcases cases3 hi with ⟨rfl, rfl⟩ | ⟨rfl, rfl⟩ | ⟨rfl, rfl⟩ <;> rcases cases3 hj with ⟨rfl, rfl⟩ | ⟨rfl, rfl⟩ | ⟨rfl, rfl⟩ <;> refine ⟨by simp, by simp, fun a ha => ?_⟩ <;> (obtain ⟨_, ha⟩ := ha; first | (injection ha with ha; subst ha; simp) | cases ha)
theorem SrAt.of {w : World} {s : Sr} (a : Arr w s.ba 28 [.pointer (some ⟨s.pg, s.po, none⟩)]) (t : Arr w s.bt 3 [.int .i64 0]) (l : Arr w s.bl 27 [.slice s.A s.l.length s.c]) (r : IRz w s.A s.l) (hp : s.pg < w.heap.size) (hl : s.l.length ≤ 281474976710656) : SrAt w s 0 :=
  ⟨Arr.cell a 0, Arr.cell t 0, Arr.frozen t 0, Arr.cell l 0, r, ⟨Arr.lt a, Arr.lt t, Arr.lt l, hp⟩, Nat.zero_le _, hl⟩
theorem run_q (B : Nat) : ((runS B).foldl (fun q s => up q s.pg s.po) (fun _ _ => 0)) B 0 = 3 := by
  unfold runS
  simp [up]
set_option maxHeartbeats 4000000 in
theorem lruns_any (w : World) : Calls Try.prog 3 #[] w fun e w' => e = .returned (.bool true) ∧ Below w.heap.size w w' := by
  go_enter Try.func3, Try.ntmps3
  go_upto_region 2 with fail
  obtain ⟨B, hB⟩ : ∃ B, w.heap.size = B := ⟨_, rfl⟩
  rw [hB]
  obtain ⟨w1, hw1⟩ : ∃ W, W = w.alloc (.cells #[.int .i64 0] 3) := ⟨_, rfl⟩
  rw [← hw1]
  have hsw1 : w1.heap.size = B + 1 := by rw [hw1, ← hB]; simp
  have N1 := Lib.hid (show Arr w1 B 3 [.int .i64 0] by rw [hw1, ← hB]; exact Arr.new w _ [_])
  have BLw1 := Lib.hid (show Below w.heap.size w w1 by rw [hw1]; exact (Below.refl _ _).alloc (Nat.le_refl _) _)
  have HB := Lib.hid hB
  clear hw1 hB
  obtain ⟨w2, hw2⟩ : ∃ W, W = w1.alloc (.cells #[.int .i64 1, .int .i64 4] 3) := ⟨_, rfl⟩
  have hsw2 : w2.heap.size = B + 2 := by rw [hw2]; simp [hsw1]
  have LIw2 := Lib.hid (show Arr w2 (B + 1) 3 (iv [1, 4]) by rw [hw2, ← hsw1]; exact Arr.new w1 _ [_, _])
  have BLw2 := Lib.hid (show Below w1.heap.size w1 w2 by rw [hw2]; exact (Below.refl _ _).alloc (Nat.le_refl _) _)
  have HWw2 := Lib.hid hw2
  have SZw1 := Lib.hid hsw1
  clear hw2
  have Cw3 := Lib.hid (source_at (some ⟨B + 1, 0, none⟩) 2 2 B 0 (B + 3) (B + 4) (B + 2) w2 (by omega) (by omega) (by omega))
  have SZw2 := Lib.hid hsw2
  clear hsw2
  go_wp2_with fail
  rw [← HWw2.out]
  refine Cw3.out.mono ?_
  rintro e w3 ⟨rfl, hsw3, aw3, tw3, lw3, bw3⟩
  rw [SZw2.out] at hsw3
  have hsw3 : w3.heap.size = B + 5 := hsw3
  have SAw3 := Lib.hid aw3; have STw3 := Lib.hid tw3; have SLw3 := Lib.hid lw3; have BLw3 := Lib.hid bw3
  clear aw3 tw3 lw3 bw3 Cw3
  obtain ⟨w4, hw4⟩ : ∃ W, W = w3.alloc (.cells #[.int .i64 1, .int .i64 3] 3) := ⟨_, rfl⟩
  have hsw4 : w4.heap.size = B + 6 := by rw [hw4]; simp [hsw3]
  have LIw4 := Lib.hid (show Arr w4 (B + 5) 3 (iv [1, 3]) by rw [hw4, ← hsw3]; exact Arr.new w3 _ [_, _])
  have BLw4 := Lib.hid (show Below w3.heap.size w3 w4 by rw [hw4]; exact (Below.refl _ _).alloc (Nat.le_refl _) _)
  have HWw4 := Lib.hid hw4
  have SZw3 := Lib.hid hsw3
  clear hw4
  have Cw5 := Lib.hid (source_at (some ⟨B + 5, 0, none⟩) 2 2 B 0 (B + 7) (B + 8) (B + 6) w4 (by omega) (by omega) (by omega))
  have SZw4 := Lib.hid hsw4
  clear hsw4
  go_wp2_with fail
  rw [← HWw4.out]
  refine Cw5.out.mono ?_
  rintro e w5 ⟨rfl, hsw5, aw5, tw5, lw5, bw5⟩
  rw [SZw4.out] at hsw5
  have hsw5 : w5.heap.size = B + 9 := hsw5
  have SAw5 := Lib.hid aw5; have STw5 := Lib.hid tw5; have SLw5 := Lib.hid lw5; have BLw5 := Lib.hid bw5
  clear aw5 tw5 lw5 bw5 Cw5
  have Cw6 := Lib.hid (source_at none 0 0 B 0 (B + 10) (B + 11) (B + 9) w5 (by omega) (by omega) (by omega))
  have SZw5 := Lib.hid hsw5
  clear hsw5
  go_wp2_with fail
  refine Cw6.out.mono ?_
  rintro e w6 ⟨rfl, hsw6, aw6, tw6, lw6, bw6⟩
  rw [SZw5.out] at hsw6
  have hsw6 : w6.heap.size = B + 12 := hsw6
  have SAw6 := Lib.hid aw6; have STw6 := Lib.hid tw6; have SLw6 := Lib.hid lw6; have BLw6 := Lib.hid bw6
  clear aw6 tw6 lw6 bw6 Cw6
  obtain ⟨w7, hw7⟩ : ∃ W, W = w6.alloc (.cells ((runS B).map Sr.v).toArray 25) := ⟨_, rfl⟩
  have hsw7 : w7.heap.size = B + 13 := by rw [hw7]; simp [hsw6]
  have BL7 := Lib.hid (show Below w6.heap.size w6 w7 by rw [hw7]; exact (Below.refl _ _).alloc (Nat.le_refl _) _)
  have K6 := Lib.hid (bstep BLw6.out BL7.out)
  have K5 := Lib.hid (bstep BLw5.out K6.out)
  have K4 := Lib.hid (bstep BLw4.out K5.out)
  have K3 := Lib.hid (bstep BLw3.out K4.out)
  have K2 := Lib.hid (bstep BLw2.out K3.out)
  have SR := Lib.hid (show Srs w7 0 (runS B) [0, 0, 0] (fun _ _ => 0) by
    have cn : w7.cell? ⟨B, 0, none⟩ = some (.int .i64 0) ∧ w7.frozen? ⟨B, 0, none⟩ = false ∧ (0 : Int) ≤ 0 ∧ (0 : Int) ≤ ((0 : Nat) : Int) := ⟨Arr.cell (Arr.below N1.out K2.out) 0, Arr.frozen (Arr.below N1.out K2.out) 0, by omega, by omega⟩
    exact (((Srs.nil w7 0 (fun _ _ => 0)).snoc (SrAt.of (Arr.below SAw3.out K4.out) (Arr.below STw3.out K4.out) (Arr.below SLw3.out K4.out) (Arr.below LIw2.out K3.out).irz (by show B < _; omega) (by show 2 ≤ _; omega)) cn).snoc (SrAt.of (Arr.below SAw5.out K6.out) (Arr.below STw5.out K6.out) (Arr.below SLw5.out K6.out) (Arr.below LIw4.out K5.out).irz (by show B < _; omega) (by show 2 ≤ _; omega)) cn).snoc (SrAt.of (Arr.below SAw6.out BL7.out) (Arr.below STw6.out BL7.out) (Arr.below SLw6.out BL7.out) (fun k x hx => by simp at hx) (by show B < _; omega) (by show 0 ≤ _; omega)) cn)
  have RW := Lib.hid (show RowA w7 25 (some ⟨B + 12, 0, none⟩) 3 ((runS B).map Sr.v) by
    rw [hw7, ← hsw6]
    exact RowA.mk (heap_alloc_new w6 _) (by show 3 ≤ 3; decide) (by decide) rfl rfl)
  have NW := Lib.hid (new_any (some ⟨B + 12, 0, none⟩) 3 0 (runS B) (fun _ _ => 0) w7 RW.out (by show 3 ≤ 400; decide) (fun e => by cases e) (by rw [hsw7]; exact run_srs B) SR.out (by decide))
  have SZ6 := Lib.hid hsw6; have SZ7 := Lib.hid hsw7; have HW7 := Lib.hid hw7
  have BW7 := Lib.hid (bstep BLw1.out K2.out)
  clear hsw7 hw7
  go_wp2_with fail
  have NW2 := NW.out
  rw [HW7.out] at NW2
  refine Calls.mono NW2 ?_
  rw [← HW7.out]
  clear NW NW2
  rintro e w8 ⟨b, F, rfl, tr, kp⟩
  have tr : Tree w8 w7.heap.size F b (runS B) [1, 1, 0] ((runS B).foldl (fun q s => up q s.pg s.po) (fun _ _ => 0)) 3 (rtR 0) := tr
  rw [SZ7.out] at tr
  have wrB : ∀ k, Wr (runS B) k → B ≤ k := fun k ⟨i, s, hs, hk⟩ => by
    unfold runS at hs
    rcases i with _ | _ | _ | i
    · simp at hs; subst hs; rcases hk with rfl | rfl <;> simp
    · simp at hs; subst hs; rcases hk with rfl | rfl <;> simp
    · simp at hs; subst hs; rcases hk with rfl | rfl <;> simp
    · simp at hs
  have cb : w8.cell? ⟨B, 0, none⟩ = some (.int .i64 3) := by
    have := (tr.srs.cnt 0 ⟨B + 3, B + 4, B + 2, B, 0, some ⟨B + 1, 0, none⟩, 2, [1, 4]⟩ rfl).1
    rw [show ((runS B).foldl (fun q s => up q s.pg s.po) (fun _ _ => 0)) B 0 = 3 from run_q B] at this
    exact this
  have BW8 := Lib.hid (show Below w.heap.size w w8 from Keep.below kp (fun k hk => by rw [HB.out]; exact wrB k hk) BW7.out (by rw [SZ7.out, HB.out]; omega))
  have LV := Lib.hid (live_any w8 (B + 13) F b (runS B) _ _ _ _ tr)
  rw [show ((lives (rtR 0) : Nat) : Int) = 2 from rfl] at LV
  have TR := Lib.hid tr
  have WB := Lib.hid wrB
  clear tr kp wrB
  go_wp2_with fail
  refine LV.out.mono ?_
  rintro e w9 ⟨rfl, rfl⟩
  clear LV
  go_wp2_with fail
  go_loopw [3, 25] (fun lv jv wr => ∃ (j : Nat) (A : Option Addr) (c n : Nat) (F : Nat → Prop) (ps : List Nat) (q : Nat → Nat → Int) (N : Nat), j ≤ 5 ∧ jv = .int .i64 j ∧ lv = .slice A n c ∧ n = 2 * min j 4 ∧ RowA wr 3 A c (iv (rtO (min j 4))) ∧ Tree wr (B + 13) F b (runS B) ps q N (rtR (min j 4)) ∧ N ≤ 3 + j ∧ (∀ a, A = some a → ¬ F a.block ∧ B + 13 ≤ a.block) ∧ Below w.heap.size w wr) (fun _ jv _ => 5 - (intOf jv).toNat)
  case atStart => exact ⟨0, none, 0, 0, F, _, _, 3, by omega, rfl, rfl, rfl, RowA.nil _ _, TR.out, by omega, fun a ha => (by cases ha), BW8.out⟩
  case round =>
    obtain ⟨j, A, c, n, F, ps, q, N, hj, rfl, rfl, hn, hrow, htr, hN, hA, hbw⟩ := hrel
    by_cases hlt : j < 5
    · have d1 : decide ((j : Int) < 5) = true := by rw [decide_eq_true_eq]; omega
      have i1 : (j : Int) < 5 := by omega
      by_cases h4 : j < 4
      · obtain ⟨hbest, hat, hset, hlive, hout, hol⟩ := rt_step j h4
        rw [Nat.min_eq_left (by omega)] at hrow htr hn
        subst hn
        have NX := Lib.hid (next_some wr (B + 13) F b (runS B) ps q N (rtR j) htr hlive (by omega))
        have RO := Lib.hid hrow; have TT := Lib.hid htr; have HA := Lib.hid hA; have BW := Lib.hid hbw; have HB2 := Lib.hid hbest; have HAT := Lib.hid hat; have HSET := Lib.hid hset; have HOUT := Lib.hid hout; have HOL := Lib.hid hol
        have HN := Lib.hid hN
        clear hrow htr hA hbw hbest hat hset hlive hout hol hN
        go_wp2_with fail
        refine NX.out.mono ?_
        rintro e w3 ⟨i, x, u, s, p, k1, k2, k3, k4, rfl, F', t1, t2, t3⟩
        obtain rfl := k1.one HB2.out
        rw [HAT.out] at k2
        injection k2 with k2
        injection k2 with k2 k2'
        subst k2 k2'
        rw [HSET.out] at t1
        have T1 := Lib.hid t1
        have A1 : Hid (∀ a, A = some a → ¬ F' a.block ∧ B + 13 ≤ a.block) := Lib.hid (fun a ha => ⟨fun q => by
          rcases t3 _ q with e | e
          · exact (HA.out a ha).1 e
          · have := RO.out.lt a ha; omega, (HA.out a ha).2⟩)
        have R1 : Hid (RowA w3 3 A c (iv (rtO j))) := Lib.hid (RO.out.same (fun a ha => t2.block _ (RO.out.lt a ha) (fun e => by
          rcases e with e | e
          · exact (HA.out a ha).1 e
          · have := TT.out.ok.wr _ e; have := (HA.out a ha).2; omega)))
        have BW3 : Hid (Below w.heap.size w w3) := Lib.hid (Keep.below t2 (fun k hk => by
          rw [HB.out]
          rcases hk with e | e
          · have := TT.out.up k e; omega
          · exact WB.out k e) BW.out BW.out.size)
        clear t1 t2 t3 k1 k3 k4 NX
        have BA : Hid (Below w3.heap.size w3 (w3.alloc (.cells #[.int .i64 (rtX j), .int .i64 (rtI j : Int)] 3))) := Lib.hid ((Below.refl _ _).alloc (Nat.le_refl _) _)
        have R2 := Lib.hid (R1.out.below BA.out)
        have SRC : Hid (Src (w3.alloc (.cells #[.int .i64 (rtX j), .int .i64 (rtI j : Int)] 3)) (some ⟨w3.heap.size, 0, none⟩) 2 (iv [rtX j, (rtI j : Int)])) := Lib.hid (RowA.src (RowA.mk (e := 3) (heap_alloc_new w3 _) (by show 2 ≤ 2; decide) (by decide) rfl rfl))
        have LN : Hid ((iv (rtO j)).length = 2 * j) := Lib.hid (by rw [iv_len, HOL.out])
        go_wp2_with (at_builtin; go_loud (refine wpList_row_app cells_int rfl _ _ rfl A (2 * j) c (iv (rtO j)) rfl R2.out LN.out (some ⟨w3.heap.size, 0, none⟩) 2 2 (iv [rtX j, (rtI j : Int)]) rfl rfl SRC.out (iv_one _) (by omega) ?_))
        intro A4 c4 w4 r4 k4 a4
        have e4 : iv (rtO j) ++ iv [rtX j, (rtI j : Int)] = iv (rtO (j + 1)) := by rw [← HOUT.out]; unfold iv; rw [List.map_append]
        rw [e4] at r4
        have T4 : Hid (Tree w4 (B + 13) F' b (runS B) (ps.set (rtI j) (min (p + 1) s.l.length)) (up q s.pg s.po) (N + 1) (rtR (j + 1))) := Lib.hid ((T1.out.below BA.out).keep k4 (fun k hk ⟨a, ha, e⟩ => (A1.out a ha).1 (e ▸ hk)) (fun k ⟨a, ha, e⟩ => by have := (A1.out a ha).2; omega))
        have A5 : Hid (∀ a, A4 = some a → ¬ F' a.block ∧ B + 13 ≤ a.block) := Lib.hid (fun a ha => by
          rcases a4 with e | ⟨g, e, hg⟩
          · subst e; exact A1.out a ha
          · rw [e] at ha; injection ha with ha; subst ha
            have h9 := BA.out.size
            refine ⟨fun q' => by have := T1.out.lt _ q'; have q9 : g < w3.heap.size := this; omega, ?_⟩
            have := T1.out.len.2.2
            show B + 13 ≤ g
            omega)
        have R4 := Lib.hid r4
        have BW4 : Hid (Below w.heap.size w w4) := Lib.hid (Keep.below k4 (fun k ⟨a, ha, e⟩ => by have := (A1.out a ha).2; rw [HB.out]; omega) (BW3.out.trans (BA.out.mono BW3.out.size)) (Nat.le_trans BW3.out.size BA.out.size))
        clear r4 k4 a4 e4
        go_wp2_with fail
        go_roundw
        case rel => exact ⟨j + 1, A4, c4, 2 * j + 2, F', _, _, N + 1, by omega, by go_num, rfl, by omega, by rw [Nat.min_eq_left (by omega)]; exact R4.out, by rw [Nat.min_eq_left (by omega)]; exact T4.out, by have := HN.out; omega, A5.out, BW4.out⟩
        case measure => simp [intOf]; omega
      · obtain rfl : j = 4 := by omega
        have hn8 : n = 8 := hn
        subst hn8
        have hz : lives (rtR 4) = 0 := rfl
        have NX := Lib.hid (next_none wr (B + 13) F b (runS B) ps q N (rtR 4) htr hz)
        have RO := Lib.hid hrow; have TT := Lib.hid htr; have HA := Lib.hid hA; have BW := Lib.hid hbw; have HN := Lib.hid hN
        clear hrow htr hA hbw hN hz
        go_wp2_with fail
        refine NX.out.mono ?_
        rintro e w3 ⟨rfl, b3⟩
        have R3 := Lib.hid (RO.out.below b3); have T3 := Lib.hid (TT.out.below b3); have BW3 := Lib.hid (BW.out.trans (b3.mono BW.out.size))
        clear b3 NX
        go_wp2_with fail
        go_roundw
        case rel => first | exact ⟨5, A, c, 8, F, ps, q, N, by omega, by go_num, rfl, rfl, R3.out, T3.out, (by have := HN.out; omega), HA.out, BW3.out⟩ | ((repeat apply Exists.intro); exact ⟨⟨5, A, c, 8, F, ps, q, N, by omega, by go_num, rfl, rfl, R3.out, T3.out, (by have := HN.out; omega), HA.out, BW3.out⟩, rfl⟩)
        case measure => simp [intOf]
    · obtain rfl : j = 5 := by omega
      have d1 : decide (((5 : Nat) : Int) < 5) = false := by decide
      have hn8 : n = 8 := hn
      subst hn8
      have RO := Lib.hid hrow; have TT := Lib.hid htr; have BW := Lib.hid hbw
      clear hrow htr hA hbw hN hn
      have BL : Hid (Below wr.heap.size wr (wr.alloc (.cells #[.int .i64 1, .int .i64 0, .int .i64 1, .int .i64 1, .int .i64 3, .int .i64 1, .int .i64 4, .int .i64 0] 3))) := Lib.hid ((Below.refl _ _).alloc (Nat.le_refl _) _)
      have SA := Lib.hid (isame_rz A (some ⟨wr.heap.size, 0, none⟩) 8 c 8 [1, 0, 1, 1, 3, 1, 4, 0] _ (by decide) rfl ((RO.out.below BL.out).irz) (Arr.irz (g := wr.heap.size) (t := 3) (Arr.new wr _ (iv [1, 0, 1, 1, 3, 1, 4, 0]))))
      go_wp2_with fail
      refine Calls.mono SA.out ?_
      rintro e w5 ⟨rfl, b5⟩
      have LV := Lib.hid (live_any w5 (B + 13) F b (runS B) ps q N _ ((TT.out.below BL.out).below b5))
      rw [show ((lives (rtR (min 5 4)) : Nat) : Int) = 0 from rfl] at LV
      have BW5 := Lib.hid (BW.out.trans ((bstep BL.out b5).mono BW.out.size))
      clear b5
      go_wp2_with fail
      refine LV.out.mono ?_
      rintro e w6 ⟨rfl, rfl⟩
      go_wp2_with fail
      go_ret
      exact ⟨rfl, BW5.out⟩
end Go.Proofs.Ytimfmflnaehmgaa
