/-
  The walk of the statement WideOrder: for every four ints the call returns true; nothing that was in memory turns.
-/
import Derived.Test.YtnjegjmcfldpnaaLNear
import Derived.Deep.DeepCutAuto
import Derived.Deep.CutBlock
namespace Go.Proofs.Ytnjegjmcfldpnaa
set_option linter.unusedVariables false
set_option linter.unusedSimpArgs false
open Go.RowKit

theorem keepS2 {W W1 w' : World} {n m : Nat} {v0 v1 u0 u1 : Value} (hb : Below W1.heap.size W1 w') (h : Below W.heap.size W W1 ∧ W1.cell? ⟨n, 0, none⟩ = some v0 ∧ W1.cell? ⟨n, 1, none⟩ = some v1 ∧ W1.cell? ⟨m, 0, none⟩ = some u0 ∧ W1.cell? ⟨m, 1, none⟩ = some u1) (hn : n < W.heap.size) (hm : m < W.heap.size) :
    Below W.heap.size W w' ∧ w'.cell? ⟨n, 0, none⟩ = some v0 ∧ w'.cell? ⟨n, 1, none⟩ = some v1 ∧ w'.cell? ⟨m, 0, none⟩ = some u0 ∧ w'.cell? ⟨m, 1, none⟩ = some u1 := by
  obtain ⟨h1, h2, h3, h4, h5⟩ := h
  have := h1.size
  exact ⟨h1.trans (hb.mono this), by rw [hb.cell (p := ⟨n, 0, none⟩) (by show n < _; omega)]; exact h2, by rw [hb.cell (p := ⟨n, 1, none⟩) (by show n < _; omega)]; exact h3, by rw [hb.cell (p := ⟨m, 0, none⟩) (by show m < _; omega)]; exact h4, by rw [hb.cell (p := ⟨m, 1, none⟩) (by show m < _; omega)]; exact h5⟩
theorem cmpI_self (x : Int) : cmpI x x = 0 := by unfold cmpI; rw [if_neg (by omega), if_pos rfl]
theorem cmpI_anti (x y : Int) : -cmpI y x = cmpI x y := by unfold cmpI; split <;> (try split) <;> (try split) <;> (try split) <;> omega
theorem cmpI_trans {x y z : Int} (h1 : cmpI x y ≤ 0) (h2 : cmpI y z ≤ 0) : ¬ 0 < cmpI x z := by
  unfold cmpI at *; split at h1 <;> (try split at h1) <;> split at h2 <;> (try split at h2) <;> split <;> (try split) <;> omega
/-- Three structs in three new blocks. -/
theorem new3 (w : World) (v0 v1 u0 u1 t0 t1 : Value) (t : TypeId) (o1 o2 o3 : Obj) (h1 : o1 = .cells #[v0, v1] t) (h2 : o2 = .cells #[u0, u1] t) (h3 : o3 = .cells #[t0, t1] t) :
    (w.heap.size < (((w.alloc o1).alloc o2).alloc o3).heap.size ∧ (((w.alloc o1).alloc o2).alloc o3).cell? ⟨w.heap.size, 0, none⟩ = some v0 ∧ (((w.alloc o1).alloc o2).alloc o3).cell? ⟨w.heap.size, 1, none⟩ = some v1) ∧
    (w.heap.size + 1 < (((w.alloc o1).alloc o2).alloc o3).heap.size ∧ (((w.alloc o1).alloc o2).alloc o3).cell? ⟨w.heap.size + 1, 0, none⟩ = some u0 ∧ (((w.alloc o1).alloc o2).alloc o3).cell? ⟨w.heap.size + 1, 1, none⟩ = some u1) ∧
    (w.heap.size + 2 < (((w.alloc o1).alloc o2).alloc o3).heap.size ∧ (((w.alloc o1).alloc o2).alloc o3).cell? ⟨w.heap.size + 2, 0, none⟩ = some t0 ∧ (((w.alloc o1).alloc o2).alloc o3).cell? ⟨w.heap.size + 2, 1, none⟩ = some t1) := by
  subst h1 h2 h3
  have k1 := new1 w v0 v1 t
  have k2 := new1 (w.alloc (.cells #[v0, v1] t)) u0 u1 t
  have k3 := new1 ((w.alloc (.cells #[v0, v1] t)).alloc (.cells #[u0, u1] t)) t0 t1 t
  have b2 := (Below.refl (w.alloc (.cells #[v0, v1] t)).heap.size (w.alloc (.cells #[v0, v1] t))).alloc (Nat.le_refl _) (.cells #[u0, u1] t)
  have b3 := (Below.refl ((w.alloc (.cells #[v0, v1] t)).alloc (.cells #[u0, u1] t)).heap.size ((w.alloc (.cells #[v0, v1] t)).alloc (.cells #[u0, u1] t))).alloc (Nat.le_refl _) (.cells #[t0, t1] t)
  have e1 : (w.alloc (.cells #[v0, v1] t)).heap.size = w.heap.size + 1 := by simp
  have e2 : ((w.alloc (.cells #[v0, v1] t)).alloc (.cells #[u0, u1] t)).heap.size = w.heap.size + 2 := by simp
  rw [e1] at k2; rw [e2] at k3
  exact ⟨keep1 b3 (keep1 b2 k1), keep1 b3 k2, k3⟩

set_option maxRecDepth 100000 in
set_option maxHeartbeats 2000000 in
theorem order_any (a b c d : Int) (ha : I64 a) (hb : I64 b) (hc : I64 c) (hd : I64 d) (w : World) : Calls Try.prog 6 #[.int .i64 a, .int .i64 b, .int .i64 c, .int .i64 d] w fun e w' => e = .returned (.bool true) ∧ Below w.heap.size w w' := by
  go_enter Try.func6, Try.ntmps6
  go_wp2_with fail
  refine (of_any a ha _).mono ?_
  rintro e w1 ⟨rfl, b1⟩
  go_wp2_with fail
  refine (int_yes a ha _).mono ?_
  rintro e w2 ⟨rfl, b2⟩
  have hP := prod_W128 ha hb
  have hQ := prod_W128 hb hc
  have hR := prod_W128 hc hd
  go_wp2_with fail
  refine (mul_any a b ha hb _).mono ?_
  rintro e w3 ⟨rfl, b3⟩
  go_wp2_with fail
  refine (mul_any b c hb hc _).mono ?_
  rintro e w4 ⟨rfl, b4⟩
  go_wp2_with fail
  refine (mul_any c d hc hd _).mono ?_
  rintro e w5 ⟨rfl, b5⟩
  generalize a * b = P at *
  generalize b * c = Q at *
  generalize c * d = R at *
  go_upto_block 0 with fail
  have n3 := new3 w5 (.int .i64 (hiW P)) (.int .u64 (loW P)) (.int .i64 (hiW Q)) (.int .u64 (loW Q)) (.int .i64 (hiW R)) (.int .u64 (loW R)) 24 _ _ _ rfl rfl rfl
  have bel : Below w.heap.size w (((w5.alloc (.cells #[.int .i64 (hiW P), .int .u64 (loW P)] 24)).alloc (.cells #[.int .i64 (hiW Q), .int .u64 (loW Q)] 24)).alloc (.cells #[.int .i64 (hiW R), .int .u64 (loW R)] 24)) := by
    have s1 := b1.size; have s2 := b2.size; have s3 := b3.size; have s4 := b4.size; have s5 := b5.size
    exact (((((((b1).trans (b2.mono (by omega))).trans (b3.mono (by omega))).trans (b4.mono (by omega))).trans (b5.mono (by omega))).alloc (by omega) _).alloc (by simp; omega) _).alloc (by simp; omega) _
  generalize ((w5.alloc (.cells #[.int .i64 (hiW P), .int .u64 (loW P)] 24)).alloc (.cells #[.int .i64 (hiW Q), .int .u64 (loW Q)] 24)).alloc (.cells #[.int .i64 (hiW R), .int .u64 (loW R)] 24) = W at *
  generalize w5.heap.size + 2 = nR at *
  generalize w5.heap.size + 1 = nQ at *
  generalize w5.heap.size = nP at *
  obtain ⟨⟨p1, p2, p3⟩, ⟨p4, p5, p6⟩, ⟨p7, p8, p9⟩⟩ := n3
  clear b1 b2 b3 b4 b5
  go_cut [14] (fun v wc => v = .int .i64 (cmpI a b) ∧ W = wc)
  case first =>
    rcases Int.lt_trichotomy a b with h | h | h
    · have e : cmpI a b = -1 := by unfold cmpI; rw [if_pos h]
      go_wp2
      go_meet
      case rel => exact ⟨by rw [e], rfl⟩
    · subst h
      have e := cmpI_self a
      go_wp2
      go_meet
      case rel => exact ⟨by rw [e], rfl⟩
    · have e : cmpI a b = 1 := by unfold cmpI; rw [if_neg (by omega), if_neg (by omega)]
      go_wp2
      go_meet
      case rel => exact ⟨by rw [e], rfl⟩
  case rest =>
    obtain ⟨rfl, rfl⟩ := hcut
    have r1 := cmpI_self P
    have r2 : IntKind.i64.wrap (-cmpI Q P) = cmpI P Q := by have := cmpI_bd Q P; have := cmpI_anti P Q; rw [IntKind.wrap_i64]; omega
    have r3 : wrap64 (-cmpI Q P) = cmpI P Q := by have := cmpI_bd Q P; have := cmpI_anti P Q; unfold wrap64; omega
    go_wp2_with fail
    go_region_held3 (fun w' => Below W.heap.size W w' ∧ w'.cell? ⟨nP, 0, none⟩ = some (.int .i64 (hiW P)) ∧ w'.cell? ⟨nP, 1, none⟩ = some (.int .u64 (loW P)) ∧ w'.cell? ⟨nQ, 0, none⟩ = some (.int .i64 (hiW Q)) ∧ w'.cell? ⟨nQ, 1, none⟩ = some (.int .u64 (loW Q))) (first | exact keepS2 (by assumption) (by assumption) p1 p4 | exact ⟨(Below.refl _ _).drew, p2, p3, p5, p6⟩)
      (first
        | (go_at_call 12; (first | (with_reducible refine (of_any a ha _).mono ?_) | (with_reducible refine (of_any b hb _).mono ?_)); rintro e w' ⟨rfl, hbb⟩)
        | (go_at_call 20; (first | (with_reducible refine (cmp_any a b ha.W128 hb.W128 _).mono ?_) | (with_reducible refine (cmp_any P Q hP hQ _).mono ?_) | (with_reducible refine (cmp_any Q P hQ hP _).mono ?_) | (with_reducible refine (cmp_any P P hP hP _).mono ?_)); rintro e w' ⟨rfl, hbb⟩))
    obtain ⟨bW, -, -, -, -⟩ := ‹Below W.heap.size W _ ∧ _›
    have kP := keep1 bW ⟨p1, p2, p3⟩
    have kQ := keep1 bW ⟨p4, p5, p6⟩
    have kR := keep1 bW ⟨p7, p8, p9⟩
    have bel8 := bel.trans (bW.mono bel.size)
    clear p1 p2 p3 p4 p5 p6 p7 p8 p9 bW bel r1 r2 r3
    generalize w' = W8 at *
    go_upto_region 10 with fail
    go_cut [88] (fun v wc => v = .bool false ∧ Below W8.heap.size W8 wc)
    case first =>
      obtain ⟨q1, q2, q3⟩ := id kP
      obtain ⟨q4, q5, q6⟩ := id kQ
      by_cases h1 : cmpI P Q ≤ 0
      · go_wp2_with fail
        refine (cmp_any P Q hP hQ _).mono ?_
        rintro e v1 ⟨rfl, c1⟩
        have kP1 := keep1 c1 kP
        have kQ1 := keep1 c1 kQ
        have kR1 := keep1 c1 kR
        obtain ⟨q11, q12, q13⟩ := id kQ1
        obtain ⟨q14, q15, q16⟩ := id kR1
        clear q1 q2 q3 q4 q5 q6
        by_cases h2 : cmpI Q R ≤ 0
        · have d3 : decide (0 < cmpI P R) = false := by simpa using cmpI_trans h1 h2
          go_wp2_with fail
          refine (cmp_any Q R hQ hR _).mono ?_
          rintro e v2 ⟨rfl, c2⟩
          obtain ⟨q21, q22, q23⟩ := keep1 c2 kP1
          obtain ⟨q24, q25, q26⟩ := keep1 c2 kR1
          clear q11 q12 q13 q14 q15 q16
          go_wp2_with fail
          refine (cmp_any P R hP hR _).mono ?_
          rintro e v3 ⟨rfl, c3⟩
          go_wp2
          go_meet
          case rel => exact ⟨rfl, by have s1 := c1.size; have s2 := c2.size; exact (c1.trans (c2.mono (by omega))).trans (c3.mono (by omega))⟩
        · have d2 : decide (cmpI Q R ≤ 0) = false := by simpa using h2
          go_wp2_with fail
          refine (cmp_any Q R hQ hR _).mono ?_
          rintro e v2 ⟨rfl, c2⟩
          go_wp2
          go_meet
          case rel => exact ⟨rfl, by have s1 := c1.size; exact c1.trans (c2.mono (by omega))⟩
      · have d1 : decide (cmpI P Q ≤ 0) = false := by simpa using h1
        go_wp2_with fail
        refine (cmp_any P Q hP hQ _).mono ?_
        rintro e v1 ⟨rfl, c1⟩
        go_wp2
        go_meet
        case rel => exact ⟨rfl, c1⟩
    case rest =>
      obtain ⟨rfl, bc⟩ := hcut
      have kP9 := keep1 bc kP
      have kQ9 := keep1 bc kQ
      have bel9 := bel8.trans (bc.mono bel8.size)
      clear kP kQ kR bel8 bc
      generalize wc = W9 at *
      have iMin : I64 (-9223372036854775808) := ⟨by decide, by decide⟩
      have iMax : I64 9223372036854775807 := ⟨by decide, by decide⟩
      have same : (Hid ((cmpI P Q == 0) = true) ∧ Hid ((hiW P == hiW Q) = true) ∧ Hid ((loW P == loW Q) = true)) ∨ (Hid ((cmpI P Q == 0) = false) ∧ Hid ((hiW P == hiW Q) = false) ∧ Hid True) ∨ (Hid ((cmpI P Q == 0) = false) ∧ Hid ((hiW P == hiW Q) = true) ∧ Hid ((loW P == loW Q) = false)) := by
        by_cases h : P = Q
        · exact Or.inl ⟨Lib.hid (by rw [h]; simp [cmpI_self]), Lib.hid (by rw [h]; simp), Lib.hid (by rw [h]; simp)⟩
        · have hne : (cmpI P Q == 0) = false := by
            have : cmpI P Q ≠ 0 := by unfold cmpI; split <;> (try split) <;> omega
            simpa using this
          by_cases h1 : hiW P = hiW Q
          · by_cases h2 : loW P = loW Q
            · exact absurd (wide_inj hP hQ h1 h2) h
            · exact Or.inr (Or.inr ⟨Lib.hid hne, Lib.hid (by simpa using h1), Lib.hid (by simpa using h2)⟩)
          · exact Or.inr (Or.inl ⟨Lib.hid hne, Lib.hid (by simpa using h1), Lib.hid trivial⟩)
      obtain ⟨y1, y2, y3⟩ := id kP9
      go_wp2_with fail
      have key : I64 P ∨ (¬ I64 P ∧ (P < -9223372036854775808 ∨ 9223372036854775807 < P)) := by
        by_cases h : I64 P
        · exact Or.inl h
        · unfold I64 at *; omega
      clear y1 y2 y3
      rcases key with hI | ⟨hI, hlg⟩
      · refine (int_yes P hI _).mono ?_
        rintro e W10 ⟨rfl, b10⟩
        have kP10 := keep1 b10 kP9
        have kQ10 := keep1 b10 kQ9
        have bel10 := bel9.trans (b10.mono bel9.size)
        clear kP9 kQ9 bel9 b10
        go_upto_region 13 with fail
        go_cut [17] (fun v wc => v = .bool true ∧ Below W10.heap.size W10 wc)
        case first =>
          obtain ⟨q1, q2, q3⟩ := id kP10
          have d1 : decide (0 ≤ cmpI P (-9223372036854775808)) = true := by simpa using (cmpI_ge (x := P) hI.1).1
          have d2 : decide (cmpI P 9223372036854775807 ≤ 0) = true := by simpa using (cmpI_le (x := P) hI.2).1
          go_region_held3 (fun w' => Below W10.heap.size W10 w' ∧ w'.cell? ⟨nP, 0, none⟩ = some (.int .i64 (hiW P)) ∧ w'.cell? ⟨nP, 1, none⟩ = some (.int .u64 (loW P))) (first | exact keepS (by assumption) (by assumption) q1 | exact ⟨(Below.refl _ _).drew, q2, q3⟩)
              (first
                | (go_at_call 12; (first | (with_reducible refine (of_any (-9223372036854775808) iMin _).mono ?_) | (with_reducible refine (of_any 9223372036854775807 iMax _).mono ?_)); rintro e w' ⟨rfl, hbb⟩)
                | (go_at_call 20; (first | (with_reducible refine (cmp_any P (-9223372036854775808) hP iMin.W128 _).mono ?_) | (with_reducible refine (cmp_any P 9223372036854775807 hP iMax.W128 _).mono ?_)); rintro e w' ⟨rfl, hbb⟩))
          obtain ⟨bW, -, -⟩ := ‹Below W10.heap.size W10 _ ∧ _›
          go_wp2
          go_meet
          case rel => exact ⟨rfl, bW⟩
        case rest =>
          obtain ⟨rfl, bc⟩ := hcut
          have kP11 := keep1 bc kP10
          have kQ11 := keep1 bc kQ10
          have bel11 := bel10.trans (bc.mono bel10.size)
          clear kP10 kQ10 bel10 bc
          generalize wc = W11 at *
          obtain ⟨q1, q2, q3⟩ := kP11
          obtain ⟨q4, q5, q6⟩ := kQ11
          go_wp2_with fail
          rcases same with ⟨z1, z2, z3⟩ | ⟨z1, z2, z3⟩ | ⟨z1, z2, z3⟩
          all_goals
            replace z1 := z1.out
            replace z2 := z2.out
            replace z3 := z3.out
            refine wp_region_held_drew (S := (fun w' => Below W11.heap.size W11 w' ∧ w'.cell? ⟨nP, 0, none⟩ = some (.int .i64 (hiW P)) ∧ w'.cell? ⟨nP, 1, none⟩ = some (.int .u64 (loW P)) ∧ w'.cell? ⟨nQ, 0, none⟩ = some (.int .i64 (hiW Q)) ∧ w'.cell? ⟨nQ, 1, none⟩ = some (.int .u64 (loW Q)))) (by kernel_rfl) ?_ (fun hHeld => ?_)
            · exact ⟨(Below.refl _ _).drew, q2, q3, q5, q6⟩
            refine wpAnyH_take (i := 0) (v := ?_) rfl (by kernel_rfl) (by kernel_rfl) (by kernel_rfl) (fun _ _ _ h => h) (Or.inl ⟨by rfl, ?_⟩) (by assumption) ?_
            rotate_left
            · (intro wq hSq; (try dsimp only at hSq); go_simp <;> with_reducible rfl)
            try simp only [Act.put, List.setIfInBounds_toArray, List.set_cons_zero, List.set_cons_succ, List.getElem_toArray, List.getElem_cons_zero, List.getElem_cons_succ]
            refine wpAnyH_take (i := 1) (v := ?_) rfl (by kernel_rfl) (by kernel_rfl) (by kernel_rfl) (fun _ _ _ h => h) (Or.inl ⟨by rfl, ?_⟩) (by assumption) ?_
            rotate_left
            · (intro wq hSq; (try dsimp only at hSq); go_simp <;> with_reducible rfl)
            try simp only [Act.put, List.setIfInBounds_toArray, List.set_cons_zero, List.set_cons_succ, List.getElem_toArray, List.getElem_cons_zero, List.getElem_cons_succ]
            refine wpAnyH_take (i := 2) (v := ?_) rfl (by kernel_rfl) (by kernel_rfl) (by kernel_rfl) (fun _ _ _ h => h) (Or.inl ⟨by rfl, ?_⟩) (by assumption) ?_
            rotate_left
            · (intro wq hSq; (try dsimp only at hSq); go_simp <;> with_reducible rfl)
            try simp only [Act.put, List.setIfInBounds_toArray, List.set_cons_zero, List.set_cons_succ, List.getElem_toArray, List.getElem_cons_zero, List.getElem_cons_succ]
            refine wpAnyH_take (i := 3) (v := ?_) rfl (by kernel_rfl) (by kernel_rfl) (by kernel_rfl) (fun _ _ _ h => h) (Or.inl ⟨by rfl, ?_⟩) (by assumption) ?_
            rotate_left
            · (intro wq hSq; (try dsimp only at hSq); go_simp <;> with_reducible rfl)
            try simp only [Act.put, List.setIfInBounds_toArray, List.set_cons_zero, List.set_cons_succ, List.getElem_toArray, List.getElem_cons_zero, List.getElem_cons_succ]
            refine wpAnyH_take (i := 4) (v := ?_) rfl (by kernel_rfl) (by kernel_rfl) (by kernel_rfl) (fun _ _ _ h => h) (Or.inl ⟨by rfl, ?_⟩) (by assumption) ?_
            rotate_left
            · (intro wq hSq; (try dsimp only at hSq); go_simp <;> with_reducible rfl)
            try simp only [Act.put, List.setIfInBounds_toArray, List.set_cons_zero, List.set_cons_succ, List.getElem_toArray, List.getElem_cons_zero, List.getElem_cons_succ]
            refine wpAnyH_take (i := 5) (v := ?_) rfl (by kernel_rfl) (by kernel_rfl) (by kernel_rfl) (fun _ _ _ h => h) (Or.inl ⟨by rfl, ?_⟩) (by assumption) ?_
            rotate_left
            · (intro wq hSq; (try dsimp only at hSq); go_simp <;> with_reducible rfl)
            try simp only [Act.put, List.setIfInBounds_toArray, List.set_cons_zero, List.set_cons_succ, List.getElem_toArray, List.getElem_cons_zero, List.getElem_cons_succ]
            refine wpAnyH_take (i := 6) (v := ?_) rfl (by kernel_rfl) (by kernel_rfl) (by kernel_rfl) (fun _ _ _ h => h) (Or.inl ⟨by rfl, ?_⟩) (by assumption) ?_
            rotate_left
            · (intro wq hSq; (try dsimp only at hSq); go_simp <;> with_reducible rfl)
            try simp only [Act.put, List.setIfInBounds_toArray, List.set_cons_zero, List.set_cons_succ, List.getElem_toArray, List.getElem_cons_zero, List.getElem_cons_succ]
            refine wpAnyH_take (i := 7) (v := ?_) rfl (by kernel_rfl) (by kernel_rfl) (by kernel_rfl) (fun _ _ _ h => h) (Or.inl ⟨by rfl, ?_⟩) (by assumption) ?_
            rotate_left
            · (intro wq hSq; (try dsimp only at hSq); go_simp <;> with_reducible rfl)
            try simp only [Act.put, List.setIfInBounds_toArray, List.set_cons_zero, List.set_cons_succ, List.getElem_toArray, List.getElem_cons_zero, List.getElem_cons_succ]
            refine wpAnyH_take (i := 9) (v := ?_) rfl (by kernel_rfl) (by kernel_rfl) (by kernel_rfl) (fun _ _ _ h => h) (Or.inl ⟨by rfl, ?_⟩) (by assumption) ?_
            rotate_left
            · (intro wq hSq; (try dsimp only at hSq); go_simp <;> with_reducible rfl)
            try simp only [Act.put, List.setIfInBounds_toArray, List.set_cons_zero, List.set_cons_succ, List.getElem_toArray, List.getElem_cons_zero, List.getElem_cons_succ]
            refine wpAnyH_ready (rs := [8]) (by kernel_rfl) (by simp) ?_
            refine AllReadyH.cons rfl (fun K hK => ?_) AllReadyH.nil
            go_simp
            go_at_call 12; refine (of_any P hI _).mono ?_; rintro e w' ⟨rfl, hbb⟩
            refine hK.out _ _ ?_ (fun hHeld => ?_)
            · exact keepS2 hbb (by assumption) q1 q4
            clear hK K
            try simp only [Act.put, List.setIfInBounds_toArray, List.set_cons_zero, List.set_cons_succ, List.getElem_toArray, List.getElem_cons_zero, List.getElem_cons_succ]
            refine wpAnyH_take (i := 10) (v := ?_) rfl (by kernel_rfl) (by kernel_rfl) (by kernel_rfl) (fun _ _ _ h => h) (Or.inl ⟨by rfl, ?_⟩) (by assumption) ?_
            rotate_left
            · (intro wq hSq; (try dsimp only at hSq); go_simp <;> with_reducible rfl)
            try simp only [Act.put, List.setIfInBounds_toArray, List.set_cons_zero, List.set_cons_succ, List.getElem_toArray, List.getElem_cons_zero, List.getElem_cons_succ]
            refine wpAnyH_take (i := 11) (v := ?_) rfl (by kernel_rfl) (by kernel_rfl) (by kernel_rfl) (fun _ _ _ h => h) (Or.inl ⟨by rfl, ?_⟩) (by assumption) ?_
            rotate_left
            · (intro wq hSq; (try dsimp only at hSq); go_simp <;> with_reducible rfl)
            try simp only [Act.put, List.setIfInBounds_toArray, List.set_cons_zero, List.set_cons_succ, List.getElem_toArray, List.getElem_cons_zero, List.getElem_cons_succ]
            refine wpAnyH_take (i := 12) (v := ?_) rfl (by kernel_rfl) (by kernel_rfl) (by kernel_rfl) (fun _ _ _ h => h) (Or.inl ⟨by rfl, ?_⟩) (by assumption) ?_
            rotate_left
            · (intro wq hSq; (try dsimp only at hSq); go_simp <;> with_reducible rfl)
            try simp only [Act.put, List.setIfInBounds_toArray, List.set_cons_zero, List.set_cons_succ, List.getElem_toArray, List.getElem_cons_zero, List.getElem_cons_succ]
            refine wpAnyH_take (i := 13) (v := ?_) rfl (by kernel_rfl) (by kernel_rfl) (by kernel_rfl) (fun _ _ _ h => h) (Or.inl ⟨by rfl, ?_⟩) (by assumption) ?_
            rotate_left
            · (intro wq hSq; (try dsimp only at hSq); go_simp <;> with_reducible rfl)
            try simp only [Act.put, List.setIfInBounds_toArray, List.set_cons_zero, List.set_cons_succ, List.getElem_toArray, List.getElem_cons_zero, List.getElem_cons_succ]
            refine wpAnyH_take (i := 14) (v := ?_) rfl (by kernel_rfl) (by kernel_rfl) (by kernel_rfl) (fun _ _ _ h => h) (Or.inl ⟨by rfl, ?_⟩) (by assumption) ?_
            rotate_left
            · (intro wq hSq; (try dsimp only at hSq); go_simp <;> with_reducible rfl)
            try simp only [Act.put, List.setIfInBounds_toArray, List.set_cons_zero, List.set_cons_succ, List.getElem_toArray, List.getElem_cons_zero, List.getElem_cons_succ]
            refine wpAnyH_take (i := 15) (v := ?_) rfl (by kernel_rfl) (by kernel_rfl) (by kernel_rfl) (fun _ _ _ h => h) (Or.inl ⟨by rfl, ?_⟩) (by assumption) ?_
            rotate_left
            · (intro wq hSq; (try dsimp only at hSq); go_simp <;> with_reducible rfl)
            try simp only [Act.put, List.setIfInBounds_toArray, List.set_cons_zero, List.set_cons_succ, List.getElem_toArray, List.getElem_cons_zero, List.getElem_cons_succ]
            refine wpAnyH_take (i := 16) (v := undef) rfl (by kernel_rfl) (by kernel_rfl) (by kernel_rfl) (fun _ _ _ h => h) (Or.inr ⟨by rfl, rfl⟩) (by assumption) ?_
            try simp only [Act.put, List.setIfInBounds_toArray, List.set_cons_zero, List.set_cons_succ, List.getElem_toArray, List.getElem_cons_zero, List.getElem_cons_succ]
            refine wpAnyH_take (i := 17) (v := undef) rfl (by kernel_rfl) (by kernel_rfl) (by kernel_rfl) (fun _ _ _ h => h) (Or.inr ⟨by rfl, rfl⟩) (by assumption) ?_
            try simp only [Act.put, List.setIfInBounds_toArray, List.set_cons_zero, List.set_cons_succ, List.getElem_toArray, List.getElem_cons_zero, List.getElem_cons_succ]
            refine wpAnyH_take (i := 18) (v := ?_) rfl (by kernel_rfl) (by kernel_rfl) (by kernel_rfl) (fun _ _ _ h => h) (Or.inl ⟨by rfl, ?_⟩) (by assumption) ?_
            rotate_left
            · (intro wq hSq; (try dsimp only at hSq); go_simp <;> with_reducible rfl)
            try simp only [Act.put, List.setIfInBounds_toArray, List.set_cons_zero, List.set_cons_succ, List.getElem_toArray, List.getElem_cons_zero, List.getElem_cons_succ]
            refine wpAnyH_take (i := 19) (v := ?_) rfl (by kernel_rfl) (by kernel_rfl) (by kernel_rfl) (fun _ _ _ h => h) (Or.inl ⟨by rfl, ?_⟩) (by assumption) ?_
            rotate_left
            · (intro wq hSq; (try dsimp only at hSq); go_simp <;> with_reducible rfl)
            try simp only [Act.put, List.setIfInBounds_toArray, List.set_cons_zero, List.set_cons_succ, List.getElem_toArray, List.getElem_cons_zero, List.getElem_cons_succ]
            refine wpAnyH_take (i := 20) (v := ?_) rfl (by kernel_rfl) (by kernel_rfl) (by kernel_rfl) (fun _ _ _ h => h) (Or.inl ⟨by rfl, ?_⟩) (by assumption) ?_
            rotate_left
            · (intro wq hSq; (try dsimp only at hSq); go_simp <;> with_reducible rfl)
            try simp only [Act.put, List.setIfInBounds_toArray, List.set_cons_zero, List.set_cons_succ, List.getElem_toArray, List.getElem_cons_zero, List.getElem_cons_succ]
            refine wpAnyH_take (i := 21) (v := ?_) rfl (by kernel_rfl) (by kernel_rfl) (by kernel_rfl) (fun _ _ _ h => h) (Or.inl ⟨by rfl, ?_⟩) (by assumption) ?_
            rotate_left
            · (intro wq hSq; (try dsimp only at hSq); go_simp <;> with_reducible rfl)
            try simp only [Act.put, List.setIfInBounds_toArray, List.set_cons_zero, List.set_cons_succ, List.getElem_toArray, List.getElem_cons_zero, List.getElem_cons_succ]
            refine wpAnyH_take (i := 22) (v := ?_) rfl (by kernel_rfl) (by kernel_rfl) (by kernel_rfl) (fun _ _ _ h => h) (Or.inl ⟨by rfl, ?_⟩) (by assumption) ?_
            rotate_left
            · (intro wq hSq; (try dsimp only at hSq); go_simp <;> with_reducible rfl)
            try simp only [Act.put, List.setIfInBounds_toArray, List.set_cons_zero, List.set_cons_succ, List.getElem_toArray, List.getElem_cons_zero, List.getElem_cons_succ]
            refine wpAnyH_take (i := 25) (v := ?_) rfl (by kernel_rfl) (by kernel_rfl) (by kernel_rfl) (fun _ _ _ h => h) (Or.inl ⟨by rfl, ?_⟩) (by assumption) ?_
            rotate_left
            · (intro wq hSq; (try dsimp only at hSq); go_simp <;> with_reducible rfl)
            try simp only [Act.put, List.setIfInBounds_toArray, List.set_cons_zero, List.set_cons_succ, List.getElem_toArray, List.getElem_cons_zero, List.getElem_cons_succ]
            refine wpAnyH_take (i := 26) (v := ?_) rfl (by kernel_rfl) (by kernel_rfl) (by kernel_rfl) (fun _ _ _ h => h) (Or.inl ⟨by rfl, ?_⟩) (by assumption) ?_
            rotate_left
            · (intro wq hSq; (try dsimp only at hSq); go_simp <;> with_reducible rfl)
            try simp only [Act.put, List.setIfInBounds_toArray, List.set_cons_zero, List.set_cons_succ, List.getElem_toArray, List.getElem_cons_zero, List.getElem_cons_succ]
            refine wpAnyH_take (i := 27) (v := ?_) rfl (by kernel_rfl) (by kernel_rfl) (by kernel_rfl) (fun _ _ _ h => h) (Or.inl ⟨by rfl, ?_⟩) (by assumption) ?_
            rotate_left
            · (intro wq hSq; (try dsimp only at hSq); go_simp <;> with_reducible rfl)
            try simp only [Act.put, List.setIfInBounds_toArray, List.set_cons_zero, List.set_cons_succ, List.getElem_toArray, List.getElem_cons_zero, List.getElem_cons_succ]
            refine wpAnyH_ready (rs := [23]) (by kernel_rfl) (by simp) ?_
            refine AllReadyH.cons rfl (fun K hK => ?_) AllReadyH.nil
            go_simp
            go_at_call 20; refine (cmp_any P Q hP hQ _).mono ?_; rintro e w' ⟨rfl, hbb⟩
            refine hK.out _ _ ?_ (fun hHeld => ?_)
            · exact keepS2 hbb (by assumption) q1 q4
            clear hK K
            try simp only [Act.put, List.setIfInBounds_toArray, List.set_cons_zero, List.set_cons_succ, List.getElem_toArray, List.getElem_cons_zero, List.getElem_cons_succ]
            refine wpAnyH_take (i := 24) (v := ?_) rfl (by kernel_rfl) (by kernel_rfl) (by kernel_rfl) (fun _ _ _ h => h) (Or.inl ⟨by rfl, ?_⟩) (by assumption) ?_
            rotate_left
            · (intro wq hSq; (try dsimp only at hSq); go_simp <;> with_reducible rfl)
            try simp only [Act.put, List.setIfInBounds_toArray, List.set_cons_zero, List.set_cons_succ, List.getElem_toArray, List.getElem_cons_zero, List.getElem_cons_succ]
            refine wpAnyH_take (i := 28) (v := ?_) rfl (by kernel_rfl) (by kernel_rfl) (by kernel_rfl) (fun _ _ _ h => h) (Or.inl ⟨by rfl, ?_⟩) (by assumption) ?_
            rotate_left
            · (intro wq hSq; (try dsimp only at hSq); go_simp <;> with_reducible rfl)
            try simp only [Act.put, List.setIfInBounds_toArray, List.set_cons_zero, List.set_cons_succ, List.getElem_toArray, List.getElem_cons_zero, List.getElem_cons_succ]
            refine wpAnyH_take (i := 29) (v := ?_) rfl (by kernel_rfl) (by kernel_rfl) (by kernel_rfl) (fun _ _ _ h => h) (Or.inl ⟨by rfl, ?_⟩) (by assumption) ?_
            rotate_left
            · (intro wq hSq; (try dsimp only at hSq); go_simp <;> with_reducible rfl)
            try simp only [Act.put, List.setIfInBounds_toArray, List.set_cons_zero, List.set_cons_succ, List.getElem_toArray, List.getElem_cons_zero, List.getElem_cons_succ]
            refine wpAnyH_take (i := 30) (v := ?_) rfl (by kernel_rfl) (by kernel_rfl) (by kernel_rfl) (fun _ _ _ h => h) (Or.inl ⟨by rfl, ?_⟩) (by assumption) ?_
            rotate_left
            · (intro wq hSq; (try dsimp only at hSq); go_simp <;> with_reducible rfl)
            try simp only [Act.put, List.setIfInBounds_toArray, List.set_cons_zero, List.set_cons_succ, List.getElem_toArray, List.getElem_cons_zero, List.getElem_cons_succ]
            refine wpAnyH_ready (rs := [31]) (by kernel_rfl) (by simp) ?_
            refine AllReadyH.cons rfl (fun K hK => ?_) AllReadyH.nil
            go_simp
            go_at_call 3; refine (runs_any _).mono ?_; rintro e w' ⟨rfl, hbb⟩
            refine hK.out _ _ ?_ (fun hHeld => ?_)
            · exact keepS2 hbb (by assumption) q1 q4
            clear hK K
            try simp only [Act.put, List.setIfInBounds_toArray, List.set_cons_zero, List.set_cons_succ, List.getElem_toArray, List.getElem_cons_zero, List.getElem_cons_succ]
            refine wpAnyH_take (i := 32) (v := ?_) rfl (by kernel_rfl) (by kernel_rfl) (by kernel_rfl) (fun _ _ _ h => h) (Or.inl ⟨by rfl, ?_⟩) (by assumption) ?_
            rotate_left
            · (intro wq hSq; (try dsimp only at hSq); go_simp <;> with_reducible rfl)
            try simp only [Act.put, List.setIfInBounds_toArray, List.set_cons_zero, List.set_cons_succ, List.getElem_toArray, List.getElem_cons_zero, List.getElem_cons_succ]
            refine wpAnyH_take (i := 33) (v := ?_) rfl (by kernel_rfl) (by kernel_rfl) (by kernel_rfl) (fun _ _ _ h => h) (Or.inl ⟨by rfl, ?_⟩) (by assumption) ?_
            rotate_left
            · (intro wq hSq; (try dsimp only at hSq); go_simp <;> with_reducible rfl)
            try simp only [Act.put, List.setIfInBounds_toArray, List.set_cons_zero, List.set_cons_succ, List.getElem_toArray, List.getElem_cons_zero, List.getElem_cons_succ]
            refine wpAnyH_done (by kernel_rfl) ?_ _
            obtain ⟨bW, -, -, -, -⟩ := ‹Below W11.heap.size W11 _ ∧ _›
            go_wp2
            go_ret
            exact ⟨rfl, bel11.trans (bW.mono bel11.size)⟩
      · refine (int_no P hP hI _).mono ?_
        rintro e W10 ⟨rfl, b10⟩
        have kP10 := keep1 b10 kP9
        have kQ10 := keep1 b10 kQ9
        have bel10 := bel9.trans (b10.mono bel9.size)
        clear kP9 kQ9 bel9 b10
        go_upto_region 13 with fail
        go_cut [17] (fun v wc => v = .bool false ∧ Below W10.heap.size W10 wc)
        case first =>
          obtain ⟨q1, q2, q3⟩ := id kP10
          rcases hlg with hlt | hgt
          · have d1 : decide (0 ≤ cmpI P (-9223372036854775808)) = false := by
              have : cmpI P (-9223372036854775808) = -1 := by unfold cmpI; rw [if_pos hlt]
              rw [this]; decide
            refine wp_region_held_drew (S := (fun w' => Below W10.heap.size W10 w' ∧ w'.cell? ⟨nP, 0, none⟩ = some (.int .i64 (hiW P)) ∧ w'.cell? ⟨nP, 1, none⟩ = some (.int .u64 (loW P)))) (by kernel_rfl) ?_ (fun hHeld => ?_)
            · exact ⟨(Below.refl _ _).drew, q2, q3⟩
            refine wpAnyH_take (i := 0) (v := ?_) rfl (by kernel_rfl) (by kernel_rfl) (by kernel_rfl) (fun _ _ _ h => h) (Or.inl ⟨by rfl, ?_⟩) (by assumption) ?_
            rotate_left
            · (intro wq hSq; (try dsimp only at hSq); go_simp <;> with_reducible rfl)
            try simp only [Act.put, List.setIfInBounds_toArray, List.set_cons_zero, List.set_cons_succ, List.getElem_toArray, List.getElem_cons_zero, List.getElem_cons_succ]
            refine wpAnyH_ready (rs := [1]) (by kernel_rfl) (by simp) ?_
            refine AllReadyH.cons rfl (fun K hK => ?_) AllReadyH.nil
            go_simp
            go_at_call 12; refine (of_any (-9223372036854775808) iMin _).mono ?_; rintro e w' ⟨rfl, hbb⟩
            refine hK.out _ _ ?_ (fun hHeld => ?_)
            · exact keepS hbb (by assumption) q1
            clear hK K
            try simp only [Act.put, List.setIfInBounds_toArray, List.set_cons_zero, List.set_cons_succ, List.getElem_toArray, List.getElem_cons_zero, List.getElem_cons_succ]
            refine wpAnyH_ready (rs := [2]) (by kernel_rfl) (by simp) ?_
            refine AllReadyH.cons rfl (fun K hK => ?_) AllReadyH.nil
            go_simp
            go_at_call 20; refine (cmp_any P (-9223372036854775808) hP iMin.W128 _).mono ?_; rintro e w' ⟨rfl, hbb⟩
            refine hK.out _ _ ?_ (fun hHeld => ?_)
            · exact keepS hbb (by assumption) q1
            clear hK K
            try simp only [Act.put, List.setIfInBounds_toArray, List.set_cons_zero, List.set_cons_succ, List.getElem_toArray, List.getElem_cons_zero, List.getElem_cons_succ]
            refine wpAnyH_take (i := 3) (v := ?_) rfl (by kernel_rfl) (by kernel_rfl) (by kernel_rfl) (fun _ _ _ h => h) (Or.inl ⟨by rfl, ?_⟩) (by assumption) ?_
            rotate_left
            · (intro wq hSq; (try dsimp only at hSq); go_simp <;> with_reducible rfl)
            try simp only [Act.put, List.setIfInBounds_toArray, List.set_cons_zero, List.set_cons_succ, List.getElem_toArray, List.getElem_cons_zero, List.getElem_cons_succ]
            refine wpAnyH_take (i := 4) (v := ?_) rfl (by kernel_rfl) (by kernel_rfl) (by kernel_rfl) (fun _ _ _ h => h) (Or.inl ⟨by rfl, ?_⟩) (by assumption) ?_
            rotate_left
            · (intro wq hSq; (try dsimp only at hSq); go_simp <;> with_reducible rfl)
            try simp only [Act.put, List.setIfInBounds_toArray, List.set_cons_zero, List.set_cons_succ, List.getElem_toArray, List.getElem_cons_zero, List.getElem_cons_succ]
            refine wpAnyH_take (i := 5) (v := undef) rfl (by kernel_rfl) (by kernel_rfl) (by kernel_rfl) (fun _ _ _ h => h) (Or.inr ⟨by rfl, rfl⟩) (by assumption) ?_
            try simp only [Act.put, List.setIfInBounds_toArray, List.set_cons_zero, List.set_cons_succ, List.getElem_toArray, List.getElem_cons_zero, List.getElem_cons_succ]
            refine wpAnyH_take (i := 6) (v := undef) rfl (by kernel_rfl) (by kernel_rfl) (by kernel_rfl) (fun _ _ _ h => h) (Or.inr ⟨by rfl, rfl⟩) (by assumption) ?_
            try simp only [Act.put, List.setIfInBounds_toArray, List.set_cons_zero, List.set_cons_succ, List.getElem_toArray, List.getElem_cons_zero, List.getElem_cons_succ]
            refine wpAnyH_take (i := 7) (v := undef) rfl (by kernel_rfl) (by kernel_rfl) (by kernel_rfl) (fun _ _ _ h => h) (Or.inr ⟨by rfl, rfl⟩) (by assumption) ?_
            try simp only [Act.put, List.setIfInBounds_toArray, List.set_cons_zero, List.set_cons_succ, List.getElem_toArray, List.getElem_cons_zero, List.getElem_cons_succ]
            refine wpAnyH_take (i := 8) (v := undef) rfl (by kernel_rfl) (by kernel_rfl) (by kernel_rfl) (fun _ _ _ h => h) (Or.inr ⟨by rfl, rfl⟩) (by assumption) ?_
            try simp only [Act.put, List.setIfInBounds_toArray, List.set_cons_zero, List.set_cons_succ, List.getElem_toArray, List.getElem_cons_zero, List.getElem_cons_succ]
            refine wpAnyH_take (i := 9) (v := ?_) rfl (by kernel_rfl) (by kernel_rfl) (by kernel_rfl) (fun _ _ _ h => h) (Or.inl ⟨by rfl, ?_⟩) (by assumption) ?_
            rotate_left
            · (intro wq hSq; (try dsimp only at hSq); go_simp <;> with_reducible rfl)
            try simp only [Act.put, List.setIfInBounds_toArray, List.set_cons_zero, List.set_cons_succ, List.getElem_toArray, List.getElem_cons_zero, List.getElem_cons_succ]
            refine wpAnyH_take (i := 10) (v := ?_) rfl (by kernel_rfl) (by kernel_rfl) (by kernel_rfl) (fun _ _ _ h => h) (Or.inl ⟨by rfl, ?_⟩) (by assumption) ?_
            rotate_left
            · (intro wq hSq; (try dsimp only at hSq); go_simp <;> with_reducible rfl)
            try simp only [Act.put, List.setIfInBounds_toArray, List.set_cons_zero, List.set_cons_succ, List.getElem_toArray, List.getElem_cons_zero, List.getElem_cons_succ]
            refine wpAnyH_done (by kernel_rfl) ?_ _
            obtain ⟨bW, -, -⟩ := ‹Below W10.heap.size W10 _ ∧ _›
            go_wp2
            go_meet
            case rel => exact ⟨rfl, bW⟩
          · have d1 : decide (0 ≤ cmpI P (-9223372036854775808)) = true := by simpa using (cmpI_ge (x := P) (y := -9223372036854775808) (by omega)).1
            have d2 : decide (cmpI P 9223372036854775807 ≤ 0) = false := by
              have : cmpI P 9223372036854775807 = 1 := by unfold cmpI; rw [if_neg (by omega), if_neg (by omega)]
              rw [this]; decide
            go_region_held3 (fun w' => Below W10.heap.size W10 w' ∧ w'.cell? ⟨nP, 0, none⟩ = some (.int .i64 (hiW P)) ∧ w'.cell? ⟨nP, 1, none⟩ = some (.int .u64 (loW P))) (first | exact keepS (by assumption) (by assumption) q1 | exact ⟨(Below.refl _ _).drew, q2, q3⟩)
              (first
                | (go_at_call 12; (first | (with_reducible refine (of_any (-9223372036854775808) iMin _).mono ?_) | (with_reducible refine (of_any 9223372036854775807 iMax _).mono ?_)); rintro e w' ⟨rfl, hbb⟩)
                | (go_at_call 20; (first | (with_reducible refine (cmp_any P (-9223372036854775808) hP iMin.W128 _).mono ?_) | (with_reducible refine (cmp_any P 9223372036854775807 hP iMax.W128 _).mono ?_)); rintro e w' ⟨rfl, hbb⟩))
            obtain ⟨bW, -, -⟩ := ‹Below W10.heap.size W10 _ ∧ _›
            go_wp2
            go_meet
            case rel => exact ⟨rfl, bW⟩
        case rest =>
          obtain ⟨rfl, bc⟩ := hcut
          have kP11 := keep1 bc kP10
          have kQ11 := keep1 bc kQ10
          have bel11 := bel10.trans (bc.mono bel10.size)
          clear kP10 kQ10 bel10 bc
          generalize wc = W11 at *
          obtain ⟨q1, q2, q3⟩ := kP11
          obtain ⟨q4, q5, q6⟩ := kQ11
          go_wp2_with fail
          rcases same with ⟨z1, z2, z3⟩ | ⟨z1, z2, z3⟩ | ⟨z1, z2, z3⟩
          all_goals
            replace z1 := z1.out
            replace z2 := z2.out
            replace z3 := z3.out
            refine wp_region_held_drew (S := (fun w' => Below W11.heap.size W11 w' ∧ w'.cell? ⟨nP, 0, none⟩ = some (.int .i64 (hiW P)) ∧ w'.cell? ⟨nP, 1, none⟩ = some (.int .u64 (loW P)) ∧ w'.cell? ⟨nQ, 0, none⟩ = some (.int .i64 (hiW Q)) ∧ w'.cell? ⟨nQ, 1, none⟩ = some (.int .u64 (loW Q)))) (by kernel_rfl) ?_ (fun hHeld => ?_)
            · exact ⟨(Below.refl _ _).drew, q2, q3, q5, q6⟩
            refine wpAnyH_take (i := 0) (v := ?_) rfl (by kernel_rfl) (by kernel_rfl) (by kernel_rfl) (fun _ _ _ h => h) (Or.inl ⟨by rfl, ?_⟩) (by assumption) ?_
            rotate_left
            · (intro wq hSq; (try dsimp only at hSq); go_simp <;> with_reducible rfl)
            try simp only [Act.put, List.setIfInBounds_toArray, List.set_cons_zero, List.set_cons_succ, List.getElem_toArray, List.getElem_cons_zero, List.getElem_cons_succ]
            refine wpAnyH_take (i := 1) (v := ?_) rfl (by kernel_rfl) (by kernel_rfl) (by kernel_rfl) (fun _ _ _ h => h) (Or.inl ⟨by rfl, ?_⟩) (by assumption) ?_
            rotate_left
            · (intro wq hSq; (try dsimp only at hSq); go_simp <;> with_reducible rfl)
            try simp only [Act.put, List.setIfInBounds_toArray, List.set_cons_zero, List.set_cons_succ, List.getElem_toArray, List.getElem_cons_zero, List.getElem_cons_succ]
            refine wpAnyH_take (i := 2) (v := ?_) rfl (by kernel_rfl) (by kernel_rfl) (by kernel_rfl) (fun _ _ _ h => h) (Or.inl ⟨by rfl, ?_⟩) (by assumption) ?_
            rotate_left
            · (intro wq hSq; (try dsimp only at hSq); go_simp <;> with_reducible rfl)
            try simp only [Act.put, List.setIfInBounds_toArray, List.set_cons_zero, List.set_cons_succ, List.getElem_toArray, List.getElem_cons_zero, List.getElem_cons_succ]
            refine wpAnyH_take (i := 3) (v := ?_) rfl (by kernel_rfl) (by kernel_rfl) (by kernel_rfl) (fun _ _ _ h => h) (Or.inl ⟨by rfl, ?_⟩) (by assumption) ?_
            rotate_left
            · (intro wq hSq; (try dsimp only at hSq); go_simp <;> with_reducible rfl)
            try simp only [Act.put, List.setIfInBounds_toArray, List.set_cons_zero, List.set_cons_succ, List.getElem_toArray, List.getElem_cons_zero, List.getElem_cons_succ]
            refine wpAnyH_take (i := 4) (v := ?_) rfl (by kernel_rfl) (by kernel_rfl) (by kernel_rfl) (fun _ _ _ h => h) (Or.inl ⟨by rfl, ?_⟩) (by assumption) ?_
            rotate_left
            · (intro wq hSq; (try dsimp only at hSq); go_simp <;> with_reducible rfl)
            try simp only [Act.put, List.setIfInBounds_toArray, List.set_cons_zero, List.set_cons_succ, List.getElem_toArray, List.getElem_cons_zero, List.getElem_cons_succ]
            refine wpAnyH_take (i := 5) (v := ?_) rfl (by kernel_rfl) (by kernel_rfl) (by kernel_rfl) (fun _ _ _ h => h) (Or.inl ⟨by rfl, ?_⟩) (by assumption) ?_
            rotate_left
            · (intro wq hSq; (try dsimp only at hSq); go_simp <;> with_reducible rfl)
            try simp only [Act.put, List.setIfInBounds_toArray, List.set_cons_zero, List.set_cons_succ, List.getElem_toArray, List.getElem_cons_zero, List.getElem_cons_succ]
            refine wpAnyH_take (i := 6) (v := ?_) rfl (by kernel_rfl) (by kernel_rfl) (by kernel_rfl) (fun _ _ _ h => h) (Or.inl ⟨by rfl, ?_⟩) (by assumption) ?_
            rotate_left
            · (intro wq hSq; (try dsimp only at hSq); go_simp <;> with_reducible rfl)
            try simp only [Act.put, List.setIfInBounds_toArray, List.set_cons_zero, List.set_cons_succ, List.getElem_toArray, List.getElem_cons_zero, List.getElem_cons_succ]
            refine wpAnyH_take (i := 7) (v := undef) rfl (by kernel_rfl) (by kernel_rfl) (by kernel_rfl) (fun _ _ _ h => h) (Or.inr ⟨by rfl, rfl⟩) (by assumption) ?_
            try simp only [Act.put, List.setIfInBounds_toArray, List.set_cons_zero, List.set_cons_succ, List.getElem_toArray, List.getElem_cons_zero, List.getElem_cons_succ]
            refine wpAnyH_take (i := 8) (v := undef) rfl (by kernel_rfl) (by kernel_rfl) (by kernel_rfl) (fun _ _ _ h => h) (Or.inr ⟨by rfl, rfl⟩) (by assumption) ?_
            try simp only [Act.put, List.setIfInBounds_toArray, List.set_cons_zero, List.set_cons_succ, List.getElem_toArray, List.getElem_cons_zero, List.getElem_cons_succ]
            refine wpAnyH_take (i := 9) (v := undef) rfl (by kernel_rfl) (by kernel_rfl) (by kernel_rfl) (fun _ _ _ h => h) (Or.inr ⟨by rfl, rfl⟩) (by assumption) ?_
            try simp only [Act.put, List.setIfInBounds_toArray, List.set_cons_zero, List.set_cons_succ, List.getElem_toArray, List.getElem_cons_zero, List.getElem_cons_succ]
            refine wpAnyH_take (i := 10) (v := undef) rfl (by kernel_rfl) (by kernel_rfl) (by kernel_rfl) (fun _ _ _ h => h) (Or.inr ⟨by rfl, rfl⟩) (by assumption) ?_
            try simp only [Act.put, List.setIfInBounds_toArray, List.set_cons_zero, List.set_cons_succ, List.getElem_toArray, List.getElem_cons_zero, List.getElem_cons_succ]
            refine wpAnyH_take (i := 11) (v := ?_) rfl (by kernel_rfl) (by kernel_rfl) (by kernel_rfl) (fun _ _ _ h => h) (Or.inl ⟨by rfl, ?_⟩) (by assumption) ?_
            rotate_left
            · (intro wq hSq; (try dsimp only at hSq); go_simp <;> with_reducible rfl)
            try simp only [Act.put, List.setIfInBounds_toArray, List.set_cons_zero, List.set_cons_succ, List.getElem_toArray, List.getElem_cons_zero, List.getElem_cons_succ]
            refine wpAnyH_take (i := 12) (v := ?_) rfl (by kernel_rfl) (by kernel_rfl) (by kernel_rfl) (fun _ _ _ h => h) (Or.inl ⟨by rfl, ?_⟩) (by assumption) ?_
            rotate_left
            · (intro wq hSq; (try dsimp only at hSq); go_simp <;> with_reducible rfl)
            try simp only [Act.put, List.setIfInBounds_toArray, List.set_cons_zero, List.set_cons_succ, List.getElem_toArray, List.getElem_cons_zero, List.getElem_cons_succ]
            refine wpAnyH_take (i := 13) (v := ?_) rfl (by kernel_rfl) (by kernel_rfl) (by kernel_rfl) (fun _ _ _ h => h) (Or.inl ⟨by rfl, ?_⟩) (by assumption) ?_
            rotate_left
            · (intro wq hSq; (try dsimp only at hSq); go_simp <;> with_reducible rfl)
            try simp only [Act.put, List.setIfInBounds_toArray, List.set_cons_zero, List.set_cons_succ, List.getElem_toArray, List.getElem_cons_zero, List.getElem_cons_succ]
            refine wpAnyH_take (i := 14) (v := ?_) rfl (by kernel_rfl) (by kernel_rfl) (by kernel_rfl) (fun _ _ _ h => h) (Or.inl ⟨by rfl, ?_⟩) (by assumption) ?_
            rotate_left
            · (intro wq hSq; (try dsimp only at hSq); go_simp <;> with_reducible rfl)
            try simp only [Act.put, List.setIfInBounds_toArray, List.set_cons_zero, List.set_cons_succ, List.getElem_toArray, List.getElem_cons_zero, List.getElem_cons_succ]
            refine wpAnyH_take (i := 15) (v := ?_) rfl (by kernel_rfl) (by kernel_rfl) (by kernel_rfl) (fun _ _ _ h => h) (Or.inl ⟨by rfl, ?_⟩) (by assumption) ?_
            rotate_left
            · (intro wq hSq; (try dsimp only at hSq); go_simp <;> with_reducible rfl)
            try simp only [Act.put, List.setIfInBounds_toArray, List.set_cons_zero, List.set_cons_succ, List.getElem_toArray, List.getElem_cons_zero, List.getElem_cons_succ]
            refine wpAnyH_take (i := 16) (v := ?_) rfl (by kernel_rfl) (by kernel_rfl) (by kernel_rfl) (fun _ _ _ h => h) (Or.inl ⟨by rfl, ?_⟩) (by assumption) ?_
            rotate_left
            · (intro wq hSq; (try dsimp only at hSq); go_simp <;> with_reducible rfl)
            try simp only [Act.put, List.setIfInBounds_toArray, List.set_cons_zero, List.set_cons_succ, List.getElem_toArray, List.getElem_cons_zero, List.getElem_cons_succ]
            refine wpAnyH_take (i := 17) (v := ?_) rfl (by kernel_rfl) (by kernel_rfl) (by kernel_rfl) (fun _ _ _ h => h) (Or.inl ⟨by rfl, ?_⟩) (by assumption) ?_
            rotate_left
            · (intro wq hSq; (try dsimp only at hSq); go_simp <;> with_reducible rfl)
            try simp only [Act.put, List.setIfInBounds_toArray, List.set_cons_zero, List.set_cons_succ, List.getElem_toArray, List.getElem_cons_zero, List.getElem_cons_succ]
            refine wpAnyH_take (i := 18) (v := ?_) rfl (by kernel_rfl) (by kernel_rfl) (by kernel_rfl) (fun _ _ _ h => h) (Or.inl ⟨by rfl, ?_⟩) (by assumption) ?_
            rotate_left
            · (intro wq hSq; (try dsimp only at hSq); go_simp <;> with_reducible rfl)
            try simp only [Act.put, List.setIfInBounds_toArray, List.set_cons_zero, List.set_cons_succ, List.getElem_toArray, List.getElem_cons_zero, List.getElem_cons_succ]
            refine wpAnyH_take (i := 19) (v := ?_) rfl (by kernel_rfl) (by kernel_rfl) (by kernel_rfl) (fun _ _ _ h => h) (Or.inl ⟨by rfl, ?_⟩) (by assumption) ?_
            rotate_left
            · (intro wq hSq; (try dsimp only at hSq); go_simp <;> with_reducible rfl)
            try simp only [Act.put, List.setIfInBounds_toArray, List.set_cons_zero, List.set_cons_succ, List.getElem_toArray, List.getElem_cons_zero, List.getElem_cons_succ]
            refine wpAnyH_take (i := 20) (v := ?_) rfl (by kernel_rfl) (by kernel_rfl) (by kernel_rfl) (fun _ _ _ h => h) (Or.inl ⟨by rfl, ?_⟩) (by assumption) ?_
            rotate_left
            · (intro wq hSq; (try dsimp only at hSq); go_simp <;> with_reducible rfl)
            try simp only [Act.put, List.setIfInBounds_toArray, List.set_cons_zero, List.set_cons_succ, List.getElem_toArray, List.getElem_cons_zero, List.getElem_cons_succ]
            refine wpAnyH_take (i := 21) (v := ?_) rfl (by kernel_rfl) (by kernel_rfl) (by kernel_rfl) (fun _ _ _ h => h) (Or.inl ⟨by rfl, ?_⟩) (by assumption) ?_
            rotate_left
            · (intro wq hSq; (try dsimp only at hSq); go_simp <;> with_reducible rfl)
            try simp only [Act.put, List.setIfInBounds_toArray, List.set_cons_zero, List.set_cons_succ, List.getElem_toArray, List.getElem_cons_zero, List.getElem_cons_succ]
            refine wpAnyH_take (i := 22) (v := ?_) rfl (by kernel_rfl) (by kernel_rfl) (by kernel_rfl) (fun _ _ _ h => h) (Or.inl ⟨by rfl, ?_⟩) (by assumption) ?_
            rotate_left
            · (intro wq hSq; (try dsimp only at hSq); go_simp <;> with_reducible rfl)
            try simp only [Act.put, List.setIfInBounds_toArray, List.set_cons_zero, List.set_cons_succ, List.getElem_toArray, List.getElem_cons_zero, List.getElem_cons_succ]
            refine wpAnyH_take (i := 25) (v := ?_) rfl (by kernel_rfl) (by kernel_rfl) (by kernel_rfl) (fun _ _ _ h => h) (Or.inl ⟨by rfl, ?_⟩) (by assumption) ?_
            rotate_left
            · (intro wq hSq; (try dsimp only at hSq); go_simp <;> with_reducible rfl)
            try simp only [Act.put, List.setIfInBounds_toArray, List.set_cons_zero, List.set_cons_succ, List.getElem_toArray, List.getElem_cons_zero, List.getElem_cons_succ]
            refine wpAnyH_take (i := 26) (v := ?_) rfl (by kernel_rfl) (by kernel_rfl) (by kernel_rfl) (fun _ _ _ h => h) (Or.inl ⟨by rfl, ?_⟩) (by assumption) ?_
            rotate_left
            · (intro wq hSq; (try dsimp only at hSq); go_simp <;> with_reducible rfl)
            try simp only [Act.put, List.setIfInBounds_toArray, List.set_cons_zero, List.set_cons_succ, List.getElem_toArray, List.getElem_cons_zero, List.getElem_cons_succ]
            refine wpAnyH_take (i := 27) (v := ?_) rfl (by kernel_rfl) (by kernel_rfl) (by kernel_rfl) (fun _ _ _ h => h) (Or.inl ⟨by rfl, ?_⟩) (by assumption) ?_
            rotate_left
            · (intro wq hSq; (try dsimp only at hSq); go_simp <;> with_reducible rfl)
            try simp only [Act.put, List.setIfInBounds_toArray, List.set_cons_zero, List.set_cons_succ, List.getElem_toArray, List.getElem_cons_zero, List.getElem_cons_succ]
            refine wpAnyH_ready (rs := [23]) (by kernel_rfl) (by simp) ?_
            refine AllReadyH.cons rfl (fun K hK => ?_) AllReadyH.nil
            go_simp
            go_at_call 20; refine (cmp_any P Q hP hQ _).mono ?_; rintro e w' ⟨rfl, hbb⟩
            refine hK.out _ _ ?_ (fun hHeld => ?_)
            · exact keepS2 hbb (by assumption) q1 q4
            clear hK K
            try simp only [Act.put, List.setIfInBounds_toArray, List.set_cons_zero, List.set_cons_succ, List.getElem_toArray, List.getElem_cons_zero, List.getElem_cons_succ]
            refine wpAnyH_take (i := 24) (v := ?_) rfl (by kernel_rfl) (by kernel_rfl) (by kernel_rfl) (fun _ _ _ h => h) (Or.inl ⟨by rfl, ?_⟩) (by assumption) ?_
            rotate_left
            · (intro wq hSq; (try dsimp only at hSq); go_simp <;> with_reducible rfl)
            try simp only [Act.put, List.setIfInBounds_toArray, List.set_cons_zero, List.set_cons_succ, List.getElem_toArray, List.getElem_cons_zero, List.getElem_cons_succ]
            refine wpAnyH_take (i := 28) (v := ?_) rfl (by kernel_rfl) (by kernel_rfl) (by kernel_rfl) (fun _ _ _ h => h) (Or.inl ⟨by rfl, ?_⟩) (by assumption) ?_
            rotate_left
            · (intro wq hSq; (try dsimp only at hSq); go_simp <;> with_reducible rfl)
            try simp only [Act.put, List.setIfInBounds_toArray, List.set_cons_zero, List.set_cons_succ, List.getElem_toArray, List.getElem_cons_zero, List.getElem_cons_succ]
            refine wpAnyH_take (i := 29) (v := ?_) rfl (by kernel_rfl) (by kernel_rfl) (by kernel_rfl) (fun _ _ _ h => h) (Or.inl ⟨by rfl, ?_⟩) (by assumption) ?_
            rotate_left
            · (intro wq hSq; (try dsimp only at hSq); go_simp <;> with_reducible rfl)
            try simp only [Act.put, List.setIfInBounds_toArray, List.set_cons_zero, List.set_cons_succ, List.getElem_toArray, List.getElem_cons_zero, List.getElem_cons_succ]
            refine wpAnyH_take (i := 30) (v := ?_) rfl (by kernel_rfl) (by kernel_rfl) (by kernel_rfl) (fun _ _ _ h => h) (Or.inl ⟨by rfl, ?_⟩) (by assumption) ?_
            rotate_left
            · (intro wq hSq; (try dsimp only at hSq); go_simp <;> with_reducible rfl)
            try simp only [Act.put, List.setIfInBounds_toArray, List.set_cons_zero, List.set_cons_succ, List.getElem_toArray, List.getElem_cons_zero, List.getElem_cons_succ]
            refine wpAnyH_ready (rs := [31]) (by kernel_rfl) (by simp) ?_
            refine AllReadyH.cons rfl (fun K hK => ?_) AllReadyH.nil
            go_simp
            go_at_call 3; refine (runs_any _).mono ?_; rintro e w' ⟨rfl, hbb⟩
            refine hK.out _ _ ?_ (fun hHeld => ?_)
            · exact keepS2 hbb (by assumption) q1 q4
            clear hK K
            try simp only [Act.put, List.setIfInBounds_toArray, List.set_cons_zero, List.set_cons_succ, List.getElem_toArray, List.getElem_cons_zero, List.getElem_cons_succ]
            refine wpAnyH_take (i := 32) (v := ?_) rfl (by kernel_rfl) (by kernel_rfl) (by kernel_rfl) (fun _ _ _ h => h) (Or.inl ⟨by rfl, ?_⟩) (by assumption) ?_
            rotate_left
            · (intro wq hSq; (try dsimp only at hSq); go_simp <;> with_reducible rfl)
            try simp only [Act.put, List.setIfInBounds_toArray, List.set_cons_zero, List.set_cons_succ, List.getElem_toArray, List.getElem_cons_zero, List.getElem_cons_succ]
            refine wpAnyH_take (i := 33) (v := ?_) rfl (by kernel_rfl) (by kernel_rfl) (by kernel_rfl) (fun _ _ _ h => h) (Or.inl ⟨by rfl, ?_⟩) (by assumption) ?_
            rotate_left
            · (intro wq hSq; (try dsimp only at hSq); go_simp <;> with_reducible rfl)
            try simp only [Act.put, List.setIfInBounds_toArray, List.set_cons_zero, List.set_cons_succ, List.getElem_toArray, List.getElem_cons_zero, List.getElem_cons_succ]
            refine wpAnyH_done (by kernel_rfl) ?_ _
            obtain ⟨bW, -, -, -, -⟩ := ‹Below W11.heap.size W11 _ ∧ _›
            go_wp2
            go_ret
            exact ⟨rfl, bel11.trans (bW.mono bel11.size)⟩
end Go.Proofs.Ytnjegjmcfldpnaa
