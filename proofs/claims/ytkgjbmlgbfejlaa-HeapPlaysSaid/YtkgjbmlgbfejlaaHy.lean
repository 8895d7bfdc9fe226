/-
  The walk of the statement HeapPlays.
-/
import Derived.Test.YtkgjbmlgbfejlaaHr
import Derived.Deep.DeepCutAuto
import Derived.IntWalk
namespace Go.Proofs.Ytkgjbmlgbfejlaa
set_option linter.unusedVariables false
set_option linter.unusedSimpArgs false
set_option maxRecDepth 100000
open Go.RowKit

/-- A list of asks that came in. -/
def Ask8 (w : World) (A : Option Addr) (len : Nat) (f : Nat → Int × Int) : Prop := ∀ k, k < len → ∃ b o, A = some ⟨b, o, none⟩ ∧ b < w.heap.size ∧ w.cell? ⟨b, o + k * 2, none⟩ = some (.int .i64 (f k).1) ∧ w.cell? ⟨b, o + k * 2 + 1, none⟩ = some (.int .i64 (f k).2)
theorem HI.top_in (bp bd : Nat) (C : List Int) (w0 w : World) (h : HI.In w0 w bp bd C) (hc : C ≠ []) (hs : C.length ≤ 1000) : Calls Try.prog 14 #[.pointer (some ⟨bp, 0, none⟩)] w fun e w' => ∃ x, e = .returned (.tuple #[.int .i64 x, .bool true]) ∧ HI.Least C x ∧ Below w.heap.size w w' := by
  obtain ⟨G, h1, h2, h3⟩ := h
  exact HI.top_any bp bd C G w h1 hc hs
theorem HI.not_in (bp bd : Nat) (w0 w : World) (h : HI.In w0 w bp bd []) : Calls Try.prog 14 #[.pointer (some ⟨bp, 0, none⟩)] w fun e w' => e = .returned (.tuple #[.int .i64 0, .bool false]) ∧ Below w.heap.size w w' := by
  obtain ⟨G, h1, h2, h3⟩ := h
  exact HI.top_none bp bd G w h1
/-- The place of a least one of the first k, or -1. -/
def AtI (xs : List Int) (k : Nat) (a : Int) : Prop := (k = 0 ∧ a = -1) ∨ ∃ (p : Nat) (y : Int), a = (p : Int) ∧ p < k ∧ xs[p]? = some y ∧ ∀ j z, j < k → xs[j]? = some z → y ≤ z
theorem AtI.first {xs : List Int} {y : Int} (h : xs[0]? = some y) : AtI xs 1 0 := Or.inr ⟨0, y, rfl, by omega, h, fun j z hj hz => by
  obtain rfl : j = 0 := by omega
  rw [h] at hz; injection hz with hz; omega⟩
theorem AtI.next {xs : List Int} {k p : Nat} {y x : Int} (hp : p < k) (h : xs[p]? = some y) (hm : ∀ j z, j < k → xs[j]? = some z → y ≤ z) (hx : xs[k]? = some x) : (x < y → AtI xs (k + 1) k) ∧ (¬ x < y → AtI xs (k + 1) p) := by
  refine ⟨fun q => Or.inr ⟨k, x, rfl, by omega, hx, fun j z hj hz => ?_⟩, fun q => Or.inr ⟨p, y, rfl, by omega, h, fun j z hj hz => ?_⟩⟩
  · by_cases e : j = k
    · subst e; rw [hx] at hz; injection hz with hz; omega
    · have := hm j z (by omega) hz; omega
  · by_cases e : j = k
    · subst e; rw [hx] at hz; injection hz with hz; omega
    · exact hm j z (by omega) hz
theorem erase_perm {xs : List Int} {p : Nat} {y : Int} (h : xs[p]? = some y) : xs.Perm (y :: (xs.take p ++ xs.drop (p + 1))) := by
  have e : xs = xs.take p ++ y :: xs.drop (p + 1) := by
    have hp := (List.getElem?_eq_some_iff.1 h).1
    rw [← (List.getElem?_eq_some_iff.1 h).2]
    simp
  exact (List.Perm.of_eq e).trans List.perm_middle
theorem least_at {xs C : List Int} {p : Nat} {x y : Int} (hp : C.Perm xs) (h : xs[p]? = some y) (hm : ∀ j z, j < xs.length → xs[j]? = some z → y ≤ z) (hl : HI.Least C x) : x = y := by
  have h1 : x ≤ y := hl.2 y (hp.symm.subset (List.mem_of_getElem? h))
  obtain ⟨j, hj, e⟩ := List.mem_iff_getElem.1 (hp.subset hl.1)
  have := hm j x hj (by rw [List.getElem?_eq_getElem hj, e])
  omega
/-- So many values onto a row of the call's own, in a drawn region. -/
theorem step_row {w : World} {ops : Array Oper} {o : Oper} {a : Act} {K : Act → World → Prop} {Q : Exit → Act → World → Prop} {E : Prop} (hgd : o.guard = none)
    (s x : Operand) (t e : TypeId) (ho : o.op = .call { callee := .builtin .append, args := #[s, x], argTypes := #[t, t] }) (hu : Try.prog.underlying t = some (.slice e))
    (z : Value) (nb : Nat) (hinf : (Try.prog.info? e).map (fun i => (i.zero, i.size, i.bytes)) = some (some z, 1, nb)) (hzc : z.cells.size = 1) (hnb : nb ≤ 1000)
    (base : Nat) (g0 : Nat) (c k : Nat) (ys : List Value) (hk : ys.length = k) (hs : a.eval s = .slice (some ⟨g0, 0, none⟩) k c) (hown : RowO w base e (some ⟨g0, 0, none⟩) c ys)
    (ad : Addr) (m c' : Nat) (xs : List Value) (hm : xs.length = m) (hx : a.eval x = .slice (some ad) m c') (hsrc : ∀ (j : Nat) (u : Value), xs[j]? = some u → w.cell? (ad.add j) = some u) (h1 : ∀ u, u ∈ xs → u.oneCell' = true) (hl : k + m ≤ 1000000000) (hbase : base ≤ w.heap.size) (r : Nat) (hr : k + m = r)
    (h : ∀ g'' c'' w', RowO w' base e (some ⟨g'', 0, none⟩) c'' (ys ++ xs) → w.grownBy w' (some g0) → K (a.put o.dst (.slice (some ⟨g'', 0, none⟩) r c'')) w') : if Region.wanted o (yielded ops a.tmps) = true then Oper.wp Try.prog o a w K Q else E := by
  subst hk hm
  have hw : Region.wanted o (yielded ops a.tmps) = true := by simp [Region.wanted, hgd]
  obtain ⟨i0, hi, hz0, hz1, hz2⟩ := info_parts hinf
  have hrun : ∃ g'' c'' w', (Builtin.append_ #[t, t] o.type #[.slice (some ⟨g0, 0, none⟩) ys.length c, .slice (some ad) xs.length c']).run Try.prog w = .ok (.slice (some ⟨g'', 0, none⟩) r c'') w' ∧ RowO w' base e (some ⟨g'', 0, none⟩) c'' (ys ++ xs) ∧ w.grownBy w' (some g0) := by
    rcases Nat.eq_zero_or_pos xs.length with h0 | h0
    · obtain rfl : xs = [] := List.eq_nil_of_length_eq_zero h0
      have hcap := hown.row.cap
      have q := run_append_nothing (P := Try.prog) w t t o.type e i0 hu hi (some ⟨g0, 0, none⟩) ys.length c hcap.1 (.slice (some ad) 0 c') (Go.Src.ofSlice w hu ad 0 c' [] (by simp) (fun j u hu => by simp at hu) (fun u hu => by cases hu))
      exact ⟨g0, c, w, by rw [← hr]; exact q, by rw [List.append_nil]; exact hown, World.grownBy.refl _ _⟩
    · obtain ⟨v', w', q1, q2, q3, q4⟩ := run_append_own (P := Try.prog) w base t o.type e i0 z 1 nb hu hi hz0 hz1 hz2 hzc (by decide) _ ys.length ys hown ad xs.length c' xs (by rw [Nat.mul_one]) hsrc h1 (by unfold maxLen; omega) (by have := Nat.mul_le_mul hl hnb; omega) hbase
      obtain ⟨g', cap', hv, _, _⟩ := q2.form (by omega)
      subst hv
      refine ⟨g', cap', w', by rw [← hr]; exact q1, ?_, q3⟩
      unfold RowO
      rw [List.length_append]
      exact q2
  obtain ⟨g'', c'', w', q1, q2, q3⟩ := hrun
  rw [if_pos hw]
  unfold Oper.wp execOp
  simp only [ho, resolve, invoke, builtin, Sem.run_bind, Sem.run_pure, Result.andThen_ok, List.map_toArray, List.map_cons, List.map_nil, hs, hx, q1]
  exact h g'' c'' w' q2 q3
theorem iv_one (xs : List Int) (u : Value) (h : u ∈ iv xs) : u.oneCell' = true := by
  unfold iv at h
  obtain ⟨x, _, rfl⟩ := List.mem_map.1 h
  rfl
set_option maxHeartbeats 4000000 in
theorem hplays_any (A : Option Addr) (len cap : Nat) (f : Nat → Int × Int) (w : World) (hr : Ask8 w A len f) (hl : len ≤ cap) (hc : cap ≤ maxLen) : Calls Try.prog 4 #[.slice A len cap] w fun e w' => e = .returned (.bool true) ∧ Below w.heap.size w w' := by
  have N1 := Lib.hid (HI.new_in 0 w w trivial (Below.refl _ _))
  have R := Lib.hid hr
  unfold maxLen at hc
  clear hr
  go_enter Try.func4, Try.ntmps4
  go_wp2_with fail
  refine N1.out.mono ?_
  rintro e w1 ⟨rfl, in1, b1⟩
  obtain ⟨bp, hbp⟩ : ∃ bp, bp = w.heap.size := ⟨_, rfl⟩
  rw [← hbp] at in1 ⊢
  have I1 := Lib.hid in1
  clear N1 in1 b1 hbp
  go_wp2_with fail
  go_loopw [4, 5] (fun lv iv wr => ∃ (i n : Nat) (xs C : List Int) (A1 : Option Addr) (c1 : Nat), i ≤ 60 ∧ iv = .int .i64 i ∧ lv = .slice A1 n c1 ∧ HI.In w wr bp 0 C ∧ C.Perm xs ∧ xs.length = n ∧ n ≤ i ∧ RowO wr w.heap.size 3 A1 c1 (_root_.Go.Proofs.Ytkgjbmlgbfejlaa.iv xs)) (fun _ iv _ => 60 - (intOf iv).toNat)
  case atStart => exact ⟨0, 0, [], [], none, 0, by omega, rfl, rfl, I1.out, List.Perm.refl _, rfl, Nat.le_refl _, RowO.of (RowA.nil _ _) (fun a ha => by cases ha)⟩
  case round =>
    clear I1
    obtain ⟨i, n, xs, C, A1, c1, hi, rfl, rfl, hin, hp, hn, hni, ho⟩ := hrel
    by_cases hgo : i < len ∧ i < 60
    · obtain ⟨hg1, hg2⟩ := hgo
      have i1 : decide ((i : Int) < (len : Int)) = true := by rw [decide_eq_true_eq]; omega
      have i2 : decide ((i : Int) < 60) = true := by rw [decide_eq_true_eq]; omega
      have i3 : (i : Int) < (len : Int) := by omega
      obtain ⟨b, o, rfl, hbw, z0, z1⟩ := R.out i hg1
      have y0 : wr.cell? ⟨b, o + i * 2, none⟩ = some (.int .i64 (f i).1) := by rw [hin.bel.cell (p := ⟨b, o + i * 2, none⟩) hbw]; exact z0
      have y1 : wr.cell? ⟨b, o + i * 2 + 1, none⟩ = some (.int .i64 (f i).2) := by rw [hin.bel.cell (p := ⟨b, o + i * 2 + 1, none⟩) hbw]; exact z1
      obtain ⟨kd, hkd⟩ : ∃ kd, (f i).1 = kd := ⟨_, rfl⟩
      obtain ⟨X, hX⟩ : ∃ X, (f i).2 = X := ⟨_, rfl⟩
      rw [hkd] at y0; rw [hX] at y1
      obtain ⟨w2, hw2⟩ : ∃ W, W = wr.alloc (.cells #[.int .i64 kd, .int .i64 X] 34) := ⟨_, rfl⟩
      obtain ⟨bq, hbq⟩ : ∃ g, g = wr.heap.size := ⟨_, rfl⟩
      have B2 : Hid (Below wr.heap.size wr w2) := Lib.hid (by rw [hw2]; exact (Below.refl _ _).alloc (Nat.le_refl _) _)
      have Q2 : Hid (Arr w2 bq 34 [.int .i64 kd, .int .i64 X]) := Lib.hid (by rw [hw2, hbq]; exact Arr.new wr _ _)
      have I2 := Lib.hid (hin.older B2.out)
      have O2 := Lib.hid (ho.same (fun a ha => B2.out.block a.block (ho.ge a ha).2))
      have HP := Lib.hid hp; have HN := Lib.hid hn
      clear z0 z1 hkd hX hin hp hn ho
      go_upto_region 9 with fail
      rw [← hw2, ← hbq]
      clear hw2 hbq y0 y1 B2
      go_wp2_with fail
      go_loopw [7, 8, 32] (fun av _ kv w3 => ∃ (k : Nat) (a : Int), k ≤ n ∧ kv = .int .i64 k ∧ av = .int .i64 a ∧ AtI xs k a ∧ Below w2.heap.size w2 w3) (fun _ _ kv _ => n - (intOf kv).toNat)
      case atStart => exact ⟨0, -1, Nat.zero_le _, rfl, rfl, Or.inl ⟨rfl, rfl⟩, Below.refl _ _⟩
      case round =>
        obtain ⟨k, a, hk, rfl, rfl, hat, b3⟩ := hrel
        have B3 := Lib.hid b3
        by_cases hlt : k < n
        · obtain ⟨x, hx⟩ : ∃ x, xs[k]? = some x := ⟨_, List.getElem?_eq_getElem (by rw [HN.out]; exact hlt)⟩
          have k1 : decide ((k : Int) < (n : Int)) = true := by rw [decide_eq_true_eq]; omega
          have k2 : (k : Int) < (n : Int) := by omega
          have IR := Lib.hid ((RowA.irw O2.out.row).below B3.out)
          rcases hat with ⟨rfl, rfl⟩ | ⟨p, y, rfl, hp, hy, hm⟩
          · have A0 := Lib.hid (AtI.first hx)
            have g1 : decide ((-1 : Int) < 0) = true := by decide
            clear b3 hx
            go_wp2_with fail
            go_quiet (fail)
            go_wp2_with fail
            go_roundw
            case rel => first | exact ⟨0 + 1, 0, by omega, by go_num, rfl, A0.out, bstep B3.out (belowN _ _)⟩ | ((repeat apply Exists.intro); exact ⟨⟨0 + 1, 0, by omega, by go_num, rfl, A0.out, bstep B3.out (belowN _ _)⟩, rfl⟩)
            case measure => simp [intOf]; omega
          · have AN := Lib.hid (AtI.next hp hy hm hx)
            obtain ⟨gx, ox, e1, hgx, c0⟩ := IR.out k x hx
            subst e1
            obtain ⟨gy, oy, e2, hgy, c1'⟩ := IR.out p y hy
            injection e2 with e2
            injection e2 with e2 e3
            subst e2 e3
            have g1 : decide ((p : Int) < 0) = false := by rw [decide_eq_false_iff_not]; omega
            have g2 : (p : Int) < (n : Int) := by omega
            have g3 : ¬ ((p : Int) < 0) := by omega
            clear b3 hx hy hm
            by_cases hxy : x < y
            · have q1 : decide (x < y) = true := by rw [decide_eq_true_eq]; exact hxy
              have A1' := Lib.hid (AN.out.1 hxy)
              clear hxy AN
              go_wp2_with fail
              go_quiet (fail)
              go_wp2_with fail
              go_roundw
              case rel => first | exact ⟨k + 1, k, by omega, by go_num, rfl, A1'.out, bstep B3.out (belowN _ _)⟩ | ((repeat apply Exists.intro); exact ⟨⟨k + 1, k, by omega, by go_num, rfl, A1'.out, bstep B3.out (belowN _ _)⟩, rfl⟩)
              case measure => simp [intOf]; omega
            · have q1 : decide (x < y) = false := by rw [decide_eq_false_iff_not]; exact hxy
              have A1' := Lib.hid (AN.out.2 hxy)
              clear hxy AN
              go_wp2_with fail
              go_quiet (fail)
              go_wp2_with fail
              go_roundw
              case rel => first | exact ⟨k + 1, p, by omega, by go_num, rfl, A1'.out, bstep B3.out (belowN _ _)⟩ | ((repeat apply Exists.intro); exact ⟨⟨k + 1, p, by omega, by go_num, rfl, A1'.out, bstep B3.out (belowN _ _)⟩, rfl⟩)
              case measure => simp [intOf]; omega
        · obtain rfl : k = n := by omega
          have k1 : decide ((k : Int) < (k : Int)) = false := by simp
          have I3 := Lib.hid (I2.out.older B3.out)
          have O3 := Lib.hid (O2.out.same (fun a ha => B3.out.block a.block (O2.out.ge a ha).2))
          have Q3 := Lib.hid (Arr.below Q2.out B3.out)
          have AT := Lib.hid hat
          have u0 := Arr.cell Q3.out 0
          clear b3 hat
          go_upto_region 19 with fail
          obtain ⟨w4, hw4⟩ : ∃ w4, w4 = wr := ⟨_, rfl⟩
          rw [← hw4] at I3 O3 Q3 u0 ⊢
          clear hw4 B3 I2 O2 Q2
          by_cases h2 : kd = 2
          · subst h2
            rcases AT.out with ⟨rfl, rfl⟩ | ⟨p, y, rfl, hp, hy, hm⟩
            · have hx0 : xs = [] := List.eq_nil_of_length_eq_zero HN.out
              subst hx0
              have hC0 : C = [] := HP.out.eq_nil
              subst hC0
              have NP := Lib.hid (HI.nop_in bp 0 w w4 I3.out)
              clear AT
              go_wp2_with fail
              refine NP.out.mono ?_
              rintro e w5 ⟨rfl, b5⟩
              have I9 := Lib.hid (I3.out.older b5)
              have O9 := Lib.hid (O3.out.same (fun a ha => b5.block a.block (O3.out.ge a ha).2))
              have P9 : Hid (([] : List Int).Perm []) := Lib.hid (List.Perm.refl _)
              have L9 : Hid (([] : List Int).length = 0) := Lib.hid rfl
              clear b5 NP I3 O3
              go_wp2_with fail
              have LE := Lib.hid (HI.len_in bp 0 ([] : List Int) w _ I9.out)
              have hcl : ([] : List Int).length = 0 := by rw [P9.out.length_eq]; exact L9.out
              rw [hcl] at LE
              clear hcl
              go_wp2_with fail
              refine LE.out.mono ?_
              rintro e w9 ⟨rfl, rfl⟩
              go_wp2_with fail
              go_roundw
              case rel => first | exact ⟨i + 1, 0, [], [], A1, c1, by omega, by go_num, by go_num, I9.out, P9.out, L9.out, by omega, O9.out⟩ | ((repeat apply Exists.intro); exact ⟨⟨i + 1, 0, [], [], A1, c1, by omega, by go_num, by go_num, I9.out, P9.out, L9.out, by omega, O9.out⟩, rfl⟩)
              case measure => simp [intOf]; omega
            · have hne : C ≠ [] := fun e => by have := HP.out.length_eq; rw [e, HN.out] at this; simp at this; omega
              have PO := Lib.hid (HI.pop_in bp 0 C w w4 I3.out hne (by rw [HP.out.length_eq, HN.out]; omega))
              have LA := Lib.hid (fun x hl => least_at (x := x) HP.out hy (by rw [HN.out]; exact hm) hl)
              have HY := Lib.hid hy
              clear AT hy hm
              go_wp2_with fail
              refine PO.out.mono ?_
              rintro e w5 ⟨x, C', rfl, lx, in5, p5, ap5⟩
              obtain rfl : x = y := LA.out x lx
              have I5 := Lib.hid in5
              have O5 : Hid (RowO w5 w.heap.size 3 A1 c1 (_root_.Go.Proofs.Ytkgjbmlgbfejlaa.iv xs)) := Lib.hid (O3.out.same (fun a ha => by
                rcases O3.out.row.parts with ⟨q, _⟩ | ⟨g, cur, q, q2, _⟩
                · rw [q] at ha; cases ha
                · rw [q] at ha; injection ha with ha; subst ha
                  exact ap5.2 g cur _ q2 (by decide) (by decide)))
              have P9 : Hid (C'.Perm (xs.take p ++ xs.drop (p + 1))) := Lib.hid (List.Perm.cons_inv (p5.symm.trans (HP.out.trans (erase_perm HY.out))))
              have L9 : Hid ((xs.take p ++ xs.drop (p + 1)).length = k - 1) := Lib.hid (by rw [List.length_append, List.length_take, List.length_drop, HN.out]; omega)
              have IR5 := Lib.hid (RowA.irw O5.out.row)
              obtain ⟨gy, oy, e2, hgy, cy⟩ := IR5.out p x HY.out
              subst e2
              have hkc : k ≤ c1 := by have := O5.out.row.cap.1; rw [iv_len, HN.out] at this; exact this
              have hcm : c1 ≤ 9223372036854775807 := by have := O5.out.row.cap.2; unfold maxLen at this; omega
              have g1 : decide ((p : Int) ≥ 0) = true := by rw [decide_eq_true_eq]; omega
              have g2 : (p : Int) < (k : Int) := by omega
              have g3 : decide ((0 : Int) ≤ (p : Int)) = true := by rw [decide_eq_true_eq]; omega
              have g4 : (0 : Int) ≤ (p : Int) := by omega
              have xx : (x != x) = false := by simp
              clear in5 p5 ap5 lx LA PO I3 O3 hne
              go_upto_region 24 with fail
              have mw : IntKind.i64.wrap ((p : Int) + 1) = (p : Int) + 1 := IntWalk.i64_in _ (by omega)
              have mt : ((p : Int) + 1).toNat = p + 1 := by omega
              have m0 : (0 : Int) ≤ (p : Int) + 1 := by omega
              have m1 : p ≤ c1 := by omega
              have m2 : p + 1 ≤ k := by omega
              have m3 : (p : Int) + 1 ≤ (k : Int) := by omega
              have BE : Hid (Below w5.heap.size w5 ((w5.alloc (.cells #[] 3)).drew)) := Lib.hid (((Below.refl _ _).alloc (Nat.le_refl _) _).drew)
              have OE : Hid (RowO ((w5.alloc (.cells #[] 3)).drew) w.heap.size 3 (some ⟨w5.heap.size, 0, none⟩) 0 []) := Lib.hid ((RowO.empty w5 3 w.heap.size I5.out.bel.size).same (fun a ha => rfl))
              have I6 := Lib.hid (I5.out.older BE.out)
              have HB : Hid (w.heap.size ≤ ((w5.alloc (.cells #[] 3)).drew).heap.size) := Lib.hid I6.out.bel.size
              have SR : Hid (∀ (w6 : World), w6.heap[gy]? = ((w5.alloc (.cells #[] 3)).drew).heap[gy]? → ∀ (j : Nat) (u : Int), xs[j]? = some u → w6.cell? ⟨gy, oy + j, none⟩ = some (.int .i64 u)) := Lib.hid (fun w6 hw j u hu => by
                obtain ⟨g7, o7, e7, hg7, c7⟩ := IR5.out.below BE.out j u hu
                injection e7 with e7
                injection e7 with e7 e8
                subst e7 e8
                rw [World.cell?_of_block (a := ⟨gy, oy + j, none⟩) hw]
                exact c7)
              have LT : Hid ((_root_.Go.Proofs.Ytkgjbmlgbfejlaa.iv (xs.take p)).length = p) := Lib.hid (by rw [iv_len, List.length_take, HN.out]; omega)
              have LD : Hid ((_root_.Go.Proofs.Ytkgjbmlgbfejlaa.iv (xs.drop (p + 1))).length = k - (p + 1)) := Lib.hid (by rw [iv_len, List.length_drop, HN.out])
              have S1 : Hid (∀ (j : Nat) (u : Value), (_root_.Go.Proofs.Ytkgjbmlgbfejlaa.iv (xs.take p))[j]? = some u → ((w5.alloc (.cells #[] 3)).drew).cell? ((⟨gy, oy, none⟩ : Addr).add j) = some u) := Lib.hid (fun j u hu => by
                rw [Addr.add_mid]
                unfold _root_.Go.Proofs.Ytkgjbmlgbfejlaa.iv at hu
                rw [List.getElem?_map, List.getElem?_take] at hu
                split at hu
                · obtain ⟨v, hv, rfl⟩ := Option.map_eq_some_iff.1 hu
                  exact SR.out _ rfl j v hv
                · cases hu)
              have hgw : gy ≠ w5.heap.size := by omega
              have FIN : Hid (∀ (g6 c6 g7 c7 : Nat) (w6 w7 : World), RowO w6 w.heap.size 3 (some ⟨g6, 0, none⟩) c6 ([] ++ _root_.Go.Proofs.Ytkgjbmlgbfejlaa.iv (xs.take p)) → ((w5.alloc (.cells #[] 3)).drew).grownBy w6 (some w5.heap.size) → RowO w7 w.heap.size 3 (some ⟨g7, 0, none⟩) c7 ([] ++ _root_.Go.Proofs.Ytkgjbmlgbfejlaa.iv (xs.take p) ++ _root_.Go.Proofs.Ytkgjbmlgbfejlaa.iv (xs.drop (p + 1))) → w6.grownBy w7 (some g6) → HI.In w w7 bp 0 C' ∧ RowO w7 w.heap.size 3 (some ⟨g7, 0, none⟩) c7 (_root_.Go.Proofs.Ytkgjbmlgbfejlaa.iv (xs.take p ++ xs.drop (p + 1)))) := Lib.hid (fun g6 c6 g7 c7 w6 w7 q1 q2 q3 q4 => by
                have r1 : HI.In w w6 bp 0 C' := in_grown (k := 0) I6.out OE.out (by decide) (by decide) (by decide) q2
                have r2 : HI.In w w7 bp 0 C' := in_grown (k := p) r1 q1 (by decide) (by decide) (by decide) q4
                refine ⟨r2, ?_⟩
                have e : _root_.Go.Proofs.Ytkgjbmlgbfejlaa.iv (xs.take p ++ xs.drop (p + 1)) = [] ++ _root_.Go.Proofs.Ytkgjbmlgbfejlaa.iv (xs.take p) ++ _root_.Go.Proofs.Ytkgjbmlgbfejlaa.iv (xs.drop (p + 1)) := by
                  unfold _root_.Go.Proofs.Ytkgjbmlgbfejlaa.iv
                  rw [List.map_append]
                  rfl
                rw [e]; exact q3)
              clear I5 O5 IR5 BE cy
              by_cases hcp : c1 = p + 1
              · have ek : k = p + 1 := by omega
                have ec : (c1 = p + 1) = True := by simp [hcp]
                have LD0 : Hid (_root_.Go.Proofs.Ytkgjbmlgbfejlaa.iv (xs.drop (p + 1)) = []) := Lib.hid (List.eq_nil_of_length_eq_zero (by rw [LD.out]; omega))
                clear hcp ek
                go_region_law (first
                  | ((refine step_row (by rfl) _ _ 25 3 (by rfl) Try.underlying25 (.int .i64 0) 8 (by kernel_rfl) rfl (by decide) w.heap.size w5.heap.size 0 0 [] rfl (by rfl) OE.out ⟨gy, oy, none⟩ p c1 _ LT.out (by rfl) S1.out (iv_one _) (by omega) HB.out p (by omega) ?_); intro g6 c6 w6 o6 gr6; have O6 := Lib.hid o6; have GR6 := Lib.hid gr6; clear o6 gr6)
                  | ((refine step_row (by rfl) _ _ 25 3 (by rfl) Try.underlying25 (.int .i64 0) 8 (by kernel_rfl) rfl (by decide) w.heap.size g6 c6 p _ (by rw [List.nil_append]; exact LT.out) (by rfl) O6.out ⟨gy, oy, none⟩ (k - (p + 1)) _ _ LD.out (by rfl) (fun j u hu => by rw [LD0.out] at hu; simp at hu) (iv_one _) (by omega) (Nat.le_trans HB.out GR6.out.size) (k - 1) (by omega) ?_); intro g7 c7 w7 o7 gr7; obtain ⟨i9, o9⟩ := FIN.out _ _ _ _ _ _ O6.out GR6.out o7 gr7; have I9 := Lib.hid i9; have O9 := Lib.hid o9; clear o7 gr7 i9 o9))
                all_goals
                  go_wp2_with fail
                  have LE := Lib.hid (HI.len_in bp 0 C' w _ I9.out)
                  have hcl : C'.length = (k - 1) := by rw [P9.out.length_eq]; exact L9.out
                  rw [hcl] at LE
                  clear hcl
                  go_wp2_with fail
                  refine LE.out.mono ?_
                  rintro e w9 ⟨rfl, rfl⟩
                  go_wp2_with fail
                  go_roundw
                  case rel => first | exact ⟨i + 1, (k - 1), (xs.take p ++ xs.drop (p + 1)), C', (some ⟨g7, 0, none⟩), c7, by omega, by go_num, by go_num, I9.out, P9.out, L9.out, by omega, O9.out⟩ | ((repeat apply Exists.intro); exact ⟨⟨i + 1, (k - 1), (xs.take p ++ xs.drop (p + 1)), C', (some ⟨g7, 0, none⟩), c7, by omega, by go_num, by go_num, I9.out, P9.out, L9.out, by omega, O9.out⟩, rfl⟩)
                  case measure => simp [intOf]; omega
              · have ec : (c1 = p + 1) = False := by simp [hcp]
                clear hcp
                go_region_law (first
                  | ((refine step_row (by rfl) _ _ 25 3 (by rfl) Try.underlying25 (.int .i64 0) 8 (by kernel_rfl) rfl (by decide) w.heap.size w5.heap.size 0 0 [] rfl (by rfl) OE.out ⟨gy, oy, none⟩ p c1 _ LT.out (by rfl) S1.out (iv_one _) (by omega) HB.out p (by omega) ?_); intro g6 c6 w6 o6 gr6; have O6 := Lib.hid o6; have GR6 := Lib.hid gr6; clear o6 gr6)
                  | ((refine step_row (by rfl) _ _ 25 3 (by rfl) Try.underlying25 (.int .i64 0) 8 (by kernel_rfl) rfl (by decide) w.heap.size g6 c6 p _ (by rw [List.nil_append]; exact LT.out) (by rfl) O6.out ⟨gy, oy + (p + 1), none⟩ (k - (p + 1)) _ _ LD.out (by rfl) (fun j u hu => by
                      rw [Addr.add_mid]
                      unfold _root_.Go.Proofs.Ytkgjbmlgbfejlaa.iv at hu
                      rw [List.getElem?_map, List.getElem?_drop] at hu
                      obtain ⟨v, hv, rfl⟩ := Option.map_eq_some_iff.1 hu
                      have q := SR.out w6 (GR6.out.block gy (Nat.lt_trans hgy (by simp)) (fun e => hgw (by injection e))) (p + 1 + j) v hv
                      rw [show oy + (p + 1) + j = oy + (p + 1 + j) by omega]
                      exact q) (iv_one _) (by omega) (Nat.le_trans HB.out GR6.out.size) (k - 1) (by omega) ?_); intro g7 c7 w7 o7 gr7; obtain ⟨i9, o9⟩ := FIN.out _ _ _ _ _ _ O6.out GR6.out o7 gr7; have I9 := Lib.hid i9; have O9 := Lib.hid o9; clear o7 gr7 i9 o9))
                all_goals
                  go_wp2_with fail
                  have LE := Lib.hid (HI.len_in bp 0 C' w _ I9.out)
                  have hcl : C'.length = (k - 1) := by rw [P9.out.length_eq]; exact L9.out
                  rw [hcl] at LE
                  clear hcl
                  go_wp2_with fail
                  refine LE.out.mono ?_
                  rintro e w9 ⟨rfl, rfl⟩
                  go_wp2_with fail
                  go_roundw
                  case rel => first | exact ⟨i + 1, (k - 1), (xs.take p ++ xs.drop (p + 1)), C', (some ⟨g7, 0, none⟩), c7, by omega, by go_num, by go_num, I9.out, P9.out, L9.out, by omega, O9.out⟩ | ((repeat apply Exists.intro); exact ⟨⟨i + 1, (k - 1), (xs.take p ++ xs.drop (p + 1)), C', (some ⟨g7, 0, none⟩), c7, by omega, by go_num, by go_num, I9.out, P9.out, L9.out, by omega, O9.out⟩, rfl⟩)
                  case measure => simp [intOf]; omega
          · by_cases h3 : kd = 3
            · subst h3
              rcases AT.out with ⟨rfl, rfl⟩ | ⟨p, y, rfl, hp, hy, hm⟩
              · have hx0 : xs = [] := List.eq_nil_of_length_eq_zero HN.out
                subst hx0
                have hC0 : C = [] := HP.out.eq_nil
                subst hC0
                have NP := Lib.hid (HI.not_in bp 0 w w4 I3.out)
                clear AT
                go_wp2_with fail
                refine NP.out.mono ?_
                rintro e w5 ⟨rfl, b5⟩
                have I9 := Lib.hid (I3.out.older b5)
                have O9 := Lib.hid (O3.out.same (fun a ha => b5.block a.block (O3.out.ge a ha).2))
                have P9 : Hid (([] : List Int).Perm []) := Lib.hid (List.Perm.refl _)
                have L9 : Hid (([] : List Int).length = 0) := Lib.hid rfl
                clear b5 NP I3 O3
                go_wp2_with fail
                have LE := Lib.hid (HI.len_in bp 0 ([] : List Int) w _ I9.out)
                have hcl : ([] : List Int).length = 0 := by rw [P9.out.length_eq]; exact L9.out
                rw [hcl] at LE
                clear hcl
                go_wp2_with fail
                refine LE.out.mono ?_
                rintro e w9 ⟨rfl, rfl⟩
                go_wp2_with fail
                go_roundw
                case rel => first | exact ⟨i + 1, 0, [], [], A1, c1, by omega, by go_num, by go_num, I9.out, P9.out, L9.out, by omega, O9.out⟩ | ((repeat apply Exists.intro); exact ⟨⟨i + 1, 0, [], [], A1, c1, by omega, by go_num, by go_num, I9.out, P9.out, L9.out, by omega, O9.out⟩, rfl⟩)
                case measure => simp [intOf]; omega
              · have hne : C ≠ [] := fun e => by have := HP.out.length_eq; rw [e, HN.out] at this; simp at this; omega
                have TP := Lib.hid (HI.top_in bp 0 C w w4 I3.out hne (by rw [HP.out.length_eq, HN.out]; omega))
                have LA := Lib.hid (fun x hl => least_at (x := x) HP.out hy (by rw [HN.out]; exact hm) hl)
                have HY := Lib.hid hy
                clear AT hy hm
                go_wp2_with fail
                refine TP.out.mono ?_
                rintro e w5 ⟨x, rfl, lx, b5⟩
                obtain rfl : x = y := LA.out x lx
                have I9 := Lib.hid (I3.out.older b5)
                have O9 := Lib.hid (O3.out.same (fun a ha => b5.block a.block (O3.out.ge a ha).2))
                have P9 := HP
                have L9 := HN
                obtain ⟨gy, oy, e2, hgy, cy⟩ := (RowA.irw O9.out.row) p x HY.out
                subst e2
                have g1 : decide ((p : Int) ≥ 0) = true := by rw [decide_eq_true_eq]; omega
                have g2 : (p : Int) < (k : Int) := by omega
                have g3 : decide ((0 : Int) ≤ (p : Int)) = true := by rw [decide_eq_true_eq]; omega
                have g4 : (0 : Int) ≤ (p : Int) := by omega
                have xx : (x != x) = false := by simp
                clear b5 lx LA TP I3 O3 hne
                go_wp2_with fail
                have LE := Lib.hid (HI.len_in bp 0 C w _ I9.out)
                have hcl : C.length = k := by rw [P9.out.length_eq]; exact L9.out
                rw [hcl] at LE
                clear hcl
                go_wp2_with fail
                refine LE.out.mono ?_
                rintro e w9 ⟨rfl, rfl⟩
                go_wp2_with fail
                go_roundw
                case rel => first | exact ⟨i + 1, k, xs, C, (some ⟨gy, oy, none⟩), c1, by omega, by go_num, by go_num, I9.out, P9.out, L9.out, by omega, O9.out⟩ | ((repeat apply Exists.intro); exact ⟨⟨i + 1, k, xs, C, (some ⟨gy, oy, none⟩), c1, by omega, by go_num, by go_num, I9.out, P9.out, L9.out, by omega, O9.out⟩, rfl⟩)
                case measure => simp [intOf]; omega
            · have hk2 : decide (kd = 2) = false := by rw [decide_eq_false_iff_not]; exact h2
              have hk3 : decide (kd = 3) = false := by rw [decide_eq_false_iff_not]; exact h3
              have hk4 : (kd == 2) = false := by rw [beq_eq_false_iff_ne]; exact h2
              have hk5 : (kd == 3) = false := by rw [beq_eq_false_iff_ne]; exact h3
              have u1 := Arr.cell Q3.out 1
              have PU := Lib.hid (HI.push_in bp 0 C X w w4 I3.out (by rw [HP.out.length_eq, HN.out]; omega))
              clear AT
              go_wp2_with fail
              refine PU.out.mono ?_
              rintro e w5 ⟨rfl, C', in5, p5, ap5⟩
              have I5 := Lib.hid in5
              have P9 : Hid (C'.Perm (xs ++ [X])) := Lib.hid (p5.trans (List.Perm.append_right _ HP.out))
              have L9 : Hid ((xs ++ [X]).length = k + 1) := Lib.hid (by rw [List.length_append, HN.out]; rfl)
              have Q5 := Lib.hid (Arr.same Q3.out (ap5.2 bq _ _ Q3.out (by decide) (by decide)))
              have O5 : Hid (RowO w5 w.heap.size 3 A1 c1 (_root_.Go.Proofs.Ytkgjbmlgbfejlaa.iv xs)) := Lib.hid (O3.out.same (fun a ha => by
                rcases O3.out.row.parts with ⟨q, _⟩ | ⟨g, cur, q, q2, _⟩
                · rw [q] at ha; cases ha
                · rw [q] at ha; injection ha with ha; subst ha
                  exact ap5.2 g cur _ q2 (by decide) (by decide)))
              have v1 := Arr.cell Q5.out 1
              have BA : Hid (Below w5.heap.size w5 (w5.alloc (.cells #[.int .i64 X] 3))) := Lib.hid ((Below.refl _ _).alloc (Nat.le_refl _) _)
              have O6 : Hid (RowO (w5.alloc (.cells #[.int .i64 X] 3)) w.heap.size 3 A1 c1 (_root_.Go.Proofs.Ytkgjbmlgbfejlaa.iv xs)) := Lib.hid (O5.out.same fun a ha => BA.out.block a.block (O5.out.ge a ha).2)
              have I6 := Lib.hid (I5.out.older BA.out)
              have hbase : w.heap.size ≤ (w5.alloc (.cells #[.int .i64 X] 3)).heap.size := I6.out.bel.size
              have TL : Hid ((_root_.Go.Proofs.Ytkgjbmlgbfejlaa.iv xs).length = k) := Lib.hid (by rw [iv_len]; exact HN.out)
              clear in5 p5 ap5 PU I3 O3 Q3 u0 u1
              go_wp2_with (at_builtin; go_loud (refine app_row _ rfl _ _ 25 3 rfl Try.underlying25 (.int .i64 0) 8 (by kernel_rfl) rfl (by decide) w.heap.size A1 c1 k _ TL.out rfl O6.out (some ⟨w5.heap.size, 0, none⟩) 1 1 [.int .i64 X] rfl rfl (Src.one w5 _ _ _ _) (by simp [Value.oneCell']) (by omega) (by simp) hbase ?_))
              intro A2 c2 w7 o7 g7 _
              have O9 : Hid (RowO w7 w.heap.size 3 A2 c2 (_root_.Go.Proofs.Ytkgjbmlgbfejlaa.iv (xs ++ [X]))) := Lib.hid (by
                have e : _root_.Go.Proofs.Ytkgjbmlgbfejlaa.iv (xs ++ [X]) = _root_.Go.Proofs.Ytkgjbmlgbfejlaa.iv xs ++ [.int .i64 X] := by
                  unfold _root_.Go.Proofs.Ytkgjbmlgbfejlaa.iv
                  rw [List.map_append]
                  rfl
                rw [e]; exact o7)
              have I9 : Hid (HI.In w w7 bp 0 C') := Lib.hid (in_grown I6.out O6.out (by decide) (by decide) (by decide) g7)
              clear o7 g7 O5 O6 I5 I6 BA hbase TL Q5 v1
              have LE := Lib.hid (HI.len_in bp 0 C' w _ I9.out)
              have hcl : C'.length = (k + 1) := by rw [P9.out.length_eq]; exact L9.out
              rw [hcl] at LE
              clear hcl
              go_wp2_with fail
              refine LE.out.mono ?_
              rintro e w9 ⟨rfl, rfl⟩
              go_wp2_with fail
              go_roundw
              case rel => first | exact ⟨i + 1, (k + 1), (xs ++ [X]), C', A2, c2, by omega, by go_num, by go_num, I9.out, P9.out, L9.out, by omega, O9.out⟩ | ((repeat apply Exists.intro); exact ⟨⟨i + 1, (k + 1), (xs ++ [X]), C', A2, c2, by omega, by go_num, by go_num, I9.out, P9.out, L9.out, by omega, O9.out⟩, rfl⟩)
              case measure => simp [intOf]; omega
    · have i1 : (decide ((i : Int) < (len : Int)) = false) ∨ (decide ((i : Int) < (len : Int)) = true ∧ i = 60) := by
        by_cases h : i < len
        · exact Or.inr ⟨by rw [decide_eq_true_eq]; omega, by omega⟩
        · exact Or.inl (by rw [decide_eq_false_iff_not]; omega)
      have HRU := Lib.hid (hruns_any wr)
      have IN := Lib.hid hin
      clear hin hp ho
      rcases i1 with i1 | ⟨i1, rfl⟩
      · skip
        go_wp2_with fail
        all_goals
          refine HRU.out.mono ?_
          rintro e w5 ⟨rfl, b5⟩
          have B5 := Lib.hid (bstep IN.out.bel b5)
          clear b5
          go_wp2_with fail
          go_ret
          exact ⟨rfl, B5.out⟩
      · have i2 : decide (((60 : Nat) : Int) < 60) = false := by decide
        have i3 : (60 : Int) < (len : Int) := by rw [decide_eq_true_eq] at i1; omega
        have i4 : decide ((60 : Int) < (len : Int)) = true := by rw [decide_eq_true_eq]; exact i3
        go_wp2_with fail
        all_goals
          refine HRU.out.mono ?_
          rintro e w5 ⟨rfl, b5⟩
          have B5 := Lib.hid (bstep IN.out.bel b5)
          clear b5
          go_wp2_with fail
          go_ret
          exact ⟨rfl, B5.out⟩
end Go.Proofs.Ytkgjbmlgbfejlaa
