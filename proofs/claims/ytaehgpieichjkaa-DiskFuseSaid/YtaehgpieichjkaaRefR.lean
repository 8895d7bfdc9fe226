/-
  The document's own disk: Read.
-/
import Derived.Test.YtaehgpieichjkaaRefW
import Derived.LoopN
namespace Go.Proofs.Ytaehgpieichjkaa
set_option linter.unusedVariables false
set_option linter.unusedSimpArgs false
open Go.RowKit

theorem lastFor_none (i : Nat) (l : List (Nat × List Int)) : (∀ j, j < l.length → (l.getD j (0, [])).1 ≠ i) → lastFor l i = none := by
  refine snoc_ind (P := fun l => (∀ j, j < l.length → (l.getD j (0, [])).1 ≠ i) → lastFor l i = none) (fun _ => rfl) ?_ l
  intro l p ih h
  rw [lastFor_snoc]
  have h1 := h l.length (by simp)
  rw [getD_snoc _ _ _ _ (by simp), if_neg (by omega)] at h1
  rw [if_neg h1]
  refine ih (fun j hj => ?_)
  have h2 := h j (by simp; omega)
  rw [getD_snoc _ _ _ _ (by simp; omega), if_pos hj] at h2
  exact h2
theorem lastFor_at (i : Nat) (l : List (Nat × List Int)) : ∀ k, k < l.length → (l.getD k (0, [])).1 = i → (∀ j, k < j → j < l.length → (l.getD j (0, [])).1 ≠ i) → lastFor l i = some (l.getD k (0, [])).2 := by
  refine snoc_ind (P := fun l => ∀ k, k < l.length → (l.getD k (0, [])).1 = i → (∀ j, k < j → j < l.length → (l.getD j (0, [])).1 ≠ i) → lastFor l i = some (l.getD k (0, [])).2) (fun k hk => by simp at hk) ?_ l
  intro l p ih k hk h1 h2
  rw [lastFor_snoc]
  by_cases hkl : k < l.length
  · have h3 := h2 l.length (by omega) (by simp)
    rw [getD_snoc _ _ _ _ (by simp), if_neg (by omega)] at h3
    rw [if_neg h3]
    rw [getD_snoc _ _ _ _ hk, if_pos hkl] at h1 ⊢
    refine ih k hkl h1 (fun j hj hjl => ?_)
    have h4 := h2 j hj (by simp; omega)
    rw [getD_snoc _ _ _ _ (by simp; omega), if_pos hjl] at h4
    exact h4
  · rw [getD_snoc _ _ _ _ hk, if_neg hkl] at h1 ⊢
    rw [if_pos h1]
theorem getD_map1 (l : List (Nat × List Int)) (k : Nat) (h : k < l.length) : (l.map (·.1)).getD k 0 = (l.getD k (0, [])).1 := by
  rw [List.getD_eq_getElem?_getD, List.getElem?_map, List.getElem?_eq_getElem h, List.getD_eq_getElem?_getD, List.getElem?_eq_getElem h]; rfl
theorem getD_at {α : Type} (l : List α) (k : Nat) (d : α) (h : k < l.length) : l[k]? = some (l.getD k d) := by
  rw [List.getElem?_eq_getElem h, List.getD_eq_getElem?_getD, List.getElem?_eq_getElem h]; rfl
/-- What Read leaves. -/
def RReadL (o : Option (List Int)) (w : World) (e : Ending) (w' : World) : Prop :=
  match o with
  | some xs => ∃ g c, e = .returned (.tuple #[.slice (some ⟨g, 0, none⟩) 128 c, .bool true]) ∧ Own w' w.heap.size g c xs ∧ Below w.heap.size w w'
  | none => e = .returned (.tuple #[.slice none 0 0, .bool false]) ∧ Below w.heap.size w w'

set_option maxRecDepth 100000 in
set_option maxHeartbeats 2000000 in
theorem rread_any (F : Nat → Prop) (r : Nat) (t : Dk) (p : RefP) (i : Nat) (w : World) (h : RefL w F r t p) (hi : i < t.blk.length) (hw : t.wt.length ≤ 1000000) :
    Calls Try.prog 28 #[.pointer (some ⟨r, 0, none⟩), .int .i64 i] w (RReadL (t.read i) w) := by
  have c0 : w.cell? ⟨r, 0, none⟩ = some (.slice p.AB t.blk.length p.cB) := h.st.cell 0
  have c1 : w.cell? ⟨r, 1, none⟩ = some (.slice p.AD t.blk.length p.cD) := h.st.cell 1
  have c2 : w.cell? ⟨r, 2, none⟩ = some (.slice p.AA t.wt.length p.cA) := h.st.cell 2
  have c3 : w.cell? ⟨r, 3, none⟩ = some (.slice p.AW t.wt.length p.cW) := h.st.cell 3
  have c5 : w.cell? ⟨r, 5, none⟩ = some (.bool t.off) := h.st.cell 5
  have hrl : r < w.heap.size := h.st.lt
  have l2 := h.ok.n2
  have d1 : decide ((i : Int) < 0) = false := by simp
  have d2 : decide (t.blk.length ≤ i) = false := by rw [decide_eq_false_iff_not]; omega
  have H := Lib.hid h
  clear h
  generalize hm : t.blk.length = m at *
  have HM := Lib.hid hm
  clear hm
  generalize hq : t.wt.length = q at *
  have HQ := Lib.hid hq
  clear hq
  go_enter Try.func28, Try.ntmps28
  cases ho : t.off
  · rw [ho] at c5
    have HO := Lib.hid ho
    clear ho
    go_wp2
    go_loop [6] (fun kv => ∃ k : Nat, k ≤ q ∧ kv = .int .i64 ((k : Int) - 1) ∧ ∀ j, k ≤ j → j < q → (t.wt.getD j (0, [])).1 ≠ i) (fun kv => (intOf kv + 1).toNat)
    case atStart => exact ⟨q, Nat.le_refl _, rfl, fun j h1 h2 => by omega⟩
    case round =>
      obtain ⟨k, hk, rfl, hno⟩ := hrel
      have HNO := Lib.hid hno
      clear hno
      rcases k with _ | k
      · have hl : lastFor t.wt i = none := lastFor_none i t.wt (fun j hj => HNO.out j (Nat.zero_le _) (by rw [← HQ.out]; exact hj))
        have HL := Lib.hid hl
        clear hl
        obtain ⟨gd, ed, hgd⟩ := H.out.rD.at (by rw [bvals_len, H.out.ok.nb, HM.out]; omega)
        have yd := (hgd i).2 (by rw [bvals_len, H.out.ok.nb, HM.out]; exact hi)
        rw [bvals_at t.bad i (by rw [H.out.ok.nb, HM.out]; exact hi)] at yd
        rw [ed] at c1
        have i1 : (i : Int) < (m : Int) := by omega
        cases hb : t.bad.getD i false
        · rw [hb] at yd
          have hrd : t.read i = some (t.blk.getD i []) := by unfold Dk.read; rw [HO.out, HL.out, hb]; rfl
          have HRD := Lib.hid hrd
          obtain ⟨gb, eb, hgb⟩ := H.out.rB.at (by rw [H.out.lB, HM.out]; omega)
          have yb := (hgb i).2 (by rw [H.out.lB, HM.out]; exact hi)
          rw [getD_at _ _ undef (by rw [H.out.lB, HM.out]; exact hi)] at yb
          rw [eb] at c0
          obtain ⟨g, c, e1, _, o1, _⟩ := H.out.eB i (by rw [HM.out]; exact hi)
          rw [e1] at yb
          have hx := H.out.ok.blks i (by rw [HM.out]; exact hi)
          have O1 := Lib.hid o1; have HX := Lib.hid hx
          have LX : Hid ((vals (t.blk.getD i [])).length = 128) := Lib.hid (by rw [vals_length]; exact hx.1)
          have gl : gb < w.heap.size := by have := H.out.rB.lt _ eb; exact this
          have gl2 : g < w.heap.size := o1.lt.2
          clear hb hrd e1 o1 hx hgb hgd
          generalize t.blk.getD i [] = xs at *
          go_wp2_with (at_builtin; go_loud (refine app_row _ rfl _ _ 26 5 rfl Try.underlying26 (.int .u8 0) 1 Try.info_byte rfl (by decide) w.heap.size _ 0 0 [] rfl rfl (RowO.empty w _ _ (Nat.le_refl _)) (some ⟨g, 0, none⟩) 128 c _ LX.out rfl (((O1.out.alloc _).reads).src (fun e => by cases e)) (vals_one xs) (by omega) (fun _ e => by cases e) (by simp) ?_))
          intro A7 c7 w7 o7 g7 n7
          obtain ⟨gn, rfl⟩ : ∃ gb, A7 = some ⟨gb, 0, none⟩ := by
            rcases o7.row.parts with ⟨e, _⟩ | ⟨g, cur, e, _⟩
            · exact absurd e n7
            · exact ⟨g, e⟩
          have O7 := Lib.hid (Own.of_row o7 HX.out.2)
          have B7 := Lib.hid (Below.grown (Below.alloc (Below.refl _ w) (Nat.le_refl _) (.cells #[] 5)) g7 (by simp) (own_ge (RowO.empty w 5 w.heap.size (Nat.le_refl _)) (Nat.le_refl _)))
          clear o7 g7 n7
          go_wp2
          go_ret2
          rw [HRD.out]
          exact ⟨gn, c7, rfl, O7.out, B7.out⟩
        · rw [hb] at yd
          have hrd : t.read i = none := by unfold Dk.read; rw [HO.out, HL.out, hb]; rfl
          have HRD := Lib.hid hrd
          clear hrd hb
          go_wp2
          go_ret2
          rw [HRD.out]
          exact ⟨rfl, Below.refl _ _⟩
      · have hkq : k < q := by omega
        obtain ⟨ga, ea, hga⟩ := H.out.rA.at (by rw [ivals_len, List.length_map, HQ.out]; omega)
        have ya := (hga k).2 (by rw [ivals_len, List.length_map, HQ.out]; exact hkq)
        rw [ivals_at _ k (by rw [List.length_map, HQ.out]; exact hkq), getD_map1 _ _ (by rw [HQ.out]; exact hkq)] at ya
        rw [ea] at c2
        have e0 : ((k + 1 : Nat) : Int) - 1 = (k : Int) := by omega
        rw [e0]
        have i1 : (k : Int) < (q : Int) := by omega
        by_cases hit : (t.wt.getD k (0, [])).1 = i
        · have hl := lastFor_at i t.wt k (by rw [HQ.out]; exact hkq) hit (fun j h1 h2 => HNO.out j (by omega) (by rw [← HQ.out]; exact h2))
          have hrd : t.read i = some (t.wt.getD k (0, [])).2 := by unfold Dk.read; rw [HO.out, hl]; rfl
          have HRD := Lib.hid hrd
          rw [hit] at ya
          obtain ⟨gb, eb, hgb⟩ := H.out.rW.at (by rw [H.out.lW, HQ.out]; omega)
          have yb := (hgb k).2 (by rw [H.out.lW, HQ.out]; exact hkq)
          rw [getD_at _ _ undef (by rw [H.out.lW, HQ.out]; exact hkq)] at yb
          rw [eb] at c3
          obtain ⟨g, c, e1, _, o1, hx1⟩ := H.out.eW k (by rw [HQ.out]; exact hkq)
          rw [e1] at yb
          have O1 := Lib.hid o1
          have LX : Hid ((vals (t.wt.getD k (0, [])).2).length = 128) := Lib.hid (by rw [vals_length]; exact hx1)
          have gl : gb < w.heap.size := by have := H.out.rW.lt _ eb; exact this
          have gl2 : g < w.heap.size := o1.lt.2
          clear hrd hl hit e1 o1 hx1 hgb hga
          generalize (t.wt.getD k (0, [])).2 = xs at *
          go_wp2_with (at_builtin; go_loud (refine app_row _ rfl _ _ 26 5 rfl Try.underlying26 (.int .u8 0) 1 Try.info_byte rfl (by decide) w.heap.size _ 0 0 [] rfl rfl (RowO.empty w _ _ (Nat.le_refl _)) (some ⟨g, 0, none⟩) 128 c _ LX.out rfl (((O1.out.alloc _).reads).src (fun e => by cases e)) (vals_one xs) (by omega) (fun _ e => by cases e) (by simp) ?_))
          intro A7 c7 w7 o7 g7 n7
          obtain ⟨gn, rfl⟩ : ∃ gb, A7 = some ⟨gb, 0, none⟩ := by
            rcases o7.row.parts with ⟨e, _⟩ | ⟨g, cur, e, _⟩
            · exact absurd e n7
            · exact ⟨g, e⟩
          have O7 := Lib.hid (Own.of_row o7 O1.out.2)
          have B7 := Lib.hid (Below.grown (Below.alloc (Below.refl _ w) (Nat.le_refl _) (.cells #[] 5)) g7 (by simp) (own_ge (RowO.empty w 5 w.heap.size (Nat.le_refl _)) (Nat.le_refl _)))
          clear o7 g7 n7
          go_wp2
          go_ret2
          rw [HRD.out]
          exact ⟨gn, c7, rfl, O7.out, B7.out⟩
        · have t3 : (((t.wt.getD k (0, [])).1 : Int) == (i : Int)) = false := by simpa using (fun e : ((t.wt.getD k (0, [])).1 : Int) = (i : Int) => hit (by omega))
          have HIT := Lib.hid hit
          clear hit
          generalize hv : (t.wt.getD k (0, [])).1 = v at *
          have HV := Lib.hid hv
          clear hv
          go_wp2
          go_round
          case rel => exact ⟨k, by omega, rfl, fun j h1 h2 => by
            by_cases e : j = k
            · subst e; rw [HV.out]; exact HIT.out
            · exact HNO.out j (by omega) h2⟩
          case measure => simp [intOf]
  · rw [ho] at c5
    have hrd : t.read i = none := by unfold Dk.read; rw [ho]; rfl
    have HRD := Lib.hid hrd
    clear hrd ho
    go_wp2
    go_ret2
    rw [HRD.out]
    exact ⟨rfl, Below.refl _ _⟩
theorem runread_any (F : Nat → Prop) (r : Nat) (t : Dk) (p : RefP) (i : Int) (w : World) (h : RefL w F r t p) (h0 : -9223372036854775808 ≤ i) (h1 : i ≤ 9223372036854775807) (hi : i < 0 ∨ t.blk.length ≤ i) :
    Calls Try.prog 28 #[.pointer (some ⟨r, 0, none⟩), .int .i64 i] w fun e w' => e = .returned (.tuple #[.slice none 0 0, .bool false]) ∧ w' = w := by
  have c0 : w.cell? ⟨r, 0, none⟩ = some (.slice p.AB t.blk.length p.cB) := h.st.cell 0
  have l2 := h.ok.n2
  clear h
  generalize t.blk.length = m at *
  go_enter Try.func28, Try.ntmps28
  by_cases t1 : i < 0
  · have d1 : decide (i < 0) = true := by simpa using t1
    go_wp2
    go_ret2
    exact ⟨rfl, rfl⟩
  · have d1 : decide (i < 0) = false := by simpa using t1
    have d2 : decide ((m : Int) ≤ i) = true := by rw [decide_eq_true_eq]; omega
    go_wp2
    go_ret2
    exact ⟨rfl, rfl⟩
end Go.Proofs.Ytaehgpieichjkaa
