/-
  The contract of package catalog's readFiles: each whole file of the bytes, in new memory.
  The contract of package catalog's read: what the bytes say, its files in new memory.
-/
import Derived.Test.YtilmicekpclmbaaZB
import Derived.Test.YtilmicekpclmbaaZn
import Derived.Test.YtilmicekpclmbaaZv
namespace Go.Proofs.Ytilmicekpclmbaa
set_option linter.unusedVariables false
set_option linter.unusedSimpArgs false
set_option maxRecDepth 100000
open Go.RowKit

/-- The first files that bytes say. -/
def unFiles (ys : List Int) (i : Nat) : List Fl := (List.range i).map (fun j => unFl ys (7 * j))
theorem unFiles_len (ys : List Int) (i : Nat) : (unFiles ys i).length = i := by unfold unFiles; rw [List.length_map, List.length_range]
theorem unFiles_snoc (ys : List Int) (i : Nat) : unFiles ys (i + 1) = unFiles ys i ++ [unFl ys (7 * i)] := by
  unfold unFiles
  rw [List.range_succ, List.map_append]
  rfl
theorem num2_bd {ys : List Int} {k : Nat} (h0 : U8 (ys.getD k 0)) (h1 : U8 (ys.getD (k + 1) 0)) : 0 ≤ num2 ys k ∧ num2 ys k ≤ 65535 := by
  unfold U8 at h0 h1; unfold num2; omega
theorem RdB.u8 {w : World} {N : Nat} {A : Option Addr} {ys : List Int} (h : RdB w N A ys) (k : Nat) (hk : k < ys.length) : U8 (ys.getD k 0) := by
  obtain ⟨_, _, _, _, _, hu⟩ := h k hk; exact hu
theorem unFl_ok {w : World} {N : Nat} {A : Option Addr} {ys : List Int} (h : RdB w N A ys) (k : Nat) (hk : k + 7 ≤ ys.length) : (unFl ys k).Ok := by
  have u := fun j hj => h.u8 j hj
  have h0 := u k (by omega)
  have h1 := num2_bd (u (k + 1) (by omega)) (u (k + 1 + 1) (by omega))
  have h2 := num2_bd (u (k + 3) (by omega)) (u (k + 3 + 1) (by omega))
  have h3 := num2_bd (u (k + 5) (by omega)) (u (k + 5 + 1) (by omega))
  unfold U8 at h0
  refine ⟨?_, ?_, ?_, ?_⟩
  · show I64x (ys.getD k 0); exact ⟨by omega, by omega⟩
  · show I64x (num2 ys (k + 1)); exact ⟨by omega, by omega⟩
  · show I64x (num2 ys (k + 3)); exact ⟨by omega, by omega⟩
  · show I64x (num2 ys (k + 5)); exact ⟨by omega, by omega⟩
def sliceN : Value → Nat
  | .slice _ n _ => n
  | _ => 0
set_option maxHeartbeats 4000000 in
theorem rfiles_any (N bb oo m cap : Nat) (ys : List Int) (hl : ys.length = m) (hm : m ≤ 1000) (hmc : m ≤ cap) (hc : 7 * (m / 7) < cap) (hcap : cap ≤ 1000) (w : World) (hr : RdB w N (some ⟨bb, oo, none⟩) ys) (hN : N ≤ w.heap.size) :
    Calls Try.prog 79 #[.slice (some ⟨bb, oo, none⟩) m cap] w fun e w' => ∃ A c', e = .returned (.slice A (m / 7) c') ∧ OwnF w' w.heap.size A (m / 7) c' (unFiles ys (m / 7)) ∧ Below w.heap.size w w' := by
  have HR := Lib.hid hr; have HL := Lib.hid hl
  clear hr hl
  go_enter Try.func79, Try.ntmps79
  go_wp2
  go_loopw [0, 3] (fun bv fv wr => ∃ (i : Nat) (A : Option Addr) (c' : Nat), 7 * i ≤ m ∧ bv = .slice (some ⟨bb, oo + 7 * i, none⟩) (m - 7 * i) (cap - 7 * i) ∧ fv = .slice A i c' ∧ OwnF wr w.heap.size A i c' (unFiles ys i) ∧ Below w.heap.size w wr) (fun bv _ _ => sliceN bv)
  case atStart => exact ⟨0, none, 0, by omega, rfl, rfl, OwnF.nil _ _, Below.refl _ _⟩
  case round =>
    obtain ⟨i, A, c', hi, rfl, rfl, ow, bw⟩ := hrel
    have OW := Lib.hid ow; have BW := Lib.hid bw
    clear ow
    by_cases hlt : 7 * i + 7 ≤ m
    · have i1 : decide (((m - 7 * i : Nat) : Int) ≥ 7) = true := by rw [decide_eq_true_eq]; omega
      have i2 : decide ((7 : Int) ≤ ((m - 7 * i : Nat) : Int)) = true := by rw [decide_eq_true_eq]; omega
      have RI := Lib.hid (HR.out.below (bw.mono hN))
      have hNr : N ≤ wr.heap.size := by have := bw.size; omega
      have hwr := bw.size
      obtain ⟨_, _, e, hbN, hc0, hu0⟩ := RI.out (7 * i) (by rw [HL.out]; omega)
      injection e with e; injection e with e1 e2; subst e1 e2
      obtain ⟨u0, u1⟩ := id hu0
      have OKF := Lib.hid (unFl_ok RI.out (7 * i) (by rw [HL.out]; omega))
      have SN := Lib.hid (unFiles_snoc ys i)
      obtain ⟨f, hf⟩ : ∃ f, unFl ys (7 * i) = f := ⟨_, rfl⟩
      obtain ⟨x, hx⟩ : ∃ x, ys.getD (7 * i) 0 = x := ⟨_, rfl⟩
      rw [hf] at OKF SN
      have e0 : Hid (f.name = x) := Lib.hid (by rw [← hf]; exact hx)
      rw [hx] at hc0 u0 u1
      have HX := Lib.hid hx; have HF := Lib.hid hf
      have vx : IntKind.i64.wrap x = x := IntWalk.i64_in _ (by omega)
      clear hu0 bw hx hf
      go_upto_region 3 with fail
      refine wp_region_held_drew (S := fun w' => RdB w' N (some ⟨bb, oo, none⟩) ys) (by kernel_rfl) RI.out (fun HS => ?_)
      have q0 : (0 : Int) < ((m - 7 * i : Nat) : Int) := by omega
      have q0' : 0 < m - 7 * i := by omega
      have l3' : 3 ≤ cap - 7 * i := by omega
      have l5' : 5 ≤ cap - 7 * i := by omega
      have l7' : 7 ≤ cap - 7 * i := by omega
      have l3 : (3 : Int) ≤ ((cap - 7 * i : Nat) : Int) := by omega
      have l5 : (5 : Int) ≤ ((cap - 7 * i : Nat) : Int) := by omega
      have l7 : (7 : Int) ≤ ((cap - 7 * i : Nat) : Int) := by omega
      have n1 : ¬ cap - 7 * i = 1 := by omega
      have n3 : ¬ cap - 7 * i = 3 := by omega
      have n5 : ¬ cap - 7 * i = 5 := by omega
      have n7 : ¬ cap - 7 * i = 7 := by omega
      refine takeY (i := 0) (d := 7) (v := ?_) rfl rfl (by kernel_rfl) (by kernel_rfl) (by kernel_rfl) (fun _ _ _ h => h) (by rfl) ?_ HS ?_
      rotate_left
      · intro w' hSw
        go_simp
        try with_reducible rfl
      simp only [Act.put, List.setIfInBounds_toArray, List.set_cons_zero, List.set_cons_succ]
      refine takeY (i := 1) (d := 8) (v := ?_) rfl rfl (by kernel_rfl) (by kernel_rfl) (by kernel_rfl) (fun _ _ _ h => h) (by rfl) ?_ HS ?_
      rotate_left
      · intro w' hSw
        go_simp
        try with_reducible rfl
      simp only [Act.put, List.setIfInBounds_toArray, List.set_cons_zero, List.set_cons_succ]
      refine takeY (i := 2) (d := 9) (v := ?_) rfl rfl (by kernel_rfl) (by kernel_rfl) (by kernel_rfl) (fun _ _ _ h => h) (by rfl) ?_ HS ?_
      rotate_left
      · intro w' hSw
        go_simp
        try with_reducible rfl
      simp only [Act.put, List.setIfInBounds_toArray, List.set_cons_zero, List.set_cons_succ]
      refine takeY (i := 3) (d := 10) (v := ?_) rfl rfl (by kernel_rfl) (by kernel_rfl) (by kernel_rfl) (fun _ _ _ h => h) (by rfl) ?_ HS ?_
      rotate_left
      · intro w' hSw
        have hc' : w'.cell? ⟨bb, oo + 7 * i, none⟩ = some (.int .u8 x) := by rw [← HX.out]; obtain ⟨_, _, e, _, hq, _⟩ := hSw (7 * i) (by rw [HL.out]; omega); injection e with e; injection e with e1 e2; subst e1 e2; exact hq
        go_simp
        try with_reducible rfl
      simp only [Act.put, List.setIfInBounds_toArray, List.set_cons_zero, List.set_cons_succ]
      refine takeY (i := 4) (d := 11) (v := ?_) rfl rfl (by kernel_rfl) (by kernel_rfl) (by kernel_rfl) (fun _ _ _ h => h) (by rfl) ?_ HS ?_
      rotate_left
      · intro w' hSw
        go_simp
        try with_reducible rfl
      simp only [Act.put, List.setIfInBounds_toArray, List.set_cons_zero, List.set_cons_succ]
      refine takeY (i := 5) (d := 12) (v := ?_) rfl rfl (by kernel_rfl) (by kernel_rfl) (by kernel_rfl) (fun _ _ _ h => h) (by rfl) ?_ HS ?_
      rotate_left
      · intro w' hSw
        go_simp
        try with_reducible rfl
      simp only [Act.put, List.setIfInBounds_toArray, List.set_cons_zero, List.set_cons_succ]
      refine takeY (i := 6) (d := 13) (v := ?_) rfl rfl (by kernel_rfl) (by kernel_rfl) (by kernel_rfl) (fun _ _ _ h => h) (by rfl) ?_ HS ?_
      rotate_left
      · intro w' hSw
        go_simp
        try with_reducible rfl
      simp only [Act.put, List.setIfInBounds_toArray, List.set_cons_zero, List.set_cons_succ]
      refine takeC (i := 7) (d := 14) (f := 78) (args := #[.slice (some ⟨bb, oo + 7 * i + 1, none⟩) 2 (cap - 7 * i - 1)]) (v := .int .i64 (num2 ys (7 * i + 1))) rfl rfl (by kernel_rfl) (by kernel_rfl) (by kernel_rfl) (fun _ _ _ h => h) (by rfl) ?_ ?_ HS ?_
      · intro w' hSw
        go_simp
        try with_reducible rfl
      · intro w' hSw
        exact num_at2 N bb oo (7 * i + 1) _ ys w' hSw (by rw [HL.out]; omega) _ (by omega)
      simp only [Act.put, List.setIfInBounds_toArray, List.set_cons_zero, List.set_cons_succ]
      refine takeY (i := 8) (d := 15) (v := ?_) rfl rfl (by kernel_rfl) (by kernel_rfl) (by kernel_rfl) (fun _ _ _ h => h) (by rfl) ?_ HS ?_
      rotate_left
      · intro w' hSw
        go_simp
        try with_reducible rfl
      simp only [Act.put, List.setIfInBounds_toArray, List.set_cons_zero, List.set_cons_succ]
      refine takeY (i := 9) (d := 16) (v := ?_) rfl rfl (by kernel_rfl) (by kernel_rfl) (by kernel_rfl) (fun _ _ _ h => h) (by rfl) ?_ HS ?_
      rotate_left
      · intro w' hSw
        go_simp
        try with_reducible rfl
      simp only [Act.put, List.setIfInBounds_toArray, List.set_cons_zero, List.set_cons_succ]
      refine takeC (i := 10) (d := 17) (f := 78) (args := #[.slice (some ⟨bb, oo + 7 * i + 3, none⟩) 2 (cap - 7 * i - 3)]) (v := .int .i64 (num2 ys (7 * i + 3))) rfl rfl (by kernel_rfl) (by kernel_rfl) (by kernel_rfl) (fun _ _ _ h => h) (by rfl) ?_ ?_ HS ?_
      · intro w' hSw
        go_simp
        try with_reducible rfl
      · intro w' hSw
        exact num_at2 N bb oo (7 * i + 3) _ ys w' hSw (by rw [HL.out]; omega) _ (by omega)
      simp only [Act.put, List.setIfInBounds_toArray, List.set_cons_zero, List.set_cons_succ]
      refine takeY (i := 11) (d := 18) (v := ?_) rfl rfl (by kernel_rfl) (by kernel_rfl) (by kernel_rfl) (fun _ _ _ h => h) (by rfl) ?_ HS ?_
      rotate_left
      · intro w' hSw
        go_simp
        try with_reducible rfl
      simp only [Act.put, List.setIfInBounds_toArray, List.set_cons_zero, List.set_cons_succ]
      refine takeY (i := 12) (d := 19) (v := ?_) rfl rfl (by kernel_rfl) (by kernel_rfl) (by kernel_rfl) (fun _ _ _ h => h) (by rfl) ?_ HS ?_
      rotate_left
      · intro w' hSw
        go_simp
        try with_reducible rfl
      simp only [Act.put, List.setIfInBounds_toArray, List.set_cons_zero, List.set_cons_succ]
      refine takeC (i := 13) (d := 20) (f := 78) (args := #[.slice (some ⟨bb, oo + 7 * i + 5, none⟩) 2 (cap - 7 * i - 5)]) (v := .int .i64 (num2 ys (7 * i + 5))) rfl rfl (by kernel_rfl) (by kernel_rfl) (by kernel_rfl) (fun _ _ _ h => h) (by rfl) ?_ ?_ HS ?_
      · intro w' hSw
        go_simp
        try with_reducible rfl
      · intro w' hSw
        exact num_at2 N bb oo (7 * i + 5) _ ys w' hSw (by rw [HL.out]; omega) _ (by omega)
      simp only [Act.put, List.setIfInBounds_toArray, List.set_cons_zero, List.set_cons_succ]
      refine takeY (i := 14) (d := 21) (v := ?_) rfl rfl (by kernel_rfl) (by kernel_rfl) (by kernel_rfl) (fun _ _ _ h => h) (by rfl) ?_ HS ?_
      rotate_left
      · intro w' hSw
        go_simp
        try with_reducible rfl
      simp only [Act.put, List.setIfInBounds_toArray, List.set_cons_zero, List.set_cons_succ]
      refine wpAnyH_ready (rs := [15]) (by kernel_rfl) (by simp) ?_
      refine AllReadyH.cons rfl (fun K hK => ?_) AllReadyH.nil
      go_simp
      obtain ⟨W, hW⟩ : ∃ W, W = (wr.alloc (.cells #[.int .i64 x, .int .i64 (num2 ys (7 * i + 1)), .int .i64 (num2 ys (7 * i + 3)), .int .i64 (num2 ys (7 * i + 5))] 40)).drew := ⟨_, rfl⟩
      rw [← hW]
      have hbW : Below wr.heap.size wr W := by rw [hW]; exact ((Below.refl _ _).alloc (Nat.le_refl _) _).drew
      have OWW := Lib.hid (OW.out.below hbW)
      have FA : Hid (FlAt4 W wr.heap.size 0 f) := Lib.hid (by
        have q : f = ⟨x, num2 ys (7 * i + 1), num2 ys (7 * i + 3), num2 ys (7 * i + 5)⟩ := by rw [← HF.out, ← HX.out]; rfl
        rw [hW, q]
        exact FlAt4.new wr ⟨x, num2 ys (7 * i + 1), num2 ys (7 * i + 3), num2 ys (7 * i + 5)⟩ _ _)
      have BWW := Lib.hid (bstep BW.out hbW)
      have RW := Lib.hid (RI.out.below (hbW.mono hNr))
      have hNW : N ≤ W.heap.size := by have := hbW.size; omega
      have hwW : w.heap.size ≤ W.heap.size := by have := hbW.size; omega
      clear hW hbW OW BW
      refine hK.out _ _ RW.out (fun HS2 => ?_)
      clear hK
      refine wpAnyH_ready (rs := [16]) (by kernel_rfl) (by simp) ?_
      refine AllReadyH.cons rfl (fun K hK => ?_) AllReadyH.nil
      refine step_fl rfl _ _ rfl w.heap.size i c' A (unFiles ys i) rfl OWW.out wr.heap.size 0 1 f rfl FA.out OKF.out (by omega) hwW ?_
      intro g' cap' wz owz fkz
      have hFz : ∀ q, (∃ a, A = some a ∧ q = a.block) → w.heap.size ≤ q := fun q ⟨a, ha, hq⟩ => by rw [hq]; exact (OWW.out.lt a ha).1
      have RZ := Lib.hid (fkz.1.reads RW.out hNW (fun q hq => by have := hFz q hq; omega))
      have BZ := Lib.hid (fkz.1.below hFz BWW.out hwW)
      have OZ : Hid (OwnF wz w.heap.size (some ⟨g', 0, none⟩) (i + 1) cap' (unFiles ys (i + 1))) := Lib.hid (by rw [SN.out]; exact owz)
      refine hK.out _ _ RZ.out (fun HS3 => ?_)
      clear hK owz fkz hFz
      simp only [Act.put, List.setIfInBounds_toArray, List.set_cons_zero, List.set_cons_succ]
      refine wpAnyH_ready (rs := [17]) (by kernel_rfl) (by simp) ?_
      refine AllReadyH.cons rfl (fun K hK => ?_) AllReadyH.nil
      go_simp
      refine hK.out _ _ RZ.out (fun HS4 => ?_)
      clear hK
      refine wpAnyH_done (by kernel_rfl) ?_ _
      go_wp2
      go_roundw
      case rel =>
        refine ⟨i + 1, some ⟨g', 0, none⟩, cap', by omega, ?_, rfl, OZ.out, BZ.out⟩
        have e1 : oo + 7 * i + 7 = oo + 7 * (i + 1) := by omega
        have e2 : m - 7 * i - 7 = m - 7 * (i + 1) := by omega
        have e3 : cap - 7 * i - 7 = cap - 7 * (i + 1) := by omega
        rw [← e1, ← e2, ← e3]
      case measure => simp [sliceN]; omega
    · have i1 : decide (((m - 7 * i : Nat) : Int) ≥ 7) = false := by rw [decide_eq_false_iff_not]; omega
      have i2 : decide ((7 : Int) ≤ ((m - 7 * i : Nat) : Int)) = false := by rw [decide_eq_false_iff_not]; omega
      obtain rfl : i = m / 7 := by omega
      go_wp2
      go_ret
      exact ⟨A, c', rfl, OW.out, BW.out⟩
end Go.Proofs.Ytilmicekpclmbaa
namespace Go.Proofs.Ytilmicekpclmbaa
set_option linter.unusedVariables false
set_option linter.unusedSimpArgs false
set_option maxRecDepth 100000
open Go.RowKit

/-- What bytes say. -/
def rdC (ys : List Int) : Ct := ⟨num4 ys 0, ys.getD 4 0, ys.getD 5 0, ys.getD 6 0 == 1, ⟨num4 ys 9, num4 ys 13, ys.getD 7 0, ys.getD 8 0⟩, unFiles (ys.drop 17) ((ys.length - 17) / 7)⟩
theorem Try.places_ct : (match Try.prog.underlying 37 with | some (.struct fs) => fs.toList.mapM (fun f => (Try.prog.info? f.type).map (fun i => (f.offset, i.size))) | _ => none) = some [(0, 1), (1, 1), (2, 1), (3, 1), (4, 4), (8, 1)] := by kernel_rfl
theorem built_ct (c : Ct) (A : Option Addr) (n k : Nat) : Try.prog.built 37 [(0, .int .i64 c.gen), (1, .int .i64 c.step), (2, .int .i64 c.status), (3, .bool c.ended), (4, .agg #[.int .i64 c.card.frm, .int .i64 c.card.to_, .int .i64 c.card.budget, .int .i64 c.card.fan]), (5, .slice A n k)] = some (ctv c A n k).toArray := by
  have h1 := Try.zero_ct
  have h2 := Try.places_ct
  unfold Program.built
  cases hi : Try.prog.info? 37 with
  | none => rw [hi] at h1; cases h1
  | some it =>
    rw [hi] at h1
    simp at h1
    cases hu : Try.prog.underlying 37 with
    | none => rw [hu] at h2; cases h2
    | some d =>
      rw [hu] at h2
      cases d <;> try (simp at h2; done)
      rename_i fs
      simp only at h2
      simp only [h1.1, h2]
      simp [Instr.fill, Value.cells, ctv, Ct.zero, Cd.zero]
section
variable {ops : Array Oper} {o : Oper} {a : Act} {w : World} {K : Act → World → Prop} {Q : Exit → Act → World → Prop} {E : Prop}
theorem exec_ct {x0 x1 x2 x3 x4 x5 : Operand} (ho : o.op = .build 37 #[(0, x0), (1, x1), (2, x2), (3, x3), (4, x4), (5, x5)]) (c : Ct) (A : Option Addr) (n k : Nat)
    (h0 : a.eval x0 = .int .i64 c.gen) (h1 : a.eval x1 = .int .i64 c.step) (h2 : a.eval x2 = .int .i64 c.status) (h3 : a.eval x3 = .bool c.ended) (h4 : a.eval x4 = .agg #[.int .i64 c.card.frm, .int .i64 c.card.to_, .int .i64 c.card.budget, .int .i64 c.card.fan]) (h5 : a.eval x5 = .slice A n k) :
    (execOp a.eval o).run Try.prog w = .ok (.value (.agg (ctv c A n k).toArray)) w := by
  unfold execOp
  have e : (#[(0, x0), (1, x1), (2, x2), (3, x3), (4, x4), (5, x5)] : Array (Nat × Operand)).map (fun x => (x.1, a.eval x.2)) = #[(0, .int .i64 c.gen), (1, .int .i64 c.step), (2, .int .i64 c.status), (3, .bool c.ended), (4, .agg #[.int .i64 c.card.frm, .int .i64 c.card.to_, .int .i64 c.card.budget, .int .i64 c.card.fan]), (5, .slice A n k)] := by simp [h0, h1, h2, h3, h4, h5]
  simp only [ho, e, run_build w 37 _ _ (built_ct c A n k), Sem.run_bind, Sem.run_pure, Result.andThen_ok]
theorem step_store_ct (hgd : o.guard = none) (x y : Operand) (ho : o.op = .store 37 x y) (b : Nat) (c0 c : Ct) (A0 A : Option Addr) (n0 n k0 k : Nat) (h0 : CtAt w b c0 A0 n0 k0) (hx : a.eval x = .pointer (some ⟨b, 0, none⟩)) (hy : a.eval y = .agg (ctv c A n k).toArray)
    (h : ∀ w1, CtAt w1 b c A n k → Keep (· = b) w w1 → w1.heap.size = w.heap.size → K (a.put o.dst undef) w1) : if Region.wanted o (yielded ops a.tmps) = true then Oper.wp Try.prog o a w K Q else E := by
  have hw : Region.wanted o (yielded ops a.tmps) = true := by unfold Region.wanted; rw [hgd]
  rw [if_pos hw]
  unfold Oper.wp execOp
  simp only [ho, hx, hy, Instr.storeAt, Instr.sureAddr, Sem.run_bind, Sem.run_pure, Result.andThen_ok, store_ct_run h0]
  exact h _ (setRow_heap w b _ _ _ _ h0) (keep_setRow w b _) (by simp [World.setRow])
end
set_option maxHeartbeats 4000000 in
theorem rdcat_any (N bb oo m : Nat) (ys : List Int) (hl : ys.length = m) (hm0 : 17 ≤ m) (hm : m ≤ 116) (w : World) (hr : RdB w N (some ⟨bb, oo, none⟩) ys) (hN : N ≤ w.heap.size) :
    Calls Try.prog 67 #[.slice (some ⟨bb, oo, none⟩) m 116] w fun e w' => ∃ A c', e = .returned (.agg (ctv (rdC ys) A ((m - 17) / 7) c').toArray) ∧ OwnF w' w.heap.size A ((m - 17) / 7) c' (rdC ys).files ∧ Below w.heap.size w w' := by
  have HR := Lib.hid hr; have HL := Lib.hid hl
  clear hr hl
  go_enter Try.func67, Try.ntmps67
  go_wp2_with (with_reducible refine alloc_ct rfl rfl ?_)
  intro w1 l1 b1 s1
  obtain ⟨r, hr⟩ : ∃ r, r = w.heap.size := ⟨_, rfl⟩
  rw [← hr] at l1 ⊢
  have RI := Lib.hid (HR.out.below (b1.mono hN))
  have Z1 := Lib.hid l1; have B1 := Lib.hid b1
  have hrw : w.heap.size ≤ r := by omega
  have hNr : N ≤ r := by omega
  have hN1 : N ≤ w1.heap.size := by omega
  have hw1 : w.heap.size ≤ w1.heap.size := by omega
  have s1' : w1.heap.size = r + 1 := by omega
  clear hr b1 s1 l1
  obtain ⟨x4, hx4⟩ : ∃ x, ys.getD 4 0 = x := ⟨_, rfl⟩
  obtain ⟨u40, u41⟩ : U8 x4 := by rw [← hx4]; exact RI.out.u8 4 (by rw [HL.out]; omega)
  have v4 : IntKind.i64.wrap x4 = x4 := IntWalk.i64_in _ (by omega)
  have HX4 := Lib.hid hx4
  clear hx4
  obtain ⟨x5, hx5⟩ : ∃ x, ys.getD 5 0 = x := ⟨_, rfl⟩
  obtain ⟨u50, u51⟩ : U8 x5 := by rw [← hx5]; exact RI.out.u8 5 (by rw [HL.out]; omega)
  have v5 : IntKind.i64.wrap x5 = x5 := IntWalk.i64_in _ (by omega)
  have HX5 := Lib.hid hx5
  clear hx5
  obtain ⟨x6, hx6⟩ : ∃ x, ys.getD 6 0 = x := ⟨_, rfl⟩
  obtain ⟨u60, u61⟩ : U8 x6 := by rw [← hx6]; exact RI.out.u8 6 (by rw [HL.out]; omega)
  have v6 : IntKind.i64.wrap x6 = x6 := IntWalk.i64_in _ (by omega)
  have HX6 := Lib.hid hx6
  clear hx6
  obtain ⟨x7, hx7⟩ : ∃ x, ys.getD 7 0 = x := ⟨_, rfl⟩
  obtain ⟨u70, u71⟩ : U8 x7 := by rw [← hx7]; exact RI.out.u8 7 (by rw [HL.out]; omega)
  have v7 : IntKind.i64.wrap x7 = x7 := IntWalk.i64_in _ (by omega)
  have HX7 := Lib.hid hx7
  clear hx7
  obtain ⟨x8, hx8⟩ : ∃ x, ys.getD 8 0 = x := ⟨_, rfl⟩
  obtain ⟨u80, u81⟩ : U8 x8 := by rw [← hx8]; exact RI.out.u8 8 (by rw [HL.out]; omega)
  have v8 : IntKind.i64.wrap x8 = x8 := IntWalk.i64_in _ (by omega)
  have HX8 := Lib.hid hx8
  clear hx8
  go_upto_region 1 with fail
  refine wp_region_held_drew (S := fun w' => RdB w' N (some ⟨bb, oo, none⟩) ys ∧ ∃ c A n k, CtAt w' r c A n k) (by kernel_rfl) ⟨RI.out, _, _, _, _, Z1.out⟩ (fun HS => ?_)
  have q4 : (4 : Int) < (m : Int) := by omega
  have q4' : 4 < m := by omega
  have q5 : (5 : Int) < (m : Int) := by omega
  have q5' : 5 < m := by omega
  have q6 : (6 : Int) < (m : Int) := by omega
  have q6' : 6 < m := by omega
  have q7 : (7 : Int) < (m : Int) := by omega
  have q7' : 7 < m := by omega
  have q8 : (8 : Int) < (m : Int) := by omega
  have q8' : 8 < m := by omega
  have m17 : (17 : Int) ≤ (m : Int) := by omega
  refine takeY (i := 0) (d := 3) (v := ?_) rfl rfl (by kernel_rfl) (by kernel_rfl) (by kernel_rfl) (fun _ _ _ h => h) (by rfl) ?_ HS ?_
  rotate_left
  · intro w' hSw
    go_simp
    try with_reducible rfl
  simp only [Act.put, List.setIfInBounds_toArray, List.set_cons_zero, List.set_cons_succ]
  refine takeY (i := 1) (d := 4) (v := ?_) rfl rfl (by kernel_rfl) (by kernel_rfl) (by kernel_rfl) (fun _ _ _ h => h) (by rfl) ?_ HS ?_
  rotate_left
  · intro w' hSw
    go_simp
    try with_reducible rfl
  simp only [Act.put, List.setIfInBounds_toArray, List.set_cons_zero, List.set_cons_succ]
  refine takeC (i := 2) (d := 5) (f := 78) (args := #[.slice (some ⟨bb, oo, none⟩) 4 116]) (v := .int .i64 (num4 ys 0)) rfl rfl (by kernel_rfl) (by kernel_rfl) (by kernel_rfl) (fun _ _ _ h => h) (by rfl) ?_ ?_ HS ?_
  · intro w' hSw
    go_simp
    try with_reducible rfl
  · intro w' hSw
    exact num_at4 N bb oo 0 _ ys w' hSw.1 (by rw [HL.out]; omega) _ (by omega)
  simp only [Act.put, List.setIfInBounds_toArray, List.set_cons_zero, List.set_cons_succ]
  refine takeY (i := 3) (d := 6) (v := ?_) rfl rfl (by kernel_rfl) (by kernel_rfl) (by kernel_rfl) (fun _ _ _ h => h) (by rfl) ?_ HS ?_
  rotate_left
  · intro w' hSw
    go_simp
    try with_reducible rfl
  simp only [Act.put, List.setIfInBounds_toArray, List.set_cons_zero, List.set_cons_succ]
  refine takeY (i := 4) (d := 7) (v := ?_) rfl rfl (by kernel_rfl) (by kernel_rfl) (by kernel_rfl) (fun _ _ _ h => h) (by rfl) ?_ HS ?_
  rotate_left
  · intro w' hSw
    go_simp
    try with_reducible rfl
  simp only [Act.put, List.setIfInBounds_toArray, List.set_cons_zero, List.set_cons_succ]
  refine takeY (i := 5) (d := 8) (v := ?_) rfl rfl (by kernel_rfl) (by kernel_rfl) (by kernel_rfl) (fun _ _ _ h => h) (by rfl) ?_ HS ?_
  rotate_left
  · intro w' hSw
    have hc' : w'.cell? ⟨bb, oo + 4, none⟩ = some (.int .u8 x4) := by rw [← HX4.out]; obtain ⟨_, _, e, _, hq, _⟩ := hSw.1 4 (by rw [HL.out]; omega); injection e with e; injection e with e1 e2; subst e1 e2; exact hq
    go_simp
    try with_reducible rfl
  simp only [Act.put, List.setIfInBounds_toArray, List.set_cons_zero, List.set_cons_succ]
  refine takeY (i := 6) (d := 9) (v := ?_) rfl rfl (by kernel_rfl) (by kernel_rfl) (by kernel_rfl) (fun _ _ _ h => h) (by rfl) ?_ HS ?_
  rotate_left
  · intro w' hSw
    go_simp
    try with_reducible rfl
  simp only [Act.put, List.setIfInBounds_toArray, List.set_cons_zero, List.set_cons_succ]
  refine takeY (i := 7) (d := 10) (v := ?_) rfl rfl (by kernel_rfl) (by kernel_rfl) (by kernel_rfl) (fun _ _ _ h => h) (by rfl) ?_ HS ?_
  rotate_left
  · intro w' hSw
    go_simp
    try with_reducible rfl
  simp only [Act.put, List.setIfInBounds_toArray, List.set_cons_zero, List.set_cons_succ]
  refine takeY (i := 8) (d := 11) (v := ?_) rfl rfl (by kernel_rfl) (by kernel_rfl) (by kernel_rfl) (fun _ _ _ h => h) (by rfl) ?_ HS ?_
  rotate_left
  · intro w' hSw
    go_simp
    try with_reducible rfl
  simp only [Act.put, List.setIfInBounds_toArray, List.set_cons_zero, List.set_cons_succ]
  refine takeY (i := 9) (d := 12) (v := ?_) rfl rfl (by kernel_rfl) (by kernel_rfl) (by kernel_rfl) (fun _ _ _ h => h) (by rfl) ?_ HS ?_
  rotate_left
  · intro w' hSw
    have hc' : w'.cell? ⟨bb, oo + 5, none⟩ = some (.int .u8 x5) := by rw [← HX5.out]; obtain ⟨_, _, e, _, hq, _⟩ := hSw.1 5 (by rw [HL.out]; omega); injection e with e; injection e with e1 e2; subst e1 e2; exact hq
    go_simp
    try with_reducible rfl
  simp only [Act.put, List.setIfInBounds_toArray, List.set_cons_zero, List.set_cons_succ]
  refine takeY (i := 10) (d := 13) (v := ?_) rfl rfl (by kernel_rfl) (by kernel_rfl) (by kernel_rfl) (fun _ _ _ h => h) (by rfl) ?_ HS ?_
  rotate_left
  · intro w' hSw
    go_simp
    try with_reducible rfl
  simp only [Act.put, List.setIfInBounds_toArray, List.set_cons_zero, List.set_cons_succ]
  refine takeY (i := 11) (d := 14) (v := ?_) rfl rfl (by kernel_rfl) (by kernel_rfl) (by kernel_rfl) (fun _ _ _ h => h) (by rfl) ?_ HS ?_
  rotate_left
  · intro w' hSw
    go_simp
    try with_reducible rfl
  simp only [Act.put, List.setIfInBounds_toArray, List.set_cons_zero, List.set_cons_succ]
  refine takeY (i := 12) (d := 15) (v := ?_) rfl rfl (by kernel_rfl) (by kernel_rfl) (by kernel_rfl) (fun _ _ _ h => h) (by rfl) ?_ HS ?_
  rotate_left
  · intro w' hSw
    go_simp
    try with_reducible rfl
  simp only [Act.put, List.setIfInBounds_toArray, List.set_cons_zero, List.set_cons_succ]
  refine takeY (i := 13) (d := 16) (v := ?_) rfl rfl (by kernel_rfl) (by kernel_rfl) (by kernel_rfl) (fun _ _ _ h => h) (by rfl) ?_ HS ?_
  rotate_left
  · intro w' hSw
    have hc' : w'.cell? ⟨bb, oo + 6, none⟩ = some (.int .u8 x6) := by rw [← HX6.out]; obtain ⟨_, _, e, _, hq, _⟩ := hSw.1 6 (by rw [HL.out]; omega); injection e with e; injection e with e1 e2; subst e1 e2; exact hq
    go_simp
    try with_reducible rfl
  simp only [Act.put, List.setIfInBounds_toArray, List.set_cons_zero, List.set_cons_succ]
  refine takeY (i := 14) (d := 17) (v := ?_) rfl rfl (by kernel_rfl) (by kernel_rfl) (by kernel_rfl) (fun _ _ _ h => h) (by rfl) ?_ HS ?_
  rotate_left
  · intro w' hSw
    go_simp
    try with_reducible rfl
  simp only [Act.put, List.setIfInBounds_toArray, List.set_cons_zero, List.set_cons_succ]
  refine takeY (i := 15) (d := 18) (v := ?_) rfl rfl (by kernel_rfl) (by kernel_rfl) (by kernel_rfl) (fun _ _ _ h => h) (by rfl) ?_ HS ?_
  rotate_left
  · intro w' hSw
    go_simp
    try with_reducible rfl
  simp only [Act.put, List.setIfInBounds_toArray, List.set_cons_zero, List.set_cons_succ]
  refine takeY (i := 16) (d := 19) (v := ?_) rfl rfl (by kernel_rfl) (by kernel_rfl) (by kernel_rfl) (fun _ _ _ h => h) (by rfl) ?_ HS ?_
  rotate_left
  · intro w' hSw
    go_simp
    try with_reducible rfl
  simp only [Act.put, List.setIfInBounds_toArray, List.set_cons_zero, List.set_cons_succ]
  refine takeC (i := 17) (d := 20) (f := 78) (args := #[.slice (some ⟨bb, oo + 9, none⟩) 4 107]) (v := .int .i64 (num4 ys 9)) rfl rfl (by kernel_rfl) (by kernel_rfl) (by kernel_rfl) (fun _ _ _ h => h) (by rfl) ?_ ?_ HS ?_
  · intro w' hSw
    go_simp
    try with_reducible rfl
  · intro w' hSw
    exact num_at4 N bb oo 9 _ ys w' hSw.1 (by rw [HL.out]; omega) _ (by omega)
  simp only [Act.put, List.setIfInBounds_toArray, List.set_cons_zero, List.set_cons_succ]
  refine takeY (i := 18) (d := 21) (v := ?_) rfl rfl (by kernel_rfl) (by kernel_rfl) (by kernel_rfl) (fun _ _ _ h => h) (by rfl) ?_ HS ?_
  rotate_left
  · intro w' hSw
    go_simp
    try with_reducible rfl
  simp only [Act.put, List.setIfInBounds_toArray, List.set_cons_zero, List.set_cons_succ]
  refine takeY (i := 19) (d := 22) (v := ?_) rfl rfl (by kernel_rfl) (by kernel_rfl) (by kernel_rfl) (fun _ _ _ h => h) (by rfl) ?_ HS ?_
  rotate_left
  · intro w' hSw
    go_simp
    try with_reducible rfl
  simp only [Act.put, List.setIfInBounds_toArray, List.set_cons_zero, List.set_cons_succ]
  refine takeC (i := 20) (d := 23) (f := 78) (args := #[.slice (some ⟨bb, oo + 13, none⟩) 4 103]) (v := .int .i64 (num4 ys 13)) rfl rfl (by kernel_rfl) (by kernel_rfl) (by kernel_rfl) (fun _ _ _ h => h) (by rfl) ?_ ?_ HS ?_
  · intro w' hSw
    go_simp
    try with_reducible rfl
  · intro w' hSw
    exact num_at4 N bb oo 13 _ ys w' hSw.1 (by rw [HL.out]; omega) _ (by omega)
  simp only [Act.put, List.setIfInBounds_toArray, List.set_cons_zero, List.set_cons_succ]
  refine takeY (i := 21) (d := 24) (v := ?_) rfl rfl (by kernel_rfl) (by kernel_rfl) (by kernel_rfl) (fun _ _ _ h => h) (by rfl) ?_ HS ?_
  rotate_left
  · intro w' hSw
    go_simp
    try with_reducible rfl
  simp only [Act.put, List.setIfInBounds_toArray, List.set_cons_zero, List.set_cons_succ]
  refine takeY (i := 22) (d := 25) (v := ?_) rfl rfl (by kernel_rfl) (by kernel_rfl) (by kernel_rfl) (fun _ _ _ h => h) (by rfl) ?_ HS ?_
  rotate_left
  · intro w' hSw
    go_simp
    try with_reducible rfl
  simp only [Act.put, List.setIfInBounds_toArray, List.set_cons_zero, List.set_cons_succ]
  refine takeY (i := 23) (d := 26) (v := ?_) rfl rfl (by kernel_rfl) (by kernel_rfl) (by kernel_rfl) (fun _ _ _ h => h) (by rfl) ?_ HS ?_
  rotate_left
  · intro w' hSw
    have hc' : w'.cell? ⟨bb, oo + 7, none⟩ = some (.int .u8 x7) := by rw [← HX7.out]; obtain ⟨_, _, e, _, hq, _⟩ := hSw.1 7 (by rw [HL.out]; omega); injection e with e; injection e with e1 e2; subst e1 e2; exact hq
    go_simp
    try with_reducible rfl
  simp only [Act.put, List.setIfInBounds_toArray, List.set_cons_zero, List.set_cons_succ]
  refine takeY (i := 24) (d := 27) (v := ?_) rfl rfl (by kernel_rfl) (by kernel_rfl) (by kernel_rfl) (fun _ _ _ h => h) (by rfl) ?_ HS ?_
  rotate_left
  · intro w' hSw
    go_simp
    try with_reducible rfl
  simp only [Act.put, List.setIfInBounds_toArray, List.set_cons_zero, List.set_cons_succ]
  refine takeY (i := 25) (d := 28) (v := ?_) rfl rfl (by kernel_rfl) (by kernel_rfl) (by kernel_rfl) (fun _ _ _ h => h) (by rfl) ?_ HS ?_
  rotate_left
  · intro w' hSw
    go_simp
    try with_reducible rfl
  simp only [Act.put, List.setIfInBounds_toArray, List.set_cons_zero, List.set_cons_succ]
  refine takeY (i := 26) (d := 29) (v := ?_) rfl rfl (by kernel_rfl) (by kernel_rfl) (by kernel_rfl) (fun _ _ _ h => h) (by rfl) ?_ HS ?_
  rotate_left
  · intro w' hSw
    go_simp
    try with_reducible rfl
  simp only [Act.put, List.setIfInBounds_toArray, List.set_cons_zero, List.set_cons_succ]
  refine takeY (i := 27) (d := 30) (v := ?_) rfl rfl (by kernel_rfl) (by kernel_rfl) (by kernel_rfl) (fun _ _ _ h => h) (by rfl) ?_ HS ?_
  rotate_left
  · intro w' hSw
    have hc' : w'.cell? ⟨bb, oo + 8, none⟩ = some (.int .u8 x8) := by rw [← HX8.out]; obtain ⟨_, _, e, _, hq, _⟩ := hSw.1 8 (by rw [HL.out]; omega); injection e with e; injection e with e1 e2; subst e1 e2; exact hq
    go_simp
    try with_reducible rfl
  simp only [Act.put, List.setIfInBounds_toArray, List.set_cons_zero, List.set_cons_succ]
  refine takeY (i := 28) (d := 31) (v := ?_) rfl rfl (by kernel_rfl) (by kernel_rfl) (by kernel_rfl) (fun _ _ _ h => h) (by rfl) ?_ HS ?_
  rotate_left
  · intro w' hSw
    go_simp
    try with_reducible rfl
  simp only [Act.put, List.setIfInBounds_toArray, List.set_cons_zero, List.set_cons_succ]
  refine takeY (i := 29) (d := 32) (v := ?_) rfl rfl (by kernel_rfl) (by kernel_rfl) (by kernel_rfl) (fun _ _ _ h => h) (by rfl) ?_ HS ?_
  rotate_left
  · intro w' hSw
    go_simp
    try with_reducible rfl
  simp only [Act.put, List.setIfInBounds_toArray, List.set_cons_zero, List.set_cons_succ]
  refine takeY (i := 30) (d := 33) (v := ?_) rfl rfl (by kernel_rfl) (by kernel_rfl) (by kernel_rfl) (fun _ _ _ h => h) (by rfl) ?_ HS ?_
  rotate_left
  · intro w' hSw
    go_simp
    try with_reducible rfl
  simp only [Act.put, List.setIfInBounds_toArray, List.set_cons_zero, List.set_cons_succ]
  refine takeY (i := 31) (d := 34) (v := ?_) rfl rfl (by kernel_rfl) (by kernel_rfl) (by kernel_rfl) (fun _ _ _ h => h) (by rfl) ?_ HS ?_
  rotate_left
  · intro w' hSw
    go_simp
    try with_reducible rfl
  simp only [Act.put, List.setIfInBounds_toArray, List.set_cons_zero, List.set_cons_succ]
  refine wpAnyH_ready (rs := [32]) (by kernel_rfl) (by simp) ?_
  refine AllReadyH.cons rfl (fun K hK => ?_) AllReadyH.nil
  go_simp
  have RD := Lib.hid ((HS.1.skip 17))
  refine Calls.mono (rfiles_any N bb (oo + 17) (m - 17) 99 (ys.drop 17) (by rw [List.length_drop, HL.out]) (by omega) (by omega) (by omega) (by omega) _ RD.out hN1) ?_
  rintro e w2 ⟨A, c', rfl, ow, b2⟩
  have OW := Lib.hid ow; have B2 := Lib.hid b2
  have RI2 := Lib.hid (HS.1.below (b2.mono hN1))
  have Z2 := Lib.hid (Z1.out.below (bstep ((Below.refl _ _).drew) b2))
  clear ow b2
  have BB2 := Lib.hid (bstep B1.out (bstep ((Below.refl _ _).drew) B2.out))
  have hg1 : r < w2.heap.size := Z2.out.lt
  have hA2 : ∀ a, A = some a → r < a.block := fun a ha => by have := (OW.out.lt a ha).1; have e : w1.drew.heap.size = w1.heap.size := rfl; omega
  refine hK.out _ _ ⟨RI2.out, _, _, _, _, Z2.out⟩ (fun HS2 => ?_)
  clear hK
  try simp only [Act.put, List.setIfInBounds_toArray, List.set_cons_zero, List.set_cons_succ]
  obtain ⟨c, hc⟩ : ∃ c, c = rdC ys := ⟨_, rfl⟩
  have CC : Hid (c = ⟨num4 ys 0, x4, x5, x6 == 1, ⟨num4 ys 9, num4 ys 13, x7, x8⟩, unFiles (ys.drop 17) ((m - 17) / 7)⟩) := Lib.hid (by rw [hc, ← HX4.out, ← HX5.out, ← HX6.out, ← HX7.out, ← HX8.out, ← HL.out]; rfl)
  have HC := Lib.hid hc
  clear hc
  refine takeY (i := 33) (d := 36) (v := .agg (ctv c A ((m - 17) / 7) c').toArray) rfl rfl (by kernel_rfl) (by kernel_rfl) (by kernel_rfl) (fun _ _ _ h => h) (by rfl) ?_ HS2 ?_
  · intro w' hSw
    rw [CC.out]
    exact exec_ct rfl _ A _ c' rfl rfl rfl rfl rfl rfl
  try simp only [Act.put, List.setIfInBounds_toArray, List.set_cons_zero, List.set_cons_succ]
  refine wpAnyH_ready (rs := [34]) (by kernel_rfl) (by simp) ?_
  refine AllReadyH.cons rfl (fun K hK => ?_) AllReadyH.nil
  refine step_store_ct rfl _ _ rfl r Ct.zero c none A 0 ((m - 17) / 7) 0 c' Z2.out rfl rfl ?_
  intro w3 z3 k3 s3
  have Z3 := Lib.hid z3
  have RI3 := Lib.hid (k3.reads RI2.out (by omega) (fun k hk => by omega))
  have B3 := Lib.hid (k3.below (fun k hk => by omega) BB2.out BB2.out.size)
  have OW3 := Lib.hid ((OW.out.same (fun a ha => k3.block _ (OW.out.lt a ha).2 (by have := hA2 a ha; omega))).weak (base' := w.heap.size) (fun a ha => by have := hA2 a ha; omega))
  refine hK.out _ _ ⟨RI3.out, _, _, _, _, Z3.out⟩ (fun HS3 => ?_)
  clear hK
  refine wpAnyH_done (by kernel_rfl) ?_ _
  go_wp2
  refine ret_ct1 2 rfl rfl Z3.out rfl ⟨A, c', ?_, ?_, B3.out⟩
  · rw [HC.out]
  · have ef : (rdC ys).files = unFiles (ys.drop 17) ((m - 17) / 7) := by rw [← HL.out]; rfl
    rw [ef]; exact OW3.out
theorem rdC_of {L : Lf} (h : L.load.length = 116) (sz : Nat) (hs : L.size = sz) (h0 : 17 ≤ sz) (h1 : sz ≤ 116) : rdC (L.load.take sz) = unCt L := by
  have g : ∀ k, k < sz → (L.load.take sz).getD k 0 = L.load.getD k 0 := fun k hk => by
    rw [List.getD_eq_getElem?_getD, List.getD_eq_getElem?_getD, List.getElem?_take_of_lt hk]
  have gd : ∀ k, 17 + k < sz → ((L.load.take sz).drop 17).getD k 0 = L.load.getD (17 + k) 0 := fun k hk => by
    rw [← g _ hk, List.getD_eq_getElem?_getD, List.getElem?_drop, List.getD_eq_getElem?_getD]
  have hl : (L.load.take sz).length = sz := by rw [List.length_take, h]; omega
  unfold rdC unCt num4
  rw [hl, hs, Int.toNat_natCast]
  simp (disch := omega) only [g]
  congr 1
  unfold unFiles
  refine List.map_congr_left fun i hi => ?_
  have hi : i < (sz - 17) / 7 := List.mem_range.1 hi
  unfold unFl num2
  simp (disch := omega) only [gd, Nat.add_assoc]
end Go.Proofs.Ytilmicekpclmbaa
