/-
  The contract of package catalog's readFiles: each whole file of the bytes, in new memory.
-/
import Derived.Test.YtoolmmjiemkpbaaCPe
import Derived.Test.YtoolmmjiemkpbaaCF
namespace Go.Proofs.Ytoolmmjiemkpbaa
set_option linter.unusedVariables false
set_option linter.unusedSimpArgs false
set_option maxRecDepth 100000
open Go.RowKit

/-- The first files that bytes say. -/
def unFiles (ys : List Int) (i : Nat) : List Fl := (List.range i).map (fun j => unFl ys (7 * j))
theorem unFiles_len (ys : List Int) (i : Nat) : (unFiles ys i).length = i := by unfold unFiles; rw [List.length_map, List.length_range]
theorem unFiles_snoc (ys : List Int) (i : Nat) : unFiles ys (i + 1) = unFiles ys i ++ [unFl ys (7 * i)] := by
  unfold unFiles
  rw [List.range_succ, List.map_append]
  rfl
theorem num2_bd {ys : List Int} {k : Nat} (h0 : U8 (ys.getD k 0)) (h1 : U8 (ys.getD (k + 1) 0)) : 0 ≤ num2 ys k ∧ num2 ys k ≤ 65535 := by
  unfold U8 at h0 h1; unfold num2; omega
theorem RdB.u8 {w : World} {N : Nat} {A : Option Addr} {ys : List Int} (h : RdB w N A ys) (k : Nat) (hk : k < ys.length) : U8 (ys.getD k 0) := by
  obtain ⟨_, _, _, _, _, hu⟩ := h k hk; exact hu
theorem unFl_ok {w : World} {N : Nat} {A : Option Addr} {ys : List Int} (h : RdB w N A ys) (k : Nat) (hk : k + 7 ≤ ys.length) : (unFl ys k).Ok := by
  have u := fun j hj => h.u8 j hj
  have h0 := u k (by omega)
  have h1 := num2_bd (u (k + 1) (by omega)) (u (k + 1 + 1) (by omega))
  have h2 := num2_bd (u (k + 3) (by omega)) (u (k + 3 + 1) (by omega))
  have h3 := num2_bd (u (k + 5) (by omega)) (u (k + 5 + 1) (by omega))
  unfold U8 at h0
  refine ⟨?_, ?_, ?_, ?_⟩
  · show I64x (ys.getD k 0); exact ⟨by omega, by omega⟩
  · show I64x (num2 ys (k + 1)); exact ⟨by omega, by omega⟩
  · show I64x (num2 ys (k + 3)); exact ⟨by omega, by omega⟩
  · show I64x (num2 ys (k + 5)); exact ⟨by omega, by omega⟩
def sliceN : Value → Nat
  | .slice _ n _ => n
  | _ => 0
set_option maxHeartbeats 4000000 in
theorem rfiles_any (N bb oo m cap : Nat) (ys : List Int) (hl : ys.length = m) (hm : m ≤ 1000) (hmc : m ≤ cap) (hc : 7 * (m / 7) < cap) (hcap : cap ≤ 1000) (w : World) (hr : RdB w N (some ⟨bb, oo, none⟩) ys) (hN : N ≤ w.heap.size) :
    Calls Try.prog 94 #[.slice (some ⟨bb, oo, none⟩) m cap] w fun e w' => ∃ A c', e = .returned (.slice A (m / 7) c') ∧ OwnF w' w.heap.size A (m / 7) c' (unFiles ys (m / 7)) ∧ Below w.heap.size w w' := by
  have HR := Lib.hid hr; have HL := Lib.hid hl
  clear hr hl
  go_enter Try.func94, Try.ntmps94
  go_wp2
  go_loopw [0, 3] (fun bv fv wr => ∃ (i : Nat) (A : Option Addr) (c' : Nat), 7 * i ≤ m ∧ bv = .slice (some ⟨bb, oo + 7 * i, none⟩) (m - 7 * i) (cap - 7 * i) ∧ fv = .slice A i c' ∧ OwnF wr w.heap.size A i c' (unFiles ys i) ∧ Below w.heap.size w wr) (fun bv _ _ => sliceN bv)
  case atStart => exact ⟨0, none, 0, by omega, rfl, rfl, OwnF.nil _ _, Below.refl _ _⟩
  case round =>
    obtain ⟨i, A, c', hi, rfl, rfl, ow, bw⟩ := hrel
    have OW := Lib.hid ow; have BW := Lib.hid bw
    clear ow
    by_cases hlt : 7 * i + 7 ≤ m
    · have i1 : decide (((m - 7 * i : Nat) : Int) ≥ 7) = true := by rw [decide_eq_true_eq]; omega
      have i2 : decide ((7 : Int) ≤ ((m - 7 * i : Nat) : Int)) = true := by rw [decide_eq_true_eq]; omega
      have RI := Lib.hid (HR.out.below (bw.mono hN))
      have hNr : N ≤ wr.heap.size := by have := bw.size; omega
      have hwr := bw.size
      obtain ⟨_, _, e, hbN, hc0, hu0⟩ := RI.out (7 * i) (by rw [HL.out]; omega)
      injection e with e; injection e with e1 e2; subst e1 e2
      obtain ⟨u0, u1⟩ := id hu0
      have OKF := Lib.hid (unFl_ok RI.out (7 * i) (by rw [HL.out]; omega))
      have SN := Lib.hid (unFiles_snoc ys i)
      obtain ⟨f, hf⟩ : ∃ f, unFl ys (7 * i) = f := ⟨_, rfl⟩
      obtain ⟨x, hx⟩ : ∃ x, ys.getD (7 * i) 0 = x := ⟨_, rfl⟩
      rw [hf] at OKF SN
      have e0 : Hid (f.name = x) := Lib.hid (by rw [← hf]; exact hx)
      rw [hx] at hc0 u0 u1
      have HX := Lib.hid hx; have HF := Lib.hid hf
      have vx : IntKind.i64.wrap x = x := IntWalk.i64_in _ (by omega)
      clear hu0 bw hx hf
      go_upto_region 3 with fail
      refine wp_region_held_drew (S := fun w' => RdB w' N (some ⟨bb, oo, none⟩) ys) (by kernel_rfl) RI.out (fun HS => ?_)
      have q0 : (0 : Int) < ((m - 7 * i : Nat) : Int) := by omega
      have q0' : 0 < m - 7 * i := by omega
      have l3' : 3 ≤ cap - 7 * i := by omega
      have l5' : 5 ≤ cap - 7 * i := by omega
      have l7' : 7 ≤ cap - 7 * i := by omega
      have l3 : (3 : Int) ≤ ((cap - 7 * i : Nat) : Int) := by omega
      have l5 : (5 : Int) ≤ ((cap - 7 * i : Nat) : Int) := by omega
      have l7 : (7 : Int) ≤ ((cap - 7 * i : Nat) : Int) := by omega
      have n1 : ¬ cap - 7 * i = 1 := by omega
      have n3 : ¬ cap - 7 * i = 3 := by omega
      have n5 : ¬ cap - 7 * i = 5 := by omega
      have n7 : ¬ cap - 7 * i = 7 := by omega
      refine takeY (i := 0) (d := 7) (v := ?_) rfl rfl (by kernel_rfl) (by kernel_rfl) (by kernel_rfl) (fun _ _ _ h => h) (by rfl) ?_ HS ?_
      rotate_left
      · intro w' hSw
        go_simp
        try with_reducible rfl
      simp only [Act.put, List.setIfInBounds_toArray, List.set_cons_zero, List.set_cons_succ]
      refine takeY (i := 1) (d := 8) (v := ?_) rfl rfl (by kernel_rfl) (by kernel_rfl) (by kernel_rfl) (fun _ _ _ h => h) (by rfl) ?_ HS ?_
      rotate_left
      · intro w' hSw
        go_simp
        try with_reducible rfl
      simp only [Act.put, List.setIfInBounds_toArray, List.set_cons_zero, List.set_cons_succ]
      refine takeY (i := 2) (d := 9) (v := ?_) rfl rfl (by kernel_rfl) (by kernel_rfl) (by kernel_rfl) (fun _ _ _ h => h) (by rfl) ?_ HS ?_
      rotate_left
      · intro w' hSw
        go_simp
        try with_reducible rfl
      simp only [Act.put, List.setIfInBounds_toArray, List.set_cons_zero, List.set_cons_succ]
      refine takeY (i := 3) (d := 10) (v := ?_) rfl rfl (by kernel_rfl) (by kernel_rfl) (by kernel_rfl) (fun _ _ _ h => h) (by rfl) ?_ HS ?_
      rotate_left
      · intro w' hSw
        have hc' : w'.cell? ⟨bb, oo + 7 * i, none⟩ = some (.int .u8 x) := by rw [← HX.out]; obtain ⟨_, _, e, _, hq, _⟩ := hSw (7 * i) (by rw [HL.out]; omega); injection e with e; injection e with e1 e2; subst e1 e2; exact hq
        go_simp
        try with_reducible rfl
      simp only [Act.put, List.setIfInBounds_toArray, List.set_cons_zero, List.set_cons_succ]
      refine takeY (i := 4) (d := 11) (v := ?_) rfl rfl (by kernel_rfl) (by kernel_rfl) (by kernel_rfl) (fun _ _ _ h => h) (by rfl) ?_ HS ?_
      rotate_left
      · intro w' hSw
        go_simp
        try with_reducible rfl
      simp only [Act.put, List.setIfInBounds_toArray, List.set_cons_zero, List.set_cons_succ]
      refine takeY (i := 5) (d := 12) (v := ?_) rfl rfl (by kernel_rfl) (by kernel_rfl) (by kernel_rfl) (fun _ _ _ h => h) (by rfl) ?_ HS ?_
      rotate_left
      · intro w' hSw
        go_simp
        try with_reducible rfl
      simp only [Act.put, List.setIfInBounds_toArray, List.set_cons_zero, List.set_cons_succ]
      refine takeY (i := 6) (d := 13) (v := ?_) rfl rfl (by kernel_rfl) (by kernel_rfl) (by kernel_rfl) (fun _ _ _ h => h) (by rfl) ?_ HS ?_
      rotate_left
      · intro w' hSw
        go_simp
        try with_reducible rfl
      simp only [Act.put, List.setIfInBounds_toArray, List.set_cons_zero, List.set_cons_succ]
      refine takeC (i := 7) (d := 14) (f := 93) (args := #[.slice (some ⟨bb, oo + 7 * i + 1, none⟩) 2 (cap - 7 * i - 1)]) (v := .int .i64 (num2 ys (7 * i + 1))) rfl rfl (by kernel_rfl) (by kernel_rfl) (by kernel_rfl) (fun _ _ _ h => h) (by rfl) ?_ ?_ HS ?_
      · intro w' hSw
        go_simp
        try with_reducible rfl
      · intro w' hSw
        exact num_at2 N bb oo (7 * i + 1) _ ys w' hSw (by rw [HL.out]; omega) _ (by omega)
      simp only [Act.put, List.setIfInBounds_toArray, List.set_cons_zero, List.set_cons_succ]
      refine takeY (i := 8) (d := 15) (v := ?_) rfl rfl (by kernel_rfl) (by kernel_rfl) (by kernel_rfl) (fun _ _ _ h => h) (by rfl) ?_ HS ?_
      rotate_left
      · intro w' hSw
        go_simp
        try with_reducible rfl
      simp only [Act.put, List.setIfInBounds_toArray, List.set_cons_zero, List.set_cons_succ]
      refine takeY (i := 9) (d := 16) (v := ?_) rfl rfl (by kernel_rfl) (by kernel_rfl) (by kernel_rfl) (fun _ _ _ h => h) (by rfl) ?_ HS ?_
      rotate_left
      · intro w' hSw
        go_simp
        try with_reducible rfl
      simp only [Act.put, List.setIfInBounds_toArray, List.set_cons_zero, List.set_cons_succ]
      refine takeC (i := 10) (d := 17) (f := 93) (args := #[.slice (some ⟨bb, oo + 7 * i + 3, none⟩) 2 (cap - 7 * i - 3)]) (v := .int .i64 (num2 ys (7 * i + 3))) rfl rfl (by kernel_rfl) (by kernel_rfl) (by kernel_rfl) (fun _ _ _ h => h) (by rfl) ?_ ?_ HS ?_
      · intro w' hSw
        go_simp
        try with_reducible rfl
      · intro w' hSw
        exact num_at2 N bb oo (7 * i + 3) _ ys w' hSw (by rw [HL.out]; omega) _ (by omega)
      simp only [Act.put, List.setIfInBounds_toArray, List.set_cons_zero, List.set_cons_succ]
      refine takeY (i := 11) (d := 18) (v := ?_) rfl rfl (by kernel_rfl) (by kernel_rfl) (by kernel_rfl) (fun _ _ _ h => h) (by rfl) ?_ HS ?_
      rotate_left
      · intro w' hSw
        go_simp
        try with_reducible rfl
      simp only [Act.put, List.setIfInBounds_toArray, List.set_cons_zero, List.set_cons_succ]
      refine takeY (i := 12) (d := 19) (v := ?_) rfl rfl (by kernel_rfl) (by kernel_rfl) (by kernel_rfl) (fun _ _ _ h => h) (by rfl) ?_ HS ?_
      rotate_left
      · intro w' hSw
        go_simp
        try with_reducible rfl
      simp only [Act.put, List.setIfInBounds_toArray, List.set_cons_zero, List.set_cons_succ]
      refine takeC (i := 13) (d := 20) (f := 93) (args := #[.slice (some ⟨bb, oo + 7 * i + 5, none⟩) 2 (cap - 7 * i - 5)]) (v := .int .i64 (num2 ys (7 * i + 5))) rfl rfl (by kernel_rfl) (by kernel_rfl) (by kernel_rfl) (fun _ _ _ h => h) (by rfl) ?_ ?_ HS ?_
      · intro w' hSw
        go_simp
        try with_reducible rfl
      · intro w' hSw
        exact num_at2 N bb oo (7 * i + 5) _ ys w' hSw (by rw [HL.out]; omega) _ (by omega)
      simp only [Act.put, List.setIfInBounds_toArray, List.set_cons_zero, List.set_cons_succ]
      refine takeY (i := 14) (d := 21) (v := ?_) rfl rfl (by kernel_rfl) (by kernel_rfl) (by kernel_rfl) (fun _ _ _ h => h) (by rfl) ?_ HS ?_
      rotate_left
      · intro w' hSw
        go_simp
        try with_reducible rfl
      simp only [Act.put, List.setIfInBounds_toArray, List.set_cons_zero, List.set_cons_succ]
      refine wpAnyH_ready (rs := [15]) (by kernel_rfl) (by simp) ?_
      refine AllReadyH.cons rfl (fun K hK => ?_) AllReadyH.nil
      go_simp
      obtain ⟨W, hW⟩ : ∃ W, W = (wr.alloc (.cells #[.int .i64 x, .int .i64 (num2 ys (7 * i + 1)), .int .i64 (num2 ys (7 * i + 3)), .int .i64 (num2 ys (7 * i + 5))] 33)).drew := ⟨_, rfl⟩
      rw [← hW]
      have hbW : Below wr.heap.size wr W := by rw [hW]; exact ((Below.refl _ _).alloc (Nat.le_refl _) _).drew
      have OWW := Lib.hid (OW.out.below hbW)
      have FA : Hid (FlAt4 W wr.heap.size 0 f) := Lib.hid (by
        have q : f = ⟨x, num2 ys (7 * i + 1), num2 ys (7 * i + 3), num2 ys (7 * i + 5)⟩ := by rw [← HF.out, ← HX.out]; rfl
        rw [hW, q]
        exact FlAt4.new wr ⟨x, num2 ys (7 * i + 1), num2 ys (7 * i + 3), num2 ys (7 * i + 5)⟩ _ _)
      have BWW := Lib.hid (bstep BW.out hbW)
      have RW := Lib.hid (RI.out.below (hbW.mono hNr))
      have hNW : N ≤ W.heap.size := by have := hbW.size; omega
      have hwW : w.heap.size ≤ W.heap.size := by have := hbW.size; omega
      clear hW hbW OW BW
      refine hK.out _ _ RW.out (fun HS2 => ?_)
      clear hK
      refine wpAnyH_ready (rs := [16]) (by kernel_rfl) (by simp) ?_
      refine AllReadyH.cons rfl (fun K hK => ?_) AllReadyH.nil
      refine step_fl rfl _ _ rfl w.heap.size i c' A (unFiles ys i) rfl OWW.out wr.heap.size 0 1 f rfl FA.out OKF.out (by omega) hwW ?_
      intro g' cap' wz owz fkz
      have hFz : ∀ q, (∃ a, A = some a ∧ q = a.block) → w.heap.size ≤ q := fun q ⟨a, ha, hq⟩ => by rw [hq]; exact (OWW.out.lt a ha).1
      have RZ := Lib.hid (fkz.1.reads RW.out hNW (fun q hq => by have := hFz q hq; omega))
      have BZ := Lib.hid (fkz.1.below hFz BWW.out hwW)
      have OZ : Hid (OwnF wz w.heap.size (some ⟨g', 0, none⟩) (i + 1) cap' (unFiles ys (i + 1))) := Lib.hid (by rw [SN.out]; exact owz)
      refine hK.out _ _ RZ.out (fun HS3 => ?_)
      clear hK owz fkz hFz
      simp only [Act.put, List.setIfInBounds_toArray, List.set_cons_zero, List.set_cons_succ]
      refine wpAnyH_ready (rs := [17]) (by kernel_rfl) (by simp) ?_
      refine AllReadyH.cons rfl (fun K hK => ?_) AllReadyH.nil
      go_simp
      refine hK.out _ _ RZ.out (fun HS4 => ?_)
      clear hK
      refine wpAnyH_done (by kernel_rfl) ?_ _
      go_wp2
      go_roundw
      case rel =>
        refine ⟨i + 1, some ⟨g', 0, none⟩, cap', by omega, ?_, rfl, OZ.out, BZ.out⟩
        have e1 : oo + 7 * i + 7 = oo + 7 * (i + 1) := by omega
        have e2 : m - 7 * i - 7 = m - 7 * (i + 1) := by omega
        have e3 : cap - 7 * i - 7 = cap - 7 * (i + 1) := by omega
        rw [← e1, ← e2, ← e3]
      case measure => simp [sliceN]; omega
    · have i1 : decide (((m - 7 * i : Nat) : Int) ≥ 7) = false := by rw [decide_eq_false_iff_not]; omega
      have i2 : decide ((7 : Int) ≤ ((m - 7 * i : Nat) : Int)) = false := by rw [decide_eq_false_iff_not]; omega
      obtain rfl : i = m / 7 := by omega
      go_wp2
      go_ret
      exact ⟨A, c', rfl, OW.out, BW.out⟩
end Go.Proofs.Ytoolmmjiemkpbaa
