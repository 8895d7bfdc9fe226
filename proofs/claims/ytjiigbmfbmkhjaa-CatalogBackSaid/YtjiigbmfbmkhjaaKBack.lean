/-
  The walk of the statement CatalogBack: the call returns true; nothing that was in memory turns.
-/
import Derived.Test.YtjiigbmfbmkhjaaKRuns
import Derived.Test.YtjiigbmfbmkhjaaZ2
import Derived.Test.YtjiigbmfbmkhjaaKEx
import Derived.Test.YtjiigbmfbmkhjaaLG
import Derived.Lib.MinMax
import Derived.BigRegion
import Derived.Deep.DeepCutAuto
namespace Go.Proofs.Ytjiigbmfbmkhjaa
set_option linter.unusedVariables false
set_option linter.unusedSimpArgs false
set_option maxRecDepth 100000
open Go.RowKit

theorem step_alloc_lf {ops : Array Oper} {o : Oper} {a : Act} {w : World} {K : Act → World → Prop} {Q : Exit → Act → World → Prop} {E : Prop} (hgd : o.guard = none) (ho : o.op = .alloc 32) (d : Nat) (hd : o.dst = some d)
    (h : ∀ w1, LfAt w1 w.heap.size Lf.zero → Below w.heap.size w w1 → w1.heap.size = w.heap.size + 1 → K (a.put (some d) (.pointer (some ⟨w.heap.size, 0, none⟩))) w1) : if Region.wanted o (yielded ops a.tmps) = true then Oper.wp Try.prog o a w K Q else E := by
  have hw : Region.wanted o (yielded ops a.tmps) = true := by unfold Region.wanted; rw [hgd]
  rw [if_pos hw]
  unfold Oper.wp execOp
  simp only [ho, Instr.alloc, newVar, newRow, newObj, Value.cells, Sem.run_bind, Sem.run_pure, Result.andThen_ok, zero_leaf_run]
  show K (a.put o.dst _) _
  rw [hd]
  exact h _ (LfAt.new w Lf.zero_ok) ((Below.refl _ _).alloc (Nat.le_refl _) _) (by simp)
theorem step_store_lf {ops : Array Oper} {o : Oper} {a : Act} {w : World} {K : Act → World → Prop} {Q : Exit → Act → World → Prop} {E : Prop} (hgd : o.guard = none) (hdst : o.dst = none) (x y : Operand) (ho : o.op = .store 32 x y) (b : Nat) (L0 L : Lf) (h0 : LfAt w b L0) (hL : L.Ok) (hx : a.eval x = .pointer (some ⟨b, 0, none⟩)) (hy : a.eval y = .agg (lv L).toArray)
    (h : ∀ w1, LfAt w1 b L → Keep (· = b) w w1 → w1.heap.size = w.heap.size → K a w1) : if Region.wanted o (yielded ops a.tmps) = true then Oper.wp Try.prog o a w K Q else E := by
  have hw : Region.wanted o (yielded ops a.tmps) = true := by unfold Region.wanted; rw [hgd]
  rw [if_pos hw]
  unfold Oper.wp execOp
  simp only [ho, hx, hy, Instr.storeAt, Instr.sureAddr, Sem.run_bind, Sem.run_pure, Result.andThen_ok, store_run h0 hL]
  show K (a.put o.dst _) _
  rw [hdst]
  exact h _ (h0.setRow hL) (keep_setRow w b _) (by simp [World.setRow])
theorem get_put6 {L : Lf} (h : L.Ok) (r : L.Right) (base g c : Nat) (w : World) (ho : Own w base g c L.put) :
    Calls Try.prog 19 #[.slice (some ⟨g, 0, none⟩) 128 c] w fun e w' => e = .returned (.tuple #[.agg (lv L).toArray, .bool true]) ∧ Below w.heap.size w w' :=
  (get_any w.heap.size (some ⟨g, 0, none⟩) 128 c L.put (Lf.put_len h) (by decide) w ho.reads (Nat.le_refl _) (by have := ho.cap.1; rw [Lf.put_len h] at this; exact this)).mono fun e w' ⟨he, hb⟩ => by
    obtain ⟨e1, e2⟩ := got_some (getLf_put h r)
    rw [e1, e2] at he
    exact ⟨he, hb⟩
attribute [local go_sem ↓] loadLf_eq eqlLf_eq zeroLf_eq zeroLf_eq'
set_option maxHeartbeats 8000000 in
theorem kback_any (a : Ct) (A : Option Addr) (na0 ca : Nat) (b : Ct) (B : Option Addr) (nb0 cb : Nat) (w : World) (ha : CtIn w a A na0 ca) (hb : CtIn w b B nb0 cb) :
    Calls Try.prog 5 #[.agg (ctv a A na0 ca).toArray, .agg (ctv b B nb0 cb).toArray] w fun e w' => e = .returned (.bool true) ∧ Below w.heap.size w w' := by
  obtain ⟨na, hna⟩ : ∃ n : Nat, n = min na0 16 := ⟨_, rfl⟩
  have ea : min (na0 : Int) 16 = (na : Int) := by omega
  obtain ⟨nb, hnb⟩ : ∃ n : Nat, n = min nb0 16 := ⟨_, rfl⟩
  have eb : min (nb0 : Int) 16 = (nb : Int) := by omega
  obtain ⟨DA, hDA⟩ : ∃ D : Ct, D = { a with files := a.files.take na } := ⟨_, rfl⟩
  obtain ⟨DB, hDB⟩ : ∃ D : Ct, D = { b with files := b.files.take nb } := ⟨_, rfl⟩
  have IA : Hid (CtIn w DA A na ca) := Lib.hid (by rw [hDA]; exact ha.take (by omega))
  have IB : Hid (CtIn w DB B nb cb) := Lib.hid (by rw [hDB]; exact hb.take (by omega))
  have ha16 : na ≤ 16 := by omega
  have hb16 : nb ≤ 16 := by omega
  have hac : na ≤ ca := IA.out.le
  have hbc : nb ≤ cb := IB.out.le
  have hcm : ca ≤ 9223372036854775807 := IA.out.mx
  have hdm : cb ≤ 9223372036854775807 := IB.out.mx
  have na0c := ha.le
  have nb0c := hb.le
  have HDA := Lib.hid hDA; have HDB := Lib.hid hDB
  clear hna hnb hDA hDB ha hb
  go_enter Try.func5, Try.ntmps5
  go_wp2_with (with_reducible refine box_ct rfl _ rfl a A na0 ca rfl ?_)
  intro w1 l1 b1 s1
  obtain ⟨pa, hpa⟩ : ∃ p, p = w.heap.size := ⟨_, rfl⟩
  rw [← hpa] at l1 ⊢
  have S1 := Lib.hid s1; have HPA := Lib.hid hpa; have L1 := Lib.hid l1; have B1 := Lib.hid b1
  have hpaw : w.heap.size ≤ pa := by omega
  clear s1 hpa l1 b1
  go_wp2_with (with_reducible refine box_ct rfl _ rfl b B nb0 cb rfl ?_)
  intro w2 l2 b2 s2
  obtain ⟨pb, hpb⟩ : ∃ p, p = w1.heap.size := ⟨_, rfl⟩
  rw [← hpb] at l2 ⊢
  have hab : pa < pb := by have := S1.out; have := HPA.out; omega
  have B2 := Lib.hid (bstep B1.out b2)
  have A2 := Lib.hid (L1.out.below b2)
  have C2 := Lib.hid l2
  clear l2 b2 s2 hpb S1 HPA L1 B1
  obtain ⟨_, _, _, _, _, _, _, _, x8⟩ := A2.out.cells
  obtain ⟨_, _, _, _, _, _, _, _, y8⟩ := C2.out.cells
  have fx8 := Arr.frozen A2.out 8
  have fy8 := Arr.frozen C2.out 8
  have g1 : (na : Int) ≤ (ca : Int) := by omega
  have g2 : (0 : Int) ≤ (na : Int) := by omega
  have g3 : (nb : Int) ≤ (cb : Int) := by omega
  have g4 : (0 : Int) ≤ (nb : Int) := by omega
  have hne : pa ≠ pb := by omega
  have hne2 : pb ≠ pa := by omega
  have A3 : Hid (CtAt ((w2.setCell ⟨pa, 8, none⟩ (.slice A na ca)).setCell ⟨pb, 8, none⟩ (.slice B nb cb)).drew pa DA A na ca) := Lib.hid (by rw [HDA.out]; exact ((CtAt.files (c := { a with files := a.files.take na }) A2.out).keep (keep_set (F := (· = pb)) rfl) (by omega)).below (Below.refl _ _).drew)
  have C3 : Hid (CtAt ((w2.setCell ⟨pa, 8, none⟩ (.slice A na ca)).setCell ⟨pb, 8, none⟩ (.slice B nb cb)).drew pb DB B nb cb) := Lib.hid (by rw [HDB.out]; exact (CtAt.files (c := { b with files := b.files.take nb }) (C2.out.keep (keep_set (F := (· = pa)) rfl) (by omega))).below (Below.refl _ _).drew)
  have B3 : Hid (Below w.heap.size w ((w2.setCell ⟨pa, 8, none⟩ (.slice A na ca)).setCell ⟨pb, 8, none⟩ (.slice B nb cb)).drew) := Lib.hid ((keep_set (F := (· = pb)) rfl).below (fun k hk => by omega) ((keep_set (F := (· = pa)) rfl).below (fun k hk => by omega) B2.out B2.out.size) (by have := B2.out.size; simpa using this)).drew
  go_upto_region 1 with fail
  go_region
  go_upto_region 2 with fail
  obtain ⟨w3, hw3⟩ : ∃ w3, w3 = ((w2.setCell ⟨pa, 8, none⟩ (.slice A na ca)).setCell ⟨pb, 8, none⟩ (.slice B nb cb)).drew := ⟨_, rfl⟩
  rw [← hw3] at A3 C3 B3
  rw [← hw3]
  clear hw3 x8 y8 fx8 fy8 g1 g2 g3 g4 A2 C2 B2 ea eb na0c nb0c
  obtain ⟨P, hP⟩ : ∃ P, DA.putL = P := ⟨_, rfl⟩
  obtain ⟨Q, hQ⟩ : ∃ Q, DB.putL = Q := ⟨_, rfl⟩
  have POK : Hid P.Ok := Lib.hid (by rw [← hP]; exact Ct.putL_ok DA)
  have QOK : Hid Q.Ok := Lib.hid (by rw [← hQ]; exact Ct.putL_ok DB)
  have HP := Lib.hid hP; have HQ := Lib.hid hQ
  have hw3 : w.heap.size ≤ w3.heap.size := B3.out.size
  have KA : Hid (∀ w', Below w3.heap.size w3 w' → CtAt w' pa DA A na ca ∧ CtAt w' pb DB B nb cb ∧ FlR w' w.heap.size A DA.files ∧ FlR w' w.heap.size B DB.files ∧ w.heap.size ≤ w'.heap.size) := Lib.hid (fun w' h => ⟨A3.out.below h, C3.out.below h, (IA.out.fl.below B3.out).below (h.mono hw3), (IB.out.fl.below B3.out).below (h.mono hw3), by have := h.size; omega⟩)
  have PA : Hid (∀ w0, Below w3.heap.size w3 w0 → Calls Try.prog 8 #[.agg (ctv DA A na ca).toArray] w0 fun e w' => e = .returned (.agg (lv P).toArray) ∧ Below w0.heap.size w0 w') := Lib.hid (fun w0 h => by have := put_cat DA IA.out.ok w.heap.size A na ca w0 IA.out.ln (by unfold maxLen; omega) (KA.out w0 h).2.2.1 (KA.out w0 h).2.2.2.2; unfold PutC at this; rw [HP.out] at this; exact this)
  have PB : Hid (∀ w0, Below w3.heap.size w3 w0 → Calls Try.prog 8 #[.agg (ctv DB B nb cb).toArray] w0 fun e w' => e = .returned (.agg (lv Q).toArray) ∧ Below w0.heap.size w0 w') := Lib.hid (fun w0 h => by have := put_cat DB IB.out.ok w.heap.size B nb cb w0 IB.out.ln (by unfold maxLen; omega) (KA.out w0 h).2.2.2.1 (KA.out w0 h).2.2.2.2; unfold PutC at this; rw [HQ.out] at this; exact this)
  clear hP hQ
  go_cut [5, 6] (fun v5 v6 wd => ∃ p5 p6, v5 = .pointer (some ⟨p5, 0, none⟩) ∧ v6 = .pointer (some ⟨p6, 0, none⟩) ∧ p5 ≠ p6 ∧ w3.heap.size ≤ p5 ∧ w3.heap.size ≤ p6 ∧ LfAt wd p5 P ∧ LfAt wd p6 Q ∧ Below w3.heap.size w3 wd)
  case first =>
    refine wp_region_held_drew (S := fun w' => Below w3.heap.size w3 w') (by kernel_rfl) (Below.refl _ _).drew (fun HS => ?_)
    refine takeY (i := 0) (d := 27) (v := .agg (ctv DA A na ca).toArray) rfl rfl (by kernel_rfl) (by kernel_rfl) (by kernel_rfl) (fun _ _ _ h => h) (by rfl) (fun w' hSw => exec_load_ct rfl (KA.out w' hSw).1 rfl) HS ?_
    simp only [Act.put, List.setIfInBounds_toArray, List.set_cons_zero, List.set_cons_succ]
    refine takeY (i := 2) (d := 29) (v := .agg (ctv DB B nb cb).toArray) rfl rfl (by kernel_rfl) (by kernel_rfl) (by kernel_rfl) (fun _ _ _ h => h) (by rfl) (fun w' hSw => exec_load_ct rfl (KA.out w' hSw).2.1 rfl) HS ?_
    simp only [Act.put, List.setIfInBounds_toArray, List.set_cons_zero, List.set_cons_succ]
    refine wpAnyH_ready (rs := [1, 4, 5]) (by kernel_rfl) (by simp) ?_
    refine AllReadyH.cons rfl (fun K hK => ?_) (AllReadyH.cons rfl (fun K hK => ?_) (AllReadyH.cons rfl (fun K hK => ?_) AllReadyH.nil))
    · as_aux_lemma =>
        go_simp
        refine Calls.mono (PA.out _ HS) ?_
        rintro e v1 ⟨rfl, bv⟩
        have HV : Below w3.heap.size w3 v1 := bstep HS bv
        refine hK.out _ _ HV (fun HT1 => ?_)
        clear hK HV bv
        try simp only [Act.put, List.setIfInBounds_toArray, List.set_cons_zero, List.set_cons_succ]
        refine wpAnyH_ready (rs := [3, 4, 5]) (by kernel_rfl) (by simp) ?_
        refine AllReadyH.cons rfl (fun K hK => ?_) (AllReadyH.cons rfl (fun K hK => ?_) (AllReadyH.cons rfl (fun K hK => ?_) AllReadyH.nil))
        · as_aux_lemma =>
            go_simp
            refine Calls.mono (PB.out _ HT1) ?_
            rintro e v2 ⟨rfl, bv⟩
            have HV : Below w3.heap.size w3 v2 := bstep HT1 bv
            refine hK.out _ _ HV (fun HT2 => ?_)
            clear hK HV bv
            try simp only [Act.put, List.setIfInBounds_toArray, List.set_cons_zero, List.set_cons_succ]
            refine wpAnyH_ready (rs := [4, 5]) (by kernel_rfl) (by simp) ?_
            refine AllReadyH.cons rfl (fun K hK => ?_) (AllReadyH.cons rfl (fun K hK => ?_) AllReadyH.nil)
            · as_aux_lemma =>
                refine step_alloc_lf rfl rfl 5 rfl ?_
                intro v3 mv bv sv
                obtain ⟨p5, hp5⟩ : ∃ p, p = v2.heap.size := ⟨_, rfl⟩
                change LfAt v3 (v2.heap.size) Lf.zero at mv
                rw [← hp5] at mv
                have HV : Below w3.heap.size w3 v3 := bstep HT2 bv
                have gp5 : w3.heap.size ≤ p5 := by have := HT2.size; omega
                have F5 := Lib.hid mv
                refine hK.out _ _ HV (fun HT3 => ?_)
                rw [← hp5]
                clear hK HV bv mv sv hp5
                try simp only [Act.put, List.setIfInBounds_toArray, List.set_cons_zero, List.set_cons_succ]
                refine wpAnyH_ready (rs := [5]) (by kernel_rfl) (by simp) ?_
                refine AllReadyH.cons rfl (fun K hK => ?_) AllReadyH.nil
                refine step_alloc_lf rfl rfl 6 rfl ?_
                intro v4 mv bv sv
                obtain ⟨p6, hp6⟩ : ∃ p, p = v3.heap.size := ⟨_, rfl⟩
                change LfAt v4 (v3.heap.size) Lf.zero at mv
                rw [← hp6] at mv
                have HV : Below w3.heap.size w3 v4 := bstep HT3 bv
                have gp6 : w3.heap.size ≤ p6 := by have := HT3.size; omega
                have hd56 : p5 < p6 := by have := F5.out.lt; omega
                have F5 := Lib.hid (F5.out.below bv)
                have F6 := Lib.hid mv
                refine hK.out _ _ HV (fun HT4 => ?_)
                rw [← hp6]
                clear hK HV bv mv sv hp6
                try simp only [Act.put, List.setIfInBounds_toArray, List.set_cons_zero, List.set_cons_succ]
                refine wpAnyH_ready (rs := [6]) (by kernel_rfl) (by simp) ?_
                refine AllReadyH.cons rfl (fun K hK => ?_) AllReadyH.nil
                refine step_store_lf rfl rfl _ _ rfl p5 Lf.zero P F5.out POK.out rfl rfl ?_
                intro x1 m1 k1 s1
                have F5 := Lib.hid m1
                have F6 := Lib.hid (F6.out.keep k1 (by omega))
                have HB1 : Below w3.heap.size w3 x1 := k1.below (fun k hk => by omega) HT4 HT4.size
                refine hK.out _ _ HB1 (fun HX1 => ?_)
                clear hK m1 k1 s1 HB1
                try simp only [Act.put, List.setIfInBounds_toArray, List.set_cons_zero, List.set_cons_succ]
                refine wpAnyH_ready (rs := [7]) (by kernel_rfl) (by simp) ?_
                refine AllReadyH.cons rfl (fun K hK => ?_) AllReadyH.nil
                refine step_store_lf rfl rfl _ _ rfl p6 Lf.zero Q F6.out QOK.out rfl rfl ?_
                intro x2 m2 k2 s2
                have F6 := Lib.hid m2
                have F5 := Lib.hid (F5.out.keep k2 (by omega))
                have HB2 : Below w3.heap.size w3 x2 := k2.below (fun k hk => by omega) HX1 HX1.size
                refine hK.out _ _ HB2 (fun HX2 => ?_)
                clear hK m2 k2 s2 HB2
                try simp only [Act.put, List.setIfInBounds_toArray, List.set_cons_zero, List.set_cons_succ]
                refine wpAnyH_done (by kernel_rfl) ?_ _
                go_wp2
                go_meet
                case rel => exact ⟨p5, p6, rfl, rfl, by omega, by omega, by omega, F5.out, F6.out, HX2⟩
            · as_aux_lemma =>
                refine step_alloc_lf rfl rfl 6 rfl ?_
                intro v3 mv bv sv
                obtain ⟨p6, hp6⟩ : ∃ p, p = v2.heap.size := ⟨_, rfl⟩
                change LfAt v3 (v2.heap.size) Lf.zero at mv
                rw [← hp6] at mv
                have HV : Below w3.heap.size w3 v3 := bstep HT2 bv
                have gp6 : w3.heap.size ≤ p6 := by have := HT2.size; omega
                have F6 := Lib.hid mv
                refine hK.out _ _ HV (fun HT3 => ?_)
                rw [← hp6]
                clear hK HV bv mv sv hp6
                try simp only [Act.put, List.setIfInBounds_toArray, List.set_cons_zero, List.set_cons_succ]
                refine wpAnyH_ready (rs := [4]) (by kernel_rfl) (by simp) ?_
                refine AllReadyH.cons rfl (fun K hK => ?_) AllReadyH.nil
                refine step_alloc_lf rfl rfl 5 rfl ?_
                intro v4 mv bv sv
                obtain ⟨p5, hp5⟩ : ∃ p, p = v3.heap.size := ⟨_, rfl⟩
                change LfAt v4 (v3.heap.size) Lf.zero at mv
                rw [← hp5] at mv
                have HV : Below w3.heap.size w3 v4 := bstep HT3 bv
                have gp5 : w3.heap.size ≤ p5 := by have := HT3.size; omega
                have hd56 : p6 < p5 := by have := F6.out.lt; omega
                have F6 := Lib.hid (F6.out.below bv)
                have F5 := Lib.hid mv
                refine hK.out _ _ HV (fun HT4 => ?_)
                rw [← hp5]
                clear hK HV bv mv sv hp5
                try simp only [Act.put, List.setIfInBounds_toArray, List.set_cons_zero, List.set_cons_succ]
                refine wpAnyH_ready (rs := [6]) (by kernel_rfl) (by simp) ?_
                refine AllReadyH.cons rfl (fun K hK => ?_) AllReadyH.nil
                refine step_store_lf rfl rfl _ _ rfl p5 Lf.zero P F5.out POK.out rfl rfl ?_
                intro x1 m1 k1 s1
                have F5 := Lib.hid m1
                have F6 := Lib.hid (F6.out.keep k1 (by omega))
                have HB1 : Below w3.heap.size w3 x1 := k1.below (fun k hk => by omega) HT4 HT4.size
                refine hK.out _ _ HB1 (fun HX1 => ?_)
                clear hK m1 k1 s1 HB1
                try simp only [Act.put, List.setIfInBounds_toArray, List.set_cons_zero, List.set_cons_succ]
                refine wpAnyH_ready (rs := [7]) (by kernel_rfl) (by simp) ?_
                refine AllReadyH.cons rfl (fun K hK => ?_) AllReadyH.nil
                refine step_store_lf rfl rfl _ _ rfl p6 Lf.zero Q F6.out QOK.out rfl rfl ?_
                intro x2 m2 k2 s2
                have F6 := Lib.hid m2
                have F5 := Lib.hid (F5.out.keep k2 (by omega))
                have HB2 : Below w3.heap.size w3 x2 := k2.below (fun k hk => by omega) HX1 HX1.size
                refine hK.out _ _ HB2 (fun HX2 => ?_)
                clear hK m2 k2 s2 HB2
                try simp only [Act.put, List.setIfInBounds_toArray, List.set_cons_zero, List.set_cons_succ]
                refine wpAnyH_done (by kernel_rfl) ?_ _
                go_wp2
                go_meet
                case rel => exact ⟨p5, p6, rfl, rfl, by omega, by omega, by omega, F5.out, F6.out, HX2⟩
        · as_aux_lemma =>
            refine step_alloc_lf rfl rfl 5 rfl ?_
            intro v2 mv bv sv
            obtain ⟨p5, hp5⟩ : ∃ p, p = v1.heap.size := ⟨_, rfl⟩
            change LfAt v2 (v1.heap.size) Lf.zero at mv
            rw [← hp5] at mv
            have HV : Below w3.heap.size w3 v2 := bstep HT1 bv
            have gp5 : w3.heap.size ≤ p5 := by have := HT1.size; omega
            have F5 := Lib.hid mv
            refine hK.out _ _ HV (fun HT2 => ?_)
            rw [← hp5]
            clear hK HV bv mv sv hp5
            try simp only [Act.put, List.setIfInBounds_toArray, List.set_cons_zero, List.set_cons_succ]
            refine wpAnyH_ready (rs := [3, 5]) (by kernel_rfl) (by simp) ?_
            refine AllReadyH.cons rfl (fun K hK => ?_) (AllReadyH.cons rfl (fun K hK => ?_) AllReadyH.nil)
            · as_aux_lemma =>
                go_simp
                refine Calls.mono (PB.out _ HT2) ?_
                rintro e v3 ⟨rfl, bv⟩
                have HV : Below w3.heap.size w3 v3 := bstep HT2 bv
                have F5 := Lib.hid (F5.out.below bv)
                refine hK.out _ _ HV (fun HT3 => ?_)
                clear hK HV bv
                try simp only [Act.put, List.setIfInBounds_toArray, List.set_cons_zero, List.set_cons_succ]
                refine wpAnyH_ready (rs := [5]) (by kernel_rfl) (by simp) ?_
                refine AllReadyH.cons rfl (fun K hK => ?_) AllReadyH.nil
                refine step_alloc_lf rfl rfl 6 rfl ?_
                intro v4 mv bv sv
                obtain ⟨p6, hp6⟩ : ∃ p, p = v3.heap.size := ⟨_, rfl⟩
                change LfAt v4 (v3.heap.size) Lf.zero at mv
                rw [← hp6] at mv
                have HV : Below w3.heap.size w3 v4 := bstep HT3 bv
                have gp6 : w3.heap.size ≤ p6 := by have := HT3.size; omega
                have hd56 : p5 < p6 := by have := F5.out.lt; omega
                have F5 := Lib.hid (F5.out.below bv)
                have F6 := Lib.hid mv
                refine hK.out _ _ HV (fun HT4 => ?_)
                rw [← hp6]
                clear hK HV bv mv sv hp6
                try simp only [Act.put, List.setIfInBounds_toArray, List.set_cons_zero, List.set_cons_succ]
                refine wpAnyH_ready (rs := [6]) (by kernel_rfl) (by simp) ?_
                refine AllReadyH.cons rfl (fun K hK => ?_) AllReadyH.nil
                refine step_store_lf rfl rfl _ _ rfl p5 Lf.zero P F5.out POK.out rfl rfl ?_
                intro x1 m1 k1 s1
                have F5 := Lib.hid m1
                have F6 := Lib.hid (F6.out.keep k1 (by omega))
                have HB1 : Below w3.heap.size w3 x1 := k1.below (fun k hk => by omega) HT4 HT4.size
                refine hK.out _ _ HB1 (fun HX1 => ?_)
                clear hK m1 k1 s1 HB1
                try simp only [Act.put, List.setIfInBounds_toArray, List.set_cons_zero, List.set_cons_succ]
                refine wpAnyH_ready (rs := [7]) (by kernel_rfl) (by simp) ?_
                refine AllReadyH.cons rfl (fun K hK => ?_) AllReadyH.nil
                refine step_store_lf rfl rfl _ _ rfl p6 Lf.zero Q F6.out QOK.out rfl rfl ?_
                intro x2 m2 k2 s2
                have F6 := Lib.hid m2
                have F5 := Lib.hid (F5.out.keep k2 (by omega))
                have HB2 : Below w3.heap.size w3 x2 := k2.below (fun k hk => by omega) HX1 HX1.size
                refine hK.out _ _ HB2 (fun HX2 => ?_)
                clear hK m2 k2 s2 HB2
                try simp only [Act.put, List.setIfInBounds_toArray, List.set_cons_zero, List.set_cons_succ]
                refine wpAnyH_done (by kernel_rfl) ?_ _
                go_wp2
                go_meet
                case rel => exact ⟨p5, p6, rfl, rfl, by omega, by omega, by omega, F5.out, F6.out, HX2⟩
            · as_aux_lemma =>
                refine step_alloc_lf rfl rfl 6 rfl ?_
                intro v3 mv bv sv
                obtain ⟨p6, hp6⟩ : ∃ p, p = v2.heap.size := ⟨_, rfl⟩
                change LfAt v3 (v2.heap.size) Lf.zero at mv
                rw [← hp6] at mv
                have HV : Below w3.heap.size w3 v3 := bstep HT2 bv
                have gp6 : w3.heap.size ≤ p6 := by have := HT2.size; omega
                have hd56 : p5 < p6 := by have := F5.out.lt; omega
                have F5 := Lib.hid (F5.out.below bv)
                have F6 := Lib.hid mv
                refine hK.out _ _ HV (fun HT3 => ?_)
                rw [← hp6]
                clear hK HV bv mv sv hp6
                try simp only [Act.put, List.setIfInBounds_toArray, List.set_cons_zero, List.set_cons_succ]
                refine wpAnyH_ready (rs := [3]) (by kernel_rfl) (by simp) ?_
                refine AllReadyH.cons rfl (fun K hK => ?_) AllReadyH.nil
                go_simp
                refine Calls.mono (PB.out _ HT3) ?_
                rintro e v4 ⟨rfl, bv⟩
                have HV : Below w3.heap.size w3 v4 := bstep HT3 bv
                have F5 := Lib.hid (F5.out.below bv)
                have F6 := Lib.hid (F6.out.below bv)
                refine hK.out _ _ HV (fun HT4 => ?_)
                clear hK HV bv
                try simp only [Act.put, List.setIfInBounds_toArray, List.set_cons_zero, List.set_cons_succ]
                refine wpAnyH_ready (rs := [6]) (by kernel_rfl) (by simp) ?_
                refine AllReadyH.cons rfl (fun K hK => ?_) AllReadyH.nil
                refine step_store_lf rfl rfl _ _ rfl p5 Lf.zero P F5.out POK.out rfl rfl ?_
                intro x1 m1 k1 s1
                have F5 := Lib.hid m1
                have F6 := Lib.hid (F6.out.keep k1 (by omega))
                have HB1 : Below w3.heap.size w3 x1 := k1.below (fun k hk => by omega) HT4 HT4.size
                refine hK.out _ _ HB1 (fun HX1 => ?_)
                clear hK m1 k1 s1 HB1
                try simp only [Act.put, List.setIfInBounds_toArray, List.set_cons_zero, List.set_cons_succ]
                refine wpAnyH_ready (rs := [7]) (by kernel_rfl) (by simp) ?_
                refine AllReadyH.cons rfl (fun K hK => ?_) AllReadyH.nil
                refine step_store_lf rfl rfl _ _ rfl p6 Lf.zero Q F6.out QOK.out rfl rfl ?_
                intro x2 m2 k2 s2
                have F6 := Lib.hid m2
                have F5 := Lib.hid (F5.out.keep k2 (by omega))
                have HB2 : Below w3.heap.size w3 x2 := k2.below (fun k hk => by omega) HX1 HX1.size
                refine hK.out _ _ HB2 (fun HX2 => ?_)
                clear hK m2 k2 s2 HB2
                try simp only [Act.put, List.setIfInBounds_toArray, List.set_cons_zero, List.set_cons_succ]
                refine wpAnyH_done (by kernel_rfl) ?_ _
                go_wp2
                go_meet
                case rel => exact ⟨p5, p6, rfl, rfl, by omega, by omega, by omega, F5.out, F6.out, HX2⟩
        · as_aux_lemma =>
            refine step_alloc_lf rfl rfl 6 rfl ?_
            intro v2 mv bv sv
            obtain ⟨p6, hp6⟩ : ∃ p, p = v1.heap.size := ⟨_, rfl⟩
            change LfAt v2 (v1.heap.size) Lf.zero at mv
            rw [← hp6] at mv
            have HV : Below w3.heap.size w3 v2 := bstep HT1 bv
            have gp6 : w3.heap.size ≤ p6 := by have := HT1.size; omega
            have F6 := Lib.hid mv
            refine hK.out _ _ HV (fun HT2 => ?_)
            rw [← hp6]
            clear hK HV bv mv sv hp6
            try simp only [Act.put, List.setIfInBounds_toArray, List.set_cons_zero, List.set_cons_succ]
            refine wpAnyH_ready (rs := [3, 4]) (by kernel_rfl) (by simp) ?_
            refine AllReadyH.cons rfl (fun K hK => ?_) (AllReadyH.cons rfl (fun K hK => ?_) AllReadyH.nil)
            · as_aux_lemma =>
                go_simp
                refine Calls.mono (PB.out _ HT2) ?_
                rintro e v3 ⟨rfl, bv⟩
                have HV : Below w3.heap.size w3 v3 := bstep HT2 bv
                have F6 := Lib.hid (F6.out.below bv)
                refine hK.out _ _ HV (fun HT3 => ?_)
                clear hK HV bv
                try simp only [Act.put, List.setIfInBounds_toArray, List.set_cons_zero, List.set_cons_succ]
                refine wpAnyH_ready (rs := [4]) (by kernel_rfl) (by simp) ?_
                refine AllReadyH.cons rfl (fun K hK => ?_) AllReadyH.nil
                refine step_alloc_lf rfl rfl 5 rfl ?_
                intro v4 mv bv sv
                obtain ⟨p5, hp5⟩ : ∃ p, p = v3.heap.size := ⟨_, rfl⟩
                change LfAt v4 (v3.heap.size) Lf.zero at mv
                rw [← hp5] at mv
                have HV : Below w3.heap.size w3 v4 := bstep HT3 bv
                have gp5 : w3.heap.size ≤ p5 := by have := HT3.size; omega
                have hd56 : p6 < p5 := by have := F6.out.lt; omega
                have F6 := Lib.hid (F6.out.below bv)
                have F5 := Lib.hid mv
                refine hK.out _ _ HV (fun HT4 => ?_)
                rw [← hp5]
                clear hK HV bv mv sv hp5
                try simp only [Act.put, List.setIfInBounds_toArray, List.set_cons_zero, List.set_cons_succ]
                refine wpAnyH_ready (rs := [6]) (by kernel_rfl) (by simp) ?_
                refine AllReadyH.cons rfl (fun K hK => ?_) AllReadyH.nil
                refine step_store_lf rfl rfl _ _ rfl p5 Lf.zero P F5.out POK.out rfl rfl ?_
                intro x1 m1 k1 s1
                have F5 := Lib.hid m1
                have F6 := Lib.hid (F6.out.keep k1 (by omega))
                have HB1 : Below w3.heap.size w3 x1 := k1.below (fun k hk => by omega) HT4 HT4.size
                refine hK.out _ _ HB1 (fun HX1 => ?_)
                clear hK m1 k1 s1 HB1
                try simp only [Act.put, List.setIfInBounds_toArray, List.set_cons_zero, List.set_cons_succ]
                refine wpAnyH_ready (rs := [7]) (by kernel_rfl) (by simp) ?_
                refine AllReadyH.cons rfl (fun K hK => ?_) AllReadyH.nil
                refine step_store_lf rfl rfl _ _ rfl p6 Lf.zero Q F6.out QOK.out rfl rfl ?_
                intro x2 m2 k2 s2
                have F6 := Lib.hid m2
                have F5 := Lib.hid (F5.out.keep k2 (by omega))
                have HB2 : Below w3.heap.size w3 x2 := k2.below (fun k hk => by omega) HX1 HX1.size
                refine hK.out _ _ HB2 (fun HX2 => ?_)
                clear hK m2 k2 s2 HB2
                try simp only [Act.put, List.setIfInBounds_toArray, List.set_cons_zero, List.set_cons_succ]
                refine wpAnyH_done (by kernel_rfl) ?_ _
                go_wp2
                go_meet
                case rel => exact ⟨p5, p6, rfl, rfl, by omega, by omega, by omega, F5.out, F6.out, HX2⟩
            · as_aux_lemma =>
                refine step_alloc_lf rfl rfl 5 rfl ?_
                intro v3 mv bv sv
                obtain ⟨p5, hp5⟩ : ∃ p, p = v2.heap.size := ⟨_, rfl⟩
                change LfAt v3 (v2.heap.size) Lf.zero at mv
                rw [← hp5] at mv
                have HV : Below w3.heap.size w3 v3 := bstep HT2 bv
                have gp5 : w3.heap.size ≤ p5 := by have := HT2.size; omega
                have hd56 : p6 < p5 := by have := F6.out.lt; omega
                have F6 := Lib.hid (F6.out.below bv)
                have F5 := Lib.hid mv
                refine hK.out _ _ HV (fun HT3 => ?_)
                rw [← hp5]
                clear hK HV bv mv sv hp5
                try simp only [Act.put, List.setIfInBounds_toArray, List.set_cons_zero, List.set_cons_succ]
                refine wpAnyH_ready (rs := [3]) (by kernel_rfl) (by simp) ?_
                refine AllReadyH.cons rfl (fun K hK => ?_) AllReadyH.nil
                go_simp
                refine Calls.mono (PB.out _ HT3) ?_
                rintro e v4 ⟨rfl, bv⟩
                have HV : Below w3.heap.size w3 v4 := bstep HT3 bv
                have F5 := Lib.hid (F5.out.below bv)
                have F6 := Lib.hid (F6.out.below bv)
                refine hK.out _ _ HV (fun HT4 => ?_)
                clear hK HV bv
                try simp only [Act.put, List.setIfInBounds_toArray, List.set_cons_zero, List.set_cons_succ]
                refine wpAnyH_ready (rs := [6]) (by kernel_rfl) (by simp) ?_
                refine AllReadyH.cons rfl (fun K hK => ?_) AllReadyH.nil
                refine step_store_lf rfl rfl _ _ rfl p5 Lf.zero P F5.out POK.out rfl rfl ?_
                intro x1 m1 k1 s1
                have F5 := Lib.hid m1
                have F6 := Lib.hid (F6.out.keep k1 (by omega))
                have HB1 : Below w3.heap.size w3 x1 := k1.below (fun k hk => by omega) HT4 HT4.size
                refine hK.out _ _ HB1 (fun HX1 => ?_)
                clear hK m1 k1 s1 HB1
                try simp only [Act.put, List.setIfInBounds_toArray, List.set_cons_zero, List.set_cons_succ]
                refine wpAnyH_ready (rs := [7]) (by kernel_rfl) (by simp) ?_
                refine AllReadyH.cons rfl (fun K hK => ?_) AllReadyH.nil
                refine step_store_lf rfl rfl _ _ rfl p6 Lf.zero Q F6.out QOK.out rfl rfl ?_
                intro x2 m2 k2 s2
                have F6 := Lib.hid m2
                have F5 := Lib.hid (F5.out.keep k2 (by omega))
                have HB2 : Below w3.heap.size w3 x2 := k2.below (fun k hk => by omega) HX1 HX1.size
                refine hK.out _ _ HB2 (fun HX2 => ?_)
                clear hK m2 k2 s2 HB2
                try simp only [Act.put, List.setIfInBounds_toArray, List.set_cons_zero, List.set_cons_succ]
                refine wpAnyH_done (by kernel_rfl) ?_ _
                go_wp2
                go_meet
                case rel => exact ⟨p5, p6, rfl, rfl, by omega, by omega, by omega, F5.out, F6.out, HX2⟩
    · as_aux_lemma =>
        refine step_alloc_lf rfl rfl 5 rfl ?_
        intro v1 mv bv sv
        obtain ⟨p5, hp5⟩ : ∃ p, p = w3.drew.heap.size := ⟨_, rfl⟩
        change LfAt v1 (w3.drew.heap.size) Lf.zero at mv
        rw [← hp5] at mv
        have HV : Below w3.heap.size w3 v1 := bstep HS bv
        have gp5 : w3.heap.size ≤ p5 := by have := HS.size; omega
        have F5 := Lib.hid mv
        refine hK.out _ _ HV (fun HT1 => ?_)
        rw [← hp5]
        clear hK HV bv mv sv hp5
        try simp only [Act.put, List.setIfInBounds_toArray, List.set_cons_zero, List.set_cons_succ]
        refine wpAnyH_ready (rs := [1, 5]) (by kernel_rfl) (by simp) ?_
        refine AllReadyH.cons rfl (fun K hK => ?_) (AllReadyH.cons rfl (fun K hK => ?_) AllReadyH.nil)
        · as_aux_lemma =>
            go_simp
            refine Calls.mono (PA.out _ HT1) ?_
            rintro e v2 ⟨rfl, bv⟩
            have HV : Below w3.heap.size w3 v2 := bstep HT1 bv
            have F5 := Lib.hid (F5.out.below bv)
            refine hK.out _ _ HV (fun HT2 => ?_)
            clear hK HV bv
            try simp only [Act.put, List.setIfInBounds_toArray, List.set_cons_zero, List.set_cons_succ]
            refine wpAnyH_ready (rs := [3, 5]) (by kernel_rfl) (by simp) ?_
            refine AllReadyH.cons rfl (fun K hK => ?_) (AllReadyH.cons rfl (fun K hK => ?_) AllReadyH.nil)
            · as_aux_lemma =>
                go_simp
                refine Calls.mono (PB.out _ HT2) ?_
                rintro e v3 ⟨rfl, bv⟩
                have HV : Below w3.heap.size w3 v3 := bstep HT2 bv
                have F5 := Lib.hid (F5.out.below bv)
                refine hK.out _ _ HV (fun HT3 => ?_)
                clear hK HV bv
                try simp only [Act.put, List.setIfInBounds_toArray, List.set_cons_zero, List.set_cons_succ]
                refine wpAnyH_ready (rs := [5]) (by kernel_rfl) (by simp) ?_
                refine AllReadyH.cons rfl (fun K hK => ?_) AllReadyH.nil
                refine step_alloc_lf rfl rfl 6 rfl ?_
                intro v4 mv bv sv
                obtain ⟨p6, hp6⟩ : ∃ p, p = v3.heap.size := ⟨_, rfl⟩
                change LfAt v4 (v3.heap.size) Lf.zero at mv
                rw [← hp6] at mv
                have HV : Below w3.heap.size w3 v4 := bstep HT3 bv
                have gp6 : w3.heap.size ≤ p6 := by have := HT3.size; omega
                have hd56 : p5 < p6 := by have := F5.out.lt; omega
                have F5 := Lib.hid (F5.out.below bv)
                have F6 := Lib.hid mv
                refine hK.out _ _ HV (fun HT4 => ?_)
                rw [← hp6]
                clear hK HV bv mv sv hp6
                try simp only [Act.put, List.setIfInBounds_toArray, List.set_cons_zero, List.set_cons_succ]
                refine wpAnyH_ready (rs := [6]) (by kernel_rfl) (by simp) ?_
                refine AllReadyH.cons rfl (fun K hK => ?_) AllReadyH.nil
                refine step_store_lf rfl rfl _ _ rfl p5 Lf.zero P F5.out POK.out rfl rfl ?_
                intro x1 m1 k1 s1
                have F5 := Lib.hid m1
                have F6 := Lib.hid (F6.out.keep k1 (by omega))
                have HB1 : Below w3.heap.size w3 x1 := k1.below (fun k hk => by omega) HT4 HT4.size
                refine hK.out _ _ HB1 (fun HX1 => ?_)
                clear hK m1 k1 s1 HB1
                try simp only [Act.put, List.setIfInBounds_toArray, List.set_cons_zero, List.set_cons_succ]
                refine wpAnyH_ready (rs := [7]) (by kernel_rfl) (by simp) ?_
                refine AllReadyH.cons rfl (fun K hK => ?_) AllReadyH.nil
                refine step_store_lf rfl rfl _ _ rfl p6 Lf.zero Q F6.out QOK.out rfl rfl ?_
                intro x2 m2 k2 s2
                have F6 := Lib.hid m2
                have F5 := Lib.hid (F5.out.keep k2 (by omega))
                have HB2 : Below w3.heap.size w3 x2 := k2.below (fun k hk => by omega) HX1 HX1.size
                refine hK.out _ _ HB2 (fun HX2 => ?_)
                clear hK m2 k2 s2 HB2
                try simp only [Act.put, List.setIfInBounds_toArray, List.set_cons_zero, List.set_cons_succ]
                refine wpAnyH_done (by kernel_rfl) ?_ _
                go_wp2
                go_meet
                case rel => exact ⟨p5, p6, rfl, rfl, by omega, by omega, by omega, F5.out, F6.out, HX2⟩
            · as_aux_lemma =>
                refine step_alloc_lf rfl rfl 6 rfl ?_
                intro v3 mv bv sv
                obtain ⟨p6, hp6⟩ : ∃ p, p = v2.heap.size := ⟨_, rfl⟩
                change LfAt v3 (v2.heap.size) Lf.zero at mv
                rw [← hp6] at mv
                have HV : Below w3.heap.size w3 v3 := bstep HT2 bv
                have gp6 : w3.heap.size ≤ p6 := by have := HT2.size; omega
                have hd56 : p5 < p6 := by have := F5.out.lt; omega
                have F5 := Lib.hid (F5.out.below bv)
                have F6 := Lib.hid mv
                refine hK.out _ _ HV (fun HT3 => ?_)
                rw [← hp6]
                clear hK HV bv mv sv hp6
                try simp only [Act.put, List.setIfInBounds_toArray, List.set_cons_zero, List.set_cons_succ]
                refine wpAnyH_ready (rs := [3]) (by kernel_rfl) (by simp) ?_
                refine AllReadyH.cons rfl (fun K hK => ?_) AllReadyH.nil
                go_simp
                refine Calls.mono (PB.out _ HT3) ?_
                rintro e v4 ⟨rfl, bv⟩
                have HV : Below w3.heap.size w3 v4 := bstep HT3 bv
                have F5 := Lib.hid (F5.out.below bv)
                have F6 := Lib.hid (F6.out.below bv)
                refine hK.out _ _ HV (fun HT4 => ?_)
                clear hK HV bv
                try simp only [Act.put, List.setIfInBounds_toArray, List.set_cons_zero, List.set_cons_succ]
                refine wpAnyH_ready (rs := [6]) (by kernel_rfl) (by simp) ?_
                refine AllReadyH.cons rfl (fun K hK => ?_) AllReadyH.nil
                refine step_store_lf rfl rfl _ _ rfl p5 Lf.zero P F5.out POK.out rfl rfl ?_
                intro x1 m1 k1 s1
                have F5 := Lib.hid m1
                have F6 := Lib.hid (F6.out.keep k1 (by omega))
                have HB1 : Below w3.heap.size w3 x1 := k1.below (fun k hk => by omega) HT4 HT4.size
                refine hK.out _ _ HB1 (fun HX1 => ?_)
                clear hK m1 k1 s1 HB1
                try simp only [Act.put, List.setIfInBounds_toArray, List.set_cons_zero, List.set_cons_succ]
                refine wpAnyH_ready (rs := [7]) (by kernel_rfl) (by simp) ?_
                refine AllReadyH.cons rfl (fun K hK => ?_) AllReadyH.nil
                refine step_store_lf rfl rfl _ _ rfl p6 Lf.zero Q F6.out QOK.out rfl rfl ?_
                intro x2 m2 k2 s2
                have F6 := Lib.hid m2
                have F5 := Lib.hid (F5.out.keep k2 (by omega))
                have HB2 : Below w3.heap.size w3 x2 := k2.below (fun k hk => by omega) HX1 HX1.size
                refine hK.out _ _ HB2 (fun HX2 => ?_)
                clear hK m2 k2 s2 HB2
                try simp only [Act.put, List.setIfInBounds_toArray, List.set_cons_zero, List.set_cons_succ]
                refine wpAnyH_done (by kernel_rfl) ?_ _
                go_wp2
                go_meet
                case rel => exact ⟨p5, p6, rfl, rfl, by omega, by omega, by omega, F5.out, F6.out, HX2⟩
        · as_aux_lemma =>
            refine step_alloc_lf rfl rfl 6 rfl ?_
            intro v2 mv bv sv
            obtain ⟨p6, hp6⟩ : ∃ p, p = v1.heap.size := ⟨_, rfl⟩
            change LfAt v2 (v1.heap.size) Lf.zero at mv
            rw [← hp6] at mv
            have HV : Below w3.heap.size w3 v2 := bstep HT1 bv
            have gp6 : w3.heap.size ≤ p6 := by have := HT1.size; omega
            have hd56 : p5 < p6 := by have := F5.out.lt; omega
            have F5 := Lib.hid (F5.out.below bv)
            have F6 := Lib.hid mv
            refine hK.out _ _ HV (fun HT2 => ?_)
            rw [← hp6]
            clear hK HV bv mv sv hp6
            try simp only [Act.put, List.setIfInBounds_toArray, List.set_cons_zero, List.set_cons_succ]
            refine wpAnyH_ready (rs := [1]) (by kernel_rfl) (by simp) ?_
            refine AllReadyH.cons rfl (fun K hK => ?_) AllReadyH.nil
            go_simp
            refine Calls.mono (PA.out _ HT2) ?_
            rintro e v3 ⟨rfl, bv⟩
            have HV : Below w3.heap.size w3 v3 := bstep HT2 bv
            have F5 := Lib.hid (F5.out.below bv)
            have F6 := Lib.hid (F6.out.below bv)
            refine hK.out _ _ HV (fun HT3 => ?_)
            clear hK HV bv
            try simp only [Act.put, List.setIfInBounds_toArray, List.set_cons_zero, List.set_cons_succ]
            refine wpAnyH_ready (rs := [3]) (by kernel_rfl) (by simp) ?_
            refine AllReadyH.cons rfl (fun K hK => ?_) AllReadyH.nil
            go_simp
            refine Calls.mono (PB.out _ HT3) ?_
            rintro e v4 ⟨rfl, bv⟩
            have HV : Below w3.heap.size w3 v4 := bstep HT3 bv
            have F5 := Lib.hid (F5.out.below bv)
            have F6 := Lib.hid (F6.out.below bv)
            refine hK.out _ _ HV (fun HT4 => ?_)
            clear hK HV bv
            try simp only [Act.put, List.setIfInBounds_toArray, List.set_cons_zero, List.set_cons_succ]
            refine wpAnyH_ready (rs := [6]) (by kernel_rfl) (by simp) ?_
            refine AllReadyH.cons rfl (fun K hK => ?_) AllReadyH.nil
            refine step_store_lf rfl rfl _ _ rfl p5 Lf.zero P F5.out POK.out rfl rfl ?_
            intro x1 m1 k1 s1
            have F5 := Lib.hid m1
            have F6 := Lib.hid (F6.out.keep k1 (by omega))
            have HB1 : Below w3.heap.size w3 x1 := k1.below (fun k hk => by omega) HT4 HT4.size
            refine hK.out _ _ HB1 (fun HX1 => ?_)
            clear hK m1 k1 s1 HB1
            try simp only [Act.put, List.setIfInBounds_toArray, List.set_cons_zero, List.set_cons_succ]
            refine wpAnyH_ready (rs := [7]) (by kernel_rfl) (by simp) ?_
            refine AllReadyH.cons rfl (fun K hK => ?_) AllReadyH.nil
            refine step_store_lf rfl rfl _ _ rfl p6 Lf.zero Q F6.out QOK.out rfl rfl ?_
            intro x2 m2 k2 s2
            have F6 := Lib.hid m2
            have F5 := Lib.hid (F5.out.keep k2 (by omega))
            have HB2 : Below w3.heap.size w3 x2 := k2.below (fun k hk => by omega) HX1 HX1.size
            refine hK.out _ _ HB2 (fun HX2 => ?_)
            clear hK m2 k2 s2 HB2
            try simp only [Act.put, List.setIfInBounds_toArray, List.set_cons_zero, List.set_cons_succ]
            refine wpAnyH_done (by kernel_rfl) ?_ _
            go_wp2
            go_meet
            case rel => exact ⟨p5, p6, rfl, rfl, by omega, by omega, by omega, F5.out, F6.out, HX2⟩
    · as_aux_lemma =>
        refine step_alloc_lf rfl rfl 6 rfl ?_
        intro v1 mv bv sv
        obtain ⟨p6, hp6⟩ : ∃ p, p = w3.drew.heap.size := ⟨_, rfl⟩
        change LfAt v1 (w3.drew.heap.size) Lf.zero at mv
        rw [← hp6] at mv
        have HV : Below w3.heap.size w3 v1 := bstep HS bv
        have gp6 : w3.heap.size ≤ p6 := by have := HS.size; omega
        have F6 := Lib.hid mv
        refine hK.out _ _ HV (fun HT1 => ?_)
        rw [← hp6]
        clear hK HV bv mv sv hp6
        try simp only [Act.put, List.setIfInBounds_toArray, List.set_cons_zero, List.set_cons_succ]
        refine wpAnyH_ready (rs := [1, 4]) (by kernel_rfl) (by simp) ?_
        refine AllReadyH.cons rfl (fun K hK => ?_) (AllReadyH.cons rfl (fun K hK => ?_) AllReadyH.nil)
        · as_aux_lemma =>
            go_simp
            refine Calls.mono (PA.out _ HT1) ?_
            rintro e v2 ⟨rfl, bv⟩
            have HV : Below w3.heap.size w3 v2 := bstep HT1 bv
            have F6 := Lib.hid (F6.out.below bv)
            refine hK.out _ _ HV (fun HT2 => ?_)
            clear hK HV bv
            try simp only [Act.put, List.setIfInBounds_toArray, List.set_cons_zero, List.set_cons_succ]
            refine wpAnyH_ready (rs := [3, 4]) (by kernel_rfl) (by simp) ?_
            refine AllReadyH.cons rfl (fun K hK => ?_) (AllReadyH.cons rfl (fun K hK => ?_) AllReadyH.nil)
            · as_aux_lemma =>
                go_simp
                refine Calls.mono (PB.out _ HT2) ?_
                rintro e v3 ⟨rfl, bv⟩
                have HV : Below w3.heap.size w3 v3 := bstep HT2 bv
                have F6 := Lib.hid (F6.out.below bv)
                refine hK.out _ _ HV (fun HT3 => ?_)
                clear hK HV bv
                try simp only [Act.put, List.setIfInBounds_toArray, List.set_cons_zero, List.set_cons_succ]
                refine wpAnyH_ready (rs := [4]) (by kernel_rfl) (by simp) ?_
                refine AllReadyH.cons rfl (fun K hK => ?_) AllReadyH.nil
                refine step_alloc_lf rfl rfl 5 rfl ?_
                intro v4 mv bv sv
                obtain ⟨p5, hp5⟩ : ∃ p, p = v3.heap.size := ⟨_, rfl⟩
                change LfAt v4 (v3.heap.size) Lf.zero at mv
                rw [← hp5] at mv
                have HV : Below w3.heap.size w3 v4 := bstep HT3 bv
                have gp5 : w3.heap.size ≤ p5 := by have := HT3.size; omega
                have hd56 : p6 < p5 := by have := F6.out.lt; omega
                have F6 := Lib.hid (F6.out.below bv)
                have F5 := Lib.hid mv
                refine hK.out _ _ HV (fun HT4 => ?_)
                rw [← hp5]
                clear hK HV bv mv sv hp5
                try simp only [Act.put, List.setIfInBounds_toArray, List.set_cons_zero, List.set_cons_succ]
                refine wpAnyH_ready (rs := [6]) (by kernel_rfl) (by simp) ?_
                refine AllReadyH.cons rfl (fun K hK => ?_) AllReadyH.nil
                refine step_store_lf rfl rfl _ _ rfl p5 Lf.zero P F5.out POK.out rfl rfl ?_
                intro x1 m1 k1 s1
                have F5 := Lib.hid m1
                have F6 := Lib.hid (F6.out.keep k1 (by omega))
                have HB1 : Below w3.heap.size w3 x1 := k1.below (fun k hk => by omega) HT4 HT4.size
                refine hK.out _ _ HB1 (fun HX1 => ?_)
                clear hK m1 k1 s1 HB1
                try simp only [Act.put, List.setIfInBounds_toArray, List.set_cons_zero, List.set_cons_succ]
                refine wpAnyH_ready (rs := [7]) (by kernel_rfl) (by simp) ?_
                refine AllReadyH.cons rfl (fun K hK => ?_) AllReadyH.nil
                refine step_store_lf rfl rfl _ _ rfl p6 Lf.zero Q F6.out QOK.out rfl rfl ?_
                intro x2 m2 k2 s2
                have F6 := Lib.hid m2
                have F5 := Lib.hid (F5.out.keep k2 (by omega))
                have HB2 : Below w3.heap.size w3 x2 := k2.below (fun k hk => by omega) HX1 HX1.size
                refine hK.out _ _ HB2 (fun HX2 => ?_)
                clear hK m2 k2 s2 HB2
                try simp only [Act.put, List.setIfInBounds_toArray, List.set_cons_zero, List.set_cons_succ]
                refine wpAnyH_done (by kernel_rfl) ?_ _
                go_wp2
                go_meet
                case rel => exact ⟨p5, p6, rfl, rfl, by omega, by omega, by omega, F5.out, F6.out, HX2⟩
            · as_aux_lemma =>
                refine step_alloc_lf rfl rfl 5 rfl ?_
                intro v3 mv bv sv
                obtain ⟨p5, hp5⟩ : ∃ p, p = v2.heap.size := ⟨_, rfl⟩
                change LfAt v3 (v2.heap.size) Lf.zero at mv
                rw [← hp5] at mv
                have HV : Below w3.heap.size w3 v3 := bstep HT2 bv
                have gp5 : w3.heap.size ≤ p5 := by have := HT2.size; omega
                have hd56 : p6 < p5 := by have := F6.out.lt; omega
                have F6 := Lib.hid (F6.out.below bv)
                have F5 := Lib.hid mv
                refine hK.out _ _ HV (fun HT3 => ?_)
                rw [← hp5]
                clear hK HV bv mv sv hp5
                try simp only [Act.put, List.setIfInBounds_toArray, List.set_cons_zero, List.set_cons_succ]
                refine wpAnyH_ready (rs := [3]) (by kernel_rfl) (by simp) ?_
                refine AllReadyH.cons rfl (fun K hK => ?_) AllReadyH.nil
                go_simp
                refine Calls.mono (PB.out _ HT3) ?_
                rintro e v4 ⟨rfl, bv⟩
                have HV : Below w3.heap.size w3 v4 := bstep HT3 bv
                have F5 := Lib.hid (F5.out.below bv)
                have F6 := Lib.hid (F6.out.below bv)
                refine hK.out _ _ HV (fun HT4 => ?_)
                clear hK HV bv
                try simp only [Act.put, List.setIfInBounds_toArray, List.set_cons_zero, List.set_cons_succ]
                refine wpAnyH_ready (rs := [6]) (by kernel_rfl) (by simp) ?_
                refine AllReadyH.cons rfl (fun K hK => ?_) AllReadyH.nil
                refine step_store_lf rfl rfl _ _ rfl p5 Lf.zero P F5.out POK.out rfl rfl ?_
                intro x1 m1 k1 s1
                have F5 := Lib.hid m1
                have F6 := Lib.hid (F6.out.keep k1 (by omega))
                have HB1 : Below w3.heap.size w3 x1 := k1.below (fun k hk => by omega) HT4 HT4.size
                refine hK.out _ _ HB1 (fun HX1 => ?_)
                clear hK m1 k1 s1 HB1
                try simp only [Act.put, List.setIfInBounds_toArray, List.set_cons_zero, List.set_cons_succ]
                refine wpAnyH_ready (rs := [7]) (by kernel_rfl) (by simp) ?_
                refine AllReadyH.cons rfl (fun K hK => ?_) AllReadyH.nil
                refine step_store_lf rfl rfl _ _ rfl p6 Lf.zero Q F6.out QOK.out rfl rfl ?_
                intro x2 m2 k2 s2
                have F6 := Lib.hid m2
                have F5 := Lib.hid (F5.out.keep k2 (by omega))
                have HB2 : Below w3.heap.size w3 x2 := k2.below (fun k hk => by omega) HX1 HX1.size
                refine hK.out _ _ HB2 (fun HX2 => ?_)
                clear hK m2 k2 s2 HB2
                try simp only [Act.put, List.setIfInBounds_toArray, List.set_cons_zero, List.set_cons_succ]
                refine wpAnyH_done (by kernel_rfl) ?_ _
                go_wp2
                go_meet
                case rel => exact ⟨p5, p6, rfl, rfl, by omega, by omega, by omega, F5.out, F6.out, HX2⟩
        · as_aux_lemma =>
            refine step_alloc_lf rfl rfl 5 rfl ?_
            intro v2 mv bv sv
            obtain ⟨p5, hp5⟩ : ∃ p, p = v1.heap.size := ⟨_, rfl⟩
            change LfAt v2 (v1.heap.size) Lf.zero at mv
            rw [← hp5] at mv
            have HV : Below w3.heap.size w3 v2 := bstep HT1 bv
            have gp5 : w3.heap.size ≤ p5 := by have := HT1.size; omega
            have hd56 : p6 < p5 := by have := F6.out.lt; omega
            have F6 := Lib.hid (F6.out.below bv)
            have F5 := Lib.hid mv
            refine hK.out _ _ HV (fun HT2 => ?_)
            rw [← hp5]
            clear hK HV bv mv sv hp5
            try simp only [Act.put, List.setIfInBounds_toArray, List.set_cons_zero, List.set_cons_succ]
            refine wpAnyH_ready (rs := [1]) (by kernel_rfl) (by simp) ?_
            refine AllReadyH.cons rfl (fun K hK => ?_) AllReadyH.nil
            go_simp
            refine Calls.mono (PA.out _ HT2) ?_
            rintro e v3 ⟨rfl, bv⟩
            have HV : Below w3.heap.size w3 v3 := bstep HT2 bv
            have F5 := Lib.hid (F5.out.below bv)
            have F6 := Lib.hid (F6.out.below bv)
            refine hK.out _ _ HV (fun HT3 => ?_)
            clear hK HV bv
            try simp only [Act.put, List.setIfInBounds_toArray, List.set_cons_zero, List.set_cons_succ]
            refine wpAnyH_ready (rs := [3]) (by kernel_rfl) (by simp) ?_
            refine AllReadyH.cons rfl (fun K hK => ?_) AllReadyH.nil
            go_simp
            refine Calls.mono (PB.out _ HT3) ?_
            rintro e v4 ⟨rfl, bv⟩
            have HV : Below w3.heap.size w3 v4 := bstep HT3 bv
            have F5 := Lib.hid (F5.out.below bv)
            have F6 := Lib.hid (F6.out.below bv)
            refine hK.out _ _ HV (fun HT4 => ?_)
            clear hK HV bv
            try simp only [Act.put, List.setIfInBounds_toArray, List.set_cons_zero, List.set_cons_succ]
            refine wpAnyH_ready (rs := [6]) (by kernel_rfl) (by simp) ?_
            refine AllReadyH.cons rfl (fun K hK => ?_) AllReadyH.nil
            refine step_store_lf rfl rfl _ _ rfl p5 Lf.zero P F5.out POK.out rfl rfl ?_
            intro x1 m1 k1 s1
            have F5 := Lib.hid m1
            have F6 := Lib.hid (F6.out.keep k1 (by omega))
            have HB1 : Below w3.heap.size w3 x1 := k1.below (fun k hk => by omega) HT4 HT4.size
            refine hK.out _ _ HB1 (fun HX1 => ?_)
            clear hK m1 k1 s1 HB1
            try simp only [Act.put, List.setIfInBounds_toArray, List.set_cons_zero, List.set_cons_succ]
            refine wpAnyH_ready (rs := [7]) (by kernel_rfl) (by simp) ?_
            refine AllReadyH.cons rfl (fun K hK => ?_) AllReadyH.nil
            refine step_store_lf rfl rfl _ _ rfl p6 Lf.zero Q F6.out QOK.out rfl rfl ?_
            intro x2 m2 k2 s2
            have F6 := Lib.hid m2
            have F5 := Lib.hid (F5.out.keep k2 (by omega))
            have HB2 : Below w3.heap.size w3 x2 := k2.below (fun k hk => by omega) HX1 HX1.size
            refine hK.out _ _ HB2 (fun HX2 => ?_)
            clear hK m2 k2 s2 HB2
            try simp only [Act.put, List.setIfInBounds_toArray, List.set_cons_zero, List.set_cons_succ]
            refine wpAnyH_done (by kernel_rfl) ?_ _
            go_wp2
            go_meet
            case rel => exact ⟨p5, p6, rfl, rfl, by omega, by omega, by omega, F5.out, F6.out, HX2⟩
  case rest =>
    obtain ⟨p5, p6, rfl, rfl, h56, h5, h6, l5, l6, b4⟩ := hcut
    have P4 := Lib.hid l5; have Q4 := Lib.hid l6; have B4 := Lib.hid b4
    clear l5 l6 b4 PA PB
    have RA : Hid (∀ w0, Below w3.heap.size w3 w0 → Calls Try.prog 16 #[.agg (ctv DA A na ca).toArray] w0 fun e w' => e = .returned (.bool DA.rt) ∧ Below w0.heap.size w0 w') := Lib.hid (fun w0 h => cat_any DA IA.out.ok w.heap.size A na ca w0 IA.out.ln (by unfold maxLen; omega) (KA.out w0 h).2.2.1 (KA.out w0 h).2.2.2.2)
    have RB : Hid (∀ w0, Below w3.heap.size w3 w0 → Calls Try.prog 16 #[.agg (ctv DB B nb cb).toArray] w0 fun e w' => e = .returned (.bool DB.rt) ∧ Below w0.heap.size w0 w') := Lib.hid (fun w0 h => cat_any DB IB.out.ok w.heap.size B nb cb w0 IB.out.ln (by unfold maxLen; omega) (KA.out w0 h).2.2.2.1 (KA.out w0 h).2.2.2.2)
    have C4 := Lib.hid (KA.out wc B4.out).1
    go_wp2_with (with_reducible refine load_ct rfl _ rfl pa DA A na ca C4.out rfl ?_)
    refine (RA.out _ B4.out).mono ?_
    rintro e w5 ⟨rfl, b5⟩
    have P5 := Lib.hid (P4.out.below b5); have Q5 := Lib.hid (Q4.out.below b5)
    have B5 := Lib.hid (bstep B4.out b5)
    clear b5 C4 P4 Q4 B4
    cases hra : DA.rt
    · rw [hra] at RA
      have PZ : Hid (P = Lf.zero) := Lib.hid (by rw [← HP.out]; exact Ct.putL_no (Ct.rt_no.1 hra))
      clear hra
      have C5 := Lib.hid (KA.out w5 B5.out).1
      go_wp2_with (with_reducible refine load_ct rfl _ rfl pa DA A na ca C5.out rfl ?_)
      refine (RA.out _ B5.out).mono ?_
      rintro e w6 ⟨rfl, b6⟩
      have P6 := Lib.hid (P5.out.below b6); have Q6 := Lib.hid (Q5.out.below b6)
      have B6 := Lib.hid (bstep B5.out b6)
      clear b6 C5 P5 Q5 B5
      have ld := loadLf_run P6.out
      have zr := zeroLf_run
      have eq1 := eqlLf_run POK.out Lf.zero_ok
      rw [PZ.out, decide_eq_true (rfl : Lf.zero = Lf.zero)] at eq1
      rw [PZ.out] at ld
      have eg := lf_guard
      obtain ⟨k0, k1, k2, k3, k4, k5, k6, k7, k8⟩ := (KA.out w6 B6.out).2.1.cells
      go_wp2_with fail
      refine (RB.out _ B6.out).mono ?_
      rintro e w7 ⟨rfl, b7⟩
      have Q7 := Lib.hid (Q6.out.below b7)
      have B7 := Lib.hid (bstep B6.out b7)
      clear b7 ld eq1 k0 k1 k2 k3 k4 k5 k6 k7 k8 P6 Q6 B6
      cases hrb : DB.rt
      · have QZ : Hid (Q = Lf.zero) := Lib.hid (by rw [← HQ.out]; exact Ct.putL_no (Ct.rt_no.1 hrb))
        clear hrb
        have ld := loadLf_run Q7.out
        have eq1 := eqlLf_run QOK.out Lf.zero_ok
        rw [QZ.out, decide_eq_true (rfl : Lf.zero = Lf.zero)] at eq1
        rw [QZ.out] at ld
        go_wp2_with fail
        refine (kruns_any w7).mono ?_
        rintro e wz ⟨rfl, bz⟩
        have BZ := Lib.hid (bstep B3.out (bstep B7.out bz))
        clear bz
        go_wp2
        go_ret
        exact ⟨rfl, BZ.out⟩
      · clear hrb
        go_wp2_with fail
        refine (kruns_any w7).mono ?_
        rintro e wz ⟨rfl, bz⟩
        have BZ := Lib.hid (bstep B3.out (bstep B7.out bz))
        clear bz
        go_wp2
        go_ret
        exact ⟨rfl, BZ.out⟩
    · rw [hra] at RA
      have RGA := Lib.hid (Ct.rt_iff.1 hra)
      clear hra
      obtain ⟨k0, k1, k2, k3, k4, k5, k6, k7, k8⟩ := (KA.out w5 B5.out).2.1.cells
      go_wp2_with fail
      refine (RB.out _ B5.out).mono ?_
      rintro e w6 ⟨rfl, b6⟩
      have P6 := Lib.hid (P5.out.below b6); have Q6 := Lib.hid (Q5.out.below b6)
      have B6 := Lib.hid (bstep B5.out b6)
      clear b6 P5 Q5 B5 k0 k1 k2 k3 k4 k5 k6 k7 k8
      cases hrb : DB.rt
      · rw [hrb] at RB
        have QZ : Hid (Q = Lf.zero) := Lib.hid (by rw [← HQ.out]; exact Ct.putL_no (Ct.rt_no.1 hrb))
        clear hrb
        have C6 := Lib.hid (KA.out w6 B6.out).1
        go_wp2_with (with_reducible refine load_ct rfl _ rfl pa DA A na ca C6.out rfl ?_)
        refine (RA.out _ B6.out).mono ?_
        rintro e w7 ⟨rfl, b7⟩
        have Q7 := Lib.hid (Q6.out.below b7)
        have B7 := Lib.hid (bstep B6.out b7)
        clear b7 C6 P6 Q6 B6
        obtain ⟨k0, k1, k2, k3, k4, k5, k6, k7, k8⟩ := (KA.out w7 B7.out).2.1.cells
        go_wp2_with fail
        refine (RB.out _ B7.out).mono ?_
        rintro e w8 ⟨rfl, b8⟩
        have Q8 := Lib.hid (Q7.out.below b8)
        have B8 := Lib.hid (bstep B7.out b8)
        clear b8 k0 k1 k2 k3 k4 k5 k6 k7 k8 Q7 B7
        have ld := loadLf_run Q8.out
        have zr := zeroLf_run
        have eq1 := eqlLf_run QOK.out Lf.zero_ok
        rw [QZ.out, decide_eq_true (rfl : Lf.zero = Lf.zero)] at eq1
        rw [QZ.out] at ld
        have eg := lf_guard
        go_wp2_with fail
        refine (kruns_any w8).mono ?_
        rintro e wz ⟨rfl, bz⟩
        have BZ := Lib.hid (bstep B3.out (bstep B8.out bz))
        clear bz
        go_wp2
        go_ret
        exact ⟨rfl, BZ.out⟩
      · have RGB := Lib.hid (Ct.rt_iff.1 hrb)
        clear hrb RA RB
        have PL : Hid (P = DA.leaf) := Lib.hid (by rw [← HP.out]; exact Ct.putL_yes RGA.out)
        have QL : Hid (Q = DB.leaf) := Lib.hid (by rw [← HQ.out]; exact Ct.putL_yes RGB.out)
        have PR : Hid P.Right := Lib.hid (by rw [PL.out]; exact Ct.leaf_right RGA.out)
        have PT : Hid (P.rt = true) := Lib.hid ((Lf.rt_iff POK.out).2 PR.out)
        have GPC : Hid (gotC P = DA) := Lib.hid (by rw [PL.out]; exact (got_leaf RGA.out).1)
        have GPK : Hid (gotK P = true) := Lib.hid (by rw [PL.out]; exact (got_leaf RGA.out).2)
        go_wp2_with (with_reducible refine load_leaf rfl _ rfl p5 P P6.out rfl ?_)
        refine (put_yes P POK.out PT.out _).mono ?_
        rintro e w7 ⟨g, cg, rfl, o7, b7⟩
        have P7 := Lib.hid (P6.out.below b7); have Q7 := Lib.hid (Q6.out.below b7)
        have B7 := Lib.hid (bstep B6.out b7)
        have GP := Lib.hid (get_put6 POK.out PR.out _ g cg w7 o7)
        clear o7 b7 P6 Q6 B6
        go_wp2_with fail
        refine GP.out.mono ?_
        rintro e w8 ⟨rfl, b8⟩
        have P8 := Lib.hid (P7.out.below b8); have Q8 := Lib.hid (Q7.out.below b8)
        have B8 := Lib.hid (bstep B7.out b8)
        clear b8 GP P7 Q7 B7
        go_wp2_with (with_reducible refine alloc_leaf rfl rfl ?_)
        intro w9 l9 b9 s9
        obtain ⟨p7, hp7⟩ : ∃ p, p = w8.heap.size := ⟨_, rfl⟩
        rw [← hp7] at l9 ⊢
        have E9 := Lib.hid l9
        have P9 := Lib.hid (P8.out.below b9); have Q9 := Lib.hid (Q8.out.below b9)
        have B9 := Lib.hid (bstep B8.out b9)
        have h57 : p5 < p7 := by have := P8.out.lt; omega
        have h67 : p6 < p7 := by have := Q8.out.lt; omega
        clear l9 b9 s9 hp7 P8 Q8 B8
        go_wp2_with (with_reducible refine store_leaf rfl _ _ rfl p7 Lf.zero P E9.out POK.out rfl rfl ?_)
        intro w10 l10 k10 s10
        have E10 := Lib.hid l10
        have P10 := Lib.hid (P9.out.keep k10 (by omega)); have Q10 := Lib.hid (Q9.out.keep k10 (by omega))
        have B10 := Lib.hid (k10.below (fun k hk => by omega) B9.out B9.out.size)
        clear l10 k10 s10 E9 P9 Q9 B9
        have GC := Lib.hid (getc_any P POK.out w10)
        unfold GetC at GC
        rw [GPC.out, GPK.out] at GC
        go_wp2_with (with_reducible refine load_leaf rfl _ rfl p7 P E10.out rfl ?_)
        refine GC.out.mono ?_
        rintro e w11 ⟨A1, n1, c1, rfl, o11, b11⟩
        have P11 := Lib.hid (P10.out.below b11); have Q11 := Lib.hid (Q10.out.below b11)
        have B11 := Lib.hid (bstep B10.out b11)
        have O11 := Lib.hid (o11.weak (base' := w3.heap.size) (fun a ha => by have := (o11.lt a ha).1; have := B10.out.size; omega))
        clear o11 b11 GC E10 P10 Q10 B10
        go_wp2_with (with_reducible refine alloc_ct rfl rfl ?_)
        intro w12 l12 b12 s12
        obtain ⟨p9, hp9⟩ : ∃ p, p = w11.heap.size := ⟨_, rfl⟩
        rw [← hp9] at l12 ⊢
        have D12 := Lib.hid l12
        have P12 := Lib.hid (P11.out.below b12); have Q12 := Lib.hid (Q11.out.below b12)
        have B12 := Lib.hid (bstep B11.out b12)
        have O12 := Lib.hid (O11.out.below b12)
        have OD : Hid (∀ a, A1 = some a → a.block < p9) := Lib.hid (fun a ha => by have := (O11.out.lt a ha).2; omega)
        have h59 : p5 < p9 := by have := P11.out.lt; omega
        have h69 : p6 < p9 := by have := Q11.out.lt; omega
        clear l12 b12 s12 hp9 P11 Q11 B11 O11
        go_wp2_with (with_reducible refine store_ct rfl _ _ rfl p9 Ct.zero DA none A1 0 n1 0 c1 D12.out rfl rfl ?_)
        intro w13 l13 k13 s13
        have D13 := Lib.hid l13
        have P13 := Lib.hid (P12.out.keep k13 (by omega)); have Q13 := Lib.hid (Q12.out.keep k13 (by omega))
        have O13 := Lib.hid (O12.out.keep k13 (fun a ha e => by have := OD.out a ha; omega))
        have B13 := Lib.hid (k13.below (fun k hk => by omega) B12.out B12.out.size)
        clear l13 k13 s13 D12 P12 Q12 O12 B12 OD
        have hL1 := Lib.hid O13.out.2.1
        have hn1 : n1 ≤ 16 := by have := hL1.out; have := IA.out.ln; omega
        have KC : Hid (∀ w', Below w13.heap.size w13 w' → CtAt w' p9 DA A1 n1 c1 ∧ CtAt w' pa DA A na ca ∧ CtAt w' pb DB B nb cb ∧ LfAt w' p5 P ∧ LfAt w' p6 Q ∧ FlR w' w13.heap.size A1 DA.files ∧ FlR w' w13.heap.size A DA.files ∧ FlR w' w13.heap.size B DB.files ∧ w13.heap.size ≤ w'.heap.size) := Lib.hid (fun w' h => by
          have q := KA.out w' (bstep B13.out h)
          have hs := B13.out.size
          exact ⟨D13.out.below h, q.1, q.2.1, P13.out.below h, Q13.out.below h, O13.out.reads.below h, q.2.2.1.more (by omega), q.2.2.2.1.more (by omega), h.size⟩)
        obtain ⟨pq, hpq⟩ : ∃ pq, decide (P = Q) = pq := ⟨_, rfl⟩
        have hpq2 : decide (DA = DB) = pq := by rw [← hpq, PL.out, QL.out, decide_eq_decide]; exact (ct_leaf_inj RGA.out RGB.out).symm
        have K1 : Hid (∀ w0, Below w13.heap.size w13 w0 → Calls Try.prog 11 #[.agg (ctv DA A1 n1 c1).toArray, .agg (ctv DA A na ca).toArray] w0 fun e w' => e = .returned (.bool true) ∧ Below w0.heap.size w0 w') := Lib.hid (fun w0 h => by have q := KC.out w0 h; have := cats_any DA DA IA.out.ok IA.out.ok w13.heap.size A1 A n1 na c1 ca w0 (by unfold maxLen; omega) (by unfold maxLen; omega) hL1.out IA.out.ln q.2.2.2.2.2.1 q.2.2.2.2.2.2.1 q.2.2.2.2.2.2.2.2; rw [decide_eq_true (rfl : DA = DA)] at this; exact this)
        have K2 : Hid (∀ w0, Below w13.heap.size w13 w0 → Calls Try.prog 11 #[.agg (ctv DA A na ca).toArray, .agg (ctv DB B nb cb).toArray] w0 fun e w' => e = .returned (.bool pq) ∧ Below w0.heap.size w0 w') := Lib.hid (fun w0 h => by have q := KC.out w0 h; have := cats_any DA DB IA.out.ok IB.out.ok w13.heap.size A B na nb ca cb w0 (by unfold maxLen; omega) (by unfold maxLen; omega) IA.out.ln IB.out.ln q.2.2.2.2.2.2.1 q.2.2.2.2.2.2.2.1 q.2.2.2.2.2.2.2.2; rw [hpq2] at this; exact this)
        have EQ : Hid (∀ (o : Oper) (x y : Operand) (t : TypeId) (ac : Act) (w' : World), o.op = .binOp .eql 32 x y t → ac.eval x = .agg (lv P).toArray → ac.eval y = .agg (lv Q).toArray → (execOp ac.eval o).run Try.prog w' = .ok (.value (.bool pq)) w') := Lib.hid (fun o x y t ac w' ho hx hy => by have := exec_eql_lf (w := w') ho POK.out QOK.out hx hy; rw [hpq] at this; exact this)
        clear hpq hpq2 D13 P13 Q13 O13 hL1 PL QL PR PT GPC GPK
        go_upto_region 7 with fail
        refine wp_region_held_drew (S := fun w' => Below w13.heap.size w13 w') (by kernel_rfl) (Below.refl _ _).drew (fun HS => ?_)
        refine takeY (i := 0) (d := 69) (v := ?_) rfl rfl (by kernel_rfl) (by kernel_rfl) (by kernel_rfl) (fun _ _ _ h => h) (by rfl) ?_ HS ?_
        rotate_left
        · intro w' hSw
          go_simp
          try with_reducible rfl
        simp only [Act.put, List.setIfInBounds_toArray, List.set_cons_zero, List.set_cons_succ]
        refine takeY (i := 1) (d := 70) (v := ?_) rfl rfl (by kernel_rfl) (by kernel_rfl) (by kernel_rfl) (fun _ _ _ h => h) (by rfl) ?_ HS ?_
        rotate_left
        · intro w' hSw
          go_simp
          try with_reducible rfl
        simp only [Act.put, List.setIfInBounds_toArray, List.set_cons_zero, List.set_cons_succ]
        refine takeY (i := 2) (d := 71) (v := ?_) rfl rfl (by kernel_rfl) (by kernel_rfl) (by kernel_rfl) (fun _ _ _ h => h) (by rfl) ?_ HS ?_
        rotate_left
        · intro w' hSw
          go_simp
          try with_reducible rfl
        simp only [Act.put, List.setIfInBounds_toArray, List.set_cons_zero, List.set_cons_succ]
        refine takeY (i := 3) (d := 72) (v := ?_) rfl rfl (by kernel_rfl) (by kernel_rfl) (by kernel_rfl) (fun _ _ _ h => h) (by rfl) ?_ HS ?_
        rotate_left
        · intro w' hSw
          go_simp
          try with_reducible rfl
        simp only [Act.put, List.setIfInBounds_toArray, List.set_cons_zero, List.set_cons_succ]
        refine takeY (i := 4) (d := 73) (v := ?_) rfl rfl (by kernel_rfl) (by kernel_rfl) (by kernel_rfl) (fun _ _ _ h => h) (by rfl) ?_ HS ?_
        rotate_left
        · intro w' hSw
          go_simp
          try with_reducible rfl
        simp only [Act.put, List.setIfInBounds_toArray, List.set_cons_zero, List.set_cons_succ]
        refine takeY (i := 5) (d := 74) (v := .agg (ctv DA A1 n1 c1).toArray) rfl rfl (by kernel_rfl) (by kernel_rfl) (by kernel_rfl) (fun _ _ _ h => h) (by rfl) (fun w' hSw => exec_load_ct rfl (KC.out w' hSw).1 rfl) HS ?_
        simp only [Act.put, List.setIfInBounds_toArray, List.set_cons_zero, List.set_cons_succ]
        refine takeY (i := 6) (d := 75) (v := .agg (ctv DA A na ca).toArray) rfl rfl (by kernel_rfl) (by kernel_rfl) (by kernel_rfl) (fun _ _ _ h => h) (by rfl) (fun w' hSw => exec_load_ct rfl (KC.out w' hSw).2.1 rfl) HS ?_
        simp only [Act.put, List.setIfInBounds_toArray, List.set_cons_zero, List.set_cons_succ]
        refine wpAnyH_ready (rs := [7]) (by kernel_rfl) (by simp) ?_
        refine AllReadyH.cons rfl (fun K hK => ?_) AllReadyH.nil
        go_simp
        refine Calls.mono (K1.out _ HS) ?_
        rintro e v1 ⟨rfl, bv⟩
        have HV : Below w13.heap.size w13 v1 := bstep HS bv
        refine hK.out _ _ HV (fun HT1 => ?_)
        clear hK HV bv
        try simp only [Act.put, List.setIfInBounds_toArray, List.set_cons_zero, List.set_cons_succ]
        refine takeY (i := 8) (d := 77) (v := ?_) rfl rfl (by kernel_rfl) (by kernel_rfl) (by kernel_rfl) (fun _ _ _ h => h) (by rfl) ?_ HT1 ?_
        rotate_left
        · intro w' hSw
          go_simp
          try with_reducible rfl
        simp only [Act.put, List.setIfInBounds_toArray, List.set_cons_zero, List.set_cons_succ]
        refine takeY (i := 9) (d := 78) (v := ?_) rfl rfl (by kernel_rfl) (by kernel_rfl) (by kernel_rfl) (fun _ _ _ h => h) (by rfl) ?_ HT1 ?_
        rotate_left
        · intro w' hSw
          go_simp
          try with_reducible rfl
        simp only [Act.put, List.setIfInBounds_toArray, List.set_cons_zero, List.set_cons_succ]
        refine takeY (i := 10) (d := 79) (v := .agg (lv P).toArray) rfl rfl (by kernel_rfl) (by kernel_rfl) (by kernel_rfl) (fun _ _ _ h => h) (by rfl) (fun w' hSw => exec_load_lf rfl (KC.out w' hSw).2.2.2.1 rfl) HT1 ?_
        simp only [Act.put, List.setIfInBounds_toArray, List.set_cons_zero, List.set_cons_succ]
        refine takeY (i := 11) (d := 80) (v := .agg (lv Q).toArray) rfl rfl (by kernel_rfl) (by kernel_rfl) (by kernel_rfl) (fun _ _ _ h => h) (by rfl) (fun w' hSw => exec_load_lf rfl (KC.out w' hSw).2.2.2.2.1 rfl) HT1 ?_
        simp only [Act.put, List.setIfInBounds_toArray, List.set_cons_zero, List.set_cons_succ]
        refine takeY (i := 12) (d := 81) (v := .bool pq) rfl rfl (by kernel_rfl) (by kernel_rfl) (by kernel_rfl) (fun _ _ _ h => h) (by rfl) (fun w' hSw => EQ.out _ _ _ _ _ w' rfl rfl rfl) HT1 ?_
        simp only [Act.put, List.setIfInBounds_toArray, List.set_cons_zero, List.set_cons_succ]
        refine takeY (i := 13) (d := 82) (v := .agg (ctv DA A na ca).toArray) rfl rfl (by kernel_rfl) (by kernel_rfl) (by kernel_rfl) (fun _ _ _ h => h) (by rfl) (fun w' hSw => exec_load_ct rfl (KC.out w' hSw).2.1 rfl) HT1 ?_
        simp only [Act.put, List.setIfInBounds_toArray, List.set_cons_zero, List.set_cons_succ]
        refine takeY (i := 14) (d := 83) (v := .agg (ctv DB B nb cb).toArray) rfl rfl (by kernel_rfl) (by kernel_rfl) (by kernel_rfl) (fun _ _ _ h => h) (by rfl) (fun w' hSw => exec_load_ct rfl (KC.out w' hSw).2.2.1 rfl) HT1 ?_
        simp only [Act.put, List.setIfInBounds_toArray, List.set_cons_zero, List.set_cons_succ]
        refine wpAnyH_ready (rs := [15]) (by kernel_rfl) (by simp) ?_
        refine AllReadyH.cons rfl (fun K hK => ?_) AllReadyH.nil
        go_simp
        refine Calls.mono (K2.out _ HT1) ?_
        rintro e v2 ⟨rfl, bv⟩
        have HV : Below w13.heap.size w13 v2 := bstep HT1 bv
        refine hK.out _ _ HV (fun HT2 => ?_)
        clear hK HV bv
        try simp only [Act.put, List.setIfInBounds_toArray, List.set_cons_zero, List.set_cons_succ]
        refine takeY (i := 16) (d := 85) (v := ?_) rfl rfl (by kernel_rfl) (by kernel_rfl) (by kernel_rfl) (fun _ _ _ h => h) (by rfl) ?_ HT2 ?_
        rotate_left
        · intro w' hSw
          go_simp
          try with_reducible rfl
        simp only [Act.put, List.setIfInBounds_toArray, List.set_cons_zero, List.set_cons_succ]
        refine takeY (i := 17) (d := 86) (v := ?_) rfl rfl (by kernel_rfl) (by kernel_rfl) (by kernel_rfl) (fun _ _ _ h => h) (by rfl) ?_ HT2 ?_
        rotate_left
        · intro w' hSw
          go_simp
          try with_reducible rfl
        simp only [Act.put, List.setIfInBounds_toArray, List.set_cons_zero, List.set_cons_succ]
        refine takeY (i := 18) (d := 87) (v := ?_) rfl rfl (by kernel_rfl) (by kernel_rfl) (by kernel_rfl) (fun _ _ _ h => h) (by rfl) ?_ HT2 ?_
        rotate_left
        · intro w' hSw
          go_simp
          try with_reducible rfl
        simp only [Act.put, List.setIfInBounds_toArray, List.set_cons_zero, List.set_cons_succ]
        refine wpAnyH_ready (rs := [19]) (by kernel_rfl) (by simp) ?_
        refine AllReadyH.cons rfl (fun K hK => ?_) AllReadyH.nil
        go_simp
        refine Calls.mono (kruns_any _) ?_
        rintro e v3 ⟨rfl, bv⟩
        have HV : Below w13.heap.size w13 v3 := bstep HT2 bv
        refine hK.out _ _ HV (fun HT3 => ?_)
        clear hK HV bv
        try simp only [Act.put, List.setIfInBounds_toArray, List.set_cons_zero, List.set_cons_succ]
        refine takeY (i := 20) (d := 89) (v := ?_) rfl rfl (by kernel_rfl) (by kernel_rfl) (by kernel_rfl) (fun _ _ _ h => h) (by rfl) ?_ HT3 ?_
        rotate_left
        · intro w' hSw
          go_simp
          try with_reducible rfl
        simp only [Act.put, List.setIfInBounds_toArray, List.set_cons_zero, List.set_cons_succ]
        refine wpAnyH_ready (rs := [21]) (by kernel_rfl) (by simp) ?_
        refine AllReadyH.cons rfl (fun K hK => ?_) AllReadyH.nil
        go_simp
        refine hK.out _ _ HT3 (fun HZ => ?_)
        clear hK
        refine wpAnyH_done (by kernel_rfl) ?_ _
        have BZ := Lib.hid (bstep B3.out (bstep B13.out HZ))
        go_wp2
        go_ret
        exact ⟨rfl, BZ.out⟩
end Go.Proofs.Ytjiigbmfbmkhjaa
