/-
  The walk of the statement LeafEdges: the call returns true; nothing that was in memory turns.
-/
import Derived.Test.YtkmlajlnpfoepaaFRuns
import Derived.Test.YtkmlajlnpfoepaaBWithinI
namespace Go.Proofs.Ytkmlajlnpfoepaa
set_option linter.unusedVariables false
set_option linter.unusedSimpArgs false
open Go.RowKit

/-- So many bytes laid into a leaf at its bounds. -/
def edgeL (z : Int) (k : Nat) : Lf := ⟨1, 65535, 65535, 65535, z, (List.range k).map (fun i => ((i : Nat) : Int) + 1) ++ zeros (116 - k)⟩
theorem edge_len (k : Nat) : ((List.range k).map (fun i => ((i : Nat) : Int) + 1)).length = k := by rw [List.length_map, List.length_range]
theorem edge_ok {z : Int} (z0 : 0 ≤ z) (z1 : z ≤ 115) {k : Nat} (hk : k ≤ 115) : (edgeL z k).Ok := by
  have d1 : (-9223372036854775808 : Int) ≤ 1 ∧ (1 : Int) ≤ 9223372036854775807 := by decide
  have d2 : (-9223372036854775808 : Int) ≤ 65535 ∧ (65535 : Int) ≤ 9223372036854775807 := by decide
  refine ⟨d1, d2, d2, d2, ⟨by show -9223372036854775808 ≤ z; omega, by show z ≤ 9223372036854775807; omega⟩, ?_, fun j hj => ?_⟩
  · show (_ ++ zeros (116 - k)).length = 116
    rw [List.length_append, edge_len, zeros_length]; omega
  · show U8 ((((List.range k).map (fun i => ((i : Nat) : Int) + 1)) ++ zeros (116 - k)).getD j 0)
    rw [getD_append, edge_len]
    split
    · rename_i h
      rw [List.getD_eq_getElem?_getD, List.getElem?_map, List.getElem?_range h]
      exact ⟨by show (0 : Int) ≤ (j : Int) + 1; omega, by show (j : Int) + 1 ≤ 255; omega⟩
    · have hj : j < (((List.range k).map (fun i => ((i : Nat) : Int) + 1)) ++ zeros (116 - k)).length := hj
      rw [List.length_append, edge_len] at hj
      exact zeros_u8 _ _ (by omega)
theorem edge_next {z : Int} (k : Nat) (hk : k < 115) : { edgeL z k with load := (edgeL z k).load.set k ((k : Int) + 1) } = edgeL z (k + 1) := by
  unfold edgeL
  have e : (((List.range k).map (fun i => ((i : Nat) : Int) + 1)) ++ zeros (116 - k)).set k ((k : Int) + 1) = ((List.range (k + 1)).map (fun i => ((i : Nat) : Int) + 1)) ++ zeros (116 - (k + 1)) := by
    rw [List.set_append_right _ _ (by rw [edge_len]; exact Nat.le_refl _), edge_len, Nat.sub_self]
    obtain ⟨m, hm⟩ : ∃ m, 116 - k = m + 1 := ⟨115 - k, by omega⟩
    have e2 : 116 - (k + 1) = m := by omega
    rw [hm, e2, List.range_succ, List.map_append, List.append_assoc]
    unfold zeros
    rw [List.replicate_succ, List.set_cons_zero]
    rfl
  show ({ kind := 1, file := 65535, place := 65535, next := 65535, size := z, load := (((List.range k).map (fun i => ((i : Nat) : Int) + 1)) ++ zeros (116 - k)).set k ((k : Int) + 1) } : Lf) = _
  rw [e]
theorem edge_right {z : Nat} (z1 : z ≤ 115) : (edgeL z z).Right := by
  have d2 : (0 : Int) ≤ 65535 ∧ (65535 : Int) ≤ 65535 := by decide
  refine ⟨Or.inl rfl, d2, d2, d2, ⟨by show (0 : Int) ≤ z; omega, by show (z : Int) ≤ 116; omega⟩, fun j h0 h1 => ?_⟩
  have h0 : (z : Int) ≤ j := h0
  show (((List.range z).map (fun i => ((i : Nat) : Int) + 1)) ++ zeros (116 - z)).getD j 0 = 0
  rw [getD_append, edge_len, if_neg (by omega)]
  unfold zeros
  rw [List.getD_eq_getElem?_getD, List.getElem?_replicate]
  split <;> rfl
theorem LfAt.setKind {w : World} {b : Nat} {L : Lf} (h : LfAt w b L) (n : Int) (hn : I64 n) : LfAt (w.setCell ⟨b, 0, none⟩ (.int .i64 n)) b { L with kind := n } := ⟨h.1.set 0 (.int .i64 n), hn, h.2.f, h.2.p, h.2.n, h.2.s, h.2.l, h.2.u⟩
theorem LfAt.setFile {w : World} {b : Nat} {L : Lf} (h : LfAt w b L) (n : Int) (hn : I64 n) : LfAt (w.setCell ⟨b, 1, none⟩ (.int .i64 n)) b { L with file := n } := ⟨h.1.set 1 (.int .i64 n), h.2.k, hn, h.2.p, h.2.n, h.2.s, h.2.l, h.2.u⟩
theorem LfAt.setPlace {w : World} {b : Nat} {L : Lf} (h : LfAt w b L) (n : Int) (hn : I64 n) : LfAt (w.setCell ⟨b, 2, none⟩ (.int .i64 n)) b { L with place := n } := ⟨h.1.set 2 (.int .i64 n), h.2.k, h.2.f, hn, h.2.n, h.2.s, h.2.l, h.2.u⟩
theorem LfAt.setNext {w : World} {b : Nat} {L : Lf} (h : LfAt w b L) (n : Int) (hn : I64 n) : LfAt (w.setCell ⟨b, 3, none⟩ (.int .i64 n)) b { L with next := n } := ⟨h.1.set 3 (.int .i64 n), h.2.k, h.2.f, h.2.p, hn, h.2.s, h.2.l, h.2.u⟩
theorem LfAt.setSize {w : World} {b : Nat} {L : Lf} (h : LfAt w b L) (n : Int) (hn : I64 n) : LfAt (w.setCell ⟨b, 4, none⟩ (.int .i64 n)) b { L with size := n } := ⟨h.1.set 4 (.int .i64 n), h.2.k, h.2.f, h.2.p, h.2.n, hn, h.2.l, h.2.u⟩
attribute [local go_sem ↓] loadLf_eq neqLf_eq
set_option maxRecDepth 100000 in
set_option maxHeartbeats 8000000 in
theorem edges_any (what by_ size : Int) (w : World) (h1 : I64 what) (h2 : I64 by_) (h3 : I64 size) :
    Calls Try.prog 6 #[.int .i64 what, .int .i64 by_, .int .i64 size] w fun e w' => e = .returned (.bool true) ∧ Below w.heap.size w w' := by
  have H1 := Lib.hid h1; have H2 := Lib.hid h2; have H3 := Lib.hid h3
  clear h1 h2 h3
  go_enter Try.func6, Try.ntmps6
  go_wp2_with fail
  refine (within_in size 0 115 H3.out (by decide) (by decide) (by decide) (by decide) w).mono ?_
  rintro e w' ⟨y, rfl, y0, y1, rfl⟩
  obtain ⟨z, rfl⟩ : ∃ z : Nat, y = z := ⟨y.toNat, by omega⟩
  go_wp2_with (first | (with_reducible refine build_five rfl _ _ _ _ _ rfl 1 65535 65535 65535 (z : Int) rfl rfl rfl rfl rfl ?_) | (with_reducible refine alloc_leaf rfl rfl ?_))
  intro w1 l1 b1 s1
  obtain ⟨b, hb⟩ : ∃ b, b = w.heap.size := ⟨_, rfl⟩
  rw [← hb] at l1 ⊢
  have L1 := Lib.hid l1; have B1 := Lib.hid b1
  have hbw : w.heap.size ≤ b := by omega
  have EO : Hid (∀ k, k ≤ 115 → (edgeL (z : Int) k).Ok) := Lib.hid (fun k hk => edge_ok y0 y1 hk)
  have OK0 : Hid (Lf.Ok ⟨1, 65535, 65535, 65535, (z : Int), zeros 116⟩) := Lib.hid (EO.out 0 (by decide))
  clear hb b1 s1 l1
  go_wp2_with (with_reducible refine store_leaf rfl _ _ rfl b Lf.zero ⟨1, 65535, 65535, 65535, (z : Int), zeros 116⟩ L1.out OK0.out rfl rfl ?_)
  intro w2 l2 k2 s2
  have L2 : Hid (LfAt w2 b (edgeL (z : Int) 0)) := Lib.hid l2
  have B2 := Lib.hid (k2.below (fun k hk => by omega) B1.out B1.out.size)
  have c4 : w2.cell? ⟨b, 4, none⟩ = some (.int .i64 (z : Int)) := L2.out.size
  clear l2 k2 s2 L1 B1
  go_wp2
  clear c4
  go_loopw [8, 17] (fun _ iv wr => ∃ k : Nat, k ≤ z ∧ iv = .int .i64 (k : Int) ∧ LfAt wr b (edgeL (z : Int) k) ∧ Below w.heap.size w wr) (fun _ iv _ => z - (intOf iv).toNat)
  case atStart => exact ⟨0, Nat.zero_le _, rfl, L2.out, B2.out⟩
  case round =>
    obtain ⟨k, hk, rfl, l3, b3⟩ := hrel
    have L3 := Lib.hid l3; have B3 := Lib.hid b3
    clear l3 b3
    by_cases hlt : k < z
    · have i1 : decide ((k : Int) < (z : Int)) = true := by rw [decide_eq_true_eq]; omega
      have i2 : k < 116 := by omega
      have cb := L3.out.byte k i2
      have fb := L3.out.frozen (5 + k)
      have L4 : Hid (LfAt (wr.setCell ⟨b, 5 + k, none⟩ (.int .u8 ((k : Int) + 1))) b (edgeL (z : Int) (k + 1))) := Lib.hid (by
        rw [← edge_next k (by omega)]
        exact L3.out.store k _ ⟨by omega, by omega⟩)
      have B4 : Hid (Below w.heap.size w (wr.setCell ⟨b, 5 + k, none⟩ (.int .u8 ((k : Int) + 1)))) := Lib.hid (B3.out.setCell (p := ⟨b, 5 + k, none⟩) hbw _)
      generalize (edgeL (z : Int) k).load.getD k 0 = x at *
      go_wp2
      go_roundw
      case rel => exact ⟨k + 1, by omega, by go_num, L4.out, B4.out⟩
      case measure => simp [intOf]; omega
    · obtain rfl : k = z := by omega
      have i1 : decide ((k : Int) < (k : Int)) = false := by simp
      obtain ⟨E, hE⟩ : ∃ E, E = edgeL (k : Int) k := ⟨_, rfl⟩
      have ER : Hid E.Right := Lib.hid (by rw [hE]; exact edge_right (by omega))
      have EK : Hid E.Ok := Lib.hid (by rw [hE]; exact EO.out k (by omega))
      have ET : Hid (E.rt = true) := Lib.hid ((Lf.rt_iff EK.out).2 ER.out)
      have NUM : Hid (E.kind = 1 ∧ E.file = 65535 ∧ E.place = 65535 ∧ E.next = 65535 ∧ E.size = (k : Int)) := Lib.hid (by rw [hE]; exact ⟨rfl, rfl, rfl, rfl, rfl⟩)
      rw [← hE] at L3
      clear hE L2 B2 EO
      go_wp2_with (with_reducible refine load_leaf rfl _ rfl b E L3.out rfl ?_)
      refine (put_yes E EK.out ET.out _).mono ?_
      rintro e w5 ⟨g, c, rfl, o5, b5⟩
      have L5 := Lib.hid (L3.out.below b5)
      have B5 := Lib.hid (bstep B3.out b5)
      have GP := Lib.hid (get_put EK.out ER.out _ g c w5 o5)
      clear o5 b5 L3 B3
      go_wp2_with fail
      refine GP.out.mono ?_
      rintro e w6 ⟨rfl, b6⟩
      have L6 := Lib.hid (L5.out.below b6)
      have B6 := Lib.hid (bstep B5.out b6)
      clear b6 L5 B5 GP
      go_wp2_with (with_reducible refine alloc_leaf rfl rfl ?_)
      intro w7 l7 b7 s7
      obtain ⟨m, hm⟩ : ∃ m, m = w6.heap.size := ⟨_, rfl⟩
      rw [← hm] at l7 ⊢
      have M7 := Lib.hid l7
      have L7 := Lib.hid (L6.out.below b7)
      have B7 := Lib.hid (bstep B6.out b7)
      have hmw : w.heap.size ≤ m := by have := B6.out.size; omega
      have hbm : b ≠ m := by have := L6.out.lt; omega
      clear l7 b7 s7 hm L6 B6
      go_wp2_with (with_reducible refine store_leaf rfl _ _ rfl m Lf.zero E M7.out EK.out rfl rfl ?_)
      intro w8 l8 k8 s8
      have M8 := Lib.hid l8
      have L8 : Hid (LfAt w8 b E) := Lib.hid (L7.out.same (k8.block b L7.out.lt hbm))
      have B8 := Lib.hid (k8.below (fun k hk => by omega) B7.out B7.out.size)
      clear l8 k8 s8 M7 L7 B7
      go_wp2_with (with_reducible refine load_leaf rfl _ rfl b E L8.out rfl ?_)
      refine (right_any E EK.out w8).mono ?_
      rintro e w9 ⟨rfl, b9⟩
      rw [ET.out]
      have M9 := Lib.hid (M8.out.below b9)
      have L9 := Lib.hid (L8.out.below b9)
      have B9 := Lib.hid (bstep B8.out b9)
      clear b9 M8 L8 B8
      have ld1 := loadLf_run M9.out
      have ld2 := loadLf_run L9.out
      have eq1 := neqLf_run EK.out EK.out
      rw [decide_eq_true (rfl : E = E), Bool.not_true] at eq1
      have eg := lf_guard
      go_wp2_with fail
      clear ld1 ld2 eq1 eg
      refine (within_in by_ 0 99 H2.out (by decide) (by decide) (by decide) (by decide) w9).mono ?_
      rintro e w' ⟨n, rfl, n0, n1, rfl⟩
      go_wp2_with fail
      refine (within_in what 0 8 H1.out (by decide) (by decide) (by decide) (by decide) w9).mono ?_
      rintro e w' ⟨s, rfl, s0, s1, rfl⟩
      have c0 := L9.out.kind; have c1 := L9.out.file; have c2 := L9.out.place; have c3 := L9.out.next; have c4 := L9.out.size
      have f0 := L9.out.frozen 0; have f1 := L9.out.frozen 1; have f2 := L9.out.frozen 2; have f3 := L9.out.frozen 3; have f4 := L9.out.frozen 4
      obtain ⟨e0, e1, e2, e3, e4⟩ := NUM.out
      rw [e0] at c0; rw [e1] at c1; rw [e2] at c2; rw [e3] at c3; rw [e4] at c4
      clear e0 e1 e2 e3 e4
      have hs : s = 0 ∨ s = 1 ∨ s = 2 ∨ s = 3 ∨ s = 4 ∨ s = 5 ∨ s = 6 ∨ s = 7 ∨ s = 8 := by omega
      have cb := L9.out.byte k (by omega)
      have fb := L9.out.frozen (5 + k)
      have k116 : k < 116 := by omega
      have k116' : (k : Int) < 116 := by omega
      generalize E.load.getD k 0 = x at *
      rcases hs with rfl | rfl | rfl | rfl | rfl | rfl | rfl | rfl | rfl
      · have LM : Hid (LfAt (w9.setCell ⟨b, 1, none⟩ (.int .i64 (65535 + (1 + n)))) b { E with file := (65535 + (1 + n)) }) := Lib.hid (L9.out.setFile (65535 + (1 + n)) ⟨by omega, by omega⟩)
        have BM : Hid (Below w.heap.size w (w9.setCell ⟨b, 1, none⟩ (.int .i64 (65535 + (1 + n))))) := Lib.hid (B9.out.setCell (p := ⟨b, 1, none⟩) hbw _)
        obtain ⟨M, hM⟩ : ∃ M : Lf, M = { E with file := (65535 + (1 + n)) } := ⟨_, rfl⟩
        have MR : Hid (M.rt = false) := Lib.hid ((Lf.rt_no (by rw [hM]; exact LM.out.2)).2 (fun r => by
          rw [hM] at r
          have q1 := r.k; have q2 := r.f; have q3 := r.p; have q4 := r.n; have q5 := r.s
          simp only at q1 q2 q3 q4 q5
          omega))
        rw [← hM] at LM
        clear hM
        go_upto_region 29 with fail
        obtain ⟨wm, hwm⟩ : ∃ wm, wm = w9.setCell ⟨b, 1, none⟩ (.int .i64 (65535 + (1 + n))) := ⟨_, rfl⟩
        rw [← hwm] at LM BM
        rw [← hwm]
        clear hwm c0 c1 c2 c3 c4 f0 f1 f2 f3 f4 cb fb M9 L9 B9 NUM ER EK ET
        have ld := loadLf_run LM.out
        have OM := Lib.hid LM.out.2
        go_wp2_with fail
        refine (right_any M OM.out wm).mono ?_
        rintro e wn ⟨rfl, bn⟩
        rw [MR.out]
        have LN := Lib.hid (LM.out.below bn)
        have BN := Lib.hid (bstep BM.out bn)
        clear ld bn LM BM
        have ld := loadLf_run LN.out
        go_wp2_with fail
        refine (put_no M OM.out MR.out wn).mono ?_
        rintro e wo ⟨rfl, bo⟩
        have BO := Lib.hid (bstep BN.out bo)
        clear ld bo LN BN
        go_wp2_with fail
        refine (lruns_any wo).mono ?_
        rintro e wp ⟨rfl, bp⟩
        have BP := Lib.hid (bstep BO.out bp)
        clear bp BO
        go_wp2
        go_ret
        exact ⟨rfl, BP.out⟩
      · have LM : Hid (LfAt (w9.setCell ⟨b, 2, none⟩ (.int .i64 (65535 + (1 + n)))) b { E with place := (65535 + (1 + n)) }) := Lib.hid (L9.out.setPlace (65535 + (1 + n)) ⟨by omega, by omega⟩)
        have BM : Hid (Below w.heap.size w (w9.setCell ⟨b, 2, none⟩ (.int .i64 (65535 + (1 + n))))) := Lib.hid (B9.out.setCell (p := ⟨b, 2, none⟩) hbw _)
        obtain ⟨M, hM⟩ : ∃ M : Lf, M = { E with place := (65535 + (1 + n)) } := ⟨_, rfl⟩
        have MR : Hid (M.rt = false) := Lib.hid ((Lf.rt_no (by rw [hM]; exact LM.out.2)).2 (fun r => by
          rw [hM] at r
          have q1 := r.k; have q2 := r.f; have q3 := r.p; have q4 := r.n; have q5 := r.s
          simp only at q1 q2 q3 q4 q5
          omega))
        rw [← hM] at LM
        clear hM
        go_upto_region 29 with fail
        obtain ⟨wm, hwm⟩ : ∃ wm, wm = w9.setCell ⟨b, 2, none⟩ (.int .i64 (65535 + (1 + n))) := ⟨_, rfl⟩
        rw [← hwm] at LM BM
        rw [← hwm]
        clear hwm c0 c1 c2 c3 c4 f0 f1 f2 f3 f4 cb fb M9 L9 B9 NUM ER EK ET
        have ld := loadLf_run LM.out
        have OM := Lib.hid LM.out.2
        go_wp2_with fail
        refine (right_any M OM.out wm).mono ?_
        rintro e wn ⟨rfl, bn⟩
        rw [MR.out]
        have LN := Lib.hid (LM.out.below bn)
        have BN := Lib.hid (bstep BM.out bn)
        clear ld bn LM BM
        have ld := loadLf_run LN.out
        go_wp2_with fail
        refine (put_no M OM.out MR.out wn).mono ?_
        rintro e wo ⟨rfl, bo⟩
        have BO := Lib.hid (bstep BN.out bo)
        clear ld bo LN BN
        go_wp2_with fail
        refine (lruns_any wo).mono ?_
        rintro e wp ⟨rfl, bp⟩
        have BP := Lib.hid (bstep BO.out bp)
        clear bp BO
        go_wp2
        go_ret
        exact ⟨rfl, BP.out⟩
      · have LM : Hid (LfAt (w9.setCell ⟨b, 3, none⟩ (.int .i64 (65535 + (1 + n)))) b { E with next := (65535 + (1 + n)) }) := Lib.hid (L9.out.setNext (65535 + (1 + n)) ⟨by omega, by omega⟩)
        have BM : Hid (Below w.heap.size w (w9.setCell ⟨b, 3, none⟩ (.int .i64 (65535 + (1 + n))))) := Lib.hid (B9.out.setCell (p := ⟨b, 3, none⟩) hbw _)
        obtain ⟨M, hM⟩ : ∃ M : Lf, M = { E with next := (65535 + (1 + n)) } := ⟨_, rfl⟩
        have MR : Hid (M.rt = false) := Lib.hid ((Lf.rt_no (by rw [hM]; exact LM.out.2)).2 (fun r => by
          rw [hM] at r
          have q1 := r.k; have q2 := r.f; have q3 := r.p; have q4 := r.n; have q5 := r.s
          simp only at q1 q2 q3 q4 q5
          omega))
        rw [← hM] at LM
        clear hM
        go_upto_region 29 with fail
        obtain ⟨wm, hwm⟩ : ∃ wm, wm = w9.setCell ⟨b, 3, none⟩ (.int .i64 (65535 + (1 + n))) := ⟨_, rfl⟩
        rw [← hwm] at LM BM
        rw [← hwm]
        clear hwm c0 c1 c2 c3 c4 f0 f1 f2 f3 f4 cb fb M9 L9 B9 NUM ER EK ET
        have ld := loadLf_run LM.out
        have OM := Lib.hid LM.out.2
        go_wp2_with fail
        refine (right_any M OM.out wm).mono ?_
        rintro e wn ⟨rfl, bn⟩
        rw [MR.out]
        have LN := Lib.hid (LM.out.below bn)
        have BN := Lib.hid (bstep BM.out bn)
        clear ld bn LM BM
        have ld := loadLf_run LN.out
        go_wp2_with fail
        refine (put_no M OM.out MR.out wn).mono ?_
        rintro e wo ⟨rfl, bo⟩
        have BO := Lib.hid (bstep BN.out bo)
        clear ld bo LN BN
        go_wp2_with fail
        refine (lruns_any wo).mono ?_
        rintro e wp ⟨rfl, bp⟩
        have BP := Lib.hid (bstep BO.out bp)
        clear bp BO
        go_wp2
        go_ret
        exact ⟨rfl, BP.out⟩
      · have LM : Hid (LfAt (w9.setCell ⟨b, 1, none⟩ (.int .i64 (-(1 + n)))) b { E with file := (-(1 + n)) }) := Lib.hid (L9.out.setFile (-(1 + n)) ⟨by omega, by omega⟩)
        have BM : Hid (Below w.heap.size w (w9.setCell ⟨b, 1, none⟩ (.int .i64 (-(1 + n))))) := Lib.hid (B9.out.setCell (p := ⟨b, 1, none⟩) hbw _)
        obtain ⟨M, hM⟩ : ∃ M : Lf, M = { E with file := (-(1 + n)) } := ⟨_, rfl⟩
        have MR : Hid (M.rt = false) := Lib.hid ((Lf.rt_no (by rw [hM]; exact LM.out.2)).2 (fun r => by
          rw [hM] at r
          have q1 := r.k; have q2 := r.f; have q3 := r.p; have q4 := r.n; have q5 := r.s
          simp only at q1 q2 q3 q4 q5
          omega))
        rw [← hM] at LM
        clear hM
        go_upto_region 29 with fail
        obtain ⟨wm, hwm⟩ : ∃ wm, wm = w9.setCell ⟨b, 1, none⟩ (.int .i64 (-(1 + n))) := ⟨_, rfl⟩
        rw [← hwm] at LM BM
        rw [← hwm]
        clear hwm c0 c1 c2 c3 c4 f0 f1 f2 f3 f4 cb fb M9 L9 B9 NUM ER EK ET
        have ld := loadLf_run LM.out
        have OM := Lib.hid LM.out.2
        go_wp2_with fail
        refine (right_any M OM.out wm).mono ?_
        rintro e wn ⟨rfl, bn⟩
        rw [MR.out]
        have LN := Lib.hid (LM.out.below bn)
        have BN := Lib.hid (bstep BM.out bn)
        clear ld bn LM BM
        have ld := loadLf_run LN.out
        go_wp2_with fail
        refine (put_no M OM.out MR.out wn).mono ?_
        rintro e wo ⟨rfl, bo⟩
        have BO := Lib.hid (bstep BN.out bo)
        clear ld bo LN BN
        go_wp2_with fail
        refine (lruns_any wo).mono ?_
        rintro e wp ⟨rfl, bp⟩
        have BP := Lib.hid (bstep BO.out bp)
        clear bp BO
        go_wp2
        go_ret
        exact ⟨rfl, BP.out⟩
      · have LM : Hid (LfAt (w9.setCell ⟨b, 2, none⟩ (.int .i64 (-(1 + n)))) b { E with place := (-(1 + n)) }) := Lib.hid (L9.out.setPlace (-(1 + n)) ⟨by omega, by omega⟩)
        have BM : Hid (Below w.heap.size w (w9.setCell ⟨b, 2, none⟩ (.int .i64 (-(1 + n))))) := Lib.hid (B9.out.setCell (p := ⟨b, 2, none⟩) hbw _)
        obtain ⟨M, hM⟩ : ∃ M : Lf, M = { E with place := (-(1 + n)) } := ⟨_, rfl⟩
        have MR : Hid (M.rt = false) := Lib.hid ((Lf.rt_no (by rw [hM]; exact LM.out.2)).2 (fun r => by
          rw [hM] at r
          have q1 := r.k; have q2 := r.f; have q3 := r.p; have q4 := r.n; have q5 := r.s
          simp only at q1 q2 q3 q4 q5
          omega))
        rw [← hM] at LM
        clear hM
        go_upto_region 29 with fail
        obtain ⟨wm, hwm⟩ : ∃ wm, wm = w9.setCell ⟨b, 2, none⟩ (.int .i64 (-(1 + n))) := ⟨_, rfl⟩
        rw [← hwm] at LM BM
        rw [← hwm]
        clear hwm c0 c1 c2 c3 c4 f0 f1 f2 f3 f4 cb fb M9 L9 B9 NUM ER EK ET
        have ld := loadLf_run LM.out
        have OM := Lib.hid LM.out.2
        go_wp2_with fail
        refine (right_any M OM.out wm).mono ?_
        rintro e wn ⟨rfl, bn⟩
        rw [MR.out]
        have LN := Lib.hid (LM.out.below bn)
        have BN := Lib.hid (bstep BM.out bn)
        clear ld bn LM BM
        have ld := loadLf_run LN.out
        go_wp2_with fail
        refine (put_no M OM.out MR.out wn).mono ?_
        rintro e wo ⟨rfl, bo⟩
        have BO := Lib.hid (bstep BN.out bo)
        clear ld bo LN BN
        go_wp2_with fail
        refine (lruns_any wo).mono ?_
        rintro e wp ⟨rfl, bp⟩
        have BP := Lib.hid (bstep BO.out bp)
        clear bp BO
        go_wp2
        go_ret
        exact ⟨rfl, BP.out⟩
      · have LM : Hid (LfAt (w9.setCell ⟨b, 3, none⟩ (.int .i64 (-(1 + n)))) b { E with next := (-(1 + n)) }) := Lib.hid (L9.out.setNext (-(1 + n)) ⟨by omega, by omega⟩)
        have BM : Hid (Below w.heap.size w (w9.setCell ⟨b, 3, none⟩ (.int .i64 (-(1 + n))))) := Lib.hid (B9.out.setCell (p := ⟨b, 3, none⟩) hbw _)
        obtain ⟨M, hM⟩ : ∃ M : Lf, M = { E with next := (-(1 + n)) } := ⟨_, rfl⟩
        have MR : Hid (M.rt = false) := Lib.hid ((Lf.rt_no (by rw [hM]; exact LM.out.2)).2 (fun r => by
          rw [hM] at r
          have q1 := r.k; have q2 := r.f; have q3 := r.p; have q4 := r.n; have q5 := r.s
          simp only at q1 q2 q3 q4 q5
          omega))
        rw [← hM] at LM
        clear hM
        go_upto_region 29 with fail
        obtain ⟨wm, hwm⟩ : ∃ wm, wm = w9.setCell ⟨b, 3, none⟩ (.int .i64 (-(1 + n))) := ⟨_, rfl⟩
        rw [← hwm] at LM BM
        rw [← hwm]
        clear hwm c0 c1 c2 c3 c4 f0 f1 f2 f3 f4 cb fb M9 L9 B9 NUM ER EK ET
        have ld := loadLf_run LM.out
        have OM := Lib.hid LM.out.2
        go_wp2_with fail
        refine (right_any M OM.out wm).mono ?_
        rintro e wn ⟨rfl, bn⟩
        rw [MR.out]
        have LN := Lib.hid (LM.out.below bn)
        have BN := Lib.hid (bstep BM.out bn)
        clear ld bn LM BM
        have ld := loadLf_run LN.out
        go_wp2_with fail
        refine (put_no M OM.out MR.out wn).mono ?_
        rintro e wo ⟨rfl, bo⟩
        have BO := Lib.hid (bstep BN.out bo)
        clear ld bo LN BN
        go_wp2_with fail
        refine (lruns_any wo).mono ?_
        rintro e wp ⟨rfl, bp⟩
        have BP := Lib.hid (bstep BO.out bp)
        clear bp BO
        go_wp2
        go_ret
        exact ⟨rfl, BP.out⟩
      · have LM : Hid (LfAt (w9.setCell ⟨b, 0, none⟩ (.int .i64 (2 + (1 + n)))) b { E with kind := (2 + (1 + n)) }) := Lib.hid (L9.out.setKind (2 + (1 + n)) ⟨by omega, by omega⟩)
        have BM : Hid (Below w.heap.size w (w9.setCell ⟨b, 0, none⟩ (.int .i64 (2 + (1 + n))))) := Lib.hid (B9.out.setCell (p := ⟨b, 0, none⟩) hbw _)
        obtain ⟨M, hM⟩ : ∃ M : Lf, M = { E with kind := (2 + (1 + n)) } := ⟨_, rfl⟩
        have MR : Hid (M.rt = false) := Lib.hid ((Lf.rt_no (by rw [hM]; exact LM.out.2)).2 (fun r => by
          rw [hM] at r
          have q1 := r.k; have q2 := r.f; have q3 := r.p; have q4 := r.n; have q5 := r.s
          simp only at q1 q2 q3 q4 q5
          omega))
        rw [← hM] at LM
        clear hM
        go_upto_region 29 with fail
        obtain ⟨wm, hwm⟩ : ∃ wm, wm = w9.setCell ⟨b, 0, none⟩ (.int .i64 (2 + (1 + n))) := ⟨_, rfl⟩
        rw [← hwm] at LM BM
        rw [← hwm]
        clear hwm c0 c1 c2 c3 c4 f0 f1 f2 f3 f4 cb fb M9 L9 B9 NUM ER EK ET
        have ld := loadLf_run LM.out
        have OM := Lib.hid LM.out.2
        go_wp2_with fail
        refine (right_any M OM.out wm).mono ?_
        rintro e wn ⟨rfl, bn⟩
        rw [MR.out]
        have LN := Lib.hid (LM.out.below bn)
        have BN := Lib.hid (bstep BM.out bn)
        clear ld bn LM BM
        have ld := loadLf_run LN.out
        go_wp2_with fail
        refine (put_no M OM.out MR.out wn).mono ?_
        rintro e wo ⟨rfl, bo⟩
        have BO := Lib.hid (bstep BN.out bo)
        clear ld bo LN BN
        go_wp2_with fail
        refine (lruns_any wo).mono ?_
        rintro e wp ⟨rfl, bp⟩
        have BP := Lib.hid (bstep BO.out bp)
        clear bp BO
        go_wp2
        go_ret
        exact ⟨rfl, BP.out⟩
      · have LM : Hid (LfAt (w9.setCell ⟨b, 5 + k, none⟩ (.int .u8 (1 + n))) b { E with load := E.load.set k (1 + n) }) := Lib.hid (L9.out.store k (1 + n) ⟨by omega, by omega⟩)
        have BM : Hid (Below w.heap.size w (w9.setCell ⟨b, 5 + k, none⟩ (.int .u8 (1 + n)))) := Lib.hid (B9.out.setCell (p := ⟨b, 5 + k, none⟩) hbw _)
        obtain ⟨M, hM⟩ : ∃ M : Lf, M = { E with load := E.load.set k (1 + n) } := ⟨_, rfl⟩
        have MR : Hid (M.rt = false) := Lib.hid ((Lf.rt_no (by rw [hM]; exact LM.out.2)).2 (fun r => by
          rw [hM] at r
          have := r.b k (by show E.size ≤ k; have := NUM.out; omega) (by omega)
          have e : (E.load.set k (1 + n)).getD k 0 = 1 + n := by rw [getD_set _ _ _ _ (by rw [EK.out.l]; omega), if_pos rfl]
          have : (E.load.set k (1 + n)).getD k 0 = 0 := this
          omega))
        rw [← hM] at LM
        clear hM
        go_upto_region 29 with fail
        obtain ⟨wm, hwm⟩ : ∃ wm, wm = w9.setCell ⟨b, 5 + k, none⟩ (.int .u8 (1 + n)) := ⟨_, rfl⟩
        rw [← hwm] at LM BM
        rw [← hwm]
        clear hwm c0 c1 c2 c3 c4 f0 f1 f2 f3 f4 cb fb M9 L9 B9 NUM ER EK ET
        have ld := loadLf_run LM.out
        have OM := Lib.hid LM.out.2
        go_wp2_with fail
        refine (right_any M OM.out wm).mono ?_
        rintro e wn ⟨rfl, bn⟩
        rw [MR.out]
        have LN := Lib.hid (LM.out.below bn)
        have BN := Lib.hid (bstep BM.out bn)
        clear ld bn LM BM
        have ld := loadLf_run LN.out
        go_wp2_with fail
        refine (put_no M OM.out MR.out wn).mono ?_
        rintro e wo ⟨rfl, bo⟩
        have BO := Lib.hid (bstep BN.out bo)
        clear ld bo LN BN
        go_wp2_with fail
        refine (lruns_any wo).mono ?_
        rintro e wp ⟨rfl, bp⟩
        have BP := Lib.hid (bstep BO.out bp)
        clear bp BO
        go_wp2
        go_ret
        exact ⟨rfl, BP.out⟩
      · have LM : Hid (LfAt (w9.setCell ⟨b, 4, none⟩ (.int .i64 (116 + (1 + n)))) b { E with size := (116 + (1 + n)) }) := Lib.hid (L9.out.setSize (116 + (1 + n)) ⟨by omega, by omega⟩)
        have BM : Hid (Below w.heap.size w (w9.setCell ⟨b, 4, none⟩ (.int .i64 (116 + (1 + n))))) := Lib.hid (B9.out.setCell (p := ⟨b, 4, none⟩) hbw _)
        obtain ⟨M, hM⟩ : ∃ M : Lf, M = { E with size := (116 + (1 + n)) } := ⟨_, rfl⟩
        have MR : Hid (M.rt = false) := Lib.hid ((Lf.rt_no (by rw [hM]; exact LM.out.2)).2 (fun r => by
          rw [hM] at r
          have q1 := r.k; have q2 := r.f; have q3 := r.p; have q4 := r.n; have q5 := r.s
          simp only at q1 q2 q3 q4 q5
          omega))
        rw [← hM] at LM
        clear hM
        go_upto_region 29 with fail
        obtain ⟨wm, hwm⟩ : ∃ wm, wm = w9.setCell ⟨b, 4, none⟩ (.int .i64 (116 + (1 + n))) := ⟨_, rfl⟩
        rw [← hwm] at LM BM
        rw [← hwm]
        clear hwm c0 c1 c2 c3 c4 f0 f1 f2 f3 f4 cb fb M9 L9 B9 NUM ER EK ET
        have ld := loadLf_run LM.out
        have OM := Lib.hid LM.out.2
        go_wp2_with fail
        refine (right_any M OM.out wm).mono ?_
        rintro e wn ⟨rfl, bn⟩
        rw [MR.out]
        have LN := Lib.hid (LM.out.below bn)
        have BN := Lib.hid (bstep BM.out bn)
        clear ld bn LM BM
        have ld := loadLf_run LN.out
        go_wp2_with fail
        refine (put_no M OM.out MR.out wn).mono ?_
        rintro e wo ⟨rfl, bo⟩
        have BO := Lib.hid (bstep BN.out bo)
        clear ld bo LN BN
        go_wp2_with fail
        refine (lruns_any wo).mono ?_
        rintro e wp ⟨rfl, bp⟩
        have BP := Lib.hid (bstep BO.out bp)
        clear bp BO
        go_wp2
        go_ret
        exact ⟨rfl, BP.out⟩
end Go.Proofs.Ytkmlajlnpfoepaa
