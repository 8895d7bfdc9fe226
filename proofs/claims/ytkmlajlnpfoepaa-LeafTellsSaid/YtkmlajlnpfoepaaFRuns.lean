/-
  The walk of the statement LeafRuns: the call returns true; nothing that was in memory turns.
-/
import Derived.Test.YtkmlajlnpfoepaaFBuild
import Derived.Test.YtkmlajlnpfoepaaLG
import Derived.Test.YtkmlajlnpfoepaaBSm
import Derived.Test.YtkmlajlnpfoepaaWStep
import Derived.Deep.RegionHeldLaw
namespace Go.Proofs.Ytkmlajlnpfoepaa
set_option linter.unusedVariables false
set_option linter.unusedSimpArgs false
open Go.RowKit

/-- The chapter's own leaf. -/
def runL : Lf := ⟨1, 258, 1, 3, 2, 97 :: 98 :: zeros 114⟩
theorem zeros_u8 (n k : Nat) (hk : k < (zeros n).length) : U8 ((zeros n).getD k 0) := by
  rw [zeros_length] at hk
  unfold zeros
  rw [List.getD_eq_getElem?_getD, List.getElem?_replicate, if_pos hk]
  exact ⟨by decide, by decide⟩
theorem runL_ok : runL.Ok := ⟨by decide, by decide, by decide, by decide, by decide, rfl, fun j hj => by
  rcases j with _ | _ | j
  · exact ⟨by decide, by decide⟩
  · exact ⟨by decide, by decide⟩
  · show U8 ((zeros 114).getD j 0)
    exact zeros_u8 _ _ (by rw [zeros_length]; have : j + 2 < 116 := hj; omega)⟩
theorem runL_rt : runL.rt = true := by decide
theorem runL_right : runL.Right := (Lf.rt_iff runL_ok).1 runL_rt
theorem runL_at : runL.put.getD 0 0 = 97 ∧ runL.put.getD 1 0 = 98 ∧ (runL.put.drop 116).take 8 = [2, 1, 1, 0, 3, 0, 2, 1] := by
  refine ⟨rfl, rfl, ?_⟩
  unfold Lf.put Lf.body
  rw [List.append_assoc, List.drop_append_of_le_length (by rw [runL_ok.l]; exact Nat.le_refl _), List.drop_eq_nil_of_le (by rw [runL_ok.l]; exact Nat.le_refl _), List.nil_append, List.take_append_of_le_length (by rw [runL.tail_len]; exact Nat.le_refl _), List.take_of_length_le (by rw [runL.tail_len]; exact Nat.le_refl _)]
  decide
/-- A right leaf's block is read. -/
theorem get_put {L : Lf} (h : L.Ok) (r : L.Right) (base g c : Nat) (w : World) (ho : Own w base g c L.put) :
    Calls Try.prog 8 #[.slice (some ⟨g, 0, none⟩) 128 c] w fun e w' => e = .returned (.tuple #[.agg (lv L).toArray, .bool true]) ∧ Below w.heap.size w w' :=
  (get_any w.heap.size (some ⟨g, 0, none⟩) 128 c L.put (Lf.put_len h) (by decide) w ho.reads (Nat.le_refl _) (by have := ho.cap.1; rw [Lf.put_len h] at this; exact this)).mono fun e w' ⟨he, hb⟩ => by
    obtain ⟨e1, e2⟩ := got_some (getLf_put h r)
    rw [e1, e2] at he
    exact ⟨he, hb⟩
theorem all_u8 (xs : List Int) (h : (xs.all fun x => decide (0 ≤ x) && decide (x ≤ 255)) = true) (k : Nat) (hk : k < xs.length) : U8 (xs.getD k 0) := by
  have := List.all_eq_true.1 h (xs.getD k 0) (by rw [List.getD_eq_getElem?_getD, List.getElem?_eq_getElem hk]; exact List.getElem_mem hk)
  simp at this
  exact this
def two2 : List Int := [97, 98]
def eight : List Int := [2, 1, 1, 0, 3, 0, 2, 1]
def ten : List Int := [97, 98, 2, 1, 1, 0, 3, 0, 2, 1]
attribute [local go_sem ↓] loadLf_eq eqlLf_eq
set_option maxRecDepth 100000 in
set_option maxHeartbeats 2000000 in
theorem lruns_any (w : World) : Calls Try.prog 3 #[] w fun e w' => e = .returned (.bool true) ∧ Below w.heap.size w w' := by
  go_enter Try.func3, Try.ntmps3
  go_wp2_with (first | (with_reducible refine build_five rfl _ _ _ _ _ rfl 1 258 1 3 2 rfl rfl rfl rfl rfl ?_) | (with_reducible refine alloc_leaf rfl rfl ?_))
  intro w1 l1 b1 s1
  obtain ⟨b, hb⟩ : ∃ b, b = w.heap.size := ⟨_, rfl⟩
  rw [← hb] at l1 ⊢
  have L1 := Lib.hid l1; have B1 := Lib.hid b1
  have hbw : w.heap.size ≤ b := by omega
  have OK0 : Hid (Lf.Ok ⟨1, 258, 1, 3, 2, zeros 116⟩) := Lib.hid ⟨by decide, by decide, by decide, by decide, by decide, zeros_length _, fun j hj => zeros_u8 _ _ hj⟩
  clear hb b1 s1 l1
  go_wp2_with (with_reducible refine store_leaf rfl _ _ rfl b Lf.zero ⟨1, 258, 1, 3, 2, zeros 116⟩ L1.out OK0.out rfl rfl ?_)
  intro w2 l2 k2 s2
  have B2 := Lib.hid (k2.below (fun k hk => by omega) B1.out B1.out.size)
  have y0 := l2.byte 0 (by decide)
  have z0 := l2.frozen 5
  have z1 := l2.frozen 6
  have l3 := l2.store 0 97 ⟨by decide, by decide⟩
  have y1 : (w2.setCell ⟨b, 5, none⟩ (.int .u8 97)).cell? ⟨b, 6, none⟩ = some (.int .u8 0) := l3.byte 1 (by decide)
  have L4 : Hid (LfAt ((w2.setCell ⟨b, 5, none⟩ (.int .u8 97)).setCell ⟨b, 6, none⟩ (.int .u8 98)) b runL) := Lib.hid (l3.store 1 98 ⟨by decide, by decide⟩)
  have B4 : Hid (Below w.heap.size w ((w2.setCell ⟨b, 5, none⟩ (.int .u8 97)).setCell ⟨b, 6, none⟩ (.int .u8 98))) := Lib.hid ((B2.out.setCell (p := ⟨b, 5, none⟩) hbw _).setCell (p := ⟨b, 6, none⟩) hbw _)
  clear l2 l3 k2 s2 L1 B1 B2 OK0
  go_wp2_with (with_reducible refine load_leaf rfl _ rfl b runL L4.out rfl ?_)
  refine (put_yes runL runL_ok runL_rt _).mono ?_
  rintro e w5 ⟨g, c, rfl, o5, b5⟩
  have O5 : Hid (Own w5 w.heap.size g c runL.put) := Lib.hid (o5.base B4.out.size)
  have L5 := Lib.hid (L4.out.below b5)
  have B5 := Lib.hid (bstep B4.out b5)
  have GP := Lib.hid (get_put runL_ok runL_right _ g c w5 O5.out)
  clear o5 b5 L4 B4 y0 y1 z0 z1
  go_wp2_with fail
  refine GP.out.mono ?_
  rintro e w6 ⟨rfl, b6⟩
  have O6 := Lib.hid (O5.out.below b6)
  have L6 := Lib.hid (L5.out.below b6)
  have B6 := Lib.hid (bstep B5.out b6)
  clear b6 O5 L5 B5 GP
  go_wp2_with (with_reducible refine alloc_leaf rfl rfl ?_)
  intro w7 l7 b7 s7
  obtain ⟨m, hm⟩ : ∃ m, m = w6.heap.size := ⟨_, rfl⟩
  rw [← hm] at l7 ⊢
  have M7 := Lib.hid l7
  have O7 := Lib.hid (O6.out.below b7)
  have L7 := Lib.hid (L6.out.below b7)
  have B7 := Lib.hid (bstep B6.out b7)
  have hmw : w.heap.size ≤ m := by have := B6.out.size; omega
  have hgm : g ≠ m := by have := O6.out.lt.2; omega
  have hbm : b ≠ m := by have := L6.out.lt; omega
  clear l7 b7 s7 hm O6 L6 B6
  go_wp2_with (with_reducible refine store_leaf rfl _ _ rfl m Lf.zero runL M7.out runL_ok rfl rfl ?_)
  intro w8 l8 k8 s8
  have M8 := Lib.hid l8
  have O8 : Hid (Own w8 w.heap.size g c runL.put) := Lib.hid (k8.own O7.out hgm)
  have L8 : Hid (LfAt w8 b runL) := Lib.hid (L7.out.same (k8.block b L7.out.lt hbm))
  have B8 := Lib.hid (k8.below (fun k hk => by omega) B7.out B7.out.size)
  clear l8 k8 s8 M7 O7 L7 B7
  have hgl := O8.out.lt.2
  have hml := M8.out.lt
  have hbl := L8.out.lt
  have a0 : w8.cell? ⟨g, 0, none⟩ = some (.int .u8 97) := O8.out.cell (k := 0) (by rw [Lf.put_len runL_ok]; decide)
  have a1 : w8.cell? ⟨g, 1, none⟩ = some (.int .u8 98) := O8.out.cell (k := 1) (by rw [Lf.put_len runL_ok]; decide)
  have c1 : 128 ≤ c := by have := O8.out.cap.1; rw [Lf.put_len runL_ok] at this; exact this
  have c2 : ¬ c = 116 := by omega
  have c3 : (124 : Int) ≤ (c : Int) := by omega
  have U2 := Lib.hid (all_u8 two2 (by decide))
  have UT := Lib.hid (all_u8 ten (by decide))
  obtain ⟨Q2, hQ2⟩ : ∃ q : Array Value, q = #[.int .u8 97, .int .u8 98] := ⟨_, rfl⟩
  obtain ⟨QT, hQT⟩ : ∃ q : Array Value, q = #[.int .u8 97, .int .u8 98, .int .u8 2, .int .u8 1, .int .u8 1, .int .u8 0, .int .u8 3, .int .u8 0, .int .u8 2, .int .u8 1] := ⟨_, rfl⟩
  have V2 : Hid (Q2.toList = vals two2) := Lib.hid (by rw [hQ2]; rfl)
  have VT : Hid (QT.toList = vals ten) := Lib.hid (by rw [hQT]; rfl)
  have R8 : Hid (RdB w8 w8.heap.size (some ⟨g, 116, none⟩) eight) := Lib.hid (by
    have := (O8.out.reads.drop 116).take 8
    rw [runL_at.2.2, Nat.zero_add] at this
    exact this)
  have e2 := hQ2.symm
  have eT := hQT.symm
  clear hQ2 hQT
  go_wp2_with fail
  have OC : Hid (Own ((w8.alloc (.cells QT 5)).alloc (.cells Q2 5)).drew w8.heap.size (w8.heap.size + 1) 2 two2) := Lib.hid (by
    have := (Own.lit (w8.alloc (.cells QT 5)) w8.heap.size (by simp) Q2 two2 V2.out U2.out 2 rfl (by decide)).drew
    rw [show (w8.alloc (.cells QT 5)).heap.size = w8.heap.size + 1 by simp] at this
    exact this)
  have eq1 := eqlLf_run runL_ok runL_ok
  rw [decide_eq_true (rfl : runL = runL)] at eq1
  have eg := lf_guard
  have KS : Hid (∀ w', Below w8.heap.size w8 w' → w'.cell? ⟨g, 0, none⟩ = some (.int .u8 97) ∧ w'.cell? ⟨g, 1, none⟩ = some (.int .u8 98) ∧ (loadLf (.pointer (some ⟨m, 0, none⟩))).run Try.prog w' = .ok (.agg (lv runL).toArray) w' ∧ (loadLf (.pointer (some ⟨b, 0, none⟩))).run Try.prog w' = .ok (.agg (lv runL).toArray) w') := Lib.hid (fun w' hb => ⟨(hb.cell (p := ⟨g, 0, none⟩) hgl).trans a0, (hb.cell (p := ⟨g, 1, none⟩) hgl).trans a1, loadLf_run (M8.out.below hb), loadLf_run (L8.out.below hb)⟩)
  go_region_held_law (fun w' => w'.cell? ⟨g, 0, none⟩ = some (.int .u8 97) ∧ w'.cell? ⟨g, 1, none⟩ = some (.int .u8 98) ∧ (loadLf (.pointer (some ⟨m, 0, none⟩))).run Try.prog w' = .ok (.agg (lv runL).toArray) w' ∧ (loadLf (.pointer (some ⟨b, 0, none⟩))).run Try.prog w' = .ok (.agg (lv runL).toArray) w') ((refine KS.out _ ?_; first | exact BX.out | (repeat' (first | (with_reducible exact Below.refl _ _) | (with_reducible exact BA.out) | (with_reducible exact BA.out.size) | (with_reducible refine Below.drew ?_) | (with_reducible refine Below.alloc ?_ ?_ _) | go_size))))
    (first
      | ((with_reducible refine step_app rfl _ _ rfl w8.heap.size w8.heap.size 2 2 two2 rfl rfl (Own.lit w8 w8.heap.size (Nat.le_refl _) Q2 two2 V2.out U2.out 2 rfl (by decide)).drew w8.heap.size g 116 8 (c - 116) eight rfl rfl (R8.out.below (by repeat' (first | (with_reducible exact Below.refl _ _) | (with_reducible refine Below.drew ?_) | (with_reducible refine Below.alloc ?_ ?_ _) | go_size))) (by decide) (by decide) (by first | (simp; done) | (simp; omega)) ?_); intro ga ca wa oa hgr; have ba : Below w8.heap.size w8 wa := Below.grown (Below.alloc (Below.refl _ w8) (Nat.le_refl _) _).drew hgr (by first | (simp; done) | (simp; omega)) (fun q hq => by injection hq with hq; omega); have OA : Hid (Own wa w8.heap.size ga ca ten) := Lib.hid oa; have BA := Lib.hid ba; clear oa ba hgr)
      | ((with_reducible refine step_app rfl _ _ rfl w8.heap.size w8.heap.size 2 2 two2 rfl rfl ((Own.lit w8 w8.heap.size (Nat.le_refl _) Q2 two2 V2.out U2.out 2 rfl (by decide)).alloc (.cells QT 5)).drew w8.heap.size g 116 8 (c - 116) eight rfl rfl (R8.out.below (by repeat' (first | (with_reducible exact Below.refl _ _) | (with_reducible refine Below.drew ?_) | (with_reducible refine Below.alloc ?_ ?_ _) | go_size))) (by decide) (by decide) (by first | (simp; done) | (simp; omega)) ?_); intro ga ca wa oa hgr; have ba : Below w8.heap.size w8 wa := Below.grown ((Below.alloc (Below.refl _ w8) (Nat.le_refl _) _).alloc (by simp) _).drew hgr (by first | (simp; done) | (simp; omega)) (fun q hq => by injection hq with hq; omega); have OA : Hid (Own wa w8.heap.size ga ca ten) := Lib.hid oa; have BA := Lib.hid ba; have TA : Hid (RdB wa wa.heap.size (some ⟨w8.heap.size + 1, 0, none⟩) ten) := Lib.hid (by have h1 := RdB.lit (w8.alloc (.cells Q2 5)) QT 5 (0, 0) ten VT.out UT.out; rw [show (w8.alloc (.cells Q2 5)).heap.size = w8.heap.size + 1 by simp] at h1; have h2 : RdB ((w8.alloc (.cells Q2 5)).alloc (.cells QT 5)).drew (w8.heap.size + 1 + 1) (some ⟨w8.heap.size + 1, 0, none⟩) ten := h1; exact (h2.grown hgr (by first | (simp; done) | (simp; omega)) (by omega)).more (by have := hgr.size; simp at this; omega)); clear oa ba hgr)
      | ((with_reducible refine step_app rfl _ _ rfl w8.heap.size (w8.heap.size + 1) 2 2 two2 rfl rfl OC.out w8.heap.size g 116 8 (c - 116) eight rfl rfl (R8.out.below (by repeat' (first | (with_reducible exact Below.refl _ _) | (with_reducible refine Below.drew ?_) | (with_reducible refine Below.alloc ?_ ?_ _) | go_size))) (by decide) (by decide) (by first | (simp; done) | (simp; omega)) ?_); intro ga ca wa oa hgr; have ba : Below w8.heap.size w8 wa := Below.grown ((Below.alloc (Below.refl _ w8) (Nat.le_refl _) _).alloc (by simp) _).drew hgr (by first | (simp; done) | (simp; omega)) (fun q hq => by injection hq with hq; omega); have OA : Hid (Own wa w8.heap.size ga ca ten) := Lib.hid oa; have BA := Lib.hid ba; have TA : Hid (RdB wa wa.heap.size (some ⟨w8.heap.size, 0, none⟩) ten) := Lib.hid (by have h1 := (RdB.lit w8 QT 5 (0, 0) ten VT.out UT.out).below (w' := ((w8.alloc (.cells QT 5)).alloc (.cells Q2 5)).drew) (by have := ((Below.refl (w8.heap.size + 1) (w8.alloc (.cells QT 5))).alloc (by simp) (.cells Q2 5)).drew; exact this); exact (h1.grown hgr (by first | (simp; done) | (simp; omega)) (by omega)).more (by have := hgr.size; simp at this; omega)); clear oa ba hgr)
      | (go_at_call 9; (first | (with_reducible refine (bsame_yes wa.heap.size (some ⟨ga, 0, none⟩) (some ⟨w8.heap.size + 1, 0, none⟩) 10 ca 10 ten wa (by decide) rfl OA.out.reads TA.out (Nat.le_refl _)).mono ?_) | (with_reducible refine (bsame_yes wa.heap.size (some ⟨ga, 0, none⟩) (some ⟨w8.heap.size, 0, none⟩) 10 ca 10 ten wa (by decide) rfl OA.out.reads TA.out (Nat.le_refl _)).mono ?_)); have bz : Below w8.heap.size w8 wa := BA.out; rintro e wx ⟨rfl, bx⟩; have BX : Hid (Below w8.heap.size w8 wx) := Lib.hid (bz.trans (bx.mono (by have := bz.size; omega))); clear bx bz)
      | (go_at_call 9; (with_reducible refine (bsame_yes (wa.heap.size + 1) (some ⟨ga, 0, none⟩) (some ⟨wa.heap.size, 0, none⟩) 10 ca 10 ten _ (by decide) rfl (((OA.out.alloc (.cells QT 5)).reads).more (by simp)) (RdB.lit wa QT 5 (0, 0) ten VT.out UT.out) (by simp)).mono ?_); have bz : Below w8.heap.size w8 (wa.alloc (.cells QT 5)) := BA.out.alloc BA.out.size _; rintro e wx ⟨rfl, bx⟩; have BX : Hid (Below w8.heap.size w8 wx) := Lib.hid (bz.trans (bx.mono (by have := bz.size; omega))); clear bx bz))
  all_goals
    go_wp2
    go_ret
    exact ⟨rfl, B8.out.trans (BX.out.mono B8.out.size)⟩
end Go.Proofs.Ytkmlajlnpfoepaa
