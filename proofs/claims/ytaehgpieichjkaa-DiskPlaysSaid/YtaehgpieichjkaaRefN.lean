/-
  The document's own disk: NewDisk.
-/
import Derived.Test.YtaehgpieichjkaaRefBu
import Derived.Deep.OwnRows
import Derived.Deep.RegionLaw
namespace Go.Proofs.Ytaehgpieichjkaa
set_option linter.unusedVariables false
set_option linter.unusedSimpArgs false
open Go.RowKit Go.Deep

theorem made_row (z : Value) (n : Nat) : (madeCells #[z] n).toList = List.replicate n z := toList_madeCells_one z n
theorem RowA.made (w : World) (e : TypeId) (z : Value) (n : Nat) (Z : Array Value) (hZ : Z.toList = List.replicate n z) (hn : n ≤ maxLen) : RowA (w.alloc (.cells Z e)) e (some ⟨w.heap.size, 0, none⟩) n (List.replicate n z) := by
  have hs : Z.size = n := by rw [← Array.length_toList, hZ, List.length_replicate]
  exact RowA.mk (cur := Z) (heap_alloc_new w _) (by simp) hn hs (by rw [hZ]; simp)
/-- What is made so far. -/
structure NewI (w wr : World) (r n j : Nat) (AB : Option Addr) (cB cD : Nat) (bs : List Value) (gd : Nat) : Prop where
  st : Arr wr r 47 [.slice AB j cB, .slice (some ⟨gd, 0, none⟩) n cD, .slice none 0 0, .slice none 0 0, .int .i64 (-1), .bool false, .int .i64 0]
  rB : RowO wr w.heap.size 26 AB cB bs
  lB : bs.length = j
  eB : ∀ i, i < j → BlkAt wr (fun k => w.heap.size ≤ k ∧ k < wr.heap.size) (bs.getD i undef) (fillB 0)
  rD : RowA wr 4 (some ⟨gd, 0, none⟩) cD (bvals (List.replicate n false))
  gd : w.heap.size ≤ gd
  ge : w.heap.size ≤ r
  bl : Below w.heap.size w wr
theorem NewI.done {w wr : World} {r n : Nat} {AB : Option Addr} {cB cD : Nat} {bs : List Value} {gd : Nat} (h : NewI w wr r n n AB cB cD bs gd) (h1 : 1 ≤ n) (h2 : n ≤ 512) : RefL wr (fun k => w.heap.size ≤ k ∧ k < wr.heap.size) r (Dk.new n) ⟨AB, cB, some ⟨gd, 0, none⟩, cD, none, 0, none, 0, bs, []⟩ := by
  have l1 : (Dk.new n).blk.length = n := by unfold Dk.new; simp
  refine ⟨Dk.Ok.new h1 h2, ?_, h.rB.row, by rw [l1]; exact h.lB, fun i hi => ?_, h.rD, RowA.nil _ _, RowA.nil _ _, rfl, fun i hi => by simp [Dk.new] at hi, ⟨h.ge, h.st.lt⟩, fun a ha => h.rB.ge a ha, fun a ha => ?_, fun a ha => (by cases ha), fun a ha => (by cases ha), fun a a' _ ha => (by cases ha), fun k hk => hk.2⟩
  · have e : refCells (Dk.new n) ⟨AB, cB, some ⟨gd, 0, none⟩, cD, none, 0, none, 0, bs, []⟩ = [.slice AB n cB, .slice (some ⟨gd, 0, none⟩) n cD, .slice none 0 0, .slice none 0 0, .int .i64 (-1), .bool false, .int .i64 0] := by
      unfold refCells
      rw [l1]
      rfl
    rw [e]
    exact h.st
  · rw [l1] at hi
    have e : (Dk.new n).blk.getD i [] = fillB 0 := getD_repl _ _ _ _ hi
    rw [e]
    exact h.eB i hi
  · have ha : some ⟨gd, 0, none⟩ = some a := ha
    injection ha with ha
    subst ha
    exact ⟨h.gd, h.rD.lt _ rfl⟩

theorem NewI.next {w wr : World} {r n j : Nat} {AB : Option Addr} {cB cD : Nat} {bs : List Value} {gd : Nat} (h : NewI w wr r n j AB cB cD bs gd) (Z8 : Array Value) (gn cn : Nat) (w1 : World) (hZ : Z8.toList = List.replicate 128 (.int .u8 0))
    (ho : w1.ownsRow w.heap.size 26 1 (.slice (some ⟨gn, 0, none⟩) (j + 1) cn) (j + 1) (bs ++ [.slice (some ⟨wr.heap.size, 0, none⟩) 128 128]))
    (hg : ((wr.alloc (.cells Z8 5)).alloc (.cells #[.slice (some ⟨wr.heap.size, 0, none⟩) 128 128] 26)).drew.grownBy w1 (Value.slice AB j cB).ownBlock) (hne : (Value.slice AB j cB).ownBlock ≠ some r) :
    NewI w (w1.setCell ⟨r, 0, none⟩ (.slice (some ⟨gn, 0, none⟩) (j + 1) cn)) r n (j + 1) (some ⟨gn, 0, none⟩) cn cD (bs ++ [.slice (some ⟨wr.heap.size, 0, none⟩) 128 128]) gd := by
  have l1 : (bs ++ [Value.slice (some ⟨wr.heap.size, 0, none⟩) 128 128]).length = j + 1 := by rw [List.length_append, h.lB]; rfl
  have sa : ((wr.alloc (.cells Z8 5)).alloc (.cells #[.slice (some ⟨wr.heap.size, 0, none⟩) 128 128] 26)).drew.heap.size = wr.heap.size + 2 := by simp
  have s1 : wr.heap.size + 2 ≤ w1.heap.size := by have := hg.size; omega
  have s0 := h.bl.size
  have stA : Arr ((wr.alloc (.cells Z8 5)).alloc (.cells #[.slice (some ⟨wr.heap.size, 0, none⟩) 128 128] 26)).drew r 47 _ := (h.st.alloc _).alloc _
  have st1 := stA.grown hg hne
  have r1 : RowO w1 w.heap.size 26 (some ⟨gn, 0, none⟩) cn (bs ++ [.slice (some ⟨wr.heap.size, 0, none⟩) 128 128]) := by unfold RowO; rw [l1]; exact ho
  have old : ∀ g, g < wr.heap.size → (Value.slice AB j cB).ownBlock ≠ some g → w1.heap[g]? = wr.heap[g]? := fun g hg1 hg2 => by
    rw [hg.block g (by omega) (fun e => hg2 e.symm)]
    show ((wr.alloc (.cells Z8 5)).alloc _).heap[g]? = _
    rw [Below.heap_alloc _ _ _ (by simp; omega), Below.heap_alloc _ _ _ hg1]
  have kne : ∀ g cur (T : TypeId), wr.heap[g]? = some (.cells cur T (0, 0)) → T ≠ 26 → (Value.slice AB j cB).ownBlock ≠ some g := fun g cur T e hT k => by
    cases AB with
    | none => cases k
    | some a =>
      have k : some a.block = some g := k
      injection k with k
      rcases h.rB.row.parts with ⟨e1, _⟩ | ⟨g', cur', e1, e2, _⟩
      · cases e1
      · injection e1 with e1
        subst e1
        have k : g' = g := k
        subst k
        exact kinds_ne e e2 hT
  refine ⟨st1.set 0 _, RowO.of (r1.row.far st1 (by decide) _) (fun a ha => (r1.ge a ha).1), l1, fun i hi => ?_, ?_, h.gd, h.ge, ?_⟩
  · rw [getD_snoc _ _ _ _ (by rw [l1]; exact hi)]
    by_cases hij : i < j
    · rw [if_pos (by rw [h.lB]; exact hij)]
      obtain ⟨g, c, e1, ⟨f1, f2⟩, o1, x1⟩ := h.eB i hij
      obtain ⟨cur, e2⟩ := o1.heap
      have o2 : Own w1 0 g c (fillB 0) := (Keep.own (F := fun k => (Value.slice AB j cB).ownBlock = some k) ⟨by rw [hg.os]; rfl, by rw [hg.tape]; rfl, by rw [hg.output]; rfl, by omega, fun k hk hn => old k hk hn⟩ o1 (kne g cur _ e2 (by decide)))
      refine ⟨g, c, e1, ⟨f1, by rw [setCell_size]; omega⟩, o2.far (fun e => ?_) _, x1⟩
      subst e
      obtain ⟨c3, e3⟩ := o2.heap
      exact kinds_ne e3 st1 (by decide)
    · rw [if_neg (by rw [h.lB]; exact hij)]
      have e1 : w1.heap[wr.heap.size]? = some (.cells Z8 5 (0, 0)) := by
        rw [hg.block wr.heap.size (by omega) (fun e => ?_)]
        · show ((wr.alloc (.cells Z8 5)).alloc _).heap[wr.heap.size]? = _
          rw [Below.heap_alloc _ _ _ (by simp)]
          exact heap_alloc_new wr _
        · cases AB with
          | none => cases e
          | some a =>
            have e : some wr.heap.size = some a.block := e
            injection e with e
            have := h.rB.row.lt a rfl
            omega
      have hs : Z8.size = 128 := by rw [← Array.length_toList, hZ, List.length_replicate]
      have hv : List.replicate 128 (Value.int .u8 0) = vals (fillB 0) := by unfold vals fillB; rw [List.map_replicate]
      have r2 : RowA w1 5 (some ⟨wr.heap.size, 0, none⟩) 128 (vals (fillB 0)) := by
        rw [← hv]
        exact RowA.mk e1 (by simp) (by decide) hs (by rw [hZ]; simp)
      have o2 := Own.of_row (RowO.of (base := 0) r2 (fun _ _ => Nat.zero_le _)) (fun k hk => by rw [fillB_length] at hk; rw [fillB_at _ _ hk]; exact ⟨by decide, by decide⟩)
      refine ⟨wr.heap.size, 128, rfl, ⟨by omega, by rw [setCell_size]; omega⟩, o2.far (fun e => ?_) _, fillB_length 0⟩
      have := h.st.lt
      omega
  · have rd1 : RowA w1 4 (some ⟨gd, 0, none⟩) cD (bvals (List.replicate n false)) := h.rD.same (fun a ha => by
      injection ha with ha
      subst ha
      obtain ⟨cur, e2⟩ := h.rD.heap
      exact old gd (h.rD.lt _ rfl) (kne gd cur _ e2 (by decide)))
    exact rd1.far st1 (by decide) _
  · have b1 : Below w.heap.size w w1 := Below.grown ((Below.alloc (Below.alloc h.bl (by omega) _) (by simp; omega) _).drew) hg (by simp; omega) (own_ge h.rB (Nat.le_refl _))
    exact b1.setCell h.ge _

set_option maxRecDepth 100000 in
set_option maxHeartbeats 4000000 in
theorem rnew_any (n : Nat) (h1 : 1 ≤ n) (h2 : n ≤ 512) (w : World) :
    Calls Try.prog 17 #[.int .i64 n] w fun e w' => ∃ r F, e = .returned (.pointer (some ⟨r, 0, none⟩)) ∧ RefAt w' F r (Dk.new n) ∧ (∀ k, F k → w.heap.size ≤ k) ∧ Below w.heap.size w w' := by
  obtain ⟨ZB, hZB⟩ : ∃ ZB, madeCells #[Value.bool false] n = ZB := ⟨_, rfl⟩
  have mkb := fun w => run_make_row' (P := Try.prog) 44 4 (.bool false) 1 Try.underlying44 Try.info_bool rfl .i64 .i64 n (by omega) (by omega) w
  rw [hZB] at mkb
  have HZB : Hid (ZB.toList = List.replicate n (.bool false)) := Lib.hid (by rw [← hZB]; exact made_row _ _)
  obtain ⟨Z8, hZ8⟩ : ∃ Z8, madeCells #[Value.int .u8 0] 128 = Z8 := ⟨_, rfl⟩
  have mk8 : ∀ w, (Instr.makeSlice 26 (.int .i64 128) (.int .i64 128)).run Try.prog w = .ok (.slice (some ⟨w.heap.size, 0, none⟩) 128 128) (w.alloc (.cells Z8 5)) := fun w => by
    rw [← hZ8]
    exact run_make_row' (P := Try.prog) 26 5 (.int .u8 0) 1 Try.underlying26 Try.info_byte rfl .i64 .i64 128 (by decide) (by decide) w
  have HZ8 : Hid (Z8.toList = List.replicate 128 (.int .u8 0)) := Lib.hid (by rw [← hZ8]; exact made_row _ _)
  clear hZB hZ8
  have d1 : decide ((n : Int) < 1) = false := by rw [decide_eq_false_iff_not]; omega
  have d2 : decide ((n : Int) > 512) = false := by rw [decide_eq_false_iff_not]; omega
  have d3 : decide ((512 : Int) < (n : Int)) = false := by rw [decide_eq_false_iff_not]; omega
  obtain ⟨j0, hj0, hz0, hz1, hz2⟩ := info_parts Try.info_bytes
  go_enter Try.func17, Try.ntmps17
  go_wp2
  obtain ⟨r, hr⟩ : ∃ r, r = w.heap.size + 1 := ⟨_, rfl⟩
  obtain ⟨gd, hgd⟩ : ∃ gd, gd = w.heap.size := ⟨_, rfl⟩
  have N0 : Hid (NewI w ((w.alloc (.cells ZB 4)).alloc (.cells #[.slice none 0 0, .slice (some ⟨w.heap.size, 0, none⟩) n n, .slice none 0 0, .slice none 0 0, .int .i64 (-1), .bool false, .int .i64 0] 47)) r n 0 none 0 n [] gd) := Lib.hid (by
    refine ⟨?_, RowO.of (RowA.nil _ _) (fun a ha => (by cases ha)), rfl, fun i hi => absurd hi (by omega), ?_, by omega, by omega, Below.alloc (Below.alloc (Below.refl _ w) (Nat.le_refl _) _) (by simp) _⟩
    · have := Arr.new (w.alloc (.cells ZB 4)) 47 [.slice none 0 0, .slice (some ⟨w.heap.size, 0, none⟩) n n, .slice none 0 0, .slice none 0 0, .int .i64 (-1), .bool false, .int .i64 0]
      have e : (w.alloc (.cells ZB 4)).heap.size = r := by simp; omega
      rw [e, ← hgd] at this
      rw [← hgd]
      exact this
    · have := (RowA.made w 4 (.bool false) n ZB HZB.out (by unfold maxLen; omega)).alloc (.cells #[.slice none 0 0, .slice (some ⟨w.heap.size, 0, none⟩) n n, .slice none 0 0, .slice none 0 0, .int .i64 (-1), .bool false, .int .i64 0] 47)
      have e : bvals (List.replicate n false) = List.replicate n (Value.bool false) := by unfold bvals; rw [List.map_replicate]
      rw [e, hgd]
      exact this)
  have HR := Lib.hid hr; have HGD := Lib.hid hgd
  rw [← hr, ← hgd]
  rw [← hgd] at N0
  clear hr hgd mkb
  go_loopw [15] (fun jv wr => ∃ (j : Nat) (AB : Option Addr) (cB : Nat) (bs : List Value), j ≤ n ∧ jv = .int .i64 (j : Int) ∧ NewI w wr r n j AB cB n bs gd) (fun jv _ => n - (intOf jv).toNat)
  case atStart => exact ⟨0, _, _, _, Nat.zero_le _, rfl, by rw [HGD.out] at N0 ⊢; exact N0.out⟩
  case round =>
    obtain ⟨j, AB, cB, bs, hj, rfl, hN⟩ := hrel
    have HN := Lib.hid hN
    by_cases hlt : j < n
    · have t1 : decide ((j : Int) < (n : Int)) = true := by rw [decide_eq_true_eq]; omega
      have c0 : wr.cell? ⟨r, 0, none⟩ = some (.slice AB j cB) := hN.st.cell 0
      have z0 := hN.st.frozen 0
      have hrl : r < wr.heap.size := hN.st.lt
      have hge : w.heap.size ≤ wr.heap.size := hN.bl.size
      have ORB : Hid (RowO wr w.heap.size 26 AB cB bs) := Lib.hid hN.rB
      have LBJ := Lib.hid hN.lB
      have hne : (Value.slice AB j cB).ownBlock ≠ some r := fun e => by
        cases AB with
        | none => cases e
        | some a =>
          have e : some a.block = some r := e
          injection e with e
          exact hN.rB.row.ne_arr hN.st (by decide) a rfl e
      have NB : Hid (((wr.alloc (.cells Z8 5)).alloc (.cells #[.slice (some ⟨wr.heap.size, 0, none⟩) 128 128] 26)).drew.heap[wr.heap.size + 1]? = some (.cells #[.slice (some ⟨wr.heap.size, 0, none⟩) 128 128] 26 (0, 0))) := Lib.hid (by
        have h := heap_alloc_new (wr.alloc (.cells Z8 5)) (.cells #[.slice (some ⟨wr.heap.size, 0, none⟩) 128 128] 26)
        have e : (wr.alloc (.cells Z8 5)).heap.size = wr.heap.size + 1 := by simp
        rw [e] at h
        exact h)
      have FZ : Hid (((wr.alloc (.cells Z8 5)).alloc (.cells #[.slice (some ⟨wr.heap.size, 0, none⟩) 128 128] 26)).drew.frozen? ⟨r, 0, none⟩ = false) := Lib.hid (((hN.st.alloc _).alloc _).frozen 0)
      have YZ : Hid (((wr.alloc (.cells Z8 5)).alloc (.cells #[.slice (some ⟨wr.heap.size, 0, none⟩) 128 128] 26)).drew.cell? ⟨r, 0, none⟩ = some (.slice AB j cB)) := Lib.hid (((hN.st.alloc _).alloc _).cell 0)
      clear hN
      go_wp2_with fail
      go_region_law
        ((refine step_append_lies _ (by rfl) _ _ _ (by rfl) w.heap.size 26 j0 _ 1 24 Try.underlying43 hj0 hz0 hz1 hz2 rfl (by decide) (.slice AB j cB) j bs (by rfl) (by have := ((ORB.out.alloc (.cells Z8 5)).alloc (.cells #[.slice (some ⟨wr.heap.size, 0, none⟩) 128 128] 26)); unfold RowO at this; rw [LBJ.out] at this; exact this.drew) ⟨wr.heap.size + 1, 0, none⟩ 1 1 [.slice (some ⟨wr.heap.size, 0, none⟩) 128 128] (by rfl) (by rfl) (World.news_of_block (cs := #[.slice (some ⟨wr.heap.size, 0, none⟩) 128 128]) (t := 26) (fr := (0, 0)) NB.out) (by simp [Value.oneCell']) (by decide) (by unfold maxLen; omega) (by omega) (by simp; omega) (wr.heap.size + 2) (by simp) ?_; intro gn cn w1 hown1 hgrow hat hlt'; have fz1 : w1.frozen? ⟨r, 0, none⟩ = false := (hgrow.frozen_far _ (by simp; omega) (Ne.symm hne)).trans FZ.out; have yz1 : w1.cell? ⟨r, 0, none⟩ = some (.slice AB j cB) := (hgrow.cell_far _ (by simp; omega) (Ne.symm hne)).trans YZ.out))
      all_goals
        go_wp2
        go_roundw
        case rel =>
          exact ⟨j + 1, _, cn, _, by omega, by go_num, HN.out.next Z8 gn cn w1 HZ8.out hown1 hgrow hne⟩
        case measure => simp [intOf]; omega
    · obtain rfl : j = n := by omega
      have t1 : decide ((j : Int) < (j : Int)) = false := by simp
      go_wp2
      go_ret
      exact ⟨r, _, rfl, ⟨_, HN.out.done h1 h2⟩, fun k hk => hk.1, HN.out.bl⟩
theorem rnone_any (n : Int) (h0 : -9223372036854775808 ≤ n) (h1 : n ≤ 9223372036854775807) (h : n < 1 ∨ 512 < n) (w : World) :
    Calls Try.prog 17 #[.int .i64 n] w fun e w' => e = .returned (.pointer none) ∧ w' = w := by
  go_enter Try.func17, Try.ntmps17
  by_cases t1 : n < 1
  · have d1 : decide (n < 1) = true := by simpa using t1
    go_wp2
    go_ret
    exact ⟨rfl, rfl⟩
  · have d1 : decide (n < 1) = false := by simpa using t1
    have d2 : decide (512 < n) = true := by rw [decide_eq_true_eq]; omega
    have d3 : decide (n > 512) = true := by rw [decide_eq_true_eq]; omega
    go_wp2
    go_ret
    exact ⟨rfl, rfl⟩
end Go.Proofs.Ytaehgpieichjkaa
