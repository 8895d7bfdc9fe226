/-
  The document's own disk: Flush and Boot.
-/
import Derived.Test.YtaehgpieichjkaaRefLd
namespace Go.Proofs.Ytaehgpieichjkaa
set_option linter.unusedVariables false
set_option linter.unusedSimpArgs false
open Go.RowKit

theorem RStep.trans {F : Nat → Prop} {r : Nat} {t1 t2 : Dk} {w w1 w2 : World} (h : RStep F r t1 w w1) (k : ∀ F1 p, RefL w1 F1 r t1 p → RStep F1 r t2 w1 w2) : RStep F r t2 w w2 := by
  obtain ⟨F1, ⟨p, h1⟩, k1, s1⟩ := h
  obtain ⟨F2, h2, k2, s2⟩ := k F1 p h1
  exact ⟨F2, h2, k1.trans s1 k2, s1.trans s2 k1.size⟩
theorem RStep.on {F F1 : Nat → Prop} {r : Nat} {t2 : Dk} {w w1 w2 : World} (k1 : Keep F w w1) (s1 : Sub F1 F w) (h : RStep F1 r t2 w1 w2) : RStep F r t2 w w2 := by
  obtain ⟨F2, h2, k2, s2⟩ := h
  exact ⟨F2, h2, k1.trans s1 k2, s1.trans s2 k1.size⟩
theorem RStep.refl {F : Nat → Prop} {r : Nat} {t : Dk} {p : RefP} {w : World} (h : RefL w F r t p) : RStep F r t w w := ⟨F, ⟨p, h⟩, Keep.refl _ _, Sub.refl _ _⟩
/-- Nothing waits. -/
theorem RefL.clear {w w' : World} {F : Nat → Prop} {r : Nat} {t t' : Dk} {p : RefP} (h : RefL w F r t p) (ok : t'.Ok) (hb : t'.blk = t.blk) (hd : t'.bad = t.bad) (hw : t'.wt = []) (hk : Keep (· = r) w w')
    (st : Arr w' r 47 (refCells t' { p with AA := none, cA := 0, AW := none, cW := 0, ws := [] })) : RStep F r t' w w' := by
  refine ⟨F, ⟨{ p with AA := none, cA := 0, AW := none, cW := 0, ws := [] }, h.waits (F' := F) hk ok hb hd rfl rfl rfl rfl rfl st ?_ (RowA.nil _ _) ?_ (fun i hi => ?_) (fun _ hg => hg) (fun a ha => by cases ha) (fun a ha => by cases ha) (fun a a' _ ha => by cases ha) (fun j hj => ?_)⟩, ?_, Sub.refl _ _⟩
  · rw [hw]; exact RowA.nil _ _
  · rw [hw]; rfl
  · rw [hw] at hi; simp at hi
  · exact Nat.lt_of_lt_of_le (h.lt j hj) hk.size
  · exact ⟨hk.os, hk.tape, hk.output, hk.size, fun j hj hn => hk.block j hj (fun e => hn (by rw [e]; exact h.fr))⟩
theorem take_next {α : Type} (l : List α) (k : Nat) (d : α) (h : k < l.length) : l.take (k + 1) = l.take k ++ [l.getD k d] := by
  rw [List.take_succ_eq_append_getElem h, List.getD_eq_getElem?_getD, List.getElem?_eq_getElem h]; rfl

set_option maxRecDepth 100000 in
set_option maxHeartbeats 2000000 in
theorem rflush_any (F : Nat → Prop) (r : Nat) (t : Dk) (p : RefP) (w : World) (h : RefL w F r t p) (hw : t.wt.length ≤ 1000000) :
    Calls Try.prog 19 #[.pointer (some ⟨r, 0, none⟩)] w fun e w' => e = .returned (.int .i64 t.says) ∧ RStep F r t.flush w w' := by
  have rg := rgoes_any F r t p w h
  have H := Lib.hid h; have RG := Lib.hid rg
  clear h rg
  go_enter Try.func19, Try.ntmps19
  go_wp2_with fail
  refine RG.out.mono ?_
  rintro e w1 ⟨rfl, h1, k1⟩
  have ST1 := Lib.hid (show RStep F r t.asked w w1 from ⟨F, ⟨p, h1⟩, k1, Sub.refl _ _⟩)
  have c2 : w1.cell? ⟨r, 2, none⟩ = some (.slice p.AA t.asked.wt.length p.cA) := h1.st.cell 2
  have hq : t.asked.wt.length = t.wt.length := by unfold Dk.asked; split <;> rfl
  rw [hq] at c2
  clear h1 k1 hq
  cases hg : t.goes
  · have HG := Lib.hid hg
    have E1 : Hid (t.asked = t.flush) := Lib.hid (by rw [Dk.asked_no HG.out]; unfold Dk.flush; rw [if_neg (by rw [HG.out]; decide)])
    have E2 : Hid (t.says = 7) := Lib.hid (by unfold Dk.says; rw [if_neg (by rw [HG.out]; decide)])
    clear hg
    go_wp2
    go_ret
    refine ⟨by rw [E2.out]; rfl, ?_⟩
    have := ST1.out
    rw [E1.out] at this
    exact this
  · have HG := Lib.hid hg
    have E2 : Hid (t.says = 0) := Lib.hid (Dk.says_goes HG.out)
    have S2 : Hid (RStep F r (t.burn.lands (t.wt.take 0)) w w1) := Lib.hid (by have := ST1.out; rw [Dk.asked_yes HG.out] at this; exact this)
    clear hg ST1
    generalize hq : t.wt.length = q at *
    have HQ := Lib.hid hq
    clear hq
    go_wp2
    go_loopw [3, 12] (fun _ kv wr => ∃ k : Nat, k ≤ q ∧ kv = .int .i64 (k : Int) ∧ RStep F r (t.burn.lands (t.wt.take k)) w wr) (fun _ kv _ => q - (intOf kv).toNat)
    case atStart => exact ⟨0, Nat.zero_le _, rfl, S2.out⟩
    case round =>
      obtain ⟨k, hk, rfl, hst⟩ := hrel
      obtain ⟨F1, ⟨p1, h1⟩, k1, s1⟩ := hst
      have H1 := Lib.hid h1; have K1 := Lib.hid k1; have S1 := Lib.hid s1
      have ew : Hid ((t.burn.lands (t.wt.take k)).wt = t.wt) := Lib.hid ((Dk.lands_same _ t.burn).1)
      clear h1 k1 s1
      by_cases hlt : k < q
      · have i1 : decide ((k : Int) < (q : Int)) = true := by rw [decide_eq_true_eq]; omega
        go_wp2_with fail
        refine (rland_any F1 r _ p1 k wr H1.out (by rw [ew.out, HQ.out]; exact hlt) (by rw [ew.out, HQ.out]; exact hw)).mono ?_
        rintro e w2 ⟨rfl, st2⟩
        have ST2 : Hid (RStep F1 r (t.burn.lands (t.wt.take (k + 1))) wr w2) := Lib.hid (by
          rw [take_next _ _ (0, []) (by rw [HQ.out]; exact hlt), Dk.lands_snoc]
          rw [ew.out] at st2
          exact st2)
        clear st2
        go_wp2
        go_roundw
        case rel => exact ⟨k + 1, by omega, by go_num, RStep.on K1.out S1.out ST2.out⟩
        case measure => simp [intOf]; omega
      · obtain rfl : k = q := by omega
        have i1 : decide ((k : Int) < (k : Int)) = false := by simp
        have hst := H1.out.st
        have z2 := hst.frozen 2
        have z3 := hst.frozen 3
        have y2 : wr.cell? ⟨r, 2, none⟩ = some (.slice p1.AA (t.burn.lands (t.wt.take k)).wt.length p1.cA) := hst.cell 2
        have y3 : wr.cell? ⟨r, 3, none⟩ = some (.slice p1.AW (t.burn.lands (t.wt.take k)).wt.length p1.cW) := hst.cell 3
        have HT := Lib.hid hst
        clear hst
        have E3 : Hid ({ t.burn.lands (t.wt.take k) with wt := [] } = t.flush) := Lib.hid (by rw [List.take_of_length_le (by rw [HQ.out]; exact Nat.le_refl _)]; unfold Dk.flush; rw [if_pos HG.out])
        have OKF := Lib.hid H.out.ok.flush
        generalize t.burn.lands (t.wt.take k) = t1 at *
        go_wp2
        go_ret
        refine ⟨by rw [E2.out]; rfl, RStep.on K1.out S1.out ?_⟩
        rw [← E3.out]
        refine H1.out.clear (by rw [E3.out]; exact OKF.out) rfl rfl rfl (((Keep.refl (· = r) wr).setCell (a := ⟨r, 2, none⟩) rfl _).setCell (a := ⟨r, 3, none⟩) rfl _) ?_
        have := (HT.out.set 2 (.slice none 0 0)).set 3 (.slice none 0 0)
        exact this

/-- A block is torn. -/
theorem RefL.tear {w : World} {F : Nat → Prop} {r : Nat} {t : Dk} {p : RefP} (h : RefL w F r t p) (a gd : Nat) (ed : p.AD = some ⟨gd, 0, none⟩) : RefL (w.setCell ⟨gd, a, none⟩ (.bool true)) F r (t.tear a) p := by
  have rD := h.rD
  rw [ed] at rD
  obtain ⟨cd, xd⟩ := rD.heap
  refine ⟨h.ok.tear a, ?_, ?_, h.lB, fun i hi => ?_, ?_, ?_, ?_, h.lW, fun i hi => ?_, h.fr, h.fB, h.fD, h.fA, h.fW, h.ne, fun j hj => by rw [setCell_size]; exact h.lt j hj⟩
  · have e : refCells (t.tear a) p = refCells t p := rfl
    rw [e]
    exact h.st.far (fun e => h.rD.ne_arr h.st (by decide) _ ed e.symm) _
  · exact h.rB.other (fun x ex e => h.rB.apart h.rD (by decide) x _ ex ed e) _
  · exact (h.eB i hi).far (vs := []) ⟨cd, xd⟩ (by decide) _
  · show RowA _ _ p.AD p.cD (bvals (t.bad.set a true))
    rw [ed, ← bvals_set]
    exact rD.set a _
  · exact h.rA.other (fun x ex e => h.rA.apart h.rD (by decide) x _ ex ed e) _
  · exact h.rW.other (fun x ex e => h.rW.apart h.rD (by decide) x _ ex ed e) _
  · exact (h.eW i hi).far (vs := []) ⟨cd, xd⟩ (by decide) _

set_option maxRecDepth 100000 in
set_option maxHeartbeats 4000000 in
theorem rboot_any (F : Nat → Prop) (r : Nat) (t : Dk) (p : RefP) (n c N : Nat) (A : Option Addr) (how : List Int) (w : World) (h : RefL w F r t p) (hl : how.length = n) (hm : n ≤ maxLen) (hr : RdB w N A how) (hN : N ≤ w.heap.size) (hA : ∀ a, A = some a → 0 < n → ¬ F a.block) (hw : t.wt.length ≤ 1000000) :
    Calls Try.prog 20 #[.pointer (some ⟨r, 0, none⟩), .slice A n c] w fun e w' => e = .returned (.tuple #[]) ∧ RStep F r (t.boot how) w w' := by
  unfold maxLen at hm
  have c2 : w.cell? ⟨r, 2, none⟩ = some (.slice p.AA t.wt.length p.cA) := h.st.cell 2
  have S2 : Hid (RStep F r (Dk.boots how 0 (t.wt.take 0) t) w w) := Lib.hid (RStep.refl h)
  have H := Lib.hid h; have HL := Lib.hid hl; have HRD := Lib.hid hr; have HA := Lib.hid hA
  clear h hl hr hA
  generalize hq : t.wt.length = q at *
  have HQ := Lib.hid hq
  clear hq
  go_enter Try.func20, Try.ntmps20
  go_wp2
  go_loopw [4, 5, 11] (fun _ _ kv wr => ∃ k : Nat, k ≤ q ∧ kv = .int .i64 (k : Int) ∧ RStep F r (Dk.boots how 0 (t.wt.take k) t) w wr) (fun _ _ kv _ => q - (intOf kv).toNat)
  case atStart => exact ⟨0, Nat.zero_le _, rfl, S2.out⟩
  case round =>
    obtain ⟨k, hk, rfl, hst⟩ := hrel
    obtain ⟨F1, ⟨p1, h1⟩, k1, s1⟩ := hst
    have H1 := Lib.hid h1; have K1 := Lib.hid k1; have S1 := Lib.hid s1
    have ew : Hid ((Dk.boots how 0 (t.wt.take k) t).wt = t.wt) := Lib.hid ((Dk.boots_same how _ 0 t).1)
    clear h1 k1 s1 S2
    by_cases hlt : k < q
    · have i1 : decide ((k : Int) < (q : Int)) = true := by rw [decide_eq_true_eq]; omega
      have NX : Hid (Dk.boots how 0 (t.wt.take (k + 1)) t = (Dk.boots how 0 (t.wt.take k) t).bootOne (t.wt.getD k (0, [])) (how.getD k 0)) := Lib.hid (by
        rw [take_next _ _ (0, []) (by rw [HQ.out]; exact hlt), Dk.boots_snoc, Nat.zero_add, List.length_take, HQ.out, Nat.min_eq_left (by omega)])
      obtain ⟨cc, hcc⟩ : ∃ cc, cc = how.getD k 0 % 3 := ⟨_, rfl⟩
      have HC := Lib.hid hcc
      have c012 : cc = 1 ∨ cc = 2 ∨ cc = 0 := by omega
      clear hcc
      go_upto_if 17 with fail
      go_cut [5] (fun v wd => v = .int .u8 cc ∧ wr = wd)
      case first =>
        by_cases hjn : k < n
        · have t3 : decide ((k : Int) < (n : Int)) = true := by rw [decide_eq_true_eq]; omega
          have rd := K1.out.rdF HRD.out hN (fun a ha => HA.out a ha (by omega))
          obtain ⟨b9, o9, rfl, hb9, c9, u9, u9'⟩ := rd k (by rw [HL.out]; exact hjn)
          have e9 := HC.out
          clear rd
          generalize how.getD k 0 = y at *
          have l9 : (k : Int) < (n : Int) := by omega
          have m9 : y % 3 = cc := e9.symm
          clear e9
          go_wp2
          go_meet
          case rel => exact ⟨by rw [m9], rfl⟩
        · have t3 : decide ((k : Int) < (n : Int)) = false := by rw [decide_eq_false_iff_not]; omega
          have e9 : cc = 0 := by rw [HC.out, List.getD_eq_getElem?_getD, List.getElem?_eq_none (by rw [HL.out]; omega)]; rfl
          subst e9
          go_wp2
          go_meet
          case rel => exact ⟨rfl, rfl⟩
      case rest =>
        obtain ⟨rfl, rfl⟩ := hcut
        rcases c012 with rfl | rfl | rfl
        · have NX2 : Hid (Dk.boots how 0 (t.wt.take (k + 1)) t = (Dk.boots how 0 (t.wt.take k) t).land (t.wt.getD k (0, []))) := Lib.hid (by rw [NX.out]; unfold Dk.bootOne; rw [if_pos HC.out.symm])
          go_wp2_with fail
          refine (rland_any F1 r _ p1 k wr H1.out (by rw [ew.out, HQ.out]; exact hlt) (by rw [ew.out, HQ.out]; exact hw)).mono ?_
          rintro e w2 ⟨rfl, st2⟩
          rw [ew.out, ← NX2.out] at st2
          have ST2 := Lib.hid st2
          clear st2
          go_wp2
          go_roundw
          case rel => exact ⟨k + 1, by omega, by go_num, RStep.on K1.out S1.out ST2.out⟩
          case measure => simp [intOf]; omega
        · have NX2 : Hid (Dk.boots how 0 (t.wt.take (k + 1)) t = (Dk.boots how 0 (t.wt.take k) t).tear (t.wt.getD k (0, [])).1) := Lib.hid (by rw [NX.out]; unfold Dk.bootOne; rw [if_neg (by rw [← HC.out]; decide), if_pos HC.out.symm])
          have hwt : (t.wt.getD k (0, [])).1 < (Dk.boots how 0 (t.wt.take k) t).blk.length := by
            rw [(Dk.boots_same how _ 0 t).2.2]
            exact (H.out.ok.wts (t.wt.getD k (0, [])) (by rw [List.getD_eq_getElem?_getD, List.getElem?_eq_getElem (by rw [HQ.out]; exact hlt)]; exact List.getElem_mem _)).1
          have m1 : wr.cell? ⟨r, 1, none⟩ = some (.slice p1.AD (Dk.boots how 0 (t.wt.take k) t).blk.length p1.cD) := H1.out.st.cell 1
          have m2 : wr.cell? ⟨r, 2, none⟩ = some (.slice p1.AA (Dk.boots how 0 (t.wt.take k) t).wt.length p1.cA) := H1.out.st.cell 2
          rw [ew.out, HQ.out] at m2
          obtain ⟨gd, ed, hgd⟩ := H1.out.rD.at (by rw [bvals_len, H1.out.ok.nb]; omega)
          have yd := (hgd (t.wt.getD k (0, [])).1).2 (by rw [bvals_len, H1.out.ok.nb]; exact hwt)
          rw [bvals_at _ _ (by rw [H1.out.ok.nb]; exact hwt)] at yd
          have fd := (hgd (t.wt.getD k (0, [])).1).1
          have rA := H1.out.rA
          rw [ew.out] at rA
          obtain ⟨ga, ea, hga⟩ := rA.at (by rw [ivals_len, List.length_map, HQ.out]; omega)
          have ya := (hga k).2 (by rw [ivals_len, List.length_map, HQ.out]; exact hlt)
          rw [ivals_at _ k (by rw [List.length_map, HQ.out]; exact hlt), getD_map1 _ _ (by rw [HQ.out]; exact hlt)] at ya
          rw [ed] at m1
          rw [ea] at m2
          have TR := Lib.hid (H1.out.tear (t.wt.getD k (0, [])).1 gd ed)
          have FD := Lib.hid (H1.out.fD _ ed)
          rw [← NX2.out] at TR
          have i2 : ((t.wt.getD k (0, [])).1 : Int) < ((Dk.boots how 0 (t.wt.take k) t).blk.length : Int) := by omega
          have i3 : (k : Int) < (q : Int) := by omega
          clear hgd hga rA
          generalize (t.wt.getD k (0, [])).1 = a at *
          generalize (Dk.boots how 0 (t.wt.take k) t).bad.getD a false = vd at *
          generalize (Dk.boots how 0 (t.wt.take k) t).blk.length = m at *
          go_wp2_with fail
          go_region
          all_goals
            go_wp2
            go_roundw
            case rel => exact ⟨k + 1, by omega, by go_num, RStep.on K1.out S1.out ⟨F1, ⟨p1, TR.out.stay (fun _ _ => rfl) (Nat.le_refl _)⟩, ((Keep.refl F1 wr).setCell (a := ⟨gd, a, none⟩) FD.out _).drew, Sub.refl _ _⟩⟩
            case measure => simp [intOf]; omega
        · have NX2 : Hid (Dk.boots how 0 (t.wt.take (k + 1)) t = Dk.boots how 0 (t.wt.take k) t) := Lib.hid (by rw [NX.out]; unfold Dk.bootOne; rw [if_neg (by rw [← HC.out]; decide), if_neg (by rw [← HC.out]; decide)])
          go_wp2
          go_roundw
          case rel => exact ⟨k + 1, by omega, by go_num, by rw [NX2.out]; exact ⟨F1, ⟨p1, H1.out⟩, K1.out, S1.out⟩⟩
          case measure => simp [intOf]; omega
    · obtain rfl : k = q := by omega
      have i1 : decide ((k : Int) < (k : Int)) = false := by simp
      have hst := H1.out.st
      have z2 := hst.frozen 2
      have z3 := hst.frozen 3
      have z4 := hst.frozen 4
      have z5 := hst.frozen 5
      have y2 : wr.cell? ⟨r, 2, none⟩ = some (.slice p1.AA (Dk.boots how 0 (t.wt.take k) t).wt.length p1.cA) := hst.cell 2
      have y3 : wr.cell? ⟨r, 3, none⟩ = some (.slice p1.AW (Dk.boots how 0 (t.wt.take k) t).wt.length p1.cW) := hst.cell 3
      have y4 : wr.cell? ⟨r, 4, none⟩ = some (.int .i64 (Dk.boots how 0 (t.wt.take k) t).fuse) := hst.cell 4
      have y5 : wr.cell? ⟨r, 5, none⟩ = some (.bool (Dk.boots how 0 (t.wt.take k) t).off) := hst.cell 5
      have HT := Lib.hid hst
      clear hst
      have E3 : Hid ({ Dk.boots how 0 (t.wt.take k) t with wt := [], fuse := -1, off := false } = t.boot how) := Lib.hid (by rw [List.take_of_length_le (by rw [HQ.out]; exact Nat.le_refl _)]; rfl)
      have OKF := Lib.hid (H.out.ok.boot how)
      generalize Dk.boots how 0 (t.wt.take k) t = t1 at *
      go_wp2
      go_end0
      refine ⟨rfl, RStep.on K1.out S1.out ?_⟩
      rw [← E3.out]
      refine H1.out.clear (by rw [E3.out]; exact OKF.out) rfl rfl rfl (((((Keep.refl (· = r) wr).setCell (a := ⟨r, 2, none⟩) rfl _).setCell (a := ⟨r, 3, none⟩) rfl _).setCell (a := ⟨r, 4, none⟩) rfl _).setCell (a := ⟨r, 5, none⟩) rfl _) ?_
      have := (((HT.out.set 2 (.slice none 0 0)).set 3 (.slice none 0 0)).set 4 (.int .i64 (-1))).set 5 (.bool false)
      exact this
end Go.Proofs.Ytaehgpieichjkaa
