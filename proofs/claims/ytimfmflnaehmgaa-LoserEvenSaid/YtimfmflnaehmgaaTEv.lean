/-
  The walk of the statement LoserEven: the call returns true; nothing that was in memory turns.
-/
import Derived.Test.YtimfmflnaehmgaaTz
import Derived.Test.YtimfmflnaehmgaaLPm
import Derived.Test.YtimfmflnaehmgaaBWithin
namespace Go.Proofs.Ytimfmflnaehmgaa
set_option linter.unusedVariables false
set_option linter.unusedSimpArgs false
set_option maxRecDepth 100000
open Go.RowKit

theorem within_bit (n : Int) (w : World) : Calls Try.prog 13 #[.int .i64 n, .int .i64 0, .int .i64 1] w fun e w' => ∃ y : Int, e = .returned (.int .i64 y) ∧ 0 ≤ y ∧ y ≤ 1 ∧ w = w' := by
  obtain ⟨t1, t2, t3, t4⟩ := tmod_emod n 2 (by omega)
  obtain ⟨T, hT⟩ : ∃ T, n.tmod 2 = T := ⟨_, rfl⟩
  rw [hT] at t1 t2 t3 t4
  clear t3 t4
  by_cases ht : T < 0
  · go_enter Try.func13, Try.ntmps13
    go_wp2
    go_ret
    exact ⟨_, rfl, by omega, by omega, rfl⟩
  · go_enter Try.func13, Try.ntmps13
    go_wp2
    go_ret
    exact ⟨_, rfl, by omega, by omega, rfl⟩
theorem thv_one (x : Th) (u : Value) (h : u ∈ thv x) : u.oneCell' = true := by
  unfold thv at h
  simp at h
  rcases h with rfl | rfl | rfl <;> rfl
set_option maxHeartbeats 4000000 in
theorem leven_any (A : Option Addr) (len cap : Nat) (g : Nat → GRow) (w : World) (h : GIn w A len g) (hc : len ≤ cap) (hm : cap ≤ maxLen) :
    Calls Try.prog 6 #[.slice A len cap] w fun e w' => e = .returned (.bool true) ∧ Below w.heap.size w w' := by
  have GI := Lib.hid h
  have hm' : len ≤ 9223372036854775807 := by unfold maxLen at hm; omega
  clear h hm hc
  go_enter Try.func6, Try.ntmps6
  go_wp2_with fail
  go_loopw [3, 4, 5] (fun fv tv iv wr => ∃ (i : Nat) (Af : Option Addr) (cf : Nat) (ss : List Tr) (t : Nat), i ≤ 7 ∧ i ≤ len ∧ iv = .int .i64 i ∧ fv = .slice Af i cf ∧ tv = .int .i64 (t : Int) ∧ t = tsum (ss.map Tr.l) ∧ t ≤ i * 12 ∧ EvI w wr i Af cf ss ∧ Below w.heap.size w wr) (fun _ _ iv _ => 7 - (intOf iv).toNat)
  case atStart => exact ⟨0, none, 0, [], 0, by decide, Nat.zero_le _, rfl, rfl, rfl, rfl, Nat.zero_le _, ⟨rfl, RowA.nil _ _, TrsOk.nil _, Trs.nil _ _ _, fun j s h => (by simp at h), fun k ⟨i, s, h, _⟩ => (by simp at h), fun a ha => (by cases ha)⟩, Below.refl _ _⟩
  case round =>
    obtain ⟨i, Af, cf, ss, t, hi7, hil, rfl, rfl, rfl, htE, htb, hp, hb⟩ := hrel
    by_cases hlt : i < len ∧ i < 7
    · have d1 : decide ((i : Int) < (len : Int)) = true := by rw [decide_eq_true_eq]; omega
      have d2 : decide ((i : Int) < 7) = true := by rw [decide_eq_true_eq]; omega
      have d1' : decide (i < len) = true := by rw [decide_eq_true_eq]; omega
      have d2' : decide (i < 7) = true := by rw [decide_eq_true_eq]; omega
      have i1 : (i : Int) < (len : Int) := by omega
      have i2 : (i : Int) < 7 := by omega
      obtain ⟨v, hv⟩ : ∃ x : World, x = wr := ⟨_, rfl⟩
      subst hv
      have HP := Lib.hid hp; have HB := Lib.hid hb; have HT := Lib.hid htE
      clear hp hb htE
      go_upto_region 7 with fail
      obtain ⟨z, hz⟩ : ∃ z, v.heap.size = z := ⟨_, rfl⟩
      obtain ⟨w1, hw1⟩ : ∃ W, W = v.alloc (.cells #[.slice none 0 0] 44) := ⟨_, rfl⟩
      rw [← hw1, hz]
      have B1 := Lib.hid (show Below v.heap.size v w1 by rw [hw1]; exact (Below.refl _ _).alloc (Nat.le_refl _) _)
      have L1 := Lib.hid (show Arr w1 z 44 [.slice none 0 0] by rw [hw1, ← hz]; exact Arr.new v _ [_])
      have HZ := Lib.hid hz
      clear hw1 hz
      go_wp2_with fail
      go_loopw [7, 8] (fun xv kv wx => ∃ (k : Nat) (x : Int) (Al : Option Addr) (cl : Nat) (xs : List Th), k ≤ 12 ∧ k ≤ (g i).2.2.length ∧ kv = .int .i64 k ∧ xv = .int .i64 x ∧ 0 ≤ x ∧ x ≤ k ∧ xs.length = k ∧ LOk i xs ∧ (∀ y, y ∈ xs → y.1 ≤ x ∧ y.2.2 < (k : Int)) ∧ Arr wx z 44 [.slice Al k cl] ∧ RowN wx (z + 1) 46 3 Al k cl (thc xs) ∧ Below v.heap.size v wx) (fun _ kv _ => 12 - (intOf kv).toNat)
      case atStart => exact ⟨0, 0, none, 0, [], by decide, Nat.zero_le _, rfl, rfl, Int.le_refl _, Int.le_refl _, rfl, LOk.nil i, fun y hy => (by cases hy), L1.out, RowN.nil _ _ _ _, B1.out⟩
      case round =>
        obtain ⟨k, x, Al, cl, xs, hk12, hkn, rfl, rfl, hx0, hxk, hxl, hlo, htop, hal, hrl, hbx⟩ := hrel
        obtain ⟨b1, o1, rfl, hl1, c1, r1, n1⟩ := (GI.out.below (HB.out.trans (hbx.mono HB.out.size))).row i hlt.1
        obtain ⟨Ai, hAi⟩ : ∃ x, (g i).1 = x := ⟨_, rfl⟩
        obtain ⟨ci, hci⟩ : ∃ x, (g i).2.1 = x := ⟨_, rfl⟩
        obtain ⟨ni, hni⟩ : ∃ x, (g i).2.2.length = x := ⟨_, rfl⟩
        rw [hAi, hci, hni] at c1
        rw [hAi] at r1
        rw [hni] at hkn
        have HX := Lib.hid hbx; have HLO := Lib.hid hlo; have HTOP := Lib.hid htop; have HAL := Lib.hid hal; have HRL := Lib.hid hrl; have HXL := Lib.hid hxl
        have cl1 : wr.cell? ⟨z, 0, none⟩ = some (.slice Al k cl) := Arr.cell hal 0
        have fl1 : wr.frozen? ⟨z, 0, none⟩ = false := Arr.frozen hal 0
        have zlt : z < wr.heap.size := Arr.lt hal
        clear hbx hlo htop hal hrl hxl hAi hci
        by_cases hk : k < ni ∧ k < 12
        · have d3 : decide ((k : Int) < (ni : Int)) = true := by rw [decide_eq_true_eq]; omega
          have d4 : decide ((k : Int) < 12) = true := by rw [decide_eq_true_eq]; omega
          have d3' : decide (k < ni) = true := by rw [decide_eq_true_eq]; omega
          have d4' : decide (k < 12) = true := by rw [decide_eq_true_eq]; omega
          have i3 : (k : Int) < (ni : Int) := by omega
          have i4 : (k : Int) < 12 := by omega
          obtain ⟨y, hy⟩ : ∃ y, (g i).2.2[k]? = some y := ⟨_, List.getElem?_eq_getElem (by omega)⟩
          obtain ⟨b2, o2, rfl, hl2, c2⟩ := r1 k y hy
          have WI := Lib.hid (fun W => within_bit y W)
          have hkn2 : k + 1 ≤ (g i).2.2.length := by omega
          clear hy hni r1
          go_wp2_with fail
          refine (WI.out _).mono ?_
          rintro e w2 ⟨dx, rfl, hd0, hd1, rfl⟩
          have ex : IntKind.i64.wrap (x + dx) = x + dx := IntWalk.i64_in _ (by omega)
          have ROW := Lib.hid (HRL.out.below ((Below.refl _ wr).alloc (Nat.le_refl _) (.cells #[.int .i64 (x + dx), .int .i64 (i : Int), .int .i64 (k : Int)] 46)))
          have SRC := Lib.hid (fun (j : Nat) (u : Value) (hu : (thv (x + dx, (i : Int), (k : Int)))[j]? = some u) => show (wr.alloc (.cells #[.int .i64 (x + dx), .int .i64 (i : Int), .int .i64 (k : Int)] 46)).cell? ((⟨wr.heap.size, 0, none⟩ : Addr).add j) = some u by
            rw [add_zero', Arr.cell (Arr.new wr 46 [.int .i64 (x + dx), .int .i64 (i : Int), .int .i64 (k : Int)])]; exact hu)
          have BASE := Lib.hid (show z + 1 ≤ (wr.alloc (.cells #[.int .i64 (x + dx), .int .i64 (i : Int), .int .i64 (k : Int)] 46)).heap.size by rw [World.size_alloc]; omega)
          go_wp2_with (at_builtin; go_loud (refine app_rowN _ rfl _ _ 44 46 rfl Try.underlying44 (.agg #[.int .i64 0, .int .i64 0, .int .i64 0]) 3 24 (by kernel_rfl) rfl (by decide) (by decide) (z + 1) Al cl k (thc xs) rfl ROW.out ⟨wr.heap.size, 0, none⟩ 1 (thv (x + dx, (i : Int), (k : Int))) rfl rfl SRC.out (thv_one _) (by omega) BASE.out ?_))
          intro g2 cl2 w2 r2 k2
          have own_ : ∀ q, (Value.slice Al k cl).ownBlock = some q → z + 1 ≤ q := fun q hq => by
            cases Al with
            | none => cases hq
            | some a =>
              injection hq with hq
              have := (HRL.out.lt a rfl).1
              omega
          have AL2 : Arr w2 z 44 [.slice Al k cl] := Arr.same (Arr.below HAL.out ((Below.refl _ wr).alloc (Nat.le_refl _) (.cells #[.int .i64 (x + dx), .int .i64 (i : Int), .int .i64 (k : Int)] 46))) (k2.block z (by rw [World.size_alloc]; omega) (fun e => by have := own_ z e.symm; omega))
          have y2 : w2.cell? ⟨z, 0, none⟩ = some (.slice Al k cl) := Arr.cell AL2 0
          have f2 : w2.frozen? ⟨z, 0, none⟩ = false := Arr.frozen AL2 0
          have KS : Keep (· = z) w2 (w2.setCell ⟨z, 0, none⟩ (.slice (some ⟨g2, 0, none⟩) (k + 1) cl2)) := ⟨rfl, rfl, rfl, by simp [World.setCell], fun y _ hn => heap_setCell_other w2 _ y _ hn⟩
          have B2 : Below v.heap.size v w2 := Below.grown (HX.out.alloc HX.out.size (.cells #[.int .i64 (x + dx), .int .i64 (i : Int), .int .i64 (k : Int)] 46)) k2 (by rw [World.size_alloc]; have := HX.out.size; omega) (fun q hq => by have := own_ q hq; have := HZ.out; omega)
          have BX := Lib.hid (show Below v.heap.size v (w2.setCell ⟨z, 0, none⟩ (.slice (some ⟨g2, 0, none⟩) (k + 1) cl2)) from Keep.below KS (fun y e => by have := HZ.out; omega) B2 B2.size)
          have ALS := Lib.hid (show Arr (w2.setCell ⟨z, 0, none⟩ (.slice (some ⟨g2, 0, none⟩) (k + 1) cl2)) z 44 [.slice (some ⟨g2, 0, none⟩) (k + 1) cl2] from Arr.set AL2 0 _)
          have RNS := Lib.hid (show RowN (w2.setCell ⟨z, 0, none⟩ (.slice (some ⟨g2, 0, none⟩) (k + 1) cl2)) (z + 1) 46 3 (some ⟨g2, 0, none⟩) (k + 1) cl2 (thc (xs ++ [(x + dx, (i : Int), (k : Int))])) by
            rw [← thc_snoc]
            exact r2.other (fun a ha => by have := (r2.lt a ha).1; omega) _)
          clear own_ AL2 KS B2 r2 k2 ROW SRC BASE
          go_wp2_with fail
          go_roundw
          case rel => exact ⟨k + 1, x + dx, some ⟨g2, 0, none⟩, cl2, xs ++ [(x + dx, (i : Int), (k : Int))], by omega, hkn2, by go_num, rfl, by omega, by omega, by rw [List.length_append, HXL.out]; rfl, HLO.out.snoc HTOP.out (by omega) (by omega), LOk.top HTOP.out (by omega), ALS.out, RNS.out, BX.out⟩
          case measure => simp [intOf]; omega
        · have d34 : (decide ((k : Int) < (ni : Int)) = false ∧ decide (k < ni) = false) ∨ (decide ((k : Int) < (ni : Int)) = true ∧ decide (k < ni) = true ∧ decide ((k : Int) < 12) = false ∧ decide (k < 12) = false) := by
            by_cases q : k < ni
            · exact Or.inr ⟨by rw [decide_eq_true_eq]; omega, by rw [decide_eq_true_eq]; omega, by rw [decide_eq_false_iff_not]; omega, by rw [decide_eq_false_iff_not]; omega⟩
            · exact Or.inl ⟨by rw [decide_eq_false_iff_not]; omega, by rw [decide_eq_false_iff_not]; omega⟩
          have et : IntKind.i64.wrap ((t : Int) + (k : Int)) = ((t + k : Nat) : Int) := by rw [IntWalk.i64_in _ (by omega)]; omega
          have LR : Hid ((ss.map Tr.v).length = i) := Lib.hid (by rw [List.length_map]; exact HP.out.len)
          obtain ⟨s, hs⟩ : ∃ s : Tr, s = ⟨wr.heap.size, z, 0, 0, Al, cl, xs⟩ := ⟨_, rfl⟩
          have hsv : Tr.v s = .func (.func 15) #[] #[.pointer (some ⟨wr.heap.size, 0, none⟩), .pointer (some ⟨z, 0, none⟩)] := by rw [hs]; rfl
          obtain ⟨v1, hv1⟩ : ∃ W, W = wr.alloc (.cells #[.int .i64 0] 3) := ⟨_, rfl⟩
          have BV1 : Below wr.heap.size wr v1 := by rw [hv1]; exact (Below.refl _ _).alloc (Nat.le_refl _) _
          have AV1 : Arr v1 wr.heap.size 3 [.int .i64 0] := by rw [hv1]; exact Arr.new wr _ [_]
          have hv1s : v1.heap.size = wr.heap.size + 1 := by rw [hv1, World.size_alloc]
          have TA := Lib.hid (show TrAt v1 s 0 by
            rw [hs]
            have al1 := Arr.below HAL.out BV1
            exact ⟨Arr.cell AV1 0, Arr.frozen AV1 0, by show v1.cell? ⟨z, 0, none⟩ = some (.slice Al xs.length cl); rw [HXL.out]; exact Arr.cell al1 0, (HRL.out.below BV1).irt HXL.out, ⟨Arr.lt AV1, Arr.lt al1⟩, Nat.zero_le _, by show xs.length ≤ _; rw [HXL.out]; omega⟩)
          have RW := Lib.hid ((HP.out.row.below HX.out |>.below BV1).below ((Below.refl _ v1).alloc (Nat.le_refl _) (.cells #[Tr.v s] 47)))
          have ST := Lib.hid (fun (A4 : Option Addr) (c4 : Nat) (w4 : World) K4 F4 R4 => HP.out.step (v := v1) (s := s) (A4 := A4) (c4 := c4) (w4 := w4) HB.out.size (HX.out.trans (BV1.mono HX.out.size)) TA.out (by rw [hs]; exact HLO.out) (by rw [hs]; exact HX.out.size) (by rw [hs]; show _ ≤ z; have := HZ.out; omega) (by rw [hs]; show wr.heap.size ≠ z; omega) (fun a ha => by
            rw [hs] at ha ⊢
            have h1 := HRL.out.lt a ha.2
            have := HZ.out
            exact ⟨by omega, by show a.block ≠ wr.heap.size; omega⟩) (.cells #[Tr.v s] 47) K4 F4 R4)
          have BV := Lib.hid (show Below w.heap.size w (v1.alloc (.cells #[Tr.v s] 47)) from ((HB.out.trans (HX.out.mono HB.out.size)).trans (BV1.mono (Nat.le_trans HB.out.size HX.out.size))).alloc (Nat.le_trans HB.out.size (Nat.le_trans HX.out.size BV1.size)) _)
          have TS := Lib.hid (show t + k = tsum ((ss ++ [s]).map Tr.l) by rw [tsum_snoc, HT.out, hs]; show _ = _ + xs.length; rw [HXL.out])
          have HSV := Lib.hid hsv; have HV1 := Lib.hid hv1
          have hs2 := Lib.hid hs
          rw [hsv] at RW BV ST
          clear hsv hv1 BV1 AV1 hs hv1s
          rcases d34 with ⟨d3, d3'⟩ | ⟨d3, d3', d4, d4'⟩
          all_goals
            go_upto_region 15 with fail
            rw [← HV1.out]
            go_wp2_with (at_builtin; go_loud (refine wpList_row_app cells_fun_t rfl _ _ rfl Af i cf (ss.map Tr.v) rfl RW.out LR.out (some ⟨v1.heap.size, 0, none⟩) 1 1 [(.func (.func 15) #[] #[.pointer (some ⟨wr.heap.size, 0, none⟩), .pointer (some ⟨z, 0, none⟩)])] rfl rfl (Src.one v1 47 _ _ _) (fun u hu => (by rw [List.mem_singleton.1 hu]; rfl)) (by omega) ?_))
            intro A4 c4 w4 r4 k4 a4
            have E4 := Lib.hid (ST.out A4 c4 w4 k4 (by rw [World.size_alloc]; exact a4) r4)
            have BW4 := Lib.hid (Keep.below k4 (fun q ⟨a, ha, e⟩ => by have := (HP.out.far a ha).2; omega) BV.out BV.out.size)
            clear r4 k4 a4 ST
            go_wp2_with fail
            go_roundw
            case rel => exact ⟨i + 1, A4, c4, ss ++ [s], t + k, by omega, by omega, by go_num, rfl, by go_num, TS.out, by omega, E4.out, BW4.out⟩
            case measure => simp [intOf]; omega
    · have d12 : (decide ((i : Int) < (len : Int)) = false ∧ decide (i < len) = false) ∨ (decide ((i : Int) < (len : Int)) = true ∧ decide (i < len) = true ∧ decide ((i : Int) < 7) = false ∧ decide (i < 7) = false) := by
        by_cases q : i < len
        · exact Or.inr ⟨by rw [decide_eq_true_eq]; omega, by rw [decide_eq_true_eq]; omega, by rw [decide_eq_false_iff_not]; omega, by rw [decide_eq_false_iff_not]; omega⟩
        · exact Or.inl ⟨by rw [decide_eq_false_iff_not]; omega, by rw [decide_eq_false_iff_not]; omega⟩
      have hlen := hp.len
      have hA0 : Af = none → ss = [] := fun e => by
        rcases hp.row.parts with ⟨_, _, q⟩ | ⟨_, _, q, _⟩
        · exact List.map_eq_nil_iff.1 q
        · rw [e] at q; cases q
      have NW := Lib.hid (new_any_t Af cf 0 ss (fun _ _ => 0) wr hp.row (by omega) hA0 hp.ok (by rw [hlen]; exact hp.srs) (by decide))
      rw [hlen] at NW
      unfold LT.fv at NW
      obtain ⟨Bn, hBn⟩ : ∃ z, wr.heap.size = z := ⟨_, rfl⟩
      have HP := Lib.hid hp; have HB := Lib.hid hb; have HT := Lib.hid htE; have HBN := Lib.hid hBn
      have HOK : Hid (∀ k, WrT ss k → k < Bn ∧ w.heap.size ≤ k) := Lib.hid (fun k hk => ⟨by rw [← hBn]; exact hp.ok.wr k hk, hp.own k (by obtain ⟨j, s, hs, e⟩ := hk; exact ⟨j, s, hs, Or.inl e⟩)⟩)
      have OT := Lib.hid (show OrdT (ss.map Tr.l) (-1, 0, 0) from OrdT.start (fun j u hj => by
        rw [List.getElem?_map] at hj
        rcases hs : ss[j]? with _ | s
        · rw [hs] at hj; cases hj
        · rw [hs] at hj
          injection hj with hj
          subst hj
          exact hp.lok j s hs))
      have ht84 : t ≤ 84 := by omega
      clear hp hb htE hBn hA0 htb
      rcases d12 with ⟨d1, d1'⟩ | ⟨d1, d1', d2, d2'⟩
      all_goals
        go_wp2_with fail
        refine NW.out.mono ?_
        rintro e w2 ⟨b, F, rfl, tr, kp⟩
        rw [HBN.out] at tr
        have BW2 := Lib.hid (show Below w.heap.size w w2 from Keep.below kp (fun k hk => (HOK.out k hk).2) HB.out HB.out.size)
        have hsz2 : Bn ≤ w2.heap.size := by rw [← HBN.out]; exact kp.size
        have TR := Lib.hid tr
        clear tr kp NW
        go_upto_region 20 with fail
        obtain ⟨w3, hw3⟩ : ∃ W, W = w2.alloc (.cells #[.int .i64 (-1), .int .i64 0, .int .i64 0] 46) := ⟨_, rfl⟩
        rw [← hw3]
        obtain ⟨zb, hzb⟩ : ∃ z, w2.heap.size = z := ⟨_, rfl⟩
        rw [hzb]
        have B3 := Lib.hid (show Below w2.heap.size w2 w3 by rw [hw3]; exact (Below.refl _ _).alloc (Nat.le_refl _) _)
        have TH3 := Lib.hid (show ThV w3 zb (-1, 0, 0) by rw [hw3, ← hzb]; exact Arr.new w2 _ [_, _, _])
        have BW3 := Lib.hid (BW2.out.trans (B3.out.mono BW2.out.size))
        have TR3 := Lib.hid (TR.out.below B3.out)
        have nF3 : Hid (¬ F zb) := Lib.hid (fun hF => by have := TR.out.lt zb hF; omega)
        rw [hzb] at hsz2
        clear hw3 hzb
        go_wp2_with fail
        go_loopw [12] (fun kv wx => ∃ (k : Nat) (ps : List Nat) (F : Nat → Prop) (q : Nat → Nat → Int) (N : Nat) (R : List (List Th)) (u : Th), kv = .int .i64 k ∧ k + tsum R = t ∧ OrdT R u ∧ TreeT wx Bn F b ss ps q N R ∧ ThV wx zb u ∧ ¬ F zb ∧ N ≤ 7 + k ∧ Below w.heap.size w wx) (fun kv _ => t - (intOf kv).toNat)
        case atStart => exact ⟨0, _, F, _, _, _, _, rfl, by rw [Nat.zero_add]; exact HT.out.symm, OT.out, TR3.out, TH3.out, nF3.out, by have := HP.out.len; omega, BW3.out⟩
        case round =>
          obtain ⟨k, ps, F, q, N, R, u, rfl, hkt, hor, htr, hth, hnF, hN, hbw⟩ := hrel
          by_cases hk : k < t
          · have d3 : decide ((k : Int) < (t : Int)) = true := by rw [decide_eq_true_eq]; omega
            have d3' : decide (k < t) = true := by rw [decide_eq_true_eq]; omega
            have NX := Lib.hid (next_some_t wr Bn F b ss ps q N R htr (fun e => by rw [← tsum_zero] at e; omega) (by omega))
            have HO := Lib.hid hor; have HTR := Lib.hid htr; have HTH := Lib.hid hth; have HNF := Lib.hid hnF; have HBW := Lib.hid hbw
            clear hor htr hth hnF hbw
            go_wp2_with fail
            refine NX.out.mono ?_
            rintro e w4 ⟨i', x, y, s, p, k1, k2, k3, k4, rfl, F', t1, t2, t3⟩
            obtain ⟨hAf, hsx, hoR⟩ := HO.out.next k1 k2
            have hts := tsum_set R i' x y k2
            obtain ⟨x1, x2, x3⟩ := x
            obtain ⟨u1, u2, u3⟩ := u
            have hsx : x2 = (i' : Int) := hsx
            subst hsx
            have T1 := Lib.hid t1; have T2 := Lib.hid t2; have T3 := Lib.hid t3; have HOR := Lib.hid hoR
            clear t1 t2 t3 hoR k1 k2 k3 k4 NX
            go_upto_region 24 with fail
            obtain ⟨W, hW⟩ : ∃ W, W = w4.alloc (.cells #[.int .i64 x1, .int .i64 (i' : Int), .int .i64 x3] 46) := ⟨_, rfl⟩
            rw [← hW]
            obtain ⟨zy, hzy⟩ : ∃ z, w4.heap.size = z := ⟨_, rfl⟩
            rw [hzy]
            have BW := Lib.hid (show Below w4.heap.size w4 W by rw [hW]; exact (Below.refl _ _).alloc (Nat.le_refl _) _)
            have TZ4 : ThV w4 zb (u1, u2, u3) := Arr.same HTH.out (T2.out.block zb (Arr.lt HTH.out) (fun e => e.elim HNF.out (fun e => by have := (HOK.out zb e).1; omega)))
            have TZ := Lib.hid (show ThV W zb (u1, u2, u3) from Arr.below TZ4 BW.out)
            have TY := Lib.hid (show ThV W zy (x1, (i' : Int), x3) by rw [hW, ← hzy]; exact Arr.new w4 _ [_, _, _])
            have zlt : zb < wr.heap.size := Arr.lt HTH.out
            have z0 : W.cell? ⟨zb, 0, none⟩ = some (.int .i64 u1) := Arr.cell TZ.out 0
            have z1 : W.cell? ⟨zb, 1, none⟩ = some (.int .i64 u2) := Arr.cell TZ.out 1
            have z2 : W.cell? ⟨zb, 2, none⟩ = some (.int .i64 u3) := Arr.cell TZ.out 2
            have f0 : W.frozen? ⟨zb, 0, none⟩ = false := Arr.frozen TZ.out 0
            have f1 : W.frozen? ⟨zb, 1, none⟩ = false := Arr.frozen TZ.out 1
            have f2 : W.frozen? ⟨zb, 2, none⟩ = false := Arr.frozen TZ.out 2
            have q0 : W.cell? ⟨zy, 0, none⟩ = some (.int .i64 x1) := Arr.cell TY.out 0
            have q1 : W.cell? ⟨zy, 1, none⟩ = some (.int .i64 (i' : Int)) := Arr.cell TY.out 1
            have q2 : W.cell? ⟨zy, 2, none⟩ = some (.int .i64 x3) := Arr.cell TY.out 2
            have FIN : Hid (TreeT (thw W zb (x1, (i' : Int), x3)) Bn F' b ss (ps.set i' (min (p + 1) s.l.length)) (up q s.pg s.po) (N + 1) (R.set i' y) ∧ ThV (thw W zb (x1, (i' : Int), x3)) zb (x1, (i' : Int), x3) ∧ ¬ F' zb ∧ Below w.heap.size w (thw W zb (x1, (i' : Int), x3))) := Lib.hid (by
              have kt := thw_keep W zb (x1, (i' : Int), x3)
              have nF' : ¬ F' zb := fun e => by
                rcases T3.out zb e with e | e
                · exact HNF.out e
                · omega
              have hww := BW2.out.size
              have bw4 : Below w.heap.size w w4 := Keep.below T2.out (fun k hk => hk.elim (fun e => by have := HTR.out.up k e; have := HBN.out; have := HB.out.size; omega) (fun e => (HOK.out k e).2)) HBW.out HBW.out.size
              have bW := bw4.trans (BW.out.mono bw4.size)
              exact ⟨(T1.out.below BW.out).keep kt (fun k hk e => nF' (by have e : k = zb := e; rw [← e]; exact hk)) (fun k e => by have e : k = zb := e; omega), ThV.set TZ.out _, nF', Keep.below kt (fun k e => by have e : k = zb := e; have := HB.out.size; have := HBN.out; omega) bW bW.size⟩)
            have HWW := Lib.hid hW; have HZY := Lib.hid hzy
            clear hW hzy TZ4
            rcases hAf with c | ⟨c, c'⟩
            · have c : u1 < x1 := c
              have g1 : decide (x1 < u1) = false := by rw [decide_eq_false_iff_not]; omega
              have g2 : decide (x1 = u1) = false := by rw [decide_eq_false_iff_not]; omega
              have g3 : (x1 == u1) = false := by rw [beq_eq_false_iff_ne]; omega
              go_wp2_with fail
              go_roundw
              case rel => exact ⟨k + 1, _, F', _, N + 1, R.set i' y, (x1, (i' : Int), x3), by go_num, by omega, HOR.out, FIN.out.1, FIN.out.2.1, FIN.out.2.2.1, by omega, FIN.out.2.2.2⟩
              case measure => simp [intOf]; omega
            · have c : u1 = x1 := c
              subst c
              rcases c' with c' | ⟨c', c2⟩
              · have c' : u2 < (i' : Int) := c'
                have g1 : decide ((i' : Int) < u2) = false := by rw [decide_eq_false_iff_not]; omega
                have g2 : decide ((i' : Int) = u2) = false := by rw [decide_eq_false_iff_not]; omega
                have g3 : ((i' : Int) == u2) = false := by rw [beq_eq_false_iff_ne]; omega
                go_wp2_with fail
                go_roundw
                case rel => exact ⟨k + 1, _, F', _, N + 1, R.set i' y, (u1, (i' : Int), x3), by go_num, by omega, HOR.out, FIN.out.1, FIN.out.2.1, FIN.out.2.2.1, by omega, FIN.out.2.2.2⟩
                case measure => simp [intOf]; omega
              · have c' : u2 = (i' : Int) := c'
                subst c'
                have c2 : u3 < x3 := c2
                have g1 : decide (x3 ≤ u3) = false := by rw [decide_eq_false_iff_not]; omega
                go_wp2_with fail
                go_roundw
                case rel => exact ⟨k + 1, _, F', _, N + 1, R.set i' y, (u1, (i' : Int), x3), by go_num, by omega, HOR.out, FIN.out.1, FIN.out.2.1, FIN.out.2.2.1, by omega, FIN.out.2.2.2⟩
                case measure => simp [intOf]; omega
          · have d3 : decide ((k : Int) < (t : Int)) = false := by rw [decide_eq_false_iff_not]; omega
            have d3' : decide (k < t) = false := by rw [decide_eq_false_iff_not]; omega
            have NX := Lib.hid (next_none_t wr Bn F b ss ps q N R htr (by rw [← tsum_zero]; omega))
            have RU := Lib.hid (fun W => lruns_any W)
            have HBW := Lib.hid hbw
            clear hor htr hth hnF hbw
            go_wp2_with fail
            refine NX.out.mono ?_
            rintro e w4 ⟨rfl, b4⟩
            have BW4 := Lib.hid (HBW.out.trans (b4.mono HBW.out.size))
            clear b4 NX
            go_upto_region 28 with fail
            obtain ⟨w5, hw5⟩ : ∃ W, W = w4.alloc (.cells #[.int .i64 0, .int .i64 0, .int .i64 0] 46) := ⟨_, rfl⟩
            rw [← hw5]
            have BW5 := Lib.hid (show Below w.heap.size w w5 by rw [hw5]; exact BW4.out.alloc BW4.out.size _)
            clear hw5
            go_wp2_with fail
            refine (RU.out _).mono ?_
            rintro e w6 ⟨rfl, b6⟩
            have BW6 := Lib.hid (BW5.out.trans (b6.mono BW5.out.size))
            clear b6
            go_wp2_with fail
            go_ret
            exact ⟨rfl, BW6.out⟩
end Go.Proofs.Ytimfmflnaehmgaa
