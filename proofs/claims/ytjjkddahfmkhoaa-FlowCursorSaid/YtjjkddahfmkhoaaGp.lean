/-
  The walk of the statement FlowJoins: the call returns true; nothing that was in memory turns.
-/
import Derived.Test.YtjjkddahfmkhoaaGo
import Derived.Test.YtjjkddahfmkhoaaGn
import Derived.Test.YtjjkddahfmkhoaaGw
namespace Go.Proofs.Ytjjkddahfmkhoaa
set_option linter.unusedVariables false
set_option linter.unusedSimpArgs false
set_option maxRecDepth 100000
open Go.RowKit Go.Shelf
attribute [local go_sem] Oper.semAt_some

/-- Rows that rise, and the number that they rose to. -/
def risA (xs : List Int) (x : Int) (i : Nat) : Prop := (0 ≤ x ∧ x ≤ 3 * (i : Int) ∧ i ≤ 25) ∧ xs.Pairwise (· ≤ ·) ∧ ∀ y, y ∈ xs → y ≤ x
def risB (xs : List Int) (x : Int) (i : Nat) : Prop := (0 ≤ x ∧ x ≤ 3 * (i : Int) ∧ i ≤ 25) ∧ xs.Pairwise (· < ·) ∧ ∀ y, y ∈ xs → y ≤ x
theorem risA_nil : risA [] 0 0 := ⟨⟨by decide, by decide, by decide⟩, List.Pairwise.nil, fun y h => by simp at h⟩
theorem risB_nil : risB [] 0 0 := ⟨⟨by decide, by decide, by decide⟩, List.Pairwise.nil, fun y h => by simp at h⟩
theorem risA_bd {xs : List Int} {x : Int} {i : Nat} (h : risA xs x i) : 0 ≤ x ∧ x ≤ 75 := by have := h.1; omega
theorem risB_bd {xs : List Int} {x : Int} {i : Nat} (h : risB xs x i) : 0 ≤ x ∧ x ≤ 75 := by have := h.1; omega
theorem risA_snoc {xs : List Int} {x y : Int} {i : Nat} (h : risA xs x i) (y0 : 0 ≤ y) (y1 : y ≤ 3) (hi : i < 25) : risA (xs ++ [x + y]) (x + y) (i + 1) := by
  obtain ⟨h1, h2, h3⟩ := h
  refine ⟨⟨by omega, by push_cast; omega, by omega⟩, List.pairwise_append.2 ⟨h2, List.pairwise_singleton _ _, fun a ha b hb => ?_⟩, fun z hz => ?_⟩
  · have := h3 a ha; have hb : b = x + y := by simpa using hb
    omega
  · rcases List.mem_append.1 hz with hz | hz
    · have := h3 z hz; omega
    · have hz : z = x + y := by simpa using hz
      omega
theorem risB_snoc {xs : List Int} {x y : Int} {i : Nat} (h : risB xs x i) (y0 : 1 ≤ y) (y1 : y ≤ 3) (hi : i < 25) : risB (xs ++ [x + y]) (x + y) (i + 1) := by
  obtain ⟨h1, h2, h3⟩ := h
  refine ⟨⟨by omega, by push_cast; omega, by omega⟩, List.pairwise_append.2 ⟨h2, List.pairwise_singleton _ _, fun a ha b hb => ?_⟩, fun z hz => ?_⟩
  · have := h3 a ha; have hb : b = x + y := by simpa using hb
    omega
  · rcases List.mem_append.1 hz with hz | hz
    · have := h3 z hz; omega
    · have hz : z = x + y := by simpa using hz
      omega
theorem RowA.zero {w : World} {e : TypeId} {A : Option Addr} {c : Nat} {xs : List Value} (h : RowA w e A c xs) (hA : A = none) : c = 0 := by
  rcases h.parts with ⟨_, q, _⟩ | ⟨_, _, q, _⟩
  · exact q
  · rw [hA] at q; cases q
theorem name_w {P : Program} {c : Code} {Q : Exit → Act → World → Prop} {T : Array Value} {ds : List Deferred} {w : World} (h : ∀ Q', Q' = Q → c.wp P Q' { tmps := T, defers := ds } w) : c.wp P Q { tmps := T, defers := ds } w := h Q rfl
set_option maxHeartbeats 16000000 in
theorem fjoins_any (A1 : Option Addr) (n1 c1 : Nat) (zs : List Int) (A2 : Option Addr) (n2 c2 : Nat) (us : List Int) (w : World) (hr1 : RF w A1 n1 c1 zs) (hr2 : RF w A2 n2 c2 us) :
    Calls Try.prog 7 #[.slice A1 n1 c1, .slice A2 n2 c2] w fun e w' => e = .returned (.bool true) ∧ Below w.heap.size w w' := by
  have RA1 := Lib.hid hr1.2; have RA2 := Lib.hid hr2.2
  have hm1 : n1 ≤ maxLen := Nat.le_trans hr1.1.1 hr1.1.2.1
  have hm2 : n2 ≤ maxLen := Nat.le_trans hr2.1.1 hr2.1.2.1
  unfold maxLen at hm1 hm2
  clear hr1 hr2
  go_enter Try.func7, Try.ntmps7
  go_wp2_with fail
  refine name_w ?_
  intro QM hQM
  have HQM := Lib.hid hQM
  clear hQM
  have TL : Hid (∀ (na : Nat) (Aa : Option Addr) (ca : Nat) (asx : List Int) (xa : Int) (wa : World) (v17 v18 v19 v20 v21 v22 v23 v24 v25 v26 v27 v28 v29 v30 v31 v32 v33 v34 v35 v36 v37 : Value), (RowA wa 3 Aa ca (fv asx) ∧ (asx.length = na ∧ na ≤ 25) ∧ Below w.heap.size w wa ∧ asx.Pairwise (· ≤ ·)) →
      QM (.exit 0) { tmps := #[.slice A1 n1 c1, .slice A2 n2 c2, undef, undef, .bool false, .slice Aa na ca, .slice none 0 0, .int .i64 xa, .int .i64 0, .int .i64 na, undef, undef, undef, undef, undef, undef, undef, v17, v18, v19, v20, v21, v22, v23, v24, v25, v26, v27, v28, v29, v30, v31, v32, v33, v34, v35, v36, v37, undef, undef, undef, undef, undef, undef, undef, undef, undef, undef, undef, undef, undef, undef, undef, undef, undef, undef, undef, undef, undef, undef, undef, undef, undef, undef, undef, undef, undef, undef, undef, undef, undef, undef, undef, undef, undef, undef, undef, undef, undef, undef, undef, undef, undef, undef, undef, undef, undef, undef, undef, undef, undef, undef, undef, undef, undef, undef, undef, undef, undef, undef, undef, undef, undef, undef], defers := [] } wa) := Lib.hid (by
    intro na Aa ca asx xa wa v17 v18 v19 v20 v21 v22 v23 v24 v25 v26 v27 v28 v29 v30 v31 v32 v33 v34 v35 v36 v37 hfa
    obtain ⟨ar, ⟨al, al2⟩, ab, ap⟩ := hfa
    have AROW := Lib.hid ar; have ALEN := Lib.hid al; have WA := Lib.hid ab; have ARIS := Lib.hid ap
    clear ar al ab ap
    rw [HQM.out]
    clear HQM QM RA1
    go_wp2_with fail
    refine name_w ?_
    intro QN hQN
    have HQN := Lib.hid hQN
    clear hQN
    have TM : Hid (∀ (nb : Nat) (Ab : Option Addr) (cb : Nat) (bs : List Int) (xb : Int) (wb : World) (v38 v39 v40 v41 v42 v43 v44 v45 v46 v47 v48 v49 v50 v51 v52 v53 v54 v55 v56 v57 v58 : Value), (RowA wb 3 Ab cb (fv bs) ∧ (bs.length = nb ∧ nb ≤ 25) ∧ Below wa.heap.size wa wb ∧ bs.Pairwise (· < ·)) →
        QN (.exit 2) { tmps := #[.slice A1 n1 c1, .slice A2 n2 c2, undef, undef, .bool false, .slice Aa na ca, .slice Ab nb cb, .int .i64 xa, .int .i64 xb, .int .i64 na, .int .i64 nb, undef, undef, undef, undef, undef, undef, v17, v18, v19, v20, v21, v22, v23, v24, v25, v26, v27, v28, v29, v30, v31, v32, v33, v34, v35, v36, v37, v38, v39, v40, v41, v42, v43, v44, v45, v46, v47, v48, v49, v50, v51, v52, v53, v54, v55, v56, v57, v58, undef, undef, undef, undef, undef, undef, undef, undef, undef, undef, undef, undef, undef, undef, undef, undef, undef, undef, undef, undef, undef, undef, undef, undef, undef, undef, undef, undef, undef, undef, undef, undef, undef, undef, undef, undef, undef, undef, undef, undef, undef, undef, undef, undef, undef], defers := [] } wb) := Lib.hid (by
      intro nb Ab cb bs xb wb v38 v39 v40 v41 v42 v43 v44 v45 v46 v47 v48 v49 v50 v51 v52 v53 v54 v55 v56 v57 v58 hfb
      obtain ⟨br, ⟨bl, bl2⟩, bb, bp⟩ := hfb
      have BROW := Lib.hid br; have BLEN := Lib.hid bl; have WB := Lib.hid bb; have BRIS := Lib.hid bp
      clear br bl bb bp
      rw [HQN.out]
      clear HQN QN RA2
      have AB := Lib.hid (AROW.out.below WB.out)
      have FD := Lib.hid (found_any Aa Ab na nb ca cb asx bs wb AB.out.ifw BROW.out.ifw ALEN.out BLEN.out (by omega) (by omega) AB.out.zero BROW.out.zero)
      go_wp2_with fail
      refine FD.out.mono ?_
      rintro e w3 ⟨Ao, co, rfl, ro, no, b3⟩
      have BT : Hid (Below w.heap.size w w3) := Lib.hid ((WA.out.trans (WB.out.mono WA.out.size)).trans (b3.mono (by have := WB.out.size; have := WA.out.size; omega)))
      have A3 := Lib.hid (AB.out.below b3); have B3 := Lib.hid (BROW.out.below b3); have RO := Lib.hid ro
      have OL : Hid ((jout bs asx).length = 2 * na) := Lib.hid (by rw [jout_len, ALEN.out])
      obtain ⟨N, hN⟩ : ∃ N, 2 * na = N := ⟨_, rfl⟩
      have e5 : wrap64 (2 * (na : Int)) = (N : Int) := by rw [IntWalk.wrap64_in _ (by omega)]; omega
      have e5' : (2 * (na : Int)) = (N : Int) := by omega
      have HNN := Lib.hid hN
      rw [hN] at OL ⊢
      have FR := Lib.hid (fruns_any w3)
      clear FD ro no b3 AB BROW AROW hN
      go_wp2_with fail
      try rw [e5']
      go_wp2_with fail
      go_loopw [70] (fun jv wr => ∃ j : Nat, jv = .int .i64 j ∧ j ≤ na ∧ w3 = wr) (fun jv _ => na - (intOf jv).toNat)
      case atStart => exact ⟨0, rfl, Nat.zero_le _, rfl⟩
      case round =>
        obtain ⟨j, rfl, hj, rfl⟩ := hrel
        by_cases hlt : j < na
        · obtain ⟨x, hx⟩ : ∃ x, asx[j]? = some x := ⟨_, List.getElem?_eq_getElem (by rw [ALEN.out]; exact hlt)⟩
          obtain ⟨g, rfl, hg⟩ := A3.out.at (by rw [fv_len, ALEN.out]; omega)
          have ca1 : w3.cell? ⟨g, j, none⟩ = some (.int .i64 x) := by rw [(hg j).2 (by rw [fv_len, ALEN.out]; exact hlt)]; exact fv_at hx
          obtain ⟨q1, q2⟩ := jout_at bs asx j x hx
          have FL := Lib.hid (jflag_of BRIS.out ARIS.out hx)
          have hol : 2 * j + 1 < (jout bs asx).length := by rw [OL.out]; have := HNN.out; omega
          obtain ⟨go, rfl, hgo⟩ := RO.out.at (by rw [fv_len]; omega)
          have co1 : w3.cell? ⟨go, 2 * j, none⟩ = some (.int .i64 x) := by rw [(hgo (2 * j)).2 (by rw [fv_len]; omega)]; exact fv_at q1
          have co2 : w3.cell? ⟨go, 2 * j + 1, none⟩ = some (.int .i64 (jflag bs (asx.take j) x)) := by rw [(hgo (2 * j + 1)).2 (by rw [fv_len]; exact hol)]; exact fv_at q2
          rw [FL.out] at co2
          obtain ⟨J, hJ⟩ : ∃ J, 2 * j = J := ⟨_, rfl⟩
          rw [hJ] at co1 co2
          have hJN : J + 1 < N := by have := HNN.out; omega
          have e6 : wrap64 (2 * (j : Int)) = (J : Int) := by rw [IntWalk.wrap64_in _ (by omega)]; omega
          have e6' : (2 * (j : Int)) = (J : Int) := by omega
          have e7 : wrap64 ((J : Int) + 1) = ((J + 1 : Nat) : Int) := by rw [IntWalk.wrap64_in _ (by omega)]; omega
          have HJ := Lib.hid hJ
          clear hx hg hgo q1 q2 FL hol hJ
          go_wp2_with fail
          go_loopw [14, 77] (fun tv kv wr => ∃ k : Nat, kv = .int .i64 k ∧ k ≤ nb ∧ tv = .int .i64 (if x ∈ bs.take k then 1 else 0) ∧ w3 = wr) (fun _ kv _ => nb - (intOf kv).toNat)
          case atStart => exact ⟨0, rfl, Nat.zero_le _, by simp, rfl⟩
          case round =>
            obtain ⟨k, rfl, hk, rfl, rfl⟩ := hrel
            by_cases hlk : k < nb
            · obtain ⟨y, hy⟩ : ∃ y, bs[k]? = some y := ⟨_, List.getElem?_eq_getElem (by rw [BLEN.out]; exact hlk)⟩
              obtain ⟨gb, rfl, hgb⟩ := B3.out.at (by rw [fv_len, BLEN.out]; omega)
              have cb1 : w3.cell? ⟨gb, k, none⟩ = some (.int .i64 y) := by rw [(hgb k).2 (by rw [fv_len, BLEN.out]; exact hlk)]; exact fv_at hy
              have ET : Hid (bs.take (k + 1) = bs.take k ++ [y]) := Lib.hid (by rw [List.take_add_one, hy]; rfl)
              obtain ⟨f, hf⟩ : ∃ f, (if x ∈ bs.take k then (1 : Int) else 0) = f := ⟨_, rfl⟩
              rw [hf]
              have HF := Lib.hid hf
              clear hy hgb hf
              by_cases hyx : y = x
              · have i3 : (y == x) = true := by rw [beq_iff_eq]; exact hyx
                have i4 : decide (y = x) = true := by rw [decide_eq_true_eq]; exact hyx
                have HYX := Lib.hid hyx
                clear hyx
                go_wp2_with fail
                go_roundw
                case rel => exact ⟨k + 1, by go_num, by omega, by rw [ET.out, if_pos (by simp [HYX.out])], trivial⟩
                case measure => simp [intOf]; omega
              · have i3 : (y == x) = false := by rw [beq_eq_false_iff_ne]; exact hyx
                have i4 : decide (y = x) = false := by rw [decide_eq_false_iff_not]; exact hyx
                have HYX := Lib.hid hyx
                clear hyx
                go_wp2_with fail
                go_roundw
                case rel =>
                  refine ⟨k + 1, by go_num, by omega, ?_, trivial⟩
                  rw [ET.out, ← HF.out]
                  have h := HYX.out
                  by_cases hm : x ∈ bs.take k
                  · rw [if_pos hm, if_pos (by simp [hm])]
                  · rw [if_neg hm, if_neg (by simp [hm]; intro e; exact h e.symm)]
                case measure => simp [intOf]; omega
            · have hkn : k = nb := by omega
              have ET : Hid (bs.take k = bs) := Lib.hid (List.take_of_length_le (by rw [BLEN.out]; omega))
              rw [ET.out]
              obtain ⟨f, hf⟩ : ∃ f, (if x ∈ bs then (1 : Int) else 0) = f := ⟨_, rfl⟩
              rw [hf] at co2 ⊢
              clear hf
              go_wp2_with fail
              go_roundw
              case rel => exact ⟨j + 1, by go_num, by omega, trivial⟩
              case measure => simp [intOf]; omega
        · go_wp2_with fail
          refine FR.out.mono ?_
          rintro e w4 ⟨rfl, b4⟩
          have BF : Hid (Below w.heap.size w w4) := Lib.hid (BT.out.trans (b4.mono BT.out.size))
          clear b4 FR
          go_wp2_with fail
          go_ret
          exact ⟨rfl, BF.out⟩)
    go_loopw [6, 8, 10] (fun av xv iv wr => ∃ (i : Nat) (Ar : Option Addr) (c : Nat) (xs : List Int) (x : Int), i ≤ n2 ∧ i ≤ 25 ∧ iv = .int .i64 i ∧ xv = .int .i64 x ∧ av = .slice Ar i c ∧ RowA wr 3 Ar c (fv xs) ∧ xs.length = i ∧ Below wa.heap.size wa wr ∧ (∀ a, Ar = some a → wa.heap.size ≤ a.block) ∧ risB xs x i) (fun _ _ iv _ => 25 - (intOf iv).toNat)
    case atStart => exact ⟨0, none, 0, [], 0, Nat.zero_le _, Nat.zero_le _, rfl, rfl, rfl, RowA.nil _ _, rfl, Below.refl _ _, fun a ha => (by cases ha), risB_nil⟩
    case round =>
      obtain ⟨i, Ar, c, xs, x, hi, hi2, rfl, rfl, rfl, hrow, hlen, hbel, hnew, hris⟩ := hrel
      have HROW := Lib.hid hrow; have HLEN := Lib.hid hlen; have HBEL := Lib.hid hbel; have HNEW := Lib.hid hnew; have HRIS := Lib.hid hris
      clear hrow hlen hbel hnew hris
      by_cases hgo : i < n2 ∧ i < 25
      · obtain ⟨g1, g2⟩ := hgo
        have i1 : decide ((i : Int) < (n2 : Int)) = true := by rw [decide_eq_true_eq]; omega
        have i2 : decide ((i : Int) < 25) = true := by rw [decide_eq_true_eq]; omega
        obtain ⟨b, o, rfl, hb0, hcz, hiz⟩ := RA2.out i g1
        obtain ⟨z, hz⟩ : ∃ z, us.getD i 0 = z := ⟨_, rfl⟩
        rw [hz] at hcz hiz
        have hc2 : wr.cell? ⟨b, o + i, none⟩ = some (.int .i64 z) := (HBEL.out.cell (p := ⟨b, o + i, none⟩) (by show b < _; exact Nat.lt_of_lt_of_le hb0 WA.out.size)).trans ((WA.out.cell (p := ⟨b, o + i, none⟩) hb0).trans hcz)
        have WI := Lib.hid (fwithin_in z 1 3 hiz (by decide) (by decide) (by decide) (by decide) wr)
        clear hz hcz hiz
        go_wp2_with fail
        refine WI.out.mono ?_
        rintro e wr' ⟨y, rfl, y0, y1, rfl⟩
        have hx0 := risB_bd HRIS.out
        have e1 : wrap64 (x + y) = x + y := IntWalk.wrap64_in _ (by omega)
        have e3 : IntKind.i64.wrap (x + y) = x + y := IntWalk.i64_in _ (by omega)
        have RIS2 : Hid (risB (xs ++ [(x + y)]) (x + y) (i + 1)) := Lib.hid (risB_snoc HRIS.out y0 y1 g2)
        obtain ⟨V1, hV1⟩ : ∃ V1, V1 = wr.alloc (.cells #[.int .i64 (x + y)] 3) := ⟨_, rfl⟩
        have R1 : Hid (RowA V1 3 Ar c (fv xs)) := Lib.hid (by rw [hV1]; exact HROW.out.keepF (Keep.alloc wr _) (fun a ha h => h))
        have SC : Hid (Src V1 (some ⟨wr.heap.size, 0, none⟩) 1 [.int .i64 (x + y)]) := Lib.hid (by rw [hV1]; exact Src.one wr 3 (.int .i64 (x + y)) (0, 0) 1)
        have B1 : Hid (Below wa.heap.size wa V1) := Lib.hid (by rw [hV1]; exact HBEL.out.alloc HBEL.out.size _)
        have HVV := Lib.hid hV1
        clear hV1 WI hc2 i1 i2
        go_wp2_with (at_builtin; go_loud (rw [← HVV.out]; refine wpList_row_app fcells_I rfl _ _ rfl Ar i c (fv xs) rfl R1.out (by rw [fv_len]; exact HLEN.out) _ 1 1 [.int .i64 (x + y)] rfl rfl SC.out (by intro u hu; obtain rfl : u = .int .i64 (x + y) := (by simpa using hu); rfl) (by omega) ?_))
        intro A2 c2 V2 r2 k2 w2'
        have hnew2 : ∀ a, A2 = some a → wa.heap.size ≤ a.block := fun a ha => by
          rcases w2' with e | ⟨g, e, hg⟩
          · exact HNEW.out a (by rw [← e]; exact ha)
          · rw [e] at ha; injection ha with ha; subst ha
            have hg : V1.heap.size ≤ g := hg
            have := B1.out.size
            show wa.heap.size ≤ g
            omega
        have REL : Hid (RowA V2 3 A2 c2 (fv (xs ++ [(x + y)])) ∧ (xs ++ [(x + y)]).length = i + 1 ∧ Below wa.heap.size wa V2 ∧ (∀ a, A2 = some a → wa.heap.size ≤ a.block) ∧ risB (xs ++ [(x + y)]) (x + y) (i + 1)) := Lib.hid ⟨by rw [fv_app]; exact r2, by rw [List.length_append, HLEN.out]; rfl, k2.below (fun k hk => by obtain ⟨a, ha, rfl⟩ := hk; exact HNEW.out a ha) B1.out B1.out.size, hnew2, RIS2.out⟩
        clear r2 k2 w2' hnew2 R1 SC HVV
        go_wp2_with fail
        go_roundw
        case rel => exact ⟨i + 1, A2, c2, xs ++ [x + y], x + y, by omega, by omega, by go_num, rfl, rfl, REL.out⟩
        case measure => simp [intOf]; omega
      · have REST : Hid (¬ (i < n2 ∧ i < 25)) := Lib.hid hgo
        have FACTS : Hid (RowA wr 3 Ar c (fv xs) ∧ (xs.length = i ∧ i ≤ 25) ∧ Below wa.heap.size wa wr ∧ xs.Pairwise (· < ·)) := Lib.hid ⟨HROW.out, ⟨HLEN.out, hi2⟩, HBEL.out, HRIS.out.2.1⟩
        clear HROW HLEN HBEL HNEW HRIS
        by_cases hc1 : i < n2
        · have i1 : decide ((i : Int) < (n2 : Int)) = true := by rw [decide_eq_true_eq]; omega
          have i2 : decide ((i : Int) < 25) = false := by rw [decide_eq_false_iff_not]; have := REST.out; omega
          go_wp2_with fail
          exact TM.out _ _ _ _ _ _ _ _ _ _ _ _ _ _ _ _ _ _ _ _ _ _ _ _ _ _ _ FACTS.out
        · have i1 : decide ((i : Int) < (n2 : Int)) = false := by rw [decide_eq_false_iff_not]; omega
          go_wp2_with fail
          exact TM.out _ _ _ _ _ _ _ _ _ _ _ _ _ _ _ _ _ _ _ _ _ _ _ _ _ _ _ FACTS.out)
  go_loopw [5, 7, 9] (fun av xv iv wr => ∃ (i : Nat) (Ar : Option Addr) (c : Nat) (xs : List Int) (x : Int), i ≤ n1 ∧ i ≤ 25 ∧ iv = .int .i64 i ∧ xv = .int .i64 x ∧ av = .slice Ar i c ∧ RowA wr 3 Ar c (fv xs) ∧ xs.length = i ∧ Below w.heap.size w wr ∧ (∀ a, Ar = some a → w.heap.size ≤ a.block) ∧ risA xs x i) (fun _ _ iv _ => 25 - (intOf iv).toNat)
  case atStart => exact ⟨0, none, 0, [], 0, Nat.zero_le _, Nat.zero_le _, rfl, rfl, rfl, RowA.nil _ _, rfl, Below.refl _ _, fun a ha => (by cases ha), risA_nil⟩
  case round =>
    obtain ⟨i, Ar, c, xs, x, hi, hi2, rfl, rfl, rfl, hrow, hlen, hbel, hnew, hris⟩ := hrel
    have HROW := Lib.hid hrow; have HLEN := Lib.hid hlen; have HBEL := Lib.hid hbel; have HNEW := Lib.hid hnew; have HRIS := Lib.hid hris
    clear hrow hlen hbel hnew hris
    by_cases hgo : i < n1 ∧ i < 25
    · obtain ⟨g1, g2⟩ := hgo
      have i1 : decide ((i : Int) < (n1 : Int)) = true := by rw [decide_eq_true_eq]; omega
      have i2 : decide ((i : Int) < 25) = true := by rw [decide_eq_true_eq]; omega
      obtain ⟨b, o, rfl, hb0, hcz, hiz⟩ := RA1.out i g1
      obtain ⟨z, hz⟩ : ∃ z, zs.getD i 0 = z := ⟨_, rfl⟩
      rw [hz] at hcz hiz
      have hc2 : wr.cell? ⟨b, o + i, none⟩ = some (.int .i64 z) := (HBEL.out.cell (p := ⟨b, o + i, none⟩) (by show b < _; omega)).trans (hcz)
      have WI := Lib.hid (fwithin_in z 0 3 hiz (by decide) (by decide) (by decide) (by decide) wr)
      clear hz hcz hiz
      go_wp2_with fail
      refine WI.out.mono ?_
      rintro e wr' ⟨y, rfl, y0, y1, rfl⟩
      have hx0 := risA_bd HRIS.out
      have e1 : wrap64 (x + y) = x + y := IntWalk.wrap64_in _ (by omega)
      have e3 : IntKind.i64.wrap (x + y) = x + y := IntWalk.i64_in _ (by omega)
      have RIS2 : Hid (risA (xs ++ [(x + y)]) (x + y) (i + 1)) := Lib.hid (risA_snoc HRIS.out y0 y1 g2)
      obtain ⟨V1, hV1⟩ : ∃ V1, V1 = wr.alloc (.cells #[.int .i64 (x + y)] 3) := ⟨_, rfl⟩
      have R1 : Hid (RowA V1 3 Ar c (fv xs)) := Lib.hid (by rw [hV1]; exact HROW.out.keepF (Keep.alloc wr _) (fun a ha h => h))
      have SC : Hid (Src V1 (some ⟨wr.heap.size, 0, none⟩) 1 [.int .i64 (x + y)]) := Lib.hid (by rw [hV1]; exact Src.one wr 3 (.int .i64 (x + y)) (0, 0) 1)
      have B1 : Hid (Below w.heap.size w V1) := Lib.hid (by rw [hV1]; exact HBEL.out.alloc HBEL.out.size _)
      have HVV := Lib.hid hV1
      clear hV1 WI hc2 i1 i2
      go_wp2_with (at_builtin; go_loud (rw [← HVV.out]; refine wpList_row_app fcells_I rfl _ _ rfl Ar i c (fv xs) rfl R1.out (by rw [fv_len]; exact HLEN.out) _ 1 1 [.int .i64 (x + y)] rfl rfl SC.out (by intro u hu; obtain rfl : u = .int .i64 (x + y) := (by simpa using hu); rfl) (by omega) ?_))
      intro A2 c2 V2 r2 k2 w2'
      have hnew2 : ∀ a, A2 = some a → w.heap.size ≤ a.block := fun a ha => by
        rcases w2' with e | ⟨g, e, hg⟩
        · exact HNEW.out a (by rw [← e]; exact ha)
        · rw [e] at ha; injection ha with ha; subst ha
          have hg : V1.heap.size ≤ g := hg
          have := B1.out.size
          show w.heap.size ≤ g
          omega
      have REL : Hid (RowA V2 3 A2 c2 (fv (xs ++ [(x + y)])) ∧ (xs ++ [(x + y)]).length = i + 1 ∧ Below w.heap.size w V2 ∧ (∀ a, A2 = some a → w.heap.size ≤ a.block) ∧ risA (xs ++ [(x + y)]) (x + y) (i + 1)) := Lib.hid ⟨by rw [fv_app]; exact r2, by rw [List.length_append, HLEN.out]; rfl, k2.below (fun k hk => by obtain ⟨a, ha, rfl⟩ := hk; exact HNEW.out a ha) B1.out B1.out.size, hnew2, RIS2.out⟩
      clear r2 k2 w2' hnew2 R1 SC HVV
      go_wp2_with fail
      go_roundw
      case rel => exact ⟨i + 1, A2, c2, xs ++ [x + y], x + y, by omega, by omega, by go_num, rfl, rfl, REL.out⟩
      case measure => simp [intOf]; omega
    · have REST : Hid (¬ (i < n1 ∧ i < 25)) := Lib.hid hgo
      have FACTS : Hid (RowA wr 3 Ar c (fv xs) ∧ (xs.length = i ∧ i ≤ 25) ∧ Below w.heap.size w wr ∧ xs.Pairwise (· ≤ ·)) := Lib.hid ⟨HROW.out, ⟨HLEN.out, hi2⟩, HBEL.out, HRIS.out.2.1⟩
      clear HROW HLEN HBEL HNEW HRIS
      by_cases hc1 : i < n1
      · have i1 : decide ((i : Int) < (n1 : Int)) = true := by rw [decide_eq_true_eq]; omega
        have i2 : decide ((i : Int) < 25) = false := by rw [decide_eq_false_iff_not]; have := REST.out; omega
        go_wp2_with fail
        exact TL.out _ _ _ _ _ _ _ _ _ _ _ _ _ _ _ _ _ _ _ _ _ _ _ _ _ _ _ FACTS.out
      · have i1 : decide ((i : Int) < (n1 : Int)) = false := by rw [decide_eq_false_iff_not]; omega
        go_wp2_with fail
        exact TL.out _ _ _ _ _ _ _ _ _ _ _ _ _ _ _ _ _ _ _ _ _ _ _ _ _ _ _ FACTS.out
end Go.Proofs.Ytjjkddahfmkhoaa
