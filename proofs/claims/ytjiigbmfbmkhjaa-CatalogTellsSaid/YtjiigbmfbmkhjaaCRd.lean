/-
  The document's own GetCatalog (sheafref5): the catalog of which the leaf is, or none.
-/
import Derived.Test.YtjiigbmfbmkhjaaCRc
import Derived.Test.YtjiigbmfbmkhjaaCG
import Derived.Test.YtjiigbmfbmkhjaaCPg
import Derived.Test.YtjiigbmfbmkhjaaCPh
namespace Go.Proofs.Ytjiigbmfbmkhjaa
set_option linter.unusedVariables false
set_option linter.unusedSimpArgs false
open Go.RowKit

set_option maxRecDepth 100000
def ivN : Value → Nat
  | .int _ n => n.toNat
  | _ => 0
theorem LfAt.readsN {w : World} {b N : Nat} {L : Lf} (h : LfAt w b L) (hb : b < N) : RdB w N (some ⟨b, 5, none⟩) L.load := fun k hk => by
  obtain ⟨b', o', e, h1, h2, h3⟩ := h.reads k hk
  injection e with e'; injection e' with e1 e2; subst e1 e2
  exact ⟨b, 5, rfl, hb, h2, h3⟩
/-- The first files that a leaf's bytes say. -/
def refF (L : Lf) (i : Nat) : List Fl := (List.range i).map (fun j => unFl L.load (17 + 7 * j))
theorem refF_len (L : Lf) (i : Nat) : (refF L i).length = i := by unfold refF; rw [List.length_map, List.length_range]
theorem refF_snoc (L : Lf) (i : Nat) : refF L (i + 1) = refF L i ++ [unFl L.load (17 + 7 * i)] := by
  unfold refF
  rw [List.range_succ, List.map_append]
  rfl
theorem built_ct5 (c : Ct) : Try.prog.built 29 [(0, .int .i64 c.gen), (1, .int .i64 c.step), (2, .int .i64 c.status), (3, .bool c.ended), (4, .agg #[.int .i64 c.card.frm, .int .i64 c.card.to_, .int .i64 c.card.budget, .int .i64 c.card.fan])] = some (ctv c none 0 0).toArray := by
  have h1 := Try.zero_ct
  have h2 := Try.places_ct
  unfold Program.built
  cases hi : Try.prog.info? 29 with
  | none => rw [hi] at h1; cases h1
  | some it =>
    rw [hi] at h1
    simp at h1
    cases hu : Try.prog.underlying 29 with
    | none => rw [hu] at h2; cases h2
    | some d =>
      rw [hu] at h2
      cases d <;> try (simp at h2; done)
      rename_i fs
      simp only at h2
      simp only [h1.1, h2]
      simp [Instr.fill, Value.cells, ctv, Ct.zero, Cd.zero]
theorem exec_ct5 {o : Oper} {a : Act} {w : World} {x0 x1 x2 x3 x4 : Operand} (ho : o.op = .build 29 #[(0, x0), (1, x1), (2, x2), (3, x3), (4, x4)]) (c : Ct)
    (h0 : a.eval x0 = .int .i64 c.gen) (h1 : a.eval x1 = .int .i64 c.step) (h2 : a.eval x2 = .int .i64 c.status) (h3 : a.eval x3 = .bool c.ended) (h4 : a.eval x4 = .agg #[.int .i64 c.card.frm, .int .i64 c.card.to_, .int .i64 c.card.budget, .int .i64 c.card.fan]) :
    (execOp a.eval o).run Try.prog w = .ok (.value (.agg (ctv c none 0 0).toArray)) w := by
  unfold execOp
  have e : (#[(0, x0), (1, x1), (2, x2), (3, x3), (4, x4)] : Array (Nat × Operand)).map (fun x => (x.1, a.eval x.2)) = #[(0, .int .i64 c.gen), (1, .int .i64 c.step), (2, .int .i64 c.status), (3, .bool c.ended), (4, .agg #[.int .i64 c.card.frm, .int .i64 c.card.to_, .int .i64 c.card.budget, .int .i64 c.card.fan])] := by simp [h0, h1, h2, h3, h4]
  simp only [ho, e, run_build w 29 _ _ (built_ct5 c), Sem.run_bind, Sem.run_pure, Result.andThen_ok]
theorem step_alloc_ct {ops : Array Oper} {o : Oper} {a : Act} {w : World} {K : Act → World → Prop} {Q : Exit → Act → World → Prop} {E : Prop} (hgd : o.guard = none) (ho : o.op = .alloc 29) (d : Nat) (hd : o.dst = some d)
    (h : ∀ w1, CtAt w1 w.heap.size Ct.zero none 0 0 → Below w.heap.size w w1 → w1.heap.size = w.heap.size + 1 → K (a.put (some d) (.pointer (some ⟨w.heap.size, 0, none⟩))) w1) : if Region.wanted o (yielded ops a.tmps) = true then Oper.wp Try.prog o a w K Q else E := by
  have hw : Region.wanted o (yielded ops a.tmps) = true := by unfold Region.wanted; rw [hgd]
  rw [if_pos hw]
  unfold Oper.wp execOp
  simp only [ho, Instr.alloc, newVar, newRow, newObj, Value.cells, Sem.run_bind, Sem.run_pure, Result.andThen_ok, zero_ct_run]
  show K (a.put o.dst _) _
  rw [hd]
  exact h _ (Arr.new w _ _) ((Below.refl _ _).alloc (Nat.le_refl _) _) (by simp)
set_option maxHeartbeats 8000000 in
theorem rgetc_any (L : Lf) (ok : L.Ok) (w : World) :
    Calls Try.prog 13 #[.agg (lv L).toArray] w (GetC w L) := by
  have OK := Lib.hid ok
  obtain ⟨kb0, kb1⟩ := ok.k; obtain ⟨fb0, fb1⟩ := ok.f; obtain ⟨pb0, pb1⟩ := ok.p; obtain ⟨nb0, nb1⟩ := ok.n; obtain ⟨sb0, sb1⟩ := ok.s
  clear ok
  go_enter Try.func13, Try.ntmps13
  go_wp2_with (with_reducible refine box_leaf rfl _ rfl L OK.out rfl ?_)
  intro w1 l1 b1 s1
  obtain ⟨b, hb⟩ : ∃ b, b = w.heap.size := ⟨_, rfl⟩
  rw [← hb] at l1 ⊢
  have A1 := Lib.hid l1; have B1 := Lib.hid b1
  have hbw : w.heap.size ≤ b := by omega
  clear hb b1 s1 l1
  go_wp2_with (with_reducible refine alloc_ct rfl rfl ?_)
  intro w2 l2 b2 s2
  obtain ⟨r, hr⟩ : ∃ r, r = w1.heap.size := ⟨_, rfl⟩
  rw [← hr] at l2 ⊢
  have Z2 := Lib.hid l2
  have A2 := Lib.hid (A1.out.below b2)
  have B2 := Lib.hid (bstep B1.out b2)
  have hbr : b < r := by rw [hr]; exact A1.out.lt
  have hrw : w.heap.size ≤ r := by omega
  clear hr b2 s2 l2 A1 B1
  go_upto_region 1 with fail
  go_cut [41] (fun v wd => v = .bool L.badL ∧ LfAt wd b L ∧ CtAt wd r Ct.zero none 0 0 ∧ Below w.heap.size w wd)
  case first =>
    have RT := Lib.hid (rright_any L OK.out w2)
    go_wp2_with (with_reducible refine load_leaf rfl _ rfl b L A2.out rfl ?_)
    refine RT.out.mono ?_
    rintro e w3 ⟨rfl, b3⟩
    have A3 := Lib.hid (A2.out.below b3)
    have Z3 := Lib.hid (Z2.out.below b3)
    have B3 := Lib.hid (bstep B2.out b3)
    have c0 := A3.out.kind; have c1 := A3.out.file; have c2 := A3.out.place; have c3 := A3.out.next; have c4 := A3.out.size
    clear b3 RT A2 Z2 B2
    cases hq : L.rt
    · have NR : Hid (L.badL = true) := Lib.hid (Lf.badL_yes.2 (fun r => (Lf.rt_no OK.out).1 hq r.r))
      clear hq
      go_wp2
      go_meet
      case rel => exact ⟨by rw [NR.out], A3.out, Z3.out, B3.out⟩
    · have RY := Lib.hid ((Lf.rt_iff OK.out).1 hq)
      clear hq
      by_cases h0 : ¬ L.kind = 2
      · have d0_0 : (L.kind != 2) = true := by simpa using h0
        have d0_1 : (L.kind == 2) = false := by simpa using h0
        have NR : Hid (L.badL = true) := Lib.hid (Lf.badL_yes.2 (fun r => by have := r.k; have := r.f; have := r.p; have := r.n; have := r.s; omega))
        clear h0
        go_wp2
        go_meet
        case rel => exact ⟨by rw [NR.out], A3.out, Z3.out, B3.out⟩
      · have d0_0 : (L.kind != 2) = false := by simpa using h0
        have d0_1 : (L.kind == 2) = true := by simpa using h0
        by_cases h1 : ¬ L.file = 0
        · have d1_0 : (L.file != 0) = true := by simpa using h1
          have d1_1 : (L.file == 0) = false := by simpa using h1
          have NR : Hid (L.badL = true) := Lib.hid (Lf.badL_yes.2 (fun r => by have := r.k; have := r.f; have := r.p; have := r.n; have := r.s; omega))
          clear h0 h1
          go_wp2
          go_meet
          case rel => exact ⟨by rw [NR.out], A3.out, Z3.out, B3.out⟩
        · have d1_0 : (L.file != 0) = false := by simpa using h1
          have d1_1 : (L.file == 0) = true := by simpa using h1
          by_cases h2 : ¬ L.place = 0
          · have d2_0 : (L.place != 0) = true := by simpa using h2
            have d2_1 : (L.place == 0) = false := by simpa using h2
            have NR : Hid (L.badL = true) := Lib.hid (Lf.badL_yes.2 (fun r => by have := r.k; have := r.f; have := r.p; have := r.n; have := r.s; omega))
            clear h0 h1 h2
            go_wp2
            go_meet
            case rel => exact ⟨by rw [NR.out], A3.out, Z3.out, B3.out⟩
          · have d2_0 : (L.place != 0) = false := by simpa using h2
            have d2_1 : (L.place == 0) = true := by simpa using h2
            by_cases h3 : ¬ L.next = 0
            · have d3_0 : (L.next != 0) = true := by simpa using h3
              have d3_1 : (L.next == 0) = false := by simpa using h3
              have NR : Hid (L.badL = true) := Lib.hid (Lf.badL_yes.2 (fun r => by have := r.k; have := r.f; have := r.p; have := r.n; have := r.s; omega))
              clear h0 h1 h2 h3
              go_wp2
              go_meet
              case rel => exact ⟨by rw [NR.out], A3.out, Z3.out, B3.out⟩
            · have d3_0 : (L.next != 0) = false := by simpa using h3
              have d3_1 : (L.next == 0) = true := by simpa using h3
              by_cases h4 : L.size < 17
              · have d4_0 : decide (L.size < 17) = true := by simpa using h4
                have d4_1 : decide (17 ≤ L.size) = false := by simpa using h4
                have NR : Hid (L.badL = true) := Lib.hid (Lf.badL_yes.2 (fun r => by have := r.k; have := r.f; have := r.p; have := r.n; have := r.s; omega))
                clear h0 h1 h2 h3 h4
                go_wp2
                go_meet
                case rel => exact ⟨by rw [NR.out], A3.out, Z3.out, B3.out⟩
              · have d4_0 : decide (L.size < 17) = false := by simpa using h4
                have d4_1 : decide (17 ≤ L.size) = true := by simpa using h4
                have e7 : IntKind.i64.wrap (L.size - 17) = L.size - 17 := IntWalk.i64_in _ (by omega)
                have e8 : Int.tmod (L.size - 17) 7 = (L.size - 17) % 7 := Int.tmod_eq_emod_of_nonneg (by omega)
                have e9 : IntKind.i64.wrap ((L.size - 17) % 7) = (L.size - 17) % 7 := IntWalk.i64_in _ (by omega)
                by_cases h7 : (L.size - 17) % 7 = 0
                · have d7 : ((L.size - 17) % 7 != 0) = false := by simpa using h7
                  have NR : Hid (L.badL = false) := Lib.hid (Lf.badL_no.2 ⟨RY.out, by omega, by omega, by omega, by omega, by omega, h7⟩)
                  clear h0 h1 h2 h3 h4 h7
                  go_wp2
                  go_meet
                  case rel => exact ⟨by rw [NR.out], A3.out, Z3.out, B3.out⟩
                · have d7 : ((L.size - 17) % 7 != 0) = true := by simpa using h7
                  have NR : Hid (L.badL = true) := Lib.hid (Lf.badL_yes.2 (fun r => h7 r.m))
                  clear h0 h1 h2 h3 h4 h7
                  go_wp2
                  go_meet
                  case rel => exact ⟨by rw [NR.out], A3.out, Z3.out, B3.out⟩
  case rest =>
    obtain ⟨rfl, l3, z3, b3⟩ := hcut
    have A3 := Lib.hid l3; have Z3 := Lib.hid z3; have B3 := Lib.hid b3
    clear l3 z3 b3 A2 Z2 B2
    cases hbad : L.badL
    · have PR := Lib.hid (Lf.badL_no.1 hbad)
      clear hbad
      obtain ⟨sz, hsz⟩ : ∃ sz : Nat, L.size = sz := ⟨L.size.toNat, by have := PR.out.s; omega⟩
      have sz0 : 17 ≤ sz := by have := PR.out.s; omega
      have sz1 : sz ≤ 116 := by have := PR.out.r.s; omega
      have HSZ := Lib.hid hsz
      have c4 := A3.out.size
      rw [hsz] at c4
      have hbc : b < wc.heap.size := A3.out.lt
      have RD := Lib.hid A3.out.reads
      have HL : Hid (L.load.length = 116) := Lib.hid OK.out.l
      have UU := Lib.hid OK.out.u
      obtain ⟨x4, hx4⟩ : ∃ x, L.load.getD 4 0 = x := ⟨_, rfl⟩
      obtain ⟨u40, u41⟩ : U8 x4 := by rw [← hx4]; exact UU.out 4 (by rw [HL.out]; decide)
      have v4 : IntKind.i64.wrap x4 = x4 := IntWalk.i64_in _ (by omega)
      have HX4 := Lib.hid hx4
      clear hx4
      have q4 : (4 : Int) < (sz : Int) := by omega
      have q4' : 4 < sz := by omega
      obtain ⟨x5, hx5⟩ : ∃ x, L.load.getD 5 0 = x := ⟨_, rfl⟩
      obtain ⟨u50, u51⟩ : U8 x5 := by rw [← hx5]; exact UU.out 5 (by rw [HL.out]; decide)
      have v5 : IntKind.i64.wrap x5 = x5 := IntWalk.i64_in _ (by omega)
      have HX5 := Lib.hid hx5
      clear hx5
      have q5 : (5 : Int) < (sz : Int) := by omega
      have q5' : 5 < sz := by omega
      obtain ⟨x6, hx6⟩ : ∃ x, L.load.getD 6 0 = x := ⟨_, rfl⟩
      obtain ⟨u60, u61⟩ : U8 x6 := by rw [← hx6]; exact UU.out 6 (by rw [HL.out]; decide)
      have v6 : IntKind.i64.wrap x6 = x6 := IntWalk.i64_in _ (by omega)
      have HX6 := Lib.hid hx6
      clear hx6
      have q6 : (6 : Int) < (sz : Int) := by omega
      have q6' : 6 < sz := by omega
      obtain ⟨x7, hx7⟩ : ∃ x, L.load.getD 7 0 = x := ⟨_, rfl⟩
      obtain ⟨u70, u71⟩ : U8 x7 := by rw [← hx7]; exact UU.out 7 (by rw [HL.out]; decide)
      have v7 : IntKind.i64.wrap x7 = x7 := IntWalk.i64_in _ (by omega)
      have HX7 := Lib.hid hx7
      clear hx7
      have q7 : (7 : Int) < (sz : Int) := by omega
      have q7' : 7 < sz := by omega
      obtain ⟨x8, hx8⟩ : ∃ x, L.load.getD 8 0 = x := ⟨_, rfl⟩
      obtain ⟨u80, u81⟩ : U8 x8 := by rw [← hx8]; exact UU.out 8 (by rw [HL.out]; decide)
      have v8 : IntKind.i64.wrap x8 = x8 := IntWalk.i64_in _ (by omega)
      have HX8 := Lib.hid hx8
      clear hx8
      have q8 : (8 : Int) < (sz : Int) := by omega
      have q8' : 8 < sz := by omega
      have s2 : (sz : Int) ≤ 116 := by omega
      have s3 : (0 : Int) ≤ (sz : Int) := by omega
      have s4 : decide ((sz : Int) ≤ 116) = true := by rw [decide_eq_true_eq]; omega
      obtain ⟨N, hNN⟩ : ∃ N, N = wc.heap.size := ⟨_, rfl⟩
      rw [← hNN] at RD
      have hN0 : wc.heap.size = N := hNN.symm
      clear hNN hsz kb0 kb1 fb0 fb1 pb0 pb1 nb0 nb1 sb0 sb1
      obtain ⟨cat, hcat⟩ : ∃ cat : Ct, cat = unCt L := ⟨_, rfl⟩
      have CC : Hid (cat = ⟨num4 L.load 0, x4, x5, x6 == 1, ⟨num4 L.load 9, num4 L.load 13, x7, x8⟩, refF L ((sz - 17) / 7)⟩) := Lib.hid (by
        rw [hcat, ← HX4.out, ← HX5.out, ← HX6.out, ← HX7.out, ← HX8.out]; unfold unCt; rw [HSZ.out, Int.toNat_natCast]; rfl)
      have HC := Lib.hid hcat
      clear hcat
      go_upto_region 4 with fail
      have COK : Hid cat.Ok := Lib.hid (by rw [HC.out, ← rdC_of OK.out.l sz HSZ.out sz0 sz1]; exact rdC_ok (RD.out.take sz) (by rw [List.length_take, HL.out]; omega))
      have hbN : b < N := by omega
      have hrN : r < N := by rw [← hN0]; exact Z3.out.lt
      go_cut [5] (fun v wd => v = .pointer (some ⟨N, 0, none⟩) ∧ CtAt wd N cat none 0 0 ∧ LfAt wd b L ∧ CtAt wd r Ct.zero none 0 0 ∧ Below w.heap.size w wd)
      case first =>
        refine wp_region_held_drew (S := fun w' => RdB w' N (some ⟨b, 5, none⟩) L.load) (by kernel_rfl) RD.out (fun HS => ?_)
        refine takeY (i := 0) (d := 47) (v := ?_) rfl rfl (by kernel_rfl) (by kernel_rfl) (by kernel_rfl) (fun _ _ _ h => h) (by rfl) ?_ HS ?_
        rotate_left
        · intro w' hSw
          go_simp
          try with_reducible rfl
        simp only [Act.put, List.setIfInBounds_toArray, List.set_cons_zero, List.set_cons_succ]
        refine takeY (i := 1) (d := 48) (v := ?_) rfl rfl (by kernel_rfl) (by kernel_rfl) (by kernel_rfl) (fun _ _ _ h => h) (by rfl) ?_ HS ?_
        rotate_left
        · intro w' hSw
          go_simp
          try with_reducible rfl
        simp only [Act.put, List.setIfInBounds_toArray, List.set_cons_zero, List.set_cons_succ]
        refine takeC (i := 2) (d := 49) (f := 34) (args := #[.slice (some ⟨b, 5, none⟩) 4 116]) (v := .int .i64 (num4 L.load 0)) rfl rfl (by kernel_rfl) (by kernel_rfl) (by kernel_rfl) (fun _ _ _ h => h) (by rfl) ?_ ?_ HS ?_
        · intro w' hSw
          go_simp
          try with_reducible rfl
        · intro w' hSw
          exact number_at4 N b 5 0 _ L.load w' hSw (by rw [HL.out]; decide) _ rfl
        simp only [Act.put, List.setIfInBounds_toArray, List.set_cons_zero, List.set_cons_succ]
        refine takeY (i := 3) (d := 50) (v := ?_) rfl rfl (by kernel_rfl) (by kernel_rfl) (by kernel_rfl) (fun _ _ _ h => h) (by rfl) ?_ HS ?_
        rotate_left
        · intro w' hSw
          go_simp
          try with_reducible rfl
        simp only [Act.put, List.setIfInBounds_toArray, List.set_cons_zero, List.set_cons_succ]
        refine takeY (i := 4) (d := 51) (v := ?_) rfl rfl (by kernel_rfl) (by kernel_rfl) (by kernel_rfl) (fun _ _ _ h => h) (by rfl) ?_ HS ?_
        rotate_left
        · intro w' hSw
          go_simp
          try with_reducible rfl
        simp only [Act.put, List.setIfInBounds_toArray, List.set_cons_zero, List.set_cons_succ]
        refine takeY (i := 5) (d := 52) (v := ?_) rfl rfl (by kernel_rfl) (by kernel_rfl) (by kernel_rfl) (fun _ _ _ h => h) (by rfl) ?_ HS ?_
        rotate_left
        · intro w' hSw
          have hc' : w'.cell? ⟨b, 9, none⟩ = some (.int .u8 x4) := by rw [← HX4.out]; obtain ⟨_, _, e, _, hq, _⟩ := hSw 4 (by rw [HL.out]; decide); injection e with e; injection e with e1 e2; subst e1 e2; exact hq
          go_simp
          try with_reducible rfl
        simp only [Act.put, List.setIfInBounds_toArray, List.set_cons_zero, List.set_cons_succ]
        refine takeY (i := 6) (d := 53) (v := ?_) rfl rfl (by kernel_rfl) (by kernel_rfl) (by kernel_rfl) (fun _ _ _ h => h) (by rfl) ?_ HS ?_
        rotate_left
        · intro w' hSw
          go_simp
          try with_reducible rfl
        simp only [Act.put, List.setIfInBounds_toArray, List.set_cons_zero, List.set_cons_succ]
        refine takeY (i := 7) (d := 54) (v := ?_) rfl rfl (by kernel_rfl) (by kernel_rfl) (by kernel_rfl) (fun _ _ _ h => h) (by rfl) ?_ HS ?_
        rotate_left
        · intro w' hSw
          go_simp
          try with_reducible rfl
        simp only [Act.put, List.setIfInBounds_toArray, List.set_cons_zero, List.set_cons_succ]
        refine takeY (i := 8) (d := 55) (v := ?_) rfl rfl (by kernel_rfl) (by kernel_rfl) (by kernel_rfl) (fun _ _ _ h => h) (by rfl) ?_ HS ?_
        rotate_left
        · intro w' hSw
          go_simp
          try with_reducible rfl
        simp only [Act.put, List.setIfInBounds_toArray, List.set_cons_zero, List.set_cons_succ]
        refine takeY (i := 9) (d := 56) (v := ?_) rfl rfl (by kernel_rfl) (by kernel_rfl) (by kernel_rfl) (fun _ _ _ h => h) (by rfl) ?_ HS ?_
        rotate_left
        · intro w' hSw
          have hc' : w'.cell? ⟨b, 10, none⟩ = some (.int .u8 x5) := by rw [← HX5.out]; obtain ⟨_, _, e, _, hq, _⟩ := hSw 5 (by rw [HL.out]; decide); injection e with e; injection e with e1 e2; subst e1 e2; exact hq
          go_simp
          try with_reducible rfl
        simp only [Act.put, List.setIfInBounds_toArray, List.set_cons_zero, List.set_cons_succ]
        refine takeY (i := 10) (d := 57) (v := ?_) rfl rfl (by kernel_rfl) (by kernel_rfl) (by kernel_rfl) (fun _ _ _ h => h) (by rfl) ?_ HS ?_
        rotate_left
        · intro w' hSw
          go_simp
          try with_reducible rfl
        simp only [Act.put, List.setIfInBounds_toArray, List.set_cons_zero, List.set_cons_succ]
        refine takeY (i := 11) (d := 58) (v := ?_) rfl rfl (by kernel_rfl) (by kernel_rfl) (by kernel_rfl) (fun _ _ _ h => h) (by rfl) ?_ HS ?_
        rotate_left
        · intro w' hSw
          go_simp
          try with_reducible rfl
        simp only [Act.put, List.setIfInBounds_toArray, List.set_cons_zero, List.set_cons_succ]
        refine takeY (i := 12) (d := 59) (v := ?_) rfl rfl (by kernel_rfl) (by kernel_rfl) (by kernel_rfl) (fun _ _ _ h => h) (by rfl) ?_ HS ?_
        rotate_left
        · intro w' hSw
          go_simp
          try with_reducible rfl
        simp only [Act.put, List.setIfInBounds_toArray, List.set_cons_zero, List.set_cons_succ]
        refine takeY (i := 13) (d := 60) (v := ?_) rfl rfl (by kernel_rfl) (by kernel_rfl) (by kernel_rfl) (fun _ _ _ h => h) (by rfl) ?_ HS ?_
        rotate_left
        · intro w' hSw
          have hc' : w'.cell? ⟨b, 11, none⟩ = some (.int .u8 x6) := by rw [← HX6.out]; obtain ⟨_, _, e, _, hq, _⟩ := hSw 6 (by rw [HL.out]; decide); injection e with e; injection e with e1 e2; subst e1 e2; exact hq
          go_simp
          try with_reducible rfl
        simp only [Act.put, List.setIfInBounds_toArray, List.set_cons_zero, List.set_cons_succ]
        refine takeY (i := 14) (d := 61) (v := ?_) rfl rfl (by kernel_rfl) (by kernel_rfl) (by kernel_rfl) (fun _ _ _ h => h) (by rfl) ?_ HS ?_
        rotate_left
        · intro w' hSw
          go_simp
          try with_reducible rfl
        simp only [Act.put, List.setIfInBounds_toArray, List.set_cons_zero, List.set_cons_succ]
        refine takeY (i := 15) (d := 62) (v := ?_) rfl rfl (by kernel_rfl) (by kernel_rfl) (by kernel_rfl) (fun _ _ _ h => h) (by rfl) ?_ HS ?_
        rotate_left
        · intro w' hSw
          go_simp
          try with_reducible rfl
        simp only [Act.put, List.setIfInBounds_toArray, List.set_cons_zero, List.set_cons_succ]
        refine takeY (i := 16) (d := 63) (v := ?_) rfl rfl (by kernel_rfl) (by kernel_rfl) (by kernel_rfl) (fun _ _ _ h => h) (by rfl) ?_ HS ?_
        rotate_left
        · intro w' hSw
          go_simp
          try with_reducible rfl
        simp only [Act.put, List.setIfInBounds_toArray, List.set_cons_zero, List.set_cons_succ]
        refine takeY (i := 17) (d := 64) (v := ?_) rfl rfl (by kernel_rfl) (by kernel_rfl) (by kernel_rfl) (fun _ _ _ h => h) (by rfl) ?_ HS ?_
        rotate_left
        · intro w' hSw
          have hc' : w'.cell? ⟨b, 12, none⟩ = some (.int .u8 x7) := by rw [← HX7.out]; obtain ⟨_, _, e, _, hq, _⟩ := hSw 7 (by rw [HL.out]; decide); injection e with e; injection e with e1 e2; subst e1 e2; exact hq
          go_simp
          try with_reducible rfl
        simp only [Act.put, List.setIfInBounds_toArray, List.set_cons_zero, List.set_cons_succ]
        refine takeY (i := 18) (d := 65) (v := ?_) rfl rfl (by kernel_rfl) (by kernel_rfl) (by kernel_rfl) (fun _ _ _ h => h) (by rfl) ?_ HS ?_
        rotate_left
        · intro w' hSw
          go_simp
          try with_reducible rfl
        simp only [Act.put, List.setIfInBounds_toArray, List.set_cons_zero, List.set_cons_succ]
        refine takeY (i := 19) (d := 66) (v := ?_) rfl rfl (by kernel_rfl) (by kernel_rfl) (by kernel_rfl) (fun _ _ _ h => h) (by rfl) ?_ HS ?_
        rotate_left
        · intro w' hSw
          go_simp
          try with_reducible rfl
        simp only [Act.put, List.setIfInBounds_toArray, List.set_cons_zero, List.set_cons_succ]
        refine takeY (i := 20) (d := 67) (v := ?_) rfl rfl (by kernel_rfl) (by kernel_rfl) (by kernel_rfl) (fun _ _ _ h => h) (by rfl) ?_ HS ?_
        rotate_left
        · intro w' hSw
          go_simp
          try with_reducible rfl
        simp only [Act.put, List.setIfInBounds_toArray, List.set_cons_zero, List.set_cons_succ]
        refine takeY (i := 21) (d := 68) (v := ?_) rfl rfl (by kernel_rfl) (by kernel_rfl) (by kernel_rfl) (fun _ _ _ h => h) (by rfl) ?_ HS ?_
        rotate_left
        · intro w' hSw
          have hc' : w'.cell? ⟨b, 13, none⟩ = some (.int .u8 x8) := by rw [← HX8.out]; obtain ⟨_, _, e, _, hq, _⟩ := hSw 8 (by rw [HL.out]; decide); injection e with e; injection e with e1 e2; subst e1 e2; exact hq
          go_simp
          try with_reducible rfl
        simp only [Act.put, List.setIfInBounds_toArray, List.set_cons_zero, List.set_cons_succ]
        refine takeY (i := 22) (d := 69) (v := ?_) rfl rfl (by kernel_rfl) (by kernel_rfl) (by kernel_rfl) (fun _ _ _ h => h) (by rfl) ?_ HS ?_
        rotate_left
        · intro w' hSw
          go_simp
          try with_reducible rfl
        simp only [Act.put, List.setIfInBounds_toArray, List.set_cons_zero, List.set_cons_succ]
        refine takeY (i := 23) (d := 70) (v := ?_) rfl rfl (by kernel_rfl) (by kernel_rfl) (by kernel_rfl) (fun _ _ _ h => h) (by rfl) ?_ HS ?_
        rotate_left
        · intro w' hSw
          go_simp
          try with_reducible rfl
        simp only [Act.put, List.setIfInBounds_toArray, List.set_cons_zero, List.set_cons_succ]
        refine takeY (i := 24) (d := 71) (v := ?_) rfl rfl (by kernel_rfl) (by kernel_rfl) (by kernel_rfl) (fun _ _ _ h => h) (by rfl) ?_ HS ?_
        rotate_left
        · intro w' hSw
          go_simp
          try with_reducible rfl
        simp only [Act.put, List.setIfInBounds_toArray, List.set_cons_zero, List.set_cons_succ]
        refine takeC (i := 25) (d := 72) (f := 34) (args := #[.slice (some ⟨b, 14, none⟩) 4 107]) (v := .int .i64 (num4 L.load 9)) rfl rfl (by kernel_rfl) (by kernel_rfl) (by kernel_rfl) (fun _ _ _ h => h) (by rfl) ?_ ?_ HS ?_
        · intro w' hSw
          go_simp
          try with_reducible rfl
        · intro w' hSw
          exact number_at4 N b 5 9 _ L.load w' hSw (by rw [HL.out]; decide) _ rfl
        simp only [Act.put, List.setIfInBounds_toArray, List.set_cons_zero, List.set_cons_succ]
        refine takeY (i := 26) (d := 73) (v := ?_) rfl rfl (by kernel_rfl) (by kernel_rfl) (by kernel_rfl) (fun _ _ _ h => h) (by rfl) ?_ HS ?_
        rotate_left
        · intro w' hSw
          go_simp
          try with_reducible rfl
        simp only [Act.put, List.setIfInBounds_toArray, List.set_cons_zero, List.set_cons_succ]
        refine takeY (i := 27) (d := 74) (v := ?_) rfl rfl (by kernel_rfl) (by kernel_rfl) (by kernel_rfl) (fun _ _ _ h => h) (by rfl) ?_ HS ?_
        rotate_left
        · intro w' hSw
          go_simp
          try with_reducible rfl
        simp only [Act.put, List.setIfInBounds_toArray, List.set_cons_zero, List.set_cons_succ]
        refine takeC (i := 28) (d := 75) (f := 34) (args := #[.slice (some ⟨b, 18, none⟩) 4 103]) (v := .int .i64 (num4 L.load 13)) rfl rfl (by kernel_rfl) (by kernel_rfl) (by kernel_rfl) (fun _ _ _ h => h) (by rfl) ?_ ?_ HS ?_
        · intro w' hSw
          go_simp
          try with_reducible rfl
        · intro w' hSw
          exact number_at4 N b 5 13 _ L.load w' hSw (by rw [HL.out]; decide) _ rfl
        simp only [Act.put, List.setIfInBounds_toArray, List.set_cons_zero, List.set_cons_succ]
        refine takeY (i := 29) (d := 76) (v := ?_) rfl rfl (by kernel_rfl) (by kernel_rfl) (by kernel_rfl) (fun _ _ _ h => h) (by rfl) ?_ HS ?_
        rotate_left
        · intro w' hSw
          go_simp
          try with_reducible rfl
        simp only [Act.put, List.setIfInBounds_toArray, List.set_cons_zero, List.set_cons_succ]
        refine takeY (i := 30) (d := 77) (v := .agg (ctv cat none 0 0).toArray) rfl rfl (by kernel_rfl) (by kernel_rfl) (by kernel_rfl) (fun _ _ _ h => h) (by rfl) ?_ HS ?_
        · intro w' hSw
          rw [CC.out]
          exact exec_ct5 rfl _ rfl rfl rfl rfl rfl
        simp only [Act.put, List.setIfInBounds_toArray, List.set_cons_zero, List.set_cons_succ]
        refine wpAnyH_ready (rs := [31]) (by kernel_rfl) (by simp) ?_
        refine AllReadyH.cons rfl (fun K hK => ?_) AllReadyH.nil
        refine step_alloc_ct rfl rfl 5 rfl ?_
        intro w4 l4 b4 s4'
        have e0 : wc.drew.heap.size = N := hN0
        have BB4 := Lib.hid (bstep (Below.refl wc.heap.size wc).drew b4)
        rw [e0] at l4 b4 s4' ⊢
        have G4 := Lib.hid l4; have B4 := Lib.hid b4
        have R4 := Lib.hid (HS.below b4)
        clear l4 b4
        refine hK.out _ _ R4.out (fun HS2 => ?_)
        clear hK
        try simp only [Act.put, List.setIfInBounds_toArray, List.set_cons_zero, List.set_cons_succ]
        refine wpAnyH_ready (rs := [32]) (by kernel_rfl) (by simp) ?_
        refine AllReadyH.cons rfl (fun K hK => ?_) AllReadyH.nil
        refine step_store_ct rfl _ _ rfl N Ct.zero cat none none 0 0 0 0 G4.out rfl rfl ?_
        intro w5 z5 k5 s5
        have Z5 := Lib.hid z5
        have B5 := Lib.hid (k5.below (B := w.heap.size) (fun k hk => by omega) (bstep B3.out BB4.out) (by omega))
        have A5 := Lib.hid ((A3.out.below BB4.out).keep k5 (by omega))
        have Q5 := Lib.hid ((Z3.out.below BB4.out).keep k5 (by omega))
        have R5 := Lib.hid (k5.reads R4.out (by omega) (fun k hk => by omega))
        refine hK.out _ _ R5.out (fun HS3 => ?_)
        clear hK
        refine wpAnyH_done (by kernel_rfl) ?_ _
        go_wp2
        go_meet
        case rel => exact ⟨rfl, Z5.out, A5.out, Q5.out, B5.out⟩
      case rest =>
        obtain ⟨rfl, g5, a5, q5, b5⟩ := hcut
        have G5 := Lib.hid g5; have A5 := Lib.hid a5; have Q5 := Lib.hid q5; have B5 := Lib.hid b5
        have hM : (sz - 17) % 7 = 0 := by have := PR.out.m; rw [HSZ.out] at this; omega
        clear g5 a5 q5 b5 A3 Z3 B3 RD hN0 v4 v5 v6 v7 v8
        go_wp2
        go_loopw [6] (fun v wr => ∃ (i : Nat) (A : Option Addr) (c' : Nat), 17 + 7 * i ≤ sz ∧ v = .int .i64 ((17 + 7 * i : Nat) : Int) ∧ CtAt wr N cat A i c' ∧ OwnF wr (N + 1) A i c' (refF L i) ∧ LfAt wr b L ∧ CtAt wr r Ct.zero none 0 0 ∧ Below w.heap.size w wr) (fun v _ => 200 - ivN v)
        case atStart => exact ⟨0, none, 0, by omega, rfl, G5.out, OwnF.nil _ _, A5.out, Q5.out, B5.out⟩
        case round =>
          obtain ⟨i, A, c', hi, rfl, gr, ow, ar, qr, br⟩ := hrel
          have GR := Lib.hid gr; have OW := Lib.hid ow; have AR := Lib.hid ar; have QR := Lib.hid qr; have BR := Lib.hid br
          have hNw : N < wr.heap.size := gr.lt
          have hww : w.heap.size ≤ N := by omega
          have c8 : wr.cell? ⟨N, 8, none⟩ = some (.slice A i c') := gr.cells.2.2.2.2.2.2.2.2
          have hAg : ∀ a, A = some a → N < a.block := fun a ha => by have := (ow.lt a ha).1; omega
          clear gr ow ar qr br G5 A5 Q5 B5
          obtain ⟨t, ht⟩ : ∃ t : Nat, t = 17 + 7 * i := ⟨_, rfl⟩
          rw [← ht]
          have HT := Lib.hid ht
          have ht17 : 17 ≤ t := by omega
          have hi14 : i ≤ 14 := by omega
          have hts : t ≤ sz := by omega
          have htm : t < sz → t + 7 ≤ sz := fun h => by omega
          clear ht hi
          by_cases hlt : t < sz
          · have i1 : decide ((t : Int) < (sz : Int)) = true := by rw [decide_eq_true_eq]; omega
            have htz := htm hlt
            clear htm
            have RD := Lib.hid (AR.out.readsN hbN)
            obtain ⟨x, hx⟩ : ∃ x, L.load.getD t 0 = x := ⟨_, rfl⟩
            obtain ⟨u0, u1⟩ : U8 x := by rw [← hx]; exact UU.out t (by rw [HL.out]; omega)
            have vx : IntKind.i64.wrap x = x := IntWalk.i64_in _ (by omega)
            have HX := Lib.hid hx
            have OKF : Hid ((unFl L.load t).Ok) := Lib.hid (unFl_ok RD.out t (by rw [HL.out]; omega))
            have SN : Hid (refF L (i + 1) = refF L i ++ [unFl L.load t]) := Lib.hid (by rw [HT.out]; exact refF_snoc L i)
            have EF : Hid (unFl L.load t = ⟨x, num2 L.load (t + 1), num2 L.load (t + 3), num2 L.load (t + 5)⟩) := Lib.hid (by rw [← hx]; rfl)
            obtain ⟨f, hf⟩ : ∃ f, unFl L.load t = f := ⟨_, rfl⟩
            rw [hf] at OKF SN EF
            clear hx hf
            have e1 : IntKind.i64.wrap ((t : Int) + 1) = (t : Int) + 1 := IntWalk.i64_in _ (by omega)
            have tn1 : ((t : Int) + 1).toNat = t + 1 := by omega
            have a1 : 0 ≤ (t : Int) + 1 := by omega
            have b1 : (t : Int) + 1 ≤ 116 := by omega
            have e3 : IntKind.i64.wrap ((t : Int) + 3) = (t : Int) + 3 := IntWalk.i64_in _ (by omega)
            have tn3 : ((t : Int) + 3).toNat = t + 3 := by omega
            have a3 : 0 ≤ (t : Int) + 3 := by omega
            have b3 : (t : Int) + 3 ≤ 116 := by omega
            have e5 : IntKind.i64.wrap ((t : Int) + 5) = (t : Int) + 5 := IntWalk.i64_in _ (by omega)
            have tn5 : ((t : Int) + 5).toNat = t + 5 := by omega
            have a5 : 0 ≤ (t : Int) + 5 := by omega
            have b5 : (t : Int) + 5 ≤ 116 := by omega
            have e7 : IntKind.i64.wrap ((t : Int) + 7) = (t : Int) + 7 := IntWalk.i64_in _ (by omega)
            have tn7 : ((t : Int) + 7).toNat = t + 7 := by omega
            have a7 : 0 ≤ (t : Int) + 7 := by omega
            have b7 : (t : Int) + 7 ≤ 116 := by omega
            have mx1 : (t : Int) + 1 ≤ max ((t : Int) + 3) 0 := by omega
            have mx3 : (t : Int) + 3 ≤ max ((t : Int) + 5) 0 := by omega
            have mx5 : (t : Int) + 5 ≤ max ((t : Int) + 7) 0 := by omega
            go_upto_region 8 with fail
            refine wp_region_held_drew (S := fun w' => RdB w' N (some ⟨b, 5, none⟩) L.load) (by kernel_rfl) RD.out (fun HS => ?_)
            have z0 : (0 : Int) ≤ (t : Int) := by omega
            have z1 : (t : Int) < (sz : Int) := by omega
            have k1 : t + 1 ≤ t + 3 := by omega
            have k3 : t + 3 ≤ t + 5 := by omega
            have k5 : t + 5 ≤ t + 7 := by omega
            have j1 : t + 3 ≤ 116 := by omega
            have j3 : t + 5 ≤ 116 := by omega
            have j5 : t + 7 ≤ 116 := by omega
            have y1 : ¬ 116 = t + 1 := by omega
            have y3 : ¬ 116 = t + 3 := by omega
            have y5 : ¬ 116 = t + 5 := by omega
            have m1 : t + 3 - (t + 1) = 2 := by omega
            have m3 : t + 5 - (t + 3) = 2 := by omega
            have m5 : t + 7 - (t + 5) = 2 := by omega
            refine takeY (i := 0) (d := 84) (v := ?_) rfl rfl (by kernel_rfl) (by kernel_rfl) (by kernel_rfl) (fun _ _ _ h => h) (by rfl) ?_ HS ?_
            rotate_left
            · intro w' hSw
              go_simp
              try with_reducible rfl
            simp only [Act.put, List.setIfInBounds_toArray, List.set_cons_zero, List.set_cons_succ]
            refine takeY (i := 2) (d := 86) (v := ?_) rfl rfl (by kernel_rfl) (by kernel_rfl) (by kernel_rfl) (fun _ _ _ h => h) (by rfl) ?_ HS ?_
            rotate_left
            · intro w' hSw
              go_simp
              try with_reducible rfl
            simp only [Act.put, List.setIfInBounds_toArray, List.set_cons_zero, List.set_cons_succ]
            refine takeY (i := 3) (d := 87) (v := ?_) rfl rfl (by kernel_rfl) (by kernel_rfl) (by kernel_rfl) (fun _ _ _ h => h) (by rfl) ?_ HS ?_
            rotate_left
            · intro w' hSw
              go_simp
              try with_reducible rfl
            simp only [Act.put, List.setIfInBounds_toArray, List.set_cons_zero, List.set_cons_succ]
            refine takeY (i := 4) (d := 88) (v := ?_) rfl rfl (by kernel_rfl) (by kernel_rfl) (by kernel_rfl) (fun _ _ _ h => h) (by rfl) ?_ HS ?_
            rotate_left
            · intro w' hSw
              go_simp
              try with_reducible rfl
            simp only [Act.put, List.setIfInBounds_toArray, List.set_cons_zero, List.set_cons_succ]
            refine takeY (i := 5) (d := 89) (v := ?_) rfl rfl (by kernel_rfl) (by kernel_rfl) (by kernel_rfl) (fun _ _ _ h => h) (by rfl) ?_ HS ?_
            rotate_left
            · intro w' hSw
              have hc' : w'.cell? ⟨b, 5 + t, none⟩ = some (.int .u8 x) := by rw [← HX.out]; obtain ⟨_, _, e, _, hq, _⟩ := hSw t (by rw [HL.out]; omega); injection e with e; injection e with e1 e2; subst e1 e2; exact hq
              go_simp
              try with_reducible rfl
            simp only [Act.put, List.setIfInBounds_toArray, List.set_cons_zero, List.set_cons_succ]
            refine takeY (i := 6) (d := 90) (v := ?_) rfl rfl (by kernel_rfl) (by kernel_rfl) (by kernel_rfl) (fun _ _ _ h => h) (by rfl) ?_ HS ?_
            rotate_left
            · intro w' hSw
              go_simp
              try with_reducible rfl
            simp only [Act.put, List.setIfInBounds_toArray, List.set_cons_zero, List.set_cons_succ]
            refine takeY (i := 7) (d := 91) (v := ?_) rfl rfl (by kernel_rfl) (by kernel_rfl) (by kernel_rfl) (fun _ _ _ h => h) (by rfl) ?_ HS ?_
            rotate_left
            · intro w' hSw
              go_simp
              try with_reducible rfl
            simp only [Act.put, List.setIfInBounds_toArray, List.set_cons_zero, List.set_cons_succ]
            refine takeY (i := 8) (d := 92) (v := ?_) rfl rfl (by kernel_rfl) (by kernel_rfl) (by kernel_rfl) (fun _ _ _ h => h) (by rfl) ?_ HS ?_
            rotate_left
            · intro w' hSw
              go_simp
              try with_reducible rfl
            simp only [Act.put, List.setIfInBounds_toArray, List.set_cons_zero, List.set_cons_succ]
            refine takeY (i := 9) (d := 93) (v := ?_) rfl rfl (by kernel_rfl) (by kernel_rfl) (by kernel_rfl) (fun _ _ _ h => h) (by rfl) ?_ HS ?_
            rotate_left
            · intro w' hSw
              go_simp
              try with_reducible rfl
            simp only [Act.put, List.setIfInBounds_toArray, List.set_cons_zero, List.set_cons_succ]
            refine takeY (i := 10) (d := 94) (v := ?_) rfl rfl (by kernel_rfl) (by kernel_rfl) (by kernel_rfl) (fun _ _ _ h => h) (by rfl) ?_ HS ?_
            rotate_left
            · intro w' hSw
              go_simp
              try with_reducible rfl
            simp only [Act.put, List.setIfInBounds_toArray, List.set_cons_zero, List.set_cons_succ]
            refine takeY (i := 11) (d := 95) (v := ?_) rfl rfl (by kernel_rfl) (by kernel_rfl) (by kernel_rfl) (fun _ _ _ h => h) (by rfl) ?_ HS ?_
            rotate_left
            · intro w' hSw
              go_simp
              try with_reducible rfl
            simp only [Act.put, List.setIfInBounds_toArray, List.set_cons_zero, List.set_cons_succ]
            refine takeY (i := 12) (d := 96) (v := ?_) rfl rfl (by kernel_rfl) (by kernel_rfl) (by kernel_rfl) (fun _ _ _ h => h) (by rfl) ?_ HS ?_
            rotate_left
            · intro w' hSw
              go_simp
              try with_reducible rfl
            simp only [Act.put, List.setIfInBounds_toArray, List.set_cons_zero, List.set_cons_succ]
            refine takeC (i := 13) (d := 97) (f := 34) (args := #[.slice (some ⟨b, 5 + (t + 1), none⟩) 2 (116 - (t + 1))]) (v := .int .i64 (num2 L.load (t + 1))) rfl rfl (by kernel_rfl) (by kernel_rfl) (by kernel_rfl) (fun _ _ _ h => h) (by rfl) ?_ ?_ HS ?_
            · intro w' hSw
              go_simp
              try with_reducible rfl
            · intro w' hSw
              exact number_at2 N b 5 (t + 1) _ L.load w' hSw (by rw [HL.out]; omega) _ rfl
            simp only [Act.put, List.setIfInBounds_toArray, List.set_cons_zero, List.set_cons_succ]
            refine takeY (i := 14) (d := 98) (v := ?_) rfl rfl (by kernel_rfl) (by kernel_rfl) (by kernel_rfl) (fun _ _ _ h => h) (by rfl) ?_ HS ?_
            rotate_left
            · intro w' hSw
              go_simp
              try with_reducible rfl
            simp only [Act.put, List.setIfInBounds_toArray, List.set_cons_zero, List.set_cons_succ]
            refine takeY (i := 15) (d := 99) (v := ?_) rfl rfl (by kernel_rfl) (by kernel_rfl) (by kernel_rfl) (fun _ _ _ h => h) (by rfl) ?_ HS ?_
            rotate_left
            · intro w' hSw
              go_simp
              try with_reducible rfl
            simp only [Act.put, List.setIfInBounds_toArray, List.set_cons_zero, List.set_cons_succ]
            refine takeY (i := 16) (d := 100) (v := ?_) rfl rfl (by kernel_rfl) (by kernel_rfl) (by kernel_rfl) (fun _ _ _ h => h) (by rfl) ?_ HS ?_
            rotate_left
            · intro w' hSw
              go_simp
              try with_reducible rfl
            simp only [Act.put, List.setIfInBounds_toArray, List.set_cons_zero, List.set_cons_succ]
            refine takeY (i := 17) (d := 101) (v := ?_) rfl rfl (by kernel_rfl) (by kernel_rfl) (by kernel_rfl) (fun _ _ _ h => h) (by rfl) ?_ HS ?_
            rotate_left
            · intro w' hSw
              go_simp
              try with_reducible rfl
            simp only [Act.put, List.setIfInBounds_toArray, List.set_cons_zero, List.set_cons_succ]
            refine takeY (i := 18) (d := 102) (v := ?_) rfl rfl (by kernel_rfl) (by kernel_rfl) (by kernel_rfl) (fun _ _ _ h => h) (by rfl) ?_ HS ?_
            rotate_left
            · intro w' hSw
              go_simp
              try with_reducible rfl
            simp only [Act.put, List.setIfInBounds_toArray, List.set_cons_zero, List.set_cons_succ]
            refine takeY (i := 19) (d := 103) (v := ?_) rfl rfl (by kernel_rfl) (by kernel_rfl) (by kernel_rfl) (fun _ _ _ h => h) (by rfl) ?_ HS ?_
            rotate_left
            · intro w' hSw
              go_simp
              try with_reducible rfl
            simp only [Act.put, List.setIfInBounds_toArray, List.set_cons_zero, List.set_cons_succ]
            refine takeC (i := 20) (d := 104) (f := 34) (args := #[.slice (some ⟨b, 5 + (t + 3), none⟩) 2 (116 - (t + 3))]) (v := .int .i64 (num2 L.load (t + 3))) rfl rfl (by kernel_rfl) (by kernel_rfl) (by kernel_rfl) (fun _ _ _ h => h) (by rfl) ?_ ?_ HS ?_
            · intro w' hSw
              go_simp
              try with_reducible rfl
            · intro w' hSw
              exact number_at2 N b 5 (t + 3) _ L.load w' hSw (by rw [HL.out]; omega) _ rfl
            simp only [Act.put, List.setIfInBounds_toArray, List.set_cons_zero, List.set_cons_succ]
            refine takeY (i := 21) (d := 105) (v := ?_) rfl rfl (by kernel_rfl) (by kernel_rfl) (by kernel_rfl) (fun _ _ _ h => h) (by rfl) ?_ HS ?_
            rotate_left
            · intro w' hSw
              go_simp
              try with_reducible rfl
            simp only [Act.put, List.setIfInBounds_toArray, List.set_cons_zero, List.set_cons_succ]
            refine takeY (i := 22) (d := 106) (v := ?_) rfl rfl (by kernel_rfl) (by kernel_rfl) (by kernel_rfl) (fun _ _ _ h => h) (by rfl) ?_ HS ?_
            rotate_left
            · intro w' hSw
              go_simp
              try with_reducible rfl
            simp only [Act.put, List.setIfInBounds_toArray, List.set_cons_zero, List.set_cons_succ]
            refine takeY (i := 23) (d := 107) (v := ?_) rfl rfl (by kernel_rfl) (by kernel_rfl) (by kernel_rfl) (fun _ _ _ h => h) (by rfl) ?_ HS ?_
            rotate_left
            · intro w' hSw
              go_simp
              try with_reducible rfl
            simp only [Act.put, List.setIfInBounds_toArray, List.set_cons_zero, List.set_cons_succ]
            refine takeY (i := 24) (d := 108) (v := ?_) rfl rfl (by kernel_rfl) (by kernel_rfl) (by kernel_rfl) (fun _ _ _ h => h) (by rfl) ?_ HS ?_
            rotate_left
            · intro w' hSw
              go_simp
              try with_reducible rfl
            simp only [Act.put, List.setIfInBounds_toArray, List.set_cons_zero, List.set_cons_succ]
            refine takeY (i := 25) (d := 109) (v := ?_) rfl rfl (by kernel_rfl) (by kernel_rfl) (by kernel_rfl) (fun _ _ _ h => h) (by rfl) ?_ HS ?_
            rotate_left
            · intro w' hSw
              go_simp
              try with_reducible rfl
            simp only [Act.put, List.setIfInBounds_toArray, List.set_cons_zero, List.set_cons_succ]
            refine takeY (i := 26) (d := 110) (v := ?_) rfl rfl (by kernel_rfl) (by kernel_rfl) (by kernel_rfl) (fun _ _ _ h => h) (by rfl) ?_ HS ?_
            rotate_left
            · intro w' hSw
              go_simp
              try with_reducible rfl
            simp only [Act.put, List.setIfInBounds_toArray, List.set_cons_zero, List.set_cons_succ]
            refine takeC (i := 27) (d := 111) (f := 34) (args := #[.slice (some ⟨b, 5 + (t + 5), none⟩) 2 (116 - (t + 5))]) (v := .int .i64 (num2 L.load (t + 5))) rfl rfl (by kernel_rfl) (by kernel_rfl) (by kernel_rfl) (fun _ _ _ h => h) (by rfl) ?_ ?_ HS ?_
            · intro w' hSw
              go_simp
              try with_reducible rfl
            · intro w' hSw
              exact number_at2 N b 5 (t + 5) _ L.load w' hSw (by rw [HL.out]; omega) _ rfl
            simp only [Act.put, List.setIfInBounds_toArray, List.set_cons_zero, List.set_cons_succ]
            refine takeY (i := 28) (d := 112) (v := ?_) rfl rfl (by kernel_rfl) (by kernel_rfl) (by kernel_rfl) (fun _ _ _ h => h) (by rfl) ?_ HS ?_
            rotate_left
            · intro w' hSw
              go_simp
              try with_reducible rfl
            simp only [Act.put, List.setIfInBounds_toArray, List.set_cons_zero, List.set_cons_succ]
            refine wpAnyH_ready (rs := [1, 29]) (by kernel_rfl) (by simp) ?_
            refine AllReadyH.cons rfl (fun K hK => ?_) (AllReadyH.cons rfl (fun K hK => ?_) AllReadyH.nil)
            · skip
              go_simp
              refine hK.out _ _ HS (fun HS3 => ?_)
              clear hK
              refine wpAnyH_ready (rs := [29]) (by kernel_rfl) (by simp) ?_
              refine AllReadyH.cons rfl (fun K hK => ?_) AllReadyH.nil
              go_simp
              obtain ⟨W, hW⟩ : ∃ W, W = (wr.alloc (.cells #[.int .i64 x, .int .i64 (num2 L.load (t + 1)), .int .i64 (num2 L.load (t + 3)), .int .i64 (num2 L.load (t + 5))] 25)).drew := ⟨_, rfl⟩
              rw [← hW]
              have hbW : Below wr.heap.size wr W := by rw [hW]; exact ((Below.refl _ _).alloc (Nat.le_refl _) _).drew
              have FA : Hid (FlAt4 W wr.heap.size 0 f) := Lib.hid (by
                rw [hW, EF.out]
                exact FlAt4.new wr ⟨x, num2 L.load (t + 1), num2 L.load (t + 3), num2 L.load (t + 5)⟩ _ _)
              have OWW := Lib.hid (OW.out.below hbW)
              have GW := Lib.hid (GR.out.below hbW)
              have AW := Lib.hid (AR.out.below hbW)
              have QW := Lib.hid (QR.out.below hbW)
              have BW := Lib.hid (bstep BR.out hbW)
              have RW := Lib.hid (AW.out.readsN hbN)
              have hNW : N < W.heap.size := by have := hbW.size; omega
              have cW : W.cell? ⟨N, 8, none⟩ = some (.slice A i c') := GW.out.cells.2.2.2.2.2.2.2.2
              clear hW hbW
              refine hK.out _ _ RW.out (fun HS2 => ?_)
              clear hK
              refine wpAnyH_ready (rs := [30]) (by kernel_rfl) (by simp) ?_
              refine AllReadyH.cons rfl (fun K hK => ?_) AllReadyH.nil
              refine step_fl rfl _ _ rfl (N + 1) i c' A (refF L i) rfl OWW.out wr.heap.size 0 1 f rfl FA.out OKF.out (by omega) (by omega) ?_
              intro g' cap' wz owz fkz
              have hFz : ∀ q, (∃ a, A = some a ∧ q = a.block) → N + 1 ≤ q := fun q ⟨a, ha, hq⟩ => by rw [hq]; exact (OWW.out.lt a ha).1
              have GZ := Lib.hid (GW.out.keep fkz.1 (fun h => by have := hFz _ h; omega))
              have AZ := Lib.hid (AW.out.keep fkz.1 (fun h => by have := hFz _ h; omega))
              have QZ := Lib.hid (QW.out.keep fkz.1 (fun h => by have := hFz _ h; omega))
              have BZ := Lib.hid (fkz.1.below (B := w.heap.size) (fun q hq => by have := hFz q hq; omega) BW.out (by omega))
              have RZ := Lib.hid (AZ.out.readsN hbN)
              have OZ : Hid (OwnF wz (N + 1) (some ⟨g', 0, none⟩) (i + 1) cap' (refF L (i + 1))) := Lib.hid (by rw [SN.out]; exact owz)
              have cZ : wz.cell? ⟨N, 8, none⟩ = some (.slice A i c') := GZ.out.cells.2.2.2.2.2.2.2.2
              have fZ : wz.frozen? ⟨N, 8, none⟩ = false := Arr.frozen GZ.out 8
              have hgN : N + 1 ≤ g' := (OZ.out.lt _ rfl).1
              refine hK.out _ _ RZ.out (fun HS4 => ?_)
              clear hK owz fkz hFz
              try simp only [Act.put, List.setIfInBounds_toArray, List.set_cons_zero, List.set_cons_succ]
              refine takeY (i := 31) (d := 115) (v := ?_) rfl rfl (by kernel_rfl) (by kernel_rfl) (by kernel_rfl) (fun _ _ _ h => h) (by rfl) ?_ HS4 ?_
              rotate_left
              · intro w' hSw
                go_simp
                try with_reducible rfl
              simp only [Act.put, List.setIfInBounds_toArray, List.set_cons_zero, List.set_cons_succ]
              refine wpAnyH_ready (rs := [32]) (by kernel_rfl) (by simp) ?_
              refine AllReadyH.cons rfl (fun K hK => ?_) AllReadyH.nil
              go_simp
              obtain ⟨V, hV⟩ : ∃ V, V = wz.setCell ⟨N, 8, none⟩ (.slice (some ⟨g', 0, none⟩) (i + 1) cap') := ⟨_, rfl⟩
              rw [← hV]
              have GV : Hid (CtAt V N cat (some ⟨g', 0, none⟩) (i + 1) cap') := Lib.hid (by rw [hV]; exact GZ.out.files)
              have AV : Hid (LfAt V b L) := Lib.hid (by rw [hV]; exact AZ.out.far (by omega) _)
              have QV : Hid (CtAt V r Ct.zero none 0 0) := Lib.hid (by rw [hV]; exact Arr.far QZ.out (by omega) _)
              have BV : Hid (Below w.heap.size w V) := Lib.hid (by rw [hV]; exact BZ.out.setCell (by show w.heap.size ≤ N; omega) _)
              have OV : Hid (OwnF V (N + 1) (some ⟨g', 0, none⟩) (i + 1) cap' (refF L (i + 1))) := Lib.hid (by rw [hV]; exact OZ.out.other (fun a ha => by injection ha with ha; rw [← ha]; show g' ≠ N; omega) _)
              have RV := Lib.hid (AV.out.readsN hbN)
              clear hV
              refine hK.out _ _ RV.out (fun HS5 => ?_)
              clear hK
              refine wpAnyH_done (by kernel_rfl) ?_ _
              go_wp2
              go_roundw
              case rel =>
                refine ⟨i + 1, some ⟨g', 0, none⟩, cap', by have := HT.out; omega, ?_, GV.out, OV.out, AV.out, QV.out, BV.out⟩
                have e9 : 17 + 7 * (i + 1) = t + 7 := by have := HT.out; omega
                rw [e9]; rfl
              case measure => simp [ivN]; omega
            · skip
              go_simp
              obtain ⟨W, hW⟩ : ∃ W, W = (wr.alloc (.cells #[.int .i64 x, .int .i64 (num2 L.load (t + 1)), .int .i64 (num2 L.load (t + 3)), .int .i64 (num2 L.load (t + 5))] 25)).drew := ⟨_, rfl⟩
              rw [← hW]
              have hbW : Below wr.heap.size wr W := by rw [hW]; exact ((Below.refl _ _).alloc (Nat.le_refl _) _).drew
              have FA : Hid (FlAt4 W wr.heap.size 0 f) := Lib.hid (by
                rw [hW, EF.out]
                exact FlAt4.new wr ⟨x, num2 L.load (t + 1), num2 L.load (t + 3), num2 L.load (t + 5)⟩ _ _)
              have OWW := Lib.hid (OW.out.below hbW)
              have GW := Lib.hid (GR.out.below hbW)
              have AW := Lib.hid (AR.out.below hbW)
              have QW := Lib.hid (QR.out.below hbW)
              have BW := Lib.hid (bstep BR.out hbW)
              have RW := Lib.hid (AW.out.readsN hbN)
              have hNW : N < W.heap.size := by have := hbW.size; omega
              have cW : W.cell? ⟨N, 8, none⟩ = some (.slice A i c') := GW.out.cells.2.2.2.2.2.2.2.2
              clear hW hbW
              refine hK.out _ _ RW.out (fun HS2 => ?_)
              clear hK
              refine wpAnyH_ready (rs := [1]) (by kernel_rfl) (by simp) ?_
              refine AllReadyH.cons rfl (fun K hK => ?_) AllReadyH.nil
              go_simp
              refine hK.out _ _ RW.out (fun HS3 => ?_)
              clear hK
              refine wpAnyH_ready (rs := [30]) (by kernel_rfl) (by simp) ?_
              refine AllReadyH.cons rfl (fun K hK => ?_) AllReadyH.nil
              refine step_fl rfl _ _ rfl (N + 1) i c' A (refF L i) rfl OWW.out wr.heap.size 0 1 f rfl FA.out OKF.out (by omega) (by omega) ?_
              intro g' cap' wz owz fkz
              have hFz : ∀ q, (∃ a, A = some a ∧ q = a.block) → N + 1 ≤ q := fun q ⟨a, ha, hq⟩ => by rw [hq]; exact (OWW.out.lt a ha).1
              have GZ := Lib.hid (GW.out.keep fkz.1 (fun h => by have := hFz _ h; omega))
              have AZ := Lib.hid (AW.out.keep fkz.1 (fun h => by have := hFz _ h; omega))
              have QZ := Lib.hid (QW.out.keep fkz.1 (fun h => by have := hFz _ h; omega))
              have BZ := Lib.hid (fkz.1.below (B := w.heap.size) (fun q hq => by have := hFz q hq; omega) BW.out (by omega))
              have RZ := Lib.hid (AZ.out.readsN hbN)
              have OZ : Hid (OwnF wz (N + 1) (some ⟨g', 0, none⟩) (i + 1) cap' (refF L (i + 1))) := Lib.hid (by rw [SN.out]; exact owz)
              have cZ : wz.cell? ⟨N, 8, none⟩ = some (.slice A i c') := GZ.out.cells.2.2.2.2.2.2.2.2
              have fZ : wz.frozen? ⟨N, 8, none⟩ = false := Arr.frozen GZ.out 8
              have hgN : N + 1 ≤ g' := (OZ.out.lt _ rfl).1
              refine hK.out _ _ RZ.out (fun HS4 => ?_)
              clear hK owz fkz hFz
              try simp only [Act.put, List.setIfInBounds_toArray, List.set_cons_zero, List.set_cons_succ]
              refine takeY (i := 31) (d := 115) (v := ?_) rfl rfl (by kernel_rfl) (by kernel_rfl) (by kernel_rfl) (fun _ _ _ h => h) (by rfl) ?_ HS4 ?_
              rotate_left
              · intro w' hSw
                go_simp
                try with_reducible rfl
              simp only [Act.put, List.setIfInBounds_toArray, List.set_cons_zero, List.set_cons_succ]
              refine wpAnyH_ready (rs := [32]) (by kernel_rfl) (by simp) ?_
              refine AllReadyH.cons rfl (fun K hK => ?_) AllReadyH.nil
              go_simp
              obtain ⟨V, hV⟩ : ∃ V, V = wz.setCell ⟨N, 8, none⟩ (.slice (some ⟨g', 0, none⟩) (i + 1) cap') := ⟨_, rfl⟩
              rw [← hV]
              have GV : Hid (CtAt V N cat (some ⟨g', 0, none⟩) (i + 1) cap') := Lib.hid (by rw [hV]; exact GZ.out.files)
              have AV : Hid (LfAt V b L) := Lib.hid (by rw [hV]; exact AZ.out.far (by omega) _)
              have QV : Hid (CtAt V r Ct.zero none 0 0) := Lib.hid (by rw [hV]; exact Arr.far QZ.out (by omega) _)
              have BV : Hid (Below w.heap.size w V) := Lib.hid (by rw [hV]; exact BZ.out.setCell (by show w.heap.size ≤ N; omega) _)
              have OV : Hid (OwnF V (N + 1) (some ⟨g', 0, none⟩) (i + 1) cap' (refF L (i + 1))) := Lib.hid (by rw [hV]; exact OZ.out.other (fun a ha => by injection ha with ha; rw [← ha]; show g' ≠ N; omega) _)
              have RV := Lib.hid (AV.out.readsN hbN)
              clear hV
              refine hK.out _ _ RV.out (fun HS5 => ?_)
              clear hK
              refine wpAnyH_done (by kernel_rfl) ?_ _
              go_wp2
              go_roundw
              case rel =>
                refine ⟨i + 1, some ⟨g', 0, none⟩, cap', by have := HT.out; omega, ?_, GV.out, OV.out, AV.out, QV.out, BV.out⟩
                have e9 : 17 + 7 * (i + 1) = t + 7 := by have := HT.out; omega
                rw [e9]; rfl
              case measure => simp [ivN]; omega
          · have i1 : decide ((t : Int) < (sz : Int)) = false := by rw [decide_eq_false_iff_not]; omega
            have HI : Hid (i = (sz - 17) / 7) := Lib.hid (by have := HT.out; omega)
            have c11 : wr.cell? ⟨b, 11, none⟩ = some (.int .u8 x6) := by rw [← HX6.out]; exact AR.out.byte 6 (by decide)
            have FS : Hid (cat.files = refF L i) := Lib.hid (by rw [CC.out, HI.out])
            have IC : Hid (x6 ≤ 1 → cat.Right → L.IsCt) := Lib.hid (fun h6 hr => ⟨PR.out.r, PR.out.k, PR.out.f, PR.out.p, PR.out.n, PR.out.s, PR.out.m, by rw [HX6.out]; exact h6, by rw [← HC.out]; exact hr⟩)
            have NC : Hid (L.IsCt → x6 ≤ 1 ∧ cat.Right) := Lib.hid (fun h => ⟨by rw [← HX6.out]; exact h.b, by rw [HC.out]; exact h.c⟩)
            by_cases h6 : x6 ≤ 1
            · have d6 : decide (x6 > 1) = false := by rw [decide_eq_false_iff_not]; omega
              have d6' : decide (1 < x6) = false := by rw [decide_eq_false_iff_not]; omega
              have RT := Lib.hid (rcat_any cat COK.out wr.heap.size A i c' wr (by rw [FS.out, refF_len]) (by unfold maxLen; omega) (by rw [FS.out]; exact OW.out.reads) (Nat.le_refl _))
              obtain ⟨d0, d1, d2, d3, d4, d5, d6c, d7, d8⟩ := GR.out.cells
              go_wp2_with fail
              refine RT.out.mono ?_
              rintro e w6 ⟨rfl, b6⟩
              have G6 := Lib.hid (GR.out.below b6)
              have Q6 := Lib.hid (QR.out.below b6)
              have B6 := Lib.hid (bstep BR.out b6)
              have O6 := Lib.hid (OW.out.below b6)
              clear b6 RT
              cases hq : cat.rt
              · have GN := Lib.hid (gotC_none (L := L) (fun h => Ct.rt_no.1 hq (NC.out h).2))
                clear hq
                go_wp2_with (first | (with_reducible refine build_ct0 rfl rfl ?_) | (with_reducible refine store_ct rfl _ _ rfl r Ct.zero Ct.zero none none 0 0 0 0 Q6.out rfl rfl ?_))
                intro w7 l7 k7 s7
                have L7 := Lib.hid l7
                have B7 := Lib.hid (k7.below (fun k hk => by omega) B6.out B6.out.size)
                clear l7 k7 s7
                go_wp2
                refine ret_ct 2 3 rfl rfl rfl L7.out rfl ⟨none, 0, 0, ?_, ?_, B7.out⟩
                · rw [GN.out.1, GN.out.2]
                · rw [GN.out.1]; exact OwnF.nil _ _
              · have GG := Lib.hid (gotC_some (IC.out h6 (Ct.rt_iff.1 hq)))
                clear hq
                go_wp2_with (first | (with_reducible refine load_ct rfl _ rfl N cat A i c' G6.out rfl ?_) | (with_reducible refine store_ct rfl _ _ rfl r Ct.zero cat none A 0 i 0 c' Q6.out rfl rfl ?_))
                intro w7 l7 k7 s7
                have L7 := Lib.hid l7
                have B7 := Lib.hid (k7.below (fun k hk => by omega) B6.out B6.out.size)
                have OW7 := Lib.hid ((O6.out.same (fun a ha => k7.block _ (O6.out.lt a ha).2 (by have := hAg a ha; omega))).weak (base' := w.heap.size) (fun a ha => by have := hAg a ha; omega))
                clear l7 k7 s7
                go_wp2
                refine ret_ct 2 3 rfl rfl rfl L7.out rfl ⟨A, i, c', ?_, ?_, B7.out⟩
                · rw [GG.out.1, GG.out.2, HC.out]
                · rw [GG.out.1, ← HC.out, FS.out]; exact OW7.out
            · have d6 : decide (x6 > 1) = true := by rw [decide_eq_true_eq]; omega
              have d6' : decide (1 < x6) = true := by rw [decide_eq_true_eq]; omega
              have GN := Lib.hid (gotC_none (L := L) (fun h => h6 (NC.out h).1))
              go_wp2_with (first | (with_reducible refine build_ct0 rfl rfl ?_) | (with_reducible refine store_ct rfl _ _ rfl r Ct.zero Ct.zero none none 0 0 0 0 QR.out rfl rfl ?_))
              intro w7 l7 k7 s7
              have L7 := Lib.hid l7
              have B7 := Lib.hid (k7.below (fun k hk => by omega) BR.out BR.out.size)
              clear l7 k7 s7
              go_wp2
              refine ret_ct 2 3 rfl rfl rfl L7.out rfl ⟨none, 0, 0, ?_, ?_, B7.out⟩
              · rw [GN.out.1, GN.out.2]
              · rw [GN.out.1]; exact OwnF.nil _ _
    · have GN := Lib.hid (gotC_none (L := L) (fun r => Lf.badL_yes.1 hbad ⟨r.r, r.k, r.f, r.p, r.n, r.s, r.m⟩))
      clear hbad
      go_wp2_with (first | (with_reducible refine build_ct0 rfl rfl ?_) | (with_reducible refine store_ct rfl _ _ rfl r Ct.zero Ct.zero none none 0 0 0 0 Z3.out rfl rfl ?_))
      intro w4 l4 k4 s4
      have Z4 := Lib.hid l4
      have B4 := Lib.hid (k4.below (fun k hk => by omega) B3.out B3.out.size)
      clear l4 k4 s4
      go_wp2
      refine ret_ct 2 3 rfl rfl rfl Z4.out rfl ⟨none, 0, 0, ?_, ?_, B4.out⟩
      · rw [GN.out.1, GN.out.2]
      · rw [GN.out.1]; exact OwnF.nil _ _
end Go.Proofs.Ytjiigbmfbmkhjaa
