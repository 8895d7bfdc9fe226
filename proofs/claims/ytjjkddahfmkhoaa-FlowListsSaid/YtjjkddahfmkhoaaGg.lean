/-
  Package flow: Fold over any iterator of ints.
-/
import Derived.Test.YtjjkddahfmkhoaaGc
namespace Go.Proofs.Ytjjkddahfmkhoaa
set_option linter.unusedVariables false
set_option linter.unusedSimpArgs false
set_option maxRecDepth 100000
open Go.RowKit Go.Shelf
attribute [local go_sem] Oper.semAt_some

def FoldJ (F : Int → Int → Int) (b0 : Int) (bb fb gf : Nat) (lf : Array Value) (ItF : Nat → Prop) (w : World) (pre : List Int) (A : Nat → Prop) (V : World) : Prop :=
  (∀ k, A k ↔ k = bb ∨ k = fb ∨ ItF k) ∧ Arr V bb 3 [.int .i64 (pre.foldl F b0)] ∧ Arr V fb 47 [.func (.func gf) #[] lf] ∧ Keep (fun k => ¬ ItF k) w V
theorem FoldJ.stab {F : Int → Int → Int} {b0 : Int} {bb fb gf : Nat} {lf : Array Value} {ItF : Nat → Prop} {w : World} (hl : Low ItF w) : Stab (FoldJ F b0 bb fb gf lf ItF w) := fun s A V V' hs k => by
  obtain ⟨hA, h1, h2, h3⟩ := hs
  refine ⟨hA, h1.keepF k (fun e => e ((hA _).2 (Or.inl rfl))), h2.keepF k (fun e => e ((hA _).2 (Or.inr (Or.inl rfl)))), ⟨k.os.trans h3.os, k.tape.trans h3.tape, k.output.trans h3.output, Nat.le_trans h3.size k.size, fun b q1 q2 => ?_⟩⟩
  have q3 : ItF b := Classical.byContradiction q2
  exact (k.block b (by have := h3.size; omega) (fun h => h ((hA _).2 (Or.inr (Or.inr q3))))).trans (h3.block b q1 q2)
set_option maxHeartbeats 8000000 in
theorem fold_I (F : Int → Int → Int) {g : Nat} {lb : Array Value} {fx : Int → Nat → Prop} {R : List Int → Int → World → Prop} {S Sp : List Int → World → Prop} {It Mt : Nat → Prop} {w0 : World} (hseq : SeqF Try.prog g lb (fun x => #[Value.int .i64 x]) fx R S Sp It Mt w0) (w : World) (hw : Keep (fun k => ¬ It k) w0 w) (eg : ∀ args w, (callFunc g args).run Try.prog w = .ok (.enter g args) w)
    {gf : Nat} {lf : Array Value} (ef : ∀ args w, (callFunc gf args).run Try.prog w = .ok (.enter gf args) w) (ItF : Nat → Prop) (hItF : Low ItF w) (d1 : ∀ k, It k → ¬ ItF k) (b0 : Int)
    (hf : ∀ pre x W, R pre x W → Keep (fun k => ¬ ItF k) w W → Calls Try.prog gf (#[.int .i64 (pre.foldl F b0), .int .i64 x] ++ lf) W fun e w' => e = .returned (.int .i64 (F (pre.foldl F b0) x)) ∧ Below W.heap.size W w') :
    Calls Try.prog 23 #[.func (.func g) #[] lb, .int .i64 b0, .func (.func gf) #[] lf] w fun e w' => ∃ xs, e = .returned (.int .i64 (xs.foldl F b0)) ∧ S xs w' ∧ Keep Mt w w' := by
  have en : ∀ W, (binOp .eql 47 (.func (.func gf) #[] lf) .nilFunc).run Try.prog W = .ok (.bool false) W := by
    have h : ∃ a b c, Try.prog.underlying 47 = some (.func a b c) := ⟨_, _, _, Try.underlying47⟩
    obtain ⟨a, b, c, h⟩ := h
    exact ffn_nil _ a b c h _ _ _
  have ON := Lib.hid (ornone_I (.func g) #[] lb)
  refine (callsIn_wide (n := 5)).1 ?_
  refine callsIn_of_wp_marks Try.func23 rfl trivial ?_ rfl
  simp only [Try.ntmps23, List.size_toArray, List.length_cons, List.length_nil, Nat.reduceAdd, Nat.reduceSub, Array.replicate_succ, Array.replicate_zero, List.push_toArray, List.append_toArray, List.nil_append, List.cons_append]
  refine wpIn_wide.2 ?_
  obtain ⟨W1, hW1⟩ : ∃ W1, W1 = (w.alloc (.cells #[.int .i64 b0] 3)).alloc (.cells #[.func (.func gf) #[] lf] 47) := ⟨_, rfl⟩
  obtain ⟨bb, hbb⟩ : ∃ bb, bb = w.heap.size := ⟨_, rfl⟩
  have B1 := Lib.hid (show Below w.heap.size w W1 by rw [hW1]; exact ((Below.refl _ _).alloc (Nat.le_refl _) _).alloc (by simp) _)
  have V1 := Lib.hid (show Arr W1 bb 3 [.int .i64 b0] by rw [hW1, hbb]; exact (Arr.new w _ [_]).below (balloc _ _))
  have V2 := Lib.hid (show Arr W1 (bb + 1) 47 [.func (.func gf) #[] lf] by
    rw [hW1, hbb]
    have := Arr.new (w.alloc (.cells #[.int .i64 b0] 3)) 47 [.func (.func gf) #[] lf]
    rw [World.size_alloc] at this
    exact this)
  have K1 := Lib.hid ((hw.then (Keep.of_below (F := fun _ => False) B1.out)).more (fun q e => e.elim id False.elim))
  have KF : Hid (Keep (fun k => ¬ ItF k) w W1) := Lib.hid (Keep.of_below B1.out)
  have HS := Lib.hid hseq; have HF := Lib.hid hf; have HIF := Lib.hid hItF; have HD1 := Lib.hid d1
  have hit : Hid (∀ k, It k → k < w.heap.size) := Lib.hid (fun k hk => Nat.lt_of_lt_of_le (hseq.low k hk) hw.size)
  clear hw hseq hf hItF d1
  go_upto_region 1 with fail
  rw [← hW1, ← hbb]
  have HBB := Lib.hid hbb
  have hvW : bb + 1 < W1.heap.size := Arr.lt V2.out
  have c5 := V2.out.cell 0
  clear hW1 hbb
  go_wp2_with fail
  refine (ON.out W1).mono ?_
  rintro e w2 ⟨rfl, rfl⟩
  clear c5
  go_wp2_with fail
  refine (wpIn_wide (n := 5)).1 ?_
  refine range_F (m := 5) (gf := g) (lb := lb) rfl eg HS.out K1.out (fun _ => rfl)
    (FoldJ F b0 bb (bb + 1) gf lf ItF w) (fun _ _ _ _ => False) (fun k => k = bb ∨ k = bb + 1 ∨ ItF k) (FoldJ.stab HIF.out) (fun _ _ _ _ _ h _ => h) (fun k hk e => by
      have := hit.out k hk; have := HBB.out
      rcases e with e | e | e
      · omega
      · omega
      · exact HD1.out k hk e) (fun k e => by
      rcases e with e | e | e
      · omega
      · omega
      · have := HIF.out k e; have := B1.out.size; omega)
    ⟨fun k => Iff.rfl, V1.out, V2.out, KF.out⟩
    (fun pre x a' => a' = { tmps := #[.func (.func g) #[] lb, .int .i64 b0, .func (.func gf) #[] lf, undef, .pointer (some ⟨bb, 0, none⟩), .pointer (some ⟨bb + 1, 0, none⟩), .int .i64 0, .int .i64 x, .func (.func gf) #[] lf, .bool false, .func (.func g) #[] lb, .func (.func g) #[] lb, .int .i64 x, undef, undef, undef, undef, undef], defers := [] })
    ?assign ?body ?done ?stop
  case assign =>
    intro l pre x V K hK
    have HK := Lib.hid hK
    clear hK
    gi_wp2
    exact HK.out _ rfl
  case body =>
    rintro l pre x a' A V hsz ⟨hA, v1, v2, kf⟩ hlow hR hfl hfx rfl
    have CF := Lib.hid (HF.out pre x V hR kf)
    obtain ⟨b, hb⟩ : ∃ b, pre.foldl F b0 = b := ⟨_, rfl⟩
    have c1 : V.cell? ⟨bb, 0, none⟩ = some (.int .i64 b) := by rw [← hb]; exact v1.cell 0
    have c2 := v2.cell 0
    have HA := Lib.hid hA; have HV1 := Lib.hid v1; have HV2 := Lib.hid v2; have HKF := Lib.hid kf; have HLO := Lib.hid hlow
    rw [hb] at CF
    have HB := Lib.hid hb
    clear hA v1 v2 kf hlow hR hfl hfx hb
    gi_wp2_with fail
    refine ⟨trivial, (CallsIn.inRound l (callsIn_wide.2 CF.out)).mono ?_⟩
    rintro e V2 ⟨rfl, bv⟩
    have W1' := HV1.out.below bv; have W2' := HV2.out.below bv
    have z1 := W1'.frozen 0
    have c1' := W1'.cell 0
    have BV := Lib.hid bv; have X1 := Lib.hid W1'; have X2 := Lib.hid W2'
    clear bv W1' W2' CF c1 c2
    gi_wp2
    have kk := (Keep.of_below (F := fun _ => False) BV.out).then (Keep.set V2 bb 0 (.int .i64 (F b x)))
    refine ⟨A, ⟨kk.more (fun q e => e.elim False.elim (fun e => Or.inl ((HA.out q).2 (Or.inl e)))), fun q hq => Nat.lt_of_lt_of_le (HLO.out q hq) kk.size, fun q hq => Or.inl hq⟩, HA.out, ?_, ?_, ?_⟩
    · have := X1.out.set 0 (.int .i64 (F b x))
      rw [List.foldl_append]
      show Arr _ _ _ [.int .i64 (F (pre.foldl F b0) x)]
      rw [HB.out]
      exact this
    · exact X2.out.far (by omega) _
    · refine ⟨kk.os.trans HKF.out.os, kk.tape.trans HKF.out.tape, kk.output.trans HKF.out.output, Nat.le_trans HKF.out.size kk.size, fun q h1 h2 => ?_⟩
      refine (kk.block q (by have := HKF.out.size; omega) (fun e => ?_)).trans (HKF.out.block q h1 h2)
      rcases e with e | e
      · exact e
      · have := HBB.out; omega
  case done =>
    rintro D xs A' V hD hS ⟨hA, v1, v2, kf⟩ hlow hnt hkp hK
    have hsz := B1.out.size
    have kD := Lib.hid (Keep.putObj V D (.deferred none))
    have hDV : D < V.heap.size := (Array.getElem?_eq_some_iff.1 hK).1
    have c1 := v1.cell 0
    have FIN : Hid (S xs (V.putObj D (.deferred none)) ∧ Keep Mt w (V.putObj D (.deferred none))) := Lib.hid (by
      refine ⟨HS.out.sstab _ _ _ _ hS kD.out (fun k e h => by subst e; have := hit.out _ h; omega), hkp.os.trans B1.out.os, hkp.tape.trans B1.out.tape, hkp.output.trans B1.out.output, by simp; have := hkp.size; omega, fun q h1 h2 => ?_⟩
      rw [World.putObj_heap_other (by omega)]
      by_cases h3 : ItF q
      · exact kf.block q h1 (fun h => h h3)
      · rw [hkp.block q (by omega) (fun e => by rcases e with (e | e | e) | e; (have := HBB.out; omega); (have := HBB.out; omega); exact h3 e; exact h2 e)]
        exact B1.out.block q h1)
    have HK := Lib.hid hK
    clear hS hA v1 v2 kf hlow hnt hkp hK
    go_wp2
    refine ⟨by simp, .inl ⟨_, _, rfl, run_takeDeferred HK.out, ?_⟩⟩
    exact ⟨_, results_tmp rfl _ _ _, xs, rfl, FIN.out⟩
  case stop =>
    rintro D c pre A' V hD hSp hF
    exact hF.elim
end Go.Proofs.Ytjjkddahfmkhoaa
