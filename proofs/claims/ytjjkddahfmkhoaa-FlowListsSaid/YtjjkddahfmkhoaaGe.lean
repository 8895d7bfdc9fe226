/-
  Package flow: Map over any iterator.
-/
import Derived.Test.YtjjkddahfmkhoaaGc
namespace Go.Proofs.Ytjjkddahfmkhoaa
set_option linter.unusedVariables false
set_option linter.unusedSimpArgs false
set_option maxRecDepth 100000
open Go.RowKit Go.Shelf
attribute [local go_sem] Oper.semAt_some

theorem map_RI (fn : Fn) (p q : Array Value) (fn' : Fn) (p' q' : Array Value) (w : World) : Calls Try.prog 38 #[.func fn p q, .func fn' p' q'] w fun e w' => e = .returned (.func (.func 61) #[] #[.pointer (some ⟨w.heap.size, 0, none⟩), .pointer (some ⟨w.heap.size + 1, 0, none⟩)]) ∧ (Arr w' w.heap.size 26 [.func fn p q] ∧ Arr w' (w.heap.size + 1) 61 [.func fn' p' q']) ∧ Below w.heap.size w w' := by
  have en : ∀ W, (binOp .eql 61 (.func fn' p' q') .nilFunc).run Try.prog W = .ok (.bool false) W := by
    have h : ∃ a b c, Try.prog.underlying 61 = some (.func a b c) := ⟨_, _, _, Try.underlying61⟩
    obtain ⟨a, b, c, h⟩ := h
    exact ffn_nil _ a b c h fn' p' q'
  have hmf := mk_fn
  go_enter Try.func38, Try.ntmps38
  go_wp2_with fail
  go_ret
  refine ⟨rfl, ⟨(Arr.new w _ [_]).below (balloc _ _), ?_⟩, ((Below.refl _ _).alloc (Nat.le_refl _) _).alloc (by simp) _⟩
  have := Arr.new (w.alloc (.cells #[.func fn p q] 26)) 61 [.func fn' p' q']
  rw [World.size_alloc] at this
  exact this
set_option maxHeartbeats 8000000 in
theorem mapseq_RI {α β : Type} (ea : α → Value) (eb : β → Value) (F : α → β) {g : Nat} {lb : Array Value} {fx : α → Nat → Prop} {R Rp : List α → α → World → Prop} {S Sp : List α → World → Prop} {It Mt : Nat → Prop} {w0 : World} (hseq : SeqF Try.prog g lb (fun x => #[ea x]) fx R S Sp It Mt w0) (w : World) (hw : Keep (fun k => ¬ It k) w0 w) (eg : ∀ args w, (callFunc g args).run Try.prog w = .ok (.enter g args) w)
    (hRp : ∀ pre x W, R pre x W → Rp pre x W) (rpst : ∀ pre x W W' F, Rp pre x W → Keep F W W' → (∀ k, F k → ¬ It k) → Rp pre x W')
    {gf : Nat} {lf : Array Value} (ef : ∀ args w, (callFunc gf args).run Try.prog w = .ok (.enter gf args) w) (ItF : Nat → Prop) (hItF : Low ItF w) (hf : ∀ pre x W, Rp pre x W → Keep (fun k => ¬ ItF k) w W → Calls Try.prog gf (#[ea x] ++ lf) W fun e w' => e = .returned (eb (F x)) ∧ Below W.heap.size W w')
    (sb fb : Nat) (hs : Arr w sb 26 [.func (.func g) #[] lb]) (hfb : Arr w fb 61 [.func (.func gf) #[] lf]) (d1 : ∀ k, It k → k ≠ sb ∧ k ≠ fb ∧ ¬ ItF k) :
    SeqF Try.prog 61 #[.pointer (some ⟨sb, 0, none⟩), .pointer (some ⟨fb, 0, none⟩)] (fun y => #[eb y]) (fun _ _ => False) (fun pre y W => ∃ prex x, pre = prex.map F ∧ y = F x ∧ Rp prex x W) (fun ys W => ∃ xs, ys = xs.map F ∧ S xs W) (fun ys W => ∃ xs, ys = xs.map F ∧ Sp xs W) (fun k => It k ∨ k = sb ∨ k = fb ∨ ItF k) Mt w := by
  have lowI : Low It w := fun k hk => Nat.lt_of_lt_of_le (hseq.low k hk) hw.size
  refine ⟨fun k hk => ?_, fun k hk => Or.inl (hseq.mt k hk), fun _ _ _ _ _ h k d => ?_, fun _ _ _ _ h k d => ?_, fun _ _ _ _ h k d => ?_, ?_⟩
  · rcases hk with h | rfl | rfl | h
    · exact lowI k h
    · exact Arr.lt hs
    · exact Arr.lt hfb
    · exact hItF k h
  · obtain ⟨prex, x, h1, h2, h3⟩ := h
    exact ⟨prex, x, h1, h2, rpst _ _ _ _ _ h3 k (fun q hq hi => (d q hq).2 (Or.inl hi))⟩
  · obtain ⟨xs, h1, h2⟩ := h
    exact ⟨xs, h1, hseq.sstab _ _ _ _ h2 k (fun q hq hi => d q hq (Or.inl hi))⟩
  · obtain ⟨xs, h1, h2⟩ := h
    exact ⟨xs, h1, hseq.pstab _ _ _ _ h2 k (fun q hq hi => d q hq (Or.inl hi))⟩
  intro l J Jx A W hW hJ hJx hdis hlow hY h0
  have hIt2 : Low (fun k => k = sb ∨ k = fb ∨ ItF k) w := fun k hk => by
    rcases hk with rfl | rfl | h
    · exact Arr.lt hs
    · exact Arr.lt hfb
    · exact hItF k h
  obtain ⟨It2, hI2⟩ : ∃ It2 : Nat → Prop, It2 = fun k => k = sb ∨ k = fb ∨ ItF k := ⟨_, rfl⟩
  have i2s : It2 sb := by rw [hI2]; exact Or.inl rfl
  have i2f : It2 fb := by rw [hI2]; exact Or.inr (Or.inl rfl)
  have i2F : ∀ k, ItF k → It2 k := fun k h => by rw [hI2]; exact Or.inr (Or.inr h)
  have d2 : Hid (∀ k, It k → ¬ It2 k) := Lib.hid (fun k h h2 => by rw [hI2] at h2; rcases h2 with e | e | e; exact (d1 k h).1 e; exact (d1 k h).2.1 e; exact (d1 k h).2.2 e)
  have d3 : Hid (∀ k, It k ∨ It2 k → ¬ A k) := Lib.hid (fun k h => hdis k (by rw [hI2] at h; exact h))
  rw [← hI2] at hIt2
  have hWs : w.heap.size ≤ W.heap.size := hW.size
  have IT2 := Lib.hid hIt2; have I2F := Lib.hid i2F
  have IEQ : Hid (∀ k, (It k ∨ k = sb ∨ k = fb ∨ ItF k) ↔ (It k ∨ It2 k)) := Lib.hid (fun k => by rw [hI2])
  clear hI2 i2F
  have KW2 : Hid (Keep (fun k => ¬ It2 k) w W) := Lib.hid (hW.more (fun q h h2 => h ((IEQ.out q).2 (Or.inr h2))))
  have KW0 : Hid (Keep (fun k => ¬ It k) w0 W) := Lib.hid ((hw.then hW).more (fun q h => h.elim id (fun h h2 => h (Or.inl h2))))
  have HSQ := Lib.hid hseq; have HY := Lib.hid hY; have HJ := Lib.hid hJ; have HJX := Lib.hid hJx; have HLO := Lib.hid hlow; have H0 := Lib.hid h0; have HF := Lib.hid hf; have HRP := Lib.hid hRp; have HRS := Lib.hid rpst; have LI := Lib.hid lowI
  have HS := Lib.hid hs; have HFB := Lib.hid hfb
  have ON := Lib.hid (ornone_R (.func g) #[] lb)
  clear hseq hY hJ hJx hlow h0 hf hRp rpst lowI hs hfb hW hw hdis hIt2 d1
  refine (callsIn_wide (n := 5)).1 ?_
  refine callsIn_of_wp_marks Try.func61 rfl trivial ?_ rfl
  simp only [Try.ntmps61, List.size_toArray, List.length_cons, List.length_nil, Nat.reduceAdd, Nat.reduceSub, Array.replicate_succ, Array.replicate_zero, List.push_toArray, List.append_toArray, List.nil_append, List.cons_append]
  refine wpIn_wide.2 ?_
  obtain ⟨W1, hW1⟩ : ∃ W1, W1 = W.alloc (.cells #[.func (.yield l) #[] #[]] 45) := ⟨_, rfl⟩
  obtain ⟨yb, hyb⟩ : ∃ yb, yb = W.heap.size := ⟨_, rfl⟩
  have Y1 := Lib.hid (show Arr W1 yb 45 [.func (.yield l) #[] #[]] by rw [hW1, hyb]; exact Arr.new W _ [_])
  have B1 := Lib.hid (show Below W.heap.size W W1 by rw [hW1]; exact balloc W _)
  have K1 : Hid (Keep (fun _ => False) W W1) := Lib.hid (Keep.of_below B1.out)
  go_upto_region 1 with fail
  rw [← hW1, ← hyb]
  have HYB := Lib.hid hyb
  have hyW : yb < W1.heap.size := Arr.lt Y1.out
  clear hW1 hyb
  have KW21 : Hid (Keep (fun k => ¬ It2 k) w W1) := Lib.hid ((KW2.out.then K1.out).more (fun q e => e.elim id False.elim))
  have s1 := (HS.out.keepF KW21.out (fun h => h i2s)).cell 0
  go_wp2_with fail
  refine (ON.out W1).mono ?_
  rintro e w2 ⟨rfl, rfl⟩
  go_wp2_with fail
  refine (wpIn_wide (n := 5)).1 ?_
  have J0 : Hid (MidJ (List.map F) l yb 45 It2 w A W J [] (fun k => A k ∨ k = yb ∨ It2 k) w2) := Lib.hid ⟨A, fun k => Iff.rfl, fun k hk => ⟨⟨fun e => by have := HLO.out k hk; have := HYB.out; omega, fun h => d3.out k (Or.inr h) hk⟩, Or.inl hk⟩, HJ.out.at H0.out K1.out (fun _ h => h.elim), Y1.out, KW21.out⟩
  refine range_F (m := 5) (gf := g) (lb := lb) rfl eg HSQ.out ((KW0.out.then K1.out).more (fun q e => e.elim id False.elim)) (fun _ => rfl)
    (MidJ (List.map F) l yb 45 It2 w A W J) (fun c prex A2 V => c = .ret ∧ MidJ (List.map F) l yb 45 It2 w A W Jx prex A2 V) (fun k => A k ∨ k = yb ∨ It2 k) (MidJ.stab HJ.out IT2.out) (fun c s A2 V V' h k => ⟨h.1, MidJ.stab HJX.out IT2.out s A2 V V' h.2 k⟩)
    (fun k hk e => by rcases e with e | rfl | e; exact d3.out k (Or.inl hk) e; (have := LI.out _ hk; have := HYB.out; omega); exact d2.out k hk e) (fun k e => by rcases e with e | rfl | e; (have := HLO.out k e; have := B1.out.size; omega); exact hyW; (have := IT2.out k e; have := B1.out.size; omega)) J0.out
    (fun pre x a' => a' = { tmps := #[.func (.yield l) #[] #[], .pointer (some ⟨sb, 0, none⟩), .pointer (some ⟨fb, 0, none⟩), .pointer (some ⟨yb, 0, none⟩), ea x, .func (.func g) #[] lb, .func (.func g) #[] lb, ea x, undef, undef, undef, undef, undef, undef], defers := [] })
    ?assign ?body ?done ?stop
  case assign =>
    intro l2 pre x V K hK
    have HK := Lib.hid hK
    clear hK
    gi_wp2
    exact HK.out _ rfl
  case body =>
    rintro l2 prex x a' A2 V hsz ⟨A', hA2, hd, hj, hy, hk2⟩ hlow hR hfl hfx rfl
    have hRp2 := HRP.out _ _ _ hR
    have VD := Lib.hid (Keep.drew (fun _ => False) V)
    have CF := Lib.hid (HF.out prex x V.drew (HRS.out _ _ _ _ _ hRp2 VD.out (fun _ h => h.elim)) ((hk2.then VD.out).more (fun q e => e.elim (fun h h2 => h (I2F.out q h2)) False.elim)))
    have lowA' : Low A' V := fun q hq => hlow q ((hA2 q).2 (Or.inl hq))
    have YY : Hid (∀ V2, Below V.drew.heap.size V.drew V2 → Yld Try.prog l #[eb (F x)] V2 fun e V3 => ∃ A'', Left A' (fun _ => False) V2 V3 A'' ∧ ((e = .returned (.bool true) ∧ J (prex.map F ++ [F x]) A'' V3) ∨ (e = .returned (.bool false) ∧ Jx (prex.map F ++ [F x]) A'' V3))) := Lib.hid (fun V2 b => by
      have kk : Keep (fun _ => False) V V2 := (VD.out.then (Keep.of_below (F := fun _ => False) b)).more (fun q e => e.elim id id)
      exact HY.out (prex.map F) (F x) A' V2 (HJ.out.at hj kk (fun _ h => h.elim)) (fun q hq => Nat.lt_of_lt_of_le (lowA' q hq) kk.size) (by have := kk.size; have := B1.out.size; omega) ⟨prex, x, rfl, rfl, HRS.out _ _ _ _ _ hRp2 kk (fun _ h => h.elim)⟩ (fun q h => h.elim) (fun q h => h.elim))
    have c3 : V.cell? ⟨yb, 0, none⟩ = some (.func (.yield l) #[] #[]) := hy.cell 0
    have c2 : V.cell? ⟨fb, 0, none⟩ = some (.func (.func gf) #[] lf) := (HFB.out.keepF hk2 (fun h => h i2f)).cell 0
    have hmx : Try.prog.follows .mixedOrders = true := by kernel_rfl
    have HA2 := Lib.hid hA2; have HD := Lib.hid hd; have HYY := Lib.hid hy; have HK2 := Lib.hid hk2; have LA' := Lib.hid lowA'
    have QF : Hid (∀ V2 V3 A'' b, Below V.drew.heap.size V.drew V2 → Left A' (fun _ => False) V2 V3 A'' → ((b = true ∧ J (prex.map F ++ [F x]) A'' V3) ∨ (b = false ∧ Jx (prex.map F ++ [F x]) A'' V3)) →
        ∃ A3, Left A2 (fx x) V V3 A3 ∧ ((b = true ∧ MidJ (List.map F) l yb 45 It2 w A W J (prex ++ [x]) A3 V3) ∨ (b = false ∧ MidJ (List.map F) l yb 45 It2 w A W Jx (prex ++ [x]) A3 V3))) := Lib.hid (fun V2 V3 A'' b bb lf hend => by
      have kk : Keep (fun _ => False) V V2 := (VD.out.then (Keep.of_below (F := fun _ => False) bb)).more (fun q e => e.elim id id)
      have kv : Keep A' V V3 := (kk.then lf.keep).more (fun q e => e.elim False.elim (fun e => e.elim id False.elim))
      have n1 : ∀ q, q < V.heap.size → ¬ A' q → ¬ A'' q := fun q h1 h2 h3 => by rcases lf.sub q h3 with e | e | e; exact h2 e; exact e; (have := kk.size; omega)
      have yV : yb < V.heap.size := Arr.lt HYY.out
      have iV : ∀ q, It2 q → q < V.heap.size := fun q hq => Nat.lt_of_lt_of_le (IT2.out q hq) HK2.out.size
      have dA : ∀ k, A'' k → (k ≠ yb ∧ ¬ It2 k) ∧ (A k ∨ W.heap.size ≤ k) := fun q hq => ⟨⟨fun e => n1 q (by rw [e]; exact yV) (fun h => (HD.out q h).1.1 e) hq, fun e => n1 q (iV q e) (fun h => (HD.out q h).1.2 e) hq⟩, by
        rcases lf.sub q hq with e | e | e
        · exact (HD.out q e).2
        · exact e.elim
        · have := kk.size; have := B1.out.size; exact Or.inr (by omega)⟩
      have mid : ∀ Jj : List β → (Nat → Prop) → World → Prop, Jj (prex.map F ++ [F x]) A'' V3 → MidJ (List.map F) l yb 45 It2 w A W Jj (prex ++ [x]) (fun k => A'' k ∨ k = yb ∨ It2 k) V3 := fun Jj hj => ⟨A'', fun k => Iff.rfl, dA, by rw [List.map_append]; exact hj, HYY.out.keepF kv (fun h => (HD.out _ h).1.1 rfl),
        ⟨kv.os.trans HK2.out.os, kv.tape.trans HK2.out.tape, kv.output.trans HK2.out.output, Nat.le_trans HK2.out.size kv.size, fun q h1 h2 => (kv.block q (by have := HK2.out.size; omega) (fun h => (HD.out q h).1.2 (Classical.byContradiction h2))).trans (HK2.out.block q h1 h2)⟩⟩
      refine ⟨fun k => A'' k ∨ k = yb ∨ It2 k, ⟨kv.more (fun q h => Or.inl ((HA2.out q).2 (Or.inl h))), fun q hq => ?_, fun q hq => ?_⟩, hend.elim (fun h => Or.inl ⟨h.1, mid J h.2⟩) (fun h => Or.inr ⟨h.1, mid Jx h.2⟩)⟩
      · rcases hq with h | rfl | h
        · exact lf.low q h
        · exact Nat.lt_of_lt_of_le yV kv.size
        · exact Nat.lt_of_lt_of_le (iV q h) kv.size
      · rcases hq with h | h | h
        · rcases lf.sub q h with e | e | e
          · exact Or.inl ((HA2.out q).2 (Or.inl e))
          · exact e.elim
          · have := kk.size; exact Or.inr (Or.inr (by omega))
        · exact Or.inl ((HA2.out q).2 (Or.inr (Or.inl h)))
        · exact Or.inl ((HA2.out q).2 (Or.inr (Or.inr h))))
    clear hA2 hd hj hy hk2 hlow hR hfl hfx hRp2 lowA'
    obtain ⟨v, hv⟩ : ∃ v, eb (F x) = v := ⟨_, rfl⟩
    rw [hv] at CF YY
    obtain ⟨u, hu⟩ : ∃ u, ea x = u := ⟨_, rfl⟩
    rw [hu] at CF ⊢
    gi_wp2
    gi_region_with_o (first
      | (refine ⟨trivial, (CallsIn.inRound l2 (callsIn_wide.2 CF.out)).mono ?_⟩; rintro e V2 ⟨rfl, bb⟩; obtain ⟨fn, tmps, assign, body, hy, hR⟩ := YY.out V2 bb 0; have BB := Lib.hid bb; have HR := Lib.hid hR; have c3' : V2.cell? ⟨yb, 0, none⟩ = some (.func (.yield l) #[] #[]) := (bb.cell (p := ⟨yb, 0, none⟩) (Arr.lt HYY.out)).trans c3; clear bb hR CF)
      | (refine ⟨trivial, (round_any HR.out).mono ?_⟩; rintro e V3 hp; obtain ⟨b, A'', rfl, hlf, hend⟩ := yend hp; have FIN := Lib.hid (QF.out _ _ _ _ BB.out hlf hend); clear hp hlf hend hy HR)
      | (refine (round_any HR.out).mono ?_; rintro e V3 hp; obtain ⟨b, A'', rfl, hlf, hend⟩ := yend hp; have FIN := Lib.hid (QF.out _ _ _ _ BB.out hlf hend); clear hp hlf hend hy HR))
    all_goals (
      obtain ⟨A3, l3, ⟨rfl, m3⟩ | ⟨rfl, m3⟩⟩ := FIN.out
      · have L3 := Lib.hid l3; have M3 := Lib.hid m3
        clear l3 m3 FIN
        gi_wp2
        exact ⟨A3, L3.out, M3.out⟩
      · have L3 := Lib.hid l3; have M3 := Lib.hid m3
        clear l3 m3 FIN
        gi_wp2
        exact ⟨A3, L3.out, rfl, M3.out⟩)
  case done =>
    rintro D xs A2 V hD hS ⟨A', hA2, hd, hj, hy, hk2⟩ hlow hnt hkp hK
    have kD := Lib.hid (Keep.putObj V D (.deferred none))
    have hDV : D < V.heap.size := (Array.getElem?_eq_some_iff.1 hK).1
    have FIN : Hid (Keep (fun k => A k ∨ Mt k) W (V.putObj D (.deferred none)) ∧ ∃ A', Low A' (V.putObj D (.deferred none)) ∧ (∀ k, A' k → ¬ (It k ∨ k = sb ∨ k = fb ∨ ItF k) ∧ (A k ∨ W.heap.size ≤ k)) ∧ ((∃ ys, (∃ xs, ys = xs.map F ∧ S xs (V.putObj D (.deferred none))) ∧ J ys A' (V.putObj D (.deferred none))) ∨ ∃ ys, (∃ xs, ys = xs.map F ∧ Sp xs (V.putObj D (.deferred none))) ∧ Jx ys A' (V.putObj D (.deferred none)))) := Lib.hid (by
      refine ⟨?_, A', fun q hq => by simpa using hlow q ((hA2 q).2 (Or.inl hq)), fun k hk => ⟨fun e => ?_, (hd k hk).2⟩, Or.inl ⟨xs.map F, ⟨xs, rfl, HSQ.out.sstab _ _ _ _ hS kD.out (fun k e h => by subst e; have := LI.out _ h; have := B1.out.size; omega)⟩, HJ.out.at hj kD.out (fun q e h => (hnt _ ((hA2 _).2 (Or.inl h))).2 e)⟩⟩
      · refine ⟨hkp.os.trans B1.out.os, hkp.tape.trans B1.out.tape, hkp.output.trans B1.out.output, by simp; have := hkp.size; have := B1.out.size; omega, fun q h1 h2 => ?_⟩
        have hs1 := B1.out.size
        rw [World.putObj_heap_other (by omega)]
        by_cases h3 : It2 q
        · rw [hk2.block q (IT2.out q h3) (fun h => h h3), ← KW2.out.block q (IT2.out q h3) (fun h => h h3)]
        · rw [hkp.block q (by omega) (fun e => by rcases e with (e | e | e) | e; exact h2 (Or.inl e); (have := HYB.out; omega); exact h3 e; exact h2 (Or.inr e))]
          exact B1.out.block q h1
      · rcases (IEQ.out k).1 e with h | h
        · exact (hnt k ((hA2 k).2 (Or.inl hk))).1 h
        · exact (hd k hk).1.2 h)
    have HK := Lib.hid hK
    clear hS hA2 hd hj hy hk2 hlow hnt hkp hK
    go_wp2
    refine ⟨by simp, .inl ⟨_, _, rfl, run_takeDeferred HK.out, ?_⟩⟩
    exact ⟨_, results_none rfl _ _ _, ⟨_, rfl⟩, FIN.out⟩
  case stop =>
    rintro D c xs A2 V hD hS ⟨rfl, A', hA2, hd, hj, hy, hk2⟩ hlow hnt hkp hK
    have kD := Lib.hid (Keep.putObj V D (.deferred none))
    have hDV : D < V.heap.size := (Array.getElem?_eq_some_iff.1 hK).1
    have FIN : Hid (Keep (fun k => A k ∨ Mt k) W (V.putObj D (.deferred none)) ∧ ∃ A', Low A' (V.putObj D (.deferred none)) ∧ (∀ k, A' k → ¬ (It k ∨ k = sb ∨ k = fb ∨ ItF k) ∧ (A k ∨ W.heap.size ≤ k)) ∧ ((∃ ys, (∃ xs, ys = xs.map F ∧ S xs (V.putObj D (.deferred none))) ∧ J ys A' (V.putObj D (.deferred none))) ∨ ∃ ys, (∃ xs, ys = xs.map F ∧ Sp xs (V.putObj D (.deferred none))) ∧ Jx ys A' (V.putObj D (.deferred none)))) := Lib.hid (by
      refine ⟨?_, A', fun q hq => by simpa using hlow q ((hA2 q).2 (Or.inl hq)), fun k hk => ⟨fun e => ?_, (hd k hk).2⟩, Or.inr ⟨xs.map F, ⟨xs, rfl, HSQ.out.pstab _ _ _ _ hS kD.out (fun k e h => by subst e; have := LI.out _ h; have := B1.out.size; omega)⟩, HJX.out.at hj kD.out (fun q e h => (hnt _ ((hA2 _).2 (Or.inl h))).2 e)⟩⟩
      · refine ⟨hkp.os.trans B1.out.os, hkp.tape.trans B1.out.tape, hkp.output.trans B1.out.output, by simp; have := hkp.size; have := B1.out.size; omega, fun q h1 h2 => ?_⟩
        have hs1 := B1.out.size
        rw [World.putObj_heap_other (by omega)]
        by_cases h3 : It2 q
        · rw [hk2.block q (IT2.out q h3) (fun h => h h3), ← KW2.out.block q (IT2.out q h3) (fun h => h h3)]
        · rw [hkp.block q (by omega) (fun e => by rcases e with (e | e | e) | e; exact h2 (Or.inl e); (have := HYB.out; omega); exact h3 e; exact h2 (Or.inr e))]
          exact B1.out.block q h1
      · rcases (IEQ.out k).1 e with h | h
        · exact (hnt k ((hA2 k).2 (Or.inl hk))).1 h
        · exact (hd k hk).1.2 h)
    have HK := Lib.hid hK
    clear hS hA2 hd hj hy hk2 hlow hnt hkp hK
    refine wpIn_wide.2 ?_
    go_wp2
    refine ⟨by simp, .inl ⟨_, _, rfl, run_takeDeferred HK.out, ?_⟩⟩
    exact ⟨_, results_none rfl _ _ _, ⟨_, rfl⟩, FIN.out⟩
end Go.Proofs.Ytjjkddahfmkhoaa
