/-
  Package flow: List of what any iterator yields.
-/
import Derived.Deep.Cut
import Derived.Test.YtjjkddahfmkhoaaGa
namespace Go.Proofs.Ytjjkddahfmkhoaa
set_option linter.unusedVariables false
set_option linter.unusedSimpArgs false
set_option maxRecDepth 100000
open Go.RowKit Go.Shelf
attribute [local go_sem] Oper.semAt_some

theorem row_app_in {t e : TypeId} (hk : Cells1 t e) {F : Fence} {m₀ : Nat} {w : World} {ops : Array Oper} {rs : List Oper} {o : Oper} {a : Act} {Q : Exit → Act → World → Prop} (hgd : o.guard = none) (s x : Operand)
    (ho : o.op = .call { callee := .builtin .append, args := #[s, x], argTypes := #[t, t] }) (A : Option Addr) (n c : Nat) (xs : List Value) (hs : a.eval s = .slice A n c) (h : RowA w e A c xs) (hn : xs.length = n) (A' : Option Addr) (m c' : Nat) (ys : List Value) (hx : a.eval x = .slice A' m c') (hm : ys.length = m) (hsrc : Src w A' c' ys) (h1 : ∀ u, u ∈ ys → u.oneCell' = true) (hl : n + m ≤ 1000000)
    (k : ∀ A'' c'' w', RowA w' e A'' c'' (xs ++ ys) → Keep (Of A) w w' → ((A'' = A) ∨ ∃ g, A'' = some ⟨g, 0, none⟩ ∧ w.heap.size ≤ g) → wpListIn F m₀ Try.prog ops Q rs (a.put o.dst (.slice A'' (n + m) c'')) w') : wpListIn F m₀ Try.prog ops Q (o :: rs) a w := by
  refine wpListIn_plain hgd fun K hK => ?_
  obtain ⟨A'', c'', w', hrun, p1, p2, p3⟩ := run_row_app hk w h hn A' m c' ys hm hsrc h1 hl o.type
  unfold Oper.wpIn
  refine ⟨?_, ?_⟩
  · simp [Oper.about, ho, resolve, Target.leads, Sem.run_pure]
  · rw [Oper.semAt_plain F _ _ (by rw [ho]; intro c hc'; cases hc')]
    simp [execOp, ho, resolve, invoke, builtin, hs, hx, hrun, Result.andThen]
    exact hK _ _ (k A'' c'' w' p1 p2 p3)
/-- A row that List has so far: its variable's block lb, its row's, and those of what it holds. -/
structure ListI {α : Type} (t e : TypeId) (encv : α → Value) (G : List α → (Nat → Prop) → World → Prop) (n₀ lb : Nat) (pre : List α) (A : Nat → Prop) (V : World) (Ar : Option Addr) (c : Nat) (AG : Nat → Prop) : Prop where
  v : Arr V lb t [.slice Ar pre.length c]
  r : RowA V e Ar c (pre.map encv)
  g : G pre AG V
  hA : ∀ k, A k ↔ k = lb ∨ Of Ar k ∨ AG k
  new : ∀ a, Ar = some a → n₀ ≤ a.block ∧ a.block ≠ lb ∧ ¬ AG a.block
  gl : ¬ AG lb ∧ (∀ k, AG k → n₀ ≤ k)
def ListJ {α : Type} (t e : TypeId) (encv : α → Value) (G : List α → (Nat → Prop) → World → Prop) (n₀ lb : Nat) (pre : List α) (A : Nat → Prop) (V : World) : Prop := ∃ Ar c AG, ListI t e encv G n₀ lb pre A V Ar c AG
theorem ListJ.stab {α : Type} {t e : TypeId} {encv : α → Value} {G : List α → (Nat → Prop) → World → Prop} {n₀ lb : Nat} (h : Stab G) : Stab (ListJ t e encv G n₀ lb) := fun s A W W' hs k => by
  obtain ⟨Ar, c, AG, v, r, g, hA, new, gl⟩ := hs
  exact ⟨Ar, c, AG, v.keepF k (fun e => e ((hA _).2 (Or.inl rfl))), r.keepF k (fun a ha e => e ((hA _).2 (Or.inr (Or.inl ⟨a, ha, rfl⟩)))), h.at g k (fun q hq hG => hq ((hA q).2 (Or.inr (Or.inr hG)))), hA, new, gl⟩
theorem ornone_I (fn : Fn) (p q : Array Value) (w : World) : Calls Try.prog 44 #[.func fn p q] w fun e w' => e = .returned (.func fn p q) ∧ w' = w := by
  have en : ∀ W, (binOp .eql 29 (.func fn p q) .nilFunc).run Try.prog W = .ok (.bool false) W := by
    have h : ∃ a b c, Try.prog.underlying 29 = some (.func a b c) := ⟨_, _, _, Try.underlying29⟩
    obtain ⟨a, b, c, h⟩ := h
    exact ffn_nil _ a b c h fn p q
  go_enter Try.func44, Try.ntmps44
  go_wp2_with fail
  go_ret
  exact ⟨rfl, rfl⟩
theorem fcells_I : Cells1 24 3 := by
  obtain ⟨i, h1, h2, h3, h4⟩ := info_parts (P := Try.prog) (e := 3) (z := .int .i64 0) (size := 1) (bytes := 8) (by kernel_rfl)
  exact ⟨Try.underlying24, i, _, h1, h2, h3, by rw [h4]; decide, rfl⟩
set_option maxHeartbeats 4000000 in
theorem list_I  {g : Nat} {lb : Array Value} {fx : Int → Nat → Prop} {R : List Int → Int → World → Prop} {S Sp : List Int → World → Prop} {It Mt : Nat → Prop} {w0 : World} (hseq : SeqF Try.prog g lb (fun x => #[Value.int .i64 x]) fx R S Sp It Mt w0) (w : World) (hw : Keep (fun k => ¬ It k) w0 w) (eg : ∀ args w, (callFunc g args).run Try.prog w = .ok (.enter g args) w)
    (G : List Int → (Nat → Prop) → World → Prop) (hG : Stab G) (hG0 : ∀ W, G [] (fun _ => False) W) (hGs : ∀ pre x A W, G pre A W → R pre x W → (∀ k, fx x k → ¬ A k) → G (pre ++ [x]) (fun k => A k ∨ fx x k) W) (hn : ∀ pre x W, R pre x W → pre.length ≤ 100000) :
    Calls Try.prog 17 #[.func (.func g) #[] lb] w fun e w' => ∃ Ar c xs AG, e = .returned (.slice Ar xs.length c) ∧ S xs w' ∧ (RowA w' 3 Ar c (xs.map (fun x => Value.int .i64 x)) ∧ G xs AG w') ∧ (∀ a, Ar = some a → w.heap.size ≤ a.block ∧ ¬ AG a.block) ∧ (∀ k, AG k → w.heap.size ≤ k ∧ k < w'.heap.size) ∧ Keep Mt w w' := by
  have ON := Lib.hid (ornone_I (.func g) #[] lb)
  refine (callsIn_wide (n := 5)).1 ?_
  refine callsIn_of_wp_marks Try.func17 rfl trivial ?_ rfl
  simp only [Try.ntmps17, List.size_toArray, List.length_cons, List.length_nil, Nat.reduceAdd, Nat.reduceSub, Array.replicate_succ, Array.replicate_zero, List.push_toArray, List.append_toArray, List.nil_append, List.cons_append]
  refine wpIn_wide.2 ?_
  obtain ⟨W1, hW1⟩ : ∃ W1, W1 = w.alloc (.cells #[.slice none 0 0] 24) := ⟨_, rfl⟩
  obtain ⟨vb, hvb⟩ : ∃ vb, vb = w.heap.size := ⟨_, rfl⟩
  have V1 := Lib.hid (show Arr W1 vb 24 [.slice none 0 0] by rw [hW1, hvb]; exact Arr.new w _ [_])
  have B1 := Lib.hid (show Below w.heap.size w W1 by rw [hW1]; exact balloc w _)
  have K1 := Lib.hid ((hw.then (Keep.of_below (F := fun _ => False) B1.out)).more (fun q e => e.elim id False.elim))
  have HS := Lib.hid hseq; have HG := Lib.hid hG; have HG0 := Lib.hid hG0; have HGS := Lib.hid hGs; have HN := Lib.hid hn
  have hit : Hid (∀ k, It k → k < w.heap.size) := Lib.hid (fun k hk => Nat.lt_of_lt_of_le (hseq.low k hk) hw.size)
  clear hw hseq hG hG0 hGs hn
  go_upto_region 2 with fail
  rw [← hW1, ← hvb]
  have HVB := Lib.hid hvb
  have hvW : vb < W1.heap.size := Arr.lt V1.out
  clear hW1 hvb
  go_wp2_with fail
  refine (ON.out W1).mono ?_
  rintro e w2 ⟨rfl, rfl⟩
  go_wp2_with fail
  refine (wpIn_wide (n := 5)).1 ?_
  refine range_F (m := 5) (gf := g) (lb := lb) rfl eg HS.out K1.out (fun _ => rfl)
    (ListJ 24 3 (fun x => Value.int .i64 x) G w.heap.size vb) (fun _ _ _ _ => False) (fun k => k = vb) (ListJ.stab HG.out) (fun _ _ _ _ _ h _ => h) (fun k hk e => by have := hit.out k hk; have := HVB.out; omega) (fun k e => by subst e; exact hvW)
    ⟨none, 0, fun _ => False, V1.out, RowA.nil _ _, HG0.out _, fun k => ⟨fun e => Or.inl e, fun e => by rcases e with e | ⟨a, ha, _⟩ | e; exact e; cases ha; exact e.elim⟩, fun a ha => (by cases ha), id, fun _ h => h.elim⟩
    (fun pre x a' => a' = { tmps := #[.func (.func g) #[] lb, undef, .slice none 0 0, .pointer (some ⟨vb, 0, none⟩), Value.int .i64 x, .func (.func g) #[] lb, .func (.func g) #[] lb, Value.int .i64 x, undef, undef, undef, undef, undef], defers := [] })
    ?assign ?body ?done ?stop
  case assign =>
    intro l pre x V K hK
    have HK := Lib.hid hK
    clear hK
    gi_wp2
    exact HK.out _ rfl
  case body =>
    rintro l pre x a' A V hsz ⟨Ar, c, AG, v, r, gg, hA, new, gl⟩ hlow hR hfl hfx rfl
    have HV := Lib.hid v; have HR := Lib.hid r; have HGG := Lib.hid gg; have HA := Lib.hid hA; have HNW := Lib.hid new; have HGL := Lib.hid gl; have HLO := Lib.hid hlow; have HRR := Lib.hid hR; have HFL := Lib.hid hfl; have HFX := Lib.hid hfx
    have c0 : V.cell? ⟨vb, 0, none⟩ = some (.slice Ar pre.length c) := v.cell 0
    have z0 := v.frozen 0
    have hpl : pre.length ≤ 100000 := HN.out _ _ _ hR
    obtain ⟨n, hn⟩ : ∃ n, pre.length = n := ⟨_, rfl⟩
    rw [hn] at c0 HV hpl
    have HNN := Lib.hid hn
    clear v r gg hA new gl hlow hR hfl hfx hn
    obtain ⟨V1, hV1⟩ : ∃ V1, V1 = V.alloc (.cells #[Value.int .i64 x] 3) := ⟨_, rfl⟩
    have KV := Lib.hid (show Keep (fun _ => False) V V1 by rw [hV1]; exact Keep.alloc _ _)
    have R1 : Hid (RowA V1 3 Ar c (pre.map (fun x => Value.int .i64 x))) := Lib.hid (HR.out.keepF KV.out (fun a ha h => h))
    have SC : Hid (Src V1 (some ⟨V.heap.size, 0, none⟩) 1 [Value.int .i64 x]) := Lib.hid (by rw [hV1]; exact Src.one V 3 (Value.int .i64 x) (0, 0) 1)
    have sV : V1.heap.size = V.heap.size + 1 := by rw [hV1]; simp
    have HV1 := Lib.hid (HV.out.keepF KV.out (fun h => h))
    have HVV := Lib.hid hV1
    clear hV1
    have c1 : V1.cell? ⟨vb, 0, none⟩ = some (.slice Ar n c) := HV1.out.cell 0
    gi_wp2_with (gi_at_builtin; go_loud (rw [← HVV.out]; refine row_app_in fcells_I rfl _ _ rfl Ar n c (pre.map (fun x => Value.int .i64 x)) rfl R1.out (by rw [List.length_map]; exact HNN.out) _ 1 1 [Value.int .i64 x] rfl rfl SC.out (by intro u hu; obtain rfl : u = Value.int .i64 x := (by simpa using hu); rfl) (by omega) ?_))
    intro A2 c2 V2 r2 k2 hg2
    have hv2 : Arr V2 vb 24 [.slice Ar n c] := HV1.out.keepF k2 (fun h => by obtain ⟨a, ha, e⟩ := h; exact (HNW.out a ha).2.1 e.symm)
    have R2 := Lib.hid r2; have K2 := Lib.hid k2; have HG2 := Lib.hid hg2; have HV2 := Lib.hid hv2
    have c2' : V2.cell? ⟨vb, 0, none⟩ = some (.slice Ar n c) := hv2.cell 0
    have z2 := hv2.frozen 0
    clear r2 k2 hg2 hv2 c0 z0 c1
    gi_wp2
    have sz2 := K2.out.size
    have kk : Keep (fun k => A k ∨ fx x k) V (V2.setCell ⟨vb, 0, none⟩ (.slice A2 (n + 1) c2)) := by
      refine ((KV.out.then K2.out).then (Keep.set V2 vb 0 (.slice A2 (n + 1) c2))).more (fun q hq => ?_)
      rcases hq with (e | e) | rfl
      · exact e.elim
      · exact Or.inl ((HA.out q).2 (Or.inr (Or.inl e)))
      · exact Or.inl ((HA.out _).2 (Or.inl rfl))
    have newA : ∀ a, A2 = some a → (Of Ar a.block ∨ V1.heap.size ≤ a.block) := fun a ha => by
      rcases HG2.out with e | ⟨g', e, hg'⟩
      · exact Or.inl ⟨a, by rw [← e]; exact ha, rfl⟩
      · rw [e] at ha; injection ha with ha; subst ha; exact Or.inr (by rw [sV]; exact hg')
    have hvb2 : ∀ a, A2 = some a → a.block ≠ vb := fun a ha e => by
      rcases newA a ha with ⟨b, hb, h⟩ | h
      · exact (HNW.out b hb).2.1 (by rw [← h]; exact e)
      · have := HVB.out; omega
    refine ⟨fun k => k = vb ∨ Of A2 k ∨ AG k ∨ fx x k, ⟨kk, fun k hk => ?_, fun k hk => ?_⟩, A2, c2, fun k => AG k ∨ fx x k, ?_, ?_, ?_, fun k => Iff.rfl, fun a ha => ⟨?_, hvb2 a ha, ?_⟩, ⟨fun h => ?_, fun k h => ?_⟩⟩
    · have := kk.size
      rcases hk with rfl | ⟨a, ha, rfl⟩ | h | h
      · omega
      · rw [fset_size]; exact R2.out.lt a ha
      · have := HLO.out k ((HA.out k).2 (Or.inr (Or.inr h))); omega
      · have := HFL.out k h; omega
    · rcases hk with rfl | ⟨a, ha, rfl⟩ | h | h
      · exact Or.inl ((HA.out _).2 (Or.inl rfl))
      · rcases newA a ha with h | h
        · exact Or.inl ((HA.out _).2 (Or.inr (Or.inl h)))
        · exact Or.inr (Or.inr (by omega))
      · exact Or.inl ((HA.out _).2 (Or.inr (Or.inr h)))
      · exact Or.inr (Or.inl h)
    · have := HV2.out.set 0 (.slice A2 (n + 1) c2)
      rw [List.length_append, HNN.out]
      exact this
    · rw [List.map_append]
      exact R2.out.other (fun a ha e => hvb2 a ha e) _
    · have g1 := HGS.out pre x AG V HGG.out HRR.out (fun k h1 h2 => (HFX.out k h1).1 ((HA.out k).2 (Or.inr (Or.inr h2))))
      refine HG.out.at g1 ((KV.out.then K2.out).then (Keep.set V2 vb 0 (.slice A2 (n + 1) c2))) (fun q hq hq2 => ?_)
      rcases hq with (e | ⟨a, ha, rfl⟩) | rfl
      · exact e
      · rcases hq2 with h | h
        · exact (HNW.out a ha).2.2 h
        · exact (HFX.out _ h).1 ((HA.out _).2 (Or.inr (Or.inl ⟨a, ha, rfl⟩)))
      · rcases hq2 with h | h
        · exact HGL.out.1 h
        · exact (HFX.out _ h).1 ((HA.out _).2 (Or.inl rfl))
    · rcases newA a ha with ⟨b, hb, h⟩ | h
      · have := (HNW.out b hb).1; omega
      · have := HVB.out; omega
    · rintro (h | h)
      · rcases newA a ha with ⟨b, hb, e⟩ | e
        · exact (HNW.out b hb).2.2 (by rw [← e]; exact h)
        · have := HLO.out _ ((HA.out _).2 (Or.inr (Or.inr h))); omega
      · rcases newA a ha with e | e
        · exact (HFX.out _ h).1 ((HA.out _).2 (Or.inr (Or.inl e)))
        · have := HFL.out _ h; omega
    · rcases h with h | h
      · exact HGL.out.1 h
      · exact (HFX.out _ h).1 ((HA.out _).2 (Or.inl rfl))
    · rcases h with h | h
      · exact HGL.out.2 k h
      · have := (HFX.out k h).2; have := B1.out.size; omega
  case done =>
    rintro D xs A' V hD hS ⟨Ar, c, AG, v, r, gg, hA, new, gl⟩ hlow hnt hkp hK
    have hsz := B1.out.size
    obtain ⟨n, hn⟩ : ∃ n, xs.length = n := ⟨_, rfl⟩
    have c0 : V.cell? ⟨vb, 0, none⟩ = some (.slice Ar n c) := by rw [← hn]; exact v.cell 0
    have kD := Lib.hid (Keep.putObj V D (.deferred none))
    have hDV : D < V.heap.size := (Array.getElem?_eq_some_iff.1 hK).1
    have FIN : Hid (S xs (V.putObj D (.deferred none)) ∧ (RowA (V.putObj D (.deferred none)) 3 Ar c (xs.map (fun x => Value.int .i64 x)) ∧ G xs AG (V.putObj D (.deferred none))) ∧ (∀ a, Ar = some a → w.heap.size ≤ a.block ∧ ¬ AG a.block) ∧ (∀ k, AG k → w.heap.size ≤ k ∧ k < (V.putObj D (.deferred none)).heap.size) ∧ Keep Mt w (V.putObj D (.deferred none))) := Lib.hid (by
      refine ⟨HS.out.sstab _ _ _ _ hS kD.out (fun k e h => by subst e; have := hit.out _ h; omega), ⟨r.keepF kD.out (fun a ha e => (hnt _ ((hA _).2 (Or.inr (Or.inl ⟨a, ha, rfl⟩)))).2 e), HG.out.at gg kD.out (fun q e h => (hnt _ ((hA _).2 (Or.inr (Or.inr h)))).2 e)⟩, fun a ha => ⟨(new a ha).1, (new a ha).2.2⟩, fun k hk => ⟨gl.2 k hk, ?_⟩, ?_⟩
      · have := hlow k ((hA _).2 (Or.inr (Or.inr hk))); simpa using this
      · refine ⟨hkp.os.trans B1.out.os, hkp.tape.trans B1.out.tape, hkp.output.trans B1.out.output, by simp; have := hkp.size; omega, fun q h1 h2 => ?_⟩
        rw [World.putObj_heap_other (by omega), hkp.block q (by omega) (fun e => e.elim (fun e => by have := HVB.out; omega) h2)]
        exact B1.out.block q h1)
    have HK := Lib.hid hK
    clear hS v r gg hA new gl hlow hnt hkp hK
    go_wp2
    refine ⟨by simp, .inl ⟨_, _, rfl, run_takeDeferred HK.out, ?_⟩⟩
    refine ⟨_, results_tmp rfl _ _ _, Ar, c, xs, AG, by rw [hn]; rfl, FIN.out⟩
  case stop =>
    rintro D c pre A' V hD hSp hF
    exact hF.elim
theorem ornone_S (fn : Fn) (p q : Array Value) (w : World) : Calls Try.prog 47 #[.func fn p q] w fun e w' => e = .returned (.func fn p q) ∧ w' = w := by
  have en : ∀ W, (binOp .eql 40 (.func fn p q) .nilFunc).run Try.prog W = .ok (.bool false) W := by
    have h : ∃ a b c, Try.prog.underlying 40 = some (.func a b c) := ⟨_, _, _, Try.underlying40⟩
    obtain ⟨a, b, c, h⟩ := h
    exact ffn_nil _ a b c h fn p q
  go_enter Try.func47, Try.ntmps47
  go_wp2_with fail
  go_ret
  exact ⟨rfl, rfl⟩
theorem fcells_S : Cells1 37 9 := by
  obtain ⟨i, h1, h2, h3, h4⟩ := info_parts (P := Try.prog) (e := 9) (z := .string ⟨#[]⟩) (size := 1) (bytes := 16) (by kernel_rfl)
  exact ⟨Try.underlying37, i, _, h1, h2, h3, by rw [h4]; decide, rfl⟩
set_option maxHeartbeats 4000000 in
theorem list_S  {g : Nat} {lb : Array Value} {fx : ByteArray → Nat → Prop} {R : List ByteArray → ByteArray → World → Prop} {S Sp : List ByteArray → World → Prop} {It Mt : Nat → Prop} {w0 : World} (hseq : SeqF Try.prog g lb (fun x => #[Value.string x]) fx R S Sp It Mt w0) (w : World) (hw : Keep (fun k => ¬ It k) w0 w) (eg : ∀ args w, (callFunc g args).run Try.prog w = .ok (.enter g args) w)
    (G : List ByteArray → (Nat → Prop) → World → Prop) (hG : Stab G) (hG0 : ∀ W, G [] (fun _ => False) W) (hGs : ∀ pre x A W, G pre A W → R pre x W → (∀ k, fx x k → ¬ A k) → G (pre ++ [x]) (fun k => A k ∨ fx x k) W) (hn : ∀ pre x W, R pre x W → pre.length ≤ 100000) :
    Calls Try.prog 18 #[.func (.func g) #[] lb] w fun e w' => ∃ Ar c xs AG, e = .returned (.slice Ar xs.length c) ∧ S xs w' ∧ (RowA w' 9 Ar c (xs.map (fun x => Value.string x)) ∧ G xs AG w') ∧ (∀ a, Ar = some a → w.heap.size ≤ a.block ∧ ¬ AG a.block) ∧ (∀ k, AG k → w.heap.size ≤ k ∧ k < w'.heap.size) ∧ Keep Mt w w' := by
  have ON := Lib.hid (ornone_S (.func g) #[] lb)
  refine (callsIn_wide (n := 5)).1 ?_
  refine callsIn_of_wp_marks Try.func18 rfl trivial ?_ rfl
  simp only [Try.ntmps18, List.size_toArray, List.length_cons, List.length_nil, Nat.reduceAdd, Nat.reduceSub, Array.replicate_succ, Array.replicate_zero, List.push_toArray, List.append_toArray, List.nil_append, List.cons_append]
  refine wpIn_wide.2 ?_
  obtain ⟨W1, hW1⟩ : ∃ W1, W1 = w.alloc (.cells #[.slice none 0 0] 37) := ⟨_, rfl⟩
  obtain ⟨vb, hvb⟩ : ∃ vb, vb = w.heap.size := ⟨_, rfl⟩
  have V1 := Lib.hid (show Arr W1 vb 37 [.slice none 0 0] by rw [hW1, hvb]; exact Arr.new w _ [_])
  have B1 := Lib.hid (show Below w.heap.size w W1 by rw [hW1]; exact balloc w _)
  have K1 := Lib.hid ((hw.then (Keep.of_below (F := fun _ => False) B1.out)).more (fun q e => e.elim id False.elim))
  have HS := Lib.hid hseq; have HG := Lib.hid hG; have HG0 := Lib.hid hG0; have HGS := Lib.hid hGs; have HN := Lib.hid hn
  have hit : Hid (∀ k, It k → k < w.heap.size) := Lib.hid (fun k hk => Nat.lt_of_lt_of_le (hseq.low k hk) hw.size)
  clear hw hseq hG hG0 hGs hn
  go_upto_region 2 with fail
  rw [← hW1, ← hvb]
  have HVB := Lib.hid hvb
  have hvW : vb < W1.heap.size := Arr.lt V1.out
  clear hW1 hvb
  go_wp2_with fail
  refine (ON.out W1).mono ?_
  rintro e w2 ⟨rfl, rfl⟩
  go_wp2_with fail
  refine (wpIn_wide (n := 5)).1 ?_
  refine range_F (m := 5) (gf := g) (lb := lb) rfl eg HS.out K1.out (fun _ => rfl)
    (ListJ 37 9 (fun x => Value.string x) G w.heap.size vb) (fun _ _ _ _ => False) (fun k => k = vb) (ListJ.stab HG.out) (fun _ _ _ _ _ h _ => h) (fun k hk e => by have := hit.out k hk; have := HVB.out; omega) (fun k e => by subst e; exact hvW)
    ⟨none, 0, fun _ => False, V1.out, RowA.nil _ _, HG0.out _, fun k => ⟨fun e => Or.inl e, fun e => by rcases e with e | ⟨a, ha, _⟩ | e; exact e; cases ha; exact e.elim⟩, fun a ha => (by cases ha), id, fun _ h => h.elim⟩
    (fun pre x a' => a' = { tmps := #[.func (.func g) #[] lb, undef, .slice none 0 0, .pointer (some ⟨vb, 0, none⟩), Value.string x, .func (.func g) #[] lb, .func (.func g) #[] lb, Value.string x, undef, undef, undef, undef, undef], defers := [] })
    ?assign ?body ?done ?stop
  case assign =>
    intro l pre x V K hK
    have HK := Lib.hid hK
    clear hK
    gi_wp2
    exact HK.out _ rfl
  case body =>
    rintro l pre x a' A V hsz ⟨Ar, c, AG, v, r, gg, hA, new, gl⟩ hlow hR hfl hfx rfl
    have HV := Lib.hid v; have HR := Lib.hid r; have HGG := Lib.hid gg; have HA := Lib.hid hA; have HNW := Lib.hid new; have HGL := Lib.hid gl; have HLO := Lib.hid hlow; have HRR := Lib.hid hR; have HFL := Lib.hid hfl; have HFX := Lib.hid hfx
    have c0 : V.cell? ⟨vb, 0, none⟩ = some (.slice Ar pre.length c) := v.cell 0
    have z0 := v.frozen 0
    have hpl : pre.length ≤ 100000 := HN.out _ _ _ hR
    obtain ⟨n, hn⟩ : ∃ n, pre.length = n := ⟨_, rfl⟩
    rw [hn] at c0 HV hpl
    have HNN := Lib.hid hn
    clear v r gg hA new gl hlow hR hfl hfx hn
    obtain ⟨V1, hV1⟩ : ∃ V1, V1 = V.alloc (.cells #[Value.string x] 9) := ⟨_, rfl⟩
    have KV := Lib.hid (show Keep (fun _ => False) V V1 by rw [hV1]; exact Keep.alloc _ _)
    have R1 : Hid (RowA V1 9 Ar c (pre.map (fun x => Value.string x))) := Lib.hid (HR.out.keepF KV.out (fun a ha h => h))
    have SC : Hid (Src V1 (some ⟨V.heap.size, 0, none⟩) 1 [Value.string x]) := Lib.hid (by rw [hV1]; exact Src.one V 9 (Value.string x) (0, 0) 1)
    have sV : V1.heap.size = V.heap.size + 1 := by rw [hV1]; simp
    have HV1 := Lib.hid (HV.out.keepF KV.out (fun h => h))
    have HVV := Lib.hid hV1
    clear hV1
    have c1 : V1.cell? ⟨vb, 0, none⟩ = some (.slice Ar n c) := HV1.out.cell 0
    gi_wp2_with (gi_at_builtin; go_loud (rw [← HVV.out]; refine row_app_in fcells_S rfl _ _ rfl Ar n c (pre.map (fun x => Value.string x)) rfl R1.out (by rw [List.length_map]; exact HNN.out) _ 1 1 [Value.string x] rfl rfl SC.out (by intro u hu; obtain rfl : u = Value.string x := (by simpa using hu); rfl) (by omega) ?_))
    intro A2 c2 V2 r2 k2 hg2
    have hv2 : Arr V2 vb 37 [.slice Ar n c] := HV1.out.keepF k2 (fun h => by obtain ⟨a, ha, e⟩ := h; exact (HNW.out a ha).2.1 e.symm)
    have R2 := Lib.hid r2; have K2 := Lib.hid k2; have HG2 := Lib.hid hg2; have HV2 := Lib.hid hv2
    have c2' : V2.cell? ⟨vb, 0, none⟩ = some (.slice Ar n c) := hv2.cell 0
    have z2 := hv2.frozen 0
    clear r2 k2 hg2 hv2 c0 z0 c1
    gi_wp2
    have sz2 := K2.out.size
    have kk : Keep (fun k => A k ∨ fx x k) V (V2.setCell ⟨vb, 0, none⟩ (.slice A2 (n + 1) c2)) := by
      refine ((KV.out.then K2.out).then (Keep.set V2 vb 0 (.slice A2 (n + 1) c2))).more (fun q hq => ?_)
      rcases hq with (e | e) | rfl
      · exact e.elim
      · exact Or.inl ((HA.out q).2 (Or.inr (Or.inl e)))
      · exact Or.inl ((HA.out _).2 (Or.inl rfl))
    have newA : ∀ a, A2 = some a → (Of Ar a.block ∨ V1.heap.size ≤ a.block) := fun a ha => by
      rcases HG2.out with e | ⟨g', e, hg'⟩
      · exact Or.inl ⟨a, by rw [← e]; exact ha, rfl⟩
      · rw [e] at ha; injection ha with ha; subst ha; exact Or.inr (by rw [sV]; exact hg')
    have hvb2 : ∀ a, A2 = some a → a.block ≠ vb := fun a ha e => by
      rcases newA a ha with ⟨b, hb, h⟩ | h
      · exact (HNW.out b hb).2.1 (by rw [← h]; exact e)
      · have := HVB.out; omega
    refine ⟨fun k => k = vb ∨ Of A2 k ∨ AG k ∨ fx x k, ⟨kk, fun k hk => ?_, fun k hk => ?_⟩, A2, c2, fun k => AG k ∨ fx x k, ?_, ?_, ?_, fun k => Iff.rfl, fun a ha => ⟨?_, hvb2 a ha, ?_⟩, ⟨fun h => ?_, fun k h => ?_⟩⟩
    · have := kk.size
      rcases hk with rfl | ⟨a, ha, rfl⟩ | h | h
      · omega
      · rw [fset_size]; exact R2.out.lt a ha
      · have := HLO.out k ((HA.out k).2 (Or.inr (Or.inr h))); omega
      · have := HFL.out k h; omega
    · rcases hk with rfl | ⟨a, ha, rfl⟩ | h | h
      · exact Or.inl ((HA.out _).2 (Or.inl rfl))
      · rcases newA a ha with h | h
        · exact Or.inl ((HA.out _).2 (Or.inr (Or.inl h)))
        · exact Or.inr (Or.inr (by omega))
      · exact Or.inl ((HA.out _).2 (Or.inr (Or.inr h)))
      · exact Or.inr (Or.inl h)
    · have := HV2.out.set 0 (.slice A2 (n + 1) c2)
      rw [List.length_append, HNN.out]
      exact this
    · rw [List.map_append]
      exact R2.out.other (fun a ha e => hvb2 a ha e) _
    · have g1 := HGS.out pre x AG V HGG.out HRR.out (fun k h1 h2 => (HFX.out k h1).1 ((HA.out k).2 (Or.inr (Or.inr h2))))
      refine HG.out.at g1 ((KV.out.then K2.out).then (Keep.set V2 vb 0 (.slice A2 (n + 1) c2))) (fun q hq hq2 => ?_)
      rcases hq with (e | ⟨a, ha, rfl⟩) | rfl
      · exact e
      · rcases hq2 with h | h
        · exact (HNW.out a ha).2.2 h
        · exact (HFX.out _ h).1 ((HA.out _).2 (Or.inr (Or.inl ⟨a, ha, rfl⟩)))
      · rcases hq2 with h | h
        · exact HGL.out.1 h
        · exact (HFX.out _ h).1 ((HA.out _).2 (Or.inl rfl))
    · rcases newA a ha with ⟨b, hb, h⟩ | h
      · have := (HNW.out b hb).1; omega
      · have := HVB.out; omega
    · rintro (h | h)
      · rcases newA a ha with ⟨b, hb, e⟩ | e
        · exact (HNW.out b hb).2.2 (by rw [← e]; exact h)
        · have := HLO.out _ ((HA.out _).2 (Or.inr (Or.inr h))); omega
      · rcases newA a ha with e | e
        · exact (HFX.out _ h).1 ((HA.out _).2 (Or.inr (Or.inl e)))
        · have := HFL.out _ h; omega
    · rcases h with h | h
      · exact HGL.out.1 h
      · exact (HFX.out _ h).1 ((HA.out _).2 (Or.inl rfl))
    · rcases h with h | h
      · exact HGL.out.2 k h
      · have := (HFX.out k h).2; have := B1.out.size; omega
  case done =>
    rintro D xs A' V hD hS ⟨Ar, c, AG, v, r, gg, hA, new, gl⟩ hlow hnt hkp hK
    have hsz := B1.out.size
    obtain ⟨n, hn⟩ : ∃ n, xs.length = n := ⟨_, rfl⟩
    have c0 : V.cell? ⟨vb, 0, none⟩ = some (.slice Ar n c) := by rw [← hn]; exact v.cell 0
    have kD := Lib.hid (Keep.putObj V D (.deferred none))
    have hDV : D < V.heap.size := (Array.getElem?_eq_some_iff.1 hK).1
    have FIN : Hid (S xs (V.putObj D (.deferred none)) ∧ (RowA (V.putObj D (.deferred none)) 9 Ar c (xs.map (fun x => Value.string x)) ∧ G xs AG (V.putObj D (.deferred none))) ∧ (∀ a, Ar = some a → w.heap.size ≤ a.block ∧ ¬ AG a.block) ∧ (∀ k, AG k → w.heap.size ≤ k ∧ k < (V.putObj D (.deferred none)).heap.size) ∧ Keep Mt w (V.putObj D (.deferred none))) := Lib.hid (by
      refine ⟨HS.out.sstab _ _ _ _ hS kD.out (fun k e h => by subst e; have := hit.out _ h; omega), ⟨r.keepF kD.out (fun a ha e => (hnt _ ((hA _).2 (Or.inr (Or.inl ⟨a, ha, rfl⟩)))).2 e), HG.out.at gg kD.out (fun q e h => (hnt _ ((hA _).2 (Or.inr (Or.inr h)))).2 e)⟩, fun a ha => ⟨(new a ha).1, (new a ha).2.2⟩, fun k hk => ⟨gl.2 k hk, ?_⟩, ?_⟩
      · have := hlow k ((hA _).2 (Or.inr (Or.inr hk))); simpa using this
      · refine ⟨hkp.os.trans B1.out.os, hkp.tape.trans B1.out.tape, hkp.output.trans B1.out.output, by simp; have := hkp.size; omega, fun q h1 h2 => ?_⟩
        rw [World.putObj_heap_other (by omega), hkp.block q (by omega) (fun e => e.elim (fun e => by have := HVB.out; omega) h2)]
        exact B1.out.block q h1)
    have HK := Lib.hid hK
    clear hS v r gg hA new gl hlow hnt hkp hK
    go_wp2
    refine ⟨by simp, .inl ⟨_, _, rfl, run_takeDeferred HK.out, ?_⟩⟩
    refine ⟨_, results_tmp rfl _ _ _, Ar, c, xs, AG, by rw [hn]; rfl, FIN.out⟩
  case stop =>
    rintro D c pre A' V hD hSp hF
    exact hF.elim
theorem ornone_R (fn : Fn) (p q : Array Value) (w : World) : Calls Try.prog 41 #[.func fn p q] w fun e w' => e = .returned (.func fn p q) ∧ w' = w := by
  have en : ∀ W, (binOp .eql 26 (.func fn p q) .nilFunc).run Try.prog W = .ok (.bool false) W := by
    have h : ∃ a b c, Try.prog.underlying 26 = some (.func a b c) := ⟨_, _, _, Try.underlying26⟩
    obtain ⟨a, b, c, h⟩ := h
    exact ffn_nil _ a b c h fn p q
  go_enter Try.func41, Try.ntmps41
  go_wp2_with fail
  go_ret
  exact ⟨rfl, rfl⟩
theorem fcells_R : Cells1 22 24 := by
  obtain ⟨i, h1, h2, h3, h4⟩ := info_parts (P := Try.prog) (e := 24) (z := .slice none 0 0) (size := 1) (bytes := 24) (by kernel_rfl)
  exact ⟨Try.underlying22, i, _, h1, h2, h3, by rw [h4]; decide, rfl⟩
set_option maxHeartbeats 4000000 in
theorem list_R {α : Type} (sa : α → Option Addr) (sn sc : α → Nat) {g : Nat} {lb : Array Value} {fx : α → Nat → Prop} {R : List α → α → World → Prop} {S Sp : List α → World → Prop} {It Mt : Nat → Prop} {w0 : World} (hseq : SeqF Try.prog g lb (fun x => #[Value.slice (sa x) (sn x) (sc x)]) fx R S Sp It Mt w0) (w : World) (hw : Keep (fun k => ¬ It k) w0 w) (eg : ∀ args w, (callFunc g args).run Try.prog w = .ok (.enter g args) w)
    (G : List α → (Nat → Prop) → World → Prop) (hG : Stab G) (hG0 : ∀ W, G [] (fun _ => False) W) (hGs : ∀ pre x A W, G pre A W → R pre x W → (∀ k, fx x k → ¬ A k) → G (pre ++ [x]) (fun k => A k ∨ fx x k) W) (hn : ∀ pre x W, R pre x W → pre.length ≤ 100000) :
    Calls Try.prog 10 #[.func (.func g) #[] lb] w fun e w' => ∃ Ar c xs AG, e = .returned (.slice Ar xs.length c) ∧ S xs w' ∧ (RowA w' 24 Ar c (xs.map (fun x => Value.slice (sa x) (sn x) (sc x))) ∧ G xs AG w') ∧ (∀ a, Ar = some a → w.heap.size ≤ a.block ∧ ¬ AG a.block) ∧ (∀ k, AG k → w.heap.size ≤ k ∧ k < w'.heap.size) ∧ Keep Mt w w' := by
  have ON := Lib.hid (ornone_R (.func g) #[] lb)
  refine (callsIn_wide (n := 5)).1 ?_
  refine callsIn_of_wp_marks Try.func10 rfl trivial ?_ rfl
  simp only [Try.ntmps10, List.size_toArray, List.length_cons, List.length_nil, Nat.reduceAdd, Nat.reduceSub, Array.replicate_succ, Array.replicate_zero, List.push_toArray, List.append_toArray, List.nil_append, List.cons_append]
  refine wpIn_wide.2 ?_
  obtain ⟨W1, hW1⟩ : ∃ W1, W1 = w.alloc (.cells #[.slice none 0 0] 22) := ⟨_, rfl⟩
  obtain ⟨vb, hvb⟩ : ∃ vb, vb = w.heap.size := ⟨_, rfl⟩
  have V1 := Lib.hid (show Arr W1 vb 22 [.slice none 0 0] by rw [hW1, hvb]; exact Arr.new w _ [_])
  have B1 := Lib.hid (show Below w.heap.size w W1 by rw [hW1]; exact balloc w _)
  have K1 := Lib.hid ((hw.then (Keep.of_below (F := fun _ => False) B1.out)).more (fun q e => e.elim id False.elim))
  have HS := Lib.hid hseq; have HG := Lib.hid hG; have HG0 := Lib.hid hG0; have HGS := Lib.hid hGs; have HN := Lib.hid hn
  have hit : Hid (∀ k, It k → k < w.heap.size) := Lib.hid (fun k hk => Nat.lt_of_lt_of_le (hseq.low k hk) hw.size)
  clear hw hseq hG hG0 hGs hn
  go_upto_region 2 with fail
  rw [← hW1, ← hvb]
  have HVB := Lib.hid hvb
  have hvW : vb < W1.heap.size := Arr.lt V1.out
  clear hW1 hvb
  go_wp2_with fail
  refine (ON.out W1).mono ?_
  rintro e w2 ⟨rfl, rfl⟩
  go_wp2_with fail
  refine (wpIn_wide (n := 5)).1 ?_
  refine range_F (m := 5) (gf := g) (lb := lb) rfl eg HS.out K1.out (fun _ => rfl)
    (ListJ 22 24 (fun x => Value.slice (sa x) (sn x) (sc x)) G w.heap.size vb) (fun _ _ _ _ => False) (fun k => k = vb) (ListJ.stab HG.out) (fun _ _ _ _ _ h _ => h) (fun k hk e => by have := hit.out k hk; have := HVB.out; omega) (fun k e => by subst e; exact hvW)
    ⟨none, 0, fun _ => False, V1.out, RowA.nil _ _, HG0.out _, fun k => ⟨fun e => Or.inl e, fun e => by rcases e with e | ⟨a, ha, _⟩ | e; exact e; cases ha; exact e.elim⟩, fun a ha => (by cases ha), id, fun _ h => h.elim⟩
    (fun pre x a' => a' = { tmps := #[.func (.func g) #[] lb, undef, .slice none 0 0, .pointer (some ⟨vb, 0, none⟩), Value.slice (sa x) (sn x) (sc x), .func (.func g) #[] lb, .func (.func g) #[] lb, Value.slice (sa x) (sn x) (sc x), undef, undef, undef, undef, undef], defers := [] })
    ?assign ?body ?done ?stop
  case assign =>
    intro l pre x V K hK
    have HK := Lib.hid hK
    clear hK
    gi_wp2
    exact HK.out _ rfl
  case body =>
    rintro l pre x a' A V hsz ⟨Ar, c, AG, v, r, gg, hA, new, gl⟩ hlow hR hfl hfx rfl
    have HV := Lib.hid v; have HR := Lib.hid r; have HGG := Lib.hid gg; have HA := Lib.hid hA; have HNW := Lib.hid new; have HGL := Lib.hid gl; have HLO := Lib.hid hlow; have HRR := Lib.hid hR; have HFL := Lib.hid hfl; have HFX := Lib.hid hfx
    have c0 : V.cell? ⟨vb, 0, none⟩ = some (.slice Ar pre.length c) := v.cell 0
    have z0 := v.frozen 0
    have hpl : pre.length ≤ 100000 := HN.out _ _ _ hR
    obtain ⟨n, hn⟩ : ∃ n, pre.length = n := ⟨_, rfl⟩
    rw [hn] at c0 HV hpl
    have HNN := Lib.hid hn
    clear v r gg hA new gl hlow hR hfl hfx hn
    obtain ⟨V1, hV1⟩ : ∃ V1, V1 = V.alloc (.cells #[Value.slice (sa x) (sn x) (sc x)] 24) := ⟨_, rfl⟩
    have KV := Lib.hid (show Keep (fun _ => False) V V1 by rw [hV1]; exact Keep.alloc _ _)
    have R1 : Hid (RowA V1 24 Ar c (pre.map (fun x => Value.slice (sa x) (sn x) (sc x)))) := Lib.hid (HR.out.keepF KV.out (fun a ha h => h))
    have SC : Hid (Src V1 (some ⟨V.heap.size, 0, none⟩) 1 [Value.slice (sa x) (sn x) (sc x)]) := Lib.hid (by rw [hV1]; exact Src.one V 24 (Value.slice (sa x) (sn x) (sc x)) (0, 0) 1)
    have sV : V1.heap.size = V.heap.size + 1 := by rw [hV1]; simp
    have HV1 := Lib.hid (HV.out.keepF KV.out (fun h => h))
    have HVV := Lib.hid hV1
    clear hV1
    have c1 : V1.cell? ⟨vb, 0, none⟩ = some (.slice Ar n c) := HV1.out.cell 0
    gi_wp2_with (gi_at_builtin; go_loud (rw [← HVV.out]; refine row_app_in fcells_R rfl _ _ rfl Ar n c (pre.map (fun x => Value.slice (sa x) (sn x) (sc x))) rfl R1.out (by rw [List.length_map]; exact HNN.out) _ 1 1 [Value.slice (sa x) (sn x) (sc x)] rfl rfl SC.out (by intro u hu; obtain rfl : u = Value.slice (sa x) (sn x) (sc x) := (by simpa using hu); rfl) (by omega) ?_))
    intro A2 c2 V2 r2 k2 hg2
    have hv2 : Arr V2 vb 22 [.slice Ar n c] := HV1.out.keepF k2 (fun h => by obtain ⟨a, ha, e⟩ := h; exact (HNW.out a ha).2.1 e.symm)
    have R2 := Lib.hid r2; have K2 := Lib.hid k2; have HG2 := Lib.hid hg2; have HV2 := Lib.hid hv2
    have c2' : V2.cell? ⟨vb, 0, none⟩ = some (.slice Ar n c) := hv2.cell 0
    have z2 := hv2.frozen 0
    clear r2 k2 hg2 hv2 c0 z0 c1
    gi_wp2
    have sz2 := K2.out.size
    have kk : Keep (fun k => A k ∨ fx x k) V (V2.setCell ⟨vb, 0, none⟩ (.slice A2 (n + 1) c2)) := by
      refine ((KV.out.then K2.out).then (Keep.set V2 vb 0 (.slice A2 (n + 1) c2))).more (fun q hq => ?_)
      rcases hq with (e | e) | rfl
      · exact e.elim
      · exact Or.inl ((HA.out q).2 (Or.inr (Or.inl e)))
      · exact Or.inl ((HA.out _).2 (Or.inl rfl))
    have newA : ∀ a, A2 = some a → (Of Ar a.block ∨ V1.heap.size ≤ a.block) := fun a ha => by
      rcases HG2.out with e | ⟨g', e, hg'⟩
      · exact Or.inl ⟨a, by rw [← e]; exact ha, rfl⟩
      · rw [e] at ha; injection ha with ha; subst ha; exact Or.inr (by rw [sV]; exact hg')
    have hvb2 : ∀ a, A2 = some a → a.block ≠ vb := fun a ha e => by
      rcases newA a ha with ⟨b, hb, h⟩ | h
      · exact (HNW.out b hb).2.1 (by rw [← h]; exact e)
      · have := HVB.out; omega
    refine ⟨fun k => k = vb ∨ Of A2 k ∨ AG k ∨ fx x k, ⟨kk, fun k hk => ?_, fun k hk => ?_⟩, A2, c2, fun k => AG k ∨ fx x k, ?_, ?_, ?_, fun k => Iff.rfl, fun a ha => ⟨?_, hvb2 a ha, ?_⟩, ⟨fun h => ?_, fun k h => ?_⟩⟩
    · have := kk.size
      rcases hk with rfl | ⟨a, ha, rfl⟩ | h | h
      · omega
      · rw [fset_size]; exact R2.out.lt a ha
      · have := HLO.out k ((HA.out k).2 (Or.inr (Or.inr h))); omega
      · have := HFL.out k h; omega
    · rcases hk with rfl | ⟨a, ha, rfl⟩ | h | h
      · exact Or.inl ((HA.out _).2 (Or.inl rfl))
      · rcases newA a ha with h | h
        · exact Or.inl ((HA.out _).2 (Or.inr (Or.inl h)))
        · exact Or.inr (Or.inr (by omega))
      · exact Or.inl ((HA.out _).2 (Or.inr (Or.inr h)))
      · exact Or.inr (Or.inl h)
    · have := HV2.out.set 0 (.slice A2 (n + 1) c2)
      rw [List.length_append, HNN.out]
      exact this
    · rw [List.map_append]
      exact R2.out.other (fun a ha e => hvb2 a ha e) _
    · have g1 := HGS.out pre x AG V HGG.out HRR.out (fun k h1 h2 => (HFX.out k h1).1 ((HA.out k).2 (Or.inr (Or.inr h2))))
      refine HG.out.at g1 ((KV.out.then K2.out).then (Keep.set V2 vb 0 (.slice A2 (n + 1) c2))) (fun q hq hq2 => ?_)
      rcases hq with (e | ⟨a, ha, rfl⟩) | rfl
      · exact e
      · rcases hq2 with h | h
        · exact (HNW.out a ha).2.2 h
        · exact (HFX.out _ h).1 ((HA.out _).2 (Or.inr (Or.inl ⟨a, ha, rfl⟩)))
      · rcases hq2 with h | h
        · exact HGL.out.1 h
        · exact (HFX.out _ h).1 ((HA.out _).2 (Or.inl rfl))
    · rcases newA a ha with ⟨b, hb, h⟩ | h
      · have := (HNW.out b hb).1; omega
      · have := HVB.out; omega
    · rintro (h | h)
      · rcases newA a ha with ⟨b, hb, e⟩ | e
        · exact (HNW.out b hb).2.2 (by rw [← e]; exact h)
        · have := HLO.out _ ((HA.out _).2 (Or.inr (Or.inr h))); omega
      · rcases newA a ha with e | e
        · exact (HFX.out _ h).1 ((HA.out _).2 (Or.inr (Or.inl e)))
        · have := HFL.out _ h; omega
    · rcases h with h | h
      · exact HGL.out.1 h
      · exact (HFX.out _ h).1 ((HA.out _).2 (Or.inl rfl))
    · rcases h with h | h
      · exact HGL.out.2 k h
      · have := (HFX.out k h).2; have := B1.out.size; omega
  case done =>
    rintro D xs A' V hD hS ⟨Ar, c, AG, v, r, gg, hA, new, gl⟩ hlow hnt hkp hK
    have hsz := B1.out.size
    obtain ⟨n, hn⟩ : ∃ n, xs.length = n := ⟨_, rfl⟩
    have c0 : V.cell? ⟨vb, 0, none⟩ = some (.slice Ar n c) := by rw [← hn]; exact v.cell 0
    have kD := Lib.hid (Keep.putObj V D (.deferred none))
    have hDV : D < V.heap.size := (Array.getElem?_eq_some_iff.1 hK).1
    have FIN : Hid (S xs (V.putObj D (.deferred none)) ∧ (RowA (V.putObj D (.deferred none)) 24 Ar c (xs.map (fun x => Value.slice (sa x) (sn x) (sc x))) ∧ G xs AG (V.putObj D (.deferred none))) ∧ (∀ a, Ar = some a → w.heap.size ≤ a.block ∧ ¬ AG a.block) ∧ (∀ k, AG k → w.heap.size ≤ k ∧ k < (V.putObj D (.deferred none)).heap.size) ∧ Keep Mt w (V.putObj D (.deferred none))) := Lib.hid (by
      refine ⟨HS.out.sstab _ _ _ _ hS kD.out (fun k e h => by subst e; have := hit.out _ h; omega), ⟨r.keepF kD.out (fun a ha e => (hnt _ ((hA _).2 (Or.inr (Or.inl ⟨a, ha, rfl⟩)))).2 e), HG.out.at gg kD.out (fun q e h => (hnt _ ((hA _).2 (Or.inr (Or.inr h)))).2 e)⟩, fun a ha => ⟨(new a ha).1, (new a ha).2.2⟩, fun k hk => ⟨gl.2 k hk, ?_⟩, ?_⟩
      · have := hlow k ((hA _).2 (Or.inr (Or.inr hk))); simpa using this
      · refine ⟨hkp.os.trans B1.out.os, hkp.tape.trans B1.out.tape, hkp.output.trans B1.out.output, by simp; have := hkp.size; omega, fun q h1 h2 => ?_⟩
        rw [World.putObj_heap_other (by omega), hkp.block q (by omega) (fun e => e.elim (fun e => by have := HVB.out; omega) h2)]
        exact B1.out.block q h1)
    have HK := Lib.hid hK
    clear hS v r gg hA new gl hlow hnt hkp hK
    go_wp2
    refine ⟨by simp, .inl ⟨_, _, rfl, run_takeDeferred HK.out, ?_⟩⟩
    refine ⟨_, results_tmp rfl _ _ _, Ar, c, xs, AG, by rw [hn]; rfl, FIN.out⟩
  case stop =>
    rintro D c pre A' V hD hSp hF
    exact hF.elim
end Go.Proofs.Ytjjkddahfmkhoaa
