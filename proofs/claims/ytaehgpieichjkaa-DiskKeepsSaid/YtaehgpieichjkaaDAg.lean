/-
  The program's disk: Write.
-/
import Derived.Test.YtaehgpieichjkaaDAf
import Derived.Deep.RegionLaw
namespace Go.Proofs.Ytaehgpieichjkaa
set_option linter.unusedVariables false
set_option linter.unusedSimpArgs false
open Go.RowKit

set_option maxRecDepth 100000 in
set_option maxHeartbeats 2000000 in
theorem refuse_any (F : Nat → Prop) (b : Nat) (s : Dk) (g cb : Nat) (A : Option Addr) (c : Nat) (i : Int) (n cn : Nat) (B : Option Addr) (w : World) (h : Lay w F b s g cb A c) (h0 : -9223372036854775808 ≤ i) (h1 : i ≤ 9223372036854775807) (hn : n ≤ maxLen) (hi : i < 0 ∨ s.blk.length ≤ i ∨ n ≠ 128) :
    Calls Try.prog 10 #[.pointer (some ⟨b, 0, none⟩), .int .i64 i, .slice B n cn] w fun e w' => e = .returned (.int .i64 1) ∧ w' = w := by
  unfold maxLen at hn
  have c0 : w.cell? ⟨b, 0, none⟩ = some (.slice (some ⟨g, 0, none⟩) s.blk.length cb) := h.st.cell 0
  have HS := Lib.hid (has_any w b s.blk.length _ cb i c0 h.ok.n2 h0 h1)
  have n2 := h.ok.n2
  clear h
  generalize s.blk.length = m at *
  go_enter Try.func10, Try.ntmps10
  go_wp2_with fail
  refine HS.out.mono ?_
  rintro e w1 ⟨rfl, rfl⟩
  by_cases t0 : 0 ≤ i ∧ i < (m : Int)
  · have d0 : decide (0 ≤ i ∧ i < (m : Int)) = true := by simpa using t0
    rw [d0]
    have d1 : ((n : Int) != 128) = true := by simp; omega
    go_wp2
    go_ret
    exact ⟨rfl, rfl⟩
  · have d0 : decide (0 ≤ i ∧ i < (m : Int)) = false := by simpa using t0
    rw [d0]
    go_wp2
    go_ret
    exact ⟨rfl, rfl⟩

theorem array_at (a : Addr) (cn : Nat) (w : World) : (Instr.arrayAt 63 (.slice (some a) 128 cn)).run Try.prog w = .ok (.pointer (some a)) w := by
  simp [Instr.arrayAt, run_underlying Try.underlying63]
theorem Try.info_write : (Try.prog.info? 65).map (fun i => (i.zero, i.size, i.bytes)) = some (some (.agg (Value.int .i64 0 :: vals (zeros 128)).toArray), 129, 136) := by kernel_rfl
theorem zero_write_run' : ∃ Z : Array Value, (∀ w, (zeroValue 65).run Try.prog w = .ok (.agg Z) w) ∧ Z.size = 129 ∧ (¬ Z = #[]) ∧ (∃ j0, Try.prog.info? 65 = some j0 ∧ j0.zero = some (.agg Z) ∧ j0.size = 129 ∧ j0.bytes = 136) ∧ ∀ (x : Int) (D : List Value), D.length = 128 → List.foldl (fun (cs : Array Value) (y : Value × Nat) => cs.setIfInBounds (1 + y.2) y.1) (Z.setIfInBounds 0 (.int .i64 x)) D.zipIdx = (Value.int .i64 x :: D).toArray := by
  obtain ⟨j0, h1, h2, h3, h4⟩ := info_parts Try.info_write
  exact ⟨_, (zero_of_info Try.zero_write').1, by simp [vals_length, zeros_length], by simp, ⟨j0, h1, h2, h3, h4⟩, fun x D hD => by
    rw [fill_fold1, Array.toList_setIfInBounds, List.toList_toArray]
    have e := putAll_mid D [Value.int .i64 x] (vals (zeros 128)) [] (by rw [hD, vals_length, zeros_length])
    rw [List.append_nil, List.append_nil] at e
    exact congrArg List.toArray e⟩
theorem fold_whole (V : List Value) (n : Nat) (hV : V.length = n) (Y : Array Value) (h : Y.size = n) : List.foldl (fun (cs : Array Value) (x : Value × Nat) => cs.setIfInBounds x.2 x.1) Y V.zipIdx = V.toArray := by
  rw [fill_fold, putAll_whole _ _ (by rw [hV, Array.length_toList, h])]
/-- A load of a whole block, by its own name. -/
def loadArr (p : Value) : Sem Value := Instr.loadAt 63 p
theorem loadArr_eq (p : Value) : Instr.loadAt 63 p = loadArr p := rfl
attribute [local go_sem ↓] loadArr_eq
theorem RowN.alloc {w : World} {base : Nat} {e : TypeId} {z : Nat} {A : Option Addr} {n c : Nat} {xs : List Value} (h : RowN w base e z A n c xs) (o : Obj) : RowN (w.alloc o) base e z A n c xs := h.same (fun a ha => Below.heap_alloc _ _ _ (h.lt a ha).2)
theorem Keep.grownF {F : Nat → Prop} {w w' w'' : World} {row : Option Nat} (h : Keep F w w') (hg : w'.grownBy w'' row) (hr : ∀ k, row = some k → F k) : Keep F w w'' :=
  ⟨hg.os.trans h.os, hg.tape.trans h.tape, hg.output.trans h.output, Nat.le_trans h.size hg.size, fun k hk hn => by
    rw [hg.block k (by have := h.size; omega) (fun e => hn (hr k e.symm)), h.block k hk hn]⟩
theorem own_block {A : Option Addr} {q c k : Nat} (e : (Value.slice A q c).ownBlock = some k) : ∃ a, A = some a ∧ a.block = k := by
  cases A with
  | none => cases e
  | some a =>
    have e : some a.block = some k := e
    injection e with e
    exact ⟨a, rfl, e⟩
/-- One write more waits. -/
theorem Lay.more {w w2 : World} {F : Nat → Prop} {b : Nat} {s : Dk} {g cb : Nat} {A : Option Addr} {c gn cn : Nat} (h : Lay w F b s g cb A c) (i : Nat) (xs : List Int) (o : Obj) (ok : Dk.Ok { s with wt := s.wt ++ [(i, xs)], wrote := s.wrote + 1 })
    (hown : RowN w2 0 65 129 (some ⟨gn, 0, none⟩) (s.wt.length + 1) cn ((wl s.wt).flatten ++ wrow (i, xs))) (hgrow : (w.alloc o).drew.grownBy w2 (Value.slice A s.wt.length c).ownBlock) (hat : (Value.slice A s.wt.length c).ownBlock = some gn ∨ gn = w.heap.size + 1) (hlt : gn < w2.heap.size) :
    Step F b { s with wt := s.wt ++ [(i, xs)], wrote := s.wrote + 1 } w ((w2.setCell ⟨b, 1, none⟩ (.slice (some ⟨gn, 0, none⟩) (s.wt.length + 1) cn)).setCell ⟨b, 4, none⟩ (.int .i64 ((s.wrote : Int) + 1))) := by
  have hs : w.heap.size + 1 ≤ w2.heap.size := by have := hgrow.size; simpa using this
  have st2 : Arr w2 b 61 (dkCells s g cb A c) := (h.st.alloc o).grown (w := (w.alloc o).drew) hgrow (fun e => by obtain ⟨a, e1, e2⟩ := own_block e; exact h.bA a e1 e2)
  have rb2 : RowN w2 0 68 129 (some ⟨g, 0, none⟩) s.blk.length cb (bl s).flatten := (h.rb.alloc o).same (fun a ha => by
    injection ha with ha
    subst ha
    exact grown_heap hgrow (by have h9 : g < w.heap.size := (h.rb.lt _ rfl).2; simp; omega) (fun e => by obtain ⟨a, e1, e2⟩ := own_block e; exact h.gA a e1 e2))
  have nb : gn ≠ b := hown.ne st2 (by decide) _ rfl
  have k2 : Keep F w w2 := ((Keep.refl F w).alloc o).drew.grownF hgrow (fun k e => by obtain ⟨a, e1, e2⟩ := own_block e; rw [← e2]; exact h.fA a e1)
  refine ⟨fun k => F k ∨ k = gn, ⟨g, cb, some ⟨gn, 0, none⟩, cn, ?_⟩, (k2.setCell (a := ⟨b, 1, none⟩) h.fb _).setCell (a := ⟨b, 4, none⟩) h.fb _, fun k hk => ?_⟩
  · refine ⟨ok, ?_, ?_, ?_, Or.inl h.fb, Or.inl h.fg, fun a ha => ?_, fun k hk => ?_⟩
    · have := (st2.set 1 (.slice (some ⟨gn, 0, none⟩) (s.wt.length + 1) cn)).set 4 (.int .i64 ((s.wrote : Int) + 1))
      have e : dkCells { s with wt := s.wt ++ [(i, xs)], wrote := s.wrote + 1 } g cb (some ⟨gn, 0, none⟩) cn = ((dkCells s g cb A c).set 1 (.slice (some ⟨gn, 0, none⟩) (s.wt.length + 1) cn)).set 4 (.int .i64 ((s.wrote : Int) + 1)) := by
        unfold dkCells
        simp only [List.length_append, List.length_cons, List.length_nil, List.set, Int.natCast_add]
        rfl
      rw [e]
      exact this
    · exact (rb2.other (fun a ha => by injection ha with ha; subst ha; exact h.bg) _).other (fun a ha => by injection ha with ha; subst ha; exact h.bg) _
    · have e : (wl (s.wt ++ [(i, xs)])).flatten = (wl s.wt).flatten ++ wrow (i, xs) := by unfold wl; rw [List.map_append, List.flatten_append]; simp
      show RowN _ _ _ _ _ (s.wt ++ [(i, xs)]).length _ (wl (s.wt ++ [(i, xs)])).flatten
      rw [e, List.length_append]
      exact (hown.other (fun a ha => by injection ha with ha; subst ha; exact nb) _).other (fun a ha => by injection ha with ha; subst ha; exact nb) _
    · injection ha with ha; subst ha; exact Or.inr rfl
    · rw [setCell_size, setCell_size]
      rcases hk with hk | hk
      · have := h.lt k hk; omega
      · rw [hk]; exact hlt
  · rcases hk with hk | hk
    · exact Or.inl hk
    · subst hk
      rcases hat with e | e
      · obtain ⟨a, e1, e2⟩ := own_block e
        exact Or.inl (by rw [← e2]; exact h.fA a e1)
      · exact Or.inr (by omega)
set_option maxRecDepth 100000 in
set_option maxHeartbeats 4000000 in
theorem write_any (F : Nat → Prop) (b : Nat) (s : Dk) (g cb : Nat) (A : Option Addr) (c : Nat) (i cn N : Nat) (B : Option Addr) (xs : List Int) (w : World) (h : Lay w F b s g cb A c) (hi : i < s.blk.length) (hx : IsBlk xs) (hr : RdB w N B xs) (hN : N ≤ w.heap.size) (hA : ∀ a, B = some a → ¬ F a.block) (hw : s.wt.length ≤ 1000000) (hv : s.wrote ≤ 1000000000000) :
    Calls Try.prog 10 #[.pointer (some ⟨b, 0, none⟩), .int .i64 i, .slice B 128 cn] w fun e w' => e = .returned (.int .i64 s.says) ∧ Step F b (s.write i xs) w w' := by
  have c0 : w.cell? ⟨b, 0, none⟩ = some (.slice (some ⟨g, 0, none⟩) s.blk.length cb) := h.st.cell 0
  have HS := Lib.hid (has_any w b s.blk.length _ cb (i : Int) c0 h.ok.n2 (by omega) (by have := h.ok.n2; omega))
  have d0 : decide (0 ≤ (i : Int) ∧ (i : Int) < (s.blk.length : Int)) = true := by rw [decide_eq_true_eq]; omega
  rw [d0] at HS
  have rg := goes_any F b s g cb A c w h
  have H := Lib.hid h; have HX := Lib.hid hx; have HRD := Lib.hid hr; have RG := Lib.hid rg; have HA := Lib.hid hA; have HI := Lib.hid hi
  clear h hx hr rg hA d0 c0
  have n2 := H.out.ok.n2
  go_enter Try.func10, Try.ntmps10
  go_wp2_with fail
  refine HS.out.mono ?_
  rintro e w0 ⟨rfl, rfl⟩
  go_wp2_with fail
  refine RG.out.mono ?_
  rintro e w1 ⟨rfl, h1, k1⟩
  have H1 := Lib.hid h1; have K1 := Lib.hid k1
  clear h1 k1
  cases hg : s.goes
  · have HG := Lib.hid hg
    have E1 : Hid (s.asked = s.write i xs) := Lib.hid (by rw [Dk.asked_no HG.out]; unfold Dk.write; rw [if_neg (by rw [HG.out]; decide)])
    have E2 : Hid (s.says = 7) := Lib.hid (by unfold Dk.says; rw [if_neg (by rw [HG.out]; decide)])
    clear hg
    go_wp2
    go_ret
    refine ⟨by rw [E2.out]; rfl, F, ⟨g, cb, A, c, ?_⟩, K1.out, Sub.refl _ _⟩
    have := H1.out
    rw [E1.out] at this
    exact this
  · have HG := Lib.hid hg
    have E2 : Hid (s.says = 0) := Lib.hid (by unfold Dk.says; rw [if_pos HG.out])
    have E3 : Hid (s.write i xs = { s.burn with wt := s.wt ++ [(i, xs)], wrote := s.wrote + 1 }) := Lib.hid (by unfold Dk.write; rw [if_pos HG.out])
    have H2 : Hid (Lay w1 F b s.burn g cb A c) := Lib.hid (by have := H1.out; rw [Dk.asked_yes HG.out] at this; exact this)
    clear hg H1
    have rb := K1.out.rdF HRD.out hN HA.out
    have b9 : ∃ b9 o9, B = some ⟨b9, o9, none⟩ ∧ w1.rangeAt b9 o9 (vals xs) := by
      obtain ⟨b9, o9, e, _⟩ := rb 0 (by rw [HX.out.1]; decide)
      refine ⟨b9, o9, e, fun j v hv => ?_⟩
      subst e
      have := rb.news j v hv
      rw [Addr.add_mid] at this
      exact this
    obtain ⟨b9, o9, rfl, hr9⟩ := b9
    clear rb
    have c1 : w1.cell? ⟨b, 1, none⟩ = some (.slice A s.wt.length c) := H2.out.st.cell 1
    have z1 := H2.out.st.frozen 1
    have hbl := H2.out.st.lt
    have hu := Try.underlying63
    have hl : (vals xs).length = 128 := by rw [vals_length]; exact HX.out.1
    have hi' : (Try.prog.info? 63).map (·.size) = some (vals xs).length := by rw [hl]; exact Try.size_arr
    obtain ⟨D, hD⟩ : ∃ D, vals xs = D := ⟨_, rfl⟩
    have HD := Lib.hid hD
    rw [hD] at hl hi' hr9
    clear hD
    generalize hmm : s.wt.length = q at *
    have HQ := Lib.hid hmm
    clear hmm
    have aa := fun w' => array_at ⟨b9, o9, none⟩ cn w'
    obtain ⟨Z, hz, hzs, hzn, ⟨j0, hj0, hz0, hz1, hz2⟩, hzf⟩ := zero_write_run'
    have hzf1 := hzf (i : Int) D hl
    clear hzf
    have VL : Hid ((Value.int .i64 (i : Int) :: D).length = 129) := Lib.hid (by simp [hl])
    have VO : Hid (∀ u, u ∈ (Value.int .i64 (i : Int) :: D) → u.oneCell' = true) := Lib.hid (fun u hu => by
      rcases List.mem_cons.1 hu with rfl | hu
      · rfl
      · rw [← HD.out] at hu; exact vals_one _ u hu)
    have VW : Hid (Value.int .i64 (i : Int) :: D = wrow (i, xs)) := Lib.hid (by unfold wrow; rw [HD.out])
    generalize (Value.int .i64 (i : Int) :: D) = V at *
    have hvl := VL.out
    have hfv := fun Y hY => fold_whole V 129 VL.out Y hY
    have ld : (loadArr (.pointer (some ⟨b9, o9, none⟩))).run Try.prog w1.drew = .ok (.agg D.toArray) w1.drew := run_loadAt_mid (P := Try.prog) w1.drew b9 o9 63 D _ (by simpa using hr9) hu rfl hi'
    have OW : Hid ((w1.alloc (.cells V.toArray 65)).drew.ownsRow 0 65 129 (.slice A q c) q (wl s.wt).flatten) := Lib.hid (by
      have := H2.out.rw'.alloc (.cells V.toArray 65)
      have e : s.burn.wt = s.wt := rfl
      rw [e, HQ.out] at this
      exact this)
    have NB : Hid ((w1.alloc (.cells V.toArray 65)).drew.heap[w1.heap.size]? = some (.cells V.toArray 65 (0, 0))) := Lib.hid (heap_alloc_new w1 _)
    have y1 : (w1.alloc (.cells V.toArray 65)).drew.cell? ⟨b, 1, none⟩ = some (.slice A q c) := (World.cell?_alloc_lt _ _ _ hbl).trans c1
    have z1' : (w1.alloc (.cells V.toArray 65)).drew.frozen? ⟨b, 1, none⟩ = false := (H2.out.st.alloc _).frozen 1
    have Y1 := Lib.hid y1; have Z1 := Lib.hid z1'
    have NE : Hid (some b ≠ (Value.slice A q c).ownBlock) := Lib.hid (fun e => by obtain ⟨a, e1, e2⟩ := own_block e.symm; exact H2.out.bA a e1 e2)
    clear y1 z1'
    go_wp2_with fail
    go_region_law ((refine step_append_lies _ (by rfl) _ _ _ (by rfl) 0 65 j0 _ 129 136 Try.underlying59 hj0 hz0 hz1 hz2 hzs (by decide) (.slice A q c) q (wl s.wt).flatten (by rfl) OW.out ⟨w1.heap.size, 0, none⟩ 1 1 V (by rfl) VL.out (World.news_of_block (cs := V.toArray) (t := 65) (fr := (0, 0)) NB.out) VO.out (by decide) (by unfold maxLen; omega) (by omega) (by simp) (w1.heap.size + 1) (by simp) ?_; intro gn cn' w2 hown1 hgrow hat hlt'; have fz1 : w2.frozen? ⟨b, 1, none⟩ = false := (hgrow.frozen_far _ (by simp; omega) NE.out).trans Z1.out; have yz1 : w2.cell? ⟨b, 1, none⟩ = some (.slice A q c) := (hgrow.cell_far _ (by simp; omega) NE.out).trans Y1.out))
    all_goals
      have st3 : Arr w2 b 61 (dkCells s.burn g cb A c) := (H2.out.st.alloc _).grown (w := (w1.alloc (.cells V.toArray 65)).drew) hgrow (fun e => NE.out e.symm)
      have y4 : w2.cell? ⟨b, 4, none⟩ = some (.int .i64 (s.wrote : Int)) := st3.cell 4
      have z4 := st3.frozen 4
      have MR : Hid (Step F b { s.burn with wt := s.wt ++ [(i, xs)], wrote := s.wrote + 1 } w1 ((w2.setCell ⟨b, 1, none⟩ (.slice (some ⟨gn, 0, none⟩) (q + 1) cn')).setCell ⟨b, 4, none⟩ (.int .i64 ((s.wrote : Int) + 1)))) := Lib.hid (by
        have OKW := H.out.ok.write i xs HI.out HX.out
        rw [E3.out] at OKW
        rw [VW.out] at hown1
        have := H2.out.more (gn := gn) (cn := cn') (w2 := w2) i xs (.cells V.toArray 65) OKW (by have e : s.burn.wt = s.wt := rfl; rw [e, HQ.out]; exact hown1) (by have e : s.burn.wt = s.wt := rfl; rw [e, HQ.out]; exact hgrow) (by have e : s.burn.wt = s.wt := rfl; rw [e, HQ.out]; exact hat) hlt'
        have e : s.burn.wt = s.wt := rfl
        rw [e, HQ.out] at this
        exact this)
      clear st3 hown1 hgrow hat fz1 yz1
      generalize hwr : s.wrote = wr at *
      go_wp2
      go_ret
      refine ⟨by rw [E2.out]; rfl, ?_⟩
      rw [E3.out]
      exact Step.on K1.out (Sub.refl _ _) MR.out
end Go.Proofs.Ytaehgpieichjkaa
