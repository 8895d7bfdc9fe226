/-
  The document's own disk: Burst.
  The program's disk: Burst.
  The program's disk: Write.
  The program's disk: New.
-/
import Derived.Test.YtilmicekpclmbaaZg
import Derived.Test.YtilmicekpclmbaaZh
import Derived.Deep.RegionLaw
namespace Go.Proofs.Ytilmicekpclmbaa
set_option linter.unusedVariables false
set_option linter.unusedSimpArgs false
open Go.RowKit

def burstN (b : List Int) (a : Nat) (x : B32) : Nat → List Int
  | 0 => b
  | j + 1 => (burstN b a x j).set (a + j) (xorB (b.getD (a + j) 0) (byteOf x j))
theorem burstN_four (b : List Int) (a : Nat) (x : B32) : burstN b a x 4 = burstB b a x := rfl
theorem burstN_length (b : List Int) (a : Nat) (x : B32) : ∀ j, (burstN b a x j).length = b.length
  | 0 => rfl
  | j + 1 => by unfold burstN; rw [List.length_set]; exact burstN_length b a x j
theorem burstN_at (b : List Int) (a : Nat) (x : B32) (i : Nat) (hi : i < b.length) : ∀ j, a + j ≤ i → (burstN b a x j).getD i 0 = b.getD i 0
  | 0, _ => rfl
  | j + 1, h => by
    unfold burstN
    rw [getD_setL _ _ _ _ _ (by rw [burstN_length]; exact hi), if_neg (by omega)]
    exact burstN_at b a x i hi j (by omega)

end Go.Proofs.Ytilmicekpclmbaa
namespace Go.Proofs.Ytilmicekpclmbaa
set_option linter.unusedVariables false
set_option linter.unusedSimpArgs false
open Go.RowKit

theorem IsBlk.burstN {ys : List Int} (h : IsBlk ys) (a : Nat) (x : B32) : ∀ j, IsBlk (burstN ys a x j)
  | 0 => h
  | j + 1 => (IsBlk.burstN h a x j).set (a + j) _ (xorB_U8 _ _)
/-- A byte of a block is written anew. -/
theorem Lay.byte {w : World} {F : Nat → Prop} {b : Nat} {s : Dk} {g cb : Nat} {A : Option Addr} {c : Nat} (h : Lay w F b s g cb A c) (i k : Nat) (v : Int) (hi : i < s.blk.length) (hk : k < 128) (hv : U8 v) (ok : Dk.Ok { s with blk := s.blk.set i ((s.blk.getD i []).set k v) }) :
    Lay (w.setCell ⟨g, i * 129 + k, none⟩ (.int .u8 v)) F b { s with blk := s.blk.set i ((s.blk.getD i []).set k v) } g cb A c where
  ok := ok
  st := by
    have e : dkCells { s with blk := s.blk.set i ((s.blk.getD i []).set k v) } g cb A c = dkCells s g cb A c := by unfold dkCells; simp only [List.length_set]
    rw [e]
    exact h.st.same (Below.heap_setCell _ _ _ _ (fun e => h.bg e.symm))
  rb := by
    have h2 := h.rb.set (i * 129 + k) (.int .u8 v)
    rw [(bl_even h.ok).put i k _ (by rw [bl_len h.ok]; exact hi) (by omega), bl_getD h.ok i hi] at h2
    have e : (vals (s.blk.getD i []) ++ [Value.bool (s.bad.getD i false)]).set k (.int .u8 v) = vals ((s.blk.getD i []).set k v) ++ [Value.bool (s.bad.getD i false)] := by
      rw [List.set_append_left _ _ (by rw [vals_length, (h.ok.blks i hi).1]; exact hk), vals_set]
    rw [e, ← bl_byte h.ok i _ hi] at h2
    simp only [List.length_set]
    exact h2
  rw' := h.rw'.other h.gA _
  fb := h.fb
  fg := h.fg
  fA := h.fA
  lt := fun j hj => by rw [setCell_size]; exact h.lt j hj
theorem Dk.Ok.blkset {s : Dk} (h : s.Ok) (i : Nat) (ys : List Int) (hy : IsBlk ys) : Dk.Ok { s with blk := s.blk.set i ys } := by
  refine ⟨by simp only [List.length_set]; exact h.n1, by simp only [List.length_set]; exact h.n2, by simp only [List.length_set]; exact h.nb, fun j hj => ?_, fun q hq => by simp only [List.length_set]; exact h.wts q hq, h.f0, h.f1⟩
  simp only [List.length_set] at hj
  show IsBlk ((s.blk.set i ys).getD j [])
  rw [getD_setL _ _ _ _ _ hj]
  split
  · exact hy
  · exact h.blks j hj

end Go.Proofs.Ytilmicekpclmbaa
namespace Go.Proofs.Ytilmicekpclmbaa
set_option linter.unusedVariables false
set_option linter.unusedSimpArgs false
open Go.RowKit

set_option maxRecDepth 100000 in
set_option maxHeartbeats 2000000 in
theorem refuse_any (F : Nat → Prop) (b : Nat) (s : Dk) (g cb : Nat) (A : Option Addr) (c : Nat) (i : Int) (n cn : Nat) (B : Option Addr) (w : World) (h : Lay w F b s g cb A c) (h0 : -9223372036854775808 ≤ i) (h1 : i ≤ 9223372036854775807) (hn : n ≤ maxLen) (hi : i < 0 ∨ s.blk.length ≤ i ∨ n ≠ 128) :
    Calls Try.prog 45 #[.pointer (some ⟨b, 0, none⟩), .int .i64 i, .slice B n cn] w fun e w' => e = .returned (.int .i64 1) ∧ w' = w := by
  unfold maxLen at hn
  have c0 : w.cell? ⟨b, 0, none⟩ = some (.slice (some ⟨g, 0, none⟩) s.blk.length cb) := h.st.cell 0
  have HS := Lib.hid (has_any w b s.blk.length _ cb i c0 h.ok.n2 h0 h1)
  have n2 := h.ok.n2
  clear h
  generalize s.blk.length = m at *
  go_enter Try.func45, Try.ntmps45
  go_wp2_with fail
  refine HS.out.mono ?_
  rintro e w1 ⟨rfl, rfl⟩
  by_cases t0 : 0 ≤ i ∧ i < (m : Int)
  · have d0 : decide (0 ≤ i ∧ i < (m : Int)) = true := by simpa using t0
    rw [d0]
    have d1 : ((n : Int) != 128) = true := by simp; omega
    go_wp2
    go_ret
    exact ⟨rfl, rfl⟩
  · have d0 : decide (0 ≤ i ∧ i < (m : Int)) = false := by simpa using t0
    rw [d0]
    go_wp2
    go_ret
    exact ⟨rfl, rfl⟩

theorem array_at (a : Addr) (cn : Nat) (w : World) : (Instr.arrayAt 115 (.slice (some a) 128 cn)).run Try.prog w = .ok (.pointer (some a)) w := by
  simp [Instr.arrayAt, run_underlying Try.underlying115]
theorem Try.info_write : (Try.prog.info? 117).map (fun i => (i.zero, i.size, i.bytes)) = some (some (.agg (Value.int .i64 0 :: vals (zeros 128)).toArray), 129, 136) := by kernel_rfl
theorem zero_write_run' : ∃ Z : Array Value, (∀ w, (zeroValue 117).run Try.prog w = .ok (.agg Z) w) ∧ Z.size = 129 ∧ (¬ Z = #[]) ∧ (∃ j0, Try.prog.info? 117 = some j0 ∧ j0.zero = some (.agg Z) ∧ j0.size = 129 ∧ j0.bytes = 136) ∧ ∀ (x : Int) (D : List Value), D.length = 128 → List.foldl (fun (cs : Array Value) (y : Value × Nat) => cs.setIfInBounds (1 + y.2) y.1) (Z.setIfInBounds 0 (.int .i64 x)) D.zipIdx = (Value.int .i64 x :: D).toArray := by
  obtain ⟨j0, h1, h2, h3, h4⟩ := info_parts Try.info_write
  exact ⟨_, (zero_of_info Try.zero_write').1, by simp [vals_length, zeros_length], by simp, ⟨j0, h1, h2, h3, h4⟩, fun x D hD => by
    rw [fill_fold1, Array.toList_setIfInBounds, List.toList_toArray]
    have e := putAll_mid D [Value.int .i64 x] (vals (zeros 128)) [] (by rw [hD, vals_length, zeros_length])
    rw [List.append_nil, List.append_nil] at e
    exact congrArg List.toArray e⟩
theorem fold_whole (V : List Value) (n : Nat) (hV : V.length = n) (Y : Array Value) (h : Y.size = n) : List.foldl (fun (cs : Array Value) (x : Value × Nat) => cs.setIfInBounds x.2 x.1) Y V.zipIdx = V.toArray := by
  rw [fill_fold, putAll_whole _ _ (by rw [hV, Array.length_toList, h])]
/-- A load of a whole block, by its own name. -/
def loadArr (p : Value) : Sem Value := Instr.loadAt 115 p
theorem loadArr_eq (p : Value) : Instr.loadAt 115 p = loadArr p := rfl
attribute [local go_sem ↓] loadArr_eq
theorem RowN.alloc {w : World} {base : Nat} {e : TypeId} {z : Nat} {A : Option Addr} {n c : Nat} {xs : List Value} (h : RowN w base e z A n c xs) (o : Obj) : RowN (w.alloc o) base e z A n c xs := h.same (fun a ha => Below.heap_alloc _ _ _ (h.lt a ha).2)
theorem Keep.grownF {F : Nat → Prop} {w w' w'' : World} {row : Option Nat} (h : Keep F w w') (hg : w'.grownBy w'' row) (hr : ∀ k, row = some k → F k) : Keep F w w'' :=
  ⟨hg.os.trans h.os, hg.tape.trans h.tape, hg.output.trans h.output, Nat.le_trans h.size hg.size, fun k hk hn => by
    rw [hg.block k (by have := h.size; omega) (fun e => hn (hr k e.symm)), h.block k hk hn]⟩
theorem own_block {A : Option Addr} {q c k : Nat} (e : (Value.slice A q c).ownBlock = some k) : ∃ a, A = some a ∧ a.block = k := by
  cases A with
  | none => cases e
  | some a =>
    have e : some a.block = some k := e
    injection e with e
    exact ⟨a, rfl, e⟩
/-- One write more waits. -/
theorem Lay.more {w w2 : World} {F : Nat → Prop} {b : Nat} {s : Dk} {g cb : Nat} {A : Option Addr} {c gn cn : Nat} (h : Lay w F b s g cb A c) (i : Nat) (xs : List Int) (o : Obj) (ok : Dk.Ok { s with wt := s.wt ++ [(i, xs)], wrote := s.wrote + 1 })
    (hown : RowN w2 0 117 129 (some ⟨gn, 0, none⟩) (s.wt.length + 1) cn ((wl s.wt).flatten ++ wrow (i, xs))) (hgrow : (w.alloc o).drew.grownBy w2 (Value.slice A s.wt.length c).ownBlock) (hat : (Value.slice A s.wt.length c).ownBlock = some gn ∨ gn = w.heap.size + 1) (hlt : gn < w2.heap.size) :
    Step F b { s with wt := s.wt ++ [(i, xs)], wrote := s.wrote + 1 } w ((w2.setCell ⟨b, 1, none⟩ (.slice (some ⟨gn, 0, none⟩) (s.wt.length + 1) cn)).setCell ⟨b, 4, none⟩ (.int .i64 ((s.wrote : Int) + 1))) := by
  have hs : w.heap.size + 1 ≤ w2.heap.size := by have := hgrow.size; simpa using this
  have st2 : Arr w2 b 69 (dkCells s g cb A c) := (h.st.alloc o).grown (w := (w.alloc o).drew) hgrow (fun e => by obtain ⟨a, e1, e2⟩ := own_block e; exact h.bA a e1 e2)
  have rb2 : RowN w2 0 130 129 (some ⟨g, 0, none⟩) s.blk.length cb (bl s).flatten := (h.rb.alloc o).same (fun a ha => by
    injection ha with ha
    subst ha
    exact grown_heap hgrow (by have h9 : g < w.heap.size := (h.rb.lt _ rfl).2; simp; omega) (fun e => by obtain ⟨a, e1, e2⟩ := own_block e; exact h.gA a e1 e2))
  have nb : gn ≠ b := hown.ne st2 (by decide) _ rfl
  have k2 : Keep F w w2 := ((Keep.refl F w).alloc o).drew.grownF hgrow (fun k e => by obtain ⟨a, e1, e2⟩ := own_block e; rw [← e2]; exact h.fA a e1)
  refine ⟨fun k => F k ∨ k = gn, ⟨g, cb, some ⟨gn, 0, none⟩, cn, ?_⟩, (k2.setCell (a := ⟨b, 1, none⟩) h.fb _).setCell (a := ⟨b, 4, none⟩) h.fb _, fun k hk => ?_⟩
  · refine ⟨ok, ?_, ?_, ?_, Or.inl h.fb, Or.inl h.fg, fun a ha => ?_, fun k hk => ?_⟩
    · have := (st2.set 1 (.slice (some ⟨gn, 0, none⟩) (s.wt.length + 1) cn)).set 4 (.int .i64 ((s.wrote : Int) + 1))
      have e : dkCells { s with wt := s.wt ++ [(i, xs)], wrote := s.wrote + 1 } g cb (some ⟨gn, 0, none⟩) cn = ((dkCells s g cb A c).set 1 (.slice (some ⟨gn, 0, none⟩) (s.wt.length + 1) cn)).set 4 (.int .i64 ((s.wrote : Int) + 1)) := by
        unfold dkCells
        simp only [List.length_append, List.length_cons, List.length_nil, List.set, Int.natCast_add]
        rfl
      rw [e]
      exact this
    · exact (rb2.other (fun a ha => by injection ha with ha; subst ha; exact h.bg) _).other (fun a ha => by injection ha with ha; subst ha; exact h.bg) _
    · have e : (wl (s.wt ++ [(i, xs)])).flatten = (wl s.wt).flatten ++ wrow (i, xs) := by unfold wl; rw [List.map_append, List.flatten_append]; simp
      show RowN _ _ _ _ _ (s.wt ++ [(i, xs)]).length _ (wl (s.wt ++ [(i, xs)])).flatten
      rw [e, List.length_append]
      exact (hown.other (fun a ha => by injection ha with ha; subst ha; exact nb) _).other (fun a ha => by injection ha with ha; subst ha; exact nb) _
    · injection ha with ha; subst ha; exact Or.inr rfl
    · rw [setCell_size, setCell_size]
      rcases hk with hk | hk
      · have := h.lt k hk; omega
      · rw [hk]; exact hlt
  · rcases hk with hk | hk
    · exact Or.inl hk
    · subst hk
      rcases hat with e | e
      · obtain ⟨a, e1, e2⟩ := own_block e
        exact Or.inl (by rw [← e2]; exact h.fA a e1)
      · exact Or.inr (by omega)
set_option maxRecDepth 100000 in
set_option maxHeartbeats 4000000 in
theorem write_any (F : Nat → Prop) (b : Nat) (s : Dk) (g cb : Nat) (A : Option Addr) (c : Nat) (i cn N : Nat) (B : Option Addr) (xs : List Int) (w : World) (h : Lay w F b s g cb A c) (hi : i < s.blk.length) (hx : IsBlk xs) (hr : RdB w N B xs) (hN : N ≤ w.heap.size) (hA : ∀ a, B = some a → ¬ F a.block) (hw : s.wt.length ≤ 1000000) (hv : s.wrote ≤ 1000000000000) :
    Calls Try.prog 45 #[.pointer (some ⟨b, 0, none⟩), .int .i64 i, .slice B 128 cn] w fun e w' => e = .returned (.int .i64 s.says) ∧ Step F b (s.write i xs) w w' := by
  have c0 : w.cell? ⟨b, 0, none⟩ = some (.slice (some ⟨g, 0, none⟩) s.blk.length cb) := h.st.cell 0
  have HS := Lib.hid (has_any w b s.blk.length _ cb (i : Int) c0 h.ok.n2 (by omega) (by have := h.ok.n2; omega))
  have d0 : decide (0 ≤ (i : Int) ∧ (i : Int) < (s.blk.length : Int)) = true := by rw [decide_eq_true_eq]; omega
  rw [d0] at HS
  have rg := goes_any F b s g cb A c w h
  have H := Lib.hid h; have HX := Lib.hid hx; have HRD := Lib.hid hr; have RG := Lib.hid rg; have HA := Lib.hid hA; have HI := Lib.hid hi
  clear h hx hr rg hA d0 c0
  have n2 := H.out.ok.n2
  go_enter Try.func45, Try.ntmps45
  go_wp2_with fail
  refine HS.out.mono ?_
  rintro e w0 ⟨rfl, rfl⟩
  go_wp2_with fail
  refine RG.out.mono ?_
  rintro e w1 ⟨rfl, h1, k1⟩
  have H1 := Lib.hid h1; have K1 := Lib.hid k1
  clear h1 k1
  cases hg : s.goes
  · have HG := Lib.hid hg
    have E1 : Hid (s.asked = s.write i xs) := Lib.hid (by rw [Dk.asked_no HG.out]; unfold Dk.write; rw [if_neg (by rw [HG.out]; decide)])
    have E2 : Hid (s.says = 7) := Lib.hid (by unfold Dk.says; rw [if_neg (by rw [HG.out]; decide)])
    clear hg
    go_wp2
    go_ret
    refine ⟨by rw [E2.out]; rfl, F, ⟨g, cb, A, c, ?_⟩, K1.out, Sub.refl _ _⟩
    have := H1.out
    rw [E1.out] at this
    exact this
  · have HG := Lib.hid hg
    have E2 : Hid (s.says = 0) := Lib.hid (by unfold Dk.says; rw [if_pos HG.out])
    have E3 : Hid (s.write i xs = { s.burn with wt := s.wt ++ [(i, xs)], wrote := s.wrote + 1 }) := Lib.hid (by unfold Dk.write; rw [if_pos HG.out])
    have H2 : Hid (Lay w1 F b s.burn g cb A c) := Lib.hid (by have := H1.out; rw [Dk.asked_yes HG.out] at this; exact this)
    clear hg H1
    have rb := K1.out.rdF HRD.out hN HA.out
    have b9 : ∃ b9 o9, B = some ⟨b9, o9, none⟩ ∧ w1.rangeAt b9 o9 (vals xs) := by
      obtain ⟨b9, o9, e, _⟩ := rb 0 (by rw [HX.out.1]; decide)
      refine ⟨b9, o9, e, fun j v hv => ?_⟩
      subst e
      have := rb.news j v hv
      rw [Addr.add_mid] at this
      exact this
    obtain ⟨b9, o9, rfl, hr9⟩ := b9
    clear rb
    have c1 : w1.cell? ⟨b, 1, none⟩ = some (.slice A s.wt.length c) := H2.out.st.cell 1
    have z1 := H2.out.st.frozen 1
    have hbl := H2.out.st.lt
    have hu := Try.underlying115
    have hl : (vals xs).length = 128 := by rw [vals_length]; exact HX.out.1
    have hi' : (Try.prog.info? 115).map (·.size) = some (vals xs).length := by rw [hl]; exact Try.size_arr
    obtain ⟨D, hD⟩ : ∃ D, vals xs = D := ⟨_, rfl⟩
    have HD := Lib.hid hD
    rw [hD] at hl hi' hr9
    clear hD
    generalize hmm : s.wt.length = q at *
    have HQ := Lib.hid hmm
    clear hmm
    have aa := fun w' => array_at ⟨b9, o9, none⟩ cn w'
    obtain ⟨Z, hz, hzs, hzn, ⟨j0, hj0, hz0, hz1, hz2⟩, hzf⟩ := zero_write_run'
    have hzf1 := hzf (i : Int) D hl
    clear hzf
    have VL : Hid ((Value.int .i64 (i : Int) :: D).length = 129) := Lib.hid (by simp [hl])
    have VO : Hid (∀ u, u ∈ (Value.int .i64 (i : Int) :: D) → u.oneCell' = true) := Lib.hid (fun u hu => by
      rcases List.mem_cons.1 hu with rfl | hu
      · rfl
      · rw [← HD.out] at hu; exact vals_one _ u hu)
    have VW : Hid (Value.int .i64 (i : Int) :: D = wrow (i, xs)) := Lib.hid (by unfold wrow; rw [HD.out])
    generalize (Value.int .i64 (i : Int) :: D) = V at *
    have hvl := VL.out
    have hfv := fun Y hY => fold_whole V 129 VL.out Y hY
    have ld : (loadArr (.pointer (some ⟨b9, o9, none⟩))).run Try.prog w1.drew = .ok (.agg D.toArray) w1.drew := run_loadAt_mid (P := Try.prog) w1.drew b9 o9 115 D _ (by simpa using hr9) hu rfl hi'
    have OW : Hid ((w1.alloc (.cells V.toArray 117)).drew.ownsRow 0 117 129 (.slice A q c) q (wl s.wt).flatten) := Lib.hid (by
      have := H2.out.rw'.alloc (.cells V.toArray 117)
      have e : s.burn.wt = s.wt := rfl
      rw [e, HQ.out] at this
      exact this)
    have NB : Hid ((w1.alloc (.cells V.toArray 117)).drew.heap[w1.heap.size]? = some (.cells V.toArray 117 (0, 0))) := Lib.hid (heap_alloc_new w1 _)
    have y1 : (w1.alloc (.cells V.toArray 117)).drew.cell? ⟨b, 1, none⟩ = some (.slice A q c) := (World.cell?_alloc_lt _ _ _ hbl).trans c1
    have z1' : (w1.alloc (.cells V.toArray 117)).drew.frozen? ⟨b, 1, none⟩ = false := (H2.out.st.alloc _).frozen 1
    have Y1 := Lib.hid y1; have Z1 := Lib.hid z1'
    have NE : Hid (some b ≠ (Value.slice A q c).ownBlock) := Lib.hid (fun e => by obtain ⟨a, e1, e2⟩ := own_block e.symm; exact H2.out.bA a e1 e2)
    clear y1 z1'
    go_wp2_with fail
    go_region_law ((refine step_append_lies _ (by rfl) _ _ _ (by rfl) 0 117 j0 _ 129 136 Try.underlying67 hj0 hz0 hz1 hz2 hzs (by decide) (.slice A q c) q (wl s.wt).flatten (by rfl) OW.out ⟨w1.heap.size, 0, none⟩ 1 1 V (by rfl) VL.out (World.news_of_block (cs := V.toArray) (t := 117) (fr := (0, 0)) NB.out) VO.out (by decide) (by unfold maxLen; omega) (by omega) (by simp) (w1.heap.size + 1) (by simp) ?_; intro gn cn' w2 hown1 hgrow hat hlt'; have fz1 : w2.frozen? ⟨b, 1, none⟩ = false := (hgrow.frozen_far _ (by simp; omega) NE.out).trans Z1.out; have yz1 : w2.cell? ⟨b, 1, none⟩ = some (.slice A q c) := (hgrow.cell_far _ (by simp; omega) NE.out).trans Y1.out))
    all_goals
      have st3 : Arr w2 b 69 (dkCells s.burn g cb A c) := (H2.out.st.alloc _).grown (w := (w1.alloc (.cells V.toArray 117)).drew) hgrow (fun e => NE.out e.symm)
      have y4 : w2.cell? ⟨b, 4, none⟩ = some (.int .i64 (s.wrote : Int)) := st3.cell 4
      have z4 := st3.frozen 4
      have MR : Hid (Step F b { s.burn with wt := s.wt ++ [(i, xs)], wrote := s.wrote + 1 } w1 ((w2.setCell ⟨b, 1, none⟩ (.slice (some ⟨gn, 0, none⟩) (q + 1) cn')).setCell ⟨b, 4, none⟩ (.int .i64 ((s.wrote : Int) + 1)))) := Lib.hid (by
        have OKW := H.out.ok.write i xs HI.out HX.out
        rw [E3.out] at OKW
        rw [VW.out] at hown1
        have := H2.out.more (gn := gn) (cn := cn') (w2 := w2) i xs (.cells V.toArray 117) OKW (by have e : s.burn.wt = s.wt := rfl; rw [e, HQ.out]; exact hown1) (by have e : s.burn.wt = s.wt := rfl; rw [e, HQ.out]; exact hgrow) (by have e : s.burn.wt = s.wt := rfl; rw [e, HQ.out]; exact hat) hlt'
        have e : s.burn.wt = s.wt := rfl
        rw [e, HQ.out] at this
        exact this)
      clear st3 hown1 hgrow hat fz1 yz1
      generalize hwr : s.wrote = wr at *
      go_wp2
      go_ret
      refine ⟨by rw [E2.out]; rfl, ?_⟩
      rw [E3.out]
      exact Step.on K1.out (Sub.refl _ _) MR.out
end Go.Proofs.Ytilmicekpclmbaa
namespace Go.Proofs.Ytilmicekpclmbaa
set_option linter.unusedVariables false
set_option linter.unusedSimpArgs false
open Go.RowKit

theorem bl_new (n : Nat) : bl (Dk.new n) = List.replicate n (vals (fillB 0) ++ [Value.bool false]) := by
  unfold bl Dk.new
  apply List.ext_getElem?
  intro k
  rw [List.getElem?_zipWith, List.getElem?_replicate, List.getElem?_replicate, List.getElem?_replicate]
  by_cases h : k < n
  · rw [if_pos h, if_pos h, if_pos h]
  · rw [if_neg h, if_neg h, if_neg h]
theorem made_flat (x : List Value) (n : Nat) (hx : x.length = 129) : (madeCells x.toArray (n * 129)).toList = (List.replicate n x).flatten := by
  have hE : Even 129 (List.replicate n x) := fun l hl => by rw [List.mem_replicate] at hl; rw [hl.2]; exact hx
  apply List.ext_getElem?
  intro j
  by_cases hj : j < n * 129
  · have h1 : j / 129 < n := by omega
    have h2 : j / 129 * 129 + j % 129 = j := by omega
    have h3 := hE.at (j / 129) (j % 129) (by rw [List.length_replicate]; exact h1) (Nat.mod_lt _ (by decide))
    rw [h2] at h3
    rw [h3]
    have e : (List.replicate n x).getD (j / 129) [] = x := by rw [List.getD_eq_getElem?_getD, List.getElem?_replicate, if_pos h1]; rfl
    rw [e]
    unfold madeCells
    have h4 : j % 129 < x.length := by rw [hx]; exact Nat.mod_lt _ (by decide)
    simp [hj, hx, h4, List.getElem?_eq_getElem h4]
  · rw [List.getElem?_eq_none (l := (List.replicate n x).flatten) (by rw [Even.len hE, List.length_replicate]; omega)]
    apply List.getElem?_eq_none
    unfold madeCells
    simp
    omega
theorem Try.info_block : (Try.prog.info? 130).map (fun i => (i.zero, i.size, i.bytes)) = some (some (.agg (vals (fillB 0) ++ [Value.bool false]).toArray), 129, 129) := by kernel_rfl

set_option maxRecDepth 100000 in
set_option maxHeartbeats 2000000 in
theorem disk_new (n : Nat) (h1 : 1 ≤ n) (h2 : n ≤ 512) (w : World) : Calls Try.prog 7 #[.int .i64 n] w fun e w' => ∃ b F, e = .returned (.pointer (some ⟨b, 0, none⟩)) ∧ DiskAt w' F b (Dk.new n) ∧ (∀ k, F k → w.heap.size ≤ k) ∧ Below w.heap.size w w' := by
  have d1 : decide ((n : Int) < 1) = false := by rw [decide_eq_false_iff_not]; omega
  have d2 : decide ((n : Int) > 512) = false := by rw [decide_eq_false_iff_not]; omega
  have d3 : decide ((512 : Int) < (n : Int)) = false := by rw [decide_eq_false_iff_not]; omega
  obtain ⟨j0, hj0, hz0, hz1, hz2⟩ := info_parts Try.info_block
  have HJ := Lib.hid hj0; have HZ0 := Lib.hid hz0; have HZ1 := Lib.hid hz1; have HZ2 := Lib.hid hz2
  clear hj0 hz0 hz1 hz2
  go_enter Try.func7, Try.ntmps7
  go_wp2_with (with_reducible refine wpList_make_full w rfl _ _ 66 rfl w.heap.size 130 j0 _ 129 Try.underlying66 HJ.out HZ0.out HZ1.out .i64 .i64 n n n rfl rfl rfl rfl (by rw [HZ2.out]; omega) (by unfold maxLen; omega) (Nat.le_refl _) ?_)
  intro w1 ho hg
  have e0 : (madeCells (vals (fillB 0) ++ [Value.bool false]).toArray (n * 129)).toList = (bl (Dk.new n)).flatten := by rw [bl_new]; exact made_flat _ n (by rw [List.length_append, vals_length, fillB_length]; rfl)
  have ho' : RowN w1 0 130 129 (some ⟨w.heap.size, 0, none⟩) n n (bl (Dk.new n)).flatten := by
    rw [← e0]
    have : RowN w1 w.heap.size 130 129 (some ⟨w.heap.size, 0, none⟩) n n _ := ho
    exact this.weak (fun _ _ => Nat.zero_le _)
  have HO := Lib.hid ho'; have b1 : Below w.heap.size w w1 := Below.grown (Below.refl _ _) hg (Nat.le_refl _) (fun k hk => by cases hk)
  have B1 := Lib.hid b1
  have s1 := (ho'.lt _ rfl).2
  have s1 : w.heap.size < w1.heap.size := s1
  clear ho ho' hg e0 b1
  go_wp2
  go_ret
  refine ⟨w1.heap.size, rfl, fun k => k = w.heap.size ∨ k = w1.heap.size, ⟨w.heap.size, n, none, 0, ?_⟩, fun k (hk : k = w.heap.size ∨ k = w1.heap.size) => by omega, B1.out.alloc (by omega) _⟩
  have ln : (Dk.new n).blk.length = n := by unfold Dk.new; simp
  refine ⟨Dk.Ok.new h1 h2, ?_, ?_, RowN.nil _ _ _ _, Or.inr rfl, Or.inl rfl, fun a ha => (by cases ha), fun k (hk : k = w.heap.size ∨ k = w1.heap.size) => by simp; omega⟩
  · have := Arr.new w1 69 [.slice (some ⟨w.heap.size, 0, none⟩) n n, .slice none 0 0, .int .i64 (-1), .bool false, .int .i64 0]
    have e : dkCells (Dk.new n) w.heap.size n none 0 = [.slice (some ⟨w.heap.size, 0, none⟩) n n, .slice none 0 0, .int .i64 (-1), .bool false, .int .i64 0] := by
      unfold dkCells
      rw [ln]
      rfl
    rw [e]
    exact this
  · rw [ln]
    exact HO.out.alloc _
theorem disk_none (n : Int) (h0 : -9223372036854775808 ≤ n) (h1 : n ≤ 9223372036854775807) (h : n < 1 ∨ 512 < n) (w : World) : Calls Try.prog 7 #[.int .i64 n] w fun e w' => e = .returned (.pointer none) ∧ Below w.heap.size w w' := by
  go_enter Try.func7, Try.ntmps7
  by_cases t1 : n < 1
  · have d1 : decide (n < 1) = true := by simpa using t1
    go_wp2
    go_ret
    exact ⟨rfl, Below.refl _ _⟩
  · have d1 : decide (n < 1) = false := by simpa using t1
    have d2 : decide (512 < n) = true := by rw [decide_eq_true_eq]; omega
    have d3 : decide (n > 512) = true := by rw [decide_eq_true_eq]; omega
    go_wp2
    go_ret
    exact ⟨rfl, Below.refl _ _⟩
end Go.Proofs.Ytilmicekpclmbaa
