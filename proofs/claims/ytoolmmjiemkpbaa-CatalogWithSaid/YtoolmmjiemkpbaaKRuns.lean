/-
  The walk of the statement CatalogRuns: the call returns true; nothing that was in memory turns.
-/
import Derived.Test.YtoolmmjiemkpbaaZ1
import Derived.Test.YtoolmmjiemkpbaaCPh
import Derived.Test.YtoolmmjiemkpbaaCKeep
namespace Go.Proofs.Ytoolmmjiemkpbaa
set_option linter.unusedVariables false
set_option linter.unusedSimpArgs false
set_option maxRecDepth 100000
open Go.RowKit

def runC : Ct := ⟨2, 0, 0, false, ⟨1, 9, 2, 3⟩, [⟨5, 130, 7, 1⟩]⟩
theorem runC_ok : runC.Ok := ⟨⟨by decide, by decide⟩, ⟨by decide, by decide⟩, ⟨by decide, by decide⟩, ⟨⟨by decide, by decide⟩, ⟨by decide, by decide⟩, ⟨by decide, by decide⟩, ⟨by decide, by decide⟩⟩⟩
theorem runC_right : runC.Right := by
  refine ⟨by decide, by decide, by decide, fun _ => rfl, Or.inr ⟨by decide, by decide, by decide, by decide, by decide⟩, by decide, fun i hi => ?_, fun i hi => ?_⟩
  · have hi : i < 1 := hi
    obtain rfl : i = 0 := by omega
    exact ⟨by decide, by decide, by decide, by decide, by decide⟩
  · have hi : i + 1 < 1 := hi
    omega
theorem got_leaf {c : Ct} (h : c.Right) : gotC c.leaf = c ∧ gotK c.leaf = true := by
  unfold gotC gotK
  rw [getCt_leaf h]
  exact ⟨rfl, rfl⟩
theorem runC_with : withF runC.files [⟨3, 131, 8, 1⟩] [5] = [⟨3, 131, 8, 1⟩] := by decide +kernel
def runF : Fl := ⟨3, 131, 8, 1⟩
theorem runF_ok : runF.Ok := ⟨⟨by decide, by decide⟩, ⟨by decide, by decide⟩, ⟨by decide, by decide⟩, ⟨by decide, by decide⟩⟩
theorem flR_one (w : World) (f : Fl) (hf : f.Ok) : FlR (w.alloc (.cells #[.int .i64 f.name, .int .i64 f.file, .int .i64 f.first, .int .i64 f.blocks] 33)) (w.heap.size + 1) (some ⟨w.heap.size, 0, none⟩) [f] := fun i hi => by
  have hi : i < 1 := hi
  obtain rfl : i = 0 := by omega
  have h := FlV.new w f
  obtain ⟨h0, h1, h2, h3⟩ := h.cells
  exact ⟨w.heap.size, 0, rfl, by omega, h0, h1, h2, h3, hf⟩
theorem ir_one (w : World) (x : Int) (hx : I64x x) : IR (w.alloc (.cells #[.int .i64 x] 3)) (w.heap.size + 1) (some ⟨w.heap.size, 0, none⟩) [x] := fun i hi => by
  have hi : i < 1 := hi
  obtain rfl : i = 0 := by omega
  exact ⟨w.heap.size, 0, rfl, by omega, cell_of_row _ _ _ _ _ _ (heap_alloc_new w _), hx⟩
theorem alloc_size (w : World) (o : Obj) : (w.alloc o).heap.size = w.heap.size + 1 := by simp
theorem below_alloc (w : World) (o : Obj) : Below w.heap.size w (w.alloc o) := (Below.refl _ _).alloc (Nat.le_refl _) _
set_option maxHeartbeats 4000000 in
theorem kruns_any (w : World) : Calls Try.prog 12 #[] w fun e w' => e = .returned (.bool true) ∧ Below w.heap.size w w' := by
  go_enter Try.func12, Try.ntmps12
  go_upto_region 2 with fail
  obtain ⟨W1, hW1⟩ : ∃ W1, W1 = w.alloc (.cells #[.int .i64 5, .int .i64 130, .int .i64 7, .int .i64 1] 33) := ⟨_, rfl⟩
  obtain ⟨W2, hW2⟩ : ∃ W2, W2 = W1.alloc (.cells (ctv runC (some ⟨w.heap.size, 0, none⟩) 1 1).toArray 27) := ⟨_, rfl⟩
  have hs1 : W1.heap.size = w.heap.size + 1 := by rw [hW1]; exact alloc_size _ _
  have hs2 : W2.heap.size = w.heap.size + 2 := by rw [hW2, alloc_size, hs1]
  have B2 : Hid (Below w.heap.size w W2) := Lib.hid (by rw [hW2, hW1]; exact bstep (below_alloc _ _) (below_alloc _ _))
  have C2 : Hid (CtAt W2 (w.heap.size + 1) runC (some ⟨w.heap.size, 0, none⟩) 1 1) := Lib.hid (by rw [hW2, ← hs1]; exact Arr.new W1 _ _)
  have F2 : Hid (FlR W2 (w.heap.size + 1) (some ⟨w.heap.size, 0, none⟩) runC.files) := Lib.hid (by
    have h := flR_one w ⟨5, 130, 7, 1⟩ ⟨⟨by decide, by decide⟩, ⟨by decide, by decide⟩, ⟨by decide, by decide⟩, ⟨by decide, by decide⟩⟩
    have e : W1 = w.alloc (.cells #[.int .i64 5, .int .i64 130, .int .i64 7, .int .i64 1] 33) := hW1
    rw [hW2]
    refine FlR.below ?_ (by rw [← hs1]; exact below_alloc _ _)
    rw [e]
    exact h)
  have eW : (w.alloc (.cells #[.int .i64 5, .int .i64 130, .int .i64 7, .int .i64 1] 33)).alloc (.cells #[.int .i64 2, .int .i64 0, .int .i64 0, .bool false, .int .i64 1, .int .i64 9, .int .i64 2, .int .i64 3, .slice (some ⟨w.heap.size, 0, none⟩) 1 1] 27) = W2 := by rw [hW2, hW1]; rfl
  rw [eW]
  clear eW hW2 hW1 hs1
  obtain ⟨f0, hf0⟩ : ∃ f0, f0 = w.heap.size := ⟨_, rfl⟩
  obtain ⟨b, hb⟩ : ∃ b, b = w.heap.size + 1 := ⟨_, rfl⟩
  rw [← hb, ← hf0] at C2
  rw [← hb, ← hf0] at F2
  rw [← hb]
  have hbw : w.heap.size ≤ b := by omega
  have hfb : f0 < b := by omega
  have hb2 : b < W2.heap.size := by omega
  have PC := Lib.hid (put_cat runC runC_ok b (some ⟨f0, 0, none⟩) 1 1 W2 rfl (by decide) F2.out (by omega))
  unfold PutC at PC
  obtain ⟨L, hL⟩ : ∃ L, runC.putL = L := ⟨_, rfl⟩
  rw [hL] at PC
  have hL' : L = runC.leaf := by rw [← hL, Ct.putL_yes runC_right]
  have LOK : Hid L.Ok := Lib.hid (by rw [hL']; exact Ct.leaf_ok runC_right)
  have LSZ : Hid (L.size = 24) := Lib.hid (by rw [hL']; rfl)
  have LKD : Hid (L.kind = 2) := Lib.hid (by rw [hL']; rfl)
  have LGC : Hid (gotC L = runC) := Lib.hid (by rw [hL']; exact (got_leaf runC_right).1)
  have LGK : Hid (gotK L = true) := Lib.hid (by rw [hL']; exact (got_leaf runC_right).2)
  clear hL hL'
  clear hs2 hf0 hb
  go_wp2_with (with_reducible refine load_ct rfl _ rfl b runC (some ⟨f0, 0, none⟩) 1 1 C2.out rfl ?_)
  refine PC.out.mono ?_
  rintro e w3 ⟨rfl, b3⟩
  have C3 := Lib.hid (C2.out.below b3)
  have F3 := Lib.hid (F2.out.below (b3.mono (by omega)))
  have B3 := Lib.hid (bstep B2.out b3)
  have hb3 : b < w3.heap.size := by have := b3.size; omega
  clear b3 C2 F2 B2 PC hb2
  go_wp2_with (with_reducible refine alloc_leaf rfl rfl ?_)
  intro w4 l4 b4 s4
  obtain ⟨p, hp⟩ : ∃ p, p = w3.heap.size := ⟨_, rfl⟩
  rw [← hp] at l4 ⊢
  have P4 := Lib.hid l4
  have C4 := Lib.hid (C3.out.below b4)
  have F4 := Lib.hid (F3.out.below (b4.mono (by omega)))
  have B4 := Lib.hid (bstep B3.out b4)
  have hpw : w.heap.size ≤ p := by have := B3.out.size; omega
  have hbp : b < p := by omega
  have hp4 : p < w4.heap.size := by omega
  clear l4 b4 s4 hp C3 F3 B3 hb3
  go_wp2_with (with_reducible refine store_leaf rfl _ _ rfl p Lf.zero L P4.out LOK.out rfl rfl ?_)
  intro w5 l5 k5 s5
  have P5 := Lib.hid l5
  have C5 := Lib.hid (C4.out.keep k5 (by omega))
  have F5 := Lib.hid (F4.out.keep k5 (by omega) (fun q hq => by omega))
  have B5 := Lib.hid (k5.below (fun k hk => by omega) B4.out B4.out.size)
  have hp5 : p < w5.heap.size := by omega
  clear l5 k5 s5 P4 C4 F4 B4 hp4
  have GC := Lib.hid (getc_any L LOK.out w5)
  unfold GetC at GC
  rw [LGC.out, LGK.out] at GC
  go_wp2_with (with_reducible refine load_leaf rfl _ rfl p L P5.out rfl ?_)
  refine GC.out.mono ?_
  rintro e w6 ⟨A6, n6, c6, rfl, o6, b6⟩
  have P6 := Lib.hid (P5.out.below b6)
  have C6 := Lib.hid (C5.out.below b6)
  have F6 := Lib.hid (F5.out.below (b6.mono (by omega)))
  have B6 := Lib.hid (bstep B5.out b6)
  have N6 : Hid (n6 = 1) := Lib.hid o6.2.1.symm
  have O6 := Lib.hid (o6.weak (base' := p) (fun a ha => by have := (o6.lt a ha).1; omega))
  have hp6 : p < w6.heap.size := by have := b6.size; omega
  clear b6 o6 P5 C5 F5 B5 GC hp5
  go_wp2_with (with_reducible refine alloc_ct rfl rfl ?_)
  intro w7 l7 b7 s7
  obtain ⟨d, hd⟩ : ∃ d, d = w6.heap.size := ⟨_, rfl⟩
  rw [← hd] at l7 ⊢
  have D7 := Lib.hid l7
  have P7 := Lib.hid (P6.out.below b7)
  have C7 := Lib.hid (C6.out.below b7)
  have F7 := Lib.hid (F6.out.below (b7.mono (by omega)))
  have O7 := Lib.hid (O6.out.below b7)
  have OD : Hid (∀ a, A6 = some a → a.block < d) := Lib.hid (fun a ha => by have := (O6.out.lt a ha).2; omega)
  have B7 := Lib.hid (bstep B6.out b7)
  have hpd : p < d := by omega
  have hd7 : d < w7.heap.size := by omega
  clear l7 b7 s7 hd P6 C6 F6 O6 B6 hp6
  go_wp2_with (with_reducible refine store_ct rfl _ _ rfl d Ct.zero runC none A6 0 n6 0 c6 D7.out rfl rfl ?_)
  intro w8 l8 k8 s8
  have D8 := Lib.hid l8
  have P8 := Lib.hid (P7.out.keep k8 (by omega))
  have C8 := Lib.hid (C7.out.keep k8 (by omega))
  have F8 := Lib.hid (F7.out.keep k8 (by omega) (fun q hq => by omega))
  have O8 := Lib.hid (O7.out.keep k8 (fun a ha e => by have := OD.out a ha; omega))
  have B8 := Lib.hid (k8.below (fun k hk => by omega) B7.out B7.out.size)
  have hd8 : d < w8.heap.size := by omega
  clear l8 k8 s8 D7 P7 C7 F7 O7 B7 hd7
  have b81 := Lib.hid (below_alloc w8 (.cells #[.int .i64 3, .int .i64 131, .int .i64 8, .int .i64 1] 33))
  have b82 := Lib.hid (below_alloc (w8.alloc (.cells #[.int .i64 3, .int .i64 131, .int .i64 8, .int .i64 1] 33)) (.cells #[.int .i64 5] 3))
  have b8 := Lib.hid (bstep b81.out b82.out)
  have WA : Hid (Calls Try.prog 9 #[.agg (ctv runC (some ⟨f0, 0, none⟩) 1 1).toArray, .slice (some ⟨w8.heap.size, 0, none⟩) 1 1, .slice (some ⟨w8.heap.size + 1, 0, none⟩) 1 1] ((w8.alloc (.cells #[.int .i64 3, .int .i64 131, .int .i64 8, .int .i64 1] 33)).alloc (.cells #[.int .i64 5] 3)) fun e w' => ∃ A' n' c', e = .returned (.agg (ctv { runC with files := [runF] } A' n' c').toArray) ∧ OwnF w' (w8.heap.size + 2) A' n' c' [runF] ∧ Below (w8.heap.size + 2) ((w8.alloc (.cells #[.int .i64 3, .int .i64 131, .int .i64 8, .int .i64 1] 33)).alloc (.cells #[.int .i64 5] 3)) w') := Lib.hid (by
    have s1 := alloc_size w8 (.cells #[.int .i64 3, .int .i64 131, .int .i64 8, .int .i64 1] 33)
    have s2 := alloc_size (w8.alloc (.cells #[.int .i64 3, .int .i64 131, .int .i64 8, .int .i64 1] 33)) (.cells #[.int .i64 5] 3)
    have h1 : FlR (w8.alloc (.cells #[.int .i64 3, .int .i64 131, .int .i64 8, .int .i64 1] 33)) (w8.heap.size + 1) (some ⟨w8.heap.size, 0, none⟩) [runF] := flR_one w8 runF runF_ok
    have h2 := h1.below (b82.out.mono (by rw [s1]; exact Nat.le_refl _))
    have h3 := F8.out.below (b8.out.mono (by omega))
    have h4 := ir_one (w8.alloc (.cells #[.int .i64 3, .int .i64 131, .int .i64 8, .int .i64 1] 33)) 5 ⟨by decide, by decide⟩
    rw [s1] at h4 s2
    have := with_any runC [runF] [5] (w8.heap.size + 2) (some ⟨f0, 0, none⟩) 1 1 (some ⟨w8.heap.size, 0, none⟩) 1 1 (some ⟨w8.heap.size + 1, 0, none⟩) 1 1 _ rfl rfl rfl (by decide) (by decide) (h3.more (by omega)) (h2.more (by omega)) (h4.more (by omega)) (by rw [s2]; exact Nat.le_refl _)
    have e : withF runC.files [runF] [5] = [runF] := runC_with
    rw [e] at this
    rw [s2] at this
    exact this)
  have s8 : Hid (((w8.alloc (.cells #[.int .i64 3, .int .i64 131, .int .i64 8, .int .i64 1] 33)).alloc (.cells #[.int .i64 5] 3)).heap.size = w8.heap.size + 2) := Lib.hid (by rw [alloc_size, alloc_size])
  go_wp2_with (with_reducible refine load_ct rfl _ rfl b runC (some ⟨f0, 0, none⟩) 1 1 C8.out rfl ?_)
  refine WA.out.mono ?_
  rintro e w9 ⟨A9, n9, c9, rfl, o9, b9⟩
  have b9' : Below w8.heap.size w8 w9 := b8.out.trans (b9.mono (by omega))
  have D9 := Lib.hid (D8.out.below b9')
  have P9 := Lib.hid (P8.out.below b9')
  have C9 := Lib.hid (C8.out.below b9')
  have F9 := Lib.hid (F8.out.below (b9'.mono (by omega)))
  have G9 := Lib.hid (O8.out.below b9')
  have O9 := Lib.hid (o9.weak (base' := d) (fun a ha => by have := (o9.lt a ha).1; omega))
  have N9 : Hid (n9 = 1) := Lib.hid o9.2.1.symm
  have B9 := Lib.hid (bstep B8.out b9')
  have hd9 : d < w9.heap.size := by have := b9'.size; omega
  clear o9 b9 b9' b8 b81 b82 WA s8 D8 P8 C8 F8 O8 B8 hd8
  go_wp2_with (with_reducible refine alloc_ct rfl rfl ?_)
  intro w10 l10 b10 s10
  obtain ⟨q, hq⟩ : ∃ q, q = w9.heap.size := ⟨_, rfl⟩
  rw [← hq] at l10 ⊢
  have Q10 := Lib.hid l10
  have D10 := Lib.hid (D9.out.below b10)
  have P10 := Lib.hid (P9.out.below b10)
  have C10 := Lib.hid (C9.out.below b10)
  have F10 := Lib.hid (F9.out.below (b10.mono (by omega)))
  have G10 := Lib.hid (G9.out.below b10)
  have O10 := Lib.hid (O9.out.below b10)
  have OQ : Hid (∀ a, A9 = some a → a.block < q) := Lib.hid (fun a ha => by have := (O9.out.lt a ha).2; omega)
  have GQ : Hid (∀ a, A6 = some a → a.block < q) := Lib.hid (fun a ha => by have := OD.out a ha; omega)
  have B10 := Lib.hid (bstep B9.out b10)
  have hdq : d < q := by omega
  have hq10 : q < w10.heap.size := by omega
  clear l10 b10 s10 hq D9 P9 C9 F9 G9 O9 B9 hd9
  go_wp2_with (with_reducible refine store_ct rfl _ _ rfl q Ct.zero { runC with files := [runF] } none A9 0 n9 0 c9 Q10.out rfl rfl ?_)
  intro w11 l11 k11 s11
  have Q11 := Lib.hid l11
  have D11 := Lib.hid (D10.out.keep k11 (by omega))
  have P11 := Lib.hid (P10.out.keep k11 (by omega))
  have C11 := Lib.hid (C10.out.keep k11 (by omega))
  have F11 := Lib.hid (F10.out.keep k11 (by omega) (fun q hq => by omega))
  have G11 := Lib.hid (G10.out.keep k11 (fun a ha e => by have := GQ.out a ha; omega))
  have O11 := Lib.hid (O10.out.keep k11 (fun a ha e => by have := OQ.out a ha; omega))
  have B11 := Lib.hid (k11.below (fun k hk => by omega) B10.out B10.out.size)
  have hq11 : q < w11.heap.size := by omega
  clear l11 k11 s11 Q10 D10 P10 C10 F10 G10 O10 B10 hq10
  have CK : Hid (Calls Try.prog 43 #[.agg (ctv runC (some ⟨f0, 0, none⟩) 1 1).toArray, .agg (ctv runC A6 n6 c6).toArray] w11 fun e w' => e = .returned (.bool true) ∧ Below w11.heap.size w11 w') := Lib.hid (by
    have := cats_any runC runC runC_ok runC_ok w11.heap.size (some ⟨f0, 0, none⟩) A6 1 n6 1 c6 w11 (by decide) (by rw [N6.out]; decide) rfl (by rw [N6.out]; rfl) (F11.out.more (by omega)) G11.out.reads (Nat.le_refl _)
    rw [decide_eq_true (rfl : runC = runC)] at this
    exact this)
  have v0 := P11.out.size
  have v1 := P11.out.kind
  rw [LSZ.out] at v0
  rw [LKD.out] at v1
  obtain ⟨k0, k1, k2, k3, k4, k5, k6, k7, k8⟩ := C11.out.cells
  obtain ⟨m0, m1, m2, m3, m4, m5, m6, m7, m8⟩ := D11.out.cells
  go_wp2_with fail
  refine CK.out.mono ?_
  rintro e w12 ⟨rfl, b12⟩
  have Q12 := Lib.hid (Q11.out.below b12)
  have C12 := Lib.hid (C11.out.below b12)
  have F12 := Lib.hid (F11.out.below (b12.mono (by omega)))
  have O12 := Lib.hid (O11.out.below b12)
  have B12 := Lib.hid (bstep B11.out b12)
  clear b12 CK v0 v1 Q11 C11 F11 O11 B11 D11 P11 G11 k0 k1 k2 k3 k4 k5 k6 k7 k8 m0 m1 m2 m3 m4 m5 m6 m7 m8
  obtain ⟨_, _, _, _, _, _, _, _, q8⟩ := Q12.out.cells
  obtain ⟨_, _, _, _, _, _, _, _, x8⟩ := C12.out.cells
  have n9 := N9.out
  subst n9
  obtain ⟨g9, e9, hgx⟩ := O12.out.1.at (by decide)
  subst e9
  clear hgx
  obtain ⟨y0, _⟩ := O12.out.cells4 0 (by decide)
  have y0 : w12.cell? ⟨g9, 0, none⟩ = some (.int .i64 3) := y0
  obtain ⟨_, _, e1, _, u0, _⟩ := F12.out 0 (by decide)
  injection e1 with e1
  injection e1 with e1 e2
  subst e1 e2
  have u0 : w12.cell? ⟨f0, 0, none⟩ = some (.int .i64 5) := u0
  go_wp2
  go_ret
  exact ⟨rfl, B12.out⟩
end Go.Proofs.Ytoolmmjiemkpbaa
